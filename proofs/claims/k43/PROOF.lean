import PyProof.Rows.All
import Wide.All
import OpenK.AllK
import Wide.FinOn
import Lean
import PyProof.EqAt
import PyProof.EqKinds
import PyProof.TupleCall
import KE.KDictLaws
import KE.KDictOf
import KE.KEqDict
import KE.BitLaws
import PyProof.ZipIter
import PyProof.Rows.ZipGen
import PyProof.Rows.StrSplitAre
import PyProof.ExcInit
import PyProof.ExcBaseAll.ValueError
import PyProof.PassesOwn
import PyProof.StationsW
import PyProof.InstStoreFacts
import PyProof.ExcAttrAll.ValueError
import PyProof.NsDelKeeps
import KE.KListMore
import PyProof.P3Eq
import PyProof.Rows.TupDisplay
import PyProof.StrLawsReplace
import PyProof.StrCalls6
import PyProof.Rows.StrStrike
import KE.IntTextText
import KE.KIntText
import PySem.Challenge.RW_stopglass_k43_copies_and_choices_held
set_option Elab.async false
set_option linter.all false
set_option maxRecDepth 100000
section
namespace Hd
open PySem PySem.W PyProof.Rows
lay_quick PySem.W.topFrom
noncomputable abbrev TQ := PySem.W.Fast.tw370005188180407882 PySem.W.Fast.tw14364793385576792824
noncomputable abbrev OQ := PySem.W.Fast.tw4187177175401517315
noncomputable abbrev tp : Program := PySem.Challenge.pw_stopglass_k43_copies_and_choices_held
abbrev lo : List Str := [PySem.Str.ofString "ATOM_PLACES", PySem.Str.ofString "FILLED_PLACES"]
def keeps : PySem.Stmt → Bool
 | .Assign [.Name x _] _ _ => !decide (x = "__name__")
 | _ => true
def viewOf (p : Program) : Program := { p with main := { p.main with body := p.main.body.filter keeps } }
abbrev Xf : Program → Shared → Bool := (fun p s => xlAt (viewOf p) [] s && recOk (RowW.records (OpenRow.toRowW (OpenLaw.row PySem.Challenge.rw_stopglass_k43_copies_and_choices_held))) s)
noncomputable def S0 (w : World) (os : OsState) : Shared := ⟨boot_heap w.params, Array.mk [], boot_drawn, boot_toks, os⟩
theorem ws : PySem.Challenge.rw_stopglass_k43_copies_and_choices_held.wellSaid = true := by kernel_rfl
section
local macro_rules | `(tactic| o_head $H) => `(tactic| (case Hk => exact $H))
noncomputable def hk : (H : Hook) ×' ((∀ P : Prop, P) → PySem.Challenge.rw_stopglass_k43_copies_and_choices_held.Holds) := by
 refine ⟨?Hk, fun h => ?m⟩
 rotate_left
 w_on; refine holds_law ws fun said => ?_; k_head; exact h _
end
theorem opt3 {σ α β γ : Type} {x : Option σ} {f : σ → α × β} {g : σ → γ} {a : α × β} {c : γ} (h1 : x.map (fun s => (f s).1) = some a.1) (h2 : x.map (fun s => (f s).2) = some a.2) (h3 : x.map g = some c) : x.map (fun s => (f s, g s)) = some (a, c) := by
 cases x with
 | none => cases h1
 | some s =>
  have e1 : (f s).1 = a.1 := Option.some.inj h1
  have e2 : (f s).2 = a.2 := Option.some.inj h2
  have e3 : g s = c := Option.some.inj h3
  show some (f s, g s) = some (a, c)
  rw [show f s = a from Prod.ext e1 e2, e3]
theorem r0a : ∀ (w : World) (os : OsState), (TQ tp (w.withFollow "special-get-raises" false) 20000 (S0 (w.withFollow "special-get-raises" false) os)).map (fun s => (OQ (viewOf tp) lo (importedModules tp.main.body) (Xf tp) true s).1) = some (openGood (viewOf tp) lo).1 := by
 intro w os; kernel_rfl
theorem r0b : ∀ (w : World) (os : OsState), (TQ tp (w.withFollow "special-get-raises" false) 20000 (S0 (w.withFollow "special-get-raises" false) os)).map (fun s => (OQ (viewOf tp) lo (importedModules tp.main.body) (Xf tp) true s).2) = some (openGood (viewOf tp) lo).2 := by
 intro w os; kernel_rfl
theorem r0c : ∀ (w : World) (os : OsState), (TQ tp (w.withFollow "special-get-raises" false) 20000 (S0 (w.withFollow "special-get-raises" false) os)).map (fun s => Hook.obs hk.1 s) = some (Hook.val hk.1 (w.withFollow "special-get-raises" false)) := by
 intro w os; kernel_rfl
theorem r0 : ∀ (w : World) (os : OsState), (TQ tp (w.withFollow "special-get-raises" false) 20000 (S0 (w.withFollow "special-get-raises" false) os)).map (fun s => (OQ (viewOf tp) lo (importedModules tp.main.body) (Xf tp) true s, Hook.obs hk.1 s)) = some (openGood (viewOf tp) lo, Hook.val hk.1 (w.withFollow "special-get-raises" false)) := fun w os => opt3 (r0a w os) (r0b w os) (r0c w os)
theorem r1a : ∀ (w : World) (os : OsState), (TQ tp (w.withFollow "special-get-raises" true) 20000 (S0 (w.withFollow "special-get-raises" true) os)).map (fun s => (OQ (viewOf tp) lo (importedModules tp.main.body) (Xf tp) true s).1) = some (openGood (viewOf tp) lo).1 := by
 intro w os; kernel_rfl
theorem r1b : ∀ (w : World) (os : OsState), (TQ tp (w.withFollow "special-get-raises" true) 20000 (S0 (w.withFollow "special-get-raises" true) os)).map (fun s => (OQ (viewOf tp) lo (importedModules tp.main.body) (Xf tp) true s).2) = some (openGood (viewOf tp) lo).2 := by
 intro w os; kernel_rfl
theorem r1c : ∀ (w : World) (os : OsState), (TQ tp (w.withFollow "special-get-raises" true) 20000 (S0 (w.withFollow "special-get-raises" true) os)).map (fun s => Hook.obs hk.1 s) = some (Hook.val hk.1 (w.withFollow "special-get-raises" true)) := by
 intro w os; kernel_rfl
theorem r1 : ∀ (w : World) (os : OsState), (TQ tp (w.withFollow "special-get-raises" true) 20000 (S0 (w.withFollow "special-get-raises" true) os)).map (fun s => (OQ (viewOf tp) lo (importedModules tp.main.body) (Xf tp) true s, Hook.obs hk.1 s)) = some (openGood (viewOf tp) lo, Hook.val hk.1 (w.withFollow "special-get-raises" true)) := fun w os => opt3 (r1a w os) (r1b w os) (r1c w os)
theorem left_twin {p p' : Program} {F : Program → Program} {X : Program → Shared → Bool} {loose : List Str} {α : Type} {Yf : Shared → α} {Ya : World → α} {N : Nat} {g0 : Bool} (row : String) (ep : p = p') (e : opening p = plainProg p.main.scope.names) (hN : Nat.ble 600 N = true) (f : ∀ s, fenceModules? p s = some s)
  (h0 : ∀ (w : World) (os : OsState), (TQ p' (w.withFollow row false) N (S0 (w.withFollow row false) os)).map (fun s => (OQ (F p') loose (importedModules p'.main.body) (X p') g0 s, Yf s)) = some (openGood (F p') loose, Ya (w.withFollow row false)))
  (h1 : ∀ (w : World) (os : OsState), (TQ p' (w.withFollow row true) N (S0 (w.withFollow row true) os)).map (fun s => (OQ (F p') loose (importedModules p'.main.body) (X p') g0 s, Yf s)) = some (openGood (F p') loose, Ya (w.withFollow row true))) : LeftO p (F p) loose (X p) Yf Ya N g0 := fun w => by
 subst ep
 have key : ∀ b, (openEnds treeTable p (w.withFollow row b) N).map (fun s => (openSeen (F p) loose (importedModules p.main.body) (X p) g0 s, Yf s)) = some (openGood (F p) loose, Ya (w.withFollow row b)) := by
  intro b
  obtain ⟨s, hs, hv⟩ := Option.map_eq_some_iff.mp (boot_open e hN f (w.withFollow row b))
  have es : s = S0 (w.withFollow row b) s.os := by
   cases s
   simp only [Prod.mk.injEq] at hv
   obtain ⟨a1, a2, a3, a4⟩ := hv
   subst a1 a2 a3 a4
   rfl
  unfold openEnds
  rw [hs, es, PySem.W.Fast.te370005188180407882, PySem.W.Fast.te14364793385576792824, PySem.W.Fast.te4187177175401517315]
  cases b
  . exact h0 w s.os
  . exact h1 w s.os
 have e0 := World.withFollow_self w row
 have := key (w.params.followText row)
 rwa [e0] at this
theorem left : LeftO PySem.Challenge.pw_stopglass_k43_copies_and_choices_held (viewOf PySem.Challenge.pw_stopglass_k43_copies_and_choices_held) lo (Xf PySem.Challenge.pw_stopglass_k43_copies_and_choices_held) (Hook.obs hk.1) (Hook.val hk.1) 20000 true :=
 left_twin (p := PySem.Challenge.pw_stopglass_k43_copies_and_choices_held) (p' := tp) (F := viewOf) (X := Xf) (loose := lo) (Yf := Hook.obs hk.1) (Ya := Hook.val hk.1) (N := 20000) (g0 := true) "special-get-raises" rfl (by kernel_rfl) (by decide) (fun s => by kernel_rfl) r0 r1
theorem left_of {H : Hook} (e : H = hk.1) : LeftO PySem.Challenge.pw_stopglass_k43_copies_and_choices_held (viewOf PySem.Challenge.pw_stopglass_k43_copies_and_choices_held) lo (Xf PySem.Challenge.pw_stopglass_k43_copies_and_choices_held) (Hook.obs H) (Hook.val H) 20000 true := by subst e; exact left
local macro_rules | `(tactic| o_head $H) => `(tactic| (
 refine holds_open (q := viewOf PySem.Challenge.pw_stopglass_k43_copies_and_choices_held) (loose := lo) (Xt := Xf PySem.Challenge.pw_stopglass_k43_copies_and_choices_held) (XP := XL (viewOf PySem.Challenge.pw_stopglass_k43_copies_and_choices_held) []) (Yf := Hook.obs $H) (Ya := Hook.val $H) (YP := Hook.says $H) (N := 20000) ?hl (Hook.of $H) (Hook.keeps $H) (fun s e => xl_of s (Bool.and_eq_true_iff.mp e).1) XL.keeps (by rfl) (by rfl) (by rfl) (fun s e => recFacts_of (Bool.and_eq_true_iff.mp e).2) (by rfl) (by assumption) (by decide +kernel) ⟨rfl, rfl, rfl, rfl, rfl, by decide +kernel⟩ ?hw ?hc
 (case hl => exact left_of (H := $H) (by kernel_rfl))))
set_option maxHeartbeats 0 in
noncomputable def pk : (G : Prop) ×' (G → PySem.Challenge.rw_stopglass_k43_copies_and_choices_held.Holds) := by
 refine' ⟨_, fun h => _⟩
 rotate_left
 w_on; refine holds_law ws fun said => ?_; k_head; (case hw => w_witness2)
 exact h
end Hd
end
abbrev HG:=@PySem.wpAny_bind
abbrev HH:=@List.length_map
abbrev HI:=@if_neg
abbrev HJ:=@PySem.Heap.get?_push_of_some
abbrev HK:=@decide_eq_true
abbrev HL:=@List.getElem?_eq_some_iff
abbrev HN:=@Nat.le_refl
abbrev HP:=@List.mem_of_getElem?
abbrev HQ:=@PySem.wpAny_pure
abbrev HR:=@if_pos
abbrev HS:=@List.mem_cons_self
abbrev HU:=@List.length_append
abbrev HV:=@List.mem_cons
abbrev HW:=@List.getElem?_map
abbrev HX:=@List.getElem?_eq_getElem
abbrev HY:=@List.mem_singleton
abbrev HZ:=@List.mem_cons_of_mem
abbrev Ha:=@PySem.Heap.lt_size
abbrev Hb:=@congrArg
abbrev Hc:=@List.size_toArray
abbrev Hd:=@decide_eq_false
abbrev He:=@Bool.false_ne_true
abbrev Hf:=@PySem.Heap.get?_push_size
abbrev Hg:=@List.mem_append
abbrev Hh:=@List.length_cons
abbrev Hj:=@List.length_replicate
abbrev Hk:=@List.map_append
abbrev Hl:=@Nat.zero_le
abbrev Hm:=@List.not_mem_nil
abbrev Hn:=@Nat.lt_of_lt_of_le
abbrev Ho:=@List.map_cons
abbrev Hq:=@List.mem_map
abbrev Hr:=@Bool.and_eq_true
abbrev Hs:=@PySem.F.plainAttrs_list
abbrev Ht:=@Nat.le_trans
abbrev Hu:=@List.mem_append_right
abbrev Hv:=@List.append_assoc
abbrev Hw:=@Nat.ne_of_lt
abbrev Hx:=@List.length_take
abbrev Hy:=@PySem.F.slot_list_append
abbrev Hz:=@PySem.F.type_list_append
abbrev IA:=@PySem.wpAny_field
abbrev IB:=@List.take_length
abbrev IC:=@Nat.lt_irrefl
abbrev ID:=@List.foldl_append
abbrev IE:=@PyProof.Rows.callWith_type1
abbrev IF:=@Nat.lt_or_ge
abbrev IG:=@PySem.wpAny_holding
abbrev IH:=@Int.toNat_natCast
abbrev II:=@List.append_nil
abbrev IJ:=@Nat.not_lt_zero
abbrev IK:=@PyProof.Rows.slot_tuple_getitem
abbrev IL:=@Int.eq_ofNat_of_zero_le
abbrev IM:=@List.getD_eq_getElem?_getD
abbrev IN:=@PySem.wpAny_call_entry
abbrev IP:=@List.getElem?_zip_eq_some
abbrev IQ:=@List.length_nil
abbrev IR:=@List.getElem?_append_right
abbrev IS:=@List.map_map
abbrev IT:=@PySem.wpAny_truthy_bool
abbrev IU:=@List.take_add_one
abbrev IV:=@Bool.eq_iff_iff
abbrev IW:=@List.getElem_mem
abbrev IX:=@PySem.Heap.size_push
abbrev IZ:=@PySem.wpAny_seqItems
abbrev Ia:=@decide_eq_true_eq
abbrev Ib:=@List.length_set
abbrev Ic:=@Option.map_eq_some_iff
abbrev Ie:=@List.lookup_cons
abbrev Ig:=@List.all_eq_true
abbrev Ih:=@PySem.wpAny_pyIter_tuple
abbrev Ii:=@Int.emod_lt_of_pos
abbrev Ij:=@PySem.wpAny_setField_rec
abbrev Ik:=@List.map_replicate
abbrev Il:=@PySem.F.slot_zip_next
abbrev Im:=@List.getElem?_of_mem
abbrev Io:=@PySem.wpAny_newObj_type
abbrev Ip:=@List.flatten_cons
abbrev Iq:=@of_decide_eq_true
abbrev Ir:=@Bool.true_and
abbrev Iu:=@List.replicate_succ
abbrev Iv:=@Nat.lt_succ_self
abbrev Iw:=@List.getElem?_set_self
abbrev Ix:=@List.nodup_cons
abbrev Iy:=@Int.emod_nonneg
abbrev Iz:=@List.getElem?_eq_none
abbrev J0:=@List.length_zip
abbrev J1:=@PySem.F.slot_tuple_iterator_next
abbrev J2:=@PySem.wpAny_pyIter_list
abbrev J3:=@List.length_range
abbrev J4:=@List.getElem?_set_ne
abbrev J5:=@List.getElem?_append_left
abbrev J6:=@List.idxOf_cons_self
abbrev J7:=@Nat.ne_of_gt
abbrev J8:=@List.length_drop
abbrev J9:=@Nat.lt_succ_iff_lt_or_eq
abbrev JA:=@PySem.wpAny_Call_Name_kw
abbrev JB:=@List.foldl_cons
abbrev JC:=@List.find?_cons
abbrev JD:=@List.mem_replicate
abbrev JE:=@PySem.wpAny_typeOf
abbrev JF:=@List.map_nil
abbrev JG:=@List.idxOf_lt_length_of_mem
abbrev JH:=@List.mem_append_left
abbrev JI:=@PySem.F.slot_tuple_mul
abbrev JJ:=@List.getElem_of_mem
abbrev JK:=@List.getElem?_eq_none_iff
abbrev JL:=@PySem.wpAny_passesOwn
abbrev JM:=@List.of_mem_zip
abbrev JN:=@List.forIn_cons
abbrev JO:=@Option.isSome_iff_exists
abbrev JP:=@List.getElem?_take_of_lt
abbrev JQ:=@PySem.F.args_tuple_add_2
abbrev JR:=@PySem.F.slot_list_getattribute
abbrev JS:=@PySem.wpAny_mono
abbrev JT:=@PySem.F.entry_tuple_add
abbrev JU:=@PySem.F.plainAttrs_dict
abbrev JV:=@List.length_eq_zero_iff
abbrev JW:=@PySem.F.slot_zip_getattribute
abbrev JX:=@PySem.F.slot_list_index
abbrev JY:=@PySem.F.type_list_index
abbrev JZ:=@PySem.wpAny_pyIter_enum
abbrev Ja:=@PySem.F.args_zip_next_1
abbrev Jb:=@List.all_eq_false
abbrev Jc:=@Nat.le_succ
abbrev Jd:=@PySem.F.slot_tuple_add
abbrev Je:=@PyProof.Rows.bitOr_and
abbrev Jf:=@List.any_cons
abbrev Jg:=@PySem.F.entry_zip_next
abbrev Jh:=@PySem.wpAny_isTrue_Compare1
abbrev Ji:=@PySem.F.slot_dict_get
abbrev Jj:=@List.nil_append
abbrev Jk:=@PySem.F.slot_int_rmul
abbrev Jl:=@Option.map_some
abbrev Jm:=@PySem.codeAny_builtin
abbrev Jn:=@PySem.wpAny_rule
abbrev Jo:=@PySem.wpAny_updateSeq_pair
abbrev Jp:=@Nat.min_eq_left
abbrev Jq:=@PySem.wpAny_ite_false
abbrev Jr:=@PySem.F.slot_dict_itemiterator_iter
abbrev Js:=@List.filterMap_cons
abbrev Jt:=@Array.length_toList
abbrev Ju:=@List.map_congr_left
abbrev Jv:=@Bool.and_false
abbrev Jw:=@PySem.F.args_tuple_iterator_next_1
abbrev Jx:=@PySem.F.slot_dict_setdefault
abbrev Jy:=@List.forIn_nil
abbrev Jz:=@List.drop_zero
abbrev J':=@List.mem_filterMap
abbrev K1:=@PySem.F.entry_tuple_iterator_next
abbrev K2:=@PySem.F.args_tuple_mul_2
abbrev K3:=@Int.fdiv_eq_ediv_of_nonneg
abbrev K4:=@PySem.F.kt_typeCall_dict_1
abbrev K5:=@PySem.wpAny_letOwnedTupleGo_enum
abbrev K6:=@PySem.wpAny_onRaise
abbrev K7:=@PySem.wpAny_attempt
abbrev K8:=@Nat.mod_two_eq_zero_or_one
abbrev K9:=@PySem.wpAny_sequenceKey
abbrev KA:=@PySem.F.entry_tuple_mul
abbrev KB:=@PySem.wpAny_binaryOp_repeat_ref
abbrev KC:=@beq_iff_eq
abbrev KD:=@PySem.wpAny_pyHash_str
abbrev KE:=@Nat.le_of_lt
abbrev KF:=@PySem.wpAny_execs_cons
abbrev KG:=@PySem.codeAny_mono
abbrev KH:=@PySem.F.args_dict_init_2
abbrev KI:=@PySem.wpAny_pyIter_zip
abbrev KJ:=@Nat.sub_zero
abbrev KL:=@Option.bind_some
abbrev KM:=@Int.zero_add
abbrev KN:=@PySem.wpAny_Call_method0_late
abbrev KO:=@PySem.F.args_dict_get_3
abbrev KP:=@PySem.F.entry_dict_init
abbrev KQ:=@PySem.wpAny_pyNext_enum_itemD
abbrev KR:=@PySem.F.slot_dict_items
abbrev KS:=@Nat.add_sub_cancel_left
abbrev KU:=@PySem.wpAny_execs_nil
abbrev KW:=@Int.natCast_mul
abbrev KY:=@List.mem_range
abbrev KZ:=@PySem.wpAny_standAt
abbrev Ka:=@Bool.or_false
local macro_rules | `(tactic| walk_at "f") => `(tactic| (first|exact .inl rfl|exact .inr rfl|assumption))
local macro_rules | `(tactic| walk_at "s") => `(tactic| exact ⟨rfl, rfl, rfl, by decide +kernel, rfl, by decide +kernel, by decide +kernel⟩)
section
local macro_rules | `(#[$x,*]) => `(⟨$x,*⟩)
namespace L2
open PySem PySem.Spec PyProof.Rows
abbrev aO:=Sum Int Str
def iG:aO->Value->Bool
 | .inl k,v=>Value.isInt k v
 | .inr x,v=>Value.isStrOf x v
def Bb (w:World):aO->Int
 | .inl k=>hashInt k
 | .inr x=>hashStr w x
theorem fj:∀{k:aO} {v:Value},iG k v=true->(∃i t,k=Sum.inl i/\v=Value.int i t)\/(∃x t,k=Sum.inr x/\v=Value.str x t)
 | .inl i,v,h=>by obtain⟨t,e⟩:=Value.isInt_shape (k:=i) (v:=v) h;exact .inl #[i,t,rfl,e]
 | .inr x,v,h=>by obtain⟨t,e⟩:=Value.isStrOf_shape (x:=x) (v:=v) h;exact .inr #[x,t,rfl,e]
theorem B' (i:Int) (t:Tok):iG (.inl i) (.int i t)=true:=by simp [iG,Value.isInt]
theorem DH (x:Str) (t:Tok):iG (.inr x) (.str x t)=true:=by simp [iG,Value.isStrOf]
theorem Ce (a b:Int):decide ((Sum.inl a:aO)=Sum.inl b)=(a==b):=by
 by_cases e:a=b
 . subst e; simp
 . have h:¬ (Sum.inl a:aO)=Sum.inl b:=λq=>e (Sum.inl.inj q);rw[Hd h];exact(beq_eq_false_iff_ne.mpr e).symm
theorem AF (a b:Str):decide ((Sum.inr a:aO)=Sum.inr b)=decide (a=b):=by
 by_cases e:a=b
 . subst e; simp
 . have h:¬ (Sum.inr a:aO)=Sum.inr b:=λq=>e (Sum.inr.inj q);rw[Hd h,Hd e]
theorem F6 (a:Int) (b:Str):decide ((Sum.inl a:aO)=Sum.inr b)=false:=Hd (λq=>nomatch q)
theorem Gf (a:Str) (b:Int):decide ((Sum.inr a:aO)=Sum.inl b)=false:=Hd (λq=>nomatch q)
def cK (prog:Program) (w:World):PySem.KeyKind prog w aO where
 is:=iG
 hash:=Bb w
 inj:=λv a b ha hb=>by
   rcases fj ha with⟨i,t,rfl,rfl⟩|⟨x,t,rfl,rfl⟩
   . rcases fj hb with⟨j,u,rfl,e⟩|⟨y,u,rfl,e⟩
     . injection e with e1 _; rw[e1]
     . exact nomatch e
   . rcases fj hb with⟨j,u,rfl,e⟩|⟨y,u,rfl,e⟩
     . exact nomatch e
     . injection e with e1 _; rw[e1]
 byValue:=λk v h=>by rcases fj h with⟨i,t,rfl,rfl⟩|⟨x,t,rfl,rfl⟩ <;> rfl
 pyHash:=λhv h=>by
   rcases fj hv with⟨i,t,rfl,rfl⟩|⟨x,t,rfl,rfl⟩
   . exact wpAny_pyHash_int h
   . exact KD h
 eqBool:=λhu hv h=>by
   rcases fj hu with⟨i,t,rfl,rfl⟩|⟨x,t,rfl,rfl⟩
   . rcases fj hv with⟨j,u,rfl,rfl⟩|⟨y,u,rfl,rfl⟩
     . rw[Ce] at h; exact wpAny_eqBool_int h
     . rw[F6] at h; exact SeqAt.EqAt.int_str i t y u _ _ _ _ h
   . rcases fj hv with⟨j,u,rfl,rfl⟩|⟨y,u,rfl,rfl⟩
     . rw[Gf] at h; exact SeqAt.EqAt.str_int x t j u _ _ _ _ h
     . rw[AF] at h; exact wpAny_eqBool_str h
 «strs»:=λk x t v h=>by
   rcases fj h with⟨i,u,rfl,e⟩|⟨y,u,rfl,e⟩
   . exact nomatch e
   . injection e with e1 _
     subst e1;cases v <;> rfl
theorem Ep (prog:Program) (w:World) (i:Int) (t:Tok):(cK prog w).is (.inl i) (.int i t)=true:=B' i t
theorem ET (prog:Program) (w:World) (x:Str) (t:Tok):(cK prog w).is (.inr x) (.str x t)=true:=DH x t
inductive V where
 | non|bl (b:Bool)|int (i:Int)|str (x:Str)|byt (b:Array UInt8)|flt (b:UInt64)|ref (a:Addr)|ty (n:String)
 deriving DecidableEq
def bF:V->Value->Prop
 | .non,u=>u=Value.none
 | .bl b,u=>u=Value.bool b
 | .int i,u=>∃t,u=Value.int i t
 | .str x,u=>∃t,u=Value.str x t
 | .byt b,u=>∃t,u=Value.bytes b t
 | .flt b,u=>∃t,u=Value.float b t
 | .ref a,u=>u=Value.ref a
 | .ty n,u=>u=Value.type n
abbrev ax:List V->List Value->Prop:=Paired bF
theorem ax.length {xs:List V} {us:List Value} (r:ax xs us):xs.length=us.length:=Paired.length r
theorem ax.get:∀{xs:List V} {us:List Value} {i:Nat} {x:V},ax xs us->xs[i]?=some x->∃u,us[i]?=some u/\bF x u
 | _,_,_,_,.nil,e=>by simp at e
 | _,_,0,_,.cons r _,e=>by simp at e; subst e; exact#[_,rfl,r]
 | _,_,i+1,x,.cons _ t,e=>by obtain⟨u,h1,h2⟩:=ax.get (i:=i) (x:=x) t (by simpa using e);exact#[u,by simpa using h1,h2]
theorem ax.set {x:V} {u:Value} (r:bF x u):∀{xs:List V} {us:List Value} (i:Nat),ax xs us->ax (xs.set i x) (us.set i u)
 | _,_,_,.nil=>.nil
 | _,_,0,.cons _ t=>.cons r t
 | _,_,i+1,.cons q t=>.cons q (ax.set r i t)
theorem ax.append:∀{xs ys:List V} {us ws:List Value},ax xs us->ax ys ws->ax (xs++ys) (us++ws)
 | _,_,_,_,.nil,s=>s
 | _,_,_,_,.cons r t,s=>.cons r (ax.append t s)
theorem ax.take:∀{xs:List V} {us:List Value} (n:Nat),ax xs us->ax (xs.take n) (us.take n)
 | _,_,0,_=>.nil
 | _,_,_+1,.nil=>.nil
 | _,_,n+1,.cons r t=>.cons r (ax.take n t)
theorem ax.drop:∀{xs:List V} {us:List Value} (n:Nat),ax xs us->ax (xs.drop n) (us.drop n)
 | _,_,0,r=>r
 | _,_,_+1,.nil=>.nil
 | _,_,n+1,.cons _ t=>ax.drop n t
theorem ax.none_of:∀{xs:List V} {us:List Value} {i:Nat},ax xs us->xs[i]?=none->us[i]?=none:=λ{xs us i} r e=>by have h1:=r.length;have h2:xs.length<=i:=JK.mp e;exact JK.mpr (by omega)
def d7:Option V->Option Value->Prop
 | some v,some u=>bF v u
 | none,none=>True
 | _,_=>False
def KV {κ:Type}:List (κ×V)->List (κ×Value)->Prop:=Paired λ(p:κ×V) (q:κ×Value)=>p.1=q.1/\bF p.2 q.2
def kV:aO->V
 | .inl i=>.int i
 | .inr x=>.str x
inductive HO where
 | lst (xs:List V)
 | tup (xs:List V)
 | dK (kvs:List (aO×V))|dT (kvs:List (List aO×V))
 | set (S:Int->Bool) (n:Nat)
 | ins (C dx:Addr) (fs:List (Str×V))
 | own (x:Addr)
 | xd (fs:List (Str×V))
 | met (f x:Addr)
 | rng (lo hi:Int)
 | frz (o:Obj) (u:HO)
 | tbl (ps:Array Value)
 | ext (φ:Heap->Prop)
abbrev Hp:=Addr->Option HO
def upd (H:Hp) (a:Addr) (o:HO):Hp:=λb=>if b=a then some o else H b
variable {H:Hp} {o:HO}
theorem aL {a:Addr} :upd H a o a=some o:=by unfold upd; rw[HR rfl]
variable {b:Addr}
theorem ay {a:Addr}(h:b≠a):upd H a o b=H b:=by unfold upd; rw[HI h]
theorem pN {a:Addr} {u:HO}:upd (upd H a o) a u=upd H a u:=by funext b; unfold upd; split <;> rfl
theorem fJ {a:Addr}{u:HO}(h:H a=some o) (h':H b=some u) (d:o≠u):a≠b:=by intro e; subst e; rw[h] at h'; exact d (Option.some.inj h')
theorem cT {a:Addr}(h:H a=some o) (h':H b=none):a≠b:=by intro e; subst e; rw[h] at h'; cases h'
section
variable (P:Program) (w:World)
def cJ (H:Hp) (h:Heap) (a:Addr):HO->Prop
 | .lst xs=>xs.length<=sizeLine/\∃(its:List Value) (n:Nat),ax xs its/\h.get? a=some { cls:=.type "list",data:=.seq its.toArray n }
 | .tup xs=>xs.length<=sizeLine/\∃its:List Value,ax xs its/\IsTup h a its.toArray
 | .dK kvs=>kvs.length<=sizeLine/\(a==sysModules)=false/\∃vs,KV kvs vs/\h.DictOf (cK P w) a vs
 | .dT kvs=>kvs.length<=sizeLine/\(a==sysModules)=false/\∃xs:List (List aO×Addr×Value),
     Paired (λ(p:List aO×V) (q:List aO×Addr×Value)=>p.1=q.1/\H q.2.1=some (.tup (p.1.map kV))/\bF p.2 q.2.2) kvs xs /\
     ∃o es ep,h.get? a=some o/\o.ExactDict/\o.data=.dict es ep/\es.toList=xs.map (entryOfKey (tupleKind (cK P w)))/\(xs.map (·.1)).Nodup
 | .set S n=>h.SetOf (intKind P w) a S n
 | .ins C dx fs=>H dx=some (.own a)/\fs.length<=1000/\dx≠a/\h.get? a=some (PySem.W.instObj C dx) /\
     ∃mA,h.Ns1 dx mA/\(∀f,d7 (fs.lookup f) (mA f))/\PySem.Within mA (fs.map (·.1))
 | .own _=>∃o,h.get? a=some o
 | .xd fs=>∃mA,h.Ns1 a mA/\∀f,d7 (fs.lookup f) (mA f)
 | .rng lo hi=>∃t u v,h.get? a=some { cls:=.type "range",data:=.fields (List.toArray [.int lo t,.int hi u,.int 1 v]) }
 | .frz o u=>h.get? a=some o/\cJ H h a u
 | .tbl ps=>h.get? a=some { cls:=.none,data:=.fields ps }
 | .met f x=>h.get? a=some (PySem.W.methodObj (.ref f) (.ref x))
 | .ext φ=>φ h/\(∃o,h.get? a=some o)/\∀h1 h2:Heap,φ h1->(∀o,h1.get? a=some o->h2.get? a=some o)->φ h2
def cC (H:Hp) (h:Heap):Prop:=∀a o,H a=some o->cJ P w H h a o
end
section
variable {P:Program} {w:World} {H H':Hp} {h h':Heap} {a:Addr} {o:HO}
theorem cJ.lt (x:cJ P w H h a o):a<h.objs.size:=by
 cases o with
 | lst xs=>obtain⟨_,_,_,_,e⟩:=x; exact Ha e
 | tup xs=>obtain⟨_,_,_,p⟩:=x; exact p.lt
 | dK kvs=>obtain⟨_,_,_,_,o,_,_,e,_⟩:=x; exact Ha e
 | dT kvs=>obtain⟨_,_,_,_,o,_,_,e,_⟩:=x; exact Ha e
 | set S n=>obtain⟨o,_,_,_,e,_⟩:=x; exact Ha e
 | ins C dx fs=>obtain⟨_,_,_,e,_⟩:=x; exact Ha e
 | own y=>obtain⟨_,e⟩:=x; exact Ha e
 | xd fs=>obtain⟨_,⟨_,_,_,e,_⟩,_⟩:=x; exact Ha e
 | rng lo hi=>obtain⟨_,_,_,e⟩:=x; exact Ha e
 | frz ob u=>obtain⟨e,_⟩:=x; exact Ha e
 | tbl ps=>exact Ha (show h.get? a=some _ from x)
 | met f y=>exact Ha (show h.get? a=some _ from x)
 | ext φ=>obtain⟨_,⟨_,e⟩,_⟩:=x; exact Ha e
theorem Paired.mapP {α β:Type} {F G:α->β->Prop}:∀{l₁:List α} {l₂:List β},Paired F l₁ l₂->(∀a b,F a b->G a b)->Paired G l₁ l₂
 | _,_,.nil,_=>.nil
 | _,_,.cons r t,f=>.cons (f _ _ r) (Paired.mapP t f)
theorem cJ.stay (x:cJ P w H h a o) (k:∀b u,(b=a\/H b=some (.own a))->h.get? b=some u->h'.get? b=some u)
   (ho:∀b,H b=some (.own a)->H' b=some (.own a)) (ht:∀b xs,H b=some (.tup xs)->H' b=some (.tup xs)):cJ P w H' h' a o:=by
 induction o with
 | lst xs=>obtain⟨z,its,n,r,e⟩:=x; exact#[z,its,n,r,k _ _ (.inl rfl) e]
 | tup xs=>obtain⟨z,its,r,ob,e,c⟩:=x; exact#[z,its,r,ob,k _ _ (.inl rfl) e,c]
 | dK kvs=>obtain⟨z,y,vs,r,ob,es,ep,e,c⟩:=x; exact#[z,y,vs,r,ob,es,ep,k _ _ (.inl rfl) e,c]
 | dT kvs =>
   obtain⟨z,y,xs,r,ob,es,ep,e,c⟩:=x;exact#[z,y,xs,Paired.mapP r λp q z=>#[z.1,ht _ _ z.2.1,z.2.2],ob,es,ep,k _ _ (.inl rfl) e,c]
 | set S n=>obtain⟨ob,es,ep,t,e,c⟩:=x; exact#[ob,es,ep,t,k _ _ (.inl rfl) e,c]
 | ins C dx fs =>
   obtain⟨d,z,ne,e,mA,⟨od,es,ep,e2,c⟩,r⟩:=x;exact#[ho _ d,z,ne,k _ _ (.inl rfl) e,mA,#[od,es,ep,k _ _ (.inr d) e2,c],r]
 | own y=>obtain⟨ob,e⟩:=x; exact#[ob,k _ _ (.inl rfl) e]
 | xd fs=>obtain⟨mA,⟨od,es,ep,e,c⟩,r⟩:=x; exact#[mA,#[od,es,ep,k _ _ (.inl rfl) e,c],r]
 | rng lo hi=>obtain⟨t,u,v,e⟩:=x; exact#[t,u,v,k _ _ (.inl rfl) e]
 | frz ob u ih=>obtain⟨e,q⟩:=x; exact#[k _ _ (.inl rfl) e,ih q]
 | tbl ps =>
   have e:h.get? a=some { cls:=.none,data:=.fields ps }:=x;show h'.get? a=some { cls:=.none,data:=.fields ps };exact k a _ (.inl rfl) e
 | met f y =>
   have e:h.get? a=some (PySem.W.methodObj (.ref f) (.ref y)):=x;show h'.get? a=some (PySem.W.methodObj (.ref f) (.ref y));exact k a _ (.inl rfl) e
 | ext φ=>obtain⟨p,⟨o,e⟩,st⟩:=x; exact#[st _ _ p λo q=>k _ _ (.inl rfl) q,#[o,k _ _ (.inl rfl) e],st]
theorem cC.lt (x:cC P w H h) (e:H a=some o):a<h.objs.size:=(x a o e).lt
theorem cC.fresh (x:cC P w H h) (e:h.objs.size<=a):H a=none:=by
 cases q:H a with
 | none=>rfl
 | some u=>exact absurd (Hn (x.lt q) e) (IC _)
theorem cC.kept (x:cC P w H h) (k:∀b u,h.get? b=some u->h'.get? b=some u):cC P w H h':=λa o e =>
 (x a o e).stay (λb u _ q=>k b u q) (λ_ q=>q) λ_ _ q=>q
theorem cC.laid (x:cC P w H h) (k:∀b u,h.get? b=some u->h'.get? b=some u) (hp:h.objs.size<=a) (new:cJ P w (upd H a o) h' a o):cC P w (upd H a o) h':=λb u e=>by
 have hn:=x.fresh hp;by_cases hb:b=a
 . subst hb; rw[aL] at e; cases e; exact new
 . rw[ay hb] at e;exact(x b u e).stay (λc v _ q=>k c v q) (λc q=>by rw[ay (cT q hn)]; exact q) λc xs q=>by rw[ay (cT q hn)]; exact q
end
def Rd (H:Hp) (a:Addr) (u:HO):Prop:=H a=some u\/∃o,H a=some (.frz o u)
variable {P:Program} {w:World} {h:Heap}
theorem Rd.ok {a:Addr} {u:HO} (r:Rd H a u) (x:cC P w H h):cJ P w H h a u:=by
 rcases r with r|⟨o,r⟩
 . exact x a u r
 . obtain⟨_,q⟩:=x a _ r;exact q
def jG:Option HO->Prop
 | some (.lst _)=>True
 | some (.dK _)=>True
 | some (.dT _)=>True
 | some (.set _ _)=>True
 | some (.ins _ _ _)=>True
 | some (.ext _)=>True
 | _=>False
section
variable {P:Program} {w:World} {H:Hp} {h h':Heap} {x e:Addr} {o':HO}
theorem cC.write (ok:cC P w H h) (mu:jG (H x)) (he:e=x\/H e=some (.own x)) (k:∀b u,b≠e->h.get? b=some u->h'.get? b=some u) (heo:∃u,h'.get? e=some u)
   (new:cJ P w (upd H x o') h' x o'):cC P w (upd H x o') h':=λb u q=>by
 have nown:∀c y,H c=some (.own y)->c≠x:=λc y r z=>by subst z; rw[r] at mu; exact mu
 have ntup:∀c xs,H c=some (.tup xs)->c≠x:=λc xs r z=>by subst z; rw[r] at mu; exact mu
 by_cases hb:b=x
 . subst hb; rw[aL] at q; cases q; exact new
 . rw[ay hb] at q;by_cases hbe:b=e
   . have q':H b=some (.own x):=by
       rcases he with z|z
       . exact absurd (hbe.trans z) hb
       . rw[hbe]; exact z
     rw[q] at q'; cases q';obtain⟨v,hv⟩:=heo;exact#[v,by rw[hbe]; exact hv]
   . refine(ok b u q).stay (λc v hc r=>k c v ?_ r) (λc r=>by rw[ay (nown c b r)]; exact r) λc xs r=>by rw[ay (ntup c xs r)]; exact r
     rcases hc with rfl|hc
     . exact hbe
     . rintro rfl;rcases he with z|z
       . exact nown c b hc z
       . rw[hc] at z; cases z; exact hb rfl
end
structure Un (fs ex:List Addr) (H H':Hp) (h h':Heap):Prop where
 keep:∀b o,h.get? b=some o->H b=none->b ∉ fs->b ∉ ex->h'.get? b=some o
 slot:∀b o,h.get? b=some o->H b=none->b∈fs->b ∉ ex->∃sl,h'.get? b=some { o with slots:=sl }
 free:∀b o,h.get? b=some o->H b=none->b ∉ ex->H' b=none
 there:∀b o,h.get? b=some o->b ∉ ex->∃o',h'.get? b=some o'
 tups:∀b xs,H b=some (.tup xs)->H' b=some (.tup xs)
 frzs:∀b o u,H b=some (.frz o u)->H' b=some (.frz o u)
 tbls:∀b ps,H b=some (.tbl ps)->∃more,H' b=some (.tbl (ps++more))
section
variable {fs fs' ex ex':List Addr} {H H1 H2:Hp} {h h1 h2 h':Heap} {a x e:Addr} {o:HO}
theorem Un.any (u:Un fs ex H H1 h h1) {ob:Obj} (q:h.get? b=some ob) (n:H b=none) (hx:b ∉ ex):∃sl,h1.get? b=some { ob with slots:=sl }:=by
 by_cases hb:b∈fs
 . exact u.slot b ob q n hb hx
 . exact#[ob.slots,u.keep b ob q n hb hx]
theorem Un.kept (k:∀b u,h.get? b=some u->h'.get? b=some u):Un fs ex H H h h' :=
 #[λb ob q _ _ _=>k b ob q,λb ob q _ _ _=>#[ob.slots,k b ob q],λ_ _ _ n _=>n,λb ob q _=>#[ob,k b ob q],λ_ _ q=>q,λ_ _ _ q=>q,λ_ ps q=>#[(List.toArray []),by rw[q]; simp]]
theorem Un.refl:Un fs ex H H h h:=Un.kept λ_ _ q=>q
theorem Un.laid (k:∀b u,h.get? b=some u->h'.get? b=some u) (hp:h.objs.size<=a) (hn:H a=none):Un fs ex H (upd H a o) h h' where
 keep:=λb u q _ _ _=>k b u q
 slot:=λb u q _ _ _=>#[u.slots,k b u q]
 free:=λb u q n _=>by rw[ay (Hw (Hn (Ha q) hp))]; exact n
 there:=λb u q _=>#[u,k b u q]
 tups:=λb xs q=>by rw[ay (cT q hn)]; exact q
 frzs:=λb u xs q=>by rw[ay (cT q hn)]; exact q
 tbls:=λb ps q=>#[(List.toArray []),by rw[ay (cT q hn),q]; simp]
theorem Un.write (mu:jG (H x)) (he:e=x\/H e=some (.own x)) (k:∀b u,b≠e->h.get? b=some u->h'.get? b=some u) (heo:∃u,h'.get? e=some u):Un fs ex H (upd H x o) h h':=by
 have hx:∀b,H b=none->b≠x:=λb n z=>by subst z; rw[n] at mu; exact mu
 have hb:∀b,H b=none->b≠e:=λb n z=>by
   subst z;rcases he with r|r
   . exact hx b n r
   . rw[n] at r; cases r
 have hm:∀b u,H b=some u->¬ jG (some u)->b≠x:=λb u q nm z=>by subst z; rw[q] at mu; exact nm mu
 refine#[λb u q n _ _=>k b u (hb b n) q,λb u q n _ _=>#[u.slots,k b u (hb b n) q],λb u q n _=>by rw[ay (hx b n)]; exact n,λb u q _=>?_,
   λb xs q=>by rw[ay (hm b _ q λz=>z)]; exact q,λb u xs q=>by rw[ay (hm b _ q λz=>z)]; exact q,λb ps q=>#[(List.toArray []),by rw[ay (hm b _ q λz=>z),q]; simp]]
 by_cases hbe:b=e
 . subst hbe; exact heo
 . exact#[u,k b u hbe q]
end
def lN (h:Heap) (H:Hp):List Addr:=(List.range h.objs.size).filter λa=>(H a).isSome
def gL (h:Heap) (H:Hp):Heap:=PySem.W.hideAll h (lN h H)
theorem A' (h:Heap) (H:Hp):(gL h H).objs.size=h.objs.size:=PySem.W.hideAll_size _ _
theorem zv {o:Obj} (e:h.get? b=some o) (n:H b=none):(gL h H).get? b=some o :=
 PySem.W.hideAll_get _ e λhm=>by have q:(H b).isSome=true:=(List.mem_filter.mp hm).2;rw[n] at q; simp at q
theorem El {o:Obj} (e:(gL h H).get? b=some o):h.get? b=some o/\H b=none:=by
 have e':h.get? b=some o:=PySem.W.of_hideAll (lN h H) e;refine#[e',?_];cases q:H b with
 | none=>rfl
 | some x =>
   have hm:b∈lN h H:=List.mem_filter.mpr #[KY.mpr (Ha e'),by simp [q]];have z:(gL h H).get? b=none:=PySem.W.hideAll_none (lN h H) hm;rw[z] at e; cases e
structure Mod (K:W.Frag) (mg:Str->Option Value) (base:Heap):Prop where
 kin:K.In base
 glob:base.Ns mainGlobals mg
 blt:∃mb,base.Ns builtinsNs mb/\∀x:Str,x≠"__name__"->mb x=bootBuiltins x
 nolimit:base.NoLimit
structure Cx where
 prog:Program
 w:World
 K:W.Frag
 mg:Str->Option Value
 base:Heap
 A:Around
 N:List Str
 s₀:Shared
 H₀:Hp
 env:Env
 outer:List Env
 stack:List Env
 ex:List Addr
 fn:Str->Bool
 calm:Bool
 pn:List (Addr×Obj)
 xe:Value->Shared->Prop
def fK (l:List Env):List Addr:=l.filterMap (·.frame)
abbrev Cx.fs (X:Cx):List Addr:=fK X.outer
def lI (sc:Scope) (x:Str):Prop:=sc.names.lookup x=some .local\/sc.names.lookup x=some .cell\/sc.names.lookup x=some .free
def jp (sc:Scope) (x:Str):Prop:=sc.names.lookup x=some .local\/sc.names.lookup x=some .cell
def Bj (env:Env) (h:Heap) (m:Str->Option Value) (x:Str) (u:Value):Prop :=
 (env.kindOf x=some .local/\m x=some u)\/((env.kindOf x=some .cell\/env.kindOf x=some .free)/\∃c,env.cells.lookup x=some c/\h.IsCell c (some u))
structure Cx.Ok (X:Cx):Prop where
 mod:Mod X.K X.mg X.base
 kind:X.env.scope.kind=.function
 glob:X.env.globals=mainGlobals
 blt:X.env.builtins=builtinsNs
 above:X.s₀.heap.objs.size<=X.env.locals
 inj:∀x y c,X.env.cells.lookup x=some c->X.env.cells.lookup y=some c->x=y
 has:∀x,(X.env.kindOf x=some .cell\/X.env.kindOf x=some .free)->∃c,X.env.cells.lookup x=some c
 cab:∀x c,X.fn x=true->X.env.cells.lookup x=some c->X.s₀.heap.objs.size<=c
 hd:X.calm=true->X.A.handled=none
 frames:X.A.frames=some X.stack
 stk:X.stack=X.outer\/(X.stack=X.env :: X.outer/\X.env.frame=some X.env.locals)
 exf:∀b∈X.ex,b≠X.env.locals/\∀x c,X.env.cells.lookup x=some c->c≠b
 bs:∀b o,X.base.get? b=some o->X.s₀.heap.get? b=some o/\X.H₀ b=none
 bsz:X.base.objs.size<=X.s₀.heap.objs.size
 noex:∀b o,X.base.get? b=some o->b ∉ X.ex
 exfs:∀b∈X.ex,b ∉ X.fs
 funs:X.s₀.heap.FunFrames X.base X.outer
 frf:∀b∈X.fs,X.H₀ b=none
structure Inv (X:Cx) (pins:List (Addr×Obj)) (σ:List (Option V)) (H:Hp) (s:Shared):Prop where
 ok:X.Ok
 os:s.os=X.s₀.os
 bare:AllBare s.gens
 base:Un X.fs X.ex X.H₀ H X.s₀.heap s.heap
 loc:∃m,s.heap.Ns X.env.locals m/\∀(i:Nat) (x:Str) (v:V),X.N[i]?=some x->σ[i]?=some (some v)->lI X.env.scope x->∃u,bF v u/\Bj X.env s.heap m x u
 cell:∀x c,X.env.cells.lookup x=some c->∃v,s.heap.IsCell c v
 free:H X.env.locals=none
 freeC:∀x c,X.env.cells.lookup x=some c->H c=none
 pin:∀p∈X.pn++pins,s.heap.get? p.1=some p.2/\H p.1=none/\p.1≠X.env.locals/\p.1 ∉ X.fs/\∀v,p.2.data≠.cell v
 hok:cC X.prog X.w H s.heap
 len:σ.length=X.N.length
variable {u:Value} {t':Nat} {x:Str} {M:Model} {A:Around} {E:Value->Shared->Prop} {v:V}
section
variable {X:Cx} {pins:List (Addr×Obj)} {σ:List (Option V)} {H H':Hp} {s:Shared} {h':Heap}
theorem Cx.Ok.nofr (ok:X.Ok) {o:Obj} (e:X.base.get? b=some o):b ∉ X.fs:=λhb=>by have:=(ok.funs.mem hb).1;rw[e] at this; cases this
theorem Inv.bs (I:Inv X pins σ H s):∀b o,X.base.get? b=some o->s.heap.get? b=some o/\H b=none:=λb o e =>
 #[I.base.keep b o (I.ok.bs b o e).1 (I.ok.bs b o e).2 (I.ok.nofr e) (I.ok.noex b o e),I.base.free b o (I.ok.bs b o e).1 (I.ok.bs b o e).2 (I.ok.noex b o e)]
theorem Inv.bk (I:Inv X pins σ H s):∀b o,X.base.get? b=some o->s.heap.get? b=some o:=λb o e=>(I.bs b o e).1
theorem Inv.mod (I:Inv X pins σ H s):Mod X.K X.mg X.base:=I.ok.mod
theorem Inv.kIn (I:Inv X pins σ H s):X.K.In s.heap:=I.ok.mod.kin.keeps I.bk
theorem Inv.fr (I:Inv X pins σ H s):∃m,Fr X.base X.env.locals s.heap m :=
 let ⟨m,hn,_⟩:=I.loc
 #[m,hn,I.bk,Ht I.ok.bsz I.ok.above]
theorem Inv.lt (I:Inv X pins σ H s):X.env.locals<s.heap.objs.size:=let ⟨_,hn,_⟩:=I.loc; hn.lt
theorem Inv.sz (I:Inv X pins σ H s):X.s₀.heap.objs.size<=s.heap.objs.size:=Ht I.ok.above (KE I.lt)
theorem Inv.nofs (I:Inv X pins σ H s) {a:Addr} (h:s.heap.objs.size<=a):a ∉ X.fs:=λhb=>by obtain⟨_,o,ho,_⟩:=I.ok.funs.mem hb;exact absurd (Hn (Ha ho) (Ht I.sz h)) (IC _)
theorem Inv.cne (I:Inv X pins σ H s):∀x c,X.env.cells.lookup x=some c->c≠X.env.locals:=λx c e z=>by obtain⟨v,o,ho,hd⟩:=I.cell x c e;obtain⟨m,⟨o',es,ep,ho',hd',_⟩,_⟩:=I.loc;rw[z,ho'] at ho; cases ho; rw[hd'] at hd; cases hd
theorem Inv.funs (I:Inv X pins σ H s):s.heap.FunFrames X.base X.outer:=by
 have all:∀(l:List Env),(∀b∈fK l,b∈X.fs)->X.s₀.heap.FunFrames X.base l->s.heap.FunFrames X.base l:=by
   intro l
   induction l with
   | nil=>intro _ _; trivial
   | cons env r ih =>
     intro hs hl;obtain⟨hk,⟨L,o,hf,hn,ho,hd⟩,hr⟩:=hl;have hL:L∈X.fs:=hs L (by unfold fK; rw[Js,hf]; exact HS);obtain⟨sl,e⟩:=I.base.slot L o ho (I.ok.frf L hL) hL λz=>I.ok.exfs L z hL;exact#[hk,#[L,_,hf,hn,e,hd],ih (λb hb=>hs b (by unfold fK; rw[Js,hf]; exact HZ _ hb)) hr]
 exact all X.outer (λ_ hb=>hb) I.ok.funs
theorem Inv.stack (I:Inv X pins σ H s):s.heap.FunFrames X.base X.stack:=by
 rcases I.ok.stk with e|⟨e,hf⟩
 . rw[e]; exact I.funs
 . rw[e];obtain⟨m,hn,_⟩:=I.loc;refine .cons (by rw[I.ok.kind]; decide) hf hn ?_ I.funs;exact Heap.get?_none_of_le (Ht I.ok.bsz I.ok.above)
theorem Inv.stkSub (I:Inv X pins σ H s):∀b∈fK X.stack,b∈X.env.locals :: X.fs:=λb hb=>by
 rcases I.ok.stk with e|⟨e,hf⟩
 . rw[e] at hb; exact HZ _ hb
 . rw[e] at hb;unfold fK at hb;rw[Js,hf] at hb;exact hb
theorem Inv.stkFree (I:Inv X pins σ H s):∀b∈fK X.stack,H b=none:=λb hb=>by
 rcases HV.mp (I.stkSub b hb) with e|hb
 . rw[e]; exact I.free
 . obtain⟨_,o,ho,_⟩:=I.ok.funs.mem hb;exact I.base.free b o ho (I.ok.frf b hb) λz=>I.ok.exfs b z hb
theorem Inv.step {g':Array GenState} {d':Drawn} {ch:List Addr} (I:Inv X pins σ H s)
   (hch:∀b∈ch,(b∈X.ex\/X.s₀.heap.objs.size<=b)/\b≠X.env.locals/\(∀x c,X.env.cells.lookup x=some c->c≠b)/\∀p∈X.pn++pins,p.1≠b)
   (keep:∀b o,b≠X.env.locals->b ∉ X.fs->b ∉ ch->s.heap.get? b=some o->H b=none->h'.get? b=some o)
   (slot:∀b o,b≠X.env.locals->b∈X.fs->b ∉ ch->s.heap.get? b=some o->H b=none->∃sl,h'.get? b=some { o with slots:=sl }) (free:∀b o,b ∉ ch->s.heap.get? b=some o->H b=none->H' b=none)
   (there:∀b o,b ∉ ch->s.heap.get? b=some o->∃o',h'.get? b=some o')
   (tups:∀b xs,H b=some (.tup xs)->H' b=some (.tup xs)) (frzs:∀b o u,H b=some (.frz o u)->H' b=some (.frz o u)) (tbls:∀b ps,H b=some (.tbl ps)->∃more,H' b=some (.tbl (ps++more)))
   (ns:∀m,s.heap.Ns X.env.locals m->h'.Ns X.env.locals m) (hok:cC X.prog X.w H' h') (hg:AllBare g') :
   Inv X pins σ H' { s with heap:=h',gens:=g',drawn:=d',toks:=t' }:=by
 have neL:∀b o,X.s₀.heap.get? b=some o->b≠X.env.locals:=λb o e=>Hw (Hn (Ha e) I.ok.above);have neC:∀b o,X.s₀.heap.get? b=some o->b ∉ X.ex->b ∉ ch:=λb o e hx hb=>by
   rcases (hch b hb).1 with z|z
   . exact hx z
   . exact absurd (Hn (Ha e) z) (IC _)
 have cellK:∀x c,X.env.cells.lookup x=some c->∀v,s.heap.IsCell c v->h'.IsCell c v:=λx c e v ⟨o,ho,hd⟩=>by
   have nch:c ∉ ch:=λz=>(hch c z).2.2.1 x c e rfl;by_cases hc:c∈X.fs
   . obtain⟨sl,q⟩:=slot c o (I.cne x c e) hc nch ho (I.freeC x c e);exact#[_,q,hd]
   . exact#[o,keep c o (I.cne x c e) hc nch ho (I.freeC x c e),hd]
 refine#[I.ok,I.os,hg,#[λb o e n hb hx=>?_,λb o e n hb hx=>?_,λb o e n hx=>?_,λb o e hx=>?_,λb xs e=>tups b xs (I.base.tups b xs e),λb o xs e=>frzs b o xs (I.base.frzs b o xs e),λb ps e=>?_],?_,λx c e=>?_,?_,λx c e=>?_,λp hp=>?_,hok,I.len]
 . exact keep b o (neL b o e) hb (neC b o e hx) (I.base.keep b o e n hb hx) (I.base.free b o e n hx)
 . obtain⟨sl,e1⟩:=I.base.slot b o e n hb hx;obtain⟨sl',e2⟩:=slot b _ (neL b o e) hb (neC b o e hx) e1 (I.base.free b o e n hx);exact#[sl',e2]
 . obtain⟨o',e1⟩:=I.base.there b o e hx;exact free b o' (neC b o e hx) e1 (I.base.free b o e n hx)
 . obtain⟨o',e1⟩:=I.base.there b o e hx;exact there b o' (neC b o e hx) e1
 . obtain⟨m1,e1⟩:=I.base.tbls b ps e;obtain⟨m2,e2⟩:=tbls b _ e1;exact#[m1++m2,by rw[e2,Array.append_assoc]]
 . obtain⟨m,hn,hl⟩:=I.loc;refine#[m,ns m hn,λi x v e1 e2 e3=>?_];obtain⟨u,r,l⟩:=hl i x v e1 e2 e3;refine#[u,r,?_];rcases l with l|⟨k,c,e,z⟩
   . exact .inl l
   . exact .inr #[k,c,e,cellK x c e _ z]
 . obtain⟨v,z⟩:=I.cell x c e;exact#[v,cellK x c e v z]
 . obtain⟨m,⟨o,_,_,ho,_⟩,_⟩:=I.loc;exact free _ o (λz=>(hch _ z).2.1 rfl) ho I.free
 . obtain⟨v,o,ho,hd⟩:=I.cell x c e;exact free c o (λz=>(hch c z).2.2.1 x c e rfl) ho (I.freeC x c e)
 . obtain⟨e,n,ne,nf,d⟩:=I.pin p hp;have nch:p.1 ∉ ch:=λz=>(hch p.1 z).2.2.2 p hp rfl;exact#[keep p.1 p.2 ne nf nch e n,free p.1 p.2 nch e n,ne,nf,d]
theorem Inv.un (I:Inv X pins σ H s) (u:Un X.fs [] H H' s.heap h') (hok:cC X.prog X.w H' h'):Inv X pins σ H' { s with heap:=h',toks:=t' }:=by
 obtain⟨m,⟨o,es,ep,ho,r⟩,_⟩:=id I.loc;obtain⟨sl,hL⟩:=u.any ho I.free (by simp);exact I.step (g':=s.gens) (d':=s.drawn) (ch:=[]) (λ_ z=>nomatch z) (λb o _ hb _ e n=>u.keep b o e n hb (by simp)) (λb o _ hb _ e n=>u.slot b o e n hb (by simp)) (λb o _ e n=>u.free b o e n (by simp)) (λb o _ e=>u.there b o e (by simp)) u.tups u.frzs u.tbls (λm' hm=>by obtain⟨o',es',ep',ho',r'⟩:=hm;rw[ho] at ho'; cases ho';exact#[_,es',ep',hL,r']) hok I.bare
theorem Inv.call {g':Array GenState} {d':Drawn} {ch:List Addr} (I:Inv X pins σ H s) (u:Un (fK X.stack) ch H H' s.heap h') (hok:cC X.prog X.w H' h') (hg:AllBare g')
   (hch:∀b∈ch,(b∈X.ex\/X.s₀.heap.objs.size<=b)/\b≠X.env.locals/\(∀x c,X.env.cells.lookup x=some c->c≠b)/\∀p∈X.pn++pins,p.1≠b) :
   Inv X pins σ H' { s with heap:=h',gens:=g',drawn:=d',toks:=t' }:=by
 obtain⟨m,⟨o,es,ep,ho,r⟩,_⟩:=id I.loc;obtain⟨sl,hL⟩:=u.any ho I.free λz=>(hch _ z).2.1 rfl;exact I.step (ch:=ch) hch (λb o hL hb hc e n=>u.keep b o e n (λz=>(HV.mp (I.stkSub b z)).elim hL hb) hc) (λb o _ _ hc e n=>u.any e n hc) (λb o hc e n=>u.free b o e n hc) (λb o hc e=>u.there b o e hc) u.tups u.frzs u.tbls (λm' hm=>by obtain⟨o',es',ep',ho',r'⟩:=hm;rw[ho] at ho'; cases ho';exact#[_,es',ep',hL,r']) hok hg
theorem Inv.turned {it:Addr} (I:Inv X pins σ H s) (k:∀b o,b≠it->s.heap.get? b=some o->h'.get? b=some o) (hn:H it=none) (hL:it≠X.env.locals)
   (h1:it∈X.ex\/X.s₀.heap.objs.size<=it) (h2:∀x c,X.env.cells.lookup x=some c->c≠it) (h3:∀p∈X.pn++pins,p.1≠it):Inv X pins σ H { s with heap:=h',toks:=t' }:=by
 have nit:∀b u,H b=some u->b≠it:=λb u e z=>by rw[z,hn] at e; cases e
 refine I.step (g':=s.gens) (d':=s.drawn) (ch:=[it]) (λb hb=>?_) (λb o _ _ hc e _=>k b o (λz=>hc (by simp [z])) e) (λb o _ _ hc e _=>#[o.slots,k b o (λz=>hc (by simp [z])) e]) (λ_ _ _ _ n=>n)
   (λb o hc e=>#[o,k b o (λz=>hc (by simp [z])) e]) (λ_ _ e=>e) (λ_ _ _ e=>e) (λb ps e=>#[(List.toArray []),by rw[e]; simp]) (λm hm=>?_) (λb u e=>?_) I.bare
 . have e:b=it:=by simpa using hb
   subst e;exact#[h1,hL,h2,h3]
 . obtain⟨o,es,ep,ho,r⟩:=hm;exact#[o,es,ep,k _ o (Ne.symm hL) ho,r]
 . refine(I.hok b u e).stay (λc v hc q=>k c v ?_ q) (λ_ q=>q) λ_ _ q=>q;rcases hc with z|z
   . rw[z]; exact nit b u e
   . exact nit c _ z
theorem Inv.tok (I:Inv X pins σ H s) (t:Nat):Inv X pins σ H { s with toks:=t }:=I.un (h':=s.heap) (t':=t) Un.refl I.hok
theorem Inv.kept {t':Nat} (I:Inv X pins σ H s) (k:∀b u,s.heap.get? b=some u->h'.get? b=some u):Inv X pins σ H { s with heap:=h',toks:=t' }:=I.un (Un.kept k) (I.hok.kept k)
theorem Inv.laid {a:Addr} {o:HO} {t':Nat} (I:Inv X pins σ H s) (k:∀b u,s.heap.get? b=some u->h'.get? b=some u) (hp:s.heap.objs.size<=a) (new:cJ X.prog X.w (upd H a o) h' a o) :
   Inv X pins σ (upd H a o) { s with heap:=h',toks:=t' }:=I.un (Un.laid k hp (I.hok.fresh hp)) (I.hok.laid k hp new)
theorem Inv.write {x e:Addr} {o:HO} {t':Nat} (I:Inv X pins σ H s) (mu:jG (H x)) (he:e=x\/H e=some (.own x)) (k:∀b u,b≠e->s.heap.get? b=some u->h'.get? b=some u) (heo:∃u,h'.get? e=some u)
   (new:cJ X.prog X.w (upd H x o) h' x o):Inv X pins σ (upd H x o) { s with heap:=h',toks:=t' }:=I.un (Un.write mu he k heo) (I.hok.write mu he k heo new)
theorem Inv.weak {σ':List (Option V)} (I:Inv X pins σ H s) (hl:σ'.length=σ.length) (w:∀(i:Nat) v,σ'[i]?=some (some v)->σ[i]?=some (some v)):Inv X pins σ' H s :=
 #[I.ok,I.os,I.bare,I.base,let ⟨m,hn,hl'⟩:=I.loc; #[m,hn,λi x v e1 e2 e3=>hl' i x v e1 (w i v e2) e3],I.cell,I.free,I.freeC,I.pin,I.hok,hl.trans I.len]
theorem Inv.pins_of {pins':List (Addr×Obj)} (I:Inv X pins σ H s) (h:∀p∈pins',s.heap.get? p.1=some p.2/\H p.1=none/\p.1≠X.env.locals/\p.1 ∉ X.fs/\∀v,p.2.data≠.cell v):Inv X pins' σ H s :=
 #[I.ok,I.os,I.bare,I.base,I.loc,I.cell,I.free,I.freeC,λp hp=>(Hg.mp hp).elim (λz=>I.pin p (JH _ z)) (h p),I.hok,I.len]
theorem wN {N:List Str} (hN:N.Nodup) {i j:Nat} (a:N[i]?=some x) (b:N[j]?=some x):i=j:=by obtain⟨h1,e1⟩:=HL.mp a;obtain⟨h2,e2⟩:=HL.mp b;exact(List.getElem_inj hN).mp (e1.trans e2.symm)
theorem su {i:Nat} {Q:Unit->Shared->Prop} (I:Inv X pins σ H s) (hN:X.N.Nodup) (hi:X.N[i]?=some x) (hx:jp X.env.scope x) (r:bF v u)
   (h:∀s',Inv X pins (σ.set i (some v)) H s'->(∃a,Heap.SameBut a s.heap s'.heap/\(a=X.env.locals\/X.env.cells.lookup x=some a))->Q () s') (hf:X.fn x=true\/X.env.scope.names.lookup x=some .local:=by first|exact .inl rfl|exact .inr rfl|assumption):wpAny M A (storeName X.env x u) Q E s:=by
 obtain⟨m,hn,hl⟩:=id I.loc;have hcls:(X.env.scope.kind==.class || (X.env.scope.kind==.module&&X.env.locals != X.env.globals))=false:=by rw[I.ok.kind]; rfl
 have hiσ:i<σ.length:=by rw[I.len]; exact(HL.mp hi).1
 have cne:=I.cne;have tracked:∀{a:Addr} {h':Heap},(∃o,s.heap.get? a=some o/\H a=none)->Heap.SameBut a s.heap h'->cC X.prog X.w H h':=λ{a h'} ha hs b ob e=>by
   obtain⟨_,_,hfree⟩:=ha;refine(I.hok b ob e).stay (λc w' hc q=>(hs.2 c ?_).trans q) (λ_ q=>q) λ_ _ q=>q;rintro rfl;rcases hc with rfl|hc
   . rw[hfree] at e; cases e
   . rw[hfree] at hc; cases hc
 rcases hx with hk|hk
 . refine wpAny_storeName_local hk hn (λh' hn' hs=>?_) hcls;obtain⟨oL,_,_,hoL,_⟩:=id hn;refine h _ #[I.ok,I.os,I.bare,#[λb o e n hb hx=>?_,λb o e n hb hx=>?_,I.base.free,λb o e hx=>?_,I.base.tups,I.base.frzs,I.base.tbls],#[_,hn',λj y v' e1 e2 e3=>?_],λy c e=>?_,I.free,I.freeC,λp hp=>?_,tracked #[oL,hoL,I.free] hs,by simpa using I.len] #[_,hs,.inl rfl]
   . exact(hs.2 b (Hw (Hn (Ha e) I.ok.above))).trans (I.base.keep b o e n hb hx)
   . obtain⟨sl,e1⟩:=I.base.slot b o e n hb hx;exact#[sl,(hs.2 b (Hw (Hn (Ha e) I.ok.above))).trans e1]
   . obtain⟨o',e1⟩:=I.base.there b o e hx;exact#[o',(hs.2 b (Hw (Hn (Ha e) I.ok.above))).trans e1]
   . by_cases hj:j=i
     . subst hj;rw[hi] at e1; cases e1;rw[Iw hiσ] at e2;cases e2;exact#[u,r,.inl #[hk,by simp]]
     . rw[J4 (Ne.symm hj)] at e2;obtain⟨u',r',q⟩:=hl j y v' e1 e2 e3;refine#[u',r',?_];rcases q with⟨k,e⟩|⟨k,c,e,z⟩
       . refine .inl #[k,?_];have:y≠x:=λe=>hj (wN hN e1 (e ▸ hi));simp [this,e]
       . exact .inr #[k,c,e,z.sameBut hs (cne y c e)]
   . obtain⟨w',z⟩:=I.cell y c e;exact#[w',z.sameBut hs (cne y c e)]
   . obtain⟨e,n,ne,nf,d⟩:=I.pin p hp;exact#[(hs.2 p.1 ne).trans e,n,ne,nf,d]
 . have hfn:X.fn x=true:=by
     rcases hf with z|z
     . exact z
     . rw[z] at hk; cases hk
   obtain⟨c,hc⟩:=I.ok.has x (.inl hk);obtain⟨w',z⟩:=I.cell x c hc;refine wpAny_storeName_cell I.ok.kind hk hc z (λh' hc' hs=>?_);obtain⟨oc,hoc,hocd⟩:=id z;refine h { s with heap:=h' } #[I.ok,I.os,I.bare,#[λb o e n hb hx=>?_,λb o e n hb hx=>?_,I.base.free,λb o e hx=>?_,I.base.tups,I.base.frzs,I.base.tbls],#[m,hn.sameBut hs (Ne.symm (cne x c hc)),λj y v' e1 e2 e3=>?_],λy c' e=>?_,I.free,I.freeC,λp hp=>?_,tracked #[oc,hoc,I.freeC x c hc] hs,by simpa using I.len] #[c,hs,.inr hc]
   . exact(hs.2 b (Hw (Hn (Ha e) (I.ok.cab x c hfn hc)))).trans (I.base.keep b o e n hb hx)
   . obtain⟨sl,e1⟩:=I.base.slot b o e n hb hx;exact#[sl,(hs.2 b (Hw (Hn (Ha e) (I.ok.cab x c hfn hc)))).trans e1]
   . obtain⟨o',e1⟩:=I.base.there b o e hx;exact#[o',(hs.2 b (Hw (Hn (Ha e) (I.ok.cab x c hfn hc)))).trans e1]
   . by_cases hj:j=i
     . subst hj;rw[hi] at e1; cases e1;rw[Iw hiσ] at e2;cases e2;exact#[u,r,.inr #[.inl hk,c,hc,hc']]
     . rw[J4 (Ne.symm hj)] at e2;obtain⟨u',r',q⟩:=hl j y v' e1 e2 e3;refine#[u',r',?_];rcases q with q|⟨k,c',e,z'⟩
       . exact .inl q
       . refine .inr #[k,c',e,z'.sameBut hs ?_];rintro rfl;exact hj (wN hN e1 (I.ok.inj _ _ _ e hc ▸ hi))
   . by_cases hcc:c'=c
     . subst hcc; exact#[_,hc']
     . obtain⟨w2,z2⟩:=I.cell y c' e;exact#[w2,z2.sameBut hs hcc]
   . obtain⟨e,n,ne,nf,d⟩:=I.pin p hp;refine#[(hs.2 p.1 ?_).trans e,n,ne,nf,d];intro q;rw[q,hoc] at e;have q':oc=p.2:=Option.some.inj e;exact d w' (by rw[<- q']; exact hocd)
theorem rm {i:Nat} {Q:Unit->Shared->Prop} (I:Inv X pins σ H s) (hN:X.N.Nodup) (hi:X.N[i]?=some x) (hx:jp X.env.scope x) (r:bF v u)
   (h:∀s',Inv X pins (σ.set i (some v)) H s'->Q () s') (hf:X.fn x=true\/X.env.scope.names.lookup x=some .local:=by first|exact .inl rfl|exact .inr rfl|assumption):wpAny M A (storeName X.env x u) Q E s :=
 su I hN hi hx r (λs' I' _=>h s' I') hf
theorem Inv.call' {s':Shared} {ch:List Addr} (I:Inv X pins σ H s) (ho:s'.os=s.os) (u:Un (fK X.stack) ch H H' s.heap s'.heap) (hok:cC X.prog X.w H' s'.heap) (hg:AllBare s'.gens)
   (hch:∀b∈ch,(b∈X.ex\/X.s₀.heap.objs.size<=b)/\b≠X.env.locals/\(∀x c,X.env.cells.lookup x=some c->c≠b)/\∀p∈X.pn++pins,p.1≠b):Inv X pins σ H' s':=by
 obtain⟨h',g',d',t',o'⟩:=s';have e:o'=s.os:=ho;subst e;exact I.call (g':=g') (t':=t') (d':=d') u hok hg hch
end
abbrev XK:=Value->Option Addr->Hp->Prop
abbrev St:=List (Option V)
abbrev VK:=V->Hp->Prop
abbrev TE:=St->Hp->VK->Prop
abbrev TT:=St->Hp->(Bool->Hp->Prop)->Prop
abbrev TA:=St->Hp->(List V->Hp->Prop)->Prop
structure cF where
 nx:St->Hp->Prop
 rt:VK
 bk:St->Hp->Prop:=λ_ _=>False
 ct:St->Hp->Prop:=λ_ _=>False
abbrev TS:=cF->St->Hp->Prop
def EP (X:Cx) (pins:List (Addr×Obj)) (σ:St) (Q:VK) (u:Value) (s':Shared):Prop:=∃v H',Inv X pins σ H' s'/\bF v u/\Q v H'
def TP (X:Cx) (pins:List (Addr×Obj)) (σ:St) (Q:Bool->Hp->Prop) (b:Bool) (s':Shared):Prop:=∃H',Inv X pins σ H' s'/\Q b H'
def AP (X:Cx) (pins:List (Addr×Obj)) (σ:St) (Q:List V->Hp->Prop) (us:List Value) (s':Shared):Prop:=∃vs H',Inv X pins σ H' s'/\ax vs us/\Q vs H'
def SP (X:Cx) (pins:List (Addr×Obj)) (D:cF) (f:Flow) (s':Shared):Prop :=
 match f with
 | .next=>∃σ' H',Inv X pins σ' H' s'/\D.nx σ' H'
 | .brk=>∃σ' H',Inv X pins σ' H' s'/\D.bk σ' H'
 | .cont=>∃σ' H',Inv X pins σ' H' s'/\D.ct σ' H'
 | .ret u=>∃v σ' H',Inv X pins σ' H' s'/\bF v u/\D.rt v H'
def PE (X:Cx) (e:Expr) (t:TE):Prop :=
 ∀(pins:List (Addr×Obj)) (s:Shared) (σ:St) (H:Hp) (Q:VK),Inv X pins σ H s->t σ H Q->wpAny (model X.prog X.w) X.A (eval e X.env) (EP X pins σ Q) X.xe s
def PT (X:Cx) (e:Expr) (t:TT):Prop :=
 ∀(pins:List (Addr×Obj)) (s:Shared) (σ:St) (H:Hp) (Q:Bool->Hp->Prop),Inv X pins σ H s->t σ H Q->wpAny (model X.prog X.w) X.A (isTrue e X.env (eval e X.env)) (TP X pins σ Q) X.xe s
def PW (X:Cx) (e:Expr) (t:TT):Prop :=
 ∀(whole:Sem Value) (pins:List (Addr×Obj)) (s:Shared) (σ:St) (H:Hp) (Q:Bool->Hp->Prop),Inv X pins σ H s->t σ H Q->wpAny (model X.prog X.w) X.A (isTrue e X.env whole) (TP X pins σ Q) X.xe s
theorem PW.pt {X:Cx} {e:Expr} {t:TT} (h:PW X e t):PT X e t:=h _
def PA (X:Cx) (es:List Expr) (t:TA):Prop :=
 ∀(pos:Pos) (pins:List (Addr×Obj)) (s:Shared) (σ:St) (H:Hp) (Q:List V->Hp->Prop),Inv X pins σ H s->t σ H Q->wpAny (model X.prog X.w) X.A (spliced (backTo pos (starEach es X.env))) (AP X pins σ Q) X.xe s
def PS (X:Cx) (st:Stmt) (t:TS):Prop :=
 ∀(pins:List (Addr×Obj)) (s:Shared) (σ:St) (H:Hp) (D:cF),Inv X pins σ H s->t D σ H->wpAny (model X.prog X.w) X.A (exec st X.env) (SP X pins D) X.xe s
def bV (X:Cx) (st:List Stmt) (t:TS):Prop :=
 ∀(pins:List (Addr×Obj)) (s:Shared) (σ:St) (H:Hp) (D:cF),Inv X pins σ H s->t D σ H->wpAny (model X.prog X.w) X.A (execs st X.env) (SP X pins D) X.xe s
variable {s:Shared}
theorem aq {α:Type} {t:Sem α} {Q Q':α->Shared->Prop} (h:wpAny M A t Q E s) (hQ:∀a s,Q a s->Q' a s):wpAny M A t Q' E s:=JS h hQ λ_ _ x=>x
variable {pos:Pos} {pins:List (Addr×Obj)} {σ:St} {op:CmpOp}
section
variable {X:Cx}
def uo (i:Nat):TE:=λσ H Q=>∃v,σ[i]?=some (some v)/\Q v H
def tC (v:V):TE:=λ_ H Q=>Q v H
theorem A1 {i:Nat} (hN:X.N[i]?=some x) (hv:lI X.env.scope x) (hd:(x==("__debug__":Str))=false:=by decide) (hcd:(x==("__classdict__":Str))=false:=by decide):PE X (.Name x pos) (uo i):=by
 intro pins s σ H Q I h;obtain⟨v,e,h⟩:=h;obtain⟨m,hn,hl⟩:=I.loc;obtain⟨u,r,l⟩:=hl i x v hN e hv;have fin:EP X pins σ Q u s:=#[v,H,I,r,h]
 rcases l with⟨hk,hm⟩|⟨hk,c,hc,hcell⟩
 . exact wpAny_Name (wpAny_loadName_local I.ok.kind hk hn hm fin) hd
 . rcases hk with hk|hk
   . exact wpAny_Name (wpAny_loadName_cell I.ok.kind hk hc hcell fin) hd
   . exact wpAny_Name (wpAny_loadName_free I.ok.kind hk hc hcell fin hcd) hd
theorem aD {i j pos}:PE X (.Constant (.int i) j pos) (tC (.int i)):=λ_ _ _ H _ I h=>wpAny_Constant_int #[.int i,H,I.tok _,#[_,rfl],h]
theorem d9 {b j pos}:PE X (.Constant (.bool b) j pos) (tC (.bl b)):=λ_ _ _ H _ I h=>Constant_bool #[.bl b,H,I,rfl,h]
theorem dX {j pos}:PE X (.Constant .none j pos) (tC .non):=λ_ _ _ H _ I h=>Constant_none #[.non,H,I,rfl,h]
theorem aQ {x j pos}:PE X (.Constant (.str x) j pos) (tC (.str x)):=λ_ _ _ H _ I h=>Calls.Constant_str #[.str x,H,I.tok _,#[_,rfl],h]
def Gl (X:Cx) (x:Str):Prop:=X.env.kindOf x=some .globalImplicit
theorem pk {Q:Value->Shared->Prop} (I:Inv X pins σ H s) (hg:Gl X x) (hm:X.mg x=some u) (h:Q u s)
   (hd:(x==("__debug__":Str))=false:=by decide):wpAny (model X.prog X.w) X.A (eval (.Name x pos) X.env) Q E s :=
 Calls.Name_function_global I.ok.kind hg (Calls.loadGlobal_global (by rw[I.ok.glob]; exact I.mod.glob.keeps I.bk) hm h) hd
theorem gF {Q:Value->Shared->Prop} (I:Inv X pins σ H s) (hg:Gl X x) (hm:X.mg x=none) (hv:bootBuiltins x=some u) (h:Q u s)
   (hn:x≠"__name__":=by decide) (hd:(x==("__debug__":Str))=false:=by decide):wpAny (model X.prog X.w) X.A (eval (.Name x pos) X.env) Q E s:=by
 obtain⟨mb,h1,h2⟩:=I.mod.blt;exact Calls.Name_function_global I.ok.kind hg (Calls.loadGlobal_builtin (by rw[I.ok.glob]; exact I.mod.glob.keeps I.bk) hm (by rw[I.ok.blt]; exact h1.keeps I.bk) ((h2 x hn).trans hv) h) hd
theorem tQ (hg:Gl X x) (hm:X.mg x=some u) (r:bF v u) (hd:(x==("__debug__":Str))=false:=by decide):PE X (.Name x pos) (tC v) :=
 λ_ _ _ H _ I h=>pk I hg hm #[v,H,I,r,h] hd
theorem lX (hg:Gl X x) (hm:X.mg x=none) (hv:bootBuiltins x=some u) (r:bF v u) (hn:x≠"__name__":=by decide) (hd:(x==("__debug__":Str))=false:=by decide):PE X (.Name x pos) (tC v) :=
 λ_ _ _ H _ I h=>gF I hg hm hv #[v,H,I,r,h] hn hd
variable {a b:Expr} {ta tb:TE} {pos:Pos}
def PC (X:Cx) (op:CmpOp) (a b:Expr) (t:TE):Prop :=
 ∀(pins:List (Addr×Obj)) (s:Shared) (σ:St) (H:Hp) (Q:VK),Inv X pins σ H s->t σ H Q ->
   wpAny (model X.prog X.w) X.A (eval a X.env) (λv s₁=>wpAny (model X.prog X.w) X.A (eval b X.env) (λu s₂=>wpAny (model X.prog X.w) X.A (compareOp op v u) (EP X pins σ Q) X.xe s₂) X.xe s₁) X.xe s
theorem AJ (b:Expr) (h:op≠.In) (h2:op≠.NotIn):behindInMarks op b=false:=by
 have e1:(op==CmpOp.In)=false:=by cases op <;> first|rfl|exact absurd rfl h
 have e2:(op==CmpOp.NotIn)=false:=by cases op <;> first|rfl|exact absurd rfl h2
 cases b <;> simp [behindInMarks,e1,e2]
def zd (ta:TE):TE:=λσ H Q=>ta σ H λx H1=>Q (.bl (decide (x=.non))) H1
def CJ (ta:TE):TE:=λσ H Q=>ta σ H λx H1=>Q (.bl (!decide (x=.non))) H1
theorem bF.none_iff {x:V} {v:Value} (r:bF x v):(v==Value.none)=decide (x=.non):=by
 cases x with
 | non=>cases r; rfl
 | bl _=>cases r; rfl
 | int _=>obtain⟨t,rfl⟩:=r; rfl
 | str _=>obtain⟨t,rfl⟩:=r; rfl
 | byt _=>obtain⟨t,rfl⟩:=r; rfl
 | flt _=>obtain⟨t,rfl⟩:=r; rfl
 | ref _=>cases r; rfl
 | ty _=>cases r; rfl
theorem jL {j pos'} (ha:PE X a ta):PC X .Is a (.Constant .none j pos') (zd ta):=by intro pins s σ H Q I h;refine aq (ha pins s σ H _ I h) λv s1 ⟨x,H1,I1,r1,q1⟩=>?_;exact Constant_none (is_none_gen #[.bl _,H1,I1,by rw[r1.none_iff]; rfl,q1])
theorem fZ {j pos'} (ha:PE X a ta):PC X .IsNot a (.Constant .none j pos') (CJ ta):=by intro pins s σ H Q I h;refine aq (ha pins s σ H _ I h) λv s1 ⟨x,H1,I1,r1,q1⟩=>?_;exact Constant_none (isnot_none_gen #[.bl _,H1,I1,by rw[r1.none_iff]; rfl,q1])
def tB (t:TE):TT:=λσ H Q=>t σ H λx H1=>∃c,x=.bl c/\Q c H1
theorem dG {t:TE} (h:PC X op a b t) (h1:behindInMarks op b=false:=by first|exact AJ _ (by decide) (by decide)|rfl):PT X (.Compare a [op] [b] pos) (tB t):=by intro pins s σ H Q I hw;refine Jh (aq (h pins s σ H _ I hw) λv s1 h1=>aq h1 λu s2 h2=>aq h2 λc s3 ⟨x,H1,I1,r1,q1⟩=>?_) h1;obtain⟨d,rfl,q⟩:=q1;cases r1;exact IT #[H1,I1,q]
variable {tA tB':TT} {rest:List Expr}
def Bv (t u:TT):TT:=λσ H Q=>t σ H λc H1=>if c=true then u σ H1 Q else Q false H1
def tOr (t u:TT):TT:=λσ H Q=>t σ H λc H1=>if c=true then Q true H1 else u σ H1 Q
def Ci (t:TT):TT:=λσ H Q=>t σ H λc H1=>Q (!c) H1
theorem dJ (ha:PT X a tA):PW X (.BoolOp .And [a] pos) tA:=by
 intro wh pins s σ H Q I h;refine isTrue_and (aq (ha pins s σ H Q I h) λc s1 e=>?_);cases c with
 | true=>exact isTrue_and_nil e
 | false=>exact e
theorem iZ (ha:PT X a tA):PW X (.BoolOp .Or [a] pos) tA:=by
 intro wh pins s σ H Q I h;refine isTrue_or (aq (ha pins s σ H Q I h) λc s1 e=>?_);cases c with
 | false=>exact isTrue_or_nil e
 | true=>exact e
theorem dA (ha:PT X a tA) (hb:PW X (.BoolOp .And (b :: rest) pos) tB'):PW X (.BoolOp .And (a :: b :: rest) pos) (Bv tA tB'):=by
 intro wh pins s σ H Q I h;refine isTrue_and (aq (ha pins s σ H _ I h) λc s1 ⟨H1,I1,q1⟩=>?_);cases c with
 | true=>exact hb wh pins s1 σ H1 Q I1 q1
 | false=>exact#[H1,I1,q1]
theorem hU (ha:PT X a tA) (hb:PW X (.BoolOp .Or (b :: rest) pos) tB'):PW X (.BoolOp .Or (a :: b :: rest) pos) (tOr tA tB'):=by
 intro wh pins s σ H Q I h;refine isTrue_or (aq (ha pins s σ H _ I h) λc s1 ⟨H1,I1,q1⟩=>?_);cases c with
 | true=>exact#[H1,I1,q1]
 | false=>exact hb wh pins s1 σ H1 Q I1 q1
theorem gk (ha:PT X a tA):PT X (.UnaryOp .Not a pos) (Ci tA):=by intro pins s σ H Q I h;exact isTrue_not (ha pins s σ H (λc H1=>Q (!c) H1) I h)
def GL (ta tb:TE):TE:=λσ H Q=>ta σ H λx H1=>∃c,x=.bl c/\if c=true then tb σ H1 Q else Q (.bl false) H1
def Gy (ta:TE):TE:=λσ H Q=>ta σ H λx H1=>∃c,x=.bl c/\Q (.bl (!c)) H1
theorem oN {op} {t:TE} (h:PE X a t):PE X (.BoolOp op [a] pos) t:=λpins s σ H Q I hw=>BoolOp_one (h pins s σ H Q I hw)
theorem lF (ha:PE X a ta) (hb:PE X (.BoolOp .And (b :: rest) pos) tb):PE X (.BoolOp .And (a :: b :: rest) pos) (GL ta tb):=by
 intro pins s σ H Q I h;refine BoolOp_and (aq (ha pins s σ H _ I h) λv s1 ⟨x,H1,I1,r1,q1⟩=>?_);obtain⟨c,rfl,q1⟩:=q1;cases r1;refine IT ?_;cases c with
 | true=>exact hb pins s1 σ H1 Q I1 q1
 | false=>exact#[.bl false,H1,I1,rfl,q1]
theorem DQ (ha:PE X a ta):PE X (.UnaryOp .Not a pos) (Gy ta):=by intro pins s σ H Q I h;refine UnaryOp_ (aq (ha pins s σ H _ I h) λv s1 ⟨x,H1,I1,r1,q1⟩=>?_);obtain⟨c,rfl,q1⟩:=q1;cases r1;exact not_of (IT #[.bl (!c),H1,I1,rfl,q1])
def tIf (t:TT) (ta tb:TE):TE:=λσ H Q=>t σ H λc H1=>if c=true then ta σ H1 Q else tb σ H1 Q
theorem ig {c:Expr} (hc:PT X c tA) (ha:PE X a ta) (hb:PE X b tb):PE X (.IfExp c a b pos) (tIf tA ta tb):=by
 intro pins s σ H Q I h;refine wpAny_IfExp (aq (hc pins s σ H _ I h) λd s1 ⟨H1,I1,q1⟩=>?_);cases d with
 | true=>exact ha pins s1 σ H1 Q I1 q1
 | false=>exact hb pins s1 σ H1 Q I1 q1
end
def aK (K:W.Frag) (H:Hp) (a:Addr) (xs:List V):Prop :=
 Rd H a (.lst xs) \/
   ∃(o:Obj) (its:Array Value) (n:Nat),K.lookup a=some o/\o.cls=.type "list"/\o.dict=none/\o.data=.seq its n/\its.size<=sizeLine/\ax xs its.toList
def aG (K:W.Frag) (H:Hp) (a:Addr) (xs:List V):Prop :=
 Rd H a (.tup xs) \/
   ∃(o:Obj) (its:Array Value) (n:Nat),K.lookup a=some o/\o.cls=.type "tuple"/\o.data=.seq its n/\its.size<=sizeLine/\ax xs its.toList
def Ft:Value->Option V
 | .none=>some .non
 | .bool b=>some (.bl b)
 | .int i _=>some (.int i)
 | .str x _=>some (.str x)
 | .bytes b _=>some (.byt b)
 | .float b _=>some (.flt b)
 | .ref a=>some (.ref a)
 | .type n=>some (.ty n)
 | _=>none
theorem bF.abs {x:V} (r:bF x u):Ft u=some x:=by
 cases x with
 | non=>cases r; rfl
 | bl _=>cases r; rfl
 | int _=>obtain⟨t,rfl⟩:=r; rfl
 | str _=>obtain⟨t,rfl⟩:=r; rfl
 | byt _=>obtain⟨t,rfl⟩:=r; rfl
 | flt _=>obtain⟨t,rfl⟩:=r; rfl
 | ref _=>cases r; rfl
 | ty _=>cases r; rfl
theorem bF.inj {x y:V} {u:Value} (r:bF x u) (q:bF y u):x=y:=Option.some.inj (r.abs.symm.trans q.abs)
theorem ax.inj:∀{xs ys:List V} {us:List Value},ax xs us->ax ys us->xs=ys
 | _,_,_,.nil,.nil=>rfl
 | _,_,_,.cons r t,.cons r' t'=>by rw[r.inj r',ax.inj t t']
variable {K:W.Frag}
section
variable {X:Cx} {pins:List (Addr×Obj)} {σ:St} {H:Hp} {s:Shared} {a:Addr} {xs ys:List V}
theorem aK.of (h:H a=some (.lst xs)):aK K H a xs:=.inl (.inl h)
theorem aG.of (h:H a=some (.tup xs)):aG K H a xs:=.inl (.inl h)
theorem Inv.list (I:Inv X pins σ H s) (h:aK X.K H a xs):∃its:List Value,ax xs its/\PlainL s.heap a its.toArray/\xs.length<=sizeLine:=by
 rcases h with h|⟨o,its,n,hk,hc,hd,hs,hz,r⟩
 . obtain⟨z,its,n,r,e⟩:=h.ok I.hok;exact#[its,r,#[_,n,e,rfl,rfl,rfl],z]
 . refine#[its.toList,r,#[o,n,I.kIn a o hk,hc,hd,by simpa using hs],?_];have e:=r.length;simp only[Jt] at e;omega
theorem Inv.tuple (I:Inv X pins σ H s) (h:aG X.K H a xs):∃its:List Value,ax xs its/\IsTup s.heap a its.toArray/\xs.length<=sizeLine:=by
 rcases h with h|⟨o,its,n,hk,hc,hs,hz,r⟩
 . obtain⟨z,its,r,p⟩:=h.ok I.hok;exact#[its,r,p,z]
 . refine#[its.toList,r,#[o,I.kIn a o hk,hc,n,by simpa using hs],?_];have e:=r.length;simp only[Jt] at e;omega
theorem Inv.list_inj (I:Inv X pins σ H s) (h:aK X.K H a xs) (h':aK X.K H a ys):xs=ys:=by
 obtain⟨its,r,⟨o,n,e,_,_,d⟩,_⟩:=I.list h;obtain⟨its',r',⟨o',n',e',_,_,d'⟩,_⟩:=I.list h';rw[e] at e'; cases e';rw[d] at d';injection d' with d1 _
 have:its=its':=by simpa using Hb Array.toList d1
 subst this;exact r.inj r'
theorem Inv.tuple_inj (I:Inv X pins σ H s) (h:aG X.K H a xs) (h':aG X.K H a ys):xs=ys:=by
 obtain⟨its,r,⟨o,e,_,n,d⟩,_⟩:=I.tuple h;obtain⟨its',r',⟨o',e',_,n',d'⟩,_⟩:=I.tuple h';rw[e] at e'; cases e';rw[d] at d';injection d' with d1 _
 have:its=its':=by simpa using Hb Array.toList d1
 subst this;exact r.inj r'
end
abbrev Cx.wish (X:Cx) (E:Value->Shared->Prop):Cx:={ X with xe:=E }
abbrev Cx.nox (X:Cx):Cx:=X.wish λ_ _=>False
variable {X:Cx}
theorem Cx.Ok.wish (ok:X.Ok) (E:Value->Shared->Prop):(X.wish E).Ok :=
 #[ok.mod,ok.kind,ok.glob,ok.blt,ok.above,ok.inj,ok.has,ok.cab,ok.hd,ok.frames,ok.stk,ok.exf,ok.bs,ok.bsz,ok.noex,ok.exfs,ok.funs,ok.frf]
theorem Cx.Ok.unwish (ok:(X.wish E).Ok):X.Ok :=
 #[ok.mod,ok.kind,ok.glob,ok.blt,ok.above,ok.inj,ok.has,ok.cab,ok.hd,ok.frames,ok.stk,ok.exf,ok.bs,ok.bsz,ok.noex,ok.exfs,ok.funs,ok.frf]
section
variable {X:Cx} {pins:List (Addr×Obj)} {σ:St} {H:Hp} {s:Shared} {E:Value->Shared->Prop}
theorem Inv.wish (I:Inv X pins σ H s) (E:Value->Shared->Prop):Inv (X.wish E) pins σ H s:=#[I.ok.wish E,I.os,I.bare,I.base,I.loc,I.cell,I.free,I.freeC,I.pin,I.hok,I.len]
theorem Inv.unwish (I:Inv (X.wish E) pins σ H s):Inv X pins σ H s:=#[I.ok.unwish,I.os,I.bare,I.base,I.loc,I.cell,I.free,I.freeC,I.pin,I.hok,I.len]
theorem SP.unwish {D:cF} {f:Flow} {s':Shared} (h:SP (X.wish E) pins D f s'):SP X pins D f s':=by
 cases f with
 | next=>obtain⟨σ',H',I,q⟩:=h; exact#[σ',H',I.unwish,q]
 | brk=>obtain⟨σ',H',I,q⟩:=h; exact#[σ',H',I.unwish,q]
 | cont=>obtain⟨σ',H',I,q⟩:=h; exact#[σ',H',I.unwish,q]
 | ret u=>obtain⟨v,σ',H',I,r,q⟩:=h; exact#[v,σ',H',I.unwish,r,q]
theorem bV.nox {st:List Stmt} {t:TS} (h:bV X.nox st t):bV X st t:=λpins s σ H D I hw =>
 JS (h pins s σ H D (I.wish _) hw) (λ_ _ q=>q.unwish) λ_ _ z=>False.elim z
end
section
variable {X:Cx} {st:Stmt} {rest:List Stmt} {t u:TS} {e:Expr} {te:TE} {pos:Pos}
def Gw:TS:=λD σ H=>D.nx σ H
def Co (t u:TS):TS:=λD σ H=>t { D with nx:=u D } σ H
theorem al:bV X [] Gw:=λ_ _ σ H _ I h=>KU #[σ,H,I,h]
theorem aM (h1:PS X st t) (h2:bV X rest u):bV X (st :: rest) (Co t u):=by
 intro pins s σ H D I h;refine KF (aq (h1 pins s σ H { D with nx:=u D } I h) λf s1 q=>?_);cases f with
 | next =>
   obtain⟨σ',H',I',q⟩:=q;exact h2 pins s1 σ' H' D I' q
 | ret v=>exact q
 | brk=>exact q
 | cont=>exact q
theorem aP (h1:PS X st t):bV X [st] t:=by
 intro pins s σ H D I h;refine KF (aq (h1 pins s σ H D I h) λf s1 q=>?_);cases f with
 | next=>exact KU q
 | ret v=>exact q
 | brk=>exact q
 | cont=>exact q
theorem Inv.quiet (I:Inv X pins σ H s):interactive X.env=false:=by simp [interactive,I.ok.kind]
def Fj (te:TE):TS:=λD σ H=>te σ H λ_ H1=>D.nx σ H1
theorem ee (he:PE X e te) (hs:swapsWith e none pos.line X.env=pure false:=by rfl):PS X (.Expr e pos) (Fj te):=by intro pins s σ H D I h;exact wpAny_Expr_any (aq (he pins s σ H _ I h) λv s1 ⟨x,H1,I1,r1,q1⟩=>#[σ,H1,I1,q1]) I.quiet hs
def zM (te:TE):TS:=λD σ H=>te σ H D.rt
theorem aa (he:PE X e te):PS X (.Return (some e) pos) (zM te):=by intro pins s σ H D I h;exact wpAny_Return_some (aq (he pins s σ H _ I h) λv s1 ⟨x,H1,I1,r1,q1⟩=>#[x,σ,H1,I1,r1,q1])
def AY (c:TT) (t u:TS):TS:=λD σ H=>c σ H λb H1=>if b=true then t D σ H1 else u D σ H1
theorem ao {c:Expr} {a b:List Stmt} {tc:TT} (hc:PT X c tc) (ha:bV X a t) (hb:bV X b u):PS X (.If c a b pos) (AY tc t u):=by
 intro pins s σ H D I h;refine wpAny_If (aq (hc pins s σ H _ I h) λd s1 ⟨H1,I1,q1⟩=>?_);cases d with
 | true=>exact ha pins s1 σ H1 D I1 q1
 | false=>exact hb pins s1 σ H1 D I1 q1
end
abbrev TG:=V->St->Hp->(St->Hp->Prop)->Prop
abbrev fi:=List V->St->Hp->(St->Hp->Prop)->Prop
def PG (X:Cx) (target:Expr) (t:TG):Prop :=
 ∀(pins:List (Addr×Obj)) (s:Shared) (σ:St) (H:Hp) (v:V) (u:Value) (Q:St->Hp->Prop),Inv X pins σ H s->bF v u->t v σ H Q ->
   wpAny (model X.prog X.w) X.A (assign target X.env u) (λ_ s'=>∃σ' H',Inv X pins σ' H' s'/\Q σ' H') X.xe s
def mM (X:Cx) (ts:List Expr) (t:fi):Prop :=
 ∀(pins:List (Addr×Obj)) (s:Shared) (σ:St) (H:Hp) (vs:List V) (us:List Value) (Q:St->Hp->Prop),Inv X pins σ H s->ax vs us->t vs σ H Q ->
   wpAny (model X.prog X.w) X.A (assignInOrder ((assignEach ts X.env).map (·.2)) us) (λ_ s'=>∃σ' H',Inv X pins σ' H' s'/\Q σ' H') X.xe s
abbrev qb:=V->V->V->Hp->(Hp->Prop)->Prop
def rH (X:Cx) (t:qb):Prop :=
 ∀(pins:List (Addr×Obj)) (s:Shared) (σ:St) (H:Hp) (o i v:V) (ov iv u:Value) (Q:Hp->Prop),Inv X pins σ H s->bF o ov->bF i iv->bF v u->t o i v H Q ->
   wpAny (model X.prog X.w) X.A (setItem ov iv u) (λ_ s'=>∃H',Inv X pins σ H' s'/\Q H') X.xe s
variable {e tg:Expr} {g:TG}
section
variable {X:Cx} {pos:Pos}
def ii (i:Nat):TG:=λv σ H Q=>Q (σ.set i (some v)) H
theorem bS {i:Nat} (hN:X.N.Nodup) (hi:X.N[i]?=some x) (hx:jp X.env.scope x) (hf:X.fn x=true\/X.env.scope.names.lookup x=some .local:=by first|exact .inl rfl|exact .inr rfl|assumption):PG X (.Name x pos) (ii i):=by intro pins s σ H v u Q I r h;exact wpAny_assign_Name (rm I hN hi hx r (λs' I'=>#[_,H,I',h]) hf)
def rJ:fi:=λvs σ H Q=>vs=[]/\Q σ H
def sM (t:TG) (u:fi):fi:=λvs σ H Q=>∃v r,vs=v :: r/\t v σ H λσ' H'=>u r σ' H' Q
theorem di:mM X [] rJ:=by intro pins s σ H vs us Q I r h;obtain⟨e,h⟩:=h;subst e;cases r;exact assignInOrder_nil #[σ,H,I,h]
theorem c7 {es:List Expr} {t:TG} {u:fi} (h1:PG X e t) (h2:mM X es u)
   (hs:(assignEach (e :: es) X.env).map (·.2)=assign e X.env :: (assignEach es X.env).map (·.2):=by rfl):mM X (e :: es) (sM t u):=by
 intro pins s σ H vs us Q I r h;obtain⟨v,vr,e1,h⟩:=h;subst e1;cases r with
 | cons r rr =>
   rw[hs];refine assignInOrder_cons (aq (h1 pins s σ H _ _ _ I r h) λ_ s1 ⟨σ1,H1,I1,q1⟩=>?_);exact h2 pins s1 σ1 H1 _ _ Q I1 rr q1
def mK (K:W.Frag) (n:Nat) (t:fi):TG:=λv σ H Q=>∃a xs,v=.ref a/\aG K H a xs/\xs.length=n/\t xs σ H Q
theorem dn {es:List Expr} {k:Nat} {t:fi} {n:Nat} (hc:X.calm=true) (h:mM X es t)
   (hn:(assignEach es X.env).length=n:=by rfl) (hst:(assignEach es X.env).findIdx? (·.1)=none:=by rfl):PG X (.Tuple es k pos) (mK X.K n t):=by
 intro pins s σ H v u Q I r hw;obtain⟨a,xs,e1,hq,hl,hw⟩:=hw;subst e1;cases r;obtain⟨its,rv,ht,hz⟩:=I.tuple hq;refine assign_Tuple_tuple (I.ok.hd hc) ht (by simp [hn,<- hl,rv.length]) hst λh' hx=>?_;have I1:Inv X pins σ H { s with heap:=h' }:=I.kept (t':=s.toks) λb o e=>hx b o (Hw (Ha e)) e;exact h pins _ σ H xs _ Q I1 (by simpa using rv) hw
def C' (to ti:TE) (t:qb):TG:=λv σ H Q=>to σ H λo H1=>ti σ H1 λi H2=>t o i v H2 λH3=>Q σ H3
theorem fS {o i:Expr} {to ti:TE} {t:qb} (ho:PE X o to) (hi:PE X i ti) (hs:rH X t)
   (ha:∀v,assign (.Subscript o i pos) X.env v=(do
     let ov <- holding [v] (eval o X.env)
     let iv <- holding [v,ov] (eval i X.env)
     standAt pos
     holding [v,ov,iv] (setItem ov iv v)
     release [v,ov,iv] []):=by intro _; rfl):PG X (.Subscript o i pos) (C' to ti t):=by
 intro pins s σ H v u Q I r h;rw[ha];refine HG (IG (aq (ho pins s σ H _ I h) λov s1 ⟨x,H1,I1,r1,q1⟩=>?_));refine HG (IG (aq (hi pins s1 σ H1 _ I1 q1) λiv s2 ⟨y,H2,I2,r2,q2⟩=>?_));refine HG (KZ (HG (IG (aq (hs pins s2 σ H2 x y v ov iv u _ I2 r1 r2 r q2) λ_ s3 ⟨H3,I3,q3⟩=>?_))));exact wpAny_release #[σ,H3,I3,q3]
def nJ (te:TE) (g:TG):TS:=λD σ H=>te σ H λx H1=>g x σ H1 D.nx
theorem eE {te:TE} (he:PE X e te) (hg:PG X tg g) (hs:swapsWithSole [tg] e pos.line X.env=pure false:=by rfl) (hw:swappedStores [tg] e X.env=pure none:=by rfl)
   (h1:(assignEach [tg] X.env).map (·.2)=[assign tg X.env]:=by rfl):PS X (.Assign [tg] e pos) (nJ te g):=by
 intro pins s σ H D I h;refine wpAny_Assign_stores (aq (he pins s σ H _ I h) λv s1 ⟨x,H1,I1,r1,q1⟩=>?_) hs hw;rw[h1];exact aq (hg pins s1 σ H1 x v _ I1 r1 q1) λ_ s2 q=>q
theorem ag {i:Nat} {x:Str} {e:Expr} {te:TE} {pos':Pos} (hN:X.N.Nodup) (hi:X.N[i]?=some x) (hx:jp X.env.scope x) (he:PE X e te) (hs:swapsWith e (some (.Name x pos')) pos.line X.env=pure false:=by rfl) (hf:X.fn x=true\/X.env.scope.names.lookup x=some .local:=by first|exact .inl rfl|exact .inr rfl|assumption) :
   PS X (.Assign [.Name x pos'] e pos) (nJ te (ii i)):=by
 intro pins s σ H D I h;refine wpAny_Assign_Name (aq (he pins s σ H _ I h) λv s1 ⟨y,H1,I1,r1,q1⟩=>?_) hs;exact rm I1 hN hi hx r1 (λs2 I2=>#[_,H1,I2,q1]) hf
end
structure It where
 go:Nat->Hp->Prop
 yld:Nat->Hp->V->Hp->Prop
 stop:Nat->Hp->Prop
def eI (X:Cx) (pins:List (Addr×Obj)) (H:Hp) (b:Addr):Prop :=
 H b=none/\b≠X.env.locals/\b ∉ X.fs/\(b∈X.ex\/X.s₀.heap.objs.size<=b)/\(∀x c,X.env.cells.lookup x=some c->c≠b)/\∀p∈X.pn++pins,p.1≠b
theorem Inv.fpOk {H':Hp}(I:Inv X pins σ H s) (hb:s.heap.objs.size<=b) (hn:H' b=none):eI X pins H' b:=by
 refine#[hn,J7 (Hn I.lt hb),I.nofs hb,.inr (Ht I.sz hb),λx c e z=>?_,λp hp z=>?_]
 . obtain⟨v,q⟩:=I.cell x c e;exact absurd (Hn q.lt (by rw[z]; exact hb)) (IC _)
 . exact absurd (Hn (Ha (I.pin p hp).1) (by rw[z]; exact hb)) (IC _)
structure Turn (P:Program) (w:World) (K:W.Frag) (tg:Expr) (J:It) (fp:List Addr) (it:Addr) (tn:Nat->Heap->Prop):Prop where
 mem:it∈fp
 obj:∀i h,tn i h->∀b∈fp,∃o,h.get? b=some o/\∀v,o.data≠.cell v
 keep:∀i h h',tn i h->(∀b∈fp,∀o,h.get? b=some o->h'.get? b=some o)->tn i h'
 item:∀(X:Cx),X.prog=P->X.w=w->X.K=K->X.calm=true->∀(i:Nat) (pins:List (Addr×Obj)) (s:Shared) (σ:St) (H:Hp) (E:Value->Shared->Prop),Inv X pins σ H s->(∀b∈fp,eI X pins H b)->tn i s.heap->J.go i H ->
   wpAny (model P w) X.A (pyNext (.ref it)) (λr s1=>∃u,r=some u /\
     wpAny (model P w) X.A (letOwnedTupleGo tg (.ref it) u) (λ_ s2=>∃x H',Inv X pins σ H' s2/\bF x u/\J.yld i H x H'/\tn (i+1) s2.heap/\∀b∈fp,H' b=none) E s1) E s
 done:∀(X:Cx),X.prog=P->X.w=w->X.K=K->X.calm=true->∀(i:Nat) (pins:List (Addr×Obj)) (s:Shared) (σ:St) (H:Hp) (E:Value->Shared->Prop),Inv X pins σ H s->(∀b∈fp,eI X pins H b)->tn i s.heap->J.stop i H ->
   wpAny (model P w) X.A (pyNext (.ref it)) (λr s1=>r=none/\Inv X pins σ H s1) E s
 self:∀(A:Around) (i:Nat) (s:Shared) (Q:Value->Shared->Prop) (E:Value->Shared->Prop),tn i s.heap->Q (.ref it) s->wpAny (model P w) A (pyIter (.ref it)) Q E s
abbrev TI:=St->Hp->(It->Hp->Prop)->Prop
def PIE (X:Cx) (pins:List (Addr×Obj)) (σ:St) (tg:Expr) (R:It->Hp->Prop) (itv:Value) (s2:Shared):Prop :=
 ∃(it:Addr) (fp:List Addr) (tn:Nat->Heap->Prop) (J:It) (H':Hp),itv=.ref it/\Inv X pins σ H' s2/\Turn X.prog X.w X.K tg J fp it tn/\tn 0 s2.heap/\(∀b∈fp,eI X pins H' b)/\R J H'
def PI (X:Cx) (tg iter:Expr) (wi:TI):Prop :=
 ∀(pins:List (Addr×Obj)) (s:Shared) (σ:St) (H:Hp) (R:It->Hp->Prop),Inv X pins σ H s->wi σ H R ->
   wpAny (model X.prog X.w) X.A (eval iter X.env) (λv s1=>wpAny (model X.prog X.w) X.A (pyIter v) (PIE X pins σ tg R) X.xe s1) X.xe s
theorem lj {it:Addr} {o:Obj} {n:String} {vs:Array Value} {Q:Unit->Shared->Prop} (ho:s.heap.get? it=some o) (hc:o.cls=.type n) (hd:o.data=.fields vs)
   (hn:["enumerate","zip","dict_itemiterator","dict_reverseitemiterator","odict_iterator","itertools.zip_longest","itertools.pairwise"].contains n=false) (hQ:Q () s):wpAny M A (letOwnedTupleGo tg (.ref it) u) Q E s:=by
 unfold letOwnedTupleGo;cases tg <;> first
   | exact HQ hQ
   | (cases u <;> first
       | exact HQ hQ
       | (refine HG (wpAny_load ho ?_)
          rw[hc,hd];show wpAny M A (if(["enumerate","zip","dict_itemiterator","dict_reverseitemiterator","odict_iterator","itertools.zip_longest","itertools.pairwise"].contains n&&vs[0]?==some (rawInt _))=true then _ else _) Q E s;rw[HI (by intro h; rw[hn,Bool.false_and] at h; cases h)];exact HQ hQ))
def i4 (K:W.Frag) (a:Addr):It :=
 #[λi H=>∃xs x,aK K H a xs/\xs[i]?=some x,λi H x H'=>H'=H/\∀xs,aK K H a xs->xs[i]?=some x,λi H=>∃xs,aK K H a xs/\xs.length<=i]
def iC (K:W.Frag) (a:Addr):It :=
 #[λi H=>∃xs x,aG K H a xs/\xs[i]?=some x,λi H x H'=>H'=H/\∀xs,aG K H a xs->xs[i]?=some x,λi H=>∃xs,aG K H a xs/\xs.length<=i]
def gR (lo:Int) (n:Nat):It:=#[λi _=>i<n,λi H x H'=>H'=H/\x=.int (lo+i),λi _=>n<=i]
theorem F9 (a it:Addr):Turn P w K tg (i4 K a) [it] it (λi h=>h.IsListIter it a i) where
 mem:=by simp
 obj:=λi h st b hb=>by
   have e:b=it:=by simpa using hb
   subst e;obtain⟨o,e,c,d⟩:=st;exact#[o,e,λv z=>by rw[d] at z; cases z]
 keep:=λi h h' st k=>st.at λo e=>k it (by simp) o e
 item:=by intro X hP hw hK hc i pins s σ H E I hf st hg;subst hP hw hK;obtain⟨xs,x,hq,hx⟩:=hg;obtain⟨its,rv,p,hz⟩:=I.list hq;obtain⟨u,hu,ru⟩:=rv.get hx;obtain⟨f0,f1,f2,f3,f4,f5⟩:=hf it (by simp);refine wpAny_pyNext_list_item st p.isList (x:=u) (by simpa using hu) λh' st' sb=>?_;have I1:Inv X pins σ H { s with heap:=h' }:=I.turned (t':=s.toks) (λb o hb e=>(sb.2 b hb).trans e) f0 f1 f3 f4 f5;obtain⟨o,e,c,d⟩:=id st';exact#[u,rfl,lj (s:={ s with heap:=h' }) e c d (by decide) #[x,H,I1,ru,#[rfl,λys hy=>by rw[I.list_inj hy hq]; exact hx],st',λb hb=>(hf b hb).1]]
 done:=by intro X hP hw hK hc i pins s σ H E I hf st hg;subst hP hw hK;obtain⟨xs,hq,hx⟩:=hg;obtain⟨its,rv,p,hz⟩:=I.list hq;obtain⟨f0,f1,f2,f3,f4,f5⟩:=hf it (by simp);have hl:=rv.length;exact wpAny_pyNext_list_end (I.ok.hd hc) st p.isList (by simp; omega) λh' eb=>#[rfl,I.turned (t':=s.toks) (λb o hb e=>eb b o hb e) f0 f1 f3 f4 f5]
 self:=λ_ _ _ _ _ st h=>wpAny_pyIter_listiter st h
theorem zY (a it:Addr):Turn P w K tg (iC K a) [it] it (λi h=>h.IsTupleIter it a i) where
 mem:=by simp
 obj:=λi h st b hb=>by
   have e:b=it:=by simpa using hb
   subst e;obtain⟨o,e,c,d⟩:=st;exact#[o,e,λv z=>by rw[d] at z; cases z]
 keep:=λi h h' st k=>st.at λo e=>k it (by simp) o e
 item:=by intro X hP hw hK hc i pins s σ H E I hf st hg;subst hP hw hK;obtain⟨xs,x,hq,hx⟩:=hg;obtain⟨its,rv,p,hz⟩:=I.tuple hq;obtain⟨u,hu,ru⟩:=rv.get hx;obtain⟨f0,f1,f2,f3,f4,f5⟩:=hf it (by simp);refine wpAny_pyNext_tuple_item st (show s.heap.IsTuple a its.toArray from p) (x:=u) (by simpa using hu) λh' st' sb=>?_;have I1:Inv X pins σ H { s with heap:=h' }:=I.turned (t':=s.toks) (λb o hb e=>(sb.2 b hb).trans e) f0 f1 f3 f4 f5;obtain⟨o,e,c,d⟩:=id st';exact#[u,rfl,lj (s:={ s with heap:=h' }) e c d (by decide) #[x,H,I1,ru,#[rfl,λys hy=>by rw[I.tuple_inj hy hq]; exact hx],st',λb hb=>(hf b hb).1]]
 done:=by intro X hP hw hK hc i pins s σ H E I hf st hg;subst hP hw hK;obtain⟨xs,hq,hx⟩:=hg;obtain⟨its,rv,p,hz⟩:=I.tuple hq;obtain⟨f0,f1,f2,f3,f4,f5⟩:=hf it (by simp);have hl:=rv.length;exact wpAny_pyNext_tuple_end (I.ok.hd hc) st (show s.heap.IsTuple a its.toArray from p) (by simp; omega) λh' eb=>#[rfl,I.turned (t':=s.toks) (λb o hb e=>eb b o hb e) f0 f1 f3 f4 f5]
 self:=λ_ _ _ _ _ st h=>wpAny_pyIter_tupleiter st h
theorem EH (it:Addr) (lo:Int) (n:Nat):Turn P w K tg (gR lo n) [it] it (λi h=>IsRangeIter h it (lo+(i:Nat) * 1) ((n:Int) - (i:Nat)) 1) where
 mem:=by simp
 obj:=λi h st b hb=>by
   have e:b=it:=by simpa using hb
   subst e;exact#[_,st,λv z=>by have z':Data.fields _=Data.cell v:=z;cases z']
 keep:=λi h h' st k=>k it (by simp) _ st
 item:=by intro X hP hw hK hc i pins s σ H E I hf st hg;subst hP hw hK;obtain⟨f0,f1,f2,f3,f4,f5⟩:=hf it (by simp);have W:=Walks.range (prog:=X.prog) (w:=X.w) (I.ok.hd hc) it lo 1 n;refine W.item i s _ _ hg st λv h' tk hv st' kk=>?_;obtain⟨t,rfl⟩:=hv;have I1:Inv X pins σ H { s with heap:=h',toks:=tk }:=I.turned (λb o hb e=>kk b o (by simpa using hb) e) f0 f1 f3 f4 f5;refine#[_,rfl,lj (s:={ s with heap:=h',toks:=tk }) (n:="range_iterator") st' rfl rfl (by decide) #[.int (lo+i),H,I1,#[t,?_],#[rfl,rfl],st',λb hb=>(hf b hb).1]];rw[Int.mul_one]
 done:=by intro X hP hw hK hc i pins s σ H E I hf st hg;subst hP hw hK;obtain⟨f0,f1,f2,f3,f4,f5⟩:=hf it (by simp);exact wpAny_pyNext_range_end (I.ok.hd hc) st (by have:n<=i:=hg; omega) λh' eb=>#[rfl,I.turned (t':=s.toks) (λb o hb e=>eb b o hb e) f0 f1 f3 f4 f5]
 self:=λ_ _ _ _ _ st h=>wpAny_pyIter_rangeiter st h
variable {tb:TS}
section
variable {X:Cx} {tg:Expr}
def tq (K:W.Frag) (tl:TE):TI:=λσ H R=>tl σ H λx H1=>∃a,x=.ref a/\(∃xs,aK K H1 a xs)/\R (i4 K a) H1
def Cm (K:W.Frag) (tl:TE):TI:=λσ H R=>tl σ H λx H1=>∃a,x=.ref a/\(∃xs,aG K H1 a xs)/\R (iC K a) H1
theorem gG {l:Expr} {tl:TE} (hl:PE X l tl):PI X tg l (tq X.K tl):=by
 intro pins s σ H R I h;refine aq (hl pins s σ H _ I h) λv s1 ⟨x,H1,I1,r1,q1⟩=>?_;obtain⟨a,e,⟨xs,hq⟩,q⟩:=q1;subst e;cases r1;obtain⟨its,rv,p,hz⟩:=I1.list hq;refine J2 p.isList ?_;refine#[s1.heap.objs.size,[s1.heap.objs.size],_,_,H1,rfl,I1.kept (t':=s1.toks) λb o e=>HJ _ e,F9 a _,#[_,Hf _ rfl,rfl,rfl],λb hb=>?_,q];have e:b=s1.heap.objs.size:=by simpa using hb
 subst e;exact I1.fpOk (HN _) (I1.hok.fresh (HN _))
theorem mH {l:Expr} {tl:TE} (hl:PE X l tl):PI X tg l (Cm X.K tl):=by
 intro pins s σ H R I h;refine aq (hl pins s σ H _ I h) λv s1 ⟨x,H1,I1,r1,q1⟩=>?_;obtain⟨a,e,⟨xs,hq⟩,q⟩:=q1;subst e;cases r1;obtain⟨its,rv,p,hz⟩:=I1.tuple hq;refine Ih (show s1.heap.IsTuple a its.toArray from p) ?_;refine#[s1.heap.objs.size,[s1.heap.objs.size],_,_,H1,rfl,I1.kept (t':=s1.toks) λb o e=>HJ _ e,zY a _,#[_,Hf _ rfl,rfl,rfl],λb hb=>?_,q];have e:b=s1.heap.objs.size:=by simpa using hb
 subst e;exact I1.fpOk (HN _) (I1.hok.fresh (HN _))
theorem G8 {R:It->Hp->Prop} {lo hi:Int} {t u v:Tok} {tk:Nat} (I:Inv X pins σ H s) (h1:-(2 ^ 62)<=lo) (h2:lo<2 ^ 62) (h3:-(2 ^ 62)<=hi) (h4:hi<2 ^ 62)
   (q:R (gR lo (hi - lo).toNat) H):wpAny (model X.prog X.w) X.A (pyIter (.ref s.heap.objs.size)) (PIE X pins σ tg R) E { s with heap:=s.heap.push { cls:=.type "range",data:=.fields (List.toArray [.int lo t,.int hi u,.int 1 v]) },toks:=tk }:=by
 refine wpAny_pyIter_range (IsRange.new ..) (small_one h1 h2 h3 h4) ?_;have I1:Inv X pins σ H { s with heap:=s.heap.push { cls:=.type "range",data:=.fields (List.toArray [.int lo t,.int hi u,.int 1 v]) },toks:=tk }:=I.kept λb o e=>HJ _ e;refine#[(s.heap.push { cls:=.type "range",data:=.fields (List.toArray [.int lo t,.int hi u,.int 1 v]) }).objs.size,[(s.heap.push { cls:=.type "range",data:=.fields (List.toArray [.int lo t,.int hi u,.int 1 v]) }).objs.size],_,_,H,rfl,
   I1.kept (t':=tk) λb o e=>HJ _ e,EH _ lo (hi - lo).toNat,?_,λb hb=>?_,q]
 . have e1:lo+((0:Nat):Int) * 1=lo:=by simp
   have e2:(((hi - lo).toNat:Nat):Int) - ((0:Nat):Int)=Builtin.Range.rangeSize lo hi 1:=by rw[rangeSize_one]; split <;> omega
   show IsRangeIter _ _ (lo+((0:Nat):Int) * 1) ((((hi - lo).toNat:Nat):Int) - ((0:Nat):Int)) 1;rw[e1,e2];exact Hf _ rfl
 . have e:b=(s.heap.push { cls:=.type "range",data:=.fields (List.toArray [.int lo t,.int hi u,.int 1 v]) }).objs.size:=by simpa using hb
   subst e;exact I1.fpOk (HN _) (I1.hok.fresh (HN _))
def zQ (ta:TA):TI:=λσ H R=>ta σ H λvs H1=>∃j:Int,vs=[.int j]/\-(2 ^ 62)<=j/\j<2 ^ 62/\R (gR 0 j.toNat) H1
theorem g8 {a:Expr} {ta:TA} {p:Pos}(hg:Gl X "range") (hm:X.mg "range"=none) (ha:PA X [a] ta) (hs:starEach [a] X.env=[(false,eval a X.env)]:=by rfl):PI X tg (.Call (.Name "range" p) [a] [] pos) (zQ ta):=by
 intro pins s σ H R I h;refine Call_ (gF I hg hm boot_range (IE (aq (ha pos pins s σ H _ I h) λus s1 ⟨vs,H1,I1,r1,q1⟩=>?_) hs rfl));obtain⟨j,e,q1,q2,q⟩:=q1;subst e;cases r1 with
 | cons r rr =>
   cases rr;obtain⟨t,rfl⟩:=r;exact call_range_1 (G8 I1 (by omega) (by omega) q1 q2 (by simpa using q))
def DN (wi:TI) (g:TG) (tb:TS):TS:=λD σ H=>wi σ H λJ H1=>∃W:Nat->Nat->St->Hp->Prop,(∃m,W 0 m σ H1)/\∀i m σ H,W i m σ H ->
 (J.stop i H/\D.nx σ H)\/(J.go i H/\∃N:St->Hp->Prop,(∀σ' H',N σ' H'->∃m',m'<m/\W (i+1) m' σ' H')/\∀x H',J.yld i H x H'->g x σ H' λσ2 H2=>tb { D with nx:=N,ct:=N,bk:=D.nx } σ2 H2)
def ji (fp:List Addr) (h:Heap):List (Addr×Obj):=fp.filterMap λb=>(h.get? b).map λo=>(b,o)
theorem mR {fp:List Addr} {o:Obj} (hb:b∈fp) (e:h.get? b=some o):(b,o)∈ji fp h:=J'.mpr #[b,hb,by rw[e]; rfl]
theorem GQ {fp:List Addr} {p:Addr×Obj} (hp:p∈ji fp h):p.1∈fp/\h.get? p.1=some p.2:=by
 obtain⟨b,hb,e⟩:=J'.mp hp;cases q:h.get? b with
 | none=>rw[q] at e; cases e
 | some o =>
   rw[q] at e;have e':(b,o)=p:=Option.some.inj e;subst e';exact#[hb,q]
theorem Inv.pinned {fp:List Addr} (I:Inv X pins σ H s) (hf:∀b∈fp,eI X pins H b) (ho:∀b∈fp,∃o,s.heap.get? b=some o/\∀v,o.data≠.cell v):Inv X (pins++ji fp s.heap) σ H s :=
 I.pins_of λp hp=>(Hg.mp hp).elim (λz=>I.pin p (Hu _ z)) λz=>by obtain⟨hb,e⟩:=GQ z;obtain⟨f0,f1,f2,_⟩:=hf p.1 hb;obtain⟨o,e',d⟩:=ho p.1 hb;rw[e] at e'; cases e';exact#[e,f0,f1,f2,d]
theorem Inv.unpinned {pl:List (Addr×Obj)}(I:Inv X (pins++pl) σ H s):Inv X pins σ H s:=I.pins_of λp hp=>I.pin p (Hu _ (JH _ hp))
theorem cj {iter:Expr} {body:List Stmt} {wi:TI} (hp:PassesOwn (model X.prog X.w) X.A X.env X.xe) (hc:X.calm=true) (hi:PI X tg iter wi) (hg:PG X tg g) (hb:bV X body tb)
   (hs:∀x,foldedSetIterable iter X.env x=pure x:=by intro _; rfl):PS X (.For tg iter body [] pos) (DN wi g tb):=by
 intro pins s σ H D I h;refine wpAny_For (aq (hi pins s σ H _ I h) λv s1 h1=>aq h1 λitv s2 h2=>?_) hs;obtain⟨it,fp,tn,J,H2,e,I2,T,st2,f2,W,⟨m0,w0⟩,turn⟩:=h2;subst e
 -- what stays true of the iterator's objects through the loop
 have stat:∀{H':Hp},(∀b∈fp,H' b=none)->∀b∈fp,eI X pins H' b:=λhn b hb=>#[hn b hb,(f2 b hb).2]
 refine codeAny_forLoop_any (λn s'=>∃i σ' H',Inv X pins σ' H' s'/\tn i s'.heap/\(∀b∈fp,H' b=none)/\W i n σ' H') ?_ m0 #[0,σ,H2,I2,st2,λb hb=>(f2 b hb).1,w0];rintro n s3 ⟨i,σ3,H3,I3,st3,fr3,w3⟩;rcases turn i n σ3 H3 w3 with⟨stop,qn⟩|⟨go,N,hN,step⟩
 . refine JL hp (aq (T.done X rfl rfl rfl hc i pins s3 σ3 H3 X.xe I3 (stat fr3) st3 stop) λr s4 ⟨hr,I4⟩=>?_);subst hr;exact KU #[σ3,H3,I4,qn]
 . refine JL hp (aq (T.item X rfl rfl rfl hc i pins s3 σ3 H3 X.xe I3 (stat fr3) st3 go) λr s4 ⟨u,hr,h4⟩=>?_);subst hr;refine JL hp (aq h4 λ_ s5 ⟨x,H5,I5,r5,y5,st5,fr5⟩=>?_);have I5':=I5.pinned (stat fr5) (T.obj _ _ st5);refine JL hp (aq (hg _ s5 σ3 H5 x u _ I5' r5 (step x H5 y5)) λ_ s6 ⟨σ6,H6,I6,q6⟩=>?_);refine JL hp (aq (hb _ s6 σ6 H6 _ I6 q6) λf s7 q7=>?_);have again:∀{σ7:St} {H7:Hp},Inv X (pins++ji fp s5.heap) σ7 H7 s7->N σ7 H7->∃m,m<n/\∃i σ' H',Inv X pins σ' H' s7/\tn i s7.heap/\(∀b∈fp,H' b=none)/\W i m σ' H':=λ{σ7 H7} I7 n7=>by obtain⟨m',hm,w7⟩:=hN σ7 H7 n7;refine#[m',hm,i+1,σ7,H7,I7.unpinned,T.keep _ _ _ st5 λb hb o e=>(I7.pin (b,o) (Hu _ (Hu _ (mR hb e)))).1,λb hb=>?_,w7];obtain⟨o,e,d⟩:=T.obj _ _ st5 b hb;exact(I7.pin (b,o) (Hu _ (Hu _ (mR hb e)))).2.1
   cases f with
   | next=>obtain⟨σ7,H7,I7,n7⟩:=q7; exact again I7 n7
   | cont=>obtain⟨σ7,H7,I7,n7⟩:=q7; exact again I7 n7
   | brk=>obtain⟨σ7,H7,I7,q7⟩:=q7; exact#[σ7,H7,I7.unpinned,q7]
   | ret v=>obtain⟨x7,σ7,H7,I7,r7,q7⟩:=q7; exact#[x7,σ7,H7,I7.unpinned,r7,q7]
end
theorem pj {a:Addr} {xs:List V} {D:cF} (Pv:Nat->St->Hp->Prop) (h0:Pv 0 σ H) (hl:∀i σ H,i<=xs.length->Pv i σ H->aK K H a xs)
   (hs:∀i x σ H,xs[i]?=some x->Pv i σ H->g x σ H λσ2 H2=>tb { D with nx:=Pv (i+1),ct:=Pv (i+1),bk:=D.nx } σ2 H2) (hd:∀σ H,Pv xs.length σ H->D.nx σ H) :
   ∃W:Nat->Nat->St->Hp->Prop,(∃m,W 0 m σ H)/\∀i m σ H,W i m σ H ->
     ((i4 K a).stop i H/\D.nx σ H)\/((i4 K a).go i H/\∃N:St->Hp->Prop,(∀σ' H',N σ' H'->∃m',m'<m/\W (i+1) m' σ' H')/\∀x H',(i4 K a).yld i H x H'->g x σ H' λσ2 H2=>tb { D with nx:=N,ct:=N,bk:=D.nx } σ2 H2):=by
 refine#[λi m σ H=>m=xs.length - i/\i<=xs.length/\Pv i σ H,#[xs.length,by simp,Hl _,h0],?_];rintro i m σ H ⟨rfl,hi,p⟩;have q:=hl i σ H hi p;by_cases hlt:i<xs.length
 . refine .inr #[#[xs,xs[i],q,by simp [hlt]],Pv (i+1),λσ' H' p'=>#[xs.length - (i+1),by omega,rfl,hlt,p'],λx H' y=>?_];obtain⟨e,y⟩:=y;subst e;exact hs i x σ _ (y xs q) p
 . have e:i=xs.length:=by omega
   subst e;exact .inl #[#[xs,q,HN _],hd σ H p]
theorem Cu {a:Addr} {xs:List V} {D:cF} (Pv:Nat->St->Hp->Prop) (h0:Pv 0 σ H) (hl:∀i σ H,i<=xs.length->Pv i σ H->aG K H a xs)
   (hs:∀i x σ H,xs[i]?=some x->Pv i σ H->g x σ H λσ2 H2=>tb { D with nx:=Pv (i+1),ct:=Pv (i+1),bk:=D.nx } σ2 H2) (hd:∀σ H,Pv xs.length σ H->D.nx σ H) :
   ∃W:Nat->Nat->St->Hp->Prop,(∃m,W 0 m σ H)/\∀i m σ H,W i m σ H ->
     ((iC K a).stop i H/\D.nx σ H)\/((iC K a).go i H/\∃N:St->Hp->Prop,(∀σ' H',N σ' H'->∃m',m'<m/\W (i+1) m' σ' H')/\∀x H',(iC K a).yld i H x H'->g x σ H' λσ2 H2=>tb { D with nx:=N,ct:=N,bk:=D.nx } σ2 H2):=by
 refine#[λi m σ H=>m=xs.length - i/\i<=xs.length/\Pv i σ H,#[xs.length,by simp,Hl _,h0],?_];rintro i m σ H ⟨rfl,hi,p⟩;have q:=hl i σ H hi p;by_cases hlt:i<xs.length
 . refine .inr #[#[xs,xs[i],q,by simp [hlt]],Pv (i+1),λσ' H' p'=>#[xs.length - (i+1),by omega,rfl,hlt,p'],λx H' y=>?_];obtain⟨e,y⟩:=y;subst e;exact hs i x σ _ (y xs q) p
 . have e:i=xs.length:=by omega
   subst e;exact .inl #[#[xs,q,HN _],hd σ H p]
theorem gq {lo:Int} {n:Nat} {D:cF} (Pv:Nat->St->Hp->Prop) (h0:Pv 0 σ H)
   (hs:∀i σ H,i<n->Pv i σ H->g (.int (lo+i)) σ H λσ2 H2=>tb { D with nx:=Pv (i+1),ct:=Pv (i+1),bk:=D.nx } σ2 H2) (hd:∀σ H,Pv n σ H->D.nx σ H) :
   ∃W:Nat->Nat->St->Hp->Prop,(∃m,W 0 m σ H)/\∀i m σ H,W i m σ H ->
     ((gR lo n).stop i H/\D.nx σ H)\/((gR lo n).go i H/\∃N:St->Hp->Prop,(∀σ' H',N σ' H'->∃m',m'<m/\W (i+1) m' σ' H')/\∀x H',(gR lo n).yld i H x H'->g x σ H' λσ2 H2=>tb { D with nx:=N,ct:=N,bk:=D.nx } σ2 H2):=by
 refine#[λi m σ H=>m=n - i/\i<=n/\Pv i σ H,#[n,by simp,Hl _,h0],?_];rintro i m σ H ⟨rfl,hi,p⟩;by_cases hlt:i<n
 . refine .inr #[hlt,Pv (i+1),λσ' H' p'=>#[n - (i+1),by omega,rfl,hlt,p'],λx H' y=>?_];obtain⟨e,y⟩:=y;subst e y;exact hs i σ _ hlt p
 . have e:i=n:=by omega
   subst e;exact .inl #[HN _,hd σ H p]
abbrev R2:=V->V->Hp->VK->Prop
def bW (X:Cx) (f:Value->Value->Sem Value) (r:R2):Prop :=
 ∀(pins:List (Addr×Obj)) (s:Shared) (σ:St) (H:Hp) (x y:V) (v u:Value) (Q:VK),Inv X pins σ H s->bF x v->bF y u->r x y H Q ->
   wpAny (model X.prog X.w) X.A (f v u) (EP X pins σ Q) X.xe s
def my (X:Cx) (f:Value->Sem Value) (r:V->Hp->VK->Prop):Prop :=
 ∀(pins:List (Addr×Obj)) (s:Shared) (σ:St) (H:Hp) (x:V) (v:Value) (Q:VK),Inv X pins σ H s->bF x v->r x H Q ->
   wpAny (model X.prog X.w) X.A (f v) (EP X pins σ Q) X.xe s
def bx (X:Cx) (f:Value) (r:List V->Hp->VK->Prop):Prop :=
 ∀(pins:List (Addr×Obj)) (s:Shared) (σ:St) (H:Hp) (xs:List V) (us:List Value) (Q:VK),Inv X pins σ H s->ax xs us->r xs H Q ->
   wpAny (model X.prog X.w) X.A (call f us) (EP X pins σ Q) X.xe s
def Br (X:Cx) (r:V->Hp->(Bool->Hp->Prop)->Prop):Prop :=
 ∀(pins:List (Addr×Obj)) (s:Shared) (σ:St) (H:Hp) (x:V) (v:Value) (Q:Bool->Hp->Prop),Inv X pins σ H s->bF x v->r x H Q ->
   wpAny (model X.prog X.w) X.A (truthy v) (TP X pins σ Q) X.xe s
def jj (r:R2) (ta tb:TE):TE:=λσ H Q=>ta σ H λx H1=>tb σ H1 λy H2=>r x y H2 Q
def tUn (r:V->Hp->VK->Prop) (ta:TE):TE:=λσ H Q=>ta σ H λx H1=>r x H1 Q
def rI (C:Int->Int->Prop) (g:Int->Int->V):R2:=λx y H Q=>∃i j,x=.int i/\y=.int j/\C i j/\Q (g i j) H
def ft (g:Int->Int->V):R2:=λx y H Q=>∃i j,x=.int i/\y=.int j/\Q (g i j) H
def rU (g:Int->V):V->Hp->VK->Prop:=λx H Q=>∃i,x=.int i/\Q (g i) H
section
variable {X:Cx} {a b c:Expr} {ta tb tc:TE} {pos:Pos}
theorem pi (ha:PE X a ta) (hb:PE X b tb) {R:V->V->Hp->Prop} (I:Inv X pins σ H s)
   (h:ta σ H λx H1=>tb σ H1 λy H2=>R x y H2) {Q:Value->Shared->Prop} {f:Value->Value->Sem Value}
   (hf:∀v u s2 x y H2,Inv X pins σ H2 s2->bF x v->bF y u->R x y H2->wpAny (model X.prog X.w) X.A (f v u) Q X.xe s2) :
   wpAny (model X.prog X.w) X.A (eval a X.env) (λv s₁=>wpAny (model X.prog X.w) X.A (eval b X.env) (λu s₂=>wpAny (model X.prog X.w) X.A (f v u) Q X.xe s₂) X.xe s₁) X.xe s:=by
 refine aq (ha pins s σ H _ I h) λv s1 ⟨x,H1,I1,r1,q1⟩=>?_;refine aq (hb pins s1 σ H1 _ I1 q1) λu s2 ⟨y,H2,I2,r2,q2⟩=>?_;exact hf v u s2 x y H2 I2 r1 r2 q2
theorem aN {op:Operator} {r:R2} (ho:bW X (binaryOp op) r) (ha:PE X a ta) (hb:PE X b tb):PE X (.BinOp a op b pos) (jj r ta tb):=by intro pins s σ H Q I h;exact wpAny_BinOp (pi ha hb I h λv u s2 x y H2 I2 rx ry q=>ho pins s2 σ H2 x y v u Q I2 rx ry q)
theorem cq {op:UnaryOp} {r:V->Hp->VK->Prop} (ho:my X (unaryOp op) r) (ha:PE X a ta):PE X (.UnaryOp op a pos) (tUn r ta):=by intro pins s σ H Q I h;exact UnaryOp_ (aq (ha pins s σ H _ I h) λv s1 ⟨x,H1,I1,r1,q1⟩=>ho pins s1 σ H1 x v Q I1 r1 q1)
theorem jh {f:Value->Value->Sem Value} {C:Int->Int->Prop} {g:Int->Int->Int}
   (rule:∀(i j:Int) (t u:Tok) (s:Shared) (Q:Value->Shared->Prop) (E:Value->Shared->Prop),C i j->Q (.int (g i j) s.toks) { s with toks:=s.toks+1 }->wpAny (model X.prog X.w) X.A (f (.int i t) (.int j u)) Q E s) :
   bW X f (rI C λi j=>.int (g i j)):=by
 intro pins s σ H x y v u Q I rx ry h;obtain⟨i,j,rfl,rfl,hc,q⟩:=h;obtain⟨t,rfl⟩:=rx;obtain⟨t',rfl⟩:=ry;exact rule i j t t' s _ _ hc #[.int (g i j),H,I.tok _,#[_,rfl],q]
theorem jm {f:Value->Value->Sem Value} {g:Int->Int->Int}
   (rule:∀(i j:Int) (t u:Tok) (s:Shared) (Q:Value->Shared->Prop) (E:Value->Shared->Prop),Q (.int (g i j) s.toks) { s with toks:=s.toks+1 }->wpAny (model X.prog X.w) X.A (f (.int i t) (.int j u)) Q E s) :
   bW X f (ft λi j=>.int (g i j)):=by
 intro pins s σ H x y v u Q I rx ry h;obtain⟨i,j,rfl,rfl,q⟩:=h;obtain⟨t,rfl⟩:=rx;obtain⟨t',rfl⟩:=ry;exact rule i j t t' s _ _ #[.int (g i j),H,I.tok _,#[_,rfl],q]
theorem uE {f:Value->Value->Sem Value} {g:Int->Int->Bool}
   (rule:∀(i j:Int) (t u:Tok) (s:Shared) (Q:Value->Shared->Prop) (E:Value->Shared->Prop),Q (.bool (g i j)) s->wpAny (model X.prog X.w) X.A (f (.int i t) (.int j u)) Q E s) :
   bW X f (ft λi j=>.bl (g i j)):=by
 intro pins s σ H x y v u Q I rx ry h;obtain⟨i,j,rfl,rfl,q⟩:=h;obtain⟨t,rfl⟩:=rx;obtain⟨t',rfl⟩:=ry;exact rule i j t t' s _ _ #[.bl (g i j),H,I,rfl,q]
def Ev (i j:Int):Prop:=0<j/\j<1073741824
def Ff (i j:Int):Prop:=0<=j/\j<=1000000/\i.natAbs<2 ^ 64
def qc (i j:Int):Prop:=(-(2 ^ 64)<i/\i<2 ^ 64)\/(-(2 ^ 64)<j/\j<2 ^ 64)
theorem qc.ok {i j:Int} (h:qc i j):IntMulOk i j:=by
 rcases h with⟨h1,h2⟩|⟨h1,h2⟩
 . exact .of_left (intBits_le_64 h1 h2)
 . exact .of_right (intBits_le_64 h1 h2)
theorem cM:bW X (binaryOp .Add) (ft λi j=>.int (i+j)):=jm λ_ _ _ _ _ _ _ q=>add_int q
theorem lC:bW X (binaryOp .Sub) (ft λi j=>.int (i - j)):=jm λ_ _ _ _ _ _ _ q=>sub_int q
theorem dm:bW X (binaryOp .Mult) (rI qc λi j=>.int (i * j)):=jh λ_ _ _ _ _ _ _ hc q=>mul_int q hc.ok
theorem bv:bW X (binaryOp .FloorDiv) (rI Ev λi j=>.int (i / j)):=jh λi j _ _ _ _ _ hc q=>by have h1:(0:Int)<j:=hc.1;have h2:j<1073741824:=hc.2;exact floordiv_int (by omega) (by rw[K3 i (by omega)]; exact q) (.inl (PyProof.noPylong_small (by omega)))
theorem bI:bW X (binaryOp .Mod) (rI (λ_ j=>0<j) λi j=>.int (i%j)):=jh λi j _ _ _ _ _ hc q=>by have h1:(0:Int)<j:=hc;exact mod_int' (by omega) (by rw[Int.fmod_eq_emod_of_nonneg i (by omega)]; exact q)
theorem j7:bW X (binaryOp .Pow) (rI Ff λi j=>.int (i ^ j.toNat)):=jh λ_ _ _ _ _ _ _ hc q=>pow_int_small hc.1 hc.2.1 hc.2.2 q
theorem sV:bW X (binaryOp .BitAnd) (ft λi j=>.int (Builtin.bitAnd i j)):=jm λ_ _ _ _ _ _ _ q=>and_int q
theorem rh:bW X (binaryOp .BitOr) (ft λi j=>.int (Builtin.bitOr i j)):=jm λ_ _ _ _ _ _ _ q=>or_int q
theorem vE:bW X (binaryOp .BitXor) (ft λi j=>.int (Builtin.bitXor i j)):=jm λ_ _ _ _ _ _ _ q=>xor_int q
theorem unI {f:Value->Sem Value} {g:Int->Int}
   (rule:∀(i:Int) (t:Tok) (s:Shared) (Q:Value->Shared->Prop) (E:Value->Shared->Prop),Q (.int (g i) s.toks) { s with toks:=s.toks+1 }->wpAny (model X.prog X.w) X.A (f (.int i t)) Q E s) :
   my X f (rU λi=>.int (g i)):=by
 intro pins s σ H x v Q I rx h;obtain⟨i,rfl,q⟩:=h;obtain⟨t,rfl⟩:=rx;exact rule i t s _ _ #[.int (g i),H,I.tok _,#[_,rfl],q]
theorem cn:my X (unaryOp .USub) (rU λi=>.int (-i)):=unI λ_ _ _ _ _ q=>neg_int q
end
def sw:V->V->Bool
 | .non,.non=>true | .non,.int _=>true | .int _,.non=>true | .non,.bl _=>true | .bl _,.non=>true | .non,.str _=>true | .str _,.non=>true
 | .int _,.int _=>true | .bl _,.bl _=>true | .str _,.str _=>true | .byt _,.byt _=>true
 | .int _,.str _=>true | .str _,.int _=>true | .bl _,.str _=>true | .str _,.bl _=>true
 | _,_=>false
def rEq:R2:=λx y H Q=>sw x y=true/\Q (.bl (decide (x=y))) H
def rNe:R2:=λx y H Q=>sw x y=true/\Q (.bl (!decide (x=y))) H
theorem uc {i j:Int}:decide (V.int i=V.int j)=(i==j):=by rw[IV];simp
theorem vt {i j:Bool}:decide (V.bl i=V.bl j)=(i==j):=by rw[IV];simp
theorem wK {i j:Str}:decide (V.str i=V.str j)=(i==j):=by rw[IV];simp
theorem uA {i j:Array UInt8}:decide (V.byt i=V.byt j)=(i.toList==j.toList):=by rw[IV];cases i;cases j;simp
variable {us:List Value}
section
variable {X:Cx} {a b c:Expr} {ta tb tc:TE} {pos:Pos}
theorem c8 {Q:VK} {k k':Bool} (I:Inv X pins σ H s) (q:Q (.bl k) H) (e:k=k'):EP X pins σ Q (.bool k') s:=by subst e;exact#[.bl k,H,I,rfl,q]
theorem bE:bW X (compareOp .Eq) rEq:=by
 intro pins s σ H x y v u Q I rx ry h;obtain⟨hs,q⟩:=h;cases x with
 | non =>
   cases rx;cases y with
   | non=>cases ry; exact PySem.EqNone.eq_none_none (c8 I q (by simp))
   | bl j=>cases ry; exact PySem.EqNone.eq_none_bool (c8 I q (by simp))
   | int j=>obtain⟨t',rfl⟩:=ry; exact PySem.EqNone.eq_none_int (c8 I q (by simp))
   | str j=>obtain⟨t',rfl⟩:=ry; exact PySem.EqNone.eq_none_str (c8 I q (by simp))
   | _=>exact absurd (show false=true from hs) He
 | bl i =>
   cases rx;cases y with
   | non=>cases ry; exact PySem.EqNone.eq_bool_none (c8 I q (by simp))
   | bl j=>cases ry; exact eq_bool (c8 I q vt)
   | str j=>obtain⟨t',rfl⟩:=ry; exact PySem.EqMixed.eq_bool_str (c8 I q (by simp))
   | _=>exact absurd (show false=true from hs) He
 | int i =>
   obtain⟨t,rfl⟩:=rx;cases y with
   | non=>cases ry; exact PySem.EqNone.eq_int_none (c8 I q (by simp))
   | int j=>obtain⟨t',rfl⟩:=ry; exact eq_int (c8 I q uc)
   | str j=>obtain⟨t',rfl⟩:=ry; exact PySem.EqMixed.eq_int_str (c8 I q (by simp))
   | _=>exact absurd (show false=true from hs) He
 | str i =>
   obtain⟨t,rfl⟩:=rx;cases y with
   | non=>cases ry; exact PySem.EqNone.eq_str_none (c8 I q (by simp))
   | bl j=>cases ry; exact PySem.EqMixed.eq_str_bool (c8 I q (by simp))
   | int j=>obtain⟨t',rfl⟩:=ry; exact PySem.EqMixed.eq_str_int (c8 I q (by simp))
   | str j=>obtain⟨t',rfl⟩:=ry; exact eq_str (c8 I q wK)
   | _=>exact absurd (show false=true from hs) He
 | byt i =>
   obtain⟨t,rfl⟩:=rx;cases y with
   | byt j=>obtain⟨t',rfl⟩:=ry; exact PySem.W.eq_bytes (c8 I q uA)
   | _=>exact absurd (show false=true from hs) He
 | _=>cases y <;> exact absurd (show false=true from hs) He
theorem rn:bW X (compareOp .NotEq) rNe:=by
 intro pins s σ H x y v u Q I rx ry h;obtain⟨hs,q⟩:=h;cases x with
 | non =>
   cases rx;cases y with
   | non=>cases ry; exact PySem.EqNone.ne_none_none (c8 I q (by simp))
   | bl j=>cases ry; exact PySem.EqNone.ne_none_bool (c8 I q (by simp))
   | int j=>obtain⟨t',rfl⟩:=ry; exact PySem.EqNone.ne_none_int (c8 I q (by simp))
   | str j=>obtain⟨t',rfl⟩:=ry; exact PySem.EqNone.ne_none_str (c8 I q (by simp))
   | _=>exact absurd (show false=true from hs) He
 | bl i =>
   cases rx;cases y with
   | non=>cases ry; exact PySem.EqNone.ne_bool_none (c8 I q (by simp))
   | bl j=>cases ry; exact ne_bool (c8 I q (Hb not vt))
   | str j=>obtain⟨t',rfl⟩:=ry; exact PySem.EqMixed.ne_bool_str (c8 I q (by simp))
   | _=>exact absurd (show false=true from hs) He
 | int i =>
   obtain⟨t,rfl⟩:=rx;cases y with
   | non=>cases ry; exact PySem.EqNone.ne_int_none (c8 I q (by simp))
   | int j=>obtain⟨t',rfl⟩:=ry; exact ne_int (c8 I q (Hb not uc))
   | str j=>obtain⟨t',rfl⟩:=ry; exact PySem.EqMixed.ne_int_str (c8 I q (by simp))
   | _=>exact absurd (show false=true from hs) He
 | str i =>
   obtain⟨t,rfl⟩:=rx;cases y with
   | non=>cases ry; exact PySem.EqNone.ne_str_none (c8 I q (by simp))
   | bl j=>cases ry; exact PySem.EqMixed.ne_str_bool (c8 I q (by simp))
   | int j=>obtain⟨t',rfl⟩:=ry; exact PySem.EqMixed.ne_str_int (c8 I q (by simp))
   | str j=>obtain⟨t',rfl⟩:=ry; exact ne_str (c8 I q (Hb not wK))
   | _=>exact absurd (show false=true from hs) He
 | byt i =>
   obtain⟨t,rfl⟩:=rx;cases y with
   | byt j=>obtain⟨t',rfl⟩:=ry; exact PySem.W.ne_bytes (c8 I q (Hb not uA))
   | _=>exact absurd (show false=true from hs) He
 | _=>cases y <;> exact absurd (show false=true from hs) He
theorem kS:bW X (compareOp .Lt) (ft λi j=>.bl (decide (i<j))):=uE λ_ _ _ _ _ _ _ q=>lt_int q
theorem kT:bW X (compareOp .Gt) (ft λi j=>.bl (decide (j<i))):=uE λ_ _ _ _ _ _ _ q=>gt_int q
theorem am (b:Expr) (h:op≠.In:=by decide) (h2:op≠.NotIn:=by decide):behindInMarks op b=false:=by
 have e1:(op==CmpOp.In)=false:=by cases op <;> first|rfl|exact absurd rfl h
 have e2:(op==CmpOp.NotIn)=false:=by cases op <;> first|rfl|exact absurd rfl h2
 cases b <;> simp [behindInMarks,e1,e2]
theorem gr {r:R2} (ho:bW X (compareOp op) r) (ha:PE X a ta) (hb:PE X b tb) (hm:behindInMarks op b=false):PE X (.Compare a [op] [b] pos) (jj r ta tb):=by intro pins s σ H Q I h;exact wpAny_Compare1 (pi ha hb I h λv u s2 x y H2 I2 rx ry q=>ho pins s2 σ H2 x y v u Q I2 rx ry q) hm
def Dh (t:TE):TT:=λσ H Q=>t σ H λx H'=>∃k,x=.bl k/\Q k H'
theorem j6 {r:R2} (ho:bW X (compareOp op) r) (ha:PE X a ta) (hb:PE X b tb) (hm:behindInMarks op b=false):PT X (.Compare a [op] [b] pos) (Dh (jj r ta tb)):=by
 intro pins s σ H Q I h;refine Jh (aq (ha pins s σ H _ I h) λv s1 ⟨x,H1,I1,r1,q1⟩=>aq (hb pins s1 σ H1 _ I1 q1) λu s2 ⟨y,H2,I2,r2,q2⟩ =>
   aq (ho pins s2 σ H2 x y v u _ I2 r1 r2 q2) λc s3 ⟨z,H3,I3,r3,k,e,q3⟩=>?_) hm
 subst e;cases r3;exact IT #[H3,I3,q3]
def qg (K:W.Frag) (x:V) (H:Hp) (k:Bool):Prop :=
 match x with
 | .non=>k=false
 | .bl b=>k=b
 | .int i=>k=(i != 0)
 | .str y=>y.length<=sizeLine/\k=((y.length:Int) != 0)
 | .byt y=>y.size<=sizeLine/\k=((y.size:Int) != 0)
 | .ref p=>(∃xs,aK K H p xs/\k=!xs.isEmpty)\/(∃xs,aG K H p xs/\k=!xs.isEmpty)\/∃kvs,H p=some (.dK kvs)/\k=!kvs.isEmpty
 | _=>False
theorem Et {κ:Type} {kvs:List (κ×V)} {vs:List (κ×Value)} (r:KV kvs vs):(!vs.isEmpty)=!kvs.isEmpty:=by cases r <;> rfl
theorem uh {xs:List V} {its:List Value} (r:ax xs its):(!its.toArray.isEmpty)=!xs.isEmpty:=by cases r <;> simp
theorem iR:(sizeLine:Nat)<2 ^ 63:=by rw[sizeLine_eq]; decide
theorem BO:Br X (λx H Q=>∃k,qg X.K x H k/\Q k H):=by
 intro pins s σ H x v Q I rx h;obtain⟨k,e,q⟩:=h;have hl:=iR;have hs:sizeLine=16777216:=sizeLine_eq;cases x with
 | non =>
   cases rx;have e':k=false:=e;subst e';exact truthy_none #[H,I,q]
 | bl b =>
   cases rx;have e':k=b:=e;subst e';exact IT #[H,I,q]
 | int i =>
   obtain⟨t,rfl⟩:=rx;have e':k=(i != 0):=e;subst e';exact PySem.P.truthy_int #[H,I,q]
 | str y =>
   obtain⟨t,rfl⟩:=rx;obtain⟨hy,e'⟩:y.length<=sizeLine/\k=((y.length:Int) != 0):=e;subst e';exact PySem.P.truthy_str (by omega) #[H,I.tok _,q]
 | byt y =>
   obtain⟨t,rfl⟩:=rx;obtain⟨hy,e'⟩:y.size<=sizeLine/\k=((y.size:Int) != 0):=e;subst e';exact PySem.W.truthy_bytes (by omega) #[H,I.tok _,q]
 | ref p =>
   cases rx;have e':(∃xs,aK X.K H p xs/\k=!xs.isEmpty)\/(∃xs,aG X.K H p xs/\k=!xs.isEmpty)\/∃kvs,H p=some (.dK kvs)/\k=!kvs.isEmpty:=e;rcases e' with⟨xs,hx,e'⟩|⟨xs,hx,e'⟩|⟨kvs,hx,e'⟩
   . subst e';obtain⟨its,r,pl,hz⟩:=I.list hx;have hlen:=r.length;exact wpAny_truthy_list pl.isList (by simp only[Hc]; omega) #[H,I.tok _,by rw[uh r]; exact q]
   . subst e';obtain⟨its,r,pl,hz⟩:=I.tuple hx;have hlen:=r.length;exact truthy_tuple pl (by simp only[Hc]; omega) #[H,I.tok _,by rw[uh r]; exact q]
   . subst e';obtain⟨hz,hS,vs,r,m⟩:kvs.length<=sizeLine/\(p==sysModules)=false/\∃vs,KV kvs vs/\s.heap.DictOf (cK X.prog X.w) p vs:=I.hok p _ hx;have hlen:kvs.length=vs.length:=Paired.length r;exact wpAny_truthy_dict hS m (by omega) #[H,I.tok _,by rw[Et r]; exact q]
 | _=>exact(show False from e).elim
theorem AK (ha:PE X a ta) (he:∀whole,isTrue a X.env whole=(do let v <- whole; standAt a.pos; holding [v] (truthy v))) :
   PT X a (λσ H Q=>ta σ H λx H'=>∃k,qg X.K x H' k/\Q k H'):=by
 intro pins s σ H Q I h;exact isTrue_plain (aq (ha pins s σ H _ I h) λv s1 ⟨x,H1,I1,r1,q1⟩=>BO pins s1 σ H1 x v Q I1 r1 q1) (he _)
theorem ni:bW X (binaryOp .Add) (λx y H Q=>∃i j,x=.str i/\y=.str j/\i.length+j.length<=sizeLine/\Q (.str (i++j)) H):=by intro pins s σ H x y v u Q I rx ry h;obtain⟨i,j,rfl,rfl,hz,q⟩:=h;obtain⟨t,rfl⟩:=rx;obtain⟨t',rfl⟩:=ry;exact add_str (λt' tk=>#[.str (i++j),H,I.tok _,#[_,rfl],q]) hz
theorem gK {x:V} (r:ax [x] us):∃u,us=[u]/\bF x u:=by
 cases r with
 | cons r1 r2=>cases r2; exact#[_,rfl,r1]
theorem C6 {x y:V} (r:ax [x,y] us):∃u w',us=[u,w']/\bF x u/\bF y w':=by
 cases r with
 | cons r1 r2 =>
   cases r2 with
   | cons r3 r4=>cases r4; exact#[_,_,rfl,r1,r3]
theorem oK:bx X (.type "int") (λxs H Q=>(∃i,xs=[.int i]/\Q (.int i) H)\/∃k,xs=[.bl k]/\Q (.int (if k then 1 else 0)) H):=by
 intro pins s σ H xs us Q I r h;rcases h with⟨i,rfl,q⟩|⟨k,rfl,q⟩
 . obtain⟨u,rfl,t,rfl⟩:=gK r;exact call_int_int #[.int i,H,I,#[_,rfl],q]
 . obtain⟨u,rfl,r1⟩:=gK r;cases r1;exact call_int_bool #[.int (if k then 1 else 0),H,I.tok _,#[_,rfl],q]
end
structure ObjM (h:Heap) (x dx C:Addr) (mA:Str->Option Value):Prop where
 obj:h.get? x=some (PySem.W.instObj C dx)
 ns:h.Ns1 dx mA
 ne:dx≠x
theorem F3 {dx:Addr} {mA:Str->Option Value} (n:h.Ns1 dx mA):∃od,h.get? dx=some od/\∀name,PySem.W.lookIn name od=some (mA name):=by
 obtain⟨o,es,ep,ho,hd,hk,_,hm⟩:=n;refine#[o,ho,λname=>?_];have e:=hm name;unfold nsFind findBy at e;rw[<- Array.find?_toList] at e;unfold PySem.W.lookIn;rw[hd];dsimp only;split
 . rename_i y q
   rw[q] at e;exact Hb some e
 . rename_i q
   rw[q] at e;have a:es.toList.any (·.refKey)=false:=by rw[List.any_eq_false];intro y hy;obtain⟨z,t,hkey⟩:=hk y (Array.mem_toList_iff.mp hy);simp [DictEntry.refKey,hkey]
   have a':¬ es.toList.any (·.refKey)=true:=by rw[a]; exact He
   rw[HI a'];exact Hb some e
variable {C:Addr}
theorem ObjM.look {x dx:Addr}{mA:Str->Option Value} (I:ObjM h x dx C mA):∃od,PySem.W.InstAt h x (PySem.W.instObj C dx) C (some od)/\∀name,PySem.W.lookIn name od=some (mA name) :=
 let ⟨od,ho,hl⟩:=F3 I.ns
 #[od,#[I.obj,rfl,rfl,ho],hl]
variable {pl:Sem Bool}
section
variable {prog:Program} {w:World} {A:Around} {E:Value->Shared->Prop} {s:Shared} {K:W.Frag} {x dx C f:Addr} {mA:Str->Option Value} {name:Str} {v:Value}
theorem Gg {expr:Bool} {Q:Value->Shared->Prop} (X:K.In s.heap) (I:ObjM s.heap x dx C mA) (hg:PySem.W.plainGet K C name=true) (hh:PySem.W.hasDictIn K C=true)
   (ha:PySem.W.findIn K (.ref C) name=some none) (hv:mA name=some v) (hv':PySem.W.handedIn v=true) (h:Q v { s with toks:=s.toks+1 }) :
   wpAny (model prog w) A (getAttr (.ref x) name expr) Q E s:=by
 obtain⟨od,J,hl⟩:=I.look;exact PySem.W.get_value X J (PySem.W.plainGet_of hg).1 (PySem.W.findObj_own hh ha rfl (by rw[hl,hv])) hv' h
theorem Fz {Q:Value×List Value->Shared->Prop} (X:K.In s.heap) (I:ObjM s.heap x dx C mA) (hg:PySem.W.plainGet K C name=true)
   (hf:PySem.W.findIn K (.ref C) name=some (some (.ref f))) (ht:PySem.W.isFn K (.ref f)=true) (hv:mA name=none) (h:Q (.ref f,[.ref x]) s) :
   wpAny (model prog w) A (getMethod (.ref x) name pl) Q E s:=by
 obtain⟨od,J,hl⟩:=I.look;exact PySem.W.method_fn X J (PySem.W.plainGet_of hg).1 (PySem.W.plainGet_of hg).2 hf (beq_iff_eq.mp ht) (by show(PySem.W.lookIn name od).map (·.isSome)=some false; rw[hl,hv]; rfl) h
theorem A2 {ns:List Str} {Q:Unit->Shared->Prop} (X:K.In s.heap) (I:ObjM s.heap x dx C mA)
   (hs:PySem.W.findIn K (.ref C) "__setattr__"=some (some (.builtin "object.__setattr__"))) (hp:PySem.W.plainOver K C=true) (ht:PySem.W.takerIn K C name=some none) (hh:PySem.W.hasDictIn K C=true)
   (hw:PySem.Within mA ns) (hsz:ns.length<=sizeLine)
   (h:∀h',ObjM h' x dx C (λy=>if y=name then some v else mA y)->Heap.SameBut dx s.heap h'->Q () { s with heap:=h',toks:=s.toks+2 }) :
   wpAny (model prog w) A (setAttr (.ref x) name v) Q E s:=by
 obtain⟨od,J,hl⟩:=I.look;refine PySem.W.set_plain X J hs (PySem.W.osa_open (s:={ s with toks:=s.toks+1 }) (r:=none) X J hp ht λb=>?_);obtain⟨cd,hc,hd'⟩:=PySem.W.any_some hh;have hx:s.heap.get? x=some ⟨.ref C,some dx,.plain,(List.toArray [])⟩:=I.obj;refine HG (HQ (HG (HG (wpAny_loadPart hx (HG (PySem.W.Looks.here (s:={ s with toks:=s.toks+1 }) (PySem.W.looks_clsIn X hc) ?_))))));rw[hd'];refine HQ (a:=some dx) (HG (HQ (HG ?_)));refine wpAny_nsSet1 (s:={ s with toks:=s.toks+1 }) I.ns λh' hn2 hs2=>?_;obtain⟨oD,esD,epD,hoD,hdD,hcD⟩:=hn2.count (PySem.Within.cons name v hw);refine HG (wpAny_lookBehind hoD (by rw[hdD]; exact pastItsLine_dict (Ht hcD (by rw[Hh]; omega))) ?_);exact HQ (h _ #[(hs2.2 _ (Ne.symm I.ne)).trans I.obj,hn2,I.ne] hs2)
theorem EU {R:Result->Shared->Prop} {vs:List Value} {kw:List (Str×Value)} (X:K.In s.heap) (hm:PySem.W.makesIn K C=true)
   (hi:PySem.W.findIn K (.ref C) "__init__"=some (some (.ref f))) (hf:PySem.W.typeIn K (.ref f)=some (.type "function"))
   (h:codeAny (model prog w) (A.under (.builtin "type.__call__" #[.ref C :: vs,kw])) (.call (.ref f) #[.ref (s.heap.objs.size+1) :: vs,kw]) (PySem.W.InitBack (s.heap.objs.size+1) R)
     { s with heap:=(s.heap.push PySem.W.emptyDict).push (PySem.W.instObj C s.heap.objs.size) }) :
   codeAny (model prog w) A (.call (.ref C) #[vs,kw]) R s:=by
 obtain⟨hh,g,d,t,os⟩:=s;exact PySem.W.make_core (PySem.W.makes_of X hm) (PySem.W.looks_findIn X hi) (λself=>PySem.W.bind_fn X self hf) (.inl rfl) h
end
def aZ (f:Str) (v:V):List (Str×V)->List (Str×V)
 | []=>[(f,v)]
 | (g,x) :: r=>if g=f then(g,v) :: r else(g,x) :: aZ f v r
theorem cX (f g:Str) (v:V):∀fs:List (Str×V),(aZ f v fs).lookup g=if g=f then some v else fs.lookup g
 | []=>by
   show List.lookup g [(f,v)]=_;by_cases h:g=f
   . have hb:(g==f)=true:=beq_iff_eq.mpr h;simp only[List.lookup,hb,HR h]
   . have hb:(g==f)=false:=beq_eq_false_iff_ne.mpr h;simp only[List.lookup,hb,HI h]
 | (k,x) :: r=>by
   have ih:=cX f g v r;rw[show aZ f v ((k,x) :: r)=(if k=f then(k,v) :: r else(k,x) :: aZ f v r) from rfl];by_cases hk:k=f
   . rw[HR hk];by_cases h:g=k
     . have hb:(g==k)=true:=beq_iff_eq.mpr h;simp only[List.lookup,hb,HR (h.trans hk)]
     . have hb:(g==k)=false:=beq_eq_false_iff_ne.mpr h;simp only[List.lookup,hb,HI (λe:g=f=>h (e.trans hk.symm))]
   . rw[HI hk];by_cases h:g=k
     . have hb:(g==k)=true:=beq_iff_eq.mpr h;simp only[List.lookup,hb,HI (λe:g=f=>hk (h.symm.trans e))]
     . have hb:(g==k)=false:=beq_eq_false_iff_ne.mpr h;simp only[List.lookup,hb];exact ih
theorem qM (f:Str) (v:V):∀fs:List (Str×V),f∈(aZ f v fs).map (·.1)/\∀g,g∈fs.map (·.1)->g∈(aZ f v fs).map (·.1)
 | []=>#[by simp [aZ],λg h=>by simp at h]
 | (k,x) :: r=>by
   obtain⟨i1,i2⟩:=qM f v r;rw[show aZ f v ((k,x) :: r)=(if k=f then(k,v) :: r else(k,x) :: aZ f v r) from rfl];by_cases hk:k=f
   . rw[HR hk];subst hk;exact#[by simp,λg h=>by simpa using h]
   . rw[HI hk];refine#[?_,λg h=>?_]
     . rw[Ho];exact HZ _ i1
     . rw[Ho] at h ⊢;rcases HV.mp h with e|e
       . exact HV.mpr (.inl e)
       . exact HZ _ (i2 g e)
theorem nh (f:Str) (v:V):∀fs:List (Str×V),(aZ f v fs).length<=fs.length+1
 | []=>by simp [aZ]
 | (k,x) :: r=>by
   have ih:=nh f v r;rw[show aZ f v ((k,x) :: r)=(if k=f then(k,v) :: r else(k,x) :: aZ f v r) from rfl];by_cases hk:k=f
   . rw[HR hk,Hh,Hh]; omega
   . rw[HI hk,Hh,Hh]; omega
theorem d7.some_of {o:Option Value} (r:d7 (some v) o):∃u,o=some u/\bF v u:=by
 cases o with
 | none=>exact(show False from r).elim
 | some u=>exact#[u,rfl,r]
theorem d7.none_of {o:Option Value} (r:d7 none o):o=none:=by
 cases o with
 | none=>rfl
 | some u=>exact(show False from r).elim
theorem E2 (r:bF v u):PySem.W.handedIn u=true:=by
 cases v with
 | non=>cases (show u=Value.none from r); rfl
 | bl b=>cases (show u=Value.bool b from r); rfl
 | int i=>obtain⟨t,e⟩:=(show ∃t,u=Value.int i t from r); cases e; rfl
 | str x=>obtain⟨t,e⟩:=(show ∃t,u=Value.str x t from r); cases e; rfl
 | byt b=>obtain⟨t,e⟩:=(show ∃t,u=Value.bytes b t from r); cases e; rfl
 | flt b=>obtain⟨t,e⟩:=(show ∃t,u=Value.float b t from r); cases e; rfl
 | ref a=>cases (show u=Value.ref a from r); rfl
 | ty n=>cases (show u=Value.type n from r); rfl
section
variable {P:Program} {w:World} {H H':Hp} {h h':Heap} {a C dx:Addr} {fs fs':List (Str×V)}
theorem kO (hok:cC P w H h) (e:H a=some (.ins C dx fs)):∃mA,ObjM h a dx C mA/\(∀f,d7 (fs.lookup f) (mA f))/\PySem.Within mA (fs.map (·.1))/\fs.length<=1000/\H dx=some (.own a):=by
 obtain⟨d,z,ne,ob,mA,n,r,q⟩:=(show cJ P w H h a (.ins C dx fs) from hok a _ e)
 exact#[mA,#[ob,n,ne],r,q,z,d]
end
structure Cls (K:W.Frag) (C:Addr):Prop where
 pg:PySem.W.plainGet K C Str.empty=true
 hd:PySem.W.hasDictIn K C=true
 po:PySem.W.plainOver K C=true
 sa:PySem.W.findIn K (.ref C) "__setattr__"=some (some (.builtin "object.__setattr__"))
theorem Cls.get {K:W.Frag} {C:Addr} (c:Cls K C) (f:Str):PySem.W.plainGet K C f=true:=c.pg
def ci (K:W.Frag) (C:Addr) (f:Str):Prop:=PySem.W.findIn K (.ref C) f=some none
theorem ci.taker {f:Str} (n:ci K C f):PySem.W.takerIn K C f=some none:=by unfold PySem.W.takerIn;rw[show PySem.W.findIn K (.ref C) f=some none from n];rfl
structure Meth (K:W.Frag) (C:Addr) (m:Str) (f:Addr):Prop where
 at_:PySem.W.findIn K (.ref C) m=some (some (.ref f))
 fn:PySem.W.isFn K (.ref f)=true
 kp:PySem.W.keepIn K (.ref f)=true
section
variable {X:Cx} {pins:List (Addr×Obj)} {σ:St} {H:Hp} {s:Shared} {a C dx:Addr} {fs:List (Str×V)} {f:Str} {v:V} {A:Around} {E:Value->Shared->Prop}
theorem Es {b:Bool} {Q:Value->Shared->Prop} (I:Inv X pins σ H s) (e:H a=some (.ins C dx fs)) (c:Cls X.K C) (n:ci X.K C f) (l:fs.lookup f=some v)
   (h:∀u s',Inv X pins σ H s'->bF v u->Q u s'):wpAny (model X.prog X.w) A (getAttr (.ref a) f b) Q E s:=by
 obtain⟨mA,O,r,_,_,_⟩:=kO I.hok e;obtain⟨u,hu,ru⟩:=d7.some_of (v:=v) (o:=mA f) (by rw[<- l]; exact r f);exact Gg I.kIn O (c.get f) c.hd n hu (E2 ru) (h u _ (I.tok _) ru)
theorem tT {m:Str} {g:Addr} {Q:Value×List Value->Shared->Prop} (I:Inv X pins σ H s) (e:H a=some (.ins C dx fs)) (c:Cls X.K C) (k:Meth X.K C m g) (l:fs.lookup m=none)
   (h:Q (.ref g,[.ref a]) s):wpAny (model X.prog X.w) A (getMethod (.ref a) m pl) Q E s:=by
 obtain⟨mA,O,r,_,_,_⟩:=kO I.hok e;have hn:mA m=none:=d7.none_of (by rw[<- l]; exact r m);exact Fz I.kIn O (c.get m) k.at_ k.fn hn h
theorem CW {y:V} {Q:Unit->Shared->Prop} (I:Inv X pins σ H s) (e:H a=some (.ins C dx fs)) (c:Cls X.K C) (n:ci X.K C f) (hl:fs.length<1000) (ry:bF y u)
   (h:∀s',Inv X pins σ (upd H a (.ins C dx (aZ f y fs))) s'->Q () s'):wpAny (model X.prog X.w) A (setAttr (.ref a) f u) Q E s:=by
 obtain⟨mA,O,r,wi,_,ho⟩:=kO I.hok e;have hz:(fs.map (·.1)).length<=sizeLine:=by rw[HH,sizeLine_eq]; omega
 refine A2 I.kIn O c.sa c.po n.taker c.hd wi hz λh' O' sb=>h _ ?_;have hd:∃o,h'.get? dx=some o:=let ⟨o,_,_,e',_⟩:=O'.ns; #[o,e']
 refine I.write (x:=a) (e:=dx) (by rw[e]; exact True.intro) (.inr ho) (λb q hb z=>(sb.2 b hb).trans z) hd ?_;refine#[by rw[ay O.ne]; exact ho,?_,O.ne,O'.obj,_,O'.ns,λg=>?_,λg hg=>?_]
 . have:=nh f y fs; omega
 . show d7 ((aZ f y fs).lookup g) (if g=f then some u else mA g);rw[cX];by_cases q:g=f
   . rw[HR q,HR q]; exact ry
   . rw[HI q,HI q]; exact r g
 . by_cases q:g=f
   . rw[q]; exact(qM f y fs).1
   . refine(qM f y fs).2 g (wi g λz=>hg ?_);show(if g=f then some u else mA g)=none;rw[HI q]; exact z
theorem Inv.made (I:Inv X pins σ H s):Inv X pins σ (upd (upd H s.heap.objs.size (.own (s.heap.objs.size+1))) (s.heap.objs.size+1) (.ins C s.heap.objs.size []))
   { s with heap:=(s.heap.push PySem.W.emptyDict).push (PySem.W.instObj C s.heap.objs.size) }:=by
 have e1:(s.heap.push PySem.W.emptyDict).get? s.heap.objs.size=some PySem.W.emptyDict:=Hf s.heap rfl;have e2:((s.heap.push PySem.W.emptyDict).push (PySem.W.instObj C s.heap.objs.size)).get? (s.heap.objs.size+1)=some (PySem.W.instObj C s.heap.objs.size):=by have:=Hf (s.heap.push PySem.W.emptyDict) (o:=PySem.W.instObj C s.heap.objs.size) rfl;rwa [IX] at this
 have e3:(s.heap.push PySem.W.emptyDict).Ns s.heap.objs.size (λ_=>none):=#[PySem.W.emptyDict,(List.toArray []),_,e1,rfl,(λe he=>absurd he (by simp)),λ_=>rfl]
 have I1:=I.laid (a:=s.heap.objs.size) (o:=.own (s.heap.objs.size+1)) (h':=s.heap.push PySem.W.emptyDict) (t':=s.toks) (λb u q=>HJ _ q) (HN _) #[_,e1];refine I1.laid (a:=s.heap.objs.size+1) (o:=.ins C s.heap.objs.size []) (t':=s.toks) (λb u q=>HJ _ q) (Nat.le_of_eq (IX _ _)) ?_;have ne:s.heap.objs.size≠s.heap.objs.size+1:=Hw (Iv _);refine#[by rw[ay ne,aL],Hl _,ne,e2,λ_=>none,(Heap.Ns1.of_empty e3).at λo q=>HJ _ q,λ_=>True.intro,λy hy=>absurd rfl hy]
theorem Be {prog:Program} {env:Env} {f:Str} {Q:Value->Shared->Prop} (hb:attributeBase e f env (eval e env)=eval e env)
   (h:wpAny (model prog w) A (eval e env) (λo s₁=>wpAny (model prog w) A (getAttr o f true) Q E s₁) E s):wpAny (model prog w) A (eval (.Attribute e f pos) env) Q E s :=
 Attribute_any_ h (by rw[arm_eval_Attribute,hb])
end
def sQ (K:W.Frag) (ta:TE) (f:Str):TE:=λσ H Q=>ta σ H λx H1=>∃a C dx fs v,x=.ref a/\H1 a=some (.ins C dx fs)/\Cls K C/\ci K C f/\fs.lookup f=some v/\Q v H1
def Ck (K:W.Frag) (ta tv:TE) (f:Str):TS:=λD σ H=>tv σ H λy H1=>ta σ H1 λx H2=>∃a C dx fs,x=.ref a/\H2 a=some (.ins C dx fs)/\Cls K C/\ci K C f/\fs.length<1000 /\
 D.nx σ (upd H2 a (.ins C dx (aZ f y fs)))
section
variable {X:Cx} {o e value:Expr} {f:Str} {pos pos' tpos:Pos} {ta tv:TE}
theorem bK (he:PE X e ta) (hb:attributeBase e f X.env (eval e X.env)=eval e X.env):PE X (.Attribute e f pos) (sQ X.K ta f):=by intro pins s σ H Q I h;refine Be hb (aq (he pins s σ H _ I h) λu s1 ⟨x,H1,I1,rx,a,C,dx,fs,v,ex,ea,c,n,l,q⟩=>?_);subst ex;obtain rfl:u=Value.ref a:=rx;exact Es I1 ea c n l λu' s2 I2 ru=>#[v,H1,I2,ru,q]
theorem dM (ha:PE X o ta) (hv:PE X value tv) (hs:swapsWith value (some (.Attribute o f pos')) pos.line X.env=pure false):PS X (.Assign [.Attribute o f pos'] value pos) (Ck X.K ta tv f):=by intro pins s σ H D I h;refine plainObj_wpAny_Assign_Attribute (aq (hv pins s σ H _ I h) λu s1 ⟨y,H1,I1,ry,q⟩=>aq (ha pins s1 σ H1 _ I1 q) λov s2 ⟨x,H2,I2,rx,a,C,dx,fs,ex,ea,c,n,l,q2⟩=>?_) hs;subst ex;obtain rfl:ov=Value.ref a:=rx;exact CW I2 ea c n l ry λs3 I3=>#[σ,_,I3,q2]
end
section
variable {X:Cx} {pins:List (Addr×Obj)} {σ:St} {H:Hp} {s:Shared} {A:Around} {E:Value->Shared->Prop} {Q:Value->Shared->Prop} {c:Value} {b:Bool}
inductive TyOf (K:W.Frag) (H:Hp):V->Value->Prop where
 | non:TyOf K H .non (.type "NoneType")
 | bl (x:Bool):TyOf K H (.bl x) (.type "bool")
 | int (i:Int):TyOf K H (.int i) (.type "int")
 | str (x:Str):TyOf K H (.str x) (.type "str")
 | flt (x:UInt64):TyOf K H (.flt x) (.type "float")
 | lst {a:Addr} {xs:List V} (e:H a=some (.lst xs)):TyOf K H (.ref a) (.type "list")
 | frz {a:Addr} {o:Obj} {xs:List V} (e:H a=some (.frz o (.lst xs))):TyOf K H (.ref a) (.type "list")
 | tup {a:Addr} {xs:List V} (e:H a=some (.tup xs)):TyOf K H (.ref a) (.type "tuple")
 | dK {a:Addr} {kvs:List (aO×V)} (e:H a=some (.dK kvs)):TyOf K H (.ref a) (.type "dict")
 | dT {a:Addr} {kvs:List (List aO×V)} (e:H a=some (.dT kvs)):TyOf K H (.ref a) (.type "dict")
 | ins {a C dx:Addr} {fs:List (Str×V)} (e:H a=some (.ins C dx fs)) (cl:Cls K C) (ha:PySem.W.findIn K (.ref C) "__class__"=some (some (.builtin "object.__class__")))
     (hn:PySem.W.specialIn K (.builtin "object.__class__") "__get__"=some (some (.builtin "getset_descriptor.__get__"))) (htk:PySem.W.takesIn K (.builtin "object.__class__")=some true)
     (hm:PySem.W.mroIn K C (.type "object")=some true):TyOf K H (.ref a) (.ref C)
theorem zK {x:V} {t:Value}(I:Inv X pins σ H s) (rx:bF x u) (ty:TyOf X.K H x t) (e:PySem.W.kitOne X.K t c=some b) (h:∀tk,Q (.bool b) { s with toks:=tk }) :
   wpAny (model X.prog X.w) A (call (.builtin "isinstance") [u,c]) Q E s:=by
 cases ty with
 | non=>cases (show u=Value.none from rx); exact PySem.W.kia_one PySem.W.kitx_none I.kIn True.intro e (λz=>nomatch z) h
 | bl y=>cases (show u=Value.bool y from rx); exact PySem.W.kia_one PySem.W.kitx_bool I.kIn True.intro e (λz=>nomatch z) h
 | int i=>obtain⟨t,q⟩:=(show ∃t,u=Value.int i t from rx); cases q; exact PySem.W.kia_one PySem.W.kitx_int I.kIn True.intro e (λz=>nomatch z) h
 | str y=>obtain⟨t,q⟩:=(show ∃t,u=Value.str y t from rx); cases q; exact PySem.W.kia_one PySem.W.kitx_str I.kIn True.intro e (λz=>nomatch z) h
 | flt y=>obtain⟨t,q⟩:=(show ∃t,u=Value.float y t from rx); cases q; exact PySem.W.kia_one PySem.W.kitx_float I.kIn True.intro e (λz=>nomatch z) h
 | @lst a xs ea =>
   cases (show u=Value.ref a from rx);obtain⟨_,_,n,_,h1⟩:=(show cJ X.prog X.w H s.heap a (.lst xs) from I.hok a _ ea)
   exact PySem.W.kia_one PySem.W.kitx_list I.kIn #[_,h1,rfl] e (λz=>nomatch z) h
 | @frz a ob xs ea =>
   cases (show u=Value.ref a from rx);obtain⟨_,_,_,n,_,h1⟩:=(show cJ X.prog X.w H s.heap a (.frz ob (.lst xs)) from I.hok a _ ea)
   exact PySem.W.kia_one PySem.W.kitx_list I.kIn #[_,h1,rfl] e (λz=>nomatch z) h
 | @tup a xs ea =>
   cases (show u=Value.ref a from rx);obtain⟨_,_,_,p⟩:=(show cJ X.prog X.w H s.heap a (.tup xs) from I.hok a _ ea)
   obtain⟨o,h1,h2,_⟩:=p;exact PySem.W.kia_one PySem.W.kitx_tuple I.kIn #[o,h1,h2] e (λz=>nomatch z) h
 | @dK a kvs ea =>
   cases (show u=Value.ref a from rx);obtain⟨_,_,vs,_,p⟩:=(show cJ X.prog X.w H s.heap a (.dK kvs) from I.hok a _ ea)
   obtain⟨o,es,ep,h1,h2,_⟩:=p;exact PySem.W.kia_one PySem.W.kitx_dict I.kIn #[o,h1,h2.1] e (λz=>nomatch z) h
 | @dT a kvs ea =>
   cases (show u=Value.ref a from rx);obtain⟨_,_,xs,_,o,es,ep,h1,h2,_⟩:=(show cJ X.prog X.w H s.heap a (.dT kvs) from I.hok a _ ea)
   exact PySem.W.kia_one PySem.W.kitx_dict I.kIn #[o,h1,h2.1] e (λz=>nomatch z) h
 | @ins a C dx fs ea cl ha hn htk hm =>
   cases (show u=Value.ref a from rx);obtain⟨mA,O,_⟩:=kO I.hok ea;obtain⟨od,J,_⟩:=O.look;exact PySem.W.kia_one (PySem.W.kitx_own (cl.get _) cl.hd ha hn htk hm) I.kIn J e (λz=>nomatch z) h
end
structure Room (k:Nat) (A:Around):Prop where
 hd:A.handled=none
 dp:A.depth+3 * k+5<recursionLimit
 un:A.units+16 * k+200<cLine
theorem Room.mono {j k:Nat} (r:Room k A) (h:j<=k):Room j A:=#[r.hd,by have:=r.dp; omega,by have:=r.un; omega]
theorem Room.deeper {k:Nat} (r:Room (k+1) A) (env:Env):Room k (A.deeper env) :=
 #[r.hd,by have:=r.dp; show A.depth+1+3 * k+5<_; omega,by have:=r.un; show A.units+3+16 * k+200<_; omega]
theorem DO {kw:List (Str×Value)}:(A.under (.builtin "type.__call__" #[.ref C :: us,kw])).depth=A.depth+1:=by
 first|rfl|simp [Around.under,Code.weight,Code.isCreation,Code.isGuard,Code.isCaller,Code.frames,Code.isFrame,guardIds]
theorem DI {kw:List (Str×Value)}:(A.under (.builtin "type.__call__" #[.ref C :: us,kw])).units=A.units+1:=by
 first|rfl|simp [Around.under,Code.cUnits,Code.frames,Code.isFrame]
theorem Room.make {k:Nat} (r:Room (k+1) A) (C:Addr) (us:List Value) (kw:List (Str×Value)):Room k (A.under (.builtin "type.__call__" #[.ref C :: us,kw])) :=
 #[r.hd,by have:=r.dp; rw[DO]; omega,by have:=r.un; rw[DI]; omega]
theorem Room.depth {k:Nat} (r:Room k A):A.depth<recursionLimit:=by have:=r.dp; omega
theorem Room.units {k:Nat} (r:Room k A):A.units+64<cLine:=by have:=r.un; omega
def rT:TA:=λ_ H Q=>Q [] H
def wT (ta:TE) (tr:TA):TA:=λσ H Q=>ta σ H λx H1=>tr σ H1 λxs H2=>Q (x :: xs) H2
section
variable {X:Cx} {e:Expr} {es:List Expr} {te:TE} {t:TA} {pos:Pos}
theorem aF:PA X [] rT:=λ_ _ _ _ H Q I h=>Calls.spliced_nil #[[],H,I,.nil,h]
theorem aH (ha:PE X e te) (hr:PA X es t) (hs:starEach (e :: es) X.env=(false,eval e X.env) :: starEach es X.env:=by rfl):PA X (e :: es) (wT te t):=by intro pos pins s σ H Q I h;rw[hs];show wpAny _ _ (spliced ((false,eval e X.env) :: backTo pos (starEach es X.env))) _ _ s;refine Calls.spliced_cons (aq (ha pins s σ H _ I h) λu s1 ⟨x,H1,I1,r1,q1⟩=>?_);exact aq (hr pos pins s1 σ H1 _ I1 q1) λus s2 ⟨xs,H2,I2,r2,q2⟩=>#[x :: xs,H2,I2,.cons r1 r2,q2]
theorem aE {es:List Expr} {te:TE} {t:TA} (ha:PE X e te) (hr:PA X es t) (hs:starEach (e :: es) X.env=(false,eval e X.env) :: starEach es X.env):PA X (e :: es) (wT te t):=aH ha hr hs
def Eo (t:TA):TE:=λσ H Q=>t σ H λxs H1=>xs.length<=sizeLine/\∀p,H1 p=none->Q (.ref p) (upd H1 p (.tup xs))
def ut (t:TA):TE:=λσ H Q=>t σ H λxs H1=>xs.length<=sizeLine/\∀p,H1 p=none->Q (.ref p) (upd H1 p (.lst xs))
theorem aY {x1} (h:PA X es t):PE X (.Tuple es x1 pos) (Eo t):=by intro pins s σ H Q I hq;refine wpAny_Tuple_spliced (aq (h pos pins s σ H _ I hq) λus s1 ⟨xs,H1,I1,r,z,q⟩=>#[by rw[<- r.length]; exact z,?_]);have hf:H1 s1.heap.objs.size=none:=I1.hok.fresh (HN _);refine#[.ref s1.heap.objs.size,upd H1 s1.heap.objs.size (.tup xs),I1.laid (t':=s1.toks) (λb u e=>HJ _ e) (HN _) ?_,rfl,q _ hf];exact#[z,us,r,#[_,Hf _ rfl,rfl,_,rfl]]
theorem bj (h:PA X es t):PE X (.List es pos) (ut t):=by intro pins s σ H Q I hq;refine wpAny_List_spliced (aq (h pos pins s σ H _ I hq) λus s1 ⟨xs,H1,I1,r,z,q⟩=>#[by rw[<- r.length]; exact z,?_]);have hf:H1 s1.heap.objs.size=none:=I1.hok.fresh (HN _);refine#[.ref s1.heap.objs.size,upd H1 s1.heap.objs.size (.lst xs),I1.laid (t':=s1.toks) (λb u e=>HJ _ e) (HN _) ?_,rfl,q _ hf];exact#[z,us,0,r,Hf _ rfl]
end
abbrev Sp:=List V->Hp->VK->XK->Prop
abbrev fO:=List Env->Hp->Shared->XK->Value->Shared->Prop
structure Env0 (P:Program) (w:World) (K:W.Frag) (mg:Str->Option Value) (base:Heap) (A:Around) (outer:List Env) (s:Shared) (H:Hp):Prop where
 frames:A.frames=some outer
 mod:Mod K mg base
 bs:∀b o,base.get? b=some o->s.heap.get? b=some o/\H b=none
 bsz:base.objs.size<=s.heap.objs.size
 funs:s.heap.FunFrames base outer
 frf:∀b∈fK outer,H b=none
 hok:cC P w H s.heap
 bare:AllBare s.gens
def CE (outer:List Env) (P:Program) (w:World) (H:Hp) (s:Shared) (Q:VK) (u:Value) (s':Shared):Prop :=
 ∃v H',s'.os=s.os/\AllBare s'.gens/\Un (fK outer) [] H H' s.heap s'.heap/\cC P w H' s'.heap/\bF v u/\Q v H'
def CR (CX:fO) (outer:List Env) (P:Program) (w:World) (H:Hp) (s:Shared) (Q:VK) (E:XK) (r:Result) (s':Shared):Prop :=
 match r with
 | .ok (.ret u)=>CE outer P w H s Q u s'
 | .ok _=>False
 | .error e=>CX outer H s E e s'
structure FnOk (P:Program) (w:World) (K:W.Frag) (mg:Str->Option Value) (base:Heap) (CX:fO) (k:Nat) (f:Addr) (fd:FuncData) (ps:List Str) (sp:Sp):Prop where
 len:∀vs H Q E,sp vs H Q E->vs.length=ps.length
 run:∀(A:Around) (outer:List Env) (s:Shared) (H:Hp) (args:Args) (us:List Value) (vs:List V) (Q:VK) (E:XK),Room k A->Env0 P w K mg base A outer s H->BindsTo s fd args (ps.zip us)->ax vs us->sp vs H Q E ->
   codeAny (model P w) A (.call (.ref f) args) (CR CX outer P w H s Q E) s
variable {base:Heap}
theorem Env0.make {mg:Str->Option Value} {outer:List Env} (e:Env0 P w K mg base A outer s H) (C:Addr) (us:List Value) (kw:List (Str×Value)) :
   Env0 P w K mg base (A.under (.builtin "type.__call__" #[.ref C :: us,kw])) outer s H:=#[by first|exact e.frames|(simpa [Around.under,Code.envs,Code.isFrame,pushEnvs] using e.frames),e.mod,e.bs,e.bsz,e.funs,e.frf,e.hok,e.bare]
section
variable {X:Cx} {pins:List (Addr×Obj)} {σ:St} {H:Hp} {s s':Shared}
theorem Inv.env0 (I:Inv X pins σ H s):Env0 X.prog X.w X.K X.mg X.base X.A X.stack s H :=
 #[I.ok.frames,I.ok.mod,I.bs,Ht I.ok.bsz I.sz,I.stack,I.stkFree,I.hok,I.bare]
theorem Inv.after {Q:VK} (I:Inv X pins σ H s) (h:CE X.stack X.prog X.w H s Q u s'):EP X pins σ Q u s':=by obtain⟨v,H',os,bare,un,hok,r,q⟩:=h;obtain⟨hh,g,d,t,os'⟩:=s';obtain rfl:os'=s.os:=os;exact#[v,H',I.call (h':=hh) (g':=g) (d':=d) (t':=t) (ch:=[]) un hok bare (λb z=>absurd z (by simp)),r,q]
end
def vR (sp:Sp) (dvs:List V) (E:XK) (t:TA):TE:=λσ H Q=>t σ H λvs H1=>sp (vs++dvs) H1 Q E
def rM (C:Addr) (m:Str) (sp:Sp) (dvs:List V) (E:XK) (ta:TE) (t:TA):TE:=λσ H Q=>ta σ H λx H1=>∃a dx fs,x=.ref a/\H1 a=some (.ins C dx fs)/\fs.lookup m=none /\
 t σ H1 λvs H2=>sp (x :: (vs++dvs)) H2 Q E
def ve (C:Addr) (sp:Sp) (dvs:List V) (E:XK) (t:TA):TE:=λσ H Q=>t σ H λvs H1=>∀x dx,H1 x=none->H1 dx=none->dx≠x ->
 sp (.ref x :: (vs++dvs)) (upd (upd H1 dx (.own x)) x (.ins C dx [])) (λv H2=>v=.non/\Q (.ref x) H2) E
def fB (K:W.Frag) (fd:FuncData) (ps:List Str) (ds:List Value):Prop :=
 ∀(s:Shared) (us:List Value),K.In s.heap->(us++ds).length=ps.length->BindsTo s fd #[us,[]] (ps.zip (us++ds))
theorem fB.all {fd:FuncData} {ps:List Str} (h:∀us:List Value,us.length=ps.length->bindArgs fd #[us,[]]=pure (ps.zip us)):fB K fd ps []:=λs us _ hl=>by rw[II] at hl ⊢;exact .of_eq (h us hl)
def i5 (CX:fO) (X:Cx) (E:XK):Prop:=∀(pins:List (Addr×Obj)) (σ:St) (H:Hp) (s:Shared) (e:Value) (s':Shared),Inv X pins σ H s->CX X.stack H s E e s'->X.xe e s'
section
variable {X:Cx} {CX:fO} {k:Nat} {f C:Addr} {fd:FuncData} {ps:List Str} {sp:Sp} {dvs:List V} {ds:List Value} {E:XK} {x m:Str} {p pos apos:Pos} {e o:Expr} {es:List Expr} {ta:TE} {t:TA}
theorem qd {Q:VK} {vs:List V} (F:FnOk X.prog X.w X.K X.mg X.base CX k f fd ps sp) (hr:Room k X.A) (hb:fB X.K fd ps ds) (hd:ax dvs ds) (hx:i5 CX X E)
   (I:Inv X pins σ H s) (r:ax vs us) (h:sp (vs++dvs) H Q E):wpAny (model X.prog X.w) X.A (call (.ref f) us) (EP X pins σ Q) X.xe s:=by
 have r2:ax (vs++dvs) (us++ds):=r.append hd;have hl:(us++ds).length=ps.length:=by rw[<- r2.length]; exact F.len _ _ _ _ h
 refine wpAny_call (KG (F.run X.A X.stack s H #[us,[]] (us++ds) (vs++dvs) Q E hr I.env0 (hb s us I.kIn hl) r2 h) λr s' hq=>?_);cases r with
 | error e=>exact hx pins σ H s e s' I hq
 | ok fl =>
   cases fl with
   | ret u=>exact I.after hq
   | next=>exact False.elim hq
   | brk=>exact False.elim hq
   | cont=>exact False.elim hq
theorem Ez (F:FnOk X.prog X.w X.K X.mg X.base CX k f fd ps sp) (hr:Room k X.A) (hg:Gl X x) (hm:X.mg x=some (.ref f)) (hk:PySem.W.keepIn X.K (.ref f)=true) (hb:fB X.K fd ps ds) (hd:ax dvs ds) (hx:i5 CX X E)
   (ha:PA X (e :: es) t) (hdb:(x==("__debug__":Str))=false:=by decide) (he:starEach (e :: es) X.env=(false,eval e X.env) :: starEach es X.env:=by rfl) (hpl:(backTo pos (starEach es X.env)).any (·.1)=false:=by rfl) :
   PE X (.Call (.Name x p) (e :: es) [] pos) (vR sp dvs E t):=by
 intro pins s σ H Q I h;refine JA (pk I hg hm ?_ hdb);refine PySem.W.callWith_K (h₀:=X.base) I.ok.mod.kin hk (aq (ha pos pins s σ H _ I h) λus s1 ⟨vs,H1,I1,r,q⟩=>#[I1.kIn,?_]) he hpl;exact qd F hr hb hd hx I1 r q
theorem cw (he:PE X o ta) (c:Cls X.K C) (hm:Meth X.K C m f) (F:FnOk X.prog X.w X.K X.mg X.base CX k f fd ps sp) (hr:Room k X.A) (hb:fB X.K fd ps ds) (hd:ax dvs ds) (hx:i5 CX X E) (ha:PA X (e :: es) t)
   (hst:starEach (e :: es) X.env=(false,eval e X.env) :: starEach es X.env:=by rfl) (hpl:(backTo pos (starEach es X.env)).any (·.1)=false:=by rfl)
   (ht:eval (.Call (.Attribute o m apos) (e :: es) [] pos) X.env=(do
     let ov <- eval o X.env
     standAt apos.atName
     let (f,first) <- holding [ov] (getMethod ov m pl)
     callWith pos f first (backTo pos (starEach (e :: es) X.env)) (backToKw pos (keywordEach [] X.env))):=by rfl) :
   PE X (.Call (.Attribute o m apos) (e :: es) [] pos) (rM C m sp dvs E ta t):=by
 intro pins s σ H Q I h;refine PySem.W.methodCall_KW (pl:=pl) (aq (he pins s σ H _ I h) λu s1 ⟨x,H1,I1,rx,a,dx,fs,ex,ea,l,q⟩=>?_) ht;subst ex;obtain rfl:u=Value.ref a:=rx;refine tT I1 ea c hm l ?_;refine PySem.W.callWith_K (first:=[.ref a]) (h₀:=X.base) I.ok.mod.kin hm.kp (aq (ha pos pins s1 σ H1 _ I1 q) λus s2 ⟨vs,H2,I2,r,q2⟩=>#[I2.kIn,?_]) hst hpl;exact qd (us:=.ref a :: us) (vs:=.ref a :: vs) F hr hb hd hx I2 (.cons rfl r) q2
theorem AH (he:PE X o ta) (c:Cls X.K C) (hm:Meth X.K C m f) (F:FnOk X.prog X.w X.K X.mg X.base CX k f fd ps sp) (hr:Room k X.A) (hb:fB X.K fd ps ds) (hd:ax dvs ds) (hx:i5 CX X E)
   (ht:eval (.Call (.Attribute o m apos) [] [] pos) X.env=(do
     let ov <- eval o X.env
     standAt apos.atName
     let (f,first) <- holding [ov] (getMethod ov m pl)
     callWith pos f first (backTo pos (starEach [] X.env)) (backToKw pos (keywordEach [] X.env))):=by rfl) :
   PE X (.Call (.Attribute o m apos) [] [] pos) (rM C m sp dvs E ta rT):=by
 intro pins s σ H Q I h;refine PySem.W.methodCall_KW (pl:=pl) (aq (he pins s σ H _ I h) λu s1 ⟨x,H1,I1,rx,a,dx,fs,ex,ea,l,q⟩=>?_) ht;subst ex;obtain rfl:u=Value.ref a:=rx;refine tT I1 ea c hm l ?_;exact PySem.W.callWith_K0 (first:=[.ref a]) I1.kIn hm.kp (qd (us:=[.ref a]) (vs:=[.ref a]) F hr hb hd hx I1 (.cons rfl .nil) q)
structure Mk (K:W.Frag) (C f:Addr):Prop where
 makes:PySem.W.makesIn K C=true
 init:PySem.W.findIn K (.ref C) "__init__"=some (some (.ref f))
 fn:PySem.W.isFn K (.ref f)=true
 kp:PySem.W.keepIn K (.ref C)=true
theorem zu {Q:VK} {vs:List V} (M:Mk X.K C f) (F:FnOk X.prog X.w X.K X.mg X.base CX k f fd ps sp) (hr:Room (k+1) X.A) (hb:fB X.K fd ps ds) (hd:ax dvs ds)
   (hx:i5 CX X E) (I:Inv X pins σ H s) (r:ax vs us)
   (h:∀x dx,H x=none->H dx=none->dx≠x->sp (.ref x :: (vs++dvs)) (upd (upd H dx (.own x)) x (.ins C dx [])) (λv H2=>v=.non/\Q (.ref x) H2) E) :
   wpAny (model X.prog X.w) X.A (call (.ref C) us) (EP X pins σ Q) X.xe s:=by
 have hq:=h (s.heap.objs.size+1) s.heap.objs.size (I.hok.fresh (Jc _)) (I.hok.fresh (HN _)) (Hw (Iv _));have I2:=Inv.made (C:=C) I;have r2:ax (V.ref (s.heap.objs.size+1) :: (vs++dvs)) (Value.ref (s.heap.objs.size+1) :: (us++ds)):=.cons rfl (r.append hd);have hl:(Value.ref (s.heap.objs.size+1) :: us++ds).length=ps.length:=by have e:=r2.length;rw[F.len _ _ _ _ hq] at e;exact e.symm
 refine wpAny_call (EU (f:=f) I.kIn M.makes M.init (beq_iff_eq.mp M.fn) (KG (F.run _ X.stack _ _ #[Value.ref (s.heap.objs.size+1) :: us,[]] (Value.ref (s.heap.objs.size+1) :: (us++ds)) _ _ E (hr.make C us [])
   (I2.env0.make C us []) (hb _ (Value.ref (s.heap.objs.size+1) :: us) I2.kIn hl) r2 hq) λr s' hq'=>?_))
 cases r with
 | error e=>exact hx pins σ _ _ e s' I2 hq'
 | ok fl =>
   cases fl with
   | ret u =>
     obtain⟨v,H',I3,rv,ev,q3⟩:=I2.after hq';subst ev;exact#[rv,#[V.ref (s.heap.objs.size+1),H',I3,rfl,q3]]
   | next=>exact False.elim hq'
   | brk=>exact False.elim hq'
   | cont=>exact False.elim hq'
theorem Ca (M:Mk X.K C f) (F:FnOk X.prog X.w X.K X.mg X.base CX k f fd ps sp) (hr:Room (k+1) X.A) (hg:Gl X x) (hm:X.mg x=some (.ref C)) (hb:fB X.K fd ps ds) (hd:ax dvs ds) (hx:i5 CX X E)
   (ha:PA X (e :: es) t) (hdb:(x==("__debug__":Str))=false:=by decide) (he:starEach (e :: es) X.env=(false,eval e X.env) :: starEach es X.env:=by rfl) (hpl:(backTo pos (starEach es X.env)).any (·.1)=false:=by rfl) :
   PE X (.Call (.Name x p) (e :: es) [] pos) (ve C sp dvs E t):=by
 intro pins s σ H Q I h;refine JA (pk I hg hm ?_ hdb);refine PySem.W.callWith_K (h₀:=X.base) I.ok.mod.kin M.kp (aq (ha pos pins s σ H _ I h) λus s1 ⟨vs,H1,I1,r,q⟩=>#[I1.kIn,?_]) he hpl;exact zu M F hr hb hd hx I1 r q
end
structure FnScope (N P:List Str) (sc:Scope):Prop where
 kind:sc.kind=.function
 co:sc.isCoroutine=false
 gen:sc.isGenerator=false
 nd:N.Nodup
 pre:N.take P.length=P
 par:∀x∈P,sc.names.lookup x=some .local\/sc.names.lookup x=some .cell
 nofree:∀y∈sc.names,y.2≠.free
theorem sT {kindOf:Str->Option NameKind} {x:Str}:∀{binds:List (Str×Value)} {m:Str->Option Value},(∀v,(x,v) ∉ binds)->bindL kindOf binds m x=m x
 | [],_,_=>rfl
 | (n,v) :: r,m,h=>by
   unfold bindL;rw[sT λw hw=>h w (HZ _ hw)];split
   . have:x≠n:=by rintro rfl; exact h v HS
     simp [this]
   . rfl
theorem vG {kindOf:Str->Option NameKind} {x:Str}:∀{binds:List (Str×Value)} {m:Str->Option Value},(∀v,(x,v) ∉ binds)->bindC kindOf binds m x=m x
 | [],_,_=>rfl
 | (n,v) :: r,m,h=>by
   unfold bindC;rw[vG λw hw=>h w (HZ _ hw)];split
   . rfl
   . have:x≠n:=by rintro rfl; exact h v HS
     simp [this]
theorem uJ {kindOf:Str->Option NameKind} {x:Str} {v:Value}:∀{P:List Str} {vs:List Value} {i:Nat} {m:Str->Option Value},P.Nodup->P[i]?=some x->vs[i]?=some v->kindOf x=some .local ->
   bindL kindOf (P.zip vs) m x=some v
 | [],_,_,_,_,h,_,_=>by simp at h
 | _ :: _,[],_,_,_,_,h,_=>by simp at h
 | p :: P,w :: vs,0,m,nd,h1,h2,hk=>by simp at h1 h2; subst h1; subst h2;show bindL kindOf ((p,w) :: P.zip vs) m p=_;unfold bindL;rw[sT λv hv=>(Ix.mp nd).1 (JM hv).1,HR hk];simp
 | p :: P,w :: vs,i+1,m,nd,h1,h2,hk=>by show bindL kindOf ((p,w) :: P.zip vs) m x=_;unfold bindL;exact uJ (i:=i) (Ix.mp nd).2 (by simpa using h1) (by simpa using h2) hk
theorem rR {kindOf:Str->Option NameKind} {x:Str} {v:Value}:∀{P:List Str} {vs:List Value} {i:Nat} {m:Str->Option Value},P.Nodup->P[i]?=some x->vs[i]?=some v->kindOf x≠some .local ->
   bindC kindOf (P.zip vs) m x=some v
 | [],_,_,_,_,h,_,_=>by simp at h
 | _ :: _,[],_,_,_,_,h,_=>by simp at h
 | p :: P,w :: vs,0,m,nd,h1,h2,hk=>by simp at h1 h2; subst h1; subst h2;show bindC kindOf ((p,w) :: P.zip vs) m p=_;unfold bindC;rw[vG λv hv=>(Ix.mp nd).1 (JM hv).1,HI hk];simp
 | p :: P,w :: vs,i+1,m,nd,h1,h2,hk=>by show bindC kindOf ((p,w) :: P.zip vs) m x=_;unfold bindC;exact rR (i:=i) (Ix.mp nd).2 (by simpa using h1) (by simpa using h2) hk
def gX (N:List Str) (vs:List V):St:=vs.map some++List.replicate (N.length - vs.length) none
def i' (CX:fO) (P:Program) (w:World) (K:W.Frag) (mg:Str->Option Value) (base:Heap) (N:List Str) (qual:Str) (scope:Scope) (f:Addr) (cd:Value) (A:Around) (outer:List Env) (s:Shared) (H:Hp) (E:XK):Cx where
 prog:=P
 w:=w
 K:=K
 mg:=mg
 base:=base
 A:=A.deeper (envOfC qual scope s.heap.objs.size f cd)
 N:=N
 s₀:=s
 H₀:=H
 env:=envOfC qual scope s.heap.objs.size f cd
 outer:=outer
 stack:=envOfC qual scope s.heap.objs.size f cd :: outer
 ex:=[]
 calm:=true
 fn:=λ_=>true
 pn:=[]
 xe:=λe s'=>wpAny (model P w) (A.deeper (envOfC qual scope s.heap.objs.size f cd)) (leaving (envOfC qual scope s.heap.objs.size f cd) e) (λ_ s''=>CX outer H s E e s'') (λe' s''=>CX outer H s E e' s'') s'
theorem ud {sc:Scope} {n:Nat} (h:sc.names.lookup x=some .cell):∃c,(cellsFrom n sc.names []).lookup x=some c:=by have q:=PySem.W.cellsFrom_some sc.names n [] (.inl h);exact JO.mp q
theorem E7 {CX:fO} {mg:Str->Option Value} {N ps:List Str} {qual:Str} {scope:Scope} {f:Addr} {cd:Value} {outer:List Env} {s1:Shared}{E:XK} {vs:List V}
   (S:FnScope N ps scope) (hd:A.handled=none) (e0:Env0 P w K mg base A outer s H) (hl:vs.length=ps.length) (r:ax vs us)
   (x:InCallC s s.heap.objs.size (bindL (envOfC qual scope s.heap.objs.size f cd).kindOf (ps.zip us) λ_=>none) (cellsFrom (s.heap.objs.size+1) scope.names []) (bindC (envOfC qual scope s.heap.objs.size f cd).kindOf (ps.zip us) λ_=>none) s1) :
   Inv (i' CX P w K mg base N qual scope f cd A outer s H E) [] (gX N vs) H s1:=by
 have hpl:ps.length<=N.length:=by have:=Hb List.length S.pre; rw[Hx] at this; omega
 obtain⟨h1,tk,rfl,hk⟩:=x.done;have noA:∀b:Addr,b ∉ (i' CX P w K mg base N qual scope f cd A outer s H E).ex:=λb z=>absurd (show b∈([]:List Addr) from z) (by simp);refine#[#[e0.mod,S.kind,rfl,rfl,HN _,λy z c h1 h2=>?_,λy hy=>?_,λy c _ h=>?_,λ_=>hd,Around.frames_deeper e0.frames,.inr #[rfl,rfl],λb z=>absurd z (noA b),e0.bs,e0.bsz,λb _ _=>noA b,λb z=>absurd z (noA b),e0.funs,e0.frf],
   rfl,e0.bare,Un.kept hk,#[_,x.toInCall.ns,λi y v h1 h2 h3=>?_],λy c h=>#[_,x.cell y c h],e0.hok.fresh (HN _),λy c h=>?_,λp hp=>absurd (show p∈([]:List (Addr×Obj)) from hp) (by simp),e0.hok.kept hk,?_]
 . exact name_of_addr x.apart (PySem.mem_of_lookup h1) (PySem.mem_of_lookup h2)
 . have hy:scope.names.lookup y=some .cell\/scope.names.lookup y=some .free:=hy;rcases hy with hy|hy
   . exact ud hy
   . exact absurd rfl (S.nofree _ (PySem.mem_of_lookup hy))
 . exact KE (x.above y c (PySem.mem_of_lookup h))
 . have hi:i<vs.length:=by
     unfold gX at h2;by_cases hi:i<vs.length
     . exact hi
     . rw[IR (by simpa using hi)] at h2;rw[List.getElem?_replicate] at h2;split at h2 <;> cases h2
   have ha:vs[i]?=some v:=by
     unfold gX at h2;rw[J5 (by simpa using hi),HW] at h2;cases e:vs[i]? with
     | none=>rw[e] at h2; cases h2
     | some a=>rw[e] at h2; cases h2; rfl
   obtain⟨u,hu,rv⟩:=r.get ha;have hp:ps[i]?=some y:=by rw[<- S.pre,JP (by omega)]; exact h1
   have ndP:ps.Nodup:=by rw[<- S.pre]; exact S.nd.sublist (List.take_sublist _ _)
   refine#[u,rv,?_];rcases S.par y (HP hp) with k|k
   . exact .inl #[k,uJ ndP hp hu k]
   . obtain⟨c,e⟩:=ud (n:=s.heap.objs.size+1) k;refine .inr #[.inl k,c,e,?_];have q:=x.cell y c e;rw[rR ndP hp hu (by show scope.names.lookup y≠_; rw[k]; decide)] at q;exact q
 . exact e0.hok.fresh (KE (x.above y c (PySem.mem_of_lookup h)))
 . unfold gX;show _=N.length;rw[HU,HH,Hj];omega
theorem AD {CX:fO} {mg:Str->Option Value} {k:Nat} {f:Addr} {name qual:Str} {params:Arguments} {body:List Stmt} {scope:Scope} {dV kV doc pm cdv ct oc:Value} {an od:Option Addr}
   {osl:Array (Option Value)} {N ps:List Str} {sp:Sp} (lk:K.lookup f=some #[oc,od,.func (PySem.W.fnOf name qual params body scope dV kV doc pm an cdv ct),osl]) (hcd:PySem.W.codeIn K cdv qual=true) (S:FnScope N ps scope)
   (len:∀vs H Q E,sp vs H Q E->vs.length=ps.length)
   (hbody:∀(A:Around) (outer:List Env) (s:Shared) (H:Hp) (vs:List V) (Q:VK) (E:XK),Room k (A.deeper (envOfC qual scope s.heap.objs.size f cdv))->sp vs H Q E ->
     ∃t,bV (i' CX P w K mg base N qual scope f cdv A outer s H E) body t/\t { nx:=λ_ H'=>Q .non H',rt:=Q } (gX N vs) H) :
   FnOk P w K mg base CX (k+1) f (PySem.W.fnOf name qual params body scope dV kV doc pm an cdv ct) ps sp:=by
 refine#[len,λA outer s H args us vs Q E hr e0 hb r hsp=>?_];have hl:=len _ _ _ _ hsp;have KX:K.In s.heap:=e0.mod.kin.keeps λb o e=>(e0.bs b o e).1;have lim:s.heap.NoLimit:=e0.mod.nolimit.keeps λb o e=>(e0.bs b o e).1;have hkind:∀y∈ps.zip us,scope.names.lookup y.1=some .local\/(scope.names.lookup y.1=some .cell/\((cellsFrom (s.heap.objs.size+1) scope.names []).lookup y.1).isSome=true):=λ⟨n,v⟩ hy=>by
   rcases S.par n (JM hy).1 with q|q
   . exact .inl q
   . exact .inr #[q,PySem.W.cellsFrom_some _ _ _ (.inl q)]
 refine codeAny_call_function hr.depth (KX _ _ lk) rfl S.co S.gen rfl (PySem.W.codeRec_of KX hcd) (hb _ _ _ _ ?_);refine wpAny_newFunctionEnv_cells S.kind hkind λenv he s1 x=>?_;subst he;refine#[lim.keeps x.toInCall.keep,codeAny_func ?_];obtain⟨t,ht,hq⟩:=hbody A outer s H vs Q E (hr.deeper _) hsp;have I:Inv (i' CX P w K mg base N qual scope f cdv A outer s H E) [] (gX N vs) H s1:=E7 S hr.hd e0 hl r x;refine JS (ht [] s1 (gX N vs) H _ I hq) (λfl s' hs=>?_) λe s' hs=>hs;have fin:∀{σ':St} {H':Hp} {v:V} {u:Value},Inv (i' CX P w K mg base N qual scope f cdv A outer s H E) [] σ' H' s'->bF v u->Q v H'->CE outer P w H s Q u s' :=
   λ{σ' H' v u} J rv q=>#[v,H',J.os,J.bare,J.base,J.hok,rv,q]
 cases fl with
 | ret u =>
   obtain⟨v,σ',H',J,rv,q⟩:=hs;exact fin J rv q
 | next =>
   obtain⟨σ',H',J,q⟩:=hs;exact fin (v:=V.non) (u:=Value.none) J rfl q
 | brk =>
   obtain⟨_,_,_,q⟩:=hs;exact False.elim q
 | cont =>
   obtain⟨_,_,_,q⟩:=hs;exact False.elim q
section
variable {X:Cx} {x:Str} {p pos:Pos} {e:Expr} {es:List Expr} {t:TA} {id T:String} {r:List V->Hp->VK->Prop}
def kX (r:List V->Hp->VK->Prop) (t:TA):TE:=λσ H Q=>t σ H λvs H1=>r vs H1 Q
theorem cP (hc:bx X (.builtin id) r) (hg:Gl X x) (hm:X.mg x=none) (hv:bootBuiltins x=some (.builtin id)) (ha:PA X (e :: es) t) (hn:x≠"__name__":=by decide) (hdb:(x==("__debug__":Str))=false:=by decide)
   (he:starEach (e :: es) X.env=(false,eval e X.env) :: starEach es X.env:=by rfl) (hpl:(backTo pos (starEach es X.env)).any (·.1)=false:=by rfl):PE X (.Call (.Name x p) (e :: es) [] pos) (kX r t):=by
 intro pins s σ H Q I h;refine JA (gF I hg hm hv ?_ hn hdb);exact PyProof.Rows.callWith_builtin1 (aq (ha pos pins s σ H _ I h) λus s1 ⟨vs,H1,I1,r1,q1⟩=>hc pins s1 σ H1 vs us Q I1 r1 q1) he hpl
theorem d6 (hc:bx X (.type T) r) (hg:Gl X x) (hm:X.mg x=none) (hv:bootBuiltins x=some (.type T)) (ha:PA X (e :: es) t) (hn:x≠"__name__":=by decide) (hdb:(x==("__debug__":Str))=false:=by decide)
   (he:starEach (e :: es) X.env=(false,eval e X.env) :: starEach es X.env:=by rfl) (hpl:(backTo pos (starEach es X.env)).any (·.1)=false:=by rfl):PE X (.Call (.Name x p) (e :: es) [] pos) (kX r t):=by
 intro pins s σ H Q I h;refine JA (gF I hg hm hv ?_ hn hdb);exact IE (aq (ha pos pins s σ H _ I h) λus s1 ⟨vs,H1,I1,r1,q1⟩=>hc pins s1 σ H1 vs us Q I1 r1 q1) he hpl
end
end L2
namespace HT
open PySem PyProof.Rows
section
variable {prog:Program} {w:World} {A:Around} {E:Value->Shared->Prop} {s:Shared}
theorem cat_tup {t b:Addr} {vs ws:List Value} {Q:Value->Shared->Prop} (ht:IsTup s.heap t vs.toArray) (hb:IsTup s.heap b ws.toArray) (hv:vs≠[])
   (h1:ws=[]->Q (.ref t) s) (h2:ws≠[]->Q (.ref s.heap.objs.size) { s with heap:=s.heap.push { cls:=.type "tuple",data:=.seq (vs++ws).toArray } })
   (hsz:vs.length+ws.length<=sizeLine):wpAny (model prog w) A (binaryOp .Add (.ref t) (.ref b)) Q E s:=by
 obtain⟨⟨cls,dd,data,sl⟩,ho,hc,n,hd⟩:=id ht;obtain⟨⟨cls2,dd2,data2,sl2⟩,ho2,hc2,n2,hd2⟩:=id hb;simp only at hc hd hc2 hd2;subst hc hd hc2 hd2;have e:vs.toArray++ws.toArray=(vs++ws).toArray:=by simp
 by_cases hw:ws=[]
 . exact concat_meets #[_,ho,rfl] #[_,ho2,rfl] noFill_tuple_add seq_tuple_add Jd JT (JQ _ _)
     (tuple_addW1 t b vs.toArray ws.toArray n n2 dd dd2 sl sl2 (by simpa using hv) (by simp [hw])) #[ho,ho2,h1 hw]
 . refine concat_meets #[_,ho,rfl] #[_,ho2,rfl] noFill_tuple_add seq_tuple_add Jd JT (JQ _ _)
     (tuple_addW2 t b vs.toArray ws.toArray n n2 dd dd2 sl sl2 (by simpa using hv) (by simpa using hw) (by rw[Hc,Hc]; exact hsz)) #[ho,ho2,?_]
   rw[e];exact h2 hw
def sIx (n d:Nat):Option Int->Nat
 | none=>d
 | some v=>if v<0 then(v+(n:Int)).toNat else min v.toNat n
theorem sIx_none (n d:Nat):sIx n d none=d:=rfl
theorem sIx_nat (n d k:Nat):sIx n d (some (k:Int))=min k n:=by show(if(k:Int)<0 then((k:Int)+(n:Int)).toNat else min (k:Int).toNat n)=min k n;rw[HI (by omega),IH]
theorem DM (n d:Nat) (hd:d<=n) (o:Option Int):sIx n d o<=n:=by
 cases o with
 | none=>exact hd
 | some v =>
   show(if v<0 then(v+(n:Int)).toNat else min v.toNat n)<=n;by_cases hv:v<0
   . rw[HR hv]; omega
   . rw[HI hv]; exact Nat.min_le_right _ _
theorem uq (v:Int) (n d:Nat):(if v<0 then max (v+(n:Int)) 0 else min v (n:Int))=((sIx n d (some v):Nat):Int):=by
 show(if v<0 then max (v+(n:Int)) 0 else min v (n:Int))=(((if v<0 then(v+(n:Int)).toNat else min v.toNat n):Nat):Int);by_cases hv:v<0
 . simp only[HR hv]; omega
 . simp only[HI hv]; omega
theorem Da (lo hi:Option Int) (n:Nat):Builtin.Slice.sliceAdjust lo hi 1 (n:Int)=(((sIx n 0 lo:Nat):Int),((sIx n n hi:Nat):Int)):=by
 have h1:¬ ((1:Int)<0):=by omega
 unfold Builtin.Slice.sliceAdjust;simp only[h1,if_false];refine Prod.ext ?_ ?_
 . cases lo with
   | none=>rfl
   | some v=>exact uq v n 0
 . cases hi with
   | none=>rfl
   | some v=>exact uq v n n
theorem Du (i j:Nat):Builtin.Slice.slicePlaces (i:Int) (j:Int) 1=j - i:=by
 unfold Builtin.Slice.slicePlaces;have h1:(1:Int) > 0:=by omega
 simp only[h1,if_true,Int.ediv_one];split <;> omega
theorem vb {v:Value} {o:Option Int} {Q:Option Int->Shared->Prop} (p:IsPart v o) (h:Q o s):wpAny (model prog w) A (Builtin.Slice.slicePartIndex v) Q E s:=by
 cases p with
 | none=>exact slicePart_none h
 | int i t=>exact slicePart_int h
theorem rV {sl:Addr} {vl vu:Value} {lo hi:Option Int} {n:Nat} {Q:Int×Int×Nat->Shared->Prop} (hs:s.heap.IsSliceOf sl vl vu .none) (pl:IsPart vl lo) (pu:IsPart vu hi)
   (h:Q (((sIx n 0 lo:Nat):Int),1,sIx n n hi - sIx n 0 lo) s):wpAny (model prog w) A (Builtin.Slice.sliceApplied (.ref sl) (pure (n:Int))) Q E s:=by
 obtain⟨os,hos,hcs,hds⟩:=id hs;unfold Builtin.Slice.sliceApplied Builtin.Slice.sliceFields;refine HG (HG (IA hos hds (x:=vl) rfl (HG (IA hos hds (x:=vu) rfl (HG (IA hos hds (x:=.none) rfl (HQ ?_)))))));refine HG (slicePart_none ?_);show wpAny _ _ (if((1:Int)==0)=true then _ else _) _ _ s;rw[HI (by decide)];refine HG (vb pl (HG (vb pu (HG (HQ ?_)))));show wpAny _ _ (match Builtin.Slice.sliceAdjust lo hi 1 (n:Int) with|(lo,hi)=>pure (lo,(1:Int),Builtin.Slice.slicePlaces lo hi 1)) _ _ s;rw[Da lo hi n];show wpAny _ _ (pure (((sIx n 0 lo:Nat):Int),(1:Int),Builtin.Slice.slicePlaces ((sIx n 0 lo:Nat):Int) ((sIx n n hi:Nat):Int) 1)) _ _ s;rw[Du];exact HQ h
theorem G9 (xs:Array Value) (i k:Nat):((List.range k).filterMap λ(m:Nat)=>xs[((i:Int)+(m:Int) * 1).toNat]?).toArray=((xs.toList.drop i).take k).toArray:=by
 have e:(λ(m:Nat)=>xs[((i:Int)+(m:Int) * 1).toNat]?)=λm=>xs[i+m]?:=by
   funext m;have:((i:Int)+(m:Int) * 1).toNat=i+m:=by omega
   rw[this]
 rw[e];have:=pick_run xs i k;rw[List.filterMap_map] at this;have e2:((λx=>xs[x]?) ∘ λx=>i+x)=λm=>xs[i+m]?:=rfl;rw[e2] at this;rw[this]
theorem getItem_tuple_cut {t sl:Addr} {items:Array Value} {vl vu:Value} {lo hi:Option Int} {Q:Value->Shared->Prop} (ht:IsTup s.heap t items) (hs:s.heap.IsSliceOf sl vl vu .none) (pl:IsPart vl lo) (pu:IsPart vu hi)
   (hw:¬ (sIx items.size 0 lo=0/\sIx items.size items.size hi=items.size))
   (h:Q (.ref s.heap.objs.size) { s with heap:=s.heap.push { cls:=.type "tuple",data:=.seq ((items.toList.drop (sIx items.size 0 lo)).take (sIx items.size items.size hi - sIx items.size 0 lo)).toArray } })
   (hsz:items.size<=sizeLine):wpAny (model prog w) A (getItem (.ref t) (.ref sl)) Q E s:=by
 have htake:sizeOk (.seq ((items.toList.drop (sIx items.size 0 lo)).take (sIx items.size items.size hi - sIx items.size 0 lo)).toArray):=by show((items.toList.drop (sIx items.size 0 lo)).take (sIx items.size items.size hi - sIx items.size 0 lo)).toArray.size<=sizeLine;rw[Hc,Hx,J8,Jt];omega
 have hj:sIx items.size items.size hi<=items.size:=DM _ _ (HN _) hi;obtain⟨os,hos,hcs,hds⟩:=id hs;have hTs:s.TypeIs (.ref sl) "slice":=#[os,hos,hcs]
 unfold getItem
 try with_reducible refine IG ?_
 first|refine HG (HQ ?_)|skip
 refine HG (K9 ht.typeIs (by decide) ?_);refine HG (wpAny_callSpecial?_slot (name:=Str.ofString "__getitem__") ht.typeIs IK
   (IN IK ht.typeIs entry_tuple_getitem ?_ (args_tuple_getitem _ _)))
 show wpAny _ _ (Builtin.Tuple.tupleItemsOf (.ref t) >>= _) _ _ s;refine HG (tupleItemsOf_ ht ?_);refine HG (JE hTs ?_);rw[HR (by decide)];refine HG (rV hs pl pu ?_);have hno:¬ ((((sIx items.size 0 lo:Nat):Int)==0&&(1:Int)==1&&(sIx items.size items.size hi - sIx items.size 0 lo)==items.size)=true):=by intro q;rw[Hr,Hr] at q;have q1:((sIx items.size 0 lo:Nat):Int)=0:=eq_of_beq q.1.1;have q2:sIx items.size items.size hi - sIx items.size 0 lo=items.size:=eq_of_beq q.2;exact hw #[by omega,by omega]
 show wpAny _ _ (if(((sIx items.size 0 lo:Nat):Int)==0&&(1:Int)==1&&(sIx items.size items.size hi - sIx items.size 0 lo)==items.size)=true then _ else _) _ _ s;rw[HI hno,G9]
 first
   | exact HG (m:=Builtin.Tuple.tupleExact _) (Io (HQ ⟨_,rfl,HQ h⟩) htake)
   | exact HG (m:=Builtin.Tuple.tupleExact _) (Io (HG (HQ (HQ ⟨_,rfl,HQ h⟩))) htake)
   | exact HG (HG (m:=Builtin.Tuple.tupleExact _) (Io (HQ (HQ ⟨_,rfl,HQ h⟩)) htake))
   | exact HG (HG (m:=Builtin.Tuple.tupleExact _) (Io (HQ ⟨_,rfl,HQ h⟩) htake))
end
end HT
namespace L2
open PySem PySem.Spec PyProof.Rows
abbrev TO:=St->Hp->(Option Int->Hp->Prop)->Prop
def PO (X:Cx) (e:Option Expr) (t:TO):Prop :=
 ∀(pins:List (Addr×Obj)) (s:Shared) (σ:St) (H:Hp) (Q:Option Int->Hp->Prop),Inv X pins σ H s->t σ H Q ->
   wpAny (model X.prog X.w) X.A (evalPart e X.env) (λu s'=>∃o H',Inv X pins σ H' s'/\IsPart u o/\Q o H') X.xe s
def Gi:TO:=λ_ H Q=>Q none H
def ED (t:TE):TO:=λσ H Q=>t σ H λx H1=>∃i,x=.int i/\Q (some i) H1
section
variable {X:Cx} {e:Expr} {te:TE} {lo hi:Option Expr} {tl th:TO} {pos p2:Pos}
theorem i6:PO X none Gi:=by intro pins s σ H Q I h;rw[evalPart_none];exact HQ #[none,H,I,.none,h]
theorem gu (h:PE X e te):PO X (some e) (ED te):=by intro pins s σ H Q I hw;rw[evalPart_some];refine aq (h pins s σ H _ I hw) λu s1 ⟨x,H1,I1,r1,q1⟩=>?_;obtain⟨i,rfl,q⟩:=q1;obtain⟨t,rfl⟩:=r1;exact#[some i,H1,I1,.int i t,q]
def gA (X:Cx) (r:V->Option Int->Option Int->Hp->VK->Prop):Prop :=
 ∀(pins:List (Addr×Obj)) (s:Shared) (σ:St) (H:Hp) (x:V) (v vl vu:Value) (lo hi:Option Int) (sl:Addr) (Q:VK),Inv X pins σ H s->bF x v->s.heap.IsSliceOf sl vl vu .none->IsPart vl lo->IsPart vu hi->r x lo hi H Q ->
   ∃T id,typeLookup (.type T) "__getitem__"=pure (some (.builtin id))/\s.TypeIs v T/\wpAny (model X.prog X.w) X.A (getItem v (.ref sl)) (EP X pins σ Q) X.xe s
theorem gA.or {r r':V->Option Int->Option Int->Hp->VK->Prop} (h:gA X r) (h':gA X r'):gA X (λx lo hi H Q=>r x lo hi H Q\/r' x lo hi H Q):=by
 intro pins s σ H x v vl vu lo hi sl Q I rx hs pl pu q;rcases q with q|q
 . exact h pins s σ H x v vl vu lo hi sl Q I rx hs pl pu q
 . exact h' pins s σ H x v vl vu lo hi sl Q I rx hs pl pu q
def tSl (r:V->Option Int->Option Int->Hp->VK->Prop) (te:TE) (tl th:TO):TE:=λσ H Q=>te σ H λx H1=>tl σ H1 λl H2=>th σ H2 λu H3=>r x l u H3 Q
theorem iD {r:V->Option Int->Option Int->Hp->VK->Prop} (hr:gA X r) (he:PE X e te) (hl:PO X lo tl) (hu:PO X hi th):PE X (.Subscript e (.Slice lo hi none p2) pos) (tSl r te tl th):=by intro pins s σ H Q I h;refine Subscript_ (aq (he pins s σ H _ I h) λv s1 ⟨x,H1,I1,r1,q1⟩=>?_);refine wpAny_Slice (aq (hl pins s1 σ H1 _ I1 q1) λvl s2 ⟨l,H2,I2,pl,q2⟩=>aq (hu pins s2 σ H2 _ I2 q2) λvu s3 ⟨u,H3,I3,pu,q3⟩=>?_);rw[evalPart_none];refine HQ ?_;have I4:Inv X pins σ H3 { s3 with heap:=s3.heap.push { cls:=.type "slice",data:=.fields (List.toArray [vl,vu,.none]) } }:=I3.kept (t':=s3.toks) λb ob q=>HJ _ q;obtain⟨T,id,hT,ht,hg⟩:=hr pins { s3 with heap:=s3.heap.push { cls:=.type "slice",data:=.fields (List.toArray [vl,vu,.none]) } } σ H3 x v vl vu l u s3.heap.objs.size Q I4 r1 (Heap.IsSliceOf.new ..) pl pu q3;show wpAny (model X.prog X.w) X.A (subscriptTail e (.Slice lo hi none p2) v (.ref s3.heap.objs.size)) (EP X pins σ Q) X.xe { s3 with heap:=s3.heap.push { cls:=.type "slice",data:=.fields (List.toArray [vl,vu,.none]) } };exact tail_any (ops:=[.ref s3.heap.objs.size,v]) ht hT hg (by with_unfolding_all rfl)
def cV (xs:List V) (lo hi:Option Int):List V:=(xs.drop (HT.sIx xs.length 0 lo)).take (HT.sIx xs.length xs.length hi - HT.sIx xs.length 0 lo)
theorem uO (xs:List V) (lo hi:Option Int):(cV xs lo hi).length<=xs.length:=by unfold cV;rw[Hx,J8];omega
def tW (K:W.Frag):V->Option Int->Option Int->Hp->VK->Prop:=λx lo hi H Q=>∃a xs,x=.ref a/\aG K H a xs /\
 ¬ (HT.sIx xs.length 0 lo=0/\HT.sIx xs.length xs.length hi=xs.length)/\∀p,H p=none->Q (.ref p) (upd H p (.tup (cV xs lo hi)))
theorem D4:gA X (tW X.K):=by
 intro pins s σ H x v vl vu lo hi sl Q I rx hs pl pu h;obtain⟨a,xs,rfl,hx,hw,q⟩:=h;cases rx;obtain⟨its,r,ht,hz⟩:=I.tuple hx;have hlen:its.toArray.size=xs.length:=by rw[Hc]; exact r.length.symm
 refine#["tuple",_,IK.lookup,ht.typeIs,?_];refine HT.getItem_tuple_cut ht hs pl pu (by rw[hlen]; exact hw) ?_ (by rw[hlen]; exact hz);rw[hlen];refine#[.ref s.heap.objs.size,_,I.laid (t':=s.toks) (o:=.tup (cV xs lo hi)) (λb ob q=>HJ _ q) (HN _) ?_,rfl,q _ (I.hok.fresh (HN _))];exact#[Ht (uO xs lo hi) hz,_,(r.drop (HT.sIx xs.length 0 lo)).take (HT.sIx xs.length xs.length hi - HT.sIx xs.length 0 lo),IsTup.new _ _]
def sW (K:W.Frag):R2:=λx y H Q=>∃a b xs ys,x=.ref a/\y=.ref b/\aG K H a xs/\aG K H b ys/\xs≠[]/\xs.length+ys.length<=sizeLine /\
 (ys=[]->Q (.ref a) H)/\(ys≠[]->∀p,H p=none->Q (.ref p) (upd H p (.tup (xs++ys))))
theorem ax.nil_iff {xs:List V} {us:List Value} (r:ax xs us):us=[] <-> xs=[]:=by
 cases r with
 | nil=>simp
 | cons _ _=>simp
theorem rj:bW X (binaryOp .Add) (sW X.K):=by intro pins s σ H x y v u Q I rx ry h;obtain⟨a,b,xs,ys,rfl,rfl,ha,hb,hx,hz,q1,q2⟩:=h;cases rx;cases ry;obtain⟨its,r1,p1,_⟩:=I.tuple ha;obtain⟨its2,r2,p2,_⟩:=I.tuple hb;refine HT.cat_tup p1 p2 (λz=>hx (r1.nil_iff.mp z)) (λz=>#[.ref a,H,I,rfl,q1 (r2.nil_iff.mp z)]) (λz=>?_) (by rw[<- r1.length,<- r2.length]; exact hz);refine#[.ref s.heap.objs.size,_,I.laid (t':=s.toks) (o:=.tup (xs++ys)) (λb ob q=>HJ _ q) (HN _) ?_,rfl,q2 (λw=>z (r2.nil_iff.mpr w)) _ (I.hok.fresh (HN _))];exact#[by rw[HU]; exact hz,_,r1.append r2,IsTup.new _ _]
end
def ca (n:Nat) (i:Int):Option Nat:=if 0<=i then(if i<n then some i.toNat else none) else if -(n:Int)<=i then some (i+n).toNat else none
def bQ {α:Type} (xs:List α) (i:Int):Option α:=(ca xs.length i).bind λj=>xs[j]?
variable {n:Nat}
theorem wI {i:Int} {j:Nat} (h:ca n i=some j):seqIndex? i n=some j/\j<n/\-(n:Int)<=i/\i<n:=by
 unfold ca at h;by_cases h0:0<=i
 . rw[HR h0] at h;by_cases h1:i<n
   . rw[HR h1] at h;have e:i.toNat=j:=Option.some.inj h;exact#[by rw[seqIndex_of h0 h1,e],by omega,by omega,h1]
   . rw[HI h1] at h; cases h
 . rw[HI h0] at h;by_cases h1:-(n:Int)<=i
   . rw[HR h1] at h;have e:(i+n).toNat=j:=Option.some.inj h;exact#[by rw[seqIndex_neg (by omega) h1,e],by omega,h1,by omega]
   . rw[HI h1] at h; cases h
theorem oS {α:Type} {xs:List α} {i:Int} {v:α} (h:bQ xs i=some v):∃j,seqIndex? i xs.length=some j/\xs[j]?=some v/\j<xs.length/\-(xs.length:Int)<=i/\i<xs.length:=by
 unfold bQ at h;cases e:ca xs.length i with
 | none=>rw[e] at h; cases h
 | some j =>
   rw[e] at h;obtain⟨h1,h2,h3,h4⟩:=wI e;exact#[j,h1,h,h2,h3,h4]
theorem bt {α:Type} {xs:List α} {j:Nat} {v:α} (h:xs[j]?=some v):bQ xs (j:Int)=some v:=by
 have hj:j<xs.length:=(HL.mp h).1;have e:ca xs.length (j:Int)=some j:=by unfold ca;rw[HR (by omega),HR (by omega)]; simp
 unfold bQ; rw[e]; exact h
def AG (b:Expr):Prop:=∀o i,subscripted b false o i=operate [o,i] (getItem o i)
def aJ (X:Cx) (r:R2):Prop :=
 ∀(value slice:Expr) (pins:List (Addr×Obj)) (s:Shared) (σ:St) (H:Hp) (x y:V) (v u:Value) (Q:VK),Inv X pins σ H s->bF x v->bF y u->r x y H Q ->
   subscripted slice false v u=operate [v,u] (getItem v u)->wpAny (model X.prog X.w) X.A (subscriptTail value slice v u) (EP X pins σ Q) X.xe s
def mN (X:Cx) (id:String) (r:V->List V->Hp->VK->Prop):Prop :=
 ∀(pins:List (Addr×Obj)) (s:Shared) (σ:St) (H:Hp) (x:V) (xs:List V) (v:Value) (us:List Value) (Q:VK),Inv X pins σ H s->bF x v->ax xs us->r x xs H Q ->
   wpAny (model X.prog X.w) X.A (call (.builtin id) (v :: us)) (EP X pins σ Q) X.xe s
section
variable {X:Cx} {a b:Expr} {ta tb:TE} {pos:Pos}
theorem aI {r:R2} (hr:aJ X r) (ha:PE X a ta) (hb:PE X b tb) (hs:AG b):PE X (.Subscript a b pos) (jj r ta tb):=by intro pins s σ H Q I h;exact Subscript_ (pi ha hb I h λv u s2 x y H2 I2 rx ry q=>hr a b pins s2 σ H2 x y v u Q I2 rx ry q (hs _ _))
def BI (K:W.Frag):R2:=λx y H Q=>∃p xs i v,x=.ref p/\y=.int i/\aK K H p xs/\bQ xs i=some v/\Q v H
def nL (K:W.Frag):R2:=λx y H Q=>∃p xs i v,x=.ref p/\y=.int i/\aG K H p xs/\bQ xs i=some v/\Q v H
def DT:R2:=λx y H Q=>∃z i c,x=.str z/\y=.int i/\z.length<=sizeLine/\bQ z.cps.toList i=some c/\Q (.str #[(List.toArray [c])]) H
theorem j5:aJ X (BI X.K):=by
 intro value slice pins s σ H x y v u Q I rx ry h hs;obtain⟨p,xs,i,z,rfl,rfl,hq,he,q⟩:=h;cases rx;obtain⟨t,rfl⟩:=ry;obtain⟨its,r,pl,hz⟩:=I.list hq;obtain⟨j,h1,h2,h3,h4,h5⟩:=oS he;obtain⟨w,ew,rw'⟩:=r.get h2;have hl:=r.length;have hn:=iR;have fin:EP X pins σ Q w s:=#[z,H,I,rw',q]
 by_cases h0:0<=i
 . have hj:i.toNat=j:=by rw[seqIndex_of h0 h5] at h1;exact Option.some.inj h1
   exact item_listR pl.isList h0 (by omega) (by rw[hj]; simpa using ew) fin hs
 . have hj:(i+(its.toArray.size:Int)).toNat=j:=by rw[seqIndex_neg (by omega) h4] at h1;rw[Hc,<- hl];exact Option.some.inj h1
   exact subscriptTail_builtinR (x:=w) pl.isList.typeIs slot_list_getitem.lookup
     (wpAny_getItem_list_neg (Q:=λr s'=>r=w/\EP X pins σ Q r s') pl.isList (by omega) (by rw[Hc] <;> omega) (by omega) (by rw[hj]; simpa using ew) #[rfl,fin]) hs
theorem gz:aJ X (nL X.K):=by
 intro value slice pins s σ H x y v u Q I rx ry h hs;obtain⟨p,xs,i,z,rfl,rfl,hq,he,q⟩:=h;cases rx;obtain⟨t,rfl⟩:=ry;obtain⟨its,r,pl,hz⟩:=I.tuple hq;obtain⟨j,h1,h2,h3,h4,h5⟩:=oS he;obtain⟨w,ew,rw'⟩:=r.get h2;have hl:=r.length;have hn:=iR;have fin:EP X pins σ Q w s:=#[z,H,I,rw',q]
 exact subscriptTail_builtinR (x:=w) pl.typeIs slot_tuple_getitem.lookup
   (getItem_tuple (j:=j) (Q:=λr s'=>r=w/\EP X pins σ Q r s') pl (by omega) (by omega) (by rw[Hc,<- hl]; exact h1) (by simpa using ew) #[rfl,fin]) hs
theorem ki:aJ X DT:=by
 intro value slice pins s σ H x y v u Q I rx ry h hs;obtain⟨z,i,c,rfl,rfl,hz,he,q⟩:=h;obtain⟨t,rfl⟩:=rx;obtain⟨t',rfl⟩:=ry;obtain⟨j,h1,h2,h3,h4,h5⟩:=oS he;have hl:z.cps.toList.length=z.length:=by simp [Str.length]
 rw[hl] at h1 h4 h5;have hn:=iR;exact tail_any (typeIs_str s z t) slot_str_getitem.lookup (getItem_str (c:=c) (by have e1:decide (i < -(2 ^ 63:Int))=false:=Hd (by omega);have e2:decide (i>=2 ^ 63)=false:=Hd (by omega);rw[e1,e2,Ka]) (by rw[h1]; simpa using h2) #[.str #[(List.toArray [c])],H,I.tok _,#[_,rfl],q]) hs
theorem Fu (its:List Value) (n j:Nat) (u:Value):Obj.mapSeq (·.setIfInBounds j u) { cls:=.type "list",data:=.seq its.toArray n }={ cls:=.type "list",data:=.seq (its.set j u).toArray n }:=by simp [Obj.mapSeq]
theorem Inv.lst {pins:List (Addr×Obj)} {σ:St} {H:Hp} {s:Shared} {p:Addr} {xs:List V} (I:Inv X pins σ H s) (h:H p=some (.lst xs)) :
   ∃(its:List Value) (n:Nat),ax xs its/\s.heap.get? p=some { cls:=.type "list",data:=.seq its.toArray n }/\xs.length<=sizeLine:=by
 obtain⟨z,its,n,r,e⟩:=I.hok p _ h;exact#[its,n,r,e,z]
theorem Inv.lstUpd {pins:List (Addr×Obj)} {σ:St} {H:Hp} {s:Shared} {p:Addr} {xs ys:List V} {its its':List Value} {n':Nat}{f:Obj->Obj} (I:Inv X pins σ H s) (h:H p=some (.lst xs))
   (ho:s.heap.get? p=some { cls:=.type "list",data:=.seq its.toArray n }) (hf:f { cls:=.type "list",data:=.seq its.toArray n }={ cls:=.type "list",data:=.seq its'.toArray n' }) (r:ax ys its') (hz:ys.length<=sizeLine) (t:Nat) :
   Inv X pins σ (upd H p (.lst ys)) { s with heap:=s.heap.update p f,toks:=t }:=by
 have e:(s.heap.update p f).get? p=some { cls:=.type "list",data:=.seq its'.toArray n' }:=by rw[Heap.get?_update_self f ho (by rw[hf] <;> rfl),hf]
 refine I.write (x:=p) (e:=p) (by rw[h]; trivial) (.inl rfl) (λb u hb q=>(Heap.get?_update_other _ _ (Ne.symm hb)).trans q) #[_,e] ?_;exact#[hz,its',n',r,e]
def CI:V->V->V->Hp->(Hp->Prop)->Prop:=λo i v H Q=>∃p xs k j,o=.ref p/\i=.int k/\H p=some (.lst xs)/\ca xs.length k=some j/\Q (upd H p (.lst (xs.set j v)))
theorem fC:rH X CI:=by
 intro pins s σ H o i v ov iv u Q I ro ri rv h;obtain⟨p,xs,k,j,rfl,rfl,hp,hj,q⟩:=h;cases ro;obtain⟨t,rfl⟩:=ri;obtain⟨its,n,r,ho,hz⟩:=I.lst hp;obtain⟨h1,h2,h3,h4⟩:=wI hj;have hl:=r.length;have hn:=iR;have I':Inv X pins σ (upd H p (.lst (xs.set j v))) { s with heap:=s.heap.update p (Obj.mapSeq (·.setIfInBounds j u)) } :=
   I.lstUpd hp ho (Fu its n j u) (r.set rv j) (by rw[Ib]; exact hz) s.toks
 by_cases h0:0<=k
 . have hk:k.toNat=j:=by rw[seqIndex_of h0 h4] at h1;exact Option.some.inj h1
   exact PySem.W.ki_setAt ho h0 (by omega) (by rw[Hc,<- hl]; exact h4) (by rw[hk]; exact#[_,I',q])
 . have hk:(k+(its.toArray.size:Int)).toNat=j:=by rw[seqIndex_neg (by omega) h3] at h1;rw[Hc,<- hl];exact Option.some.inj h1
   exact PySem.W.ki_setBack ho (by omega) (by rw[Hc,<- hl]; exact h3) (by omega) (by rw[hk]; exact#[_,I',q])
theorem BS (lo hi:Option Int) (n:Nat):(sliceBounds lo hi none n).1=((HT.sIx n 0 lo:Nat):Int)/\(sliceBounds lo hi none n).2.1=((HT.sIx n n hi:Nat):Int)/\(sliceBounds lo hi none n).2.2=1:=by
 refine#[?_,?_,rfl]
 . cases lo with
   | none=>simp [sliceBounds,HT.sIx]
   | some i =>
     simp only[sliceBounds,HT.sIx,Option.getD_none,show(1:Int) > 0 by decide,if_true];by_cases h:i<0
     . simp only[h,if_true] <;> omega
     . simp only[h,if_false] <;> omega
 . cases hi with
   | none=>simp [sliceBounds,HT.sIx]
   | some i =>
     simp only[sliceBounds,HT.sIx,Option.getD_none,show(1:Int) > 0 by decide,if_true];by_cases h:i<0
     . simp only[h,if_true] <;> omega
     . simp only[h,if_false] <;> omega
theorem EC (its:List Value) (lo hi:Option Int):slicePick its.toArray lo hi none=((its.drop (HT.sIx its.length 0 lo)).take (HT.sIx its.length its.length hi - HT.sIx its.length 0 lo)).toArray:=by obtain⟨h1,h2,h3⟩:=BS lo hi its.toArray.size;unfold slicePick;rw[h1,h2,h3];simp only[sliceRange_one,pick_run,Hc] <;> rfl
def AO (K:W.Frag):V->Option Int->Option Int->Hp->VK->Prop:=λx lo hi H Q=>∃a xs,x=.ref a/\aK K H a xs/\∀p,H p=none->Q (.ref p) (upd H p (.lst (cV xs lo hi)))
theorem AM:gA X (AO X.K):=by intro pins s σ H x v vl vu lo hi sl Q I rx hs pl pu h;obtain⟨a,xs,rfl,hx,q⟩:=h;cases rx;obtain⟨its,r,ht,hz⟩:=I.list hx;have hlen:=r.length;refine#["list",_,slot_list_getitem.lookup,ht.isList.typeIs,?_];refine wpAny_getItem_list_slice ht.isList hs pl pu .none (by simp) ?_ (by rw[Hc] <;> omega);rw[EC,<- hlen];refine#[.ref s.heap.objs.size,_,I.laid (t':=s.toks) (o:=.lst (cV xs lo hi)) (λb ob q=>HJ _ q) (HN _) ?_,rfl,q _ (I.hok.fresh (HN _))];exact#[Ht (uO xs lo hi) hz,_,0,(r.drop (HT.sIx xs.length 0 lo)).take (HT.sIx xs.length xs.length hi - HT.sIx xs.length 0 lo),Hf _ rfl]
def eJ:V->Bool
 | .non=>true
 | .bl _=>true
 | .int _=>true
 | .str _=>true
 | _=>false
def eO:V->V->Bool
 | .non,.non=>true
 | .bl a,.bl b=>a==b
 | .bl a,.int b=>(if a then 1 else 0)==b
 | .int a,.bl b=>a==(if b then 1 else 0)
 | .int a,.int b=>a==b
 | .str a,.str b=>a==b
 | _,_=>false
theorem G7 {A:Around} {s:Shared} {y x:V} {u v:Value} (ry:bF y u) (rx:bF x v) (fy:eJ y=true) (fx:eJ x=true):SeqAt.EqAt A s u v (eO y x):=by
 cases y with
 | non =>
   cases ry;cases x with
   | non=>cases rx; exact SeqAt.EqAt.same _
   | bl b=>cases rx; exact SeqAt.EqAt.none_bool b
   | int b=>obtain⟨t,rfl⟩:=rx; exact SeqAt.EqAt.none_int b t
   | str b=>obtain⟨t,rfl⟩:=rx; exact SeqAt.EqAt.none_str b t
   | _=>exact absurd (show false=true from fx) He
 | bl a =>
   cases ry;cases x with
   | non=>cases rx; exact SeqAt.EqAt.bool_none a
   | bl b=>cases rx; exact SeqAt.EqAt.bool_bool a b
   | int b=>obtain⟨t,rfl⟩:=rx; exact SeqAt.EqAt.bool_int a b t
   | str b=>obtain⟨t,rfl⟩:=rx; exact SeqAt.EqAt.bool_str a b t
   | _=>exact absurd (show false=true from fx) He
 | int a =>
   obtain⟨t',rfl⟩:=ry;cases x with
   | non=>cases rx; exact SeqAt.EqAt.int_none a t'
   | bl b=>cases rx; exact SeqAt.EqAt.int_bool a t' b
   | int b=>obtain⟨t,rfl⟩:=rx; exact SeqAt.EqAt.int_int a t' b t
   | str b=>obtain⟨t,rfl⟩:=rx; exact SeqAt.EqAt.int_str a t' b t
   | _=>exact absurd (show false=true from fx) He
 | str a =>
   obtain⟨t',rfl⟩:=ry;cases x with
   | non=>cases rx; exact SeqAt.EqAt.str_none a t'
   | bl b=>cases rx; exact SeqAt.EqAt.str_bool a t' b
   | int b=>obtain⟨t,rfl⟩:=rx; exact SeqAt.EqAt.str_int a t' b t
   | str b=>obtain⟨t,rfl⟩:=rx; exact SeqAt.EqAt.str_str a t' b t
   | _=>exact absurd (show false=true from fx) He
 | _=>exact absurd (show false=true from fy) He
def fF (x:V) (u:Value):Bool:=match u with
 | .none=>eO .non x
 | .bool b=>eO (.bl b) x
 | .int i _=>eO (.int i) x
 | .str z _=>eO (.str z) x
 | _=>false
theorem nY {x y:V} {u:Value} (r:bF y u) (f:eJ y=true):fF x u=eO y x:=by
 cases y with
 | non=>cases r; rfl
 | bl b=>cases r; rfl
 | int i=>obtain⟨t,rfl⟩:=r; rfl
 | str z=>obtain⟨t,rfl⟩:=r; rfl
 | _=>exact absurd (show false=true from f) He
theorem qU {x:V}:∀{xs:List V} {us:List Value},ax xs us->xs.all eJ=true->us.any (fF x)=xs.any λy=>eO y x
 | _,_,.nil,_=>rfl
 | y :: xs,u :: us,.cons r t,f=>by rw[List.all_cons,Hr] at f;rw[Jf,Jf,nY r f.1,qU t f.2]
theorem kR {A:Around} {s:Shared} {x:V} {v:Value} (rx:bF x v) (fx:eJ x=true):∀{xs:List V} {us:List Value},ax xs us->xs.all eJ=true->∀u∈us,SeqAt.EqAt A s u v (fF x u)
 | _,_,.nil,_=>λu hu=>by cases hu
 | y :: xs,u :: us,.cons r t,f=>λu' hu=>by
   rw[List.all_cons,Hr] at f;rcases HV.mp hu with rfl|hu
   . rw[nY r f.1]; exact G7 r rx f.1 fx
   . exact kR rx fx t f.2 u' hu
def gE (x:V) (xs:List V):Bool:=xs.any λy=>eO y x
def rIn (K:W.Frag) (neg:Bool):R2:=λx y H Q=>∃p xs,y=.ref p/\(aK K H p xs\/aG K H p xs)/\eJ x=true/\xs.all eJ=true/\Q (.bl (if neg then !gE x xs else gE x xs)) H
theorem fM:bW X (compareOp .In) (rIn X.K false):=by
 intro pins s σ H x y v u Q I rx ry h;obtain⟨p,xs,rfl,hq,fx,fs,q⟩:=h;cases ry;rcases hq with hq|hq
 . obtain⟨its,r,pl,hz⟩:=I.list hq;refine SeqAt.in_listAt (fF x) pl.isList (λw hw=>kR rx fx r fs w (by simpa using hw)) #[.bl _,H,I,rfl,?_];rw[show its.toArray.any (fF x)=its.any (fF x) by simp,qU r fs];exact q
 . obtain⟨its,r,pl,hz⟩:=I.tuple hq;refine SeqAt.in_tupleAt (fF x) pl (λw hw=>kR rx fx r fs w (by simpa using hw)) #[.bl _,H,I,rfl,?_];rw[show its.toArray.any (fF x)=its.any (fF x) by simp,qU r fs];exact q
theorem qS:bx X (.builtin "len") (λxs H Q=>∃p ys,xs=[.ref p]/\(aK X.K H p ys\/aG X.K H p ys)/\Q (.int ys.length) H):=by
 intro pins s σ H xs us Q I r h;obtain⟨p,ys,rfl,hq,q⟩:=h;obtain⟨u,rfl,rx⟩:=gK r;cases rx;have hn:=iR;rcases hq with hq|hq
 . obtain⟨its,r',pl,hz⟩:=I.list hq;have hlen:=r'.length;exact Calls.call_len_list pl.isList (by simp only[Hc] <;> omega) #[.int ys.length,H,I.tok _,#[s.toks+1,by rw[Hc,hlen]],q]
 . obtain⟨its,r',pl,hz⟩:=I.tuple hq;have hlen:=r'.length;exact len_tuple pl (by simp only[Hc] <;> omega) #[.int ys.length,H,I.tok _,#[s.toks+1,by rw[Hc,hlen]],q]
theorem j3:bx X (.type "list") (λxs H Q=>∃p ys,xs=[.ref p]/\(aK X.K H p ys\/aG X.K H p ys)/\∀l,H l=none->Q (.ref l) (upd H l (.lst ys))):=by
 intro pins s σ H xs us Q I r h;obtain⟨p,ys,rfl,hq,q⟩:=h;obtain⟨u,rfl,rx⟩:=gK r;cases rx;have fin:∀(its:List Value),ax ys its->ys.length<=sizeLine->∀(h':Heap) (c':Nat),(∀b o',s.heap.get? b=some o'->h'.get? b=some o') ->
     h'.get? s.heap.objs.size=some { cls:=.type "list",dict:=none,data:=.seq its.toArray c',slots:=(List.toArray []) }->EP X pins σ Q (.ref s.heap.objs.size) { s with heap:=h' }:=λits r' hz h' c' kp e =>
   #[.ref s.heap.objs.size,_,I.laid (t':=s.toks) kp (HN _) (show cJ X.prog X.w _ h' _ (.lst ys) from#[hz,its,c',r',e]),rfl,q _ (I.hok.fresh (HN _))]
 rcases hq with hq|hq
 . obtain⟨its,r',pl,hz⟩:=I.list hq;have hlen:=r'.length;obtain⟨o,ho,hc,n,hd⟩:=pl.isList;exact call_list_seq p (.inl rfl) ho hc hd (λh' c' kp e=>fin its r' hz h' c' kp e) (by simp only[Hc] <;> omega)
 . obtain⟨its,r',pl,hz⟩:=I.tuple hq;have hlen:=r'.length;obtain⟨o,ho,hc,n,hd⟩:=pl;exact call_list_seq p (.inr rfl) ho hc hd (λh' c' kp e=>fin its r' hz h' c' kp e) (by simp only[Hc] <;> omega)
theorem jY:bx X (.type "tuple") (λxs H Q=>∃p ys,xs=[.ref p]/\((aK X.K H p ys/\∀l,H l=none->Q (.ref l) (upd H l (.tup ys)))\/(aG X.K H p ys/\Q (.ref p) H))):=by
 intro pins s σ H xs us Q I r h;obtain⟨p,ys,rfl,h⟩:=h;obtain⟨u,rfl,rx⟩:=gK r;cases rx;rcases h with⟨hq,q⟩|⟨hq,q⟩
 . obtain⟨its,r',pl,hz⟩:=I.list hq;have hlen:=r'.length;refine call_tuple_list pl.isList (λh' kp=>?_) (by simp only[Hc] <;> omega);have I1:Inv X pins σ H { s with heap:=h' }:=I.kept (t':=s.toks) kp;have I2:Inv X pins σ (upd H h'.objs.size (.tup ys)) { s with heap:=h'.push { cls:=.type "tuple",data:=.seq its.toArray } } :=
     I1.laid (t':=s.toks) (λb o e=>HJ _ e) (HN _) (show cJ X.prog X.w _ _ _ (.tup ys) from#[hz,its,r',IsTup.new _ _])
   exact#[.ref h'.objs.size,_,I2,rfl,q _ (I1.hok.fresh (HN _))]
 . obtain⟨its,r',pl,hz⟩:=I.tuple hq;exact call_tuple_same pl #[.ref p,H,I,rfl,q]
def oX (K:W.Frag) (T:String) (x:V) (H:Hp):Prop:=match x with
 | .str _=>T="str"
 | .int _=>T="int"
 | .ref p=>(T="list"/\∃xs,aK K H p xs)\/(T="tuple"/\∃o,K.lookup p=some o/\o.cls=.type "tuple"/\o.dict=none) \/
     (T="dict"/\((∃kvs,H p=some (.dK kvs))\/∃kvs,H p=some (.dT kvs)))\/(T="set"/\∃S n,H p=some (.set S n))
 | _=>False
theorem vK {pins:List (Addr×Obj)} {σ:St} {H:Hp} {s:Shared} {T:String} {x:V} {v:Value} (I:Inv X pins σ H s) (r:bF x v) (ty:oX X.K T x H) :
   s.TypeIs v T/\∀a,v=.ref a->∃ob,s.heap.get? a=some ob/\ob.dict=none:=by
 cases x with
 | str z =>
   obtain⟨t,rfl⟩:=r;cases (show T="str" from ty);exact#[typeIs_str s z t,λ_ e=>nomatch e]
 | int i =>
   obtain⟨t,rfl⟩:=r;cases (show T="int" from ty);exact#[typeIs_int s i t,λ_ e=>nomatch e]
 | ref p =>
   cases r;rcases ty with⟨rfl,xs,hq⟩|⟨rfl,o,hk,hc,hd⟩|⟨rfl,hk⟩|⟨rfl,S,n,hk⟩
   . obtain⟨its,_,pl,_⟩:=I.list hq;refine#[pl.isList.typeIs,λa e=>?_];cases e;obtain⟨o,n,e,c,hd,_⟩:=pl;exact#[o,e,hd]
   . refine#[#[o,I.kIn p o hk,hc],λa e=>?_];cases e;exact#[o,I.kIn _ o hk,hd]
   . have z:∃o,s.heap.get? p=some o/\o.ExactDict:=by
       rcases hk with⟨kvs,hk⟩|⟨kvs,hk⟩
       . obtain⟨_,_,_,_,o,_,_,e,ex,_⟩:=I.hok p _ hk;exact#[o,e,ex]
       . obtain⟨_,_,_,_,o,_,_,e,ex,_⟩:=I.hok p _ hk;exact#[o,e,ex]
     obtain⟨o,e,ex⟩:=z;refine#[#[o,e,ex.1],λa e2=>?_];cases e2;exact#[o,e,ex.2.1]
   . obtain⟨o,_,_,_,e,ex,_⟩:=I.hok p _ hk;refine#[#[o,e,ex.1],λa e2=>?_];cases e2;exact#[o,e,ex.2.1]
 | _=>exact False.elim ty
def BU (K:W.Frag) (T:String) (r:V->List V->Hp->VK->Prop) (to:TE):TE:=λσ H Q=>to σ H λx H1=>oX K T x H1/\r x [] H1 Q
def tBM (K:W.Frag) (T:String) (r:V->List V->Hp->VK->Prop) (to:TE) (t:TA):TE:=λσ H Q=>to σ H λx H1=>oX K T x H1/\t σ H1 λxs H2=>r x xs H2 Q
variable {o e:Expr} {es:List Expr} {to:TE} {t:TA} {name:Str} {apos cpos:Pos} {T id:String} {r:V->List V->Hp->VK->Prop}
theorem GU (pa:PlainAttrs T) (slot:Slot T name id) (hty:typeOf (.builtin id)=pure (.type "method_descriptor")) (hm:mN X id r) (ho:PE X o to)
   (hbase:attributeBase o name X.env (eval o X.env)=eval o X.env:=by rfl) (hline:(apos.endLine==cpos.line)=true:=by rfl):PE X (.Call (.Attribute o name apos) [] [] cpos) (BU X.K T r to):=by
 intro pins s σ H Q I h;refine KN hbase hline (aq (ho pins s σ H _ I h) λv s1 ⟨x,H1,I1,r1,ty,q1⟩=>?_);obtain⟨h1,h2⟩:=vK I1 r1 ty;exact#[T,id,pa,slot,hty,h1,h2,Calls.callWith_builtin rfl (PySem.evalArgs_none (hm pins s1 σ H1 x [] v [] Q I1 r1 .nil q1))]
theorem dU (pa:PlainAttrs T) (slot:Slot T name id) (hty:typeOf (.builtin id)=pure (.type "method_descriptor")) (hm:mN X id r) (ho:PE X o to) (ha:PA X (e :: es) t)
   (hbase:attributeBase o name X.env (eval o X.env)=eval o X.env:=by rfl)
   (hfew:((backTo cpos (starEach (e :: es) X.env)).all (λx=>!x.1)&&(backToKw cpos (keywordEach [] X.env)).all (λx=>x.1.isSome)
     && decide ((e :: es).length+([]:List Keyword).length+(if([]:List Keyword).isEmpty then 0 else 1)<30))=true:=by rfl)
   (hline:(apos.endLine==cpos.line)=true:=by rfl) (hs:starEach (e :: es) X.env=(false,eval e X.env) :: starEach es X.env:=by rfl) (hplain:(backTo cpos (starEach es X.env)).any (·.1)=false:=by rfl) :
   PE X (.Call (.Attribute o name apos) (e :: es) [] cpos) (tBM X.K T r to t):=by
 intro pins s σ H Q I h;refine wpAny_Call_method_late hbase hfew hline rfl (aq (ho pins s σ H _ I h) λv s1 ⟨x,H1,I1,r1,ty,q1⟩=>?_);obtain⟨h1,h2⟩:=vK I1 r1 ty;refine#[T,id,pa,slot,hty,h1,h2,?_];have hA:=ha cpos pins s1 σ H1 _ I1 q1;rw[hs] at hA ⊢;refine Calls.callWith_builtin (by show(false || (backTo cpos (starEach es X.env)).any (·.1))=false; rw[hplain] <;> rfl) (Calls.evalArgs_plain ?_);exact aq hA λus s2 ⟨vs,H2,I2,r2,q2⟩=>hm pins s2 σ H2 x vs v us Q I2 r1 r2 q2
end
def kL (X:Cx) (id:String) (r:V->List V->Hp->VK->Prop):Prop :=
 ∀(pins:List (Addr×Obj)) (s:Shared) (σ:St) (H:Hp) (x:V) (xs:List V) (v:Value) (us:List Value) (Q:VK),Inv X pins σ H s->bF x v->ax xs us->r x xs H Q ->
   wpAny (model X.prog X.w) X.A (call (.builtin id) (v :: us)) (EP X pins σ Q) X.xe s
theorem ax.one:∀{x:V} {us:List Value},ax [x] us->∃u,us=[u]/\bF x u
 | _,_,.cons r .nil=>#[_,rfl,r]
theorem ax.zero:∀{us:List Value},ax [] us->us=[]
 | _,.nil=>rfl
theorem ax.dropLast {xs:List V} {us:List Value} (h:ax xs us):ax xs.dropLast us.dropLast:=by
 induction h with
 | nil=>exact .nil
 | cons r t ih =>
   cases t with
   | nil=>exact .nil
   | cons q t'=>exact .cons r ih
theorem ax.rep {xs:List V} {us:List Value} (h:ax xs us):∀k:Nat,ax (List.replicate k xs).flatten (List.replicate k us).flatten
 | 0=>.nil
 | k+1=>by rw[Iu,Iu,Ip,Ip];exact ax.append h (ax.rep h k)
theorem Am {α:Type} (l:List α):l.eraseIdx (l.length - 1)=l.dropLast:=by
 induction l with
 | nil=>rfl
 | cons a r ih =>
   cases r with
   | nil=>rfl
   | cons b r =>
     have e:(a :: b :: r).length - 1=((b :: r).length - 1)+1:=by have h1:(a :: b :: r).length=r.length+2:=rfl;have h2:(b :: r).length=r.length+1:=rfl;omega
     rw[e,List.eraseIdx_cons_succ,ih]
     all_goals rfl
theorem nj (its:List Value):∀(k:Nat) (acc:List Value),
   List.foldl (λx1 x2=>x1++x2) acc.toArray (List.replicate k its.toArray)=(acc++(List.replicate k its).flatten).toArray
 | 0,acc=>by simp
 | k+1,acc=>by
   have e:acc.toArray++its.toArray=(acc++its).toArray:=by simp
   have e2:(acc++its)++(List.replicate k its).flatten=acc++(List.replicate (k+1) its).flatten:=by rw[Iu,Ip,Hv]
   rw[<- e2,<- nj its k (acc++its),<- e,Iu,JB]
section
variable {X:Cx} {pins:List (Addr×Obj)} {σ:St} {H:Hp} {s:Shared} {l b:Addr} {xs ys zs:List V}
theorem Inv.lset {its its':List Value} {f:Array Value->Array Value} {t':Nat} (I:Inv X pins σ H s) (hH:H l=some (.lst xs))
   (e:s.heap.get? l=some { cls:=.type "list",data:=.seq its.toArray n }) (hf:f its.toArray=its'.toArray) (hv:ax ys its') (hz:ys.length<=sizeLine) :
   Inv X pins σ (upd H l (.lst ys)) { s with heap:=s.heap.update l (Obj.mapSeq f),toks:=t' }:=by
 have q:=PySem.IsL.update e f;rw[hf] at q;refine I.write (x:=l) (e:=l) (by rw[hH]; exact trivial) (.inl rfl) (λb' u hb hu=>(Heap.get?_update_other s.heap (Obj.mapSeq f) (Ne.symm hb)).trans hu) #[_,q] ?_;exact#[hz,its',_,hv,q]
theorem Inv.lnew {its:List Value} {t':Nat} (I:Inv X pins σ H s) (hv:ax ys its) (hz:ys.length<=sizeLine) :
   Inv X pins σ (upd H s.heap.objs.size (.lst ys)) { s with heap:=s.heap.push { cls:=.type "list",data:=.seq its.toArray },toks:=t' } :=
 I.laid (λ_ _ q=>HJ _ q) (HN _) #[hz,its,0,hv,Hf _ rfl]
theorem Inv.fresh (I:Inv X pins σ H s):H s.heap.objs.size=none:=I.hok.fresh (HN _)
theorem Inv.lstM (I:Inv X pins σ H s) (hH:H l=some (.lst xs)):xs.length<=sizeLine/\∃(its:List Value) (n:Nat),ax xs its/\xs.length=its.length/\s.heap.get? l=some { cls:=.type "list",data:=.seq its.toArray n }:=by obtain⟨z,its,n,r,e⟩:=I.hok l _ hH;exact#[z,its,n,r,r.length,e]
theorem uW (h:n<=sizeLine):Builtin.List.listTooLong n=false:=by unfold Builtin.List.listTooLong;exact Hd (by omega)
end
section
variable {X:Cx}
def zm:V->List V->Hp->VK->Prop:=λx vs H Q=>∃l xs y,x=.ref l/\vs=[y]/\H l=some (.lst xs)/\xs.length<sizeLine/\Q .non (upd H l (.lst (xs++[y])))
theorem ip:kL X "list.append" zm:=by intro pins s σ H x vs v us Q I rx rv h;obtain⟨l,xs,y,rfl,rfl,hH,hz,q⟩:=h;cases rx;obtain⟨u,rfl,ru⟩:=rv.one;obtain⟨z,its,n,r,hl,e⟩:=I.lstM hH;refine call_meets F.slot_list_append #[_,e,rfl] F.entry_list_append (F.args_list_append_2 _ _) (PySem.list_append l its.toArray n u (by rw[Hc]; omega)) #[e,?_];refine#[.non,_,I.lset (its':=its++[u]) hH e (by simp) (r.append (.cons ru .nil)) ?_,rfl,q];rw[HU,List.length_singleton];omega
def BA:V->List V->Hp->VK->Prop:=λx vs H Q=>∃l b xs zs,x=.ref l/\vs=[.ref b]/\H l=some (.lst xs)/\H b=some (.lst zs)/\xs.length+zs.length<=sizeLine/\Q .non (upd H l (.lst (xs++zs)))
theorem GH:kL X "list.extend" BA:=by
 intro pins s σ H x vs v us Q I rx rv h;obtain⟨l,b,xs,zs,rfl,rfl,hH,hB,hz,q⟩:=h;cases rx;obtain⟨u,rfl,ru⟩:=rv.one;cases ru;obtain⟨z,its,n,r,hl,e⟩:=I.lstM hH;obtain⟨z2,its2,n2,r2,hl2,e2⟩:=I.lstM hB;have hsz:its.toArray.size+its2.toArray.size<=sizeLine:=by rw[Hc,Hc]; omega
 have hlong:¬ (!its.toArray.isEmpty&&Builtin.List.listTooLong (its.toArray.size+its2.toArray.size))=true:=by rw[uW hsz,Jv];exact He
 refine call_meets F.slot_list_extend #[_,e,rfl] F.entry_list_extend (F.args_list_extend_2 _ _)
   (AutoSeq1.list_extend_list_list_0 l its.toArray n b its2.toArray n2 hlong (by rw[Hc]; omega) (by omega)) #[e,e2,?_]
 refine#[.non,_,I.lset (its':=its++its2) hH e (by simp) (r.append r2) ?_,rfl,q];rw[HU];omega
def Dr:V->List V->Hp->VK->Prop:=λx vs H Q=>∃l xs y,x=.ref l/\vs=[]/\H l=some (.lst xs)/\xs[xs.length - 1]?=some y/\Q y (upd H l (.lst xs.dropLast))
theorem CN:kL X "list.pop" Dr:=by
 intro pins s σ H x vs v us Q I rx rv h;obtain⟨l,xs,y,rfl,rfl,hH,hy,q⟩:=h;cases rx;have hus:=rv.zero;subst hus;obtain⟨z,its,n,r,hl,e⟩:=I.lstM hH;obtain⟨u,hu,ru⟩:=r.get hy;have hy':its.toArray[its.toArray.size - 1]?=some u:=by show its.toArray[its.length - 1]?=some u;rw[<- Array.getElem?_toList,<- hl];exact hu
 refine call_meets F.slot_list_pop #[_,e,rfl] F.entry_list_pop (F.args_list_pop_1 _) (MeetsSeq.list_pop_last l its.toArray n u hy' (by rw[Hc]; omega)) #[e,?_];refine#[y,_,I.lset (its':=its.dropLast) hH e ?_ r.dropLast ?_,ru,q]
 . show its.toArray.eraseIdxIfInBounds (its.toArray.size - 1)=its.dropLast.toArray;rw[Hc,List.eraseIdxIfInBounds_toArray,Am]
 . rw[List.length_dropLast];omega
def D':R2:=λx y H Q=>∃l b xs zs,x=.ref l/\y=.ref b/\H l=some (.lst xs)/\H b=some (.lst zs)/\xs.length+zs.length<=sizeLine/\∀p,H p=none->Q (.ref p) (upd H p (.lst (xs++zs)))
theorem fe:bW X (binaryOp .Add) D':=by
 intro pins s σ H x y v u Q I rx ry h;obtain⟨l,b,xs,zs,rfl,rfl,hH,hB,hz,q⟩:=h;cases rx;cases ry;obtain⟨z,its,n,r,hl,e⟩:=I.lstM hH;obtain⟨z2,its2,n2,r2,hl2,e2⟩:=I.lstM hB;refine PySem.P.add_list e e2 ?_ (by rw[Hc,Hc]; omega);have ea:its.toArray++its2.toArray=(its++its2).toArray:=by simp
 rw[ea];exact#[.ref _,_,I.lnew (t':=s.toks) (r.append r2) (by rw[HU]; omega),rfl,q _ I.fresh]
def BP:R2:=λx y H Q=>∃l k xs,x=.ref l/\y=.int k/\H l=some (.lst xs)/\-(2 ^ 63)<=k/\k<2 ^ 63/\xs.length * k.toNat<=sizeLine /\
 ∀p,H p=none->Q (.ref p) (upd H p (.lst (List.replicate k.toNat xs).flatten))
theorem pO {α:Type} (xs:List α) (k:Nat):(List.replicate k xs).flatten.length=k * xs.length:=by
 induction k with
 | zero=>simp
 | succ k ih=>rw[Iu,Ip,HU,ih,Nat.succ_mul,Nat.add_comm]
theorem kt:bW X (binaryOp .Mult) BP:=by
 intro pins s σ H x y v u Q I rx ry h;obtain⟨l,k,xs,rfl,rfl,hH,h1,h2,hz,q⟩:=h;cases rx;obtain⟨t,rfl⟩:=ry;obtain⟨z,its,n,r,hl,e⟩:=I.lstM hH;have hlen:its.toArray.size * k.toNat<=sizeLine:=by rw[Hc,<- hl]; exact hz
 have hcap:¬ its.toArray.size * k.toNat > (2 ^ 63 - 1) / 8:=by
   have:(sizeLine:Nat)<=(2 ^ 63 - 1) / 8:=by decide
   omega
 have hfit:¬ (!Builtin.List.listFitsIndex k)=true:=by rw[fitsIndex_both h1 h2];exact He
 have hlong:¬ Builtin.List.listTooLong (its.toArray.size * k.toNat)=true:=by rw[uW hlen];exact He
 have hnew:List.foldl (λx1 x2=>x1++x2) (List.toArray []) (List.replicate (if its.toArray.isEmpty=true then 0 else k.toNat) its.toArray)=(List.replicate k.toNat its).flatten.toArray:=by
   have f0:∀m:Nat,List.foldl (λx1 x2=>x1++x2) (List.toArray []) (List.replicate m its.toArray)=(List.replicate m its).flatten.toArray:=λm=>by have:=nj its m [];rw[Jj] at this;exact this
   rw[f0];cases its with
   | nil=>simp
   | cons a r'=>rw[HI (by simp)]
 refine KB (T:="list") (U:="int") (by decide) #[_,e,rfl] (λs'=>typeIs_int s' k t) noFill_list_mul F.fills_int_mul Jk repeat_list F.slot_int_index.lookup
   (call_meets Jk (typeIs_int s k t) F.entry_int_rmul (F.args_int_rmul_2 _ _) (int___rmul___int_list k t l its.toArray n)
     #[e,rfl,#[_,e,rfl],call_meets F.slot_list_mul #[_,e,rfl] F.entry_list_mul (F.args_list_mul_2 _ _) (AutoListH.list___mul___list_int_3 l its.toArray n k t hfit hcap hlong) #[e,?_]])
 rw[hnew];exact#[.ref _,_,I.lnew (t':=s.toks) (r.rep k.toNat) (by rw[pO,Nat.mul_comm]; exact hz),rfl,q _ I.fresh]
end
end L2
namespace Att
open PySem PySem.W PySem.Calls PyProof.Rows
theorem CT {P:Params} {h:Heap}:∀(ns:List Int) (vs:List Value),WellAll P h vs (ns.map WData.int)->IntsAre vs ns:=by
 intro ns
 induction ns with
 | nil =>
   intro vs w;rw[JF] at w;cases w;exact .nil
 | cons n ns ih =>
   intro vs w;rw[Ho] at w;cases w with
   | cons a b =>
     cases a;exact .cons _ _ (ih _ b)
theorem Bz {l:OpenLaw} {n:Nat} (hn:l.most=some n) {P:Params} {h:Heap} {args:List WData} {vals:List Value}
   (hpre:l.row.toRowW.claim.pre args=true) (hwl:WellAll P h vals args) :
   ∃a vs ns,vals=[Value.ref a]/\args=[WData.list (ns.map WData.int)]/\h.get? a=some { cls:=.type "list",data:=.seq vs.toArray }/\IntsAre vs ns/\ns.length<=n:=by
 have oj:WShape.hasAll [] args [.list .int]=true:=(pre_splitW hpre).1;have hc:l.pre.holds [] { args:=args }=true:=(pre_splitW hpre).2;obtain⟨d,r,rfl,h1,h2⟩:=hasAllW_cons oj;obtain rfl:=hasAllW_nil h2;obtain⟨xs,rfl,h3⟩:=hasW_list h1;obtain⟨ns,rfl⟩:=items_int h3;have hlen:ns.length<=n:=by
   unfold OpenLaw.pre at hc;have h4:(WTm.not (.lt (.lit (.int (n:Int))) (.len (.arg 0)))).holds [] { args:=[.list (ns.map .int)] }=true:=by have h4:=(holds_andW hc).1;rw[hn] at h4;exact h4
   have h5:=condW_of h4 (w_not (w_lt w_lit (w_len_list (w_arg rfl))));rw[HH] at h5;refine Nat.le_of_not_lt λq=>?_;have q':(n:Int)<((ns.length:Nat):Int):=by omega
   first
     | (rw[HK q'] at h5; exact absurd h5 (by decide))
     | (simp at h5; omega)
 cases hwl with
 | cons w1 w2 =>
   cases w2;cases w1 with
   | list ho hall=>exact#[_,_,ns,rfl,rfl,ho,CT ns _ hall,hlen]
theorem Bf (l:OpenLaw) (args:List WData):l.row.toRowW.claim.post args (.bool true) args=true :=
 postW_of (r:=l.row.toRowW) (X:=(true==true))
   (show WShape.has [] (.bool true) .bool=true by first|rfl|decide|simp [WShape.has,WShape.arms,WShape.armsAll])
   (show(WTm.eq .res (.lit (.bool true))).value [] { args:=args,res:=some (.bool true),after:=args }=some (.bool (true==true)) from w_eq_bool (w_res rfl) w_lit) rfl
theorem attach_call {l:OpenLaw} {n:Nat} {q:Program} {loose:List Str} {XP:(Str->Option Value)->Heap->Prop} {YP:World->Heap->Prop} {d:DefRec}
   (hn:l.most=some n) (hdf:d.params.defaults=[])
   (call:∀(w:World) (s₀ s₁:Shared) (mg mb:Str->Option Value) (fa:Addr) (o:Obj) (pm cd doc:Value) (a:Addr) (vs:List Value) (ns:List Int),
     Ground q loose [] XP w s₀ mg mb s₁.heap->YP w s₁.heap ->
     s₁.heap.get? fa=some o->o.data=.func (docDef d.name d.params d.body d.scope pm cd doc)->s₁.heap.CodeRec cd d.name->mg d.name=some (.ref fa) ->
     s₁.heap.get? a=some { cls:=.type "list",data:=.seq vs.toArray }->IntsAre vs ns->ns.length<=n->s₁.gens=(List.toArray []) ->
     codeAny (model l.prog w) callerA (.call (.ref fa) #[[.ref a],[]]) (λr s'=>r=.ok (.ret (.bool true))/\OldK s₁.heap s'.heap/\s'.os=s₁.os/\AllBare s'.gens) s₁) :
   WalkO q loose XP YP l.row.toRowW d [] (λf vs=>PySem.call f vs):=by
 intro w s₀ s₁ mg mb G Y fa o pm cd doc dV kV ho hd hcd hD hmg hg args vals as hpre hlay hrd hwl hlo;obtain rfl:dV=.none:=Dflts.none hD hdf;obtain rfl:kV=.none:=Dflts.noKw hD;obtain⟨a,vs,ns,rfl,rfl,hobj,hints,hlen⟩:=Bz hn hpre hwl;refine enter_call (KG (call w s₀ s₁ mg mb fa o pm cd doc a vs ns G Y ho (fd_plain hd) hcd hmg hobj hints hlen hg) λr s' hq=>?_);obtain⟨rfl,h2,h3,h4⟩:=hq;exact#[.inl #[.bool true,.bool true,[],rfl,λ_=>rfl,.bool true,Bf l _,λ_=>#[List.Pairwise.nil,λ_ hm=>(nomatch hm)]],h2,h3,h4]
end Att
namespace L2
open PySem PySem.Spec PyProof.Rows
theorem tX:∀{vs:List Value} {ns:List Int},IntsAre vs ns->ax (ns.map V.int) vs
 | _,_,.nil=>.nil
 | _,_,.cons n t h=>.cons #[t,rfl] (tX h)
def lU (H:Hp):Prop:=∀b,H b=none\/∃o xs,H b=some (.frz o (.lst xs))
variable {x:Str}
theorem Ea {P:Program} {w:World} {K:W.Frag} {mg mb:Str->Option Value} {CX:fO} {k:Nat} {fa a:Addr} {fd:FuncData} {sp:Sp} {s₁:Shared} {vs:List Value} {ns:List Int}
   (KX:K.In s₁.heap) (hns:s₁.heap.Ns mainGlobals mg) (hb:s₁.heap.Ns builtinsNs mb) (hbb:∀x:Str,x≠"__name__"->mb x=bootBuiltins x) (hlim:s₁.heap.NoLimit) (hg:s₁.gens=(List.toArray []))
   (ha:s₁.heap.get? a=some { cls:=.type "list",data:=.seq vs.toArray }) (hi:IntsAre vs ns) (hl:ns.length<=sizeLine) (hr:Room k callerA)
   (F:∀base:Heap,K.In base->base.Ns mainGlobals mg->FnOk P w K mg base CX k fa fd [x] sp) (hbind:∀(s:Shared) (u:Value),BindsTo s fd #[[u],[]] [(x,u)])
   (hsp:∀H:Hp,lU H->aK K H a (ns.map V.int)->sp [.ref a] H (λv _=>v=.bl true) λ_ _ _=>False)
   (hCX:∀H e s',CX [] H s₁ (λ_ _ _=>False) e s'->False) :
   codeAny (model P w) callerA (.call (.ref fa) #[[.ref a],[]]) (λr s'=>r=.ok (.ret (.bool true))/\OldK s₁.heap s'.heap/\s'.os=s₁.os/\AllBare s'.gens) s₁:=by
 have rv:=tX hi;have lenV:=hi.length
 -- from an abstract heap in which nothing but the script may be tracked
 have core:∀H:Hp,lU H->aK K H a (ns.map V.int)->cC P w H s₁.heap->(∀b,H b≠none->b=a)->(H a≠none->K.lookup a=none) ->
     codeAny (model P w) callerA (.call (.ref fa) #[[.ref a],[]]) (λr s'=>r=.ok (.ret (.bool true))/\OldK s₁.heap s'.heap/\s'.os=s₁.os/\AllBare s'.gens) s₁:=by
   intro H hO hS hok hA hK;have base_of:∀{b:Addr} {o:Obj},s₁.heap.get? b=some o->H b=none->(gL s₁.heap H).get? b=some o:=λe n=>zv e n;have noA:∀{b:Addr} {o:Obj} {es:Array DictEntry} {ep:Nat},s₁.heap.get? b=some o->o.data=.dict es ep->H b=none:=λ{b o es ep} e d=>by
     cases q:H b with
     | none=>rfl
     | some u =>
       have e':b=a:=hA b (by rw[q]; simp);subst e';rw[ha] at e; cases e;have d':Data.seq vs.toArray _=Data.dict es ep:=d;cases d'
   have nsK:∀{b:Addr} {m:Str->Option Value},s₁.heap.Ns b m->(gL s₁.heap H).Ns b m:=λ{b m} ⟨o,es,ep,e,d,r⟩=>#[o,es,ep,base_of e (noA e d),d,r]
   have hKb:K.In (gL s₁.heap H):=λb o e=>base_of (KX b o e) (by
     cases q:H b with
     | none=>rfl
     | some u =>
       have e':b=a:=hA b (by rw[q]; simp);subst e';rw[hK (by rw[q]; simp)] at e; cases e)
   have hM:Mod K mg (gL s₁.heap H):=#[hKb,nsK hns,#[mb,nsK hb,hbb],let ⟨mc,h1,h2⟩:=hlim; #[mc,nsK h1,h2]]
   have e0:Env0 P w K mg (gL s₁.heap H) callerA [] s₁ H:=#[rfl,hM,λb o e=>El e,Nat.le_of_eq (A' _ _),trivial,λb hb=>absurd (show b∈([]:List Addr) from hb) (by simp),hok,.of_eq hg]
   refine KG ((F _ hKb (nsK hns)).run callerA [] s₁ H #[[.ref a],[]] [.ref a] [.ref a] _ _ hr e0 (hbind s₁ (.ref a)) (.cons rfl .nil) (hsp H hO hS)) λr s' h=>?_;cases r with
   | error e=>exact(hCX H e s' h).elim
   | ok fl =>
     cases fl with
     | next=>exact False.elim h
     | brk=>exact False.elim h
     | cont=>exact False.elim h
     | ret u =>
       obtain⟨v,H',os,bare,un,hok',r',q⟩:=h;have q':v=.bl true:=q;subst q';obtain rfl:u=Value.bool true:=r';refine#[rfl,OldK.of_keep λb o e=>?_,os,bare];cases q:H b with
       | none=>exact un.keep b o e q (by intro z; exact absurd (show b∈([]:List Addr) from z) (by simp)) (by simp)
       | some u =>
         rcases hO b with z|⟨ob,xs,z⟩
         . rw[q] at z; cases z
         . have z2:=un.frzs b ob _ z;obtain⟨e1,_⟩:=hok b _ z;obtain⟨e2,_⟩:=hok' b _ z2;rw[e] at e1; cases e1;exact e2
 cases hk:K.lookup a with
 | some o =>
   -- the script is one of the module's own objects
   have e:=KX a o hk;rw[ha] at e;cases e;refine core (λ_=>none) (λ_=>.inl rfl) (.inr #[_,vs.toArray,_,hk,rfl,rfl,rfl,by rw[Hc,lenV]; exact hl,by simpa using rv]) (λb u z=>by have z':(none:Option HO)=some u:=z; cases z') (λb z=>absurd rfl z) λz=>absurd rfl z
 | none =>
   refine core (λb=>if b=a then some (.frz { cls:=.type "list",data:=.seq vs.toArray } (.lst (ns.map V.int))) else none) (λb=>?_) (.inl (.inr #[{ cls:=.type "list",data:=.seq vs.toArray },HR rfl])) (λb u z=>?_) (λb z=>?_) λ_=>hk
   . by_cases hb:b=a
     . exact .inr #[_,_,HR hb]
     . exact .inl (HI hb)
   . by_cases hb:b=a
     . have z':=(HR hb).symm.trans z;cases z';subst hb;exact#[ha,by rw[HH]; exact hl,vs,_,rv,ha]
     . have z':=(HI hb).symm.trans z;cases z'
   . by_cases hb:b=a
     . exact hb
     . exact absurd (HI hb) z
abbrev KOf {K:W.Frag} {h:Heap} (_:K.In h):W.Frag:=K
theorem FM {l:PySem.W.OpenLaw} {n k:Nat} {q:Program} {loose:List Str} {XP:(Str->Option Value)->Heap->Prop} {YP:World->Heap->Prop} {d:DefRec} {K:Params->W.Frag} {CX:World->fO} {sp:World->Sp} 
   (hn:l.most=some n) (hn2:n<=sizeLine) (hdf:d.params.defaults=[]) (hr:Room k callerA)
   (hY:∀(w:World) (h:Heap),YP w h->(K w.params).In h)
   (F:∀(w:World) (mg:Str->Option Value) (fa:Addr) (h:Heap),(K w.params).In h->h.Ns mainGlobals mg->mg d.name=some (.ref fa) ->
     ∃fd:FuncData,(∀(s:Shared) (u:Value),BindsTo s fd #[[u],[]] [(x,u)]) /\
       ∀base:Heap,(K w.params).In base->base.Ns mainGlobals mg->FnOk l.prog w (K w.params) mg base (CX w) k fa fd [x] (sp w))
   (hsp:∀(w:World) (H:Hp) (a:Addr) (ns:List Int),ns.length<=n->lU H->aK (K w.params) H a (ns.map V.int)->sp w [.ref a] H (λv _=>v=.bl true) λ_ _ _=>False)
   (hCX:∀(w:World) (H:Hp) (s:Shared) (e:Value) (s':Shared),CX w [] H s (λ_ _ _=>False) e s'->False) :
   PySem.W.WalkO q loose XP YP l.row.toRowW d [] (λf vs=>PySem.call f vs):=by
 refine Att.attach_call hn hdf λw s₀ s₁ mg mb fa o pm cd doc a vs ns G Y ho hd hcd hmg hobj hints hlen hg=>?_;have KX:=hY w _ Y;obtain⟨fd,hb,hF⟩:=F w mg fa _ KX G.T.g hmg;exact Ea KX G.T.g G.T.b G.T.builtins G.T.nolimit hg hobj hints (Ht hlen hn2) hr hF hb (λH hO hS=>hsp w H a ns hlen hO hS) λH e s'=>hCX w H s₁ e s'
theorem walk_ofK {l:PySem.W.OpenLaw} {n k:Nat} {q:Program} {loose:List Str} {XP:(Str->Option Value)->Heap->Prop} {YP:World->Heap->Prop} {d:DefRec} {K:Params->W.Frag} {CX:fO} {sp:W.Frag->Sp} 
   (hn:l.most=some n) (hn2:n<=sizeLine) (hdf:d.params.defaults=[]) (hr:Room k callerA)
   (hY:∀(w:World) (h:Heap),YP w h->(K w.params).In h)
   (F:∀(w:World) (mg:Str->Option Value) (fa:Addr) (h:Heap),(K w.params).In h->h.Ns mainGlobals mg->mg d.name=some (.ref fa) ->
     ∃fd:FuncData,(∀(s:Shared) (u:Value),BindsTo s fd #[[u],[]] [(x,u)]) /\
       ∀base:Heap,(K w.params).In base->base.Ns mainGlobals mg->FnOk l.prog w (K w.params) mg base CX k fa fd [x] (sp (K w.params)))
   (hsp:∀(K:W.Frag) (H:Hp) (a:Addr) (ns:List Int),ns.length<=n->lU H->aK K H a (ns.map V.int)->sp K [.ref a] H (λv _=>v=.bl true) λ_ _ _=>False)
   (hCX:∀(H:Hp) (s:Shared) (e:Value) (s':Shared),CX [] H s (λ_ _ _=>False) e s'->False) :
   PySem.W.WalkO q loose XP YP l.row.toRowW d [] (λf vs=>PySem.call f vs) :=
 FM (K:=K) (CX:=λ_=>CX) (sp:=λw=>sp (K w.params)) hn hn2 hdf hr hY F (λw H a ns h1 h2 h3=>hsp (K w.params) H a ns h1 h2 h3) λ_ H s e s'=>hCX H s e s'
def fL (s:Stmt) (j:Nat):Stmt:=match s with
 | .ClassDef _ _ _ body _ _ _ _ _ _ _=>body.getD j (.Pass #[0,0,0,0])
 | _=>.Pass #[0,0,0,0]
def cx (s:Stmt):Arguments:=match s with
 | .FunctionDef _ a _ _ _ _ _ _ _ _=>a
 | _=>{ posonlyargs:=[],args:=[],vararg:=none,kwonlyargs:=[],kw_defaults:=[],kwarg:=none,defaults:=[] }
def bU (s:Stmt):List Stmt:=match s with
 | .FunctionDef _ _ b _ _ _ _ _ _ _=>b
 | _=>[]
def bD (s:Stmt):Scope:=match s with
 | .FunctionDef _ _ _ _ _ _ sc _ _ _=>sc
 | _=>{ kind:=.function,names:=[],isGenerator:=false,isCoroutine:=false }
abbrev CX0:fO:=λ_ _ _ _ _ _=>False
abbrev E0:XK:=λ_ _ _=>False
theorem ce {X:Cx}:i5 CX0 X E0:=λ_ _ _ _ _ _ _ h=>h.elim
structure Fun (K:W.Frag) (x qual:Str) (st:Stmt) (f:Addr) (fd:FuncData):Prop where
 ex:∃(oc:Value) (od:Option Addr) (kV doc pm:Value) (an:Option Addr) (cdv ct:Value) (osl:Array (Option Value)),
   fd=PySem.W.fnOf x qual (cx st) (bU st) (bD st) .none kV doc pm an cdv ct/\K.lookup f=some #[oc,od,.func fd,osl]/\PySem.W.codeIn K cdv qual=true
 kp:PySem.W.keepIn K (.ref f)=true
variable {qual:Str}
section
variable {P:Program} {w:World} {K:W.Frag} {mg:Str->Option Value} {base:Heap}
theorem Fun.ok {st:Stmt} {f:Addr} {fd:FuncData} {N ps:List Str} {k:Nat} {sp:Sp} (F:Fun K x qual st f fd) (S:FnScope N ps (bD st)) (len:∀vs H Q E,sp vs H Q E->vs.length=ps.length)
   (hbody:∀(cdv:Value) (A:Around) (outer:List Env) (s:Shared) (H:Hp) (vs:List V) (Q:VK) (E:XK),Room k (A.deeper (envOfC qual (bD st) s.heap.objs.size f cdv))->sp vs H Q E ->
     ∃t,bV (i' CX0 P w K mg base N qual (bD st) f cdv A outer s H E).nox (bU st) t/\t { nx:=λ_ H'=>Q .non H',rt:=Q } (gX N vs) H):FnOk P w K mg base CX0 (k+1) f fd ps sp:=by
 obtain⟨oc,od,kV,doc,pm,an,cdv,ct,osl,rfl,lk,hcd⟩:=F.ex;refine AD lk hcd S len λA outer s H vs Q E hr hsp=>?_;obtain⟨t,h,q⟩:=hbody cdv A outer s H vs Q E hr hsp;exact#[t,h.nox,q]
theorem Fun.binds {st:Stmt} {f:Addr} {fd:FuncData} {ps:List Str} (F:Fun K x qual st f fd)
   (h:∀(kV doc pm:Value) (an:Option Addr) (cdv ct:Value) (us:List Value),us.length=ps.length->bindArgs (PySem.W.fnOf x qual (cx st) (bU st) (bD st) .none kV doc pm an cdv ct) #[us,[]]=pure (ps.zip us)):fB K fd ps []:=by
 obtain⟨oc,od,kV,doc,pm,an,cdv,ct,osl,rfl,lk,hcd⟩:=F.ex;exact .all (h kV doc pm an cdv ct)
theorem im {st:Stmt} {f:Addr} {oc:Value} {od an:Option Addr} {osl:Array (Option Value)} {kV doc pm cdv ct:Value} (l:K.lookup f=some #[oc,od,.func (PySem.W.fnOf x qual (cx st) (bU st) (bD st) .none kV doc pm an cdv ct),osl])
   (c:PySem.W.codeIn K cdv qual=true) (k:PySem.W.keepIn K (.ref f)=true):Fun K x qual st f (PySem.W.fnOf x qual (cx st) (bU st) (bD st) .none kV doc pm an cdv ct):=#[#[oc,od,kV,doc,pm,an,cdv,ct,osl,rfl,l,c],k]
end
theorem tZ {n:Nat} (h:n<=1000):n<sizeLine:=Nat.lt_of_le_of_lt h (by decide)
section
variable {X:Cx}
theorem pv (i:Nat) {pos:Pos} (hN:X.N[i]?=some x:=by rfl) (hv:lI X.env.scope x:=by first|exact Or.inl rfl|exact Or.inr (Or.inl rfl)|exact Or.inr (Or.inr rfl)) (hd:(x==("__debug__":Str))=false:=by decide)
   (hcd:(x==("__classdict__":Str))=false:=by decide):PE X (.Name x pos) (uo i):=A1 hN hv hd hcd
end
theorem iW {A B:Prop} (h:B):if false=true then A else B:=by rw[HI He];exact h
theorem pQ {A B:Prop} (h:A):if true=true then A else B:=by rw[HR rfl];exact h
theorem EL {c A B:Prop} [Decidable c] (h1:c->A) (h2:¬ c->B):if c then A else B:=by
 by_cases h:c
 . rw[HR h];exact h1 h
 . rw[HI h];exact h2 h
def aC (H H':Hp):Prop:=∀b o,H b=some o->H' b=some o
theorem aC.refl (H:Hp):aC H H:=λ_ _ h=>h
theorem aC.trans {H H1 H2:Hp} (a:aC H H1) (b:aC H1 H2):aC H H2:=λc o h=>b c o (a c o h)
theorem aC.free {H H':Hp} (e:aC H H') {l:Addr} (h:H' l=Option.none):H l=Option.none:=by
 cases q:H l with
 | none=>rfl
 | some o =>
   rw[e l o q] at h;cases h
theorem aC.seq {K:W.Frag} {H H':Hp} {a:Addr} {xs:List V} (e:aC H H') (h:aK K H a xs):aK K H' a xs:=by
 rcases h with(h|⟨o,h⟩)|h
 . exact .inl (.inl (e _ _ h))
 . exact .inl (.inr #[o,e _ _ h])
 . exact .inr h
end L2
set_option maxHeartbeats 4000000
namespace L2
open PySem PySem.Spec PyProof.Rows
def dY:List (Str×NameKind)->List (Str×Addr)->List (Str×Addr)->List (Str×Addr)
 | [],_,acc=>acc
 | (n,k) :: r,cells,acc=>if k==.free then dY r cells ((n,(cells.lookup n).getD 0) :: acc) else dY r cells acc
theorem rX {env:Env}:∀(names:List (Str×NameKind)) (acc:List (Str×Addr)),(∀y∈names,y.2=.free->∃c,env.cells.lookup y.1=some c) ->
   (forIn names acc λx r=>(match x with|(name,kind)=>if(kind==NameKind.free)=true then do let a <- cellOf env name; pure (ForInStep.yield ((name,a) :: r)) else pure (ForInStep.yield r):Sem (ForInStep (List (Str×Addr)))))=(pure (dY names env.cells acc):Sem (List (Str×Addr)))
 | [],acc,_=>rfl
 | (n,k) :: r,acc,h=>by
   have ih:=λacc=>rX (env:=env) r acc λy hy=>h y (HZ _ hy);rw[JN];unfold dY;cases hk:(k==NameKind.free) with
   | true =>
     obtain⟨c,hc⟩:=h (n,k) HS (by simpa using hk);have hc:env.cells.lookup n=some c:=hc;have e:cellOf env n=pure c:=by unfold cellOf; rw[hc]
     simp only[hk,if_true,e,pure_bind,hc,Option.getD_some];exact ih _
   | false =>
     simp only[hk,Bool.false_eq_true,if_false,pure_bind];exact ih _
variable {scope:Scope}
theorem E3 {env:Env} (h:∀y∈scope.names,y.2=.free->∃c,env.cells.lookup y.1=some c):closureFor scope env=pure (dY scope.names env.cells []):=by
 have e:=rX (env:=env) scope.names [] h;unfold closureFor
 first
   | (rw[e]; rfl)
   | (simp only[e]; rfl)
   | exact(Hb (λt=>t >>= λr=>pure r) e)
theorem qY {cells:List (Str×Addr)}:∀(names:List (Str×NameKind)) (acc:List (Str×Addr)),(∀y∈names,y.2=.free->∃c,cells.lookup y.1=some c)->(∀x c,acc.lookup x=some c->cells.lookup x=some c) ->
   ∀x c,(dY names cells acc).lookup x=some c->cells.lookup x=some c
 | [],acc,_,h2=>h2
 | (n,k) :: r,acc,h,h2=>by
   unfold dY;cases hk:(k==NameKind.free) with
   | true =>
     rw[HR rfl];refine qY r _ (λy hy=>h y (HZ _ hy)) λx c e=>?_;obtain⟨c',hc⟩:=h (n,k) HS (by simpa using hk);have hc:cells.lookup n=some c':=hc;rw[Ie] at e;cases hx:x==n with
     | true =>
       have hx':x=n:=by simpa using hx
       rw[hx] at e;rw[hx',hc];simpa [hc] using e
     | false =>
       rw[hx] at e;exact h2 x c e
   | false =>
     rw[HI (by simp)];exact qY r _ (λy hy=>h y (HZ _ hy)) h2
theorem oC {cells:List (Str×Addr)} {x:Str}:∀(names:List (Str×NameKind)) (acc:List (Str×Addr)),(acc.lookup x).isSome=true->((dY names cells acc).lookup x).isSome=true
 | [],_,h=>h
 | (n,k) :: r,acc,h=>by
   unfold dY;split
   . refine oC r _ ?_;rw[Ie];cases x==n <;> simp [h]
   . exact oC r _ h
theorem nF {cells:List (Str×Addr)} {x:Str}:∀(names:List (Str×NameKind)) (acc:List (Str×Addr)),(x,NameKind.free)∈names->((dY names cells acc).lookup x).isSome=true
 | (n,k) :: r,acc,h=>by
   unfold dY;rcases HV.mp h with e|e
   . cases e;rw[HR (by rfl)];exact oC r _ (by rw[Ie]; simp)
   . split
     . exact nF r _ e
     . exact nF r _ e
def d8 (X:Cx) (N':List Str) (scope:Scope) (C:Addr) (s:Shared) (H:Hp) (fp:List Addr):Cx :=
 { X with N:=N',s₀:=s,H₀:=H,env:=compEnvC scope (dY scope.names X.env.cells []) C X.env,outer:=X.stack,stack:=X.stack,ex:=fp,fn:=λ_=>false,pn:=[],xe:=λ_ _=>False }
def cE (js:List (Option Nat)) (σ:St):St:=js.map λo=>o.bind λj=>(σ[j]?).join
def jD (scope osc:Scope) (N' N:List Str) (js:List (Option Nat)):Bool :=
 (scope.kind==.function)&&(scope.names.all λy=>y.2 != .cell&&(if y.2==.local then scope.names.lookup y.1==some .local else true) &&
   (if y.2==.free then osc.names.lookup y.1==some .cell || osc.names.lookup y.1==some .free else true)) &&
 js.length==N'.length&&((js.zip N').all λq=>match q.1 with
   | none=>true
   | some j=>N[j]?==some q.2&&(osc.names.lookup q.2==some .cell || osc.names.lookup q.2==some .free)&&scope.names.lookup q.2==some .free)
structure CompOk (scope osc:Scope) (N' N:List Str) (js:List (Option Nat)):Prop where
 kind:scope.kind=.function
 nocell:∀y∈scope.names,y.2≠.cell
 names:∀y∈scope.names,y.2=.local->scope.names.lookup y.1=some .local
 free:∀y∈scope.names,y.2=.free->osc.names.lookup y.1=some .cell\/osc.names.lookup y.1=some .free
 len:js.length=N'.length
 slots:∀(i j:Nat) (x:Str),js[i]?=some (some j)->N'[i]?=some x->N[j]?=some x/\(osc.names.lookup x=some .cell\/osc.names.lookup x=some .free)/\scope.names.lookup x=some .free
variable {N':List Str} {js:List (Option Nat)}
theorem Cz {osc:Scope}{N:List Str}(h:jD scope osc N' N js=true):CompOk scope osc N' N js:=by
 unfold jD at h;rw[Hr,Hr,Hr,Ig,Ig] at h;obtain⟨⟨⟨h1,h2⟩,h3⟩,h4⟩:=h;refine#[by cases hk:scope.kind <;> first|rfl|(rw[hk] at h1; cases h1),λy hy e=>?_,λy hy e=>?_,λy hy e=>?_,by simpa using h3,λi j x e1 e2=>?_]
 . have q:=h2 y hy;rw[e] at q;simp at q
 . have q:=h2 y hy;rw[Hr,Hr] at q;have q2:=q.1.2;rw[e] at q2;simpa using q2
 . have q:=h2 y hy;rw[Hr,Hr] at q;have q2:=q.2;rw[e] at q2;simpa using q2
 . have hm:(some j,x)∈js.zip N':=by refine HP (i:=i) ?_;rw[IP];exact#[e1,e2]
   have q:=h4 _ hm;simp only[Hr,Bool.or_eq_true,KC] at q;exact#[q.1.1,q.1.2,q.2]
theorem t8 {env:Env}:∀(names:List (Str×NameKind)) (x:Str),names.lookup x=some .free ->
   ((names.map λ(n,k)=>if(k==NameKind.free&&env.scope.kind==.function&&env.kindOf n==some .cell) then(n,NameKind.cell) else(n,k)).lookup x=some .cell \/
     (names.map λ(n,k)=>if(k==NameKind.free&&env.scope.kind==.function&&env.kindOf n==some .cell) then(n,NameKind.cell) else(n,k)).lookup x=some .free)
 | [],x,h=>by simp at h
 | (n,k) :: r,x,h=>by
   have ih:=t8 (env:=env) r x;rw[Ho];rw[Ie] at h;by_cases hb:(k==NameKind.free&&env.scope.kind==.function&&env.kindOf n==some .cell)=true
   . have e1:(if(k==NameKind.free&&env.scope.kind==.function&&env.kindOf n==some .cell)=true then(n,NameKind.cell) else(n,k))=(n,NameKind.cell):=HR hb;simp only[e1,Ie];cases hx:x==n with
     | true=>exact .inl rfl
     | false =>
       rw[hx] at h;exact ih h
   . have e1:(if(k==NameKind.free&&env.scope.kind==.function&&env.kindOf n==some .cell)=true then(n,NameKind.cell) else(n,k))=(n,k):=HI hb;simp only[e1,Ie];cases hx:x==n with
     | true =>
       rw[hx] at h;exact .inr h
     | false =>
       rw[hx] at h;exact ih h
theorem uM {scope:Scope} {env:Env}:∀(names:List (Str×NameKind)) (x:Str),(∀y∈names,y.2≠.cell) ->
   ((names.map λ(n,k)=>if(k==NameKind.free&&env.scope.kind==.function&&env.kindOf n==some .cell) then(n,NameKind.cell) else(n,k)).lookup x=some .cell \/
     (names.map λ(n,k)=>if(k==NameKind.free&&env.scope.kind==.function&&env.kindOf n==some .cell) then(n,NameKind.cell) else(n,k)).lookup x=some .free)->(x,NameKind.free)∈names
 | [],x,_,h=>by simp at h
 | (n,k) :: r,x,hc,h=>by
   have ih:=uM (scope:=scope) (env:=env) r x λy hy=>hc y (HZ _ hy);rw[Ho] at h;by_cases hb:(k==NameKind.free&&env.scope.kind==.function&&env.kindOf n==some .cell)=true
   . have hkf:k=.free:=by rw[Hr,Hr] at hb;simpa using hb.1.1
     have e1:(if(k==NameKind.free&&env.scope.kind==.function&&env.kindOf n==some .cell)=true then(n,NameKind.cell) else(n,k))=(n,NameKind.cell):=HR hb;simp only[e1,Ie] at h;cases hx:x==n with
     | true =>
       have hx':x=n:=by simpa using hx
       rw[hx',hkf];exact HS
     | false =>
       rw[hx] at h;exact HZ _ (ih h)
   . have e1:(if(k==NameKind.free&&env.scope.kind==.function&&env.kindOf n==some .cell)=true then(n,NameKind.cell) else(n,k))=(n,k):=HI hb;simp only[e1,Ie] at h;cases hx:x==n with
     | true =>
       have hx':x=n:=by simpa using hx
       rw[hx] at h;rcases h with h|h
       . exact absurd (Option.some.inj h) (hc (n,k) HS)
       . have hkf:k=.free:=Option.some.inj h;rw[hx',hkf];exact HS
     | false =>
       rw[hx] at h;exact HZ _ (ih h)
variable {H:Hp}
theorem Un.sameBut {fs ex:List Addr} {H':Hp}{h h1 h2:Heap} {C:Addr} (u:Un fs ex H H' h h1) (hs:Heap.SameBut C h1 h2) (hC:h.objs.size<=C):Un fs ex H H' h h2:=by
 have ne:∀b o,h.get? b=some o->b≠C:=λb o e=>Hw (Hn (Ha e) hC);refine#[λb o e n hb hx=>(hs.2 b (ne b o e)).trans (u.keep b o e n hb hx),λb o e n hb hx=>?_,u.free,λb o e hx=>?_,u.tups,u.frzs,u.tbls]
 . obtain⟨sl,q⟩:=u.slot b o e n hb hx;exact#[sl,(hs.2 b (ne b o e)).trans q]
 . obtain⟨o',q⟩:=u.there b o e hx;exact#[o',(hs.2 b (ne b o e)).trans q]
theorem iQ {α:Type} {t:Sem α} {Q Q':α->Shared->Prop} {M:Model} {A:Around} {E:Value->Shared->Prop} {s:Shared} (h:wpAny M A t Q (λ_ _=>False) s) (hQ:∀a s,Q a s->Q' a s):wpAny M A t Q' E s:=JS h hQ λ_ _ f=>f.elim
variable {elt target iter:Expr} {ifs:List Expr} {pos:Pos}
theorem Ab {prog:Program} {w:World} {A:Around} {R:Result->Shared->Prop} {s:Shared} {it acc:Value} {env:Env} (I:Nat->Shared->Prop)
   (turn:∀n s,I n s->wpAny (model prog w) A (pyNext it) (λr s₁=>match r with
     | none=>R (.ok .next) s₁
     | some v=>wpAny (model prog w) A (letOwnedTupleGo target it v) (λ_ s₂=>wpAny (model prog w) A (assign target env v) (λ_ s₃ =>
         wpAny (model prog w) A (forIn ifs true λc r=>if r=true then do let ok <- isTrue c env (eval c env); pure (ForInStep.yield ok) else pure (ForInStep.yield r)) (λok s₄ =>
           if ok=true then wpAny (model prog w) A (eval elt env) (λx s₅ =>
             wpAny (model prog w) A (call (.builtin "list.append") [acc,x]) (λ_ s₆=>∃m,m<n/\I m s₆) (λ_ _=>False) s₅) (λ_ _=>False) s₄
           else ∃m,m<n/\I m s₄) (λ_ _=>False) s₃) (λ_ _=>False) s₂) (λ_ _=>False) s₁) (λ_ _=>False) s)
   (n:Nat) (h:I n s):codeAny (model prog w) A (.compLoop (.ListComp elt [#[target,iter,ifs,0]] scope pos) 0 it acc env) R s:=by
 refine codeAny_loop rfl I (λn s hI=>?_) n h;show wpAny _ A ((compTurn (.ListComp elt [#[target,iter,ifs,0]] scope pos) 0 it acc env).onRaise (λx=>do noteFrame x env; theTreesLotGoes x)) _ _ s;refine wpAny_noted ?_;rw[compTurn_list];refine HG (KZ (HG (iQ (turn n s hI) λr s₁ h₁=>?_)));cases r with
 | none=>exact HQ h₁
 | some v =>
   refine HG (iQ h₁ λ_ s₂ h₂=>HG (iQ h₂ λ_ s₃ h₃=>HG (iQ h₃ λok s₄ h₄=>?_)));cases ok with
   | false=>exact HQ #[rfl,h₄]
   | true =>
     exact HG (HG (iQ h₄ λx s₅ h₅=>HG (iQ h₅ λ_ s₆ h₆=>HQ (HQ #[rfl,h₆]))))
def j9 (X:Cx) (ifs:List Expr) (t:TT):Prop :=
 ∀(pins:List (Addr×Obj)) (s:Shared) (σ:St) (H:Hp) (Q:Bool->Hp->Prop),Inv X pins σ H s->t σ H Q ->
   wpAny (model X.prog X.w) X.A (forIn ifs true λc r=>if r=true then do let ok <- isTrue c X.env (eval c X.env); pure (ForInStep.yield ok) else pure (ForInStep.yield r)) (TP X pins σ Q) X.xe s
def Fm:TT:=λ_ H Q=>Q true H
variable {X:Cx}
theorem fQ :j9 X [] Fm:=λ_ _ _ H _ I h=>wpAny_tests_nil #[H,I,h]
theorem wW {c:Expr} {t:TT} (h:PT X c t):j9 X [c] t:=λpins s σ H Q I hq=>wpAny_tests_one (h pins s σ H Q I hq)
def jH (js:List (Option Nat)) (g:TG):Prop:=∀(x:V) (σ:St) (H:Hp) (Q:St->Hp->Prop),σ.length=js.length->g x σ H Q->g x σ H λσ' H'=>Q σ' H'/\σ'.length=js.length/\∀(i j:Nat),js[i]?=some (some j)->σ'[i]?=σ[i]?
def lh (js:List (Option Nat)) (g:fi):Prop:=∀(x:List V) (σ:St) (H:Hp) (Q:St->Hp->Prop),σ.length=js.length->g x σ H Q->∀Q':St->Hp->Prop,(∀σ' H',Q σ' H'->σ'.length=js.length->(∀(i j:Nat),js[i]?=some (some j)->σ'[i]?=σ[i]?)->Q' σ' H')->g x σ H Q'
theorem fP {i:Nat} (h:js[i]?=some none:=by rfl):jH js (ii i):=λx σ H Q hl q=>#[q,by rw[Ib]; exact hl,λk j e=>by rw[J4];intro z;subst z;rw[h] at e;cases e]
theorem rO :lh js rJ:=λx σ H Q hl ⟨e,q⟩ Q' k=>#[e,k _ _ q hl λ_ _ _=>rfl]
theorem lA {i:Nat} {u:fi} (hu:lh js u) (h:js[i]?=some none:=by rfl):lh js (sM (ii i) u):=λx σ H Q hl ⟨v,r,e,q⟩ Q' k=>#[v,r,e,by
 have hl':(σ.set i (some v)).length=js.length:=by rw[Ib]; exact hl
 exact hu r (σ.set i (some v)) H Q hl' q _ λσ' H' z1 z2 z3=>k σ' H' z1 z2 λn j e=>(z3 n j e).trans (by rw[J4];intro z;subst z;rw[h] at e;cases e)]
theorem wV {K:W.Frag} {n:Nat} {t:fi} (h:lh js t):jH js (mK K n t):=λx σ H Q hl ⟨a,xs,e,sq,l,q⟩=>#[a,xs,e,sq,l,h xs σ H Q hl q _ λσ' H' z1 z2 z3=>#[z1,z2,z3]]
def gT (J:It) (g:TG) (tif:TT) (te:TE) (js:List (Option Nat)) (σ:St) (Q:VK) (p:Addr) (H1:Hp):Prop :=
 ∃W:Nat->Nat->List V->Hp->Prop,(∃m,W 0 m [] (upd H1 p (.lst [])))/\∀i m acc H2,W i m acc H2->H2 p=some (.lst acc) /\
   ((J.stop i H2/\Q (.ref p) H2)\/(J.go i H2/\acc.length<sizeLine/\∃N:List V->Hp->Prop,(∀acc' H',N acc' H'->∃m',m'<m/\W (i+1) m' acc' H') /\
     ∀x H',J.yld i H2 x H'->g x (cE js σ) H' λσ2 H3=>tif σ2 H3 λc H4 =>
       if c=true then te σ2 H4 λy H5=>H5 p=some (.lst acc)/\N (acc++[y]) (upd H5 p (.lst (acc++[y]))) else N acc H4))
def qa (wi:TI) (g:TG) (tif:TT) (te:TE) (js:List (Option Nat)):TE:=λσ H Q=>wi σ H λJ H1=>∀p,H1 p=none->gT J g tif te js σ Q p H1
variable {wi:TI} {tif:TT} {te:TE}
theorem sK {use:Option (Value->Sem Unit)} {Q':Value->Shared->Prop} {Q:VK} {pins:List (Addr×Obj)} {s:Shared} {σ:St} {g:TG} (hok:jD scope X.env.scope N' X.N js=true) (hc:X.calm=true)
   (hi:PI X target iter wi) (ho:jH js g) (hg:∀C s H fp,PG (d8 X N' scope C s H fp) target g) (hif:∀C s H fp,j9 (d8 X N' scope C s H fp) ifs tif) (he:∀C s H fp,PE (d8 X N' scope C s H fp) elt te)
   (hs:∀x,foldedSetIterable iter X.env x=pure x) (I:Inv X pins σ H s) (h:qa wi g tif te js σ H Q)
   (hfin:∀(s2:Shared) (H2:Hp) (fp:List Addr) (C:Addr),Inv X pins σ H2 s2->(∀b∈fp,eI X pins H2 b)->s2.heap.objs.size<=C->∀(σ':St) (H':Hp) (s':Shared),Inv (d8 X N' scope C s2 H2 fp) [] σ' H' s'->Q (.ref s2.heap.objs.size) H' ->
     compPost (model X.prog X.w) X.A X.xe use Q' (.ref s2.heap.objs.size) C (.ok .next) s') :
   wpAny (model X.prog X.w) X.A (comprehension (.ListComp elt [#[target,iter,ifs,0]] scope pos) scope X.env (firstIterPos [#[target,iter,ifs,0]] pos) (newList []) false (eval iter X.env) use) Q' X.xe s:=by
 have O:=Cz hok;have hfr:∀y∈scope.names,y.2=.free->∃c,X.env.cells.lookup y.1=some c:=λy hy e=>I.ok.has y.1 (O.free y hy e);refine wpAny_comprehension_free (use:=use) rfl hs (E3 hfr) O.kind O.names (aq (hi pins s σ H _ I h) λv s1 h1=>aq h1 λitv s2 h2=>?_);obtain⟨it,fp,tn,J,H2,e,I2,T,st2,f2,hq⟩:=h2;subst e;have hf0:H2 s2.heap.objs.size=none:=I2.hok.fresh (HN _);obtain⟨W,⟨m0,w0⟩,turn⟩:=hq _ hf0;refine Io (wpAny_newFunctionEnv O.nocell (by intro y hy; simp at hy) (λh₁ hns₁ hsb₁=>?_) O.kind);dsimp only at hns₁ hsb₁ ⊢;generalize hH2:s2.heap.push { cls:=.type "list",dict:=none,data:=.seq ([]:List Value).toArray }=B at hns₁ hsb₁ ⊢;have hC:B.objs.size=s2.heap.objs.size+1:=by rw[<- hH2,IX]
 have hCle:s2.heap.objs.size<=B.objs.size:=by rw[hC]; exact Jc _
 have old:∀b o,s2.heap.get? b=some o->h₁.get? b=some o:=λb o e=>hsb₁.extBut b o (by rw[hC]; exact Hw (Nat.lt_succ_of_lt (Ha e))) (HJ _ (hH2 ▸ HJ _ e));have hDC:s2.heap.objs.size≠B.objs.size:=by rw[hC]; exact Hw (Iv _)
 have hacc:h₁.get? s2.heap.objs.size=some { cls:=.type "list",dict:=none,data:=.seq ([]:List Value).toArray }:=hsb₁.extBut _ _ hDC (HJ _ (hH2 ▸ Hf _ rfl));have fpO:∀b∈fp,b<s2.heap.objs.size:=λb hb=>by obtain⟨o,e,_⟩:=T.obj 0 _ st2 b hb;exact Ha e
 have sub:∀x c,(dY scope.names X.env.cells []).lookup x=some c->X.env.cells.lookup x=some c:=qY scope.names [] hfr (λx c e=>by cases e);have hasC:∀x,((relabel scope X.env).names.lookup x=some .cell\/(relabel scope X.env).names.lookup x=some .free)->∃c,(dY scope.names X.env.cells []).lookup x=some c:=λx hx =>
   JO.mp (nF scope.names [] (uM (scope:=scope) (env:=X.env) scope.names x O.nocell hx))
 -- the block's context at its begin
 have IY:∀t,Inv (d8 X N' scope B.objs.size s2 H2 fp) [] (cE js σ) (upd H2 s2.heap.objs.size (.lst [])) { s2 with heap:=h₁,toks:=t }:=by
   intro t;refine#[#[I2.ok.mod,O.kind,I2.ok.glob,I2.ok.blt,hCle,λx y c h1 h2=>I2.ok.inj x y c (sub x c h1) (sub y c h2),λx hx=>hasC x hx,λx c h=>(by cases h),I2.ok.hd,I2.ok.frames,.inl rfl,λb hb=>#[Hw (Hn (fpO b hb) hCle),λx c e=>(f2 b hb).2.2.2.2.1 x c (sub x c e)],
     I2.bs,Ht I2.ok.bsz I2.sz,λb o e hb=>?_,λb hb z=>?_,I2.stack,I2.stkFree],rfl,I2.bare,Un.laid old (HN _) hf0,#[_,hns₁,λi x v e1 e2 e3=>?_],λx c e=>?_,?_,λx c e=>?_,λp hp=>absurd (show p∈([]:List (Addr×Obj)) from hp) (by simp),?_,?_]
   . rcases (f2 b hb).2.2.2.1 with z|z
     . exact I2.ok.noex b o e z
     . exact absurd (Hn (Hn (Ha e) I2.ok.bsz) z) (IC _)
   . rcases HV.mp (I2.stkSub b z) with q|q
     . exact(f2 b hb).2.1 q
     . exact(f2 b hb).2.2.1 q
   . have e1:N'[i]?=some x:=e1;unfold cE at e2;rw[HW] at e2;cases q:js[i]? with
     | none=>rw[q] at e2; cases e2
     | some o =>
       rw[q] at e2;cases o with
       | none=>cases e2
       | some j =>
         have e2:(σ[j]?).join=some v:=by simpa using e2
         have e2':σ[j]?=some (some v):=by
           cases z:σ[j]? with
           | none=>rw[z] at e2; cases e2
           | some a=>rw[z] at e2; cases a with
             | none=>cases e2
             | some a=>cases e2; rfl
         obtain⟨hN,hk,hsf⟩:=O.slots i j x q e1;obtain⟨m,hn,hl⟩:=I2.loc;obtain⟨u,r,l⟩:=hl j x v hN e2' (.inr hk);refine#[u,r,?_];have hkX:X.env.kindOf x=some .cell\/X.env.kindOf x=some .free:=hk;rcases l with⟨k,_⟩|⟨k,c,hc',hcell⟩
         . rcases hkX with z|z
           . rw[k] at z; cases z
           . rw[k] at z; cases z
         . have hky:(relabel scope X.env).names.lookup x=some .cell\/(relabel scope X.env).names.lookup x=some .free:=t8 (env:=X.env) scope.names x hsf;obtain⟨c2,hc2⟩:=hasC x hky;have:c2=c:=by have:=sub x c2 hc2;rw[hc'] at this;exact(Option.some.inj this).symm
           subst this;obtain⟨ob,ho,hd⟩:=hcell;exact .inr #[hky,c2,hc2,ob,old _ _ ho,hd]
   . obtain⟨v,ob,ho,hd⟩:=I2.cell x c (sub x c e);exact#[v,ob,old _ _ ho,hd]
   . show upd H2 s2.heap.objs.size (.lst []) B.objs.size=none;rw[ay (Ne.symm hDC)];exact I2.hok.fresh hCle
   . obtain⟨v,ob,ho,hd⟩:=I2.cell x c (sub x c e);rw[ay (Hw (Ha ho))];exact I2.freeC x c (sub x c e)
   . exact I2.hok.laid old (HN _) #[Hl _,[],0,.nil,hacc]
   . unfold cE;rw[HH];exact O.len
 have hcl:(cE js σ).length=js.length:=by unfold cE; rw[HH]
 have fin:∀{σ':St} {H':Hp} {s':Shared},Inv (d8 X N' scope B.objs.size s2 H2 fp) [] σ' H' s'->Q (.ref s2.heap.objs.size) H'->compPost (model X.prog X.w) X.A X.xe use Q' (.ref s2.heap.objs.size) B.objs.size (.ok .next) s' :=
   λ{σ' H' s'} J q=>hfin s2 H2 fp B.objs.size I2 f2 hCle σ' H' s' J q
 have loop:∀t,codeAny (model X.prog X.w) X.A (.compLoop (.ListComp elt [⟨target,iter,ifs,0⟩] scope pos) 0 (.ref it) (.ref s2.heap.objs.size) (compEnvC scope (dY scope.names X.env.cells []) B.objs.size X.env))
     (compPost (model X.prog X.w) X.A X.xe use Q' (.ref s2.heap.objs.size) B.objs.size) { s2 with heap:=h₁,toks:=t }:=by
   intro t;have stat:∀{H':Hp},(∀b∈fp,H' b=none)->∀b∈fp,eI (d8 X N' scope B.objs.size s2 H2 fp) [] H' b:=λhn b hb =>
     #[hn b hb,Hw (Hn (fpO b hb) hCle),(IY t).ok.exfs b hb,.inl hb,λx c e=>((IY t).ok.exf b hb).2 x c e,λp hp=>absurd (show p∈([]:List (Addr×Obj)) from hp) (by simp)]
   refine Ab (λn s'=>∃i acc H',Inv (d8 X N' scope B.objs.size s2 H2 fp) [] (cE js σ) H' s'/\tn i s'.heap/\(∀b∈fp,H' b=none)/\W i n acc H') ?_ m0
     #[0,[],_,IY t,T.keep 0 _ _ st2 (λb _ o e=>old b o e),λb hb=>by rw[ay (Hw (fpO b hb))]; exact(f2 b hb).1,w0]
   rintro n s3 ⟨i,acc,H3,I3,st3,fr3,w3⟩;obtain⟨hD,turn⟩:=turn i n acc H3 w3;rcases turn with⟨stop,qn⟩|⟨go,hlen,N,hN,step⟩
   . refine aq (T.done (d8 X N' scope B.objs.size s2 H2 fp) rfl rfl rfl hc i [] s3 (cE js σ) H3 (λ_ _=>False) I3 (stat fr3) st3 stop) λr s4 ⟨hr,I4⟩=>?_;subst hr;exact fin I4 qn
   . refine aq (T.item (d8 X N' scope B.objs.size s2 H2 fp) rfl rfl rfl hc i [] s3 (cE js σ) H3 (λ_ _=>False) I3 (stat fr3) st3 go) λr s4 ⟨u,hr,h4⟩=>?_;subst hr;refine aq h4 λ_ s5 ⟨x,H5,I5,r5,y5,st5,fr5⟩=>?_;have I5':=I5.pinned (stat fr5) (T.obj _ _ st5);refine aq (hg _ _ _ _ _ s5 (cE js σ) H5 x u _ I5' r5 (ho x (cE js σ) H5 _ hcl (step x H5 y5))) λ_ s6 ⟨σ6,H6,I6,q6,hl6,hk6⟩=>?_;refine aq (hif _ _ _ _ _ s6 σ6 H6 _ I6 q6) λok s7 ⟨H7,I7,q7⟩=>?_;have again:∀{H8:Hp} {acc8:List V} {s8:Shared},Inv (d8 X N' scope B.objs.size s2 H2 fp) ([]++ji fp s5.heap) σ6 H8 s8->N acc8 H8 ->
         ∃m,m<n/\∃i acc H',Inv (d8 X N' scope B.objs.size s2 H2 fp) [] (cE js σ) H' s8/\tn i s8.heap/\(∀b∈fp,H' b=none)/\W i m acc H':=by
       intro H8 acc8 s8 I8 n8;obtain⟨m',hm,w8⟩:=hN acc8 H8 n8;refine#[m',hm,i+1,acc8,H8,?_,T.keep _ _ _ st5 λb hb o e=>(I8.pin (b,o) (Hu _ (Hu _ (mR hb e)))).1,λb hb=>?_,w8]
       . refine Inv.weak I8.unpinned (by rw[hl6,hcl]) λk v e=>?_;have e':=e;unfold cE at e;rw[HW] at e;cases q:js[k]? with
         | none=>rw[q] at e; cases e
         | some o =>
           cases o with
           | none=>rw[q] at e; cases e
           | some j=>rw[hk6 k j q]; exact e'
       . obtain⟨o,e,d⟩:=T.obj _ _ st5 b hb;exact(I8.pin (b,o) (Hu _ (Hu _ (mR hb e)))).2.1
     cases ok with
     | false=>exact again I7 q7
     | true =>
       refine aq (he _ _ _ _ _ s7 σ6 H7 _ I7 q7) λy s8 ⟨yv,H8,I8,r8,hD8,q8⟩=>?_;refine aq (ip _ s8 σ6 H8 (.ref s2.heap.objs.size) [yv] (.ref s2.heap.objs.size) [y] (λ_ H9=>N (acc++[yv]) H9) I8 rfl (.cons r8 .nil) #[_,acc,yv,rfl,rfl,hD8,hlen,q8]) λ_ s9 ⟨_,H9,I9,_,q9⟩=>?_;exact again I9 q9
 exact codeAny_compStart_list (loop _) (T.self X.A 0 _ _ _ (T.keep 0 _ _ st2 (λb _ o e=>old b o e)) (loop _))
theorem gO {g:TG} (hok:jD scope X.env.scope N' X.N js=true) (hc:X.calm=true)
   (hi:PI X target iter wi) (ho:jH js g) (hg:∀C s H fp,PG (d8 X N' scope C s H fp) target g) (hif:∀C s H fp,j9 (d8 X N' scope C s H fp) ifs tif) (he:∀C s H fp,PE (d8 X N' scope C s H fp) elt te)
   (hs:∀x,foldedSetIterable iter X.env x=pure x:=by intro _; rfl):PE X (.ListComp elt [#[target,iter,ifs,0]] scope pos) (qa wi g tif te js):=by
 intro pins s σ H Q I h;rw[eval_ListComp];refine sK (use:=none) hok hc hi ho hg hif he hs I h λs2 H2 fp C I2 f2 hCle σ' H' s' J q=>?_;obtain⟨m,hn,_⟩:=J.loc;refine#[m,hn,λh' hs'=>#[.ref s2.heap.objs.size,H',?_,rfl,q]];refine I2.call' (s':={ s' with heap:=h' }) (ch:=fp) J.os (J.base.sameBut hs' hCle) (λb ob e=>?_) J.bare λb hb=>#[(f2 b hb).2.2.2.1,(f2 b hb).2.1,(f2 b hb).2.2.2.2.1,(f2 b hb).2.2.2.2.2]
 refine(J.hok b ob e).stay (λc w' hc q=>(hs'.2 c ?_).trans q) (λ_ q=>q) λ_ _ q=>q;have hfree:H' C=none:=J.free;intro hcC;rw[hcC] at hc;rcases hc with z|z
 . rw[<- z,hfree] at e; cases e
 . rw[hfree] at z; cases z
theorem lE {i:Nat} {y:Str} {py spos:Pos}{g:TG} (hN:X.N.Nodup) (hi':X.N[i]?=some y) (hx:jp X.env.scope y)
   (hok:jD scope X.env.scope N' X.N js=true) (hc:X.calm=true)
   (hi:PI X target iter wi) (ho:jH js g) (hg:∀C s H fp,PG (d8 X N' scope C s H fp) target g) (hif:∀C s H fp,j9 (d8 X N' scope C s H fp) ifs tif) (he:∀C s H fp,PE (d8 X N' scope C s H fp) elt te)
   (hsw:swapsWith (.ListComp elt [#[target,iter,ifs,0]] scope pos) (some (.Name y py)) spos.line X.env=pure true)
   (hs:∀x,foldedSetIterable iter X.env x=pure x:=by intro _; rfl) (hf:X.fn y=true\/X.env.scope.names.lookup y=some .local:=by first|exact .inl rfl|exact .inr rfl|assumption) :
   PS X (.Assign [.Name y py] (.ListComp elt [#[target,iter,ifs,0]] scope pos) spos) (nJ (qa wi g tif te js) (ii i)):=by
 intro pins s σ H D I h;rw[exec_Assign_Name_used _ _ _ _ hsw];refine HG (KZ (HG ?_));show wpAny _ X.A (do let _ <- comprehension (.ListComp elt [⟨target,iter,ifs,0⟩] scope pos) scope X.env _ (newList []) false (eval iter X.env) (some (assign (.Name y py) X.env))) _ _ s;refine HG (aq (sK (use:=some (assign (.Name y py) X.env)) (Q':=λ_ s'=>SP X pins D .next s') hok hc hi ho hg hif he hs I h λs2 H2 fp C I2 f2 hCle σ' H' s' J q=>?_) λ_ s' q=>?_)
 . obtain⟨m,hn,_⟩:=J.loc;have I3:Inv X pins σ H' s':=I2.call' (ch:=fp) J.os J.base J.hok J.bare λb hb=>#[(f2 b hb).2.2.2.1,(f2 b hb).2.1,(f2 b hb).2.2.2.2.1,(f2 b hb).2.2.2.2.2]
   have hCL:C≠X.env.locals:=λz=>absurd (Hn I2.lt hCle) (by rw[z]; exact IC _);have hCc:∀x c,X.env.cells.lookup x=some c->c≠C:=λx c e z=>by obtain⟨v,ob,ho,_⟩:=I2.cell x c e;exact absurd (Hn (Ha ho) hCle) (by rw[z]; exact IC _)
   have hCp:∀p∈X.pn++pins,p.1≠C:=λp hp z=>by have e:=(I2.pin p hp).1;exact absurd (Hn (Ha e) hCle) (by rw[z]; exact IC _)
   show wpAny _ X.A (assign (.Name y py) X.env (.ref s2.heap.objs.size)) _ _ s';refine wpAny_assign_Name (su I3 hN hi' hx (v:=.ref s2.heap.objs.size) rfl (λs'' I4 ⟨a,hsb,ha⟩=>?_) hf);have hna:C≠a:=by
     rcases ha with z|z
     . rw[z]; exact hCL
     . exact(hCc _ _ z).symm
   refine#[m,hn.sameBut hsb hna,λh' hs'=>#[_,H',?_,q]];exact I4.turned (t':=s''.toks) (h':=h') (it:=C) (λb o hb e=>(hs'.2 b hb).trans e) J.free hCL (.inr (Ht I2.sz hCle)) hCc hCp
 . exact HQ (HQ q)
variable {p:Addr}
section
variable {g:TG} {tif:TT} {te:TE} {js:List (Option Nat)} {σ:St} {H:Hp} {Q:VK}
def mU (g:TG) (tif:TT) (te:TE) (σ:St) (p:Addr) (acc:List V) (N:List V->Hp->Prop) (x:V) (H:Hp):Prop :=
 g x σ H λσ2 H3=>tif σ2 H3 λc H4=>if c=true then te σ2 H4 λy H5=>H5 p=some (.lst acc)/\N (acc++[y]) (upd H5 p (.lst (acc++[y]))) else N acc H4
theorem oU {lo:Int} {n:Nat} (hn:n<=1000000) (Pv:Nat->List V->Hp->Prop) (h0:Pv 0 [] (upd H p (.lst [])))
   (hl:∀i acc H2,i<=n->Pv i acc H2->H2 p=some (.lst acc)/\acc.length<=i)
   (hs:∀i acc H2,i<n->Pv i acc H2->mU g tif te (cE js σ) p acc (Pv (i+1)) (.int (lo+i)) H2) (hd:∀acc H2,Pv n acc H2->Q (.ref p) H2) :
   gT (gR lo n) g tif te js σ Q p H:=by
 refine#[λi m acc H=>m=n - i/\i<=n/\Pv i acc H,#[n,by simp,Hl _,h0],?_];rintro i m acc H2 ⟨rfl,hi,q⟩;obtain⟨q1,q2⟩:=hl i acc H2 hi q;refine#[q1,?_];by_cases hlt:i<n
 . refine .inr #[hlt,?_,Pv (i+1),λacc' H' p'=>#[n - (i+1),by omega,rfl,hlt,p'],λx H' y=>?_]
   . have:(1000000:Nat)<sizeLine:=by decide
     omega
   . obtain⟨e,y⟩:=y;subst e y;exact hs i acc _ hlt q
 . have e:i=n:=by omega
   subst e;exact .inl #[HN _,hd acc H2 q]
theorem km {K:W.Frag} {a:Addr} {xs:List V} (hn:xs.length<=1000000) (Pv:Nat->List V->Hp->Prop) (h0:Pv 0 [] (upd H p (.lst [])))
   (hl:∀i acc H2,i<=xs.length->Pv i acc H2->H2 p=some (.lst acc)/\acc.length<=i/\aK K H2 a xs)
   (hs:∀i x acc H2,xs[i]?=some x->Pv i acc H2->mU g tif te (cE js σ) p acc (Pv (i+1)) x H2) (hd:∀acc H2,Pv xs.length acc H2->Q (.ref p) H2) :
   gT (i4 K a) g tif te js σ Q p H:=by
 refine#[λi m acc H=>m=xs.length - i/\i<=xs.length/\Pv i acc H,#[xs.length,by simp,Hl _,h0],?_];rintro i m acc H2 ⟨rfl,hi,q⟩;obtain⟨q1,q2,q3⟩:=hl i acc H2 hi q;refine#[q1,?_];by_cases hlt:i<xs.length
 . refine .inr #[#[xs,xs[i],q3,by simp [hlt]],?_,Pv (i+1),λacc' H' p'=>#[xs.length - (i+1),by omega,rfl,hlt,p'],λx H' y=>?_]
   . have:(1000000:Nat)<sizeLine:=by decide
     omega
   . obtain⟨e,y⟩:=y;subst e;exact hs i x acc _ (y xs q3) q
 . have e:i=xs.length:=by omega
   subst e;exact .inl #[#[xs,q3,HN _],hd acc H2 q]
theorem vn {K:W.Frag} {a:Addr} {xs:List V} (hn:xs.length<=1000000) (Pv:Nat->List V->Hp->Prop) (h0:Pv 0 [] (upd H p (.lst [])))
   (hl:∀i acc H2,i<=xs.length->Pv i acc H2->H2 p=some (.lst acc)/\acc.length<=i/\aG K H2 a xs)
   (hs:∀i x acc H2,xs[i]?=some x->Pv i acc H2->mU g tif te (cE js σ) p acc (Pv (i+1)) x H2) (hd:∀acc H2,Pv xs.length acc H2->Q (.ref p) H2) :
   gT (iC K a) g tif te js σ Q p H:=by
 refine#[λi m acc H=>m=xs.length - i/\i<=xs.length/\Pv i acc H,#[xs.length,by simp,Hl _,h0],?_];rintro i m acc H2 ⟨rfl,hi,q⟩;obtain⟨q1,q2,q3⟩:=hl i acc H2 hi q;refine#[q1,?_];by_cases hlt:i<xs.length
 . refine .inr #[#[xs,xs[i],q3,by simp [hlt]],?_,Pv (i+1),λacc' H' p'=>#[xs.length - (i+1),by omega,rfl,hlt,p'],λx H' y=>?_]
   . have:(1000000:Nat)<sizeLine:=by decide
     omega
   . obtain⟨e,y⟩:=y;subst e;exact hs i x acc _ (y xs q3) q
 . have e:i=xs.length:=by omega
   subst e;exact .inl #[#[xs,q3,HN _],hd acc H2 q]
end
section
variable {X:Cx}
theorem DB {h:Heap} {sl:Addr} {vl vu:Value} {lo hi:Option Int} (hs:h.IsSliceOf sl vl vu .none) (pl:IsPart vl lo) (pu:IsPart vu hi):∃l u:Option (Int×Tok),l.map (·.1)=lo/\u.map (·.1)=hi/\h.IsSlice sl l u none:=by
 obtain⟨o,ho,hc,hd⟩:=hs;cases pl with
 | none =>
   cases pu with
   | none=>exact#[none,none,rfl,rfl,o,ho,hc,hd]
   | int j t=>exact#[none,some (j,t),rfl,rfl,o,ho,hc,hd]
 | int i t =>
   cases pu with
   | none=>exact#[some (i,t),none,rfl,rfl,o,ho,hc,hd]
   | int j t'=>exact#[some (i,t),some (j,t'),rfl,rfl,o,ho,hc,hd]
def Dy:V->Option Int->Option Int->Hp->VK->Prop:=λx lo hi H Q=>∃z,x=.str z/\z.length<=sizeLine/\Q (.str (Txt.slice z lo hi)) H
theorem uY:gA X Dy:=by
 intro pins s σ H x v vl vu lo hi sl Q I rx hs pl pu h;obtain⟨z,rfl,hz,q⟩:=h;obtain⟨t,rfl⟩:=rx;obtain⟨l,u,rfl,rfl,hsl⟩:=DB hs pl pu;refine#["str",_,F.slot_str_getitem.lookup,typeIs_str _ _ _,wpAny_getItem_str_slice (l:=l) (u:=u) (st:=none) hsl rfl
   (post_val_or_str #[Ht (Txt.slice_le z _ _) hz,λt' k=>#[.str (Txt.slice z (l.map (·.1)) (u.map (·.1))),H,I.tok _,#[_,rfl],q]])]
theorem E8 {ys:List Str}:∀{us:List Value},ax (ys.map V.str) us->StrsAre us ys:=by
 induction ys with
 | nil=>intro us h; cases h; exact .nil
 | cons y r ih =>
   intro us h;cases h with
   | cons r1 h =>
     obtain⟨t,rfl⟩:=r1;exact .cons y t (ih h)
def BC (K:W.Frag):V->List V->Hp->VK->Prop:=λx xs H Q=>∃sep p ys,x=.str sep/\xs=[.ref p]/\aK K H p (ys.map V.str)/\(ys.map (·.length)).sum+ys.length * sep.length<=16777216/\Q (.str (Txt.join sep ys)) H
theorem E5:mN X "str.join" (BC X.K):=by intro pins s σ H x xs v us Q I rx r h;obtain⟨sep,p,ys,rfl,rfl,hp,hl,q⟩:=h;obtain⟨t,rfl⟩:=rx;obtain⟨u,rfl,ru⟩:=gK r;cases (show u=Value.ref p from ru);obtain⟨its,rv,pl,hz⟩:=I.list hp;exact join_list pl.isList (by simpa using E8 rv) hl λt' k=>#[.str (Txt.join sep ys),H,I.tok _,#[_,rfl],q]
theorem mC:bx X (.builtin "isinstance") (λxs H Q=>∃x c t b,xs=[x,.ty c]/\TyOf X.K H x t/\PySem.W.kitOne X.K t (.type c)=some b/\Q (.bl b) H):=by intro pins s σ H xs us Q I r h;obtain⟨x,c,t,b,rfl,ty,hk,q⟩:=h;obtain⟨u,w',rfl,rx,rc⟩:=C6 r;cases (show w'=Value.type c from rc);exact zK I rx ty hk λtk=>#[.bl b,H,I.tok _,rfl,q]
end
def jl:Expr->Option V
 | .Constant (.str x) _ _=>some (.str x)
 | .Constant (.int i) _ _=>some (.int i)
 | .Constant (.bool b) _ _=>some (.bl b)
 | .Constant .none _ _=>some .non
 | _=>none
def li:List Expr->Option (List V)
 | []=>some []
 | e :: r=>match jl e,li r with
   | some v,some vs=>some (v :: vs)
   | _,_=>none
theorem Az {e:Expr} {v:V} (h:jl e=some v):PE X e (tC v):=by
 unfold jl at h;split at h
 . cases h; exact aQ
 . cases h; exact aD
 . cases h; exact d9
 . cases h; exact dX
 . cases h
theorem Fn {e:Expr} {es:List Expr} {v:V} (h:jl e=some v):starEach (e :: es) X.env=(false,eval e X.env) :: starEach es X.env:=by unfold jl at h;split at h <;> first|rfl|cases h
theorem vi {X:Cx}:∀{es:List Expr} {vs:List V},li es=some vs->PA X es (λ_ H Q=>Q vs H)
 | [],vs,h=>by cases h;exact aF
 | e :: r,vs,h=>by
   unfold li at h;split at h
   . rename_i v vs' h1 h2
     cases h;exact aH (Az h1) (vi h2) (Fn h1)
   . cases h
theorem aC.tup {K:W.Frag} {H H':Hp} {a:Addr} {xs:List V} (e:aC H H') (h:aG K H a xs):aG K H' a xs:=by
 rcases h with(h|⟨o,h⟩)|h
 . exact .inl (.inl (e _ _ h))
 . exact .inl (.inr #[o,e _ _ h])
 . exact .inr h
theorem aC.new {o:HO} (h:H p=none):aC H (upd H p o):=λb u e=>by rw[ay (cT e h)];exact e
theorem aC.upd {H':Hp}{o:HO} (e:aC H H') (h:H p=none):aC H (upd H' p o):=λb u q=>by rw[ay (cT q h)];exact e b u q
structure DefOk (K:W.Frag) (mg:Str->Option Value) (name:Str) (st:Stmt) (ps:List Str) (f:Addr) (fd:FuncData):Prop where
 F:Fun K name name st f fd
 g:mg name=some (.ref f)
 b:fB K fd ps []
section
variable {X:Cx} {k:Nat} {f:Addr} {fd:FuncData} {ps:List Str} {sp:Sp} {x:Str} {st:Stmt} {p pos:Pos} {e:Expr} {es:List Expr} {t:TA}
theorem bC (D:DefOk X.K X.mg x st ps f fd) (G:FnOk X.prog X.w X.K X.mg X.base CX0 k f fd ps sp) (hr:Room k X.A) (ha:PA X (e :: es) t) (hg:Gl X x:=by rfl)
   (hdb:(x==("__debug__":Str))=false:=by decide) (he:starEach (e :: es) X.env=(false,eval e X.env) :: starEach es X.env:=by rfl) (hpl:(backTo pos (starEach es X.env)).any (·.1)=false:=by rfl) :
   PE X (.Call (.Name x p) (e :: es) [] pos) (vR sp [] E0 t):=Ez G hr hg D.g D.F.kp D.b .nil ce ha hdb he hpl
theorem pC {z:Int} (h:∃t,X.mg x=some (.int z t)) (hg:Gl X x:=by rfl) (hd:(x==("__debug__":Str))=false:=by decide):PE X (.Name x pos) (tC (.int z)):=by obtain⟨t,h⟩:=h;exact tQ hg h #[t,rfl] hd
theorem gn {a:Addr} (h:X.mg x=some (.ref a)) (hg:Gl X x:=by rfl) (hd:(x==("__debug__":Str))=false:=by decide):PE X (.Name x pos) (tC (.ref a)):=tQ hg h rfl hd
end
theorem BF {K:W.Frag} {mg:Str->Option Value} {h:Heap} {name:Str} {st:Stmt} {ps:List Str} {f:Addr} {oc:Value} {od an:Option Addr} {osl:Array (Option Value)} {kV doc pm cdv ct:Value} (X:K.In h) (G:h.Ns mainGlobals mg)
   (a:PySem.W.nsIn K mainGlobals name=some (some (.ref f))) (l:K.lookup f=some #[oc,od,.func (PySem.W.fnOf name name (cx st) (bU st) (bD st) .none kV doc pm an cdv ct),osl]) (c:PySem.W.codeIn K cdv name=true) (k:PySem.W.keepIn K (.ref f)=true)
   (b:∀(kV doc pm:Value) (an:Option Addr) (cdv ct:Value) (us:List Value),us.length=ps.length->bindArgs (PySem.W.fnOf name name (cx st) (bU st) (bD st) .none kV doc pm an cdv ct) #[us,[]]=pure (ps.zip us)) :
   DefOk K mg name st ps f (PySem.W.fnOf name name (cx st) (bU st) (bD st) .none kV doc pm an cdv ct) :=
 #[im l c k,PySem.W.mg_of X G a,(im l c k).binds b]
theorem uC {α:Type} {xs:List α} {i:Int} (h0:0<=i) (h1:i<xs.length):∃v,bQ xs i=some v/\v∈xs:=by
 have hi:i.toNat<xs.length:=by omega
 refine#[xs[i.toNat],?_,IW hi];have:=bt (xs:=xs) (j:=i.toNat) (v:=xs[i.toNat]) (by simp [hi]);have e:((i.toNat:Nat):Int)=i:=by omega
 rwa [e] at this
theorem Ao {ns:List Int} {i:Int} (h0:0<=i) (h1:i<ns.length):∃z,bQ (ns.map V.int) i=some (.int z):=by obtain⟨v,e,hv⟩:=uC (xs:=ns.map V.int) h0 (by rw[HH]; exact h1);obtain⟨z,_,rfl⟩:=Hq.mp hv;exact#[z,e]
theorem bM {p:Prop} [Decidable p] (h:decide p=true):p:=Iq h
theorem aU {c A B:Prop} [Decidable c] (hc:c) (h:A):if c then A else B:=by rw[HR hc];exact h
theorem ak {c A B:Prop} [Decidable c] (hc:¬ c) (h:B):if c then A else B:=by rw[HI hc];exact h
end L2
namespace L2
open PySem
theorem cW:bootBuiltins "len"=some (.builtin "len"):=by decide +kernel
theorem mE:bootBuiltins "isinstance"=some (.builtin "isinstance"):=by decide +kernel
theorem pM:bootBuiltins "str"=some (.type "str"):=by decide +kernel
theorem mi:bootBuiltins "int"=some (.type "int"):=by decide +kernel
theorem Dq:bootBuiltins "bool"=some (.type "bool"):=by decide +kernel
theorem gp:bootBuiltins "list"=some (.type "list"):=by decide +kernel
theorem jK:bootBuiltins "tuple"=some (.type "tuple"):=by decide +kernel
theorem lH:bootBuiltins "dict"=some (.type "dict"):=by decide +kernel
theorem FI:bootBuiltins "enumerate"=some (.type "enumerate"):=by decide +kernel
theorem vI:bootBuiltins "zip"=some (.type "zip"):=by decide +kernel
theorem Gd {b:Bool} (h:b=false):¬ b=true:=by rw[h]; decide
end L2
namespace L2
open PySem PySem.Spec PyProof.Rows
mutual
def bH (K:W.Frag) (H:Hp):PyData->V->Prop
 | .none,v=>v=.non
 | .bool b,v=>v=.bl b
 | .int i,v=>v=.int i
 | .str x,v=>v=.str x
 | .list ds,v=>∃a xs,v=.ref a/\aK K H a xs/\bT K H ds xs
 | .tuple ds,v=>∃a xs,v=.ref a/\aG K H a xs/\bT K H ds xs
 | .dict _,_=>False
def bT (K:W.Frag) (H:Hp):List PyData->List V->Prop
 | [],xs=>xs=[]
 | d :: ds,xs=>∃x r,xs=x :: r/\bH K H d x/\bT K H ds r
end
section
variable {X:Cx} {pins:List (Addr×Obj)} {σ:St} {H:Hp} {s:Shared}
mutual
theorem jE (I:Inv X pins σ H s):∀(d:PyData) (v:V) (u:Value),bH X.K H d v->bF v u->∃as,Reads s.heap u d as
 | .none,v,u,h,r=>by unfold bH at h;subst h;cases (show u=Value.none from r);exact#[_,.none]
 | .bool b,v,u,h,r=>by unfold bH at h;subst h;cases (show u=Value.bool b from r);exact#[_,.bool b]
 | .int i,v,u,h,r=>by
   unfold bH at h;subst h;obtain⟨t,rfl⟩:=(show ∃t,u=Value.int i t from r)
   exact#[_,.int i t]
 | .str x,v,u,h,r=>by
   unfold bH at h;subst h;obtain⟨t,rfl⟩:=(show ∃t,u=Value.str x t from r)
   exact#[_,.str x t]
 | .list ds,v,u,h,r=>by unfold bH at h;obtain⟨a,xs,rfl,hq,hd⟩:=h;cases (show u=Value.ref a from r);obtain⟨its,rv,⟨o,n,ho,hc,_,hdt⟩,_⟩:=I.list hq;obtain⟨as,ra⟩:=qL I ds xs its hd rv;exact#[_,.list ho hc hdt (by simpa using ra)]
 | .tuple ds,v,u,h,r=>by unfold bH at h;obtain⟨a,xs,rfl,hq,hd⟩:=h;cases (show u=Value.ref a from r);obtain⟨its,rv,⟨o,ho,hc,n,hdt⟩,_⟩:=I.tuple hq;obtain⟨as,ra⟩:=qL I ds xs its hd rv;exact#[_,.tuple ho hc hdt (by simpa using ra)]
 | .dict _,v,u,h,r=>by unfold bH at h;exact h.elim
theorem qL (I:Inv X pins σ H s):∀(ds:List PyData) (xs:List V) (us:List Value),bT X.K H ds xs->ax xs us->∃as,ReadsAll s.heap us ds as
 | [],xs,us,h,r=>by unfold bT at h;subst h;cases r;exact#[_,.nil]
 | d :: ds,xs,us,h,r=>by
   unfold bT at h;obtain⟨x,rest,rfl,hd,hds⟩:=h;cases r with
   | cons r1 r2 =>
     obtain⟨as,ra⟩:=jE I d _ _ hd r1;obtain⟨bs,rb⟩:=qL I ds _ _ hds r2;exact#[_,.cons ra rb]
end
end
def jR (K:W.Frag):R2:=λx y H Q=>∃d e,bH K H d x/\bH K H e y/\SeqAt.shaped d=true/\SeqAt.shaped e=true/\Q (.bl (PyData.eqv d e)) H
def j2 (K:W.Frag):R2:=λx y H Q=>∃d e,bH K H d x/\bH K H e y/\SeqAt.shaped d=true/\SeqAt.shaped e=true/\Q (.bl (!PyData.eqv d e)) H
variable {X:Cx}
theorem nQ (hu:X.A.units+64<cLine):bW X (compareOp .Eq) (jR X.K):=by intro pins s σ H x y v u Q I rx ry h;obtain⟨d,e,hd,he,sd,se,q⟩:=h;obtain⟨as,ra⟩:=jE I d x v hd rx;obtain⟨bs,rb⟩:=jE I e y u he ry;exact SeqAt.compareEq_shaped ra rb sd se hu #[.bl _,H,I,rfl,q]
theorem gI (hu:X.A.units+64<cLine):bW X (compareOp .NotEq) (j2 X.K):=by intro pins s σ H x y v u Q I rx ry h;obtain⟨d,e,hd,he,sd,se,q⟩:=h;obtain⟨as,ra⟩:=jE I d x v hd rx;obtain⟨bs,rb⟩:=jE I e y u he ry;exact SeqAt.compareNe_shaped ra rb sd se hu #[.bl _,H,I,rfl,q]
theorem vT :bW X (binaryOp .FloorDiv) (rI (λ_ j=>0<j/\j<2 ^ 64) λi j=>.int (i / j)):=jh λi j _ _ _ _ _ hc q=>by
 have h1:(0:Int)<j:=hc.1;have h2:j<2 ^ 64:=hc.2;refine floordiv_int (by omega) (by rw[K3 i (by omega)]; exact q) (.inl (PyProof.noPylong_of_log2 ?_));have h0:j.natAbs≠0:=by omega
 refine Nat.lt_trans (m:=64) ((Nat.log2_lt h0).mpr ?_) (by decide);have:(2:Int) ^ 64=((2 ^ 64:Nat):Int):=by decide
 omega
section
variable {κ:Type} [DecidableEq κ]
def bR (kvs:List (κ×V)) (k:κ):Option V:=(kvs.find? λkv=>decide (kv.1=k)).map (·.2)
def az (kvs:List (κ×V)) (k:κ) (v:V):List (κ×V) :=
 if(kvs.any λkv=>decide (kv.1=k))=true then kvs.map (λkv=>if kv.1=k then(kv.1,v) else kv) else kvs++[(k,v)]
theorem eZ {p:κ×V} {r:List (κ×V)} {k:κ} (e:p.1=k):bR (p :: r) k=some p.2:=by simp [bR,JC,e]
theorem eo {p:κ×V} {r:List (κ×V)} {k:κ} (e:¬ p.1=k):bR (p :: r) k=bR r k:=by simp [bR,JC,e]
theorem iK (k:κ):∀kvs:List (κ×V),(kvs.any λkv=>decide (kv.1=k))=(bR kvs k).isSome
 | []=>rfl
 | p :: r=>by
   rw[Jf];by_cases e:p.1=k
   . simp only[eZ e,HK e,Bool.true_or,Option.isSome_some]
   . rw[eo e,Hd e,Bool.false_or]; exact iK k r
theorem ui (k j:κ) (y:V):∀kvs:List (κ×V),bR (kvs.map λkv=>if kv.1=k then(kv.1,y) else kv) j=(bR kvs j).map λx=>if j=k then y else x
 | []=>rfl
 | p :: r=>by
   have ih:=ui k j y r;rw[Ho];by_cases h:p.1=k
   . rw[HR h];by_cases e:p.1=j
     . rw[eZ (p:=(p.1,y)) e,eZ e,Jl,HR (e.symm.trans h)]
     . rw[eo (p:=(p.1,y)) e,eo e,ih]
   . rw[HI h];by_cases e:p.1=j
     . rw[eZ (p:=p) e,eZ e,Jl,HI (λz=>h (e.trans z))]
     . rw[eo (p:=p) e,eo e,ih]
theorem pc (k j:κ) (y:V):∀kvs:List (κ×V),bR kvs k=none->bR (kvs++[(k,y)]) j=if j=k then some y else bR kvs j
 | [],_=>by
   by_cases e:k=j
   . rw[HR e.symm]; exact eZ (p:=(k,y)) e
   . rw[HI (λz=>e z.symm)]; exact eo (p:=(k,y)) e
 | p :: r,hn=>by
   rw[List.cons_append];have hk:¬ p.1=k:=λz=>by rw[eZ z] at hn; cases hn
   rw[eo hk] at hn;have ih:=pc k j y r hn;by_cases e:p.1=j
   . rw[eZ e,eZ e,HI (λz=>hk (e.trans z))]
   . rw[eo e,eo e,ih]
theorem valV_put (kvs:List (κ×V)) (k j:κ) (y:V):bR (az kvs k y) j=if j=k then some y else bR kvs j:=by
 unfold az;by_cases a:(kvs.any λkv=>decide (kv.1=k))=true
 . rw[HR a,ui];rw[iK] at a;by_cases e:j=k
   . obtain⟨x,hx⟩:=JO.mp a;rw[HR e,e,hx,Jl,HR rfl]
   . rw[HI e];cases bR kvs j with
     | none=>rfl
     | some x=>rw[Jl,HI e]
 . rw[HI a];refine pc k j y kvs ?_;rw[iK] at a;cases q:bR kvs k with
   | none=>rfl
   | some x=>rw[q] at a; exact(a rfl).elim
theorem dP (kvs:List (κ×V)) (k:κ) (v:V):(az kvs k v).length<=kvs.length+1:=by
 unfold az;split
 . rw[HH]; omega
 . rw[HU,Hh,IQ]; omega
theorem nU {kvs:List (κ×V)} {k:κ} (v:V) (h:bR kvs k=none):az kvs k v=kvs++[(k,v)]:=by unfold az;rw[iK,h];exact HI (by decide)
theorem d7.isSome_eq {o:Option V} {u:Option Value} (r:d7 o u):o.isSome=u.isSome:=by
 cases o with
 | none=>cases u with
   | none=>rfl
   | some _=>exact(show False from r).elim
 | some _=>cases u with
   | none=>exact(show False from r).elim
   | some _=>rfl
theorem d7.getD {o:Option V} {u:Option Value} {d:V} {d':Value} (r:d7 o u) (rd:bF d d'):bF (o.getD d) (u.getD d'):=by
 cases o with
 | none=>cases u with
   | none=>exact rd
   | some _=>exact(show False from r).elim
 | some _=>cases u with
   | none=>exact(show False from r).elim
   | some _=>exact r
theorem KV.val {kvs:List (κ×V)} {vs:List (κ×Value)} (r:KV kvs vs) (k:κ):d7 (bR kvs k) (valueAt vs k):=by
 unfold KV at r
 induction r with
 | nil=>exact True.intro
 | @cons p q ps qs h t ih =>
   obtain⟨h1,h2⟩:=h;by_cases e:p.1=k
   . have e':q.1=k:=h1.symm.trans e;have b:valueAt (q :: qs) k=some q.2:=by simp [valueAt,JC,e']
     rw[eZ e,b]; exact h2
   . have e':¬ q.1=k:=λz=>e (h1.trans z);have b:valueAt (q :: qs) k=valueAt qs k:=by simp [valueAt,JC,e']
     rw[eo e,b]; exact ih
theorem KV.any {kvs:List (κ×V)} {vs:List (κ×Value)} (r:KV kvs vs) (k:κ):(kvs.any λkv=>decide (kv.1=k))=vs.any λkv=>decide (kv.1=k):=by
 unfold KV at r
 induction r with
 | nil=>rfl
 | cons h t ih=>rw[Jf,Jf,ih,h.1]
variable {u:Value} {y:V}
theorem KV.repl {kvs:List (κ×V)} {vs:List (κ×Value)} (r:KV kvs vs) (k:κ) (ry:bF y u) :
   KV (kvs.map λkv=>if kv.1=k then(kv.1,y) else kv) (vs.map λkv=>if kv.1=k then(kv.1,u) else kv):=by
 unfold KV at r ⊢
 induction r with
 | nil=>exact .nil
 | @cons p q ps qs h t ih =>
   rw[Ho,Ho];refine .cons ?_ ih;obtain⟨h1,h2⟩:=h;by_cases e:p.1=k
   . rw[HR e,HR (h1.symm.trans e)]; exact#[h1,ry]
   . rw[HI e,HI (λz=>e (h1.trans z))]; exact#[h1,h2]
theorem KV.put {kvs:List (κ×V)} {vs:List (κ×Value)} (r:KV kvs vs) (k:κ) (ry:bF y u):KV (az kvs k y) (stored vs k u):=by
 unfold az stored;rw[r.any k];by_cases e:(vs.any λkv=>decide (kv.1=k))=true
 . rw[HR e,HR e]; exact r.repl k ry
 . rw[HI e,HI e]; exact Paired.snoc r #[rfl,ry]
theorem KV.length {kvs:List (κ×V)} {vs:List (κ×Value)} (r:KV kvs vs):kvs.length=vs.length:=Paired.length r
end
variable {w:World}
theorem gf {P:Program} {k:aO} (r:bF (kV k) u):(cK P w).is k u=true:=by
 cases k with
 | inl i=>obtain⟨t,e⟩:=(show ∃t,u=Value.int i t from r); subst e; exact Ep P w i t
 | inr x=>obtain⟨t,e⟩:=(show ∃t,u=Value.str x t from r); subst e; exact ET P w x t
theorem rZ {P:Program} {w:World}:∀{ks:List aO} {us:List Value},ax (ks.map kV) us->ItemsAre (cK P w) ks us
 | [],_,r=>by rw[JF] at r; cases r; exact .nil
 | k :: ks,_,r=>by
   rw[Ho] at r;cases r with
   | cons h t=>exact .cons (gf h) (rZ t)
abbrev KT (H:Hp):List (List aO×V)->List (List aO×Addr×Value)->Prop:=Paired λp q=>p.1=q.1/\H q.2.1=some (.tup (p.1.map kV))/\bF p.2 q.2.2
variable {H:Hp}
theorem KT.val {kvs:List (List aO×V)} {xs:List (List aO×Addr×Value)} (r:KT H kvs xs) (k:List aO):d7 (bR kvs k) ((atKey xs k).map (·.2)):=by
 induction r with
 | nil=>exact True.intro
 | @cons p q ps qs h t ih =>
   obtain⟨h1,_,h2⟩:=h;by_cases e:p.1=k
   . have e':q.1=k:=h1.symm.trans e;have b:atKey (q :: qs) k=some q.2:=by simp [atKey,JC,e']
     rw[eZ e,b]; exact h2
   . have e':¬ q.1=k:=λz=>e (h1.trans z);have b:atKey (q :: qs) k=atKey qs k:=by simp [atKey,JC,e']
     rw[eo e,b]; exact ih
theorem KT.repl {kvs:List (List aO×V)} {xs:List (List aO×Addr×Value)} (r:KT H kvs xs) (k:List aO) (ry:bF y u) :
   KT H (kvs.map λkv=>if kv.1=k then(kv.1,y) else kv) (xs.map (putAt k u)):=by
 induction r with
 | nil=>exact .nil
 | @cons p q ps qs h t ih =>
   rw[Ho,Ho];refine .cons ?_ ih;obtain⟨h1,h2,h3⟩:=h;unfold putAt;by_cases e:p.1=k
   . rw[HR e,HR (h1.symm.trans e)]; exact#[h1,h2,ry]
   . rw[HI e,HI (λz=>e (h1.trans z))]; exact#[h1,h2,h3]
theorem KT.put {kvs:List (List aO×V)} {xs:List (List aO×Addr×Value)} (r:KT H kvs xs) (k:List aO) {b:Addr} (hb:H b=some (.tup (k.map kV))) (ry:bF y u) :
   KT H (az kvs k y) (storedH xs k b u):=by
 have e:(kvs.any λkv=>decide (kv.1=k))=(atKey xs k).isSome:=by rw[iK,(r.val k).isSome_eq,Option.isSome_map]
 unfold az storedH;rw[e];by_cases q:(atKey xs k).isSome=true
 . rw[HR q,HR q]; exact r.repl k ry
 . rw[HI q,HI q]; exact Paired.snoc r #[rfl,hb,ry]
variable {H':Hp}
theorem KT.keeps {kvs:List (List aO×V)} {xs:List (List aO×Addr×Value)} (r:KT H kvs xs) (ht:∀b ys,H b=some (.tup ys)->H' b=some (.tup ys)):KT H' kvs xs :=
 Paired.mapP r λ_ _ z=>#[z.1,ht _ _ z.2.1,z.2.2]
section
variable {P:Program} {w:World} {H:Hp} {h:Heap} {a:Addr}
theorem tP {u:HO} (ok:cC P w H h) (e:Rd H a u):cJ P w H h a u:=e.ok ok
theorem ic {kvs:List (aO×V)} (ok:cC P w H h) (e:Rd H a (.dK kvs)):kvs.length<=sizeLine/\(a==sysModules)=false/\∃vs,KV kvs vs/\h.DictOf (cK P w) a vs :=
 show cJ P w H h a (.dK kvs) from tP ok e
theorem jn {kvs:List (aO×V)} (ok:cC P w H h) (e:H a=some (.dK kvs)):kvs.length<=sizeLine/\(a==sysModules)=false/\∃vs,KV kvs vs/\h.DictOf (cK P w) a vs:=ic ok (.inl e)
theorem jT {ks:List aO} (ok:cC P w H h) (e:H a=some (.tup (ks.map kV))):(tupleKind (cK P w)).is h ks a:=by
 obtain⟨_,its,r,o,h1,h2,n,h3⟩:=(show cJ P w H h a (.tup (ks.map kV)) from ok a _ e)
 exact#[o,its.toArray,n,h1,h2,h3,by simpa using rZ r]
theorem il {kvs:List (List aO×V)} (ok:cC P w H h) (e:Rd H a (.dT kvs)):kvs.length<=sizeLine/\(a==sysModules)=false /\
   ∃xs,KT H kvs xs/\h.DictOfH (tupleKind (cK P w)) a xs:=by
 obtain⟨z,y,xs,r,o,es,ep,h1,h2,h3,h4,h5⟩:=(show cJ P w H h a (.dT kvs) from tP ok e)
 refine#[z,y,xs,r,o,es,ep,h1,h2,h3,h4,λx hx=>?_,h5];have all:∀{l:List (List aO×V)} {m:List (List aO×Addr×Value)},KT H l m->∀x∈m,(tupleKind (cK P w)).is h x.1 x.2.1:=by
   intro l m q
   induction q with
   | nil=>intro x hx; exact nomatch hx
   | @cons p q ps qs hq t ih =>
     intro x hx;rcases HV.mp hx with e|hx
     . subst e;exact jT ok (by rw[<- hq.1]; exact hq.2.1)
     . exact ih x hx
 exact all r x hx
theorem Gh {kvs:List (List aO×V)} (ok:cC P w H h) (e:H a=some (.dT kvs)):kvs.length<=sizeLine/\(a==sysModules)=false /\
   ∃xs,KT H kvs xs/\h.DictOfH (tupleKind (cK P w)) a xs:=il ok (.inl e)
end
def cz (H:Hp) (a:Addr) (y:V) (r:Option V):Prop :=
 (∃kvs k,Rd H a (.dK kvs)/\y=kV k/\r=bR kvs k)\/∃kvs k b,Rd H a (.dT kvs)/\y=.ref b/\H b=some (.tup (k.map kV))/\r=bR kvs k
def dj (H:Hp) (a:Addr) (y v:V) (H':Hp):Prop :=
 (∃kvs k,H a=some (.dK kvs)/\y=kV k/\kvs.length<sizeLine/\H'=upd H a (.dK (az kvs k v))) \/
 ∃kvs k b,H a=some (.dT kvs)/\y=.ref b/\H b=some (.tup (k.map kV))/\kvs.length<sizeLine/\H'=upd H a (.dT (az kvs k v))
theorem cz.k {H:Hp} {a:Addr} {kvs:List (aO×V)} {k:aO} (e:H a=some (.dK kvs)):cz H a (kV k) (bR kvs k):=.inl #[kvs,k,.inl e,rfl,rfl]
theorem dj.k {H:Hp} {a:Addr} {kvs:List (aO×V)} {k:aO} {v:V} (e:H a=some (.dK kvs)) (hl:kvs.length<sizeLine):dj H a (kV k) v (upd H a (.dK (az kvs k v))):=.inl #[kvs,k,e,rfl,hl,rfl]
section
variable {X:Cx} {pins:List (Addr×Obj)} {σ:St} {H:Hp} {s:Shared} {a:Addr} {y v:V} {u r:Value} {o:Option V} {A:Around} {E:Value->Shared->Prop}
theorem Inv.big (I:Inv X pins σ H s):sysModules<s.heap.objs.size:=by have h:mainGlobals<s.heap.objs.size:=(I.mod.glob.keeps I.bk).lt;exact Nat.lt_trans (by decide) h
theorem Gb {Q:Value->Shared->Prop} (hu:A.units+1<cLine) (I:Inv X pins σ H s) (g:cz H a y (some v)) (ry:bF y u) (h:∀w' s',Inv X pins σ H s'->bF v w'->Q w' s') :
   wpAny (model X.prog X.w) A (getItem (.ref a) u) Q E s:=by
 rcases g with⟨kvs,k,e,ey,l⟩|⟨kvs,k,b,e,ey,eb,l⟩
 . subst ey;obtain⟨z,hd,vs,rel,dd⟩:=ic I.hok e;obtain⟨w',hw,rw'⟩:=d7.some_of (v:=v) (o:=valueAt vs k) (by rw[l]; exact rel.val k);exact wpAny_getItem_of (gf ry) dd.mapOf hw (h w' _ (I.tok _) rw')
 . subst ey;cases (show u=Value.ref b from ry);obtain⟨z,hd,xs,rel,dd⟩:=il I.hok e;obtain⟨w',hw,rw'⟩:=d7.some_of (v:=v) (o:=(atKey xs k).map (·.2)) (by rw[l]; exact rel.val k);obtain⟨p,hp,hp2⟩:=Ic.mp hw;refine wpAny_getItem_heap (tupleKind_room_in1 hu) (jT I.hok eb) dd hp ?_;rw[hp2];exact h w' _ (I.tok _) rw'
theorem FJ {Q:Value->Shared->Prop} (hu:A.units+1<cLine) (I:Inv X pins σ H s) (g:cz H a y o) (ry:bF y u) (h:∀s',Inv X pins σ H s'->Q (.bool o.isSome) s') :
   wpAny (model X.prog X.w) A (compareOp .In u (.ref a)) Q E s:=by
 rcases g with⟨kvs,k,e,ey,l⟩|⟨kvs,k,b,e,ey,eb,l⟩
 . subst ey;obtain⟨z,hd,vs,rel,dd⟩:=ic I.hok e;refine wpAny_in_of (gf ry) hd dd.mapOf ?_;rw[<- (rel.val k).isSome_eq,<- l];exact h _ (I.tok _)
 . subst ey;cases (show u=Value.ref b from ry);obtain⟨z,hd,xs,rel,dd⟩:=il I.hok e;refine wpAny_in_heap (tupleKind_room_in1 hu) (jT I.hok eb) hd dd ?_;have q:=(rel.val k).isSome_eq;rw[Option.isSome_map] at q;rw[<- q,<- l];exact h _ (I.tok _)
theorem k9 {h':Heap} {t':Nat} {ob:HO} (I:Inv X pins σ H s) (mu:jG (H a)) (hs:Heap.SameBut a s.heap h') (he:∃q,h'.get? a=some q) (new:cJ X.prog X.w (upd H a ob) h' a ob) :
   Inv X pins σ (upd H a ob) { s with heap:=h',toks:=t' } :=
 I.write (x:=a) (e:=a) mu (.inl rfl) (λb q hb z=>(hs.2 b hb).trans z) he new
theorem lL {P:Program} {h':Heap} {kvs:List (aO×V)} {vs:List (aO×Value)} (z:kvs.length<=sizeLine) (hd:(a==sysModules)=false) (rel:KV kvs vs) (dd:h'.DictOf (cK P w) a vs) :
   cJ P w H' h' a (.dK kvs):=#[z,hd,vs,rel,dd]
theorem CQ {Q:Unit->Shared->Prop} (hu:A.units+1<cLine) (I:Inv X pins σ H s) (g:dj H a y v H') (ry:bF y u) (rv:bF v r) (h:∀s',Inv X pins σ H' s'->Q () s') :
   wpAny (model X.prog X.w) A (setItem (.ref a) u r) Q E s:=by
 rcases g with⟨kvs,k,e,ey,l,eH⟩|⟨kvs,k,b,e,ey,eb,l,eH⟩
 . subst ey eH;obtain⟨z,hd,vs,rel,dd⟩:=jn I.hok e;have hz:vs.length<=sizeLine:=by rw[<- rel.length]; exact z
   have hl:(az kvs k v).length<=sizeLine:=by have:=dP kvs k v; omega
   refine wpAny_setItem_pairs (hsz:=hz) (gf ry) dd λh' dd' hs=>h _ ?_;have he:∃q,h'.get? a=some q:=let ⟨q,_,_,hq,_⟩:=dd'; #[q,hq]
   exact k9 I (by rw[e]; exact True.intro) hs he (lL hl hd (rel.put k rv) dd')
 . subst ey eH;cases (show u=Value.ref b from ry);obtain⟨z,hd,xs,rel,dd⟩:=Gh I.hok e;have hz:xs.length<=sizeLine:=by rw[<- Paired.length rel]; exact z
   have hl:(az kvs k v).length<=sizeLine:=by have:=dP kvs k v; omega
   refine wpAny_setItem_heap (hsz:=hz) (tupleKind_room_in1 hu) (jT I.hok eb) dd λh' dd' hs=>h _ ?_;obtain⟨q,es,ep,hq,h2,h3,h4,_,h5⟩:=dd';refine k9 I (by rw[e]; exact True.intro) hs #[q,hq] #[hl,hd,_,(rel.put k eb rv).keeps λc ys ec=>?_,q,es,ep,hq,h2,h3,h4,h5];rw[ay (fJ ec e (λz=>nomatch z))];exact ec
end
def vy (i:Expr):Prop:=∀ov iv,subscripted i false ov iv=operate [ov,iv] (getItem ov iv)
theorem FB {prog:Program} {A:Around} {E:Value->Shared->Prop} {s:Shared} {env:Env} {value slice:Expr} {pos:Pos} {T id:String} {Q:Value->Shared->Prop}
   (hl:typeLookup (.type T) "__getitem__"=pure (some (.builtin id))) (hs:vy slice)
   (h:wpAny (model prog w) A (eval value env) (λo s₁=>wpAny (model prog w) A (eval slice env) (λi s₂=>s₂.TypeIs o T/\wpAny (model prog w) A (getItem o i) Q E s₂) E s₁) E s) :
   wpAny (model prog w) A (eval (.Subscript value slice pos) env) Q E s:=by
 refine Subscript_ (JS h (λo s₁ h₁=>JS h₁ (λi s₂ h₂=>?_) λ_ _ x=>x) λ_ _ x=>x);obtain⟨hT,h₂⟩:=h₂;unfold subscriptTail;refine HG ?_;rw[getitemInPython_of_ne hT.not_modules];refine HG (wpAny_specialOf hT hl ?_);have fin:wpAny (model prog w) A (subscripted slice false o i) (λr s₃=>wpAny (model prog w) A (letTemporaryGo value o r >>= λ_=>pure r) Q E s₃) E s₂:=by rw[hs o i];exact wpAny_operating (JS h₂ (λr s₃ h₃=>HG (wpAny_letTemporaryGo (HQ h₃))) λ_ _ x=>x)
 first
   | exact HQ (HG fin)
   | exact HG (HQ (HG fin))
   | exact HG fin
theorem DX {pins:List (Addr×Obj)} {σ:St} {s:Shared} {a:Addr} {o:Option V} (I:Inv X pins σ H s) (g:cz H a y o):s.TypeIs (.ref a) "dict":=by
 rcases g with⟨kvs,k,e,_,_⟩|⟨kvs,k,b,e,_,_,_⟩
 . obtain⟨_,_,vs,_,dd⟩:=ic I.hok e;exact dd.typeIs
 . obtain⟨_,_,xs,_,dd⟩:=il I.hok e;exact dd.typeIs
def C7 (td ty:TE):TE:=λσ H Q=>td σ H λx H1=>ty σ H1 λy H2=>∃a v,x=.ref a/\cz H2 a y (some v)/\Q v H2
def DC (ty td:TE):TE:=λσ H Q=>ty σ H λy H1=>td σ H1 λx H2=>∃a o,x=.ref a/\cz H2 a y o/\Q (.bl o.isSome) H2
def ER (td ty tv:TE):TS:=λD σ H=>tv σ H λv H1=>td σ H1 λx H2=>ty σ H2 λy H3=>∃a H4,x=.ref a/\dj H3 a y v H4/\D.nx σ H4
section
variable {X:Cx} {o i e value:Expr} {pos pos' tpos:Pos} {td ty tv:TE}
theorem fW (hu:X.A.units+1<cLine) (ho:PE X o td) (hi:PE X i ty) (hs:vy i):PE X (.Subscript o i pos) (C7 td ty):=by intro pins s σ H Q I h;refine FB PySem.F.slot_dict_getitem.lookup hs (aq (ho pins s σ H _ I h) λu s1 ⟨x,H1,I1,rx,q1⟩=>aq (hi pins s1 σ H1 _ I1 q1) λiv s2 ⟨y,H2,I2,ry,a,v,ex,g,q2⟩=>?_);subst ex;obtain rfl:u=Value.ref a:=rx;exact#[DX I2 g,Gb hu I2 g ry λw' s3 I3 rw'=>#[v,H2,I3,rw',q2]]
theorem EZ (hu:X.A.units+1<cLine) (hi:PE X i ty) (ho:PE X o td):PC X .In i o (DC ty td):=by intro pins s σ H Q I h;refine aq (hi pins s σ H _ I h) λiv s1 ⟨y,H1,I1,ry,q1⟩=>aq (ho pins s1 σ H1 _ I1 q1) λu s2 ⟨x,H2,I2,rx,a,ov,ex,g,q2⟩=>?_;subst ex;obtain rfl:u=Value.ref a:=rx;exact FJ hu I2 g ry λs3 I3=>#[.bl ov.isSome,H2,I3,rfl,q2]
theorem eQ (hu:X.A.units+1<cLine) (ho:PE X o td) (hi:PE X i ty) (hv:PE X value tv) (hs:swapsWith value (some (.Subscript o i pos')) pos.line X.env=pure false) :
   PS X (.Assign [.Subscript o i pos'] value pos) (ER td ty tv):=by
 intro pins s σ H D I h;refine wpAny_Assign_Subscript (aq (hv pins s σ H _ I h) λr s1 ⟨v,H1,I1,rv,q1⟩=>aq (ho pins s1 σ H1 _ I1 q1) λu s2 ⟨x,H2,I2,rx,q2⟩=>aq (hi pins s2 σ H2 _ I2 q2) λiv s3 ⟨y,H3,I3,ry,a,H4,ex,g,q3⟩=>?_) hs;subst ex;obtain rfl:u=Value.ref a:=rx;exact CQ hu I3 g ry rv λs4 I4=>#[σ,H4,I4,q3]
end
theorem om {P:Program} (h:Heap) (hb:sysModules<h.objs.size):cJ P w H (h.push { cls:=.type "dict",data:=.dict (List.toArray []) }) h.objs.size (.dK []) :=
 #[Hl _,beq_eq_false_iff_ne.mpr (Ne.symm (Hw hb)),[],.nil,Heap.DictOf.new h]
def Gv:TE:=λ_ H Q=>∀p,H p=none->Q (.ref p) (upd H p (.dK []))
section
variable {X:Cx} {pos:Pos}
theorem g7:PE X (.Dict [] [] pos) Gv:=λpins s σ H Q I h =>
 wpAny_Dict_empty #[.ref s.heap.objs.size,_,I.laid (a:=s.heap.objs.size) (o:=.dK []) (t':=s.toks) (λ_ _ q=>HJ _ q) (HN _) (om s.heap I.big),rfl,h _ (I.hok.fresh (HN _))]
end
structure M2 (X:Cx) (o:Expr) (m:Str) (apos:Pos) (e f:Expr) (cpos:Pos):Prop where
 base:attributeBase o m X.env (eval o X.env)=eval o X.env
 few:((backTo cpos (starEach [e,f] X.env)).all (λx=>!x.1)&&(backToKw cpos (keywordEach [] X.env)).all (λx=>x.1.isSome)
   && decide (([e,f]:List Expr).length+([]:List Keyword).length+(if([]:List Keyword).isEmpty then 0 else 1)<30))=true
 line:(apos.endLine==cpos.line)=true
 trees:backTo cpos (starEach [e,f] X.env)=[(false,eval e X.env),(false,eval f X.env)]
def qe (H:Hp) (a:Addr):Prop:=(∃kvs,Rd H a (.dK kvs))\/∃kvs,Rd H a (.dT kvs)
theorem uG {pins:List (Addr×Obj)} {σ:St} {s:Shared} {a:Addr} (I:Inv X pins σ H s) (d:qe H a) :
   s.TypeIs (.ref a) "dict"/\(∀b,Value.ref a=.ref b->∃ob,s.heap.get? b=some ob/\ob.dict=none)/\(a==sysModules)=false:=by
 rcases d with⟨kvs,e⟩|⟨kvs,e⟩
 . obtain⟨_,hd,vs,_,dd⟩:=ic I.hok e;refine#[dd.typeIs,λb q=>?_,hd];cases q;obtain⟨ob,_,_,h1,h2,_⟩:=dd;exact#[ob,h1,h2.2.1]
 . obtain⟨_,hd,xs,_,dd⟩:=il I.hok e;refine#[dd.typeIs,λb q=>?_,hd];cases q;obtain⟨ob,_,_,h1,h2,_⟩:=dd;exact#[ob,h1,h2.2.1]
section
variable {X:Cx} {pins:List (Addr×Obj)} {σ:St} {H:Hp} {s:Shared} {a:Addr} {y d:V} {u r:Value} {o:Option V} {A:Around} {E:Value->Shared->Prop}
theorem Dt {Q:Value->Shared->Prop} (hu:A.units+1<cLine) (I:Inv X pins σ H s) (g:cz H a y o) (ry:bF y u) (rd:bF d r) (h:∀w' s',Inv X pins σ H s'->bF (o.getD d) w'->Q w' s') :
   wpAny (model X.prog X.w) A (call (.builtin "dict.get") [.ref a,u,r]) Q E s:=by
 rcases g with⟨kvs,k,e,ey,l⟩|⟨kvs,k,b,e,ey,eb,l⟩
 . subst ey;obtain⟨z,hd,vs,rel,dd⟩:=ic I.hok e;refine call_meetsIn Ji dd.typeIs PySem.F.entry_dict_get (KO _ _ _) (meets_dict_get_default (cK X.prog X.w) a (gf ry) hd r) #[_,dd.mapOf,h _ _ (I.tok _) ?_];rw[l];exact(rel.val k).getD rd
 . subst ey;cases (show u=Value.ref b from ry);obtain⟨z,hd,xs,rel,dd⟩:=il I.hok e;refine call_meetsIn Ji dd.typeIs PySem.F.entry_dict_get (KO _ _ _) (meetsH_dict_get_default (tupleKind (cK X.prog X.w)) a b hd r) #[tupleKind_room_in1 hu,k,xs,jT I.hok eb,dd,h _ _ (I.tok _) ?_];rw[l];exact(rel.val k).getD rd
end
def Bx (td ty tx:TE):TE:=λσ H Q=>td σ H λx H1=>∃a,x=.ref a/\qe H1 a/\ty σ H1 λy H2=>tx σ H2 λz H3=>∃o,cz H3 a y o/\Q (o.getD z) H3
section
variable {X:Cx} {o e f:Expr} {apos cpos:Pos} {td ty tx:TE}
theorem oP (hu:X.A.units+1<cLine) (ho:PE X o td) (he:PE X e ty) (hf:PE X f tx) (m:M2 X o "get" apos e f cpos):PE X (.Call (.Attribute o "get" apos) [e,f] [] cpos) (Bx td ty tx):=by
 intro pins s σ H Q I h;refine wpAny_Call_method m.base m.few m.line JU Ji PySem.F.type_dict_get (aq (ho pins s σ H _ I h) λu s1 ⟨x,H1,I1,rx,a,ex,d,q1⟩=>?_);subst ex;obtain rfl:u=Value.ref a:=rx;obtain⟨t1,t2,_⟩:=uG I1 d;refine#[t1,t2,?_];rw[m.trees];refine Calls.callWith_builtin rfl (Calls.evalArgs_plain (Calls.spliced_cons (aq (he pins s1 σ H1 _ I1 q1) λiv s2 ⟨y,H2,I2,ry,q2⟩ =>
   Calls.spliced_cons (aq (hf pins s2 σ H2 _ I2 q2) λfv s3 ⟨z,H3,I3,rz,ov,g,q3⟩=>Calls.spliced_nil ?_))))
 exact Dt hu I3 g ry rz λw' s4 I4 rw'=>#[_,H3,I4,rw',q3]
end
end L2
namespace PySem
theorem Fw:typeLookup (.type "list") "keys"=pure none:=by rw[typeLookup_type,builtinLookup_eq_fast]; kernel_rfl
theorem kU:entryFor table "dict.update.loop"=some Builtin.«dict.update.loop»:=entryFor_of_tree (by kernel_rfl)
theorem gc:plainId "dict.update.loop"=true:=by decide +kernel
theorem Aj {prog:Program} {w:World} {A:Around} {E:Value->Shared->Prop} {s:Shared} {a:Addr} {o:Obj} {xs:Array Value} {k:Nat} {Q:Option Value->Shared->Prop}
   (hx:s.heap.get? a=some o) (hc:o.cls=.type "list") (hdat:o.data=.seq xs k) (hd:o.dict=none) (hA:A.handled=none)
   (h:∀h' tk,(∀b ob,s.heap.get? b=some ob->h'.get? b=some ob)->Q none { s with heap:=h',toks:=tk }) :
   wpAny (model prog w) A (getAttr? (.ref a) "keys") Q E s:=by
 obtain⟨c,dct,dat,sl⟩:=o;simp only at hc hdat hd;subst hc hdat hd;obtain⟨hp,g,d,tk,os⟩:=s;have hT:∀tk',(⟨hp,g,d,tk',os⟩:Shared).TypeIs (.ref a) "list":=λ_=>#[_,hx,rfl]
 have f1:=sub_AttributeError;have f3:=JR.lookup;have f4:=JR.bind (.ref a);have f5:=am_list_getattr_none;unfold getAttr? getAttrBy? getAttrBy
 repeat (any_goals (first|assumption|exact hT _|((with_reducible show wpAny _ _ (call (Value.builtin "list.__getattribute__") _ _) _ _ _); refine call_meets JR (hT _) am_entry_list_getattribute (F.args_list_getattribute_2 _ _) (meets_getattribute_miss_list a xs k sl "keys" _ Fw (by decide +kernel) (by decide +kernel)) #[hx,hA,λh' tk' e hx'=>?_])|wp_step))
 obtain⟨t',u',he⟩:=hx'.there
 try (show wpAny _ _ (getattributeRaised _ _ _ _ _ _ _) _ _ _)
 try unfold getattributeRaised
 repeat (any_goals (first|assumption|wp_step))
 all_goals (first|exact h _ _ hx'.keeps|trace_state)
end PySem
namespace L2
open PySem PySem.Spec PyProof.Rows
section
variable {X:Cx} {pins:List (Addr×Obj)} {σ:St} {H:Hp}
theorem l8 {α β:Type} {F:α->β->Prop}:∀{l:List α} {m:List β},Paired F l m->∀{i:Nat} (h1:i<l.length) (h2:i<m.length),F l[i] m[i]
 | _,_,.cons h _,0,_,_=>h
 | _,_,.cons _ t,i+1,h1,h2=>by have:=l8 t (i:=i) (by simpa using h1) (by simpa using h2);simpa using this
theorem F0 {A:Around} {R:Result->Shared->Prop} {p D it:Addr} {ps:List Addr} {kvs:List (aO×V)} (hA:A.handled=none) (hpD:p≠D) (hS:aK X.K H p (ps.map V.ref)) (hps:Paired (λa (kv:aO×V)=>aG X.K H a [kV kv.1,kv.2]) ps kvs)
   (hD:H D=none) (hz:kvs.length<=100000) (hit0:it≠D)
   (hR:∀s',Inv X pins σ (upd H D (.dK (kvs.foldl (λacc kv=>az acc kv.1 kv.2) []))) s'->R (.ok (.ret .none)) s') :
   ∀(k i:Nat) (t:Tok) (s:Shared),kvs.length - i=k->i<=kvs.length->Inv X pins σ (upd H D (.dK ((kvs.take i).foldl (λacc kv=>az acc kv.1 kv.2) []))) s->s.heap.IsListIter it p i ->
     (∀H',H' it=none->eI X pins H' it)->H it=none->codeAny (model X.prog X.w) A (.builtin "dict.update.loop" #[[.ref D,.ref it,.int (i:Nat) t,.none],[]]) R s:=by
 have sameD:∀o,aC H (upd H D o):=λo=>aC.new hD;have hlen:ps.length=kvs.length:=hps.length;have flen:∀(l:List (aO×V)) (acc:List (aO×V)),(l.foldl (λacc kv=>az acc kv.1 kv.2) acc).length<=acc.length+l.length:=by
   intro l
   induction l with
   | nil=>intro acc; simp
   | cons x r ih =>
     intro acc;rw[JB];have h1:=ih (az acc x.1 x.2);have h2:=dP acc x.1 x.2;simp only[Hh];omega
 have big:(100000:Nat)<sizeLine:=by decide
 intro k
 induction k with
 | zero =>
   intro i t s hk hi I hit hfp hHit;have e:i=kvs.length:=by omega
   subst e;rw[IB] at I;obtain⟨its,rv,pl,hz'⟩:=I.list ((sameD _).seq hS);obtain⟨f0,f1,f2,f3,f4,f5⟩:=hfp (upd H D (.dK (kvs.foldl (λacc kv=>az acc kv.1 kv.2) []))) (by rw[ay hit0]; exact hHit);refine Jm kU ?_;rw[Around.under_plainId gc _];show wpAny _ A.in1 (pyNext (.ref it) >>= _) _ _ s;have hl:=rv.length;rw[HH] at hl;refine HG (wpAny_pyNext_list_end hA hit pl.isList (by simp; omega) λh' eb=>?_);have I1:Inv X pins σ (upd H D (.dK (kvs.foldl (λacc kv=>az acc kv.1 kv.2) []))) { s with heap:=h' }:=I.turned (t':=s.toks) (λb o hb e=>eb b o hb e) f0 f1 f3 f4 f5;show wpAny _ _ (Builtin.Dict.addKeywords D [] >>= _) _ _ _;exact HG (HQ (HQ (hR _ I1)))
 | succ k ih =>
   intro i t s hk hi I hit hfp hHit;have hlt:i<kvs.length:=by omega
   obtain⟨its,rv,pl,hz'⟩:=I.list ((sameD _).seq hS);have hpi:(ps.map V.ref)[i]?=some (.ref (ps[i]'(by omega))):=by simp [show i<ps.length by omega]
   obtain⟨u,hu,ru⟩:=rv.get hpi;cases (show u=Value.ref _ from ru);obtain⟨f0,f1,f2,f3,f4,f5⟩:=hfp (upd H D (.dK ((kvs.take i).foldl (λacc kv=>az acc kv.1 kv.2) []))) (by rw[ay hit0]; exact hHit);refine Jm kU ?_;rw[Around.under_plainId gc _];show wpAny _ A.in1 (pyNext (.ref it) >>= _) _ _ s;refine HG (wpAny_pyNext_list_item hit pl.isList (x:=.ref ps[i]) (by simpa using hu) λh' hit' sb=>?_);have I1:Inv X pins σ (upd H D (.dK ((kvs.take i).foldl (λacc kv=>az acc kv.1 kv.2) []))) { s with heap:=h' }:=I.turned (t':=s.toks) (λb o hb e=>(sb.2 b hb).trans e) f0 f1 f3 f4 f5;have hpair:aG X.K H ps[i] [kV (kvs[i]).1,(kvs[i]).2]:=l8 hps (by omega) hlt;obtain⟨its2,rv2,⟨o2,ho2,hc2,n2,hd2⟩,_⟩:=I1.tuple ((sameD _).tup hpair);cases rv2 with
   | cons r1 rr =>
     cases rr with
     | cons r2 rr =>
       cases rr
       rename_i ku vu
       refine HG (IG (HG (wpAny_tryCatch ?_)));show wpAny _ _ (Builtin.Dict.pairItems (.ref ps[i])) _ _ _;unfold Builtin.Dict.pairItems;refine HG (JE (T:="tuple") #[o2,ho2,hc2] ?_);rw[HR (by decide)];refine HG ?_;show wpAny _ _ (load ps[i] >>= _) _ _ _;refine HG (wpAny_load ho2 ?_);rw[hd2];refine HQ (HQ ?_);show wpAny _ _ (holding [ku,vu] (dictSet D ku vu)) _ _ _;refine IG ?_;obtain⟨z,hd,vs,rel,dd⟩:=jn I1.hok aL;have hl1:=flen (kvs.take i) [];have hl2:(kvs.take i).length<=kvs.length:=by rw[Hx]; omega
       simp only[IQ,Nat.zero_add] at hl1;have hzv:vs.length<=sizeLine:=by rw[<- rel.length]; exact z
       refine wpAny_dictSet_pairs (hsz:=hzv) (gf r1) dd λh2 dd2 hs2=>?_;have he:∃q,h2.get? D=some q:=let ⟨q,_,_,hq,_⟩:=dd2; #[q,hq]
       have hl3:(az ((kvs.take i).foldl (λacc kv=>az acc kv.1 kv.2) []) (kvs[i]).1 (kvs[i]).2).length<=sizeLine:=by have:=dP ((kvs.take i).foldl (λacc kv=>az acc kv.1 kv.2) []) (kvs[i]).1 (kvs[i]).2;omega
       have I2:=k9 (t':=({ s with heap:=h' }:Shared).toks+1) I1 (by rw[aL]; exact True.intro) hs2 he (lL hl3 hd (rel.put (kvs[i]).1 r2) dd2);rw[pN] at I2;have e3:(kvs.take (i+1)).foldl (λacc kv=>az acc kv.1 kv.2) []=az ((kvs.take i).foldl (λacc kv=>az acc kv.1 kv.2) []) (kvs[i]).1 (kvs[i]).2:=by rw[IU,ID];simp [hlt]
       rw[<- e3] at I2;have hit2:h2.IsListIter it p (i+1):=by obtain⟨oi,hoi,ri⟩:=hit';exact#[oi,(hs2.2 it hit0).trans hoi,ri]
       refine HQ #[plainId_quiet gc _,?_];have:=ih (i+1) 0 _ (by omega) (by omega) I2 hit2 hfp hHit;exact this
end
section
variable {X:Cx}
def zW (K:W.Frag):List V->Hp->VK->Prop:=λxs H Q=>∃(p:Addr) (ps:List Addr) (kvs:List (aO×V)),xs=[.ref p]/\aK K H p (ps.map V.ref)/\Paired (λa (kv:aO×V)=>aG K H a [kV kv.1,kv.2]) ps kvs/\kvs.length<=100000 /\
 ∀d,H d=none->Q (.ref d) (upd H d (.dK (kvs.foldl (λacc kv=>az acc kv.1 kv.2) [])))
theorem tY (hc:X.calm=true):bx X (.type "dict") (zW X.K):=by
 intro pins s σ H xs us Q I r h;obtain⟨p,ps,kvs,rfl,hS,hps,hz,q⟩:=h;obtain⟨u,rfl,ru⟩:=gK r;cases (show u=Value.ref p from ru);have hA:=I.ok.hd hc;have hD:H s.heap.objs.size=none:=I.hok.fresh (HN _);obtain⟨its,rv,pl,_⟩:=I.list hS;have hplt:p<s.heap.objs.size:=pl.lt;have I0:Inv X pins σ (upd H s.heap.objs.size (.dK [])) { s with heap:=s.heap.push { cls:=.type "dict",data:=.dict (List.toArray []) } } :=
   I.laid (a:=s.heap.objs.size) (o:=.dK []) (t':=s.toks) (λ_ _ q=>HJ _ q) (HN _) (om s.heap I.big)
 refine callType_codes (Q₁:=λobj s₁=>obj=.ref s.heap.objs.size/\s₁={ s with heap:=s.heap.push { cls:=.type "dict",data:=.dict (List.toArray []) } }) PySem.F.kt_called_dict (K4 _) KP (kt_code_dict_new _ #[rfl,rfl]) ?_;rintro obj s₁ ⟨rfl,rfl⟩;have hnew:(s.heap.push { cls:=.type "dict",data:=.dict (List.toArray []) }).DictOf (cK X.prog X.w) s.heap.objs.size []:=Heap.DictOf.new s.heap;refine#[hnew.typeIs,KH _ _,?_];unfold Builtin.«dict.__init__»;refine HG ?_;unfold Builtin.Dict.selfAndRest;refine HG (wpAny_notOrdered_dict hnew.typeIs ?_);show wpAny _ _ (pure (s.heap.objs.size,[Value.ref p])) _ _ _;refine HQ ?_;show wpAny _ _ (Builtin.Dict.updateFrom "dict.__init__" s.heap.objs.size (.ref p) [] .none) _ _ _;unfold Builtin.Dict.updateFrom;obtain⟨o,n,ho,hcl,hdi,hda⟩:=pl;have ho1:(s.heap.push { cls:=.type "dict",data:=.dict (List.toArray []) }).get? p=some o:=HJ _ ho;refine HG (JE (T:="list") #[o,ho1,hcl] ?_);rw[HR (by decide)];refine HG (Aj (s:={ s with heap:=s.heap.push { cls:=.type "dict",data:=.dict (List.toArray []) } }) ho1 hcl hda hdi hA λh' tk hk=>?_);have I1:Inv X pins σ (upd H s.heap.objs.size (.dK [])) { s with heap:=h',toks:=tk }:=I0.kept hk;rw[HR (by rfl)];refine HG (Jn ?_);have ho2:h'.get? p=some o:=hk _ _ ho1;refine HG (J2 (s:={ s with heap:=h',toks:=tk }) (items:=its.toArray) #[o,ho2,hcl,n,hda] ?_);have I2:Inv X pins σ (upd H s.heap.objs.size (.dK [])) { s with heap:=h'.push { cls:=.type "list_iterator",data:=.fields (List.toArray [.ref p,.int 0 0]) },toks:=tk }:=I1.kept (t':=tk) λb o e=>HJ _ e;have hsz:s.heap.objs.size<h'.objs.size:=by have e:(s.heap.push { cls:=.type "dict",data:=.dict (List.toArray []) }).get? s.heap.objs.size=some { cls:=.type "dict",data:=.dict (List.toArray []) }:=Hf _ rfl;exact Ha (hk _ _ e)
 have hit0:h'.objs.size≠s.heap.objs.size:=J7 hsz;have hHit:H h'.objs.size=none:=I.hok.fresh (KE hsz);refine HQ #[plainId_quiet gc _,?_];refine F0 (A:=X.A.in1) (it:=h'.objs.size) hA (Hw hplt) hS hps hD hz hit0 (λs' J=>#[rfl,.ref s.heap.objs.size,_,J,rfl,q _ hD]) kvs.length 0 0 _ (by omega) (Hl _) (by simpa using I2) #[_,Hf _ rfl,rfl,rfl] (λH' hn=>I1.fpOk (HN _) hn) hHit
theorem vj:∀(xs:List V) (us:List Value),xs.length=us.length->(∀(i:Nat) (x:V) (u:Value),xs[i]?=some x->us[i]?=some u->bF x u)->ax xs us
 | [],[],_,_=>.nil
 | [],_ :: _,h,_=>by simp at h
 | _ :: _,[],h,_=>by simp at h
 | x :: xs,u :: us,h,k=>.cons (k 0 x u rfl rfl) (vj xs us (by simpa using h) λi y v e1 e2=>k (i+1) y v (by simpa using e1) (by simpa using e2))
theorem w5 {P:Program} {w:World} {k:aO} {v:Value} (h:(cK P w).is k v=true):bF (kV k) v:=by
 rcases fj (show iG k v=true from h) with⟨i,t,rfl,rfl⟩|⟨x,t,rfl,rfl⟩
 . exact#[t,rfl]
 . exact#[t,rfl]
theorem Cr {P:Program} {w:World} {kvs:List (aO×V)} {vs:List (aO×Value)} {acc:Array Value} (rel:KV kvs vs) (h:ItemsOf (λi v=>∃k x,vs[i]?=some (k,x)/\(cK P w).is k v=true) acc vs.length) :
   ax (kvs.map λkv=>kV kv.1) acc.toList:=by
 have hl:=rel.length;have el:acc.toList.length=acc.size:=by simp
 have hlen:(kvs.map λkv=>kV kv.1).length=acc.toList.length:=by rw[HH,el,h.1]; exact hl
 refine vj _ _ hlen λi x u e1 e2=>?_;obtain⟨k,y,e3,e4⟩:=h.2 i u (by simpa using e2);rw[HW] at e1;cases e5:kvs[i]? with
 | none=>rw[e5] at e1; cases e1
 | some kv =>
   rw[e5] at e1;have e1:kV kv.1=x:=by simpa using e1
   have e6:kv.1=k:=by
     have h1:i<kvs.length:=(HL.mp e5).1;have h2:i<vs.length:=by omega
     have e7:=l8 rel h1 h2;have e8:kvs[i]=kv:=by have:=HL.mp e5; exact this.2
     have e9:vs[i]=(k,y):=by have:=HL.mp e3; exact this.2
     rw[e8,e9] at e7;exact e7.1
   rw[<- e1,e6];exact w5 e4
theorem DE (hc:X.calm=true):bx X (.type "list") (λxs H Q=>∃d kvs,xs=[.ref d]/\H d=some (.dK kvs)/\∀l,H l=none->Q (.ref l) (upd H l (.lst (kvs.map λkv=>kV kv.1)))):=by intro pins s σ H xs us Q I r h;obtain⟨d,kvs,rfl,hd,q⟩:=h;obtain⟨u,rfl,ru⟩:=gK r;cases (show u=Value.ref d from ru);obtain⟨z,lo,vs,rel,dd⟩:=jn I.hok hd;have hlen:=rel.length;obtain⟨ep,dat⟩:∃ep,s.heap.DictAt (cK X.prog X.w) d vs ep:=dd.dictAt;refine PySem.W.kdl_call (PySem.W.kdl_dict (knd:=cK X.prog X.w) (kvs:=vs) (ep:=ep) lo) (I.ok.hd hc) dat (by rw[<- hlen]; exact z) λh' tk acc' c' hk hS hit=>?_;have hv:ax (kvs.map λkv=>kV kv.1) acc'.toList:=Cr rel hit;refine#[.ref s.heap.objs.size,_,I.laid (a:=s.heap.objs.size) (o:=.lst (kvs.map λkv=>kV kv.1)) hk (HN _) #[by rw[HH]; exact z,acc'.toList,c',hv,by simpa using hS],rfl,q _ (I.hok.fresh (HN _))]
end
end L2
namespace L2
open PySem PySem.Spec PyProof.Rows PySem.W
section
variable {prog:Program} {w:World} {A:Around} {E:Value->Shared->Prop} {s:Shared} {δ:Type} {R:δ->Value->Prop} {a:Addr} {D:List (Str×δ)} {k:Str} {tk:Tok} {d:δ}
theorem mI (T:KTD.TabOf R s.heap a D):s.TypeIs (.ref a) "dict":=let ⟨_,o,_,_,ho,hc,_⟩:=T; #[o,ho,hc.1]
theorem uy {Q:Value->Shared->Prop} (T:KTD.TabOf R s.heap a D) (hd:KTD.datumAt k D=some d) (h:∀v,R d v->Q v { s with toks:=s.toks+1 }) :
   wpAny (model prog w) A (getItem (.ref a) (.str k tk)) Q E s:=by
 have ty:=mI T;obtain⟨_,o,es,ep,ho,hc,hdt,hr⟩:=T;unfold getItem
 try with_reducible refine IG ?_
 refine HG (K9 ty (by decide) ?_);refine HG (wpAny_callSpecial?_slot (name:=Str.ofString "__getitem__") ty slot_dict_getitem
   (IN slot_dict_getitem ty entry_dict_getitem ?_ (args_dict_getitem _ _)))
 show wpAny _ _ (dictGet a (.str k tk) >>= _) _ _ s;refine HG ?_;unfold dictGet
 try with_reducible refine IG ?_
 refine HG (KD (HG (KTD.kt_dictFind_strs (s:={ s with toks:=s.toks+1 }) ho hdt (by obtain⟨l⟩:=es; simpa using hr.exact) ?_)));have hq:∃v,findBy (λk v=>v.isStr k) es k=some v/\R d v:=by
   have hf:findBy (λk v=>v.isStr k) es k=(es.toList.find? λe=>e.key.isStr k).map (·.val):=by obtain⟨l⟩:=es;simp [findBy]
   rw[hf];exact hr.find_some hd
 obtain⟨v,hv,hR⟩:=hq;rw[findBy_of_findIdx?] at hv;cases hi:es.findIdx? λe=>e.key.isStr k with
 | none=>rw[hi] at hv; cases hv
 | some i =>
   rw[hi] at hv;have hv:es[i]?.map (·.val)=some v:=hv;refine HG (wpAny_dictEntries (s:={ s with toks:=s.toks+1 }) ho hdt (HQ ?_));show wpAny _ _ _ _ _ _;rw[hv];exact HQ #[v,rfl,HQ (h v hR)]
end
def mq (K:W.Frag) (d:Addr) (rows:List (Str×List V)):Prop :=
 ∃(o:Obj) (es:Array DictEntry) (ep:Nat),K.lookup d=some o/\(d==sysModules)=false/\o.ExactDict/\o.data=.dict es ep/\KTD.Rows (λ(xs:List V) v=>∃a,v=.ref a/\∀H:Hp,aG K H a xs) es.toList rows
def GS (K:W.Frag):R2:=λx y H Q=>∃d rows k xs,x=.ref d/\y=.str k/\mq K d rows/\KTD.datumAt k rows=some xs/\∀a,aG K H a xs->Q (.ref a) H
theorem Fi {X:Cx}:aJ X (GS X.K):=by
 intro value slice pins s σ H x y v u Q I rx ry h hs;obtain⟨d,rows,k,xs,rfl,rfl,⟨o,es,ep,ho,lo,hc,hd,hr⟩,hk,q⟩:=h;cases (show v=Value.ref d from rx);obtain⟨t,rfl⟩:=(show ∃t,u=Value.str k t from ry)
 have T:KTD.TabOf (λ(xs:List V) v=>∃a,v=.ref a/\∀H:Hp,aG X.K H a xs) s.heap d rows:=#[lo,o,es,ep,I.kIn d o ho,hc,hd,hr]
 refine tail_any (mI T) slot_dict_getitem.lookup (uy T hk λv hv=>?_) hs;obtain⟨a,rfl,hsq⟩:=hv;exact#[.ref a,H,I.tok _,rfl,q a (hsq H)]
end L2
namespace L2
open PySem PySem.Spec PyProof.Rows
def nX:V->Value->Bool
 | .non,.none=>true
 | .bl b,.bool c=>b==c
 | .int i,.int j _=>i==j
 | .str x,.str y _=>x==y
 | _,_=>false
theorem Fq:∀{x:V} {v:Value},nX x v=true->bF x v:=by
 intro x v h;unfold nX at h;split at h
 . rfl
 . obtain rfl:=beq_iff_eq.mp h; rfl
 . obtain rfl:=beq_iff_eq.mp h; exact#[_,rfl]
 . obtain rfl:=beq_iff_eq.mp h; exact#[_,rfl]
 . cases h
def ir:List V->List Value->Bool
 | [],[]=>true
 | x :: xs,v :: vs=>nX x v&&ir xs vs
 | _,_=>false
theorem vQ:∀{xs:List V} {vs:List Value},ir xs vs=true->ax xs vs
 | [],[],_=>.nil
 | x :: xs,v :: vs,h=>by simp only[ir,Hr] at h;exact .cons (Fq h.1) (vQ h.2)
 | [],_ :: _,h=>by simp [ir] at h
 | _ :: _,[],h=>by simp [ir] at h
def ly (K:W.Frag) (xs:List V) (v:Value):Bool:=match v with
 | .ref a=>match K.lookup a with
   | some o=>o.cls==.type "tuple"&&(match o.data with | .seq its _=>decide (its.size<=sizeLine)&&ir xs its.toList|_=>false)
   | none=>false
 | _=>false
theorem Cj {K:W.Frag} (xs:List V) (v:Value) (h:ly K xs v=true):∃a,v=.ref a/\∀H:Hp,aG K H a xs:=by
 unfold ly at h;split at h
 . rename_i a
   split at h
   . rename_i o ho
     rw[Hr] at h;obtain⟨h1,h2⟩:=h;split at h2
     . rename_i its n hd
       rw[Hr] at h2;exact#[a,rfl,λH=>.inr #[o,its,n,ho,beq_iff_eq.mp h1,hd,Iq h2.1,vQ h2.2]]
     . cases h2
   . cases h
 . cases h
theorem zn {K:W.Frag} {d:Addr} {rows:List (Str×List V)} (h:KTD.tabLook (ly K) (λa=>K.lookup a) d rows=true):mq K d rows:=by
 simp only[KTD.tabLook,Hr] at h;obtain⟨h0,hl⟩:=h;split at hl
 . rename_i o ho
   simp only[Hr] at hl;obtain⟨⟨⟨e1,e2⟩,e3⟩,e4⟩:=hl;split at e4
   . rename_i es ep hd
     exact#[o,es,ep,ho,by simpa using h0,#[beq_iff_eq.mp e1,by simpa using e2,by simpa using e3],hd,KTD.rows_of_look Cj e4]
   . cases e4
 . cases hl
end L2
namespace L2
open PySem
def sH:Expr->Option (List V)
 | .List es _=>li es
 | _=>none
theorem Bw {X:Cx} {e:Expr} {vs:List V} (h:sH e=some vs):PE X e (ut λ_ H Q=>Q vs H):=by
 unfold sH at h;split at h
 . exact bj (vi h)
 . cases h
end L2
namespace L2
open PySem PySem.Spec PyProof.Rows
section
variable {prog:Program} {w:World} {A:Around} {E:Value->Shared->Prop} {s:Shared}
theorem gx_nextOf_tup {it t:Addr} {i:Nat} {items:Array Value} {x:Value} {Q:Value->Shared->Prop} (hit:s.heap.IsTupleIter it t i) (ht:s.heap.IsTuple t items) (hx:items[i]?=some x)
   (hQ:∀h',h'.IsTupleIter it t (i+1)->Heap.SameBut it s.heap h'->Q x { s with heap:=h' }):wpAny (model prog w) A (Builtin.SmallTypes.nextOf (.ref it)) Q E s:=by
 obtain⟨⟨o,ho,hc,hd⟩,⟨ol,hol,_,nl,hdl⟩⟩:=(#[id hit,ht]:_/\_)
 unfold Builtin.SmallTypes.nextOf; refine HG (wpAny_callSpecial?_slot (name:=Str.ofString "__next__") hit.typeIs J1 (IN J1 hit.typeIs K1 ?_ (Jw _)));show wpAny (model prog w) _ (field (.ref it) 0 >>= _) _ _ s; refine HG (IA ho hd (x:=.ref t) rfl ?_);show wpAny (model prog w) _ (if(Value.ref t==Value.none)=true then _ else _) _ _ s; rw[HI (by exact He)];show wpAny (model prog w) _ (field (.ref it) 1 >>= _) _ _ s; refine HG (IA ho hd (x:=.int i 0) rfl ?_);show wpAny (model prog w) _ (seqItems? (.ref t) >>= _) _ _ s; refine HG (IZ hol hdl ?_); simp only[IH,hx];refine HG (wpAny_setField ho hd (by simp) (HQ #[x,rfl,HQ (hQ _ #[_,Heap.get?_update_self _ ho (Obj.isFreed_of_fields (Obj.data_mapFields hd _)),(Obj.cls_mapFields ..).trans hc,by rw[Obj.data_mapFields hd]; simp [rawInt]] (Heap.SameBut.update ..))]))
theorem gx_nextOf_tup_end {it t:Addr} {i:Nat} {items:Array Value} {Q:Value->Shared->Prop} (hh:A.handled=none) (hit:s.heap.IsTupleIter it t i) (ht:s.heap.IsTuple t items) (hx:items[i]?=none)
   (hE:∀h' e,Heap.ExtBut it s.heap h'->(∃o,h'.get? e=some o/\o.cls=.type "StopIteration")->E (.ref e) { s with heap:=h' }):wpAny (model prog w) A (Builtin.SmallTypes.nextOf (.ref it)) Q E s:=by
 obtain⟨⟨o,ho,hc,hd⟩,⟨ol,hol,_,nl,hdl⟩⟩:=(#[id hit,ht]:_/\_)
 unfold Builtin.SmallTypes.nextOf; refine HG (wpAny_callSpecial?_slot (name:=Str.ofString "__next__") hit.typeIs J1 (IN J1 hit.typeIs K1 ?_ (Jw _)));show wpAny (model prog w) _ (field (.ref it) 0 >>= _) _ _ s; refine HG (IA ho hd (x:=.ref t) rfl ?_);show wpAny (model prog w) _ (if(Value.ref t==Value.none)=true then _ else _) _ _ s; rw[HI (by exact He)];show wpAny (model prog w) _ (field (.ref it) 1 >>= _) _ _ s; refine HG (IA ho hd (x:=.int i 0) rfl ?_);show wpAny (model prog w) _ (seqItems? (.ref t) >>= _) _ _ s; refine HG (IZ hol hdl ?_); simp only[IH,hx];refine HG (Jn (HG (wpAny_setField ho hd (by simp) ?_))); show wpAny (model prog w) _ (newExc (.type "StopIteration") [] >>= _) _ _ _;refine HG ?_; simp only[newExc,newTuple]; refine HG (Io ?_ (by size_fits));refine HG (m:=firstArgMember _ _) (wpAny_of_eq (a:=Value.none) (by first|rfl|(simp only[firstArgMember]; rfl)) (Io ?_ (by size_fits)));simp only[raiseNew]; refine HG (wpAny_handled ?_); first|rw[show A.in1.handled=none from hh] | rw[hh]
 refine HG (HQ (wpAny_throw (hE _ _ (((Heap.SameBut.update ..).extBut.push _).push _) #[_,Hf _ rfl,rfl])))
end
variable {w:World}
theorem sZ {prog:Program} {A:Around} (hh:A.handled=none) (it t:Addr) (hne:t≠it) (items:Array Value) :
   Draws prog w A it [it,t] items.size (λi v=>items[i]?=some v) (λi h=>h.IsTupleIter it t i/\h.IsTuple t items) where
 live:=λ_ _ ⟨⟨o,ho,_⟩,_⟩=>#[o,ho]
 frame:=λ_ _ _ ⟨⟨o,ho,r⟩,⟨o2,ho2,r2⟩⟩ hk=>#[#[o,hk it (by simp) o ho,r],#[o2,hk t (by simp) o2 ho2,r2]]
 item:=λi s Q E hi ⟨s1,s2⟩ hQ=>gx_nextOf_tup s1 s2 (x:=items[i]) (by simp [hi]) λh' hit' hs'=>hQ _ h' s.toks (by simp [hi]) #[hit',s2.extBut hs'.extBut hne] hs'
 done:=λs Q E ⟨s1,s2⟩ hE=>gx_nextOf_tup_end hh s1 s2 (by simp) hE
section
variable {X:Cx} {pins:List (Addr×Obj)} {σ:St} {H:Hp} {s:Shared} {h':Heap}
theorem Inv.turnedL {t':Nat} {ch:List Addr} (I:Inv X pins σ H s) (k:∀b o,b ∉ ch->s.heap.get? b=some o->h'.get? b=some o) (hf:∀b∈ch,eI X pins H b):Inv X pins σ H { s with heap:=h',toks:=t' }:=by
 have nit:∀b u,H b=some u->b ∉ ch:=λb u e z=>by rw[(hf b z).1] at e; cases e
 refine I.step (g':=s.gens) (d':=s.drawn) (ch:=ch) (λb hb=>#[(hf b hb).2.2.2.1,(hf b hb).2.1,(hf b hb).2.2.2.2.1,(hf b hb).2.2.2.2.2]) (λb o _ _ hc e _=>k b o hc e) (λb o _ _ hc e _=>#[o.slots,k b o hc e]) (λ_ _ _ _ n=>n) (λb o hc e=>#[o,k b o hc e]) (λ_ _ e=>e) (λ_ _ _ e=>e) (λb ps e=>#[(List.toArray []),by rw[e]; simp]) (λm hm=>?_) (λb u e=>?_) I.bare
 . obtain⟨o,es,ep,ho,r⟩:=hm;exact#[o,es,ep,k _ _ (λz=>(hf _ z).2.1 rfl) ho,r]
 . have key:∀c,c=b\/H c=some (.own b)->c ∉ ch:=λc hc=>by
     rcases hc with z|z
     . subst z; exact nit _ u e
     . exact nit c _ z
   exact(I.hok b u e).stay (λc v hc q=>k c v (key c hc) q) (λ_ q=>q) λ_ _ q=>q
theorem Inv.turnLaid {t':Nat} {ch:List Addr} {a:Addr} {o:HO} (I:Inv X pins σ H s) (k:∀b o,b ∉ ch->s.heap.get? b=some o->h'.get? b=some o) (hf:∀b∈ch,eI X pins H b) (hp:s.heap.objs.size<=a) (new:cJ X.prog X.w (upd H a o) h' a o) :
   Inv X pins σ (upd H a o) { s with heap:=h',toks:=t' }:=by
 have nit:∀b u,H b=some u->b ∉ ch:=λb u e z=>by rw[(hf b z).1] at e; cases e
 have hn:H a=none:=I.hok.fresh hp;refine I.step (g':=s.gens) (d':=s.drawn) (ch:=ch) (λb hb=>#[(hf b hb).2.2.2.1,(hf b hb).2.1,(hf b hb).2.2.2.2.1,(hf b hb).2.2.2.2.2]) (λb o _ _ hc e _=>k b o hc e) (λb o _ _ hc e _=>#[o.slots,k b o hc e]) (λb u _ q n=>by rw[ay (λz=>by subst z; exact absurd (Hn (Ha q) hp) (IC _))]; exact n) (λb o hc e=>#[o,k b o hc e]) (λb xs q=>by rw[ay (cT q hn)]; exact q) (λb u xs q=>by rw[ay (cT q hn)]; exact q) (λb ps q=>#[(List.toArray []),by rw[ay (cT q hn),q]; simp]) (λm hm=>?_) (λb u e=>?_) I.bare
 . obtain⟨o,es,ep,ho,r⟩:=hm;exact#[o,es,ep,k _ _ (λz=>(hf _ z).2.1 rfl) ho,r]
 . by_cases hb:b=a
   . subst hb;rw[aL] at e;cases e;exact new
   . rw[ay hb] at e;have key:∀c,c=b\/H c=some (.own b)->c ∉ ch:=λc hc=>by
       rcases hc with z|z
       . subst z; exact nit _ u e
       . exact nit c _ z
     exact(I.hok b u e).stay (λc v hc q=>k c v (key c hc) q) (λc q=>(ay (cT q hn)).trans q) λc xs q=>(ay (cT q hn)).trans q
end
theorem CA (l:Addr) (items:Array Value) (n:Nat) (dct:Option Addr) (sl:Array (Option Value)) :
   Meets (Builtin.«enumerate.__new__» #[[.type "enumerate",.ref l],[]]) (λ_ R s=>s.heap.get? l=some { cls:=.type "tuple",dict:=dct,data:=.seq items n,slots:=sl } /\
     R (.ok (.ret (.ref (s.heap.push { cls:=.type "tuple_iterator",data:=.fields (List.toArray [.ref l,.int 0 0]) }).objs.size)))
       { s with heap:=(s.heap.push { cls:=.type "tuple_iterator",data:=.fields (List.toArray [.ref l,.int 0 0]) }).push { cls:=.type "enumerate",data:=.fields (List.toArray [.none,.bool false,.ref s.heap.objs.size,rawInt 0,.none,.none]) } }) :=
 .of_wp λprog w A R s h=>by
   obtain⟨h0,g0,d0,t0,o0⟩:=s;obtain⟨hl,h⟩:=h;have hsub:=sub_enumerate;have hL:Heap.IsTuple (Shared.heap ⟨h0,g0,d0,t0,o0⟩) l items:=#[_,hl,rfl,n,rfl]
   wp_walk using AutoSeq1.wpAny_loadPart' hl
   refine wpAny_stack_any λst=>HQ ?_;split
   . rename_i c _ _ _ _ _
     cases (c==Value.type "enumerate") <;> (wp_walk using AutoSeq1.wpAny_loadPart' hl,Ih hL; exact#[_,rfl,h])
   . wp_walk using AutoSeq1.wpAny_loadPart' hl,Ih hL; exact#[_,rfl,h]
theorem GN {prog:Program} {A:Around} {E:Value->Shared->Prop} {s:Shared} {l:Addr} {items:Array Value} {Q:Value->Shared->Prop} (hL:s.heap.IsTuple l items)
   (h:∀h',IsEnum h' (s.heap.objs.size+1) s.heap.objs.size 0 .none->h'.IsTupleIter s.heap.objs.size l 0->(∀b o,s.heap.get? b=some o->h'.get? b=some o)->Q (.ref (s.heap.objs.size+1)) { s with heap:=h' }) :
   wpAny (model prog w) A (call (.type "enumerate") [.ref l]) Q E s:=by
 obtain⟨⟨c,dct,dt,sl⟩,hl,hc,n,hd⟩:=hL;cases (show c=.type "tuple" from hc); cases (show dt=.seq items n from hd);refine callType_new F.called_enumerate (by decide) (F.typeCall_enumerate_1 _) (F.newCall_enumerate_1 _) (λobj=>F.args_object_init_2 obj _) F.entry_enumerate_new (CA l items n dct sl) #[hl,?_];have hz:(s.heap.push { cls:=.type "tuple_iterator",data:=.fields (List.toArray [.ref l,.int 0 0]) }).objs.size=s.heap.objs.size+1:=IX ..;have he:IsEnum ((s.heap.push { cls:=.type "tuple_iterator",data:=.fields (List.toArray [.ref l,.int 0 0]) }).push { cls:=.type "enumerate",data:=.fields (List.toArray [.none,.bool false,.ref s.heap.objs.size,rawInt 0,.none,.none]) }) (s.heap.objs.size+1) s.heap.objs.size 0 .none:=by have e:=Hf (s.heap.push { cls:=.type "tuple_iterator",data:=.fields (List.toArray [.ref l,.int 0 0]) }) (o:={ cls:=.type "enumerate",data:=.fields (List.toArray [.none,.bool false,.ref s.heap.objs.size,rawInt 0,.none,.none]) }) rfl;rw[hz] at e;exact e
 show _/\_;rw[hz];exact#[#[_,he,rfl],h _ he #[_,HJ _ (Hf _ rfl),rfl,rfl] λb o x=>HJ _ (HJ _ x)]
def jZ (K:W.Frag) (a:Addr):It :=
 #[λi H=>∃xs x,aG K H a xs/\xs[i]?=some x,λi H y H'=>∃b,y=.ref b/\H b=none/\∀xs x,aG K H a xs->xs[i]?=some x->H'=upd H b (.tup [.int i,x]),λi H=>∃xs,aG K H a xs/\xs.length=i]
variable {elts:List Expr} {pos:Pos}
theorem Ai {P:Program} {K:W.Frag} {k:Nat} (a e it:Addr) (hne:e≠it):Turn P w K (.Tuple elts k pos) (jZ K a) [e,it] e (λi h=>(∃old,IsEnum h e it i old)/\h.IsTupleIter it a i) where
 mem:=by simp
 obj:=λi h st b hb=>by
   obtain⟨⟨old,he⟩,⟨o,ho,hc,hd⟩⟩:=st;rcases HV.mp hb with z|z
   . subst z;exact#[_,he,λv z=>by cases (show Data.fields _=Data.cell v from z)]
   . have z:b=it:=by simpa using z
     subst z;exact#[o,ho,λv z=>by rw[hd] at z; cases z]
 keep:=λi h h' st kk=>by obtain⟨⟨old,he⟩,⟨o,ho,r⟩⟩:=st;exact#[#[old,kk e (by simp) _ he],#[o,kk it (by simp) o ho,r]]
 item:=by
   intro X hP hw hK hc i pins s σ H E I hf st hg;subst hP hw hK;obtain⟨⟨old,he⟩,hit⟩:=st;obtain⟨xs,x,hq,hx⟩:=hg;obtain⟨its,rv,p,hz⟩:=I.tuple hq;have pt:s.heap.IsTuple a its.toArray:=p;obtain⟨u,hu,ru⟩:=rv.get hx;have hia:a≠it:=λz=>by
     subst z;obtain⟨o1,h1,c1,_⟩:=hit;obtain⟨o2,h2,c2,_⟩:=pt;rw[h1] at h2;cases h2;rw[c1] at c2;injection c2 with c2
     exact absurd c2 (by decide)
   have hea:e ∉ [it,a]:=λz=>by
     rcases HV.mp z with z|z
     . exact hne z
     . have z:e=a:=by simpa using z
       subst z;obtain⟨o2,h2,c2,_⟩:=pt;rw[he] at h2;cases h2;injection (show Value.type "enumerate"=Value.type "tuple" from c2) with c2
       exact absurd c2 (by decide)
   have hlt:i<its.toArray.size:=by have:=(HL.mp hu).1;simpa using this
   refine KQ (sZ (A:=X.A.in1) (I.ok.hd hc) it a hia its.toArray) he #[hit,pt] hlt hne hea λy h' tk hy hout hst hT hsz hk=>?_;refine#[_,rfl,K5 hout λh2 he2 hs2=>?_];have hs2:Heap.SameBut e h' h2:=hs2;have hyu:y=u:=by
     have hy:its.toArray[i]?=some y:=hy;have:its[i]?=some y:=by simpa using hy
     rw[hu] at this;exact(Option.some.inj this).symm
   subst hyu;have helt:e<s.heap.objs.size:=Ha he;have hfr:H s.heap.objs.size=none:=I.hok.fresh (HN _);have hnS:s.heap.objs.size≠e:=J7 helt;have hT2:h2.get? s.heap.objs.size=some { cls:=.type "tuple",data:=.seq (List.toArray [.int i tk,y]) }:=(hs2.2 _ hnS).trans hT;refine#[.ref s.heap.objs.size,upd H s.heap.objs.size (.tup [.int i,x]),I.turnLaid (t':=tk+1) (ch:=[e,it]) (λb o hb q=>?_) hf (HN _) ?_,rfl,#[s.heap.objs.size,rfl,hfr,λxs' x' hq' hx'=>?_],#[#[y,by exact_mod_cast he2],?_],λb hb=>?_]
   . have h1:b≠e:=λz=>hb (by simp [z]);have h3:b≠it:=λz=>hb (by simp [z]);exact(hs2.2 b h1).trans (hk b o h1 h3 q)
   . exact#[by show 2<=sizeLine; decide,[.int i tk,y],.cons #[tk,rfl] (.cons ru .nil),#[_,hT2,rfl,_,rfl]]
   . have:=I.tuple_inj hq' hq;subst this;rw[hx] at hx';cases hx';rfl
   . obtain⟨⟨o,ho,r⟩,_⟩:=hst;exact#[o,(hs2.2 it hne.symm).trans ho,r]
   . have hb0:=(hf b hb).1;rw[ay]
     . exact hb0
     . intro z;subst z;obtain⟨o,ho,_⟩:=hit;rcases HV.mp hb with z|z
       . exact hnS z
       . have z:s.heap.objs.size=it:=by simpa using z
         exact absurd (Ha ho) (by rw[<- z]; exact IC _)
 done:=by
   intro X hP hw hK hc i pins s σ H E I hf st hg;subst hP hw hK;obtain⟨⟨old,he⟩,hit⟩:=st;obtain⟨xs,hq,hx⟩:=hg;obtain⟨its,rv,p,hz⟩:=I.tuple hq;have pt:s.heap.IsTuple a its.toArray:=p;have hl:=rv.length;have hia:a≠it:=λz=>by
     subst z;obtain⟨o1,h1,c1,_⟩:=hit;obtain⟨o2,h2,c2,_⟩:=pt;rw[h1] at h2;cases h2;rw[c1] at c2;injection c2 with c2
     exact absurd c2 (by decide)
   have hi:i=its.toArray.size:=by simp; omega
   refine wpAny_pyNext_enum_endD (sZ (A:=X.A.in1) (I.ok.hd hc) it a hia its.toArray) he (by rw[<- hi]; exact#[hit,pt]) λh' eb=>#[rfl,?_]
   exact I.turnedL (t':=s.toks) (ch:=[e,it]) (λb o hb q=>eb b o (λz=>hb (by simp [z])) q) hf
 self:=λ_ _ _ _ _ st h=>by obtain⟨⟨old,he⟩,_⟩:=st;exact JZ he h
variable {tb:TS} {σ:St} {H:Hp}
section
variable {X:Cx}
theorem wY:bootBuiltins "enumerate"=some (.type "enumerate"):=FI
def GX (K:W.Frag) (ta:TA):TI:=λσ H R=>ta σ H λvs H1=>∃a,vs=[.ref a]/\(∃xs,aG K H1 a xs)/\R (jZ K a) H1
theorem tU {a:Expr} {ta:TA} {p tpos:Pos}{k:Nat} (hg:Gl X "enumerate") (hm:X.mg "enumerate"=none) (ha:PA X [a] ta) (hs:starEach [a] X.env=[(false,eval a X.env)]:=by rfl):PI X (.Tuple elts k tpos) (.Call (.Name "enumerate" p) [a] [] pos) (GX X.K ta):=by
 intro pins s σ H R I h;refine Call_ (gF I hg hm wY (IE (aq (ha pos pins s σ H _ I h) λus s1 ⟨vs,H1,I1,r1,q1⟩=>?_) hs rfl));obtain⟨a,e,⟨xs,hq⟩,q⟩:=q1;subst e;cases r1 with
 | cons r rr =>
   cases rr;cases r;obtain⟨its,rv,p,hz⟩:=I1.tuple hq;refine GN (show s1.heap.IsTuple a its.toArray from p) λh' he hit hk=>?_;refine JZ he ?_;refine#[s1.heap.objs.size+1,[s1.heap.objs.size+1,s1.heap.objs.size],_,_,H1,rfl,I1.kept (t':=s1.toks) hk,Ai a (s1.heap.objs.size+1) s1.heap.objs.size (Nat.succ_ne_self _),#[#[.none,he],hit],λb hb=>?_,q];rcases HV.mp hb with z|z
   . subst z;exact I1.fpOk (Jc _) (I1.hok.fresh (Jc _))
   . have z:b=s1.heap.objs.size:=by simpa using z
     subst z;exact I1.fpOk (HN _) (I1.hok.fresh (HN _))
theorem u9 {K:W.Frag} {a:Addr} {xs:List V} {g:TG} {D:cF} (Pv:Nat->St->Hp->Prop) (h0:Pv 0 σ H) (hl:∀i σ H,i<=xs.length->Pv i σ H->aG K H a xs)
   (hs:∀i x σ H b,xs[i]?=some x->Pv i σ H->H b=none->g (.ref b) σ (upd H b (.tup [.int i,x])) λσ2 H2=>tb { D with nx:=Pv (i+1),ct:=Pv (i+1),bk:=D.nx } σ2 H2) (hd:∀σ H,Pv xs.length σ H->D.nx σ H) :
   ∃W:Nat->Nat->St->Hp->Prop,(∃m,W 0 m σ H)/\∀i m σ H,W i m σ H->((jZ K a).stop i H/\D.nx σ H)\/((jZ K a).go i H/\∃N:St->Hp->Prop,(∀σ' H',N σ' H'->∃m',m'<m/\W (i+1) m' σ' H')/\∀x H',(jZ K a).yld i H x H'->g x σ H' λσ2 H2=>tb { D with nx:=N,ct:=N,bk:=D.nx } σ2 H2):=by
 refine#[λi m σ H=>m=xs.length - i/\i<=xs.length/\Pv i σ H,#[xs.length,by simp,Hl _,h0],?_];rintro i m σ H ⟨rfl,hi,p⟩;have q:=hl i σ H hi p;by_cases hlt:i<xs.length
 . refine .inr #[#[xs,xs[i],q,by simp [hlt]],Pv (i+1),λσ' H' p'=>#[xs.length - (i+1),by omega,rfl,hlt,p'],λx H' y=>?_];obtain⟨b,rfl,hb,y⟩:=y;rw[y xs xs[i] q (by simp [hlt])];exact hs i xs[i] σ H b (by simp [hlt]) p hb
 . have e:i=xs.length:=by omega
   subst e;exact .inl #[#[xs,q,rfl],hd σ H p]
end
section
variable {X:Cx} {pins:List (Addr×Obj)} {σ:St} {H:Hp} {s:Shared}
theorem Inv.freeze {d:Addr} {kvs:List (aO×V)} (I:Inv X pins σ H s) (e:H d=some (.dK kvs)):∃o,s.heap.get? d=some o/\Inv X pins σ (upd H d (.frz o (.dK kvs))) s:=by
 obtain⟨z,hd,vs,rel,⟨o,es,ep,ho,r⟩⟩:=I.hok d _ e;refine#[o,ho,?_];have nd:∀b u,H b=some u->u≠.dK kvs->b≠d:=λb u q n z=>by subst z;rw[e] at q;cases q;exact n rfl
 refine I.step (g':=s.gens) (t':=s.toks) (d':=s.drawn) (h':=s.heap) (ch:=[]) (λ_ z=>nomatch z) (λb o _ _ _ q _=>q) (λb o _ _ _ q _=>#[o.slots,q]) (λb o _ _ n=>?_) (λb o _ q=>#[o,q]) (λb xs q=>?_) (λb o u q=>?_) (λb ps q=>#[(List.toArray []),?_]) (λm hm=>hm) (λb u q=>?_) I.bare
 . rw[ay (λz=>by subst z; rw[e] at n; cases n)];exact n
 . rw[ay (nd b _ q (by intro z; cases z))];exact q
 . rw[ay (nd b _ q (by intro z; cases z))];exact q
 . rw[ay (nd b _ q (by intro z; cases z)),q];simp
 . have own:∀c b,H c=some (.own b)->(upd H d (.frz o (.dK kvs))) c=some (.own b):=λc b q=>(ay (nd c _ q (by intro z; cases z))).trans q;have tup:∀c xs,H c=some (.tup xs)->(upd H d (.frz o (.dK kvs))) c=some (.tup xs):=λc xs q=>(ay (nd c _ q (by intro z; cases z))).trans q;by_cases hb:b=d
   . subst hb;rw[aL] at q;cases q;exact#[ho,(I.hok _ _ e).stay (λ_ _ _ q=>q) (λc q=>own c _ q) tup]
   . rw[ay hb] at q;exact(I.hok b u q).stay (λ_ _ _ q=>q) (λc q=>own c _ q) tup
end
theorem FD:entryFor table "dict_itemiterator.__iter__"=some Builtin.«dict_keyiterator.__iter__»:=entryFor_alias (id':="dict_keyiterator.__iter__") (by kernel_rfl) (by first|rfl|decide +kernel|(unfold String.splitOn; simp +decide [String.splitOnAux])) (by decide +kernel) (by kernel_rfl)
def fg (o:Obj) (d:Addr) (kvs:List (aO×V)):It :=
 #[λi H=>H d=some (.frz o (.dK kvs))/\i<kvs.length,λi H y H'=>∃b,y=.ref b/\H b=none/\∀kv,kvs[i]?=some kv->H'=upd H b (.tup [kV kv.1,kv.2]),λi H=>H d=some (.frz o (.dK kvs))/\i=kvs.length]
theorem qT {X:Cx} {pins:List (Addr×Obj)} {s:Shared} {o:Obj} {d:Addr} {kvs:List (aO×V)} (I:Inv X pins σ H s) (e:H d=some (.frz o (.dK kvs))) {es0:Array DictEntry} {ep:Nat} (hep:o.data=.dict es0 ep) :
   ∃vs,KV kvs vs/\s.heap.DictAt (cK X.prog X.w) d vs ep:=by
 obtain⟨h1,z,hd,vs,rel,⟨o',es,ep',ho,hx,hdat,r⟩⟩:=I.hok d _ e;rw[h1] at ho;cases ho;rw[hep] at hdat;cases hdat;exact#[vs,rel,o,es0,h1,hx,hep,r]
theorem B0 {P:Program} {K:W.Frag} {k:Nat} (o:Obj) (d it:Addr) (kvs:List (aO×V)) (es0:Array DictEntry) (ep:Nat) (hep:o.data=.dict es0 ep) :
   Turn P w K (.Tuple elts k pos) (fg o d kvs) [it] it (λi h=>∃ok ov,IsItemIter h it d i kvs.length ep ok ov) where
 mem:=by simp
 obj:=λi h st b hb=>by
   obtain⟨ok,ov,he⟩:=st;have z:b=it:=by simpa using hb
   subst z;exact#[_,he,λv z=>by cases (show Data.fields _=Data.cell v from z)]
 keep:=λi h h' st kk=>by obtain⟨ok,ov,he⟩:=st;exact#[ok,ov,kk it (by simp) _ he]
 item:=by
   intro X hP hw hK hc i pins s σ H E I hf st hg;subst hP hw hK;obtain⟨ok,ov,he⟩:=st;obtain⟨hfz,hi⟩:=hg;obtain⟨vs,rel,hD⟩:=qT I hfz hep;have hlen:kvs.length=vs.length:=KV.length rel;have hi':i<vs.length:=by omega
   have rk:kvs[i].1=vs[i].1/\bF kvs[i].2 vs[i].2:=l8 rel hi hi';refine wpAny_pyNext_items_item (knd:=cK X.prog X.w) (k:=vs[i].1) (v:=vs[i].2) (kvs:=vs) (by rw[<- hlen]; exact he) hD (by simp [hi']) λkey h' hkey hout hT hsz hk=>?_;refine#[_,rfl,wpAny_letOwnedTupleGo_items hout λh2 he2 hs2=>?_];have hs2:Heap.SameBut it h' h2:=hs2;have hilt:it<s.heap.objs.size:=Ha he;have hnS:s.heap.objs.size≠it:=J7 hilt;have hfr:H s.heap.objs.size=none:=I.hok.fresh (HN _);have hT2:h2.get? s.heap.objs.size=some { cls:=.type "tuple",data:=.seq (List.toArray [key,vs[i].2]) }:=(hs2.2 _ hnS).trans hT;refine#[.ref s.heap.objs.size,upd H s.heap.objs.size (.tup [kV kvs[i].1,kvs[i].2]),I.turnLaid (t':=s.toks) (ch:=[it]) (λb o hb q=>?_) hf (HN _) ?_,rfl,#[s.heap.objs.size,rfl,hfr,λkv hkv=>?_],#[_,_,by rw[hlen]; exact he2],λb hb=>?_]
   . have h1:b≠it:=λz=>hb (by simp [z]);exact(hs2.2 b h1).trans (hk b o h1 q)
   . exact#[by show 2<=sizeLine; decide,[key,vs[i].2],.cons (by rw[rk.1]; exact w5 hkey) (.cons rk.2 .nil),#[_,hT2,rfl,_,rfl]]
   . have:kvs[i]=kv:=by simpa [hi] using hkv
     rw[<- this]
   . have z:b=it:=by simpa using hb
     subst z;rw[ay hnS.symm];exact(hf _ hb).1
 done:=by
   intro X hP hw hK hc i pins s σ H E I hf st hg;subst hP hw hK;obtain⟨ok,ov,he⟩:=st;obtain⟨hfz,hi⟩:=hg;obtain⟨vs,rel,hD⟩:=qT I hfz hep;have hlen:kvs.length=vs.length:=KV.length rel;refine wpAny_pyNext_items_end (knd:=cK X.prog X.w) (kvs:=vs) (I.ok.hd hc) (by rw[<- hlen]; exact he) hD (by simp; omega) λh' eb=>#[rfl,?_]
   exact I.turnedL (t':=s.toks) (ch:=[it]) (λb o hb q=>eb b o (λz=>hb (by simp [z])) q) hf
 self:=λA i s Q E st h=>by
   obtain⟨ok,ov,he⟩:=st;have hT:s.TypeIs (.ref it) "dict_itemiterator":=#[_,he,rfl]
   exact wpAny_pyIter_slot hT Jr (IN Jr hT FD (show wpAny _ _ (ret (.ref it)) _ _ s from HQ #[_,rfl,"dict_itemiterator",_,hT,F.slot_dict_itemiterator_next.lookup,h]) (F.args_dict_itemiterator_iter_1 _))
section
variable {X:Cx}
def GK (td:TE):TI:=λσ H R=>td σ H λx H1=>∃d kvs,x=.ref d/\((H1 d=some (.dK kvs)/\∀o,R (fg o d kvs) (upd H1 d (.frz o (.dK kvs))))\/∃o,H1 d=some (.frz o (.dK kvs))/\R (fg o d kvs) H1)
theorem ox {l:Expr} {td:TE} {apos cpos tpos:Pos} {k:Nat} (hl:PE X l td) (hbase:attributeBase l "items" X.env (eval l X.env)=eval l X.env:=by rfl) (hline:(apos.endLine==cpos.line)=true:=by rfl) :
   PI X (.Tuple elts k tpos) (.Call (.Attribute l "items" apos) [] [] cpos) (GK td):=by
 intro pins s σ H R I h;refine KN hbase hline (aq (hl pins s σ H _ I h) λv s1 ⟨x,H1,I1,r1,q1⟩=>?_);obtain⟨d,kvs,rfl,q1⟩:=q1;cases r1;have key:∃o H2,Inv X pins σ H2 s1/\H2 d=some (.frz o (.dK kvs))/\R (fg o d kvs) H2:=by
   rcases q1 with⟨e,q⟩|⟨o,e,q⟩
   . obtain⟨o,ho,I2⟩:=I1.freeze e;exact#[o,_,I2,aL,q o]
   . exact#[o,H1,I1,e,q]
 obtain⟨o,H2,I2,e2,q⟩:=key;obtain⟨ho,z,hd,vs,rel,dd⟩:=I2.hok d _ e2;obtain⟨o',es,ep,ho',hx,hdat,r⟩:=id dd;rw[ho] at ho';cases ho';refine#["dict","dict.items",JU,KR,PySem.F.type_dict_items,dd.typeIs,λb q=>?_,Calls.callWith_builtin rfl (PySem.evalArgs_none ?_)]
 . cases q;exact#[o,ho,hx.2.1]
 refine call_meetsIn KR dd.typeIs PySem.F.entry_dict_items (PySem.F.args_dict_items_1 _) (meets_dict_items (cK X.prog X.w) d hd) #[#[vs,dd],?_];have I3:Inv X pins σ H2 { s1 with heap:=s1.heap.push { cls:=.type "dict_items",data:=.fields (List.toArray [.ref d]) } }:=I2.kept (t':=s1.toks) λb o e=>HJ _ e;obtain⟨vs3,rel3,hD3⟩:=qT I3 e2 hdat;refine wpAny_pyIter_items (knd:=cK X.prog X.w) (kvs:=vs3) (ep:=ep) #[_,Hf _ rfl,rfl,rfl] hD3 ?_;have hlen:kvs.length=vs3.length:=KV.length rel3;rw[<- hlen];generalize hh3:s1.heap.push { cls:=.type "dict_items",data:=.fields (List.toArray [.ref d]) }=h3 at I3 ⊢;refine#[h3.objs.size,[h3.objs.size],_,_,H2,rfl,I3.kept (t':=s1.toks) λb o e=>HJ _ e,B0 o d h3.objs.size kvs es ep hdat,#[_,_,Hf _ rfl],λb hb=>?_,q];have z:b=h3.objs.size:=by simpa using hb
 subst z;exact I3.fpOk (HN _) (I3.hok.fresh (HN _))
theorem oO {o:Obj} {d:Addr} {kvs:List (aO×V)} {g:TG} {D:cF} (Pv:Nat->St->Hp->Prop) (h0:Pv 0 σ H) (hl:∀i σ H,i<=kvs.length->Pv i σ H->H d=some (.frz o (.dK kvs)))
   (hs:∀i kv σ H b,kvs[i]?=some kv->Pv i σ H->H b=none->g (.ref b) σ (upd H b (.tup [kV kv.1,kv.2])) λσ2 H2=>tb { D with nx:=Pv (i+1),ct:=Pv (i+1),bk:=D.nx } σ2 H2) (hd:∀σ H,Pv kvs.length σ H->D.nx σ H) :
   ∃W:Nat->Nat->St->Hp->Prop,(∃m,W 0 m σ H)/\∀i m σ H,W i m σ H->((fg o d kvs).stop i H/\D.nx σ H)\/((fg o d kvs).go i H/\∃N:St->Hp->Prop,(∀σ' H',N σ' H'->∃m',m'<m/\W (i+1) m' σ' H')/\∀x H',(fg o d kvs).yld i H x H'->g x σ H' λσ2 H2=>tb { D with nx:=N,ct:=N,bk:=D.nx } σ2 H2):=by
 refine#[λi m σ H=>m=kvs.length - i/\i<=kvs.length/\Pv i σ H,#[kvs.length,by simp,Hl _,h0],?_];rintro i m σ H ⟨rfl,hi,p⟩;have q:=hl i σ H hi p;by_cases hlt:i<kvs.length
 . refine .inr #[#[q,hlt],Pv (i+1),λσ' H' p'=>#[kvs.length - (i+1),by omega,rfl,hlt,p'],λx H' y=>?_];obtain⟨b,rfl,hb,y⟩:=y;rw[y kvs[i] (by simp [hlt])];exact hs i kvs[i] σ H b (by simp [hlt]) p hb
 . have e:i=kvs.length:=by omega
   subst e;exact .inl #[#[q,rfl],hd σ H p]
end
section
variable {X:Cx} {o e f:Expr} {apos cpos:Pos} {td ty tx:TE}
def FF (td ty tx:TE):TE:=λσ H Q=>td σ H λx H1=>∃a,x=.ref a/\qe H1 a/\ty σ H1 λy H2=>tx σ H2 λz H3=>∃kvs k,H3 a=some (.dK kvs)/\y=kV k/\kvs.length<sizeLine /\
 (∀v,bR kvs k=some v->Q v H3)/\(bR kvs k=none->Q z (upd H3 a (.dK (az kvs k z))))
theorem FG (ho:PE X o td) (he:PE X e ty) (hf:PE X f tx) (m:M2 X o "setdefault" apos e f cpos):PE X (.Call (.Attribute o "setdefault" apos) [e,f] [] cpos) (FF td ty tx):=by
 intro pins s σ H Q I h;refine wpAny_Call_method m.base m.few m.line JU Jx PySem.F.type_dict_setdefault (aq (ho pins s σ H _ I h) λu s1 ⟨x,H1,I1,rx,a,ex,d,q1⟩=>?_);subst ex;obtain rfl:u=Value.ref a:=rx;obtain⟨t1,t2,_⟩:=uG I1 d;refine#[t1,t2,?_];rw[m.trees];refine Calls.callWith_builtin rfl (Calls.evalArgs_plain (Calls.spliced_cons (aq (he pins s1 σ H1 _ I1 q1) λiv s2 ⟨y,H2,I2,ry,q2⟩=>Calls.spliced_cons (aq (hf pins s2 σ H2 _ I2 q2) λfv s3 ⟨z,H3,I3,rz,kvs,k,ea,ey,hl,q3,q4⟩=>Calls.spliced_nil ?_))));subst ey;obtain⟨hz,hd,vs,rel,dd⟩:=jn I3.hok ea;refine call_meetsIn Jx dd.typeIs PySem.F.entry_dict_setdefault (PySem.F.args_dict_setdefault_3 _ _ _) (kt_meets_setdefault (cK X.prog X.w) a (gf ry) hd fv) #[vs,dd,by rw[<- rel.length]; exact hz,λv hv=>?_,λhn h' dd' hs=>?_]
 . have rv:=rel.val k;rw[hv] at rv;cases l:bR kvs k with
   | none=>rw[l] at rv; exact absurd rv (by intro z; cases z)
   | some v' =>
     rw[l] at rv;exact#[v',H3,I3.tok _,rv,q3 v' l]
 . have rv:=rel.val k;rw[hn] at rv;have l:bR kvs k=none:=by
     cases l:bR kvs k with
     | none=>rfl
     | some v'=>rw[l] at rv; exact absurd rv (by intro z; cases z)
   have hex:∃q,h'.get? a=some q:=let ⟨q,_,_,hq,_⟩:=dd'; #[q,hq]
   have hlp:(az kvs k z).length<=sizeLine:=by have:=dP kvs k z; omega
   exact#[z,_,k9 I3 (by rw[ea]; exact True.intro) hs hex (lL hlp hd (rel.put k rz) dd'),rz,q4 l]
end
def jb (hi:Int) (n:Nat):It:=#[λi _=>i<n,λi H x H'=>H'=H/\x=.int (hi - i),λi _=>n<=i]
theorem Bs {P:Program} {K:W.Frag} {tg:Expr} (it:Addr) (hi:Int) (n:Nat):Turn P w K tg (jb hi n) [it] it (λi h=>IsRangeIter h it (hi+(i:Nat) * (-1)) ((n:Int) - (i:Nat)) (-1)) where
 mem:=by simp
 obj:=λi h st b hb=>by
   have e:b=it:=by simpa using hb
   subst e;exact#[_,st,λv z=>by cases (show Data.fields _=Data.cell v from z)]
 keep:=λi h h' st k=>k it (by simp) _ st
 item:=by
   intro X hP hw hK hc i pins s σ H E I hf st hg;subst hP hw hK;refine(Walks.range (prog:=X.prog) (w:=X.w) (I.ok.hd hc) it hi (-1) n).item i s _ _ hg st λv h' tk hv st' kk=>?_;obtain⟨t,rfl⟩:=hv;have I1:Inv X pins σ H { s with heap:=h',toks:=tk }:=I.turnedL (ch:=[it]) (λb o hb e=>kk b o hb e) hf;have e:hi+(i:Int) * (-1)=hi - (i:Int):=by omega
   exact#[_,rfl,lj (s:={ s with heap:=h',toks:=tk }) (n:="range_iterator") st' rfl rfl (by decide) #[.int (hi - i),H,I1,#[t,by rw[e]],#[rfl,rfl],st',λb hb=>(hf b hb).1]]
 done:=by intro X hP hw hK hc i pins s σ H E I hf st hg;subst hP hw hK;exact wpAny_pyNext_range_end (I.ok.hd hc) st (by have:n<=i:=hg; omega) λh' eb=>#[rfl,I.turnedL (t':=s.toks) (ch:=[it]) (λb o hb e=>eb b o (λz=>hb (by simp [z])) e) hf]
 self:=λ_ _ _ _ _ st h=>wpAny_pyIter_rangeiter st h
theorem wA (a b:Int):Builtin.Range.rangeSize a b (-1)=if b<a then a - b else 0:=by
 unfold Builtin.Range.rangeSize;rw[HI (by decide)];have:(-(-1):Int)=1:=by decide
 rw[this];rw[Int.ediv_one];by_cases h:b<a
 . rw[HR h,HR h]; omega
 . rw[HI h,HI h]
theorem AR {a b:Int} (ha:-(2 ^ 60)<=a) (ha':a<2 ^ 60) (hb:-(2 ^ 60)<=b) (hb':b<2 ^ 60):Builtin.Range.small a b (-1)=true:=by
 unfold Builtin.Range.small;rw[wA];simp only[Builtin.Range.rangeFitsLong,Hr,Bool.or_eq_true,Ia,KC,show ¬ ((-1:Int) > 0) by decide,if_false];by_cases h:b<a
 . simp only[HR h]; omega
 . simp only[HI h]; omega
section
variable {X:Cx} {tg:Expr}
def zk (ta:TA):TI:=λσ H R=>ta σ H λvs H1=>∃i j:Int,vs=[.int i,.int j,.int (-1)]/\(-(2 ^ 60)<=i/\i<2 ^ 60/\-(2 ^ 60)<=j/\j<2 ^ 60)/\R (jb i (i - j).toNat) H1
theorem Er {a b c:Expr} {ta:TA} {p:Pos}(hg:Gl X "range") (hm:X.mg "range"=none) (ha:PA X [a,b,c] ta) (hs:starEach [a,b,c] X.env=(false,eval a X.env) :: starEach [b,c] X.env:=by rfl) (hs2:(backTo pos (starEach [b,c] X.env)).any (·.1)=false:=by rfl) :
   PI X tg (.Call (.Name "range" p) [a,b,c] [] pos) (zk ta):=by
 intro pins s σ H R I h;refine Call_ (gF I hg hm boot_range (IE (aq (ha pos pins s σ H _ I h) λus s1 ⟨vs,H1,I1,r1,q1⟩=>?_) hs hs2));obtain⟨i,j,e,⟨q1,q2,q3,q4⟩,q⟩:=q1;subst e;cases r1 with
 | cons r rr =>
   cases rr with
   | cons r' rr =>
     cases rr with
     | cons r'' rr =>
       cases rr;obtain⟨t,rfl⟩:=r;obtain⟨t',rfl⟩:=r';obtain⟨t'',rfl⟩:=r'';refine call_range_3 (by decide) ?_ (.inl (PyProof.noPylong_small (by omega)));refine wpAny_pyIter_range (IsRange.new ..) (AR q1 q2 q3 q4) ?_;have I2:Inv X pins σ H1 { s1 with heap:=s1.heap.push { cls:=.type "range",data:=.fields (List.toArray [.int i t,.int j t',.int (-1) t'']) },toks:=s1.toks }:=I1.kept λb o e=>HJ _ e;refine#[_,[(s1.heap.push { cls:=.type "range",data:=.fields (List.toArray [.int i t,.int j t',.int (-1) t'']) }).objs.size],_,_,H1,rfl,I2.kept (t':=s1.toks) λb o e=>HJ _ e,Bs _ i (i - j).toNat,?_,λb hb=>?_,q]
       . have e1:i+((0:Nat):Int) * (-1)=i:=by omega
         have e2:(((i - j).toNat:Nat):Int) - ((0:Nat):Int)=Builtin.Range.rangeSize i j (-1):=by rw[wA]; split <;> omega
         show IsRangeIter _ _ (i+((0:Nat):Int) * (-1)) ((((i - j).toNat:Nat):Int) - ((0:Nat):Int)) (-1);rw[e1,e2];exact Hf _ rfl
       . have e:b=(s1.heap.push { cls:=.type "range",data:=.fields (List.toArray [.int i t,.int j t',.int (-1) t'']) }).objs.size:=by simpa using hb
         subst e;exact I2.fpOk (HN _) (I2.hok.fresh (HN _))
theorem GI {hi:Int} {n:Nat} {g:TG} {D:cF} (Pv:Nat->St->Hp->Prop) (h0:Pv 0 σ H) (hs:∀i σ H,i<n->Pv i σ H->g (.int (hi - i)) σ H λσ2 H2=>tb { D with nx:=Pv (i+1),ct:=Pv (i+1),bk:=D.nx } σ2 H2) (hd:∀σ H,Pv n σ H->D.nx σ H) :
   ∃W:Nat->Nat->St->Hp->Prop,(∃m,W 0 m σ H)/\∀i m σ H,W i m σ H->((jb hi n).stop i H/\D.nx σ H)\/((jb hi n).go i H/\∃N:St->Hp->Prop,(∀σ' H',N σ' H'->∃m',m'<m/\W (i+1) m' σ' H')/\∀x H',(jb hi n).yld i H x H'->g x σ H' λσ2 H2=>tb { D with nx:=N,ct:=N,bk:=D.nx } σ2 H2):=by
 refine#[λi m σ H=>m=n - i/\i<=n/\Pv i σ H,#[n,by simp,Hl _,h0],?_];rintro i m σ H ⟨rfl,hi',p⟩;by_cases hlt:i<n
 . refine .inr #[hlt,Pv (i+1),λσ' H' p'=>#[n - (i+1),by omega,rfl,hlt,p'],λx H' y=>?_];obtain⟨e,y⟩:=y;subst e y;exact hs i σ _ hlt p
 . have e:i=n:=by omega
   subst e;exact .inl #[HN _,hd σ H p]
end
def vP (K:W.Frag):R2:=λx y H Q=>∃a b ys,x=.ref a/\y=.ref b/\aG K H a []/\aG K H b ys/\Q (.ref b) H
theorem DV {X:Cx}:bW X (binaryOp .Add) (vP X.K):=by
 intro pins s σ H x y v u Q I rx ry h;obtain⟨a,b,ys,rfl,rfl,ha,hb,q⟩:=h;cases rx;cases ry;obtain⟨its,r1,p1,_⟩:=I.tuple ha;obtain⟨its2,r2,p2,_⟩:=I.tuple hb;obtain⟨⟨cls,dd,data,sl⟩,ho,hc,n,hd⟩:=id p1;obtain⟨⟨cls2,dd2,data2,sl2⟩,ho2,hc2,n2,hd2⟩:=id p2;simp only at hc hd hc2 hd2;subst hc hd hc2 hd2;exact concat_meets #[_,ho,rfl] #[_,ho2,rfl] noFill_tuple_add seq_tuple_add Jd JT (JQ _ _)
   (tuple_addW0 a b its.toArray its2.toArray n n2 dd dd2 sl sl2 (by simp [r1.nil_iff.mpr rfl])) #[ho,ho2,#[.ref b,H,I,rfl,q]]
theorem zR {X:Cx} {st:Stmt} {rest:List Stmt} {t u:TS} (h1:PS X st t) (h2:bV X rest u):bV X (st :: rest) (λD σ H=>∃M:St->Hp->Prop,t { D with nx:=M } σ H/\∀σ' H',M σ' H'->u D σ' H'):=by
 intro pins s σ H D I h;obtain⟨M,h,hm⟩:=h;refine KF (aq (h1 pins s σ H { D with nx:=M } I h) λf s1 q=>?_);cases f with
 | next =>
   obtain⟨σ',H',I',q⟩:=q;exact h2 pins s1 σ' H' D I' (hm _ _ q)
 | ret v=>exact q
 | brk=>exact q
 | cont=>exact q
end L2
namespace L2
open PySem PySem.Spec PyProof.Rows PySem.W
theorem Paired.len {α β:Type} {R:α->β->Prop}:∀{xs:List α} {ys:List β},Paired R xs ys->xs.length=ys.length
 | _,_,.nil=>rfl
 | _,_,.cons _ r=>by rw[Hh,Hh,Paired.len r]
def zg:List V->Hp->VK->Prop:=λxs H Q=>∃a kvs,xs=[.ref a]/\H a=some (.dK kvs)/\∀d,H d=none->Q (.ref d) (upd H d (.dK kvs))
theorem EA {X:Cx}:bx X (.type "dict") zg:=by intro pins s σ H xs us Q I r h;obtain⟨a,kvs,rfl,hH,q⟩:=h;obtain⟨u,rfl,ru⟩:=gK r;cases (show u=Value.ref a from ru);obtain⟨z,ha,vs,rel,da⟩:=I.hok a _ hH;refine kt_call_dict ha da (by rw[<- Paired.len rel]; exact z) λh' hm hs=>?_;have hk:∀b u,s.heap.get? b=some u->h'.get? b=some u:=λb u e=>hs.extBut b u (Hw (Ha e)) (HJ _ e);exact#[.ref s.heap.objs.size,_,I.laid (a:=s.heap.objs.size) (o:=.dK kvs) (t':=s.toks) hk (HN _) #[z,beq_eq_false_iff_ne.mpr (Ne.symm (Hw I.big)),vs,rel,hm],rfl,q _ (I.hok.fresh (HN _))]
end L2
namespace L2
open PySem PySem.Spec PyProof.Rows
def bJ (n:Nat) (d:PyData):Prop:=PyData.canLay0 d=true/\PyData.depth d<=n
variable {n:Nat}
theorem bJ.int (i:Int):bJ n (.int i):=#[by unfold PyData.canLay0; rfl,by unfold PyData.depth; exact Hl _]
theorem bJ.bool (b:Bool):bJ n (.bool b):=#[by unfold PyData.canLay0; rfl,by unfold PyData.depth; exact Hl _]
theorem bJ.none :bJ n .none:=#[by unfold PyData.canLay0; rfl,by unfold PyData.depth; exact Hl _]
theorem bJ.str {x:Str} (h:PyData.strOk x=true):bJ n (.str x):=#[by unfold PyData.canLay0; exact h,by unfold PyData.depth; exact Hl _]
theorem pR {n:Nat}:∀{ds:List PyData},(∀d∈ds,bJ n d)->PyData.canLayAll0 ds=true/\PyData.depthAll ds<=n
 | [],_=>#[by unfold PyData.canLayAll0; rfl,by unfold PyData.depthAll; exact Hl _]
 | d :: ds,h=>by
   have h1:=h d HS;have h2:=pR (λx hx=>h x (HZ _ hx));constructor
   . unfold PyData.canLayAll0; rw[h1.1,h2.1]; rfl
   . unfold PyData.depthAll; exact Nat.max_le.mpr #[h1.2,h2.2]
theorem bJ.list {ds:List PyData} (h:∀d∈ds,bJ n d):bJ (n+1) (.list ds):=by have h2:=pR h;exact#[by unfold PyData.canLay0; exact h2.1,by unfold PyData.depth; have:=h2.2; omega]
theorem bJ.tuple {ds:List PyData} (h:∀d∈ds,bJ n d):bJ (n+1) (.tuple ds):=by have h2:=pR h;exact#[by unfold PyData.canLay0; exact h2.1,by unfold PyData.depth; have:=h2.2; omega]
theorem bJ.shaped {n:Nat} {d:PyData} (h:bJ n d) (hn:n<=64):SeqAt.shaped d=true:=by unfold SeqAt.shaped;rw[h.1,HK (Ht h.2 hn)];rfl
theorem bJ.refl {d:PyData} (h:bJ n d):PyData.eqv d d=true:=SeqAt.eqv_refl d h.1
theorem bJ.mono {m:Nat}{d:PyData} (h:bJ n d) (hn:n<=m):bJ m d:=#[h.1,Ht h.2 hn]
variable {H:Hp}
theorem AC {K:W.Frag} {x y:V} {Q:VK} {d:PyData} (hn:n<=64) (l:bJ n d) (hx:bH K H d x) (hy:bH K H d y) (q:Q (.bl true) H):jR K x y H Q :=
 #[d,d,hx,hy,l.shaped hn,l.shaped hn,by rw[l.refl]; exact q]
mutual
theorem bH.mono {K:W.Frag} {H H':Hp} (e:aC H H'):∀(d:PyData) (v:V),bH K H d v->bH K H' d v
 | .none,v,h=>by unfold bH at h ⊢; exact h
 | .bool b,v,h=>by unfold bH at h ⊢; exact h
 | .int i,v,h=>by unfold bH at h ⊢; exact h
 | .str x,v,h=>by unfold bH at h ⊢; exact h
 | .list ds,v,h=>by unfold bH at h ⊢;obtain⟨a,xs,rfl,hq,hd⟩:=h;exact#[a,xs,rfl,e.seq hq,bT.mono e ds xs hd]
 | .tuple ds,v,h=>by unfold bH at h ⊢;obtain⟨a,xs,rfl,hq,hd⟩:=h;exact#[a,xs,rfl,e.tup hq,bT.mono e ds xs hd]
 | .dict _,v,h=>by unfold bH at h; exact h.elim
theorem bT.mono {K:W.Frag} {H H':Hp} (e:aC H H'):∀(ds:List PyData) (xs:List V),bT K H ds xs->bT K H' ds xs
 | [],xs,h=>by unfold bT at h ⊢; exact h
 | d :: ds,xs,h=>by unfold bT at h ⊢;obtain⟨x,r,rfl,hd,hds⟩:=h;exact#[x,r,rfl,bH.mono e d x hd,bT.mono e ds r hds]
end
def ers (l:Addr) (H:Hp):Hp:=λb=>if b=l then none else H b
theorem c9 {l b:Addr} (h:b≠l):ers l H b=H b:=by unfold ers; rw[HI h]
theorem dH {l:Addr} :aC (ers l H) H:=λb o h=>by
 unfold ers at h;split at h
 . cases h
 . exact h
theorem gg {l:Addr} {o:HO}:ers l (upd H l o)=ers l H:=by funext b;unfold ers upd;split <;> rfl
theorem aC.ers {l:Addr} {H H':Hp} (e:aC H H'):aC (ers l H) (ers l H'):=λb o h=>by
 unfold L2.ers at h ⊢;split at h
 . cases h
 . rename_i hb
   rw[HI hb];exact e b o h
section
variable {g:TG} {tif:TT} {te:TE} {js:List (Option Nat)} {σ:St} {H:Hp} {Q:VK}
theorem DY {lo:Int} {p:Addr} (f:Nat->V) (hn:n<=1000000) (hp:H p=none)
   (hs:∀i H2 (R:VK),i<n->aC H H2->R (f i) H2->g (.int (lo+i)) (cE js σ) H2 λσ2 H3=>tif σ2 H3 λc H4=>if c=true then te σ2 H4 R else False)
   (hd:∀H2,aC H H2->H2 p=some (.lst ((List.range n).map f))->Q (.ref p) H2) (mono:∀x H2 (M M':St->Hp->Prop),(∀σ' H',M σ' H'->M' σ' H')->g x (cE js σ) H2 M->g x (cE js σ) H2 M':=by intro _ _ _ _ h z; exact h _ _ z) (mon2:∀σ2 H2 (M M':Bool->Hp->Prop),(∀c H',M c H'->M' c H')->tif σ2 H2 M->tif σ2 H2 M':=by intro _ _ _ _ h z; exact h _ _ z) :
   gT (gR lo n) g tif te js σ Q p H:=by
 refine oU hn (λi acc H2=>aC H H2/\H2 p=some (.lst acc)/\acc=(List.range i).map f) #[aC.new hp,aL,rfl] ?_ ?_ ?_
 . rintro i acc H2 hi ⟨s2,e2,rfl⟩;exact#[e2,by rw[HH,J3]; exact HN _]
 . rintro i acc H2 hi ⟨s2,e2,rfl⟩;refine mono _ _ _ _ (λσ' H' z=>?_) (hs i H2 (λy H5=>H5 p=some (.lst ((List.range i).map f))/\(aC H (upd H5 p (.lst ((List.range i).map f++[y])))/\upd H5 p (.lst ((List.range i).map f++[y])) p=some (.lst ((List.range i).map f++[y]))/\(List.range i).map f++[y]=(List.range (i+1)).map f)) hi s2 #[e2,s2.upd hp,aL,?_])
   . refine mon2 _ _ _ _ (λc H'' zz=>?_) z;cases c with
     | true=>exact zz
     | false=>exact zz.elim
   . rw[List.range_succ,Hk];rfl
 . rintro acc H2 ⟨s2,e2,rfl⟩;exact hd H2 s2 e2
end
end L2
namespace Gx
open PySem L2
theorem dh:0<=sizeLine:=by decide
theorem cN:1<=sizeLine:=by decide
theorem aw:2<=sizeLine:=by decide
theorem cU:3<=sizeLine:=by decide
theorem dZ:4<=sizeLine:=by decide
theorem le5:5<=sizeLine:=by decide
theorem le6:6<=sizeLine:=by decide
theorem cG {n:Nat} (h:n<1000000):n<=sizeLine:=by
 have:(1000000:Nat)<sizeLine:=by decide
 omega
theorem ai {x:V} {r:List V}:bQ (x :: r) 0=some x:=by unfold bQ ca;rw[HR (by decide),HR (by simp)];rfl
theorem gd (z n:Int) (h:0<n):0<=z%n/\z%n<n:=#[Iy _ (by omega),Ii _ h]
theorem zy {α:Type} {es:List α} {f:α->V} {i:Nat} {x:V} (h:(es.map f)[i]?=some x):∃e,es[i]?=some e/\e∈es/\x=f e:=by
 rw[HW] at h;cases he:es[i]? with
 | none=>rw[he] at h; cases h
 | some e=>rw[he] at h; cases h; exact#[e,rfl,HP he,rfl]
end Gx
namespace L2
open PySem PySem.Spec PyProof.Rows
def Gq (K:W.Frag) (ta:TE):TT:=λσ H Q=>ta σ H λx H'=>∃k,qg K x H' k/\Q k H'
theorem jS {X:Cx} {K:W.Frag} {a:Expr} {ta:TE} (hK:X.K=K) (ha:PE X a ta) (he:∀whole,isTrue a X.env whole=(do let v <- whole; standAt a.pos; holding [v] (truthy v))):PT X a (Gq K ta):=by subst hK;exact AK ha he
end L2
namespace Gx
open PySem L2
def tx (l:List Nat):Str:=#[l.toArray]
theorem jP (l:List Nat):(tx l).cps.toList=l:=by unfold tx; simp
theorem ff (l:List Nat):(tx l).length=l.length:=by unfold tx Str.length; simp
theorem jq (a b:List Nat):tx a++tx b=tx (a++b):=by show(#[_++_]:Str)=_;unfold tx;simp
theorem kq {a b:List Nat} (h:tx a=tx b):a=b:=by rw[<- jP a,h,jP]
theorem GO (y:Str) (ys:List Str):PySem.Txt.join "" (y :: ys)=y++PySem.Txt.join "" ys:=by
 show PySem.Builtin.Str.glued ("":Str) (y :: ys)=y++PySem.Builtin.Str.glued ("":Str) ys;rw[PySem.StrLaws.glued_eq_join,PySem.StrLaws.glued_eq_join];cases ys with
 | nil =>
   show y=y++Str.empty;cases y;show _=(#[_++(List.toArray [])]:Str);simp
 | cons z zs =>
   show y++""++Str.join "" (z :: zs)=_;have:y++("":Str)=y:=by cases y;show(#[_++(List.toArray [])]:Str)=_;simp
   rw[this]
theorem sL:∀(ls:List (List Nat)),PySem.Txt.join "" (ls.map tx)=tx ls.flatten
 | []=>by show PySem.Builtin.Str.glued ("":Str) []=_;rw[PySem.StrLaws.glued_eq_join];rfl
 | l :: ls=>by rw[Ho,GO,sL ls,jq,Ip]
end Gx
namespace L2
open PySem PySem.Spec PyProof.Rows
def jQ (K:W.Frag) (a:Addr):It :=
 #[λi H=>∃xs x,aK K H a xs/\xs[i]?=some x,λi H y H'=>∃b,y=.ref b/\H b=none/\∀xs x,aK K H a xs->xs[i]?=some x->H'=upd H b (.tup [.int i,x]),λi H=>∃xs,aK K H a xs/\xs.length=i]
theorem E1 {P:Program} {w:World} {K:W.Frag} {elts:List Expr} {k:Nat} {pos:Pos} (a e it:Addr) (hne:e≠it):Turn P w K (.Tuple elts k pos) (jQ K a) [e,it] e (λi h=>(∃old,IsEnum h e it i old)/\h.IsListIter it a i) where
 mem:=by simp
 obj:=λi h st b hb=>by
   obtain⟨⟨old,he⟩,⟨o,ho,hc,hd⟩⟩:=st;rcases HV.mp hb with z|z
   . subst z;exact#[_,he,λv z=>by cases (show Data.fields _=Data.cell v from z)]
   . have z:b=it:=by simpa using z
     subst z;exact#[o,ho,λv z=>by rw[hd] at z; cases z]
 keep:=λi h h' st kk=>by obtain⟨⟨old,he⟩,⟨o,ho,r⟩⟩:=st;exact#[#[old,kk e (by simp) _ he],#[o,kk it (by simp) o ho,r]]
 item:=by
   intro X hP hw hK hc i pins s σ H E I hf st hg;subst hP hw hK;obtain⟨⟨old,he⟩,hit⟩:=st;obtain⟨xs,x,hq,hx⟩:=hg;obtain⟨its,rv,p,hz⟩:=I.list hq;have pt:s.heap.IsList a its.toArray:=p.isList;obtain⟨u,hu,ru⟩:=rv.get hx;have hia:a≠it:=λz=>by
     subst z;obtain⟨o1,h1,c1,_⟩:=hit;obtain⟨o2,h2,c2,_⟩:=pt;rw[h1] at h2;cases h2;rw[c1] at c2;injection c2 with c2
     exact absurd c2 (by decide)
   have hea:e ∉ [it,a]:=λz=>by
     rcases HV.mp z with z|z
     . exact hne z
     . have z:e=a:=by simpa using z
       subst z;obtain⟨o2,h2,c2,_⟩:=pt;rw[he] at h2;cases h2;injection (show Value.type "enumerate"=Value.type "list" from c2) with c2
       exact absurd c2 (by decide)
   have hlt:i<its.toArray.size:=by have:=(HL.mp hu).1;simpa using this
   refine KQ (Draws.list (A:=X.A.in1) (I.ok.hd hc) it a hia its.toArray) he #[hit,pt] hlt hne hea λy h' tk hy hout hst hT hsz hk=>?_;refine#[_,rfl,K5 hout λh2 he2 hs2=>?_];have hs2:Heap.SameBut e h' h2:=hs2;have hyu:y=u:=by
     have hy:its.toArray[i]?=some y:=hy;have:its[i]?=some y:=by simpa using hy
     rw[hu] at this;exact(Option.some.inj this).symm
   subst hyu;have helt:e<s.heap.objs.size:=Ha he;have hfr:H s.heap.objs.size=none:=I.hok.fresh (HN _);have hnS:s.heap.objs.size≠e:=J7 helt;have hT2:h2.get? s.heap.objs.size=some { cls:=.type "tuple",data:=.seq (List.toArray [.int i tk,y]) }:=(hs2.2 _ hnS).trans hT;refine#[.ref s.heap.objs.size,upd H s.heap.objs.size (.tup [.int i,x]),I.turnLaid (t':=tk+1) (ch:=[e,it]) (λb o hb q=>?_) hf (HN _) ?_,rfl,#[s.heap.objs.size,rfl,hfr,λxs' x' hq' hx'=>?_],#[#[y,by exact_mod_cast he2],?_],λb hb=>?_]
   . have h1:b≠e:=λz=>hb (by simp [z]);have h3:b≠it:=λz=>hb (by simp [z]);exact(hs2.2 b h1).trans (hk b o h1 h3 q)
   . exact#[by show 2<=sizeLine; decide,[.int i tk,y],.cons #[tk,rfl] (.cons ru .nil),#[_,hT2,rfl,_,rfl]]
   . have:=I.list_inj hq' hq;subst this;rw[hx] at hx';cases hx';rfl
   . obtain⟨⟨o,ho,r⟩,_⟩:=hst;exact#[o,(hs2.2 it hne.symm).trans ho,r]
   . have hb0:=(hf b hb).1;rw[ay]
     . exact hb0
     . intro z;subst z;obtain⟨o,ho,_⟩:=hit;rcases HV.mp hb with z|z
       . exact hnS z
       . have z:s.heap.objs.size=it:=by simpa using z
         exact absurd (Ha ho) (by rw[<- z]; exact IC _)
 done:=by
   intro X hP hw hK hc i pins s σ H E I hf st hg;subst hP hw hK;obtain⟨⟨old,he⟩,hit⟩:=st;obtain⟨xs,hq,hx⟩:=hg;obtain⟨its,rv,p,hz⟩:=I.list hq;have pt:s.heap.IsList a its.toArray:=p.isList;have hl:=rv.length;have hia:a≠it:=λz=>by
     subst z;obtain⟨o1,h1,c1,_⟩:=hit;obtain⟨o2,h2,c2,_⟩:=pt;rw[h1] at h2;cases h2;rw[c1] at c2;injection c2 with c2
     exact absurd c2 (by decide)
   have hi:i=its.toArray.size:=by simp; omega
   refine wpAny_pyNext_enum_endD (Draws.list (A:=X.A.in1) (I.ok.hd hc) it a hia its.toArray) he (by rw[<- hi]; exact#[hit,pt]) λh' eb=>#[rfl,?_]
   exact I.turnedL (t':=s.toks) (ch:=[e,it]) (λb o hb q=>eb b o (λz=>hb (by simp [z])) q) hf
 self:=λ_ _ _ _ _ st h=>by obtain⟨⟨old,he⟩,_⟩:=st;exact JZ he h
section
variable {X:Cx}
def Ee (K:W.Frag) (ta:TA):TI:=λσ H R=>ta σ H λvs H1=>∃a,vs=[.ref a]/\(∃xs,aK K H1 a xs)/\R (jQ K a) H1
theorem Ac {a:Expr} {ta:TA} {p pos tpos:Pos} {elts:List Expr} {k:Nat} (hg:Gl X "enumerate") (hm:X.mg "enumerate"=none) (ha:PA X [a] ta) (hs:starEach [a] X.env=[(false,eval a X.env)]:=by rfl):PI X (.Tuple elts k tpos) (.Call (.Name "enumerate" p) [a] [] pos) (Ee X.K ta):=by
 intro pins s σ H R I h;refine Call_ (gF I hg hm wY (IE (aq (ha pos pins s σ H _ I h) λus s1 ⟨vs,H1,I1,r1,q1⟩=>?_) hs rfl));obtain⟨a,e,⟨xs,hq⟩,q⟩:=q1;subst e;cases r1 with
 | cons r rr =>
   cases rr;cases r;obtain⟨its,rv,p,hz⟩:=I1.list hq;refine call_enumerate_list p.isList λh' he hit _ hk=>?_;refine JZ he ?_;refine#[s1.heap.objs.size+1,[s1.heap.objs.size+1,s1.heap.objs.size],_,_,H1,rfl,I1.kept (t':=s1.toks) hk,E1 a (s1.heap.objs.size+1) s1.heap.objs.size (Nat.succ_ne_self _),#[#[.none,he],hit],λb hb=>?_,q];rcases HV.mp hb with z|z
   . subst z;exact I1.fpOk (Jc _) (I1.hok.fresh (Jc _))
   . have z:b=s1.heap.objs.size:=by simpa using z
     subst z;exact I1.fpOk (HN _) (I1.hok.fresh (HN _))
theorem Gj {K:W.Frag} {a:Addr} {xs:List V} {g:TG} {tb:TS} {D:cF} {σ:St} {H:Hp} (Pv:Nat->St->Hp->Prop) (h0:Pv 0 σ H) (hl:∀i σ H,i<=xs.length->Pv i σ H->aK K H a xs)
   (hs:∀i x σ H b,xs[i]?=some x->Pv i σ H->H b=none->g (.ref b) σ (upd H b (.tup [.int i,x])) λσ2 H2=>tb { D with nx:=Pv (i+1),ct:=Pv (i+1),bk:=D.nx } σ2 H2) (hd:∀σ H,Pv xs.length σ H->D.nx σ H) :
   ∃W:Nat->Nat->St->Hp->Prop,(∃m,W 0 m σ H)/\∀i m σ H,W i m σ H->((jQ K a).stop i H/\D.nx σ H)\/((jQ K a).go i H/\∃N:St->Hp->Prop,(∀σ' H',N σ' H'->∃m',m'<m/\W (i+1) m' σ' H')/\∀x H',(jQ K a).yld i H x H'->g x σ H' λσ2 H2=>tb { D with nx:=N,ct:=N,bk:=D.nx } σ2 H2):=by
 refine#[λi m σ H=>m=xs.length - i/\i<=xs.length/\Pv i σ H,#[xs.length,by simp,Hl _,h0],?_];rintro i m σ H ⟨rfl,hi,p⟩;have q:=hl i σ H hi p;by_cases hlt:i<xs.length
 . refine .inr #[#[xs,xs[i],q,by simp [hlt]],Pv (i+1),λσ' H' p'=>#[xs.length - (i+1),by omega,rfl,hlt,p'],λx H' y=>?_];obtain⟨b,rfl,hb,y⟩:=y;rw[y xs xs[i] q (by simp [hlt])];exact hs i xs[i] σ H b (by simp [hlt]) p hb
 . have e:i=xs.length:=by omega
   subst e;exact .inl #[#[xs,q,rfl],hd σ H p]
end
end L2
namespace PySem
open Sem (wp)
def bZ (b:Bool) (h:Heap) (it l:Addr) (k:Nat):Prop:=match b with|true=>h.IsTupleIter it l k|false=>h.IsListIter it l k
def bz (b:Bool) (h:Heap) (l:Addr) (xs:Array Value):Prop:=match b with|true=>h.IsTuple l xs|false=>h.IsList l xs
variable {b:Bool} {h h':Heap} {it l:Addr}
theorem bZ.at {k:Nat} (p:bZ b h it l k) (e:∀o,h.get? it=some o->h'.get? it=some o):bZ b h' it l k:=by cases b <;> (obtain⟨o,ho,r⟩:=p; exact#[o,e o ho,r])
variable {xs:Array Value}
theorem bz.at (p:bz b h l xs) (e:∀o,h.get? l=some o->h'.get? l=some o):bz b h' l xs:=by cases b <;> (obtain⟨o,ho,r⟩:=p; exact#[o,e o ho,r])
theorem bZ.extBut {c:Addr}{k:Nat} (p:bZ b h it l k) (e:Heap.ExtBut c h h') (n:it≠c):bZ b h' it l k:=p.at λo ho=>e _ _ n ho
theorem bz.extBut {c:Addr}(p:bz b h l xs) (e:Heap.ExtBut c h h') (n:l≠c):bz b h' l xs:=p.at λo ho=>e _ _ n ho
theorem bZ.lt {k:Nat} (p:bZ b h it l k):it<h.objs.size:=by cases b <;> (obtain⟨o,ho,r⟩:=p; exact Ha ho)
variable {b1 b2:Bool} {z i1 i2 l1 l2:Addr} {k1 k2:Nat} {ys:Array Value}
section
variable {prog:Program} {w:World} {A:Around} {E:Value->Shared->Prop} {s:Shared}
theorem ij {i:Nat} {items:Array Value} {x:Value} {Q:Value->Shared->Prop} (p:bZ b s.heap it l i) (q:bz b s.heap l items) (hx:items[i]?=some x)
   (hQ:∀h',bZ b h' it l (i+1)->Heap.SameBut it s.heap h'->Q x { s with heap:=h' }):wpAny (model prog w) A (Builtin.SmallTypes.nextOf (.ref it)) Q E s:=by
 cases b with
 | true=>exact L2.gx_nextOf_tup p q hx hQ
 | false=>exact wpAny_nextOf_list_item p q hx hQ
theorem lr {i:Nat} {items:Array Value} {Q:Value->Shared->Prop} (hh:A.handled=none) (p:bZ b s.heap it l i) (q:bz b s.heap l items) (hx:items[i]?=none)
   (hE:∀h' e,Heap.ExtBut it s.heap h'->(∃o,h'.get? e=some o/\o.cls=.type "StopIteration")->E (.ref e) { s with heap:=h' }):wpAny (model prog w) A (Builtin.SmallTypes.nextOf (.ref it)) Q E s:=by
 cases b with
 | true=>exact L2.gx_nextOf_tup_end hh p q hx hE
 | false=>exact wpAny_nextOf_list_end hh p q hx hE
theorem AE {TI TO:Addr}{x y a b:Value} {Q:Value->Shared->Prop} (D:ZipApart z TI TO i1 i2 l1 l2)
   (zZ:IsZip s.heap z TI TO .none) (zI:IsPair s.heap TI (.ref i1) (.ref i2)) (zO:IsPair s.heap TO a b)
   (p1:bZ b1 s.heap i1 l1 k1) (p2:bZ b2 s.heap i2 l2 k2) (q1:bz b1 s.heap l1 xs) (q2:bz b2 s.heap l2 ys) (hx:xs[k1]?=some x) (hy:ys[k2]?=some y)
   (hQ:∀h',IsZip h' z TI TO (rawInt s.heap.objs.size)->IsPair h' TO x y->bZ b1 h' i1 l1 (k1+1)->bZ b2 h' i2 l2 (k2+1)->IsPair h' s.heap.objs.size x y->h'.objs.size=s.heap.objs.size+1 ->
     (∀c o,c≠z->c≠TO->c≠i1->c≠i2->s.heap.get? c=some o->h'.get? c=some o)->Q (.ref s.heap.objs.size) { s with heap:=h' }) :
   wpAny (model prog w) A (Builtin.«zip.__next__» #[[.ref z],[]]) (λfin s'=>∃v,fin=.done (.ret v)/\Q v s') E s:=by
 show wpAny _ _ (field (.ref z) 2 >>= _) _ _ _; refine HG (IA zZ rfl (x:=.bool false) rfl ?_); show wpAny _ _ (field (.ref z) 3 >>= _) _ _ _; refine HG (IA zZ rfl (x:=.ref TI) rfl ?_); refine HG (IZ zI rfl ?_); show wpAny _ _ (Builtin.SmallTypes.ownedTupleIsFree (.ref z) >>= _) _ _ _; refine HG ?_; unfold Builtin.SmallTypes.ownedTupleIsFree; refine HG (IA zZ rfl (x:=.none) rfl (HQ ?_)); simp only[if_true]; refine HG (Jn ?_); refine HG (IA zZ rfl (x:=.ref TO) rfl ?_);refine HG (Ij zZ (by simp) λh₁ zZ₁ hs₁=>?_); replace zZ₁:IsZip h₁ z TI TO .ellipsis:=zZ₁; refine HG ?_; simp only[List.zipIdx_cons,List.zipIdx_nil,JN,Jy];refine HG (HG (K6 ?_)); show wpAny _ _ (Builtin.SmallTypes.nextOf (.ref i1) >>= _) _ _ _; refine HG (ij (p1.extBut hs₁.extBut D.i1z) (q1.extBut hs₁.extBut D.l1z) hx λh₂ h1₂ hs₂=>HQ ?_); have hTO₂:IsPair h₂ TO a b:=hs₂.extBut _ _ D.TOi1 (hs₁.extBut _ _ D.TOz zO); refine HG (IZ hTO₂ rfl ?_); refine HG (Jo hTO₂ λh₃ hTO₃ hs₃=>?_); replace hTO₃:IsPair h₃ TO x b:=hTO₃; refine HG (wpAny_letGo (HQ ?_))
 refine HG (HG (K6 ?_)); show wpAny _ _ (Builtin.SmallTypes.nextOf (.ref i2) >>= _) _ _ _; refine HG (ij (((p2.extBut hs₁.extBut D.i2z).extBut hs₂.extBut D.i12.symm).extBut hs₃.extBut D.TOi2.symm)
   (((q2.extBut hs₁.extBut D.l2z).extBut hs₂.extBut D.l2i1).extBut hs₃.extBut D.l2TO) hy λh₄ h2₄ hs₄=>HQ ?_)
 have hTO₄:IsPair h₄ TO x b:=hs₄.extBut _ _ D.TOi2 hTO₃; refine HG (IZ hTO₄ rfl ?_); refine HG (Jo hTO₄ λh₅ hTO₅ hs₅=>?_); replace hTO₅:IsPair h₅ TO x y:=hTO₅; refine HG (wpAny_letGo (HQ (HQ ?_)));refine HG (IZ hTO₅ rfl ?_); refine HG (wpAny_newTuple ?_); have hsz:h₅.objs.size=s.heap.objs.size:=(by rw[hs₅.1,hs₄.1,hs₃.1,hs₂.1,hs₁.1]); have hz₅:IsZip h₅ z TI TO .ellipsis:=hs₅.extBut _ _ D.TOz.symm (hs₄.extBut _ _ D.i2z.symm (hs₃.extBut _ _ D.TOz.symm (hs₂.extBut _ _ D.i1z.symm zZ₁))); have hk₅:∀c o,c≠z->c≠TO->c≠i1->c≠i2->s.heap.get? c=some o->h₅.get? c=some o:=λc o c1 c2 c3 c4 e =>
   hs₅.extBut _ _ c2 (hs₄.extBut _ _ c4 (hs₃.extBut _ _ c2 (hs₂.extBut _ _ c3 (hs₁.extBut _ _ c1 e))))
 have h1₅:bZ b1 h₅ i1 l1 (k1+1):=((h1₂.extBut hs₃.extBut D.TOi1.symm).extBut hs₄.extBut D.i12).extBut hs₅.extBut D.TOi1.symm; have h2₅:bZ b2 h₅ i2 l2 (k2+1):=h2₄.extBut hs₅.extBut D.TOi2.symm; have hzlt:z<h₅.objs.size:=Ha hz₅; have hTOlt:TO<h₅.objs.size:=Ha hTO₅; have hi1lt:i1<h₅.objs.size:=bZ.lt h1₅; have hi2lt:i2<h₅.objs.size:=bZ.lt h2₅; show wpAny _ _ (Builtin.SmallTypes.ownedTupleHandOut (.ref z) (.ref h₅.objs.size) >>= _) _ _ _; refine HG ?_; unfold Builtin.SmallTypes.ownedTupleHandOut; have hz₆:IsZip (h₅.push { cls:=.type "tuple",data:=.seq (List.toArray [x,y]) }) z TI TO .ellipsis:=HJ _ hz₅
 refine HG (Ij hz₆ (by simp) λh₇ hz₇ hs₇=>?_); replace hz₇:IsZip h₇ z TI TO (rawInt h₅.objs.size):=hz₇; refine Ij hz₇ (by simp) λh₈ hz₈ hs₈=>?_; replace hz₈:IsZip h₈ z TI TO (rawInt h₅.objs.size):=hz₈; have up:∀c o,c≠z->h₅.get? c=some o->h₈.get? c=some o:=λc o c1 e=>hs₈.extBut _ _ c1 (hs₇.extBut _ _ c1 (HJ _ e)); have hT₈:IsPair h₈ h₅.objs.size x y:=hs₈.extBut _ _ (J7 hzlt) (hs₇.extBut _ _ (J7 hzlt) (Hf _ rfl)); have hz8:h₈.objs.size=h₅.objs.size+1:=(by rw[hs₈.1,hs₇.1,IX])
 rw[hsz] at hz₈ hT₈ hz8;refine HQ #[_,rfl,?_]; show Q (.ref h₅.objs.size) _;rw[hsz];exact hQ h₈ hz₈ (up _ _ D.TOz hTO₅) (h1₅.at λo e=>up _ o D.i1z e) (h2₅.at λo e=>up _ o D.i2z e) hT₈ hz8 λc o c1 c2 c3 c4 e=>up c o c1 (hk₅ c o c1 c2 c3 c4 e)
theorem EM {TI TO:Addr}{a b:Value} {Q:Fin->Shared->Prop} (hh:A.handled=none) (D:ZipApart z TI TO i1 i2 l1 l2)
   (zZ:IsZip s.heap z TI TO .none) (zI:IsPair s.heap TI (.ref i1) (.ref i2)) (zO:IsPair s.heap TO a b)
   (p1:bZ b1 s.heap i1 l1 k1) (p2:bZ b2 s.heap i2 l2 k2) (q1:bz b1 s.heap l1 xs) (q2:bz b2 s.heap l2 ys) (hend:xs[k1]?=none\/ys[k2]?=none)
   (hE:∀h' e,(∀c o,c≠z->c≠TO->c≠i1->c≠i2->s.heap.get? c=some o->h'.get? c=some o)->(∃o,h'.get? e=some o/\o.cls=.type "StopIteration")->E (.ref e) { s with heap:=h' }) :
   wpAny (model prog w) A (Builtin.«zip.__next__» #[[.ref z],[]]) Q E s:=by
 show wpAny _ _ (field (.ref z) 2 >>= _) _ _ _; refine HG (IA zZ rfl (x:=.bool false) rfl ?_); show wpAny _ _ (field (.ref z) 3 >>= _) _ _ _; refine HG (IA zZ rfl (x:=.ref TI) rfl ?_); refine HG (IZ zI rfl ?_); show wpAny _ _ (Builtin.SmallTypes.ownedTupleIsFree (.ref z) >>= _) _ _ _; refine HG ?_; unfold Builtin.SmallTypes.ownedTupleIsFree; refine HG (IA zZ rfl (x:=.none) rfl (HQ ?_)); simp only[if_true]; refine HG (Jn ?_); refine HG (IA zZ rfl (x:=.ref TO) rfl ?_);refine HG (Ij zZ (by simp) λh₁ zZ₁ hs₁=>?_); replace zZ₁:IsZip h₁ z TI TO .ellipsis:=zZ₁; refine HG ?_; simp only[List.zipIdx_cons,List.zipIdx_nil,JN,Jy]; refine HG (HG (K6 ?_)); show wpAny _ _ (Builtin.SmallTypes.nextOf (.ref i1) >>= _) _ _ _;cases hx:xs[k1]? with
 | none =>
   refine HG (lr hh (p1.extBut hs₁.extBut D.i1z) (q1.extBut hs₁.extBut D.l1z) hx λh₂ e hs₂ he=>?_); obtain⟨oe,hoe,hce⟩:=he; have hz₂:IsZip h₂ z TI TO .ellipsis:=hs₂ _ _ D.i1z.symm zZ₁; have hez:e≠z:=(λx=>by subst x; rw[hz₂] at hoe; cases hoe; simp at hce); refine Ij hz₂ (by simp) λh₃ _ hs₃=>hE h₃ e (λc o c1 _ c3 _ x=>hs₃.extBut _ _ c1 (hs₂ _ _ c3 (hs₁.extBut _ _ c1 x))) #[oe,hs₃.extBut _ _ hez hoe,hce]
 | some x =>
   have hy:ys[k2]?=none:=(by rcases hend with h|h; rw[hx] at h; cases h; exact h); refine HG (ij (p1.extBut hs₁.extBut D.i1z) (q1.extBut hs₁.extBut D.l1z) hx λh₂ h1₂ hs₂=>HQ ?_); have hTO₂:IsPair h₂ TO a b:=hs₂.extBut _ _ D.TOi1 (hs₁.extBut _ _ D.TOz zO); refine HG (IZ hTO₂ rfl ?_); refine HG (Jo hTO₂ λh₃ hTO₃ hs₃=>?_); refine HG (wpAny_letGo (HQ ?_)); refine HG (HG (K6 ?_)); show wpAny _ _ (Builtin.SmallTypes.nextOf (.ref i2) >>= _) _ _ _; refine HG (lr hh (((p2.extBut hs₁.extBut D.i2z).extBut hs₂.extBut D.i12.symm).extBut hs₃.extBut D.TOi2.symm)
     (((q2.extBut hs₁.extBut D.l2z).extBut hs₂.extBut D.l2i1).extBut hs₃.extBut D.l2TO) hy λh₄ e hs₄ he=>?_)
   obtain⟨oe,hoe,hce⟩:=he; have hz₄:IsZip h₄ z TI TO .ellipsis:=hs₄ _ _ D.i2z.symm (hs₃.extBut _ _ D.TOz.symm (hs₂.extBut _ _ D.i1z.symm zZ₁)); have hez:e≠z:=(λx=>by subst x; rw[hz₄] at hoe; cases hoe; simp at hce); refine Ij hz₄ (by simp) λh₅ _ hs₅=>hE h₅ e (λc o c1 c2 c3 c4 x=>hs₅.extBut _ _ c1 (hs₄ _ _ c4 (hs₃.extBut _ _ c2 (hs₂.extBut _ _ c3 (hs₁.extBut _ _ c1 x))))) #[oe,hs₅.extBut _ _ hez hoe,hce]
theorem wG {TI TO:Addr}{x y a b:Value} {Q:Option Value->Shared->Prop} (D:ZipApart z TI TO i1 i2 l1 l2)
   (zZ:IsZip s.heap z TI TO .none) (zI:IsPair s.heap TI (.ref i1) (.ref i2)) (zO:IsPair s.heap TO a b)
   (p1:bZ b1 s.heap i1 l1 k1) (p2:bZ b2 s.heap i2 l2 k2) (q1:bz b1 s.heap l1 xs) (q2:bz b2 s.heap l2 ys) (hx:xs[k1]?=some x) (hy:ys[k2]?=some y)
   (hQ:∀h',IsZip h' z TI TO (rawInt s.heap.objs.size)->IsPair h' TO x y->bZ b1 h' i1 l1 (k1+1)->bZ b2 h' i2 l2 (k2+1)->IsPair h' s.heap.objs.size x y->h'.objs.size=s.heap.objs.size+1 ->
     (∀c o,c≠z->c≠TO->c≠i1->c≠i2->s.heap.get? c=some o->h'.get? c=some o)->Q (some (.ref s.heap.objs.size)) { s with heap:=h' }) :
   wpAny (model prog w) A (pyNext (.ref z)) Q E s:=by
 have hT:s.TypeIs (.ref z) "zip":=#[_,zZ,rfl]; unfold pyNext;exact HG (K7 (wpAny_callSpecial?_slot (name:=Str.ofString "__next__") hT Il
   (IN Il hT Jg
     (AE D zZ zI zO p1 p2 q1 q2 hx hy λh' a1 a2 a3 a4 a5 a6 a7=>HQ (hQ h' a1 a2 a3 a4 a5 a6 a7)) (Ja _))))
theorem vp {TI TO:Addr}{a b:Value} {Q:Option Value->Shared->Prop} (hh:A.handled=none) (D:ZipApart z TI TO i1 i2 l1 l2)
   (zZ:IsZip s.heap z TI TO .none) (zI:IsPair s.heap TI (.ref i1) (.ref i2)) (zO:IsPair s.heap TO a b)
   (p1:bZ b1 s.heap i1 l1 k1) (p2:bZ b2 s.heap i2 l2 k2) (q1:bz b1 s.heap l1 xs) (q2:bz b2 s.heap l2 ys) (hend:xs[k1]?=none\/ys[k2]?=none)
   (hQ:∀h',(∀c o,c≠z->c≠TO->c≠i1->c≠i2->s.heap.get? c=some o->h'.get? c=some o)->Q none { s with heap:=h' }):wpAny (model prog w) A (pyNext (.ref z)) Q E s:=by
 have hT:s.TypeIs (.ref z) "zip":=#[_,zZ,rfl]; unfold pyNext; refine HG (K7 (wpAny_callSpecial?_slot (name:=Str.ofString "__next__") hT Il
   (IN Il hT Jg (EM hh D zZ zI zO p1 p2 q1 q2 hend λh' e hk he=>?_) (Ja _))))
 obtain⟨o,ho,hc⟩:=he; refine HG (wpAny_isInstance (T:="StopIteration") (b:=true) #[o,ho,hc] isSubtype_stop ?_);exact HQ (hQ _ hk)
end
def dR (b:Bool) (l:Addr):Obj:={ cls:=.type (match b with|true=>"tuple_iterator" | false=>"list_iterator"),data:=.fields (List.toArray [.ref l,.int 0 0]) }
theorem DK (b1 b2:Bool) (l1 l2:Addr) (xs ys:Array Value) :
   Meets (Builtin.«zip.__new__» #[[.type "zip",.ref l1,.ref l2],[]]) (λ_ R s=>bz b1 s.heap l1 xs/\bz b2 s.heap l2 ys /\
     R (.ok (.ret (.ref ((((s.heap.push (dR b1 l1)).push (dR b2 l2)).push { cls:=.type "tuple",data:=.seq (List.toArray [.ref s.heap.objs.size,.ref (s.heap.push (dR b1 l1)).objs.size]) }).push { cls:=.type "tuple",data:=.seq (List.toArray [.none,.none]) }).objs.size)))
       { s with heap:=(((((s.heap.push (dR b1 l1)).push (dR b2 l2)).push { cls:=.type "tuple",data:=.seq (List.toArray [.ref s.heap.objs.size,.ref (s.heap.push (dR b1 l1)).objs.size]) }).push { cls:=.type "tuple",data:=.seq (List.toArray [.none,.none]) }).push
         { cls:=.type "zip",data:=.fields (List.toArray [.none,.bool false,.bool false,.ref ((s.heap.push (dR b1 l1)).push (dR b2 l2)).objs.size,.ref (((s.heap.push (dR b1 l1)).push (dR b2 l2)).push { cls:=.type "tuple",data:=.seq (List.toArray [.ref s.heap.objs.size,.ref (s.heap.push (dR b1 l1)).objs.size]) }).objs.size]) }) }) :=
 .of_wp λprog w A R s h=>by
   obtain⟨hp,g,d,tk,os⟩:=s; obtain⟨q1,q2,h⟩:=h;have hsub:=sub_zip;have q2':bz b2 (hp.push (dR b1 l1)) l2 ys:=q2.at λo e=>HJ _ e;cases b1 with
   | true =>
     have hL1:Heap.IsTuple (Shared.heap ⟨hp,g,d,tk,os⟩) l1 xs:=q1;cases b2 with
     | true =>
       have hL2:Heap.IsTuple (Shared.heap ⟨hp.push { cls:=.type "tuple_iterator",data:=.fields (List.toArray [.ref l1,.int 0 0]) },g,d,tk,os⟩) l2 ys:=q2'
       wp_walk using Ih hL1,Ih hL2; exact#[_,rfl,h]
     | false =>
       have hL2:Heap.IsList (Shared.heap ⟨hp.push { cls:=.type "tuple_iterator",data:=.fields (List.toArray [.ref l1,.int 0 0]) },g,d,tk,os⟩) l2 ys:=q2'
       wp_walk using Ih hL1,J2 hL2; exact#[_,rfl,h]
   | false =>
     have hL1:Heap.IsList (Shared.heap ⟨hp,g,d,tk,os⟩) l1 xs:=q1;cases b2 with
     | true =>
       have hL2:Heap.IsTuple (Shared.heap ⟨hp.push { cls:=.type "list_iterator",data:=.fields (List.toArray [.ref l1,.int 0 0]) },g,d,tk,os⟩) l2 ys:=q2'
       wp_walk using J2 hL1,Ih hL2; exact#[_,rfl,h]
     | false =>
       have hL2:Heap.IsList (Shared.heap ⟨hp.push { cls:=.type "list_iterator",data:=.fields (List.toArray [.ref l1,.int 0 0]) },g,d,tk,os⟩) l2 ys:=q2'
       wp_walk using J2 hL1,J2 hL2; exact#[_,rfl,h]
section
variable {prog:Program} {w:World} {A:Around} {E:Value->Shared->Prop} {s:Shared}
theorem uX (e:h.get? it=some (dR b l)):bZ b h it l 0:=by cases b <;> exact#[_,e,rfl,rfl]
theorem rS {Q:Value->Shared->Prop} (q1:bz b1 s.heap l1 xs) (q2:bz b2 s.heap l2 ys)
   (h:∀h' (n:Nat),n=s.heap.objs.size->IsZip h' (n+4) (n+2) (n+3) .none->IsPair h' (n+2) (.ref n) (.ref (n+1))->IsPair h' (n+3) .none .none->bZ b1 h' n l1 0->bZ b2 h' (n+1) l2 0 ->
     (∀c o,s.heap.get? c=some o->h'.get? c=some o)->Q (.ref (n+4)) { s with heap:=h' }) :
   wpAny (model prog w) A (call (.type "zip") [.ref l1,.ref l2]) Q E s:=by
 refine callType_new F.called_zip (by decide) (F.typeCall_zip_2 _ _) (F.newCall_zip_2 _ _) (λobj=>F.args_object_init_3 obj _ _) F.entry_zip_new (DK b1 b2 l1 l2 xs ys) #[q1,q2,?_];generalize ho1:dR b1 l1=o1;generalize ho2:dR b2 l2=o2;have z1:(s.heap.push o1).objs.size=s.heap.objs.size+1:=IX ..;have z2:((s.heap.push o1).push o2).objs.size=s.heap.objs.size+2:=by rw[IX,z1]
 rw[z1,z2];generalize hT1:({ cls:=.type "tuple",data:=.seq (List.toArray [.ref s.heap.objs.size,.ref (s.heap.objs.size+1)]) }:Obj)=t1;generalize hT2:({ cls:=.type "tuple",data:=.seq (List.toArray [.none,.none]) }:Obj)=t2;have z3:(((s.heap.push o1).push o2).push t1).objs.size=s.heap.objs.size+3:=by rw[IX,z2]
 have z4:((((s.heap.push o1).push o2).push t1).push t2).objs.size=s.heap.objs.size+4:=by rw[IX,z3]
 rw[z3,z4];generalize hZ:({ cls:=.type "zip",data:=.fields (List.toArray [.none,.bool false,.bool false,.ref (s.heap.objs.size+2),.ref (s.heap.objs.size+3)]) }:Obj)=tz;have g5:=Hf ((((s.heap.push o1).push o2).push t1).push t2) (o:=tz) (by rw[<- hZ]; rfl);have g4:=HJ tz (Hf (((s.heap.push o1).push o2).push t1) (o:=t2) (by rw[<- hT2]; rfl));have g3:=HJ tz (HJ t2 (Hf ((s.heap.push o1).push o2) (o:=t1) (by rw[<- hT1]; rfl)));have g2:=HJ tz (HJ t2 (HJ t1 (Hf (s.heap.push o1) (o:=o2) (by rw[<- ho2]; rfl))));have g1:=HJ tz (HJ t2 (HJ t1 (HJ o2 (Hf s.heap (o:=o1) (by rw[<- ho1]; rfl)))));rw[z4] at g5;rw[z3] at g4;rw[z2] at g3;rw[z1] at g2;subst hZ hT1 hT2 ho1 ho2;exact#[#[_,g5,rfl],h _ s.heap.objs.size rfl g5 g3 g4 (uX g1) (uX g2) λc o x =>
   HJ _ (HJ _ (HJ _ (HJ _ (HJ _ x))))]
end
end PySem
namespace L2
open PySem PySem.Spec PyProof.Rows
def cg (b:Bool) (K:W.Frag) (H:Hp) (l:Addr) (xs:List V):Prop:=match b with|true=>aG K H l xs|false=>aK K H l xs
variable {X:Cx} {H:Hp} {xs:List V}
theorem Inv.sqv {pins:List (Addr×Obj)} {σ:St} {s:Shared} {b:Bool} {l:Addr} (I:Inv X pins σ H s) (h:cg b X.K H l xs):∃its:List Value,ax xs its/\bz b s.heap l its.toArray:=by
 cases b with
 | true=>obtain⟨its,r,p,_⟩:=I.tuple h; exact#[its,r,p]
 | false=>obtain⟨its,r,p,_⟩:=I.list h; exact#[its,r,p.isList]
theorem Inv.sqv_inj {pins:List (Addr×Obj)} {σ:St} {s:Shared} {b:Bool} {l:Addr} {ys:List V}(I:Inv X pins σ H s) (h:cg b X.K H l xs) (h':cg b X.K H l ys):xs=ys:=by
 cases b with
 | true=>exact I.tuple_inj h h'
 | false=>exact I.list_inj h h'
theorem bz.lt {b:Bool} {h:Heap} {l:Addr} {xs:Array Value} (p:bz b h l xs):l<h.objs.size:=by cases b <;> (obtain⟨o,ho,r⟩:=p; exact Ha ho)
def iq (K:W.Frag) (b1 b2:Bool) (l1 l2:Addr):It :=
 #[λi H=>∃xs ys x y,cg b1 K H l1 xs/\cg b2 K H l2 ys/\xs[i]?=some x/\ys[i]?=some y,
  λi H v H'=>∃b,v=.ref b/\H b=none/\∀xs ys x y,cg b1 K H l1 xs->cg b2 K H l2 ys->xs[i]?=some x->ys[i]?=some y->H'=upd H b (.tup [x,y]),
  λi H=>∃xs ys,cg b1 K H l1 xs/\cg b2 K H l2 ys/\(xs[i]?=none\/ys[i]?=none)]
variable {K:W.Frag}
theorem CZ {P:Program} {w:World} {elts:List Expr} {k:Nat} {pos:Pos} (b1 b2:Bool) (z TI TO i1 i2 l1 l2:Addr) (D:ZipApart z TI TO i1 i2 l1 l2) :
   Turn P w K (.Tuple elts k pos) (iq K b1 b2 l1 l2) [z,TI,TO,i1,i2] z (λi h=>IsZip h z TI TO .none/\IsPair h TI (.ref i1) (.ref i2)/\(∃a b,IsPair h TO a b)/\bZ b1 h i1 l1 i/\bZ b2 h i2 l2 i) where
 mem:=by simp
 obj:=λi h st b hb=>by
   obtain⟨hz,hTI,⟨a,c,hTO⟩,h1,h2⟩:=st;simp only[HV,Hm,or_false] at hb;rcases hb with rfl|rfl|rfl|rfl|rfl
   . exact#[_,hz,λv z=>by cases (show Data.fields _=Data.cell v from z)]
   . exact#[_,hTI,λv z=>by cases (show Data.seq _ _=Data.cell v from z)]
   . exact#[_,hTO,λv z=>by cases (show Data.seq _ _=Data.cell v from z)]
   . cases b1 <;> (obtain⟨o,ho,hc,hd⟩:=h1; exact#[o,ho,λv z=>by rw[hd] at z; cases z])
   . cases b2 <;> (obtain⟨o,ho,hc,hd⟩:=h2; exact#[o,ho,λv z=>by rw[hd] at z; cases z])
 keep:=λi h h' st kk=>by obtain⟨hz,hTI,⟨a,c,hTO⟩,h1,h2⟩:=st;exact#[kk _ (by simp) _ hz,kk _ (by simp) _ hTI,#[a,c,kk _ (by simp) _ hTO],h1.at λo e=>kk _ (by simp) o e,h2.at λo e=>kk _ (by simp) o e]
 item:=by
   intro X hP hw hK hc i pins s σ H E I hf st hg;subst hP hw hK;obtain⟨hz,hTI,⟨oa,ob,hTO⟩,h1,h2⟩:=st;obtain⟨xs,ys,x,y,e1,e2,hx,hy⟩:=hg;obtain⟨is1,r1,p1⟩:=I.sqv e1;obtain⟨is2,r2,p2⟩:=I.sqv e2;obtain⟨u,hu,ru⟩:=r1.get hx;obtain⟨v,hv,rv⟩:=r2.get hy;refine wG D hz hTI hTO h1 h2 p1 p2 (by simpa using hu) (by simpa using hv) λh' a1 a2 a3 a4 a5 a6 hk=>?_;refine#[_,rfl,wpAny_letOwnedTupleGo_zip a1 λh3 hz3 hs3=>?_];have hs3:Heap.SameBut z h' h3:=hs3;have hzlt:z<s.heap.objs.size:=Ha hz;have hfr:H s.heap.objs.size=none:=I.hok.fresh (HN _);have hnS:s.heap.objs.size≠z:=J7 hzlt;have hT3:IsPair h3 s.heap.objs.size u v:=(hs3.2 _ hnS).trans a5;refine#[.ref s.heap.objs.size,upd H s.heap.objs.size (.tup [x,y]),I.turnLaid (t':=s.toks) (ch:=[z,TI,TO,i1,i2]) (λb o hb q=>?_) hf (HN _) ?_,rfl,#[s.heap.objs.size,rfl,hfr,λxs' ys' x' y' q1 q2 hx' hy'=>?_],#[hz3,?_,#[u,v,?_],?_,?_],λb hb=>?_]
   . have n1:b≠z:=λzz=>hb (by simp [zz]);have n3:b≠TO:=λzz=>hb (by simp [zz]);have n4:b≠i1:=λzz=>hb (by simp [zz]);have n5:b≠i2:=λzz=>hb (by simp [zz]);exact(hs3.2 b n1).trans (hk b o n1 n3 n4 n5 q)
   . exact#[by show 2<=sizeLine; decide,[u,v],.cons ru (.cons rv .nil),#[_,hT3,rfl,_,rfl]]
   . have t1:=I.sqv_inj q1 e1;have t2:=I.sqv_inj q2 e2;subst t1 t2;rw[hx] at hx';rw[hy] at hy';cases hx';cases hy';rfl
   . exact(hs3.2 _ D.TIz).trans (hk _ _ D.TIz D.TITO D.TIi1 D.TIi2 hTI)
   . exact(hs3.2 _ D.TOz).trans a2
   . exact a3.at λo e=>(hs3.2 _ D.i1z).trans e
   . exact a4.at λo e=>(hs3.2 _ D.i2z).trans e
   . have hb0:=(hf b hb).1;rw[ay]
     . exact hb0
     . intro zz;subst zz;simp only[HV,Hm,or_false] at hb;rcases hb with e|e|e|e|e
       . exact hnS e
       . exact absurd (Ha hTI) (by rw[<- e]; exact IC _)
       . exact absurd (Ha hTO) (by rw[<- e]; exact IC _)
       . exact absurd h1.lt (by rw[<- e]; exact IC _)
       . exact absurd h2.lt (by rw[<- e]; exact IC _)
 done:=by
   intro X hP hw hK hc i pins s σ H E I hf st hg;subst hP hw hK;obtain⟨hz,hTI,⟨oa,ob,hTO⟩,h1,h2⟩:=st;obtain⟨xs,ys,e1,e2,hend⟩:=hg;obtain⟨is1,r1,p1⟩:=I.sqv e1;obtain⟨is2,r2,p2⟩:=I.sqv e2;refine vp (I.ok.hd hc) D hz hTI hTO h1 h2 p1 p2 ?_ λh' hk=>#[rfl,?_]
   . rcases hend with h|h
     . left; have:=r1.none_of h; simpa using this
     . right; have:=r2.none_of h; simpa using this
   . exact I.turnedL (t':=s.toks) (ch:=[z,TI,TO,i1,i2]) (λb o hb q=>hk b o (λzz=>hb (by simp [zz])) (λzz=>hb (by simp [zz])) (λzz=>hb (by simp [zz])) (λzz=>hb (by simp [zz])) q) hf
 self:=λ_ _ _ _ _ st h=>KI st.1 h
section
variable {X:Cx}
def Cw (b1 b2:Bool) (K:W.Frag) (ta:TA):TI:=λσ H R=>ta σ H λvs H1=>∃l1 l2,vs=[.ref l1,.ref l2]/\(∃xs,cg b1 K H1 l1 xs)/\(∃ys,cg b2 K H1 l2 ys)/\R (iq K b1 b2 l1 l2) H1
theorem lK (b1 b2:Bool) {a b:Expr} {ta:TA} {p pos tpos:Pos} {elts:List Expr} {k:Nat} (hg:Gl X "zip") (hm:X.mg "zip"=none) (ha:PA X [a,b] ta) (hs:starEach [a,b] X.env=(false,eval a X.env) :: starEach [b] X.env:=by rfl) (hs2:(backTo pos (starEach [b] X.env)).any (·.1)=false:=by rfl) :
   PI X (.Tuple elts k tpos) (.Call (.Name "zip" p) [a,b] [] pos) (Cw b1 b2 X.K ta):=by
 intro pins s σ H R I h;refine Call_ (gF I hg hm vI (IE (aq (ha pos pins s σ H _ I h) λus s1 ⟨vs,H1,I1,r1,q1⟩=>?_) hs hs2));obtain⟨l1,l2,e,⟨xs,hx⟩,⟨ys,hy⟩,q⟩:=q1;subst e;cases r1 with
 | cons r rr =>
   cases rr with
   | cons r' rr =>
     cases rr;cases r;cases r';obtain⟨is1,v1,p1⟩:=I1.sqv hx;obtain⟨is2,v2,p2⟩:=I1.sqv hy;refine rS p1 p2 λh' n hn hz hTI hTO h1 h2 hk=>?_;subst hn;refine KI hz ?_;refine#[s1.heap.objs.size+4,[s1.heap.objs.size+4,s1.heap.objs.size+2,s1.heap.objs.size+3,s1.heap.objs.size,s1.heap.objs.size+1],_,_,H1,rfl,I1.kept (t':=s1.toks) hk,CZ b1 b2 _ _ _ _ _ l1 l2 (zipApart_new (bz.lt p1) (bz.lt p2)),#[hz,hTI,#[_,_,hTO],h1,h2],λb hb=>?_,q];have hb':s1.heap.objs.size<=b:=by simp only[HV,Hm,or_false] at hb;rcases hb with e|e|e|e|e <;> rw[e] <;> first|exact HN _|exact Nat.le_add_right _ _
     exact I1.fpOk hb' (I1.hok.fresh hb')
theorem pP {b1 b2:Bool} {l1 l2:Addr} {ys:List V}{g:TG} {tb:TS} {D:cF} {σ:St} (Pv:Nat->St->Hp->Prop) (h0:Pv 0 σ H) (hl:∀i σ H,i<=min xs.length ys.length->Pv i σ H->cg b1 K H l1 xs/\cg b2 K H l2 ys)
   (hs:∀i x y σ H b,xs[i]?=some x->ys[i]?=some y->Pv i σ H->H b=none->g (.ref b) σ (upd H b (.tup [x,y])) λσ2 H2=>tb { D with nx:=Pv (i+1),ct:=Pv (i+1),bk:=D.nx } σ2 H2) (hd:∀σ H,Pv (min xs.length ys.length) σ H->D.nx σ H) :
   ∃W:Nat->Nat->St->Hp->Prop,(∃m,W 0 m σ H)/\∀i m σ H,W i m σ H->((iq K b1 b2 l1 l2).stop i H/\D.nx σ H)\/((iq K b1 b2 l1 l2).go i H/\∃N:St->Hp->Prop,(∀σ' H',N σ' H'->∃m',m'<m/\W (i+1) m' σ' H')/\∀x H',(iq K b1 b2 l1 l2).yld i H x H'->g x σ H' λσ2 H2=>tb { D with nx:=N,ct:=N,bk:=D.nx } σ2 H2):=by
 refine#[λi m σ H=>m=min xs.length ys.length - i/\i<=min xs.length ys.length/\Pv i σ H,#[min xs.length ys.length,by simp,Hl _,h0],?_];rintro i m σ H ⟨rfl,hi,p⟩;obtain⟨q1,q2⟩:=hl i σ H hi p;by_cases hlt:i<min xs.length ys.length
 . have l1':i<xs.length:=by omega
   have l2':i<ys.length:=by omega
   refine .inr #[#[xs,ys,xs[i],ys[i],q1,q2,by simp [l1'],by simp [l2']],Pv (i+1),λσ' H' p'=>#[min xs.length ys.length - (i+1),by omega,rfl,hlt,p'],λx H' y=>?_];obtain⟨b,rfl,hb,y⟩:=y;rw[y xs ys xs[i] ys[i] q1 q2 (by simp [l1']) (by simp [l2'])];exact hs i xs[i] ys[i] σ H b (by simp [l1']) (by simp [l2']) p hb
 . have e:i=min xs.length ys.length:=by omega
   subst e;refine .inl #[#[xs,ys,q1,q2,?_],hd σ H p];rcases Nat.le_total xs.length ys.length with h|h
   . left; rw[Jp h]; exact Iz (HN _)
   . right; rw[Nat.min_eq_right h]; exact Iz (HN _)
end
structure ClsOk (K:W.Frag) (mg:Str->Option Value) (name:Str) (C:Addr):Prop where
 cl:Cls K C
 g:mg name=some (.ref C)
structure MetOk (K:W.Frag) (C:Addr) (m qual:Str) (st:Stmt) (ps:List Str) (f:Addr) (fd:FuncData):Prop where
 F:Fun K m qual st f fd
 b:fB K fd ps []
 m:Meth K C m f
structure IniOk (K:W.Frag) (C:Addr) (qual:Str) (st:Stmt) (ps:List Str) (f:Addr) (fd:FuncData):Prop where
 F:Fun K "__init__" qual st f fd
 b:fB K fd ps []
 M:Mk K C f
section
variable {X:Cx} {k:Nat} {C f:Addr} {fd:FuncData} {ps:List Str} {sp:Sp} {x m qual:Str} {st:Stmt} {p pos apos:Pos} {o e:Expr} {es:List Expr} {ta:TE} {t:TA}
theorem vh (Cc:ClsOk X.K X.mg x C) (D:IniOk X.K C qual st ps f fd) (G:FnOk X.prog X.w X.K X.mg X.base CX0 k f fd ps sp) (hr:Room (k+1) X.A) (ha:PA X (e :: es) t) (hg:Gl X x:=by rfl)
   (hdb:(x==("__debug__":Str))=false:=by decide) (he:starEach (e :: es) X.env=(false,eval e X.env) :: starEach es X.env:=by rfl) (hpl:(backTo pos (starEach es X.env)).any (·.1)=false:=by rfl) :
   PE X (.Call (.Name x p) (e :: es) [] pos) (ve C sp [] E0 t):=Ca D.M G hr hg Cc.g D.b .nil ce ha hdb he hpl
theorem GM {C:Addr} {m qual:Str} {st:Stmt} {ps:List Str} {f:Addr} {oc:Value} {od an:Option Addr} {osl:Array (Option Value)} {kV doc pm cdv ct:Value}
   (a:PySem.W.findIn K (.ref C) m=some (some (.ref f))) (i:PySem.W.isFn K (.ref f)=true) (l:K.lookup f=some #[oc,od,.func (PySem.W.fnOf m qual (cx st) (bU st) (bD st) .none kV doc pm an cdv ct),osl]) (c:PySem.W.codeIn K cdv qual=true) (k:PySem.W.keepIn K (.ref f)=true)
   (b:∀(kV doc pm:Value) (an:Option Addr) (cdv ct:Value) (us:List Value),us.length=ps.length->bindArgs (PySem.W.fnOf m qual (cx st) (bU st) (bD st) .none kV doc pm an cdv ct) #[us,[]]=pure (ps.zip us)) :
   MetOk K C m qual st ps f (PySem.W.fnOf m qual (cx st) (bU st) (bD st) .none kV doc pm an cdv ct) :=
 #[im l c k,(im l c k).binds b,#[a,i,k]]
theorem Bu {C:Addr} {qual:Str} {st:Stmt} {ps:List Str} {f:Addr} {oc:Value} {od an:Option Addr} {osl:Array (Option Value)} {kV doc pm cdv ct:Value}
   (mk:PySem.W.makesIn K C=true) (kc:PySem.W.keepIn K (.ref C)=true) (a:PySem.W.findIn K (.ref C) "__init__"=some (some (.ref f))) (i:PySem.W.isFn K (.ref f)=true) (l:K.lookup f=some #[oc,od,.func (PySem.W.fnOf "__init__" qual (cx st) (bU st) (bD st) .none kV doc pm an cdv ct),osl]) (c:PySem.W.codeIn K cdv qual=true) (k:PySem.W.keepIn K (.ref f)=true)
   (b:∀(kV doc pm:Value) (an:Option Addr) (cdv ct:Value) (us:List Value),us.length=ps.length->bindArgs (PySem.W.fnOf "__init__" qual (cx st) (bU st) (bD st) .none kV doc pm an cdv ct) #[us,[]]=pure (ps.zip us)) :
   IniOk K C qual st ps f (PySem.W.fnOf "__init__" qual (cx st) (bU st) (bD st) .none kV doc pm an cdv ct) :=
 #[im l c k,(im l c k).binds b,#[mk,a,i,kc]]
end
theorem cO {A:Around} (h:A.units+64<cLine):A.units+1<cLine:=by omega
section
variable {prog:Program} {w:World} {A:Around} {E:Value->Shared->Prop} {s:Shared}
open HT in
theorem De {t sl:Addr} {items:Array Value} {vl vu:Value} {lo hi:Option Int} {Q:Value->Shared->Prop} (ht:IsTup s.heap t items) (hs:s.heap.IsSliceOf sl vl vu .none) (pl:IsPart vl lo) (pu:IsPart vu hi)
   (hw:sIx items.size 0 lo=0/\sIx items.size items.size hi=items.size) (h:Q (.ref t) s):wpAny (model prog w) A (getItem (.ref t) (.ref sl)) Q E s:=by
 obtain⟨os,hos,hcs,hds⟩:=id hs;have tS:s.TypeIs (.ref sl) "slice":=#[os,hos,hcs]
 unfold getItem; try with_reducible refine IG ?_
 first|refine HG (HQ ?_)|skip
 refine HG (K9 ht.typeIs (by decide) ?_); refine HG (wpAny_callSpecial?_slot (name:=Str.ofString "__getitem__") ht.typeIs IK (IN IK ht.typeIs entry_tuple_getitem ?_ (args_tuple_getitem _ _)));show wpAny _ _ (Builtin.Tuple.tupleItemsOf (.ref t) >>= _) _ _ s; refine HG (tupleItemsOf_ ht ?_); refine HG (JE tS ?_); rw[HR (by decide)]; refine HG (rV hs pl pu ?_);have yes:(((sIx items.size 0 lo:Nat):Int)==0&&(1:Int)==1&&(sIx items.size items.size hi - sIx items.size 0 lo)==items.size)=true:=by rw[hw.1,hw.2];simp
 show wpAny _ _ (if(((sIx items.size 0 lo:Nat):Int)==0&&(1:Int)==1&&(sIx items.size items.size hi - sIx items.size 0 lo)==items.size)=true then _ else _) _ _ s; rw[HR yes];show wpAny _ _ (Builtin.Tuple.tupleIsExact (.ref t) >>= _) _ _ s;unfold Builtin.Tuple.tupleIsExact;refine HG (HG (JE ht.typeIs (HQ ?_)));rw[HR (by decide)];exact HG (Jn (HG (HQ (HQ #[_,rfl,HQ h]))))
end
def rG (K:W.Frag):V->Option Int->Option Int->Hp->VK->Prop:=λx lo hi H Q=>∃a xs,x=.ref a/\aG K H a xs /\
 (HT.sIx xs.length 0 lo=0/\HT.sIx xs.length xs.length hi=xs.length)/\Q (.ref a) H
theorem G0 :gA X (rG X.K):=by
 intro pins s σ H x v vl vu lo hi sl Q I rx hs pl pu h;obtain⟨a,xs,rfl,hx,hw,q⟩:=h;cases rx;obtain⟨its,r,ht,hz⟩:=I.tuple hx;have hlen:its.toArray.size=xs.length:=by rw[Hc]; exact r.length.symm
 refine#["tuple",_,IK.lookup,ht.typeIs,De ht hs pl pu (by rw[hlen]; exact hw) #[.ref a,H,I,rfl,q]]
def wQ (K:W.Frag):V->Option Int->Option Int->Hp->VK->Prop:=λx lo hi H Q=>tW K x lo hi H Q\/rG K x lo hi H Q
theorem mT :gA X (wQ X.K):=D4.or G0
theorem lJ {Q:VK} {a:Addr} {lo hi:Option Int} (h:aG K H a xs) (q:∀p H',aC H H'->aG K H' p (cV xs lo hi)->Q (.ref p) H'):wQ K (.ref a) lo hi H Q:=by
 by_cases hw:HT.sIx xs.length 0 lo=0/\HT.sIx xs.length xs.length hi=xs.length
 . refine .inr #[a,xs,rfl,h,hw,q a H (aC.refl _) ?_];have:cV xs lo hi=xs:=by unfold cV;rw[hw.1,hw.2,Jz,KJ,IB]
   rw[this];exact h
 . exact .inl #[a,xs,rfl,h,hw,λp hp=>q p _ (aC.new hp) (aG.of aL)]
end L2
namespace K12
open PySem L2
def step (acc:List Str) (s:Str):List Str:=if s∈acc then acc else acc++[s]
def onceL (ss:List Str):List Str:=ss.foldl step []
def strsOf (as:List V):List Str:=as.filterMap λv=>match v with | .str s=>some s|_=>none
theorem Fc (a b:List V):strsOf (a++b)=strsOf a++strsOf b:=List.filterMap_append ..
theorem D9 (i:Int):strsOf [.int i]=[]:=rfl
theorem C0 (acc:List Str) (s:Str):∀x∈acc,x∈step acc s:=λx hx=>by
 unfold step;split
 . exact hx
 . exact JH _ hx
theorem Cs (acc:List Str) (s:Str):s∈step acc s:=by
 unfold step;split
 . assumption
 . exact Hu _ (by simp)
theorem tR:∀(ss acc:List Str),∀x∈acc,x∈ss.foldl step acc
 | [],acc,x,hx=>hx
 | s :: ss,acc,x,hx=>tR ss _ x (C0 acc s x hx)
theorem sR:∀(ss acc:List Str),∀x∈ss,x∈ss.foldl step acc
 | s :: ss,acc,x,hx=>by
   rcases HV.mp hx with e|e
   . subst e;exact tR ss _ _ (Cs acc _)
   . exact sR ss _ x e
theorem uI:∀(B:List Str) (acc C:List Str),(B.foldl step C).foldl step acc=B.foldl step (C.foldl step acc)
 | [],acc,C=>rfl
 | s :: B,acc,C=>by
   rw[JB,uI B acc (step C s),JB];congr 1;unfold step;by_cases h:s∈C
   . rw[HR h];have h2:s∈C.foldl step acc:=sR C acc s h;have h2':s∈List.foldl (λacc s=>if s∈acc then acc else acc++[s]) acc C:=h2;rw[HR h2']
   . rw[HI h,ID];rfl
theorem GD (A B C:List Str):onceL (A++onceL B++C)=onceL (A++B++C):=by unfold onceL;rw[ID,ID,ID,ID];have e:=uI B (A.foldl step []) [];rw[e];rfl
theorem CK (acc:List Str) (s:Str):(step acc s).length<=acc.length+1:=by
 unfold step;split
 . omega
 . simp
theorem FE (ss:List Str):(onceL ss).length<=ss.length:=by
 have key:∀(ss acc:List Str),(ss.foldl step acc).length<=acc.length+ss.length:=by
   intro ss
   induction ss with
   | nil=>intro acc; simp
   | cons s ss ih =>
     intro acc;have h1:=ih (step acc s);have h2:=CK acc s;rw[JB];simp only[Hh];omega
 have:=key ss [];unfold onceL;simpa using this
def cY (ss:List Str):List (aO×V):=ss.map λs=>(Sum.inr s,V.bl true)
theorem Fh (acc:List Str) (s:Str):az (cY acc) (Sum.inr s) (.bl true)=cY (step acc s):=by
 unfold az step;have e:((cY acc).any λkv=>decide (kv.1=(Sum.inr s:aO)))=decide (s∈acc):=by
   unfold cY;rw[List.any_map];rw[IV,List.any_eq_true];simp only[Function.comp,Ia];constructor
   . rintro ⟨x,hx,h⟩;have:x=s:=Sum.inr.inj h;rw[<- this];exact hx
   . intro h;exact#[s,h,rfl]
 rw[e];by_cases h:s∈acc
 . rw[HK h,HR rfl,HR h];unfold cY;rw[IS];apply Ju;intro x _;show(if(Sum.inr x:aO)=Sum.inr s then((Sum.inr x:aO),V.bl true) else(Sum.inr x,V.bl true))=_;split <;> rfl
 . rw[Hd h,HI (by decide),HI h];unfold cY;rw[Hk];rfl
theorem sD:∀(ss acc:List Str),(cY ss).foldl (λacc kv=>az acc kv.1 kv.2) (cY acc)=cY (ss.foldl step acc)
 | [],acc=>rfl
 | s :: ss,acc=>by show(cY ss).foldl _ (az (cY acc) (Sum.inr s) (.bl true))=_;rw[Fh];exact sD ss (step acc s)
theorem ES (ss:List Str):(cY ss).foldl (λacc kv=>az acc kv.1 kv.2) []=cY (onceL ss):=sD ss []
theorem F4 (ss:List Str):((cY ss).map λkv=>kV kv.1)=ss.map V.str:=by unfold cY;rw[IS];rfl
theorem By {K:W.Frag} {H:Hp} {a q:Addr} {xs l l':List V} (h:aG K H a xs) (hq:H q=some (.lst l)):aG K (upd H q (.lst l')) a xs:=by
 rcases h with(h|⟨o,h⟩)|h
 . exact .inl (.inl (by rw[ay (fJ h hq (by intro z; cases z))]; exact h))
 . exact .inl (.inr #[o,by rw[ay (fJ h hq (by intro z; cases z))]; exact h])
 . exact .inr h
def Nm (s:Str):Prop:=s.length<=1000/\PyData.strOk s=true
end K12
namespace K12
open PySem L2 PySem.W PyProof.Rows
inductive RowS (K:W.Frag) (H:Hp):List V->Option Str->List V->Prop
 | copy (x:Str) (a:V):RowS K H [.str "copy",.str x,a] (some x) [a]
 | op (x s:Str) (a b:V):RowS K H [.str "op",.str x,.str s,a,b] (some x) [a,b]
 | new (x:Str):RowS K H [.str "new",.str x] (some x) []
 | get (x:Str) (a:V) (f:Str):RowS K H [.str "get",.str x,a,.str f] (some x) [a]
 | put (a:V) (f:Str) (b:V):RowS K H [.str "put",a,.str f,b] none [a,b]
 | call (x f:Str) (p:Addr) (as:List V):aG K H p as->RowS K H [.str "call",.str x,.str f,.ref p] (some x) as
 | out (a:V):RowS K H [.str "out",a] none [a]
 | back (a:V):RowS K H [.str "back",a] none [a]
 | ifs (a:V):RowS K H [.str "if",a] none [a]
 | whl (a:V):RowS K H [.str "while",a] none [a]
 | els:RowS K H [.str "else"] none []
 | fin:RowS K H [.str "end"] none []
theorem RowS.mono {K:W.Frag} {H H':Hp} {xs:List V} {g:Option Str} {as:List V} (h:RowS K H xs g as) (e:aC H H'):RowS K H' xs g as:=by
 cases h with
 | call x f p as hp=>exact .call x f p as (e.tup hp)
 | copy x a=>exact .copy x a
 | op x s a b=>exact .op x s a b
 | new x=>exact .new x
 | get x a f=>exact .get x a f
 | put a f b=>exact .put a f b
 | out a=>exact .out a
 | back a=>exact .back a
 | ifs a=>exact .ifs a
 | whl a=>exact .whl a
 | els=>exact .els
 | fin=>exact .fin
def tabl:List (Str×List V):=[("copy",[.int 2]),("op",[.int 3,.int 4]),("new",[]),("get",[.int 2]),("put",[.int 1,.int 3]),("out",[.int 1]),("back",[.int 1]),("if",[.int 1]),("while",[.int 1]),("else",[]),("end",[])]
def giving:List Str:=["copy","op","new","get","call"]
theorem Cg {K:W.Frag} {H:Hp} {xs:List V} {g:Option Str} {as:List V} (h:RowS K H xs g as):∃kd:Str,bQ xs 0=some (.str kd) /\
   ((kd="call"/\∃p,bQ xs 3=some (.ref p)/\aG K H p as)\/(kd≠"call"/\∃pl:List Int,KTD.datumAt kd tabl=some (pl.map V.int)/\pl.length=as.length/\∀(i:Nat) (a:V),as[i]?=some a->∃p,pl[i]?=some p/\bQ xs p=some a)):=by
 cases h with
 | call x f p as hp=>exact#["call",rfl,.inl #[rfl,p,rfl,hp]]
 | copy x a=>exact#["copy",rfl,.inr #[by decide +kernel,[2],by decide +kernel,rfl,λi a' e=>by match i,e with|0,e=>exact⟨2,rfl,e⟩]]
 | op x s a b=>exact#["op",rfl,.inr #[by decide +kernel,[3,4],by decide +kernel,rfl,λi a' e=>by match i,e with|0,e=>exact⟨3,rfl,e⟩|1,e=>exact⟨4,rfl,e⟩]]
 | new x=>exact#["new",rfl,.inr #[by decide +kernel,[],by decide +kernel,rfl,λi a' e=>by simp at e]]
 | get x a f=>exact#["get",rfl,.inr #[by decide +kernel,[2],by decide +kernel,rfl,λi a' e=>by match i,e with|0,e=>exact⟨2,rfl,e⟩]]
 | put a f b=>exact#["put",rfl,.inr #[by decide +kernel,[1,3],by decide +kernel,rfl,λi a' e=>by match i,e with|0,e=>exact⟨1,rfl,e⟩|1,e=>exact⟨3,rfl,e⟩]]
 | out a=>exact#["out",rfl,.inr #[by decide +kernel,[1],by decide +kernel,rfl,λi a' e=>by match i,e with|0,e=>exact⟨1,rfl,e⟩]]
 | back a=>exact#["back",rfl,.inr #[by decide +kernel,[1],by decide +kernel,rfl,λi a' e=>by match i,e with|0,e=>exact⟨1,rfl,e⟩]]
 | ifs a=>exact#["if",rfl,.inr #[by decide +kernel,[1],by decide +kernel,rfl,λi a' e=>by match i,e with|0,e=>exact⟨1,rfl,e⟩]]
 | whl a=>exact#["while",rfl,.inr #[by decide +kernel,[1],by decide +kernel,rfl,λi a' e=>by match i,e with|0,e=>exact⟨1,rfl,e⟩]]
 | els=>exact#["else",rfl,.inr #[by decide +kernel,[],by decide +kernel,rfl,λi a' e=>by simp at e]]
 | fin=>exact#["end",rfl,.inr #[by decide +kernel,[],by decide +kernel,rfl,λi a' e=>by simp at e]]
def xv:Option Str->V
 | some x=>.str x
 | none=>.non
theorem EI {K:W.Frag} {H:Hp} {xs:List V} {g:Option Str} {as:List V} (h:RowS K H xs g as):∃kd:Str,bQ xs 0=some (.str kd) /\
   ((∃x,g=some x/\gE (.str kd) (giving.map V.str)=true/\bQ xs 1=some (.str x))\/(g=none/\gE (.str kd) (giving.map V.str)=false)):=by
 cases h with
 | call x f p as hp=>exact#["call",rfl,.inl #[x,rfl,by decide +kernel,rfl]]
 | copy x a=>exact#["copy",rfl,.inl #[x,rfl,by decide +kernel,rfl]]
 | op x s a b=>exact#["op",rfl,.inl #[x,rfl,by decide +kernel,rfl]]
 | new x=>exact#["new",rfl,.inl #[x,rfl,by decide +kernel,rfl]]
 | get x a f=>exact#["get",rfl,.inl #[x,rfl,by decide +kernel,rfl]]
 | put a f b=>exact#["put",rfl,.inr #[rfl,by decide +kernel]]
 | out a=>exact#["out",rfl,.inr #[rfl,by decide +kernel]]
 | back a=>exact#["back",rfl,.inr #[rfl,by decide +kernel]]
 | ifs a=>exact#["if",rfl,.inr #[rfl,by decide +kernel]]
 | whl a=>exact#["while",rfl,.inr #[rfl,by decide +kernel]]
 | els=>exact#["else",rfl,.inr #[rfl,by decide +kernel]]
 | fin=>exact#["end",rfl,.inr #[rfl,by decide +kernel]]
theorem Aw:(giving.map V.str).all eJ=true:=by decide +kernel
def Atom (v:V):Prop:=(∃s,v=.str s/\Nm s)\/∃i,v=.int i
structure RowD where
 r:Addr
 e:Addr
 a:Addr
 gx:Option Str
 as:List V
structure RowAt (K:W.Frag) (H:Hp) (d:RowD):Prop where
 row:∃xs,aG K H d.r xs/\RowS K H xs d.gx d.as
 ats:∀v∈d.as,Atom v
 len:d.as.length<=10
 nm:∀x,d.gx=some x->Nm x
theorem RowAt.mono {K:W.Frag} {H H':Hp} {d:RowD} (h:RowAt K H d) (e:aC H H'):RowAt K H' d :=
 #[let ⟨xs,h1,h2⟩:=h.row; #[xs,e.tup h1,h2.mono e],h.ats,h.len,h.nm]
structure FunAt (K:W.Frag) (H:Hp) (f:Addr) (ps:List Str) (ds:List RowD):Prop where
 fn:∃n b p r,aG K H f [n,b,.ref p,.ref r]/\aG K H p (ps.map V.str)/\aG K H r (ds.map λd=>V.ref d.r)
 rows:∀d∈ds,RowAt K H d
 pn:∀s∈ps,Nm s
 pl:ps.length<=100
 dl:ds.length<=100
theorem FunAt.mono {K:W.Frag} {H H':Hp} {f:Addr} {ps:List Str} {ds:List RowD} (h:FunAt K H f ps ds) (e:aC H H'):FunAt K H' f ps ds :=
 #[let ⟨n,b,p,r,h1,h2,h3⟩:=h.fn; #[n,b,p,r,e.tup h1,e.tup h2,e.tup h3],λd hd=>(h.rows d hd).mono e,h.pn,h.pl,h.dl]
def rowStrs (d:RowD):List Str:=d.gx.toList++strsOf d.as
def allOf (ps:List Str) (ds:List RowD):List Str:=ps++ds.flatMap rowStrs
theorem pB (as:List V):(strsOf as).length<=as.length:=List.length_filterMap_le _ _
end K12
namespace K12
open PySem L2
section
variable {P:Program} {w:World} {K:W.Frag} {mg:Str->Option Value} {base:Heap}
def Gives (H:Hp) (Q:VK) (vs:List V):Prop:=∀l H',aC H H'->H l=none->H' l=some (.lst vs)->Q (.ref l) H'
def sp_gives (K:W.Frag):Sp:=λvs H Q _=>∃(r:Addr) (xs:List V) (g:Option Str) (as:List V),vs=[.ref r]/\aG K H r xs/\RowS K H xs g as/\Q (xv g) H
def sp_atoms_of (K:W.Frag):Sp:=λvs H Q _=>∃(r:Addr) (xs:List V) (g:Option Str) (as:List V),vs=[.ref r]/\aG K H r xs/\RowS K H xs g as/\as.length<=10/\Gives H Q as
def sp_each_once (K:W.Frag):Sp:=λvs H Q _=>∃(p:Addr) (ss:List Str),vs=[.ref p]/\aK K H p (ss.map V.str)/\ss.length<=5000/\Gives H Q ((onceL ss).map V.str)
def sp_reads (K:W.Frag):Sp:=λvs H Q _=>∃(r:Addr) (xs:List V) (g:Option Str) (as:List V),vs=[.ref r]/\aG K H r xs/\RowS K H xs g as/\as.length<=10/\(∀v∈as,Atom v)/\Gives H Q ((onceL (strsOf as)).map V.str)
def sp_names_of (K:W.Frag):Sp:=λvs H Q _=>∃(f:Addr) (ps:List Str) (ds:List RowD),vs=[.ref f]/\FunAt K H f ps ds/\Gives H Q ((onceL (allOf ps ds)).map V.str)
def EY (K:W.Frag):List V->Hp->VK->Prop:=λxs H Q=>∃x c t b,xs=[x,.ty c]/\TyOf K H x t/\W.kitOne K t (.type c)=some b/\Q (.bl b) H
theorem cG {n:Nat} (h:n<1000000):n<=sizeLine:=by
 have:(1000000:Nat)<sizeLine:=by decide
 omega
theorem lt_line' {n:Nat} (h:n<1000000):n<sizeLine:=by
 have:(1000000:Nat)<sizeLine:=by decide
 omega
theorem uH {fs P G B:List Str} (h:onceL fs=onceL P):onceL (fs++G++onceL B)=onceL (P++(G++B)):=by have e:=GD (fs++G) B [];rw[II,II] at e;rw[e,Hv];unfold onceL at h ⊢;rw[ID,h,<- ID]
def lets:Str:="abcdefghijklmnopqrstuvwxyz"
theorem lets_ok:PyData.strOk lets=true:=by decide +kernel
end
end K12
namespace K13
open PySem L2
def isO (s:Str):Bool:=decide (s="if") || decide (s="while")
def isE (s:Str):Bool:=decide (s="else") || decide (s="end")
def push (st:List Nat) (i:Nat) (s:Str):List Nat:=if isO s=true then i :: st else if s="end" then st.tail else st
def kd (ks:List Str) (i:Nat):Str:=ks.getD i ""
def stk (ks:List Str):Nat->List Nat
 | 0=>[]
 | i+1=>push (stk ks i) i (kd ks i)
theorem dI (ks:List Str) (i:Nat):stk ks (i+1)=push (stk ks i) i (kd ks i):=rfl
theorem gW (ks:List Str):∀i,∀x∈stk ks i,x<i/\isO (kd ks x)=true
 | 0,x,h=>by cases h
 | i+1,x,h=>by
   rw[dI] at h;unfold push at h;split at h
   . rcases HV.mp h with e|e
     . subst e;exact#[Iv _,by assumption]
     . have:=gW ks i x e;exact#[by omega,this.2]
   . split at h
     . have:=gW ks i x (List.mem_of_mem_tail h);exact#[by omega,this.2]
     . have:=gW ks i x h;exact#[by omega,this.2]
variable {s:Str}
theorem F' (h:isO s=true):¬ s="end":=by intro e;subst e;revert h;decide +kernel
theorem wL (h:isO s=true):¬ s="else":=by intro e;subst e;revert h;decide +kernel
theorem pf:isO ("end":Str)=false:=by decide +kernel
structure Wf (ks:List Str):Prop where
 open_:∀i,i<ks.length->isE (kd ks i)=true->stk ks i≠[]
 els:∀i b r,i<ks.length->kd ks i="else"->stk ks i=b :: r->kd ks b="if"
 shut:stk ks ks.length=[]
 last:∀i,i+1=ks.length->kd ks i="back"
 pos:0<ks.length
def At (ks:List Str) (b j d:Nat):Prop:=∃pre,stk ks j=pre++b :: stk ks b/\pre.length+1=d
variable {ks:List Str} {b:Nat}
theorem rE (h:isO (kd ks b)=true):At ks b (b+1) 1:=#[[],by rw[dI]; unfold push; rw[HR h]; rfl,rfl]
variable {j d:Nat}
theorem DW (h:At ks b j d) (ho:isO (kd ks j)=true):At ks b (j+1) (d+1):=by obtain⟨pre,e,l⟩:=h;exact#[j :: pre,by rw[dI]; unfold push; rw[HR ho,e]; rfl,by simp [l]]
theorem Dd (h:At ks b j (d+1)) (hd:0<d) (he:kd ks j="end"):At ks b (j+1) d:=by
 obtain⟨pre,e,l⟩:=h;cases pre with
 | nil=>simp at l; omega
 | cons p pre =>
   refine#[pre,?_,by simpa using l];rw[dI];unfold push;rw[he,HI (by rw[pf]; decide),HR rfl,e];rfl
theorem Dv (h:At ks b j d) (ho:¬ isO (kd ks j)=true) (he:¬ kd ks j="end"):At ks b (j+1) d:=by obtain⟨pre,e,l⟩:=h;exact#[pre,by rw[dI]; unfold push; rw[HI ho,HI he,e],l]
theorem Gr (h:At ks b j 1):stk ks j=b :: stk ks b:=by
 obtain⟨pre,e,l⟩:=h;cases pre with
 | nil=>exact e
 | cons p pre=>simp at l
theorem sj (w:Wf ks) (h:At ks b j d) (hj:j<=ks.length):j<ks.length:=by
 rcases IF j ks.length with q|q
 . exact q
 . have e:j=ks.length:=by omega
   subst e;obtain⟨pre,e,_⟩:=h;rw[w.shut] at e;simp at e
theorem Cq (h:At ks b j d):0<d:=by obtain⟨pre,_,l⟩:=h;omega
def cF (ks:List Str) (b e:Nat):Prop:=b<e/\e<ks.length/\kd ks e="end"/\stk ks e=b :: stk ks b/\∀j,b<j->j<=e->∃d,At ks b j d
variable {e:Nat}
theorem Bh {e':Nat}(h:cF ks b e) (h':cF ks b e'):e=e':=by
 have key:∀{e e':Nat},cF ks b e->cF ks b e'->¬ e<e':=by
   intro e e' h h' hlt;obtain⟨h1,h2,h3,h4,h5⟩:=h;obtain⟨d,pre,q,_⟩:=h'.2.2.2.2 (e+1) (by omega) hlt;rw[dI] at q;unfold push at q;rw[h3,HI (by rw[pf]; decide),HR rfl,h4] at q;have:(stk ks b).length=(pre++b :: stk ks b).length:=by rw[<- q]; rfl
   simp at this;omega
 have a:=key h h';have b:=key h' h;omega
theorem vL {ks:List Str} (w:Wf ks) {b:Nat}:∀(m j d:Nat),m=ks.length - j->j<=ks.length->b<j->(∀i,b<i->i<=j->∃d,At ks b i d)->At ks b j d->∃e,j<=e/\cF ks b e
 | 0,j,d,hm,hj,hb,hall,h=>absurd (sj w h hj) (by omega)
 | m+1,j,d,hm,hj,hb,hall,h=>by
   have hlt:=sj w h hj;have go:∀d',At ks b (j+1) d'->∃e,j<=e/\cF ks b e:=λd' h'=>by
     obtain⟨e,he,q⟩:=vL w m (j+1) d' (by omega) (by omega) (by omega) (λi h1 h2=>by
       rcases IF j i with z|z
       . have:i=j+1:=by omega
         subst this;exact#[d',h']
       . exact hall i h1 z) h'
     exact#[e,by omega,q]
   by_cases ho:isO (kd ks j)=true
   . exact go _ (DW h ho)
   by_cases he:kd ks j="end"
   . have hp:=Cq h;by_cases hd:d=1
     . subst hd;exact#[j,HN _,hb,hlt,he,Gr h,hall]
     . obtain⟨d',rfl⟩:∃d',d=d'+1:=#[d - 1,by omega]
       exact go _ (Dd h (by omega) he)
   . exact go _ (Dv h ho he)
theorem rK (w:Wf ks) (hb:b<ks.length) (ho:isO (kd ks b)=true):∃e,cF ks b e:=by
 obtain⟨e,_,h⟩:=vL w (ks.length - (b+1)) (b+1) 1 rfl (by omega) (by omega) (λi h1 h2=>by
   have:i=b+1:=by omega
   subst this;exact#[1,rE ho]) (rE ho)
 exact#[e,h]
def cp (ks:List Str) (b k:Nat):Prop:=isE (kd ks k)=true/\(stk ks k).head?=some b
theorem qN {k:Nat}(h:cp ks b k):b<k/\isO (kd ks b)=true:=gW ks k b (List.mem_of_mem_head? h.2)
theorem nz (h:cF ks b e):cp ks b e:=by
 refine#[?_,?_]
 . rw[h.2.2.1]; decide +kernel
 . rw[h.2.2.2.1]; rfl
theorem uQ {ks:List Str} {b e:Nat} (h:cF ks b e):∀j,e<j->b ∉ stk ks j
 | 0,hj,_=>by omega
 | j+1,hj,hm=>by
   rcases IF e j with q|q
   . have ih:=uQ h j q;rw[dI] at hm;unfold push at hm;split at hm
     . rcases HV.mp hm with z|z
       . have:=h.1;omega
       . exact ih z
     . split at hm
       . exact ih (List.mem_of_mem_tail hm)
       . exact ih hm
   . have e1:j=e:=by omega
     subst e1;rw[dI] at hm;unfold push at hm;rw[h.2.2.1,HI (by rw[pf]; decide),HR rfl,h.2.2.2.1] at hm;have:=(gW ks b b hm).1;omega
theorem rN {k:Nat}(h:cF ks b e) (hk:cp ks b k):k<=e:=by
 rcases IF e k with q|q
 . exact absurd (List.mem_of_mem_head? hk.2) (uQ h k q)
 . exact q
def one (ks:List Str) (i:Nat):List (Nat×Nat):=if isE (kd ks i)=true then(match stk ks i with | []=>[] | b :: _=>[(i,b)]) else []
def br (ks:List Str):Nat->List (Nat×Nat)
 | 0=>[]
 | i+1=>br ks i++one ks i
def eX (L:List (Nat×Nat)) (b:Nat):Option Nat:=L.foldl (λacc p=>if p.2=b then some p.1 else acc) none
def cZ (L:List (Nat×Nat)) (b:Nat):Option Nat:=L.foldl (λacc p=>if acc.isSome=true then acc else if p.2=b then some p.1 else none) none
theorem gj (ks:List Str) (i:Nat):(∃b,one ks i=[(i,b)]/\cp ks b i)\/(one ks i=[]/\∀b,¬ cp ks b i):=by
 unfold one cp;by_cases h:isE (kd ks i)=true
 . rw[HR h];cases q:stk ks i with
   | nil=>exact .inr #[rfl,λb z=>by simp at z]
   | cons b r=>exact .inl #[b,rfl,h,rfl]
 . rw[HI h];exact .inr #[rfl,λb z=>h z.1]
theorem vU (L:List (Nat×Nat)) (p:Nat×Nat) (b:Nat):eX (L++[p]) b=if p.2=b then some p.1 else eX L b:=by unfold eX; rw[ID]; rfl
theorem tL (L:List (Nat×Nat)) (p:Nat×Nat) (b:Nat):cZ (L++[p]) b=if(cZ L b).isSome=true then cZ L b else if p.2=b then some p.1 else none:=by unfold cZ; rw[ID]; rfl
theorem mL {b' k:Nat}(h:cp ks b k) (h':cp ks b' k):b=b':=by have:=h.2.symm.trans h'.2;simpa using this
theorem tO (ks:List Str) (b:Nat):∀i,(∀m,eX (br ks i) b=some m->m<i/\cp ks b m/\∀k,m<k->k<i->¬ cp ks b k)/\(eX (br ks i) b=none->∀k,k<i->¬ cp ks b k)
 | 0=>#[λm h=>(by cases h),λ_ k hk=>(by omega)]
 | i+1=>by
   obtain⟨ih1,ih2⟩:=tO ks b i;show(∀m,eX (br ks i++one ks i) b=some m->_)/\(eX (br ks i++one ks i) b=none->_)
   rcases gj ks i with⟨b',e,hh⟩|⟨e,hn⟩
   . rw[e,vU];by_cases hb:b'=b
     . rw[HR hb];subst hb;exact#[λm h=>by cases h; exact#[Iv _,hh,λk h1 h2=>by omega],λh=>by cases h]
     . rw[HI hb];refine#[λm h=>?_,λh k hk=>?_]
       . obtain⟨h1,h2,h3⟩:=ih1 m h;refine#[by omega,h2,λk q1 q2 hk=>?_];rcases IF k i with z|z
         . exact h3 k q1 z hk
         . have:k=i:=by omega
           subst this;exact hb (mL hh hk)
       . intro hk';rcases IF k i with z|z
         . exact ih2 h k z hk'
         . have:k=i:=by omega
           subst this;exact hb (mL hh hk')
   . rw[e,II];refine#[λm h=>?_,λh k hk hk'=>?_]
     . obtain⟨h1,h2,h3⟩:=ih1 m h;refine#[by omega,h2,λk q1 q2 hk=>?_];rcases IF k i with z|z
       . exact h3 k q1 z hk
       . have:k=i:=by omega
         subst this;exact hn b hk
     . rcases IF k i with z|z
       . exact ih2 h k z hk'
       . have:k=i:=by omega
         subst this;exact hn b hk'
theorem mV (ks:List Str) (b:Nat):∀i,(∀m,cZ (br ks i) b=some m->m<i/\cp ks b m/\∀k,k<m->¬ cp ks b k)/\(cZ (br ks i) b=none->∀k,k<i->¬ cp ks b k)
 | 0=>#[λm h=>(by cases h),λ_ k hk=>(by omega)]
 | i+1=>by
   obtain⟨ih1,ih2⟩:=mV ks b i;show(∀m,cZ (br ks i++one ks i) b=some m->_)/\(cZ (br ks i++one ks i) b=none->_)
   rcases gj ks i with⟨b',e,hh⟩|⟨e,hn⟩
   . rw[e,tL];cases hf:cZ (br ks i) b with
     | some m0 =>
       rw[HR (show(some m0).isSome=true from rfl)];obtain⟨h1,h2,h3⟩:=ih1 m0 hf;exact#[λm h=>by cases h; exact#[by omega,h2,h3],λh=>by cases h]
     | none =>
       rw[HI (show ¬ (none:Option Nat).isSome=true by decide)];have hno:=ih2 hf;by_cases hb:b'=b
       . rw[HR hb];subst hb;exact#[λm h=>by cases h; exact#[Iv _,hh,λk hk=>hno k hk],λh=>by cases h]
       . rw[HI hb];refine#[λm h=>(by cases h),λ_ k hk hk'=>?_];rcases IF k i with z|z
         . exact hno k z hk'
         . have:k=i:=by omega
           subst this;exact hb (mL hh hk')
   . rw[e,II];refine#[λm h=>?_,λh k hk hk'=>?_]
     . obtain⟨h1,h2,h3⟩:=ih1 m h;exact#[by omega,h2,h3]
     . rcases IF k i with z|z
       . exact ih2 h k z hk'
       . have:k=i:=by omega
         subst this;exact hn b hk'
theorem Go (h:cF ks b e):eX (br ks ks.length) b=some e:=by
 obtain⟨h1,h2⟩:=tO ks b ks.length;cases q:eX (br ks ks.length) b with
 | none=>exact absurd (nz h) (h2 q e h.2.1)
 | some m =>
   obtain⟨q1,q2,q3⟩:=h1 m q;have:=rN h q2;rcases IF m e with z|z
   . exact absurd (nz h) (q3 e z h.2.1)
   . have:m=e:=by omega
     rw[this]
def gt (ks:List Str) (b f:Nat):Prop:=f<ks.length/\cp ks b f/\∀k,k<f->¬ cp ks b k
theorem vV {f f':Nat}(h:gt ks b f) (h':gt ks b f'):f=f':=by
 rcases Nat.lt_trichotomy f f' with z|z|z
 . exact absurd h.2.1 (h'.2.2 f z)
 . exact z
 . exact absurd h'.2.1 (h.2.2 f' z)
theorem Gp {f:Nat}(h:gt ks b f):cZ (br ks ks.length) b=some f:=by
 obtain⟨h1,h2⟩:=mV ks b ks.length;cases q:cZ (br ks ks.length) b with
 | none=>exact absurd h.2.1 (h2 q f h.1)
 | some m =>
   obtain⟨q1,q2,q3⟩:=h1 m q;rw[vV (#[q1,q2,q3]:gt ks b m) h]
theorem Do (h:¬ isO (kd ks b)=true):cZ (br ks ks.length) b=none:=by
 obtain⟨h1,h2⟩:=mV ks b ks.length;cases q:cZ (br ks ks.length) b with
 | none=>rfl
 | some m=>exact absurd (qN (h1 m q).2.1).2 h
inductive Beh (ks:List Str):Nat->Nat->Prop
 | els {k b e r:Nat}:kd ks (k+1)="else"->(stk ks (k+1)).head?=some b->cF ks b e->Beh ks e r->Beh ks k r
 | whl {k b:Nat}:kd ks (k+1)="end"->(stk ks (k+1)).head?=some b->kd ks b="while"->Beh ks k b
 | fin {k b r:Nat}:kd ks (k+1)="end"->(stk ks (k+1)).head?=some b->¬ kd ks b="while"->Beh ks (k+1) r->Beh ks k r
 | oth {k:Nat}:¬ kd ks (k+1)="else"->¬ kd ks (k+1)="end"->Beh ks k (k+1)
theorem i8:¬ (("else":Str)="end"):=by decide +kernel
theorem Beh.uniq {k r:Nat} (h:Beh ks k r):∀{r':Nat},Beh ks k r'->r=r':=by
 induction h with
 | els h1 h2 h3 h4 ih =>
   intro r' h';cases h' with
   | els g1 g2 g3 g4 =>
     have hb:=Option.some.inj (h2.symm.trans g2);subst hb;have he:=Bh h3 g3;subst he;exact ih g4
   | whl g1 _ _=>exact absurd (h1.symm.trans g1) i8
   | fin g1 _ _ _=>exact absurd (h1.symm.trans g1) i8
   | oth g1 _=>exact absurd h1 g1
 | whl h1 h2 h3 =>
   intro r' h';cases h' with
   | els g1 _ _ _=>exact absurd (g1.symm.trans h1) i8
   | whl g1 g2 g3=>exact Option.some.inj (h2.symm.trans g2)
   | fin g1 g2 g3 _ =>
     have hb:=Option.some.inj (h2.symm.trans g2);subst hb;exact absurd h3 g3
   | oth _ g2=>exact absurd h1 g2
 | fin h1 h2 h3 h4 ih =>
   intro r' h';cases h' with
   | els g1 _ _ _=>exact absurd (g1.symm.trans h1) i8
   | whl g1 g2 g3 =>
     have hb:=Option.some.inj (h2.symm.trans g2);subst hb;exact absurd g3 h3
   | fin g1 g2 g3 g4=>exact ih g4
   | oth _ g2=>exact absurd h1 g2
 | oth h1 h2 =>
   intro r' h';cases h' with
   | els g1 _ _ _=>exact absurd g1 h1
   | whl g1 _ _=>exact absurd g1 h2
   | fin g1 _ _ _=>exact absurd g1 h2
   | oth _ _=>rfl
theorem wF:¬ (("back":Str)="else")/\¬ (("back":Str)="end"):=by decide +kernel
theorem lB (h:isO s=true):¬ isE s=true:=by unfold isE;rw[Hd (wL h),Hd (F' h)];decide
theorem A7 (h1:¬ s="else") (h2:¬ s="end"):¬ isE s=true:=by unfold isE;rw[Hd h1,Hd h2];decide
inductive Due (ks:List Str):Nat->Option (List Nat)->Prop
 | no {k:Nat}:isE (kd ks k)=true->Due ks k none
 | back {k:Nat}:kd ks k="back"->Due ks k (some [])
 | two {k f r1 r2:Nat}:isO (kd ks k)=true->gt ks k f->Beh ks k r1->Beh ks f r2->Due ks k (some [r1,r2])
 | one {k r:Nat}:¬ isE (kd ks k)=true->¬ kd ks k="back"->¬ isO (kd ks k)=true->Beh ks k r->Due ks k (some [r])
theorem lD:¬ isE ("back":Str)=true:=by decide +kernel
theorem pG:¬ isO ("back":Str)=true:=by decide +kernel
theorem Due.uniq {ks:List Str} {k:Nat} {o o':Option (List Nat)} (h:Due ks k o) (h':Due ks k o'):o=o':=by
 cases h with
 | no h =>
   cases h' with
   | no _=>rfl
   | back g=>rw[g] at h; exact absurd h lD
   | two g _ _ _=>exact absurd h (lB g)
   | one g _ _ _=>exact absurd h g
 | back h =>
   cases h' with
   | no g=>rw[h] at g; exact absurd g lD
   | back _=>rfl
   | two g _ _ _=>rw[h] at g; exact absurd g pG
   | one _ g _ _=>exact absurd h g
 | two h1 h2 h3 h4 =>
   cases h' with
   | no g=>exact absurd g (lB h1)
   | back g=>rw[g] at h1; exact absurd h1 pG
   | two g1 g2 g3 g4 =>
     have:=vV h2 g2;subst this;rw[h3.uniq g3,h4.uniq g4]
   | one _ _ g _=>exact absurd h1 g
 | one h1 h2 h3 h4 =>
   cases h' with
   | no g=>exact absurd g h1
   | back g=>exact absurd g h2
   | two g _ _ _=>exact absurd g h3
   | one _ _ _ g=>rw[h4.uniq g]
theorem Gs (h:cF ks b e):∃f,gt ks b f:=by
 obtain⟨h1,h2⟩:=mV ks b ks.length;cases q:cZ (br ks ks.length) b with
 | none=>exact absurd (nz h) (h2 q e h.2.1)
 | some m =>
   obtain⟨q1,q2,q3⟩:=h1 m q;exact#[m,q1,q2,q3]
theorem t7 (w:Wf ks) {k:Nat} (hk:k<ks.length) (h:¬ kd ks k="back"):k+1<ks.length:=by
 rcases IF (k+1) ks.length with z|z
 . exact z
 . exact absurd (w.last k (by omega)) h
theorem Bn (w:Wf ks) {f:Nat}(h:gt ks b f):f+1<ks.length:=by refine t7 w h.1 λz=>?_;have:=h.2.1.1;rw[z] at this;exact lD this
theorem iM {ys:List Str}{i:Nat} (h:i<ks.length):kd (ks++ys) i=kd ks i:=by unfold kd;rw[IM,IM,J5 h]
theorem Fk (ks ys:List Str) (i:Nat):kd (ks++ys) (ks.length+i)=kd ys i:=by unfold kd;rw[IM,IM,IR (Nat.le_add_right _ _),KS]
theorem ju (ks:List Str) (x:Str):kd (ks++[x]) ks.length=x:=by have:=Fk ks [x] 0;rw[Nat.add_zero] at this;rw[this];rfl
theorem lg (ks ys:List Str):∀i,i<=ks.length->stk (ks++ys) i=stk ks i
 | 0,_=>rfl
 | i+1,h=>by rw[dI,dI,lg ks ys i (by omega),iM (by omega)]
structure Good (ks os:List Str):Prop where
 open_:∀i,i<ks.length->isE (kd ks i)=true->stk ks i≠[]
 els:∀i b r,i<ks.length->kd ks i="else"->stk ks i=b :: r->kd ks b="if"
 len:(stk ks ks.length).length=os.length
 mt:∀(i b:Nat),(stk ks ks.length)[i]?=some b->os[i]?=some "if"->kd ks b="if"
theorem good_nil:Good [] []:=#[λi h=>absurd h (IJ i),λi _ _ h=>absurd h (IJ i),rfl,λi b h=>by cases h]
theorem rL (ks:List Str) (x:Str):stk (ks++[x]) (ks++[x]).length=push (stk ks ks.length) ks.length x:=by rw[HU];show stk (ks++[x]) (ks.length+1)=_;rw[dI,lg _ _ _ (HN _),ju]
variable {os:List Str}
theorem Good.snoc {os':List Str}{x:Str} (g:Good ks os) (ho:isE x=true->os≠[]) (he:x="else"->∃r,os=("if":Str) :: r)
   (hl:(push (stk ks ks.length) ks.length x).length=os'.length) (hm:∀(i b:Nat),(push (stk ks ks.length) ks.length x)[i]?=some b->os'[i]?=some "if"->kd (ks++[x]) b="if"):Good (ks++[x]) os':=by
 have hn:(ks++[x]).length=ks.length+1:=by rw[HU]; rfl
 refine#[λi h hE=>?_,λi b r h hE hs=>?_,by rw[rL]; exact hl,by rw[rL]; exact hm]
 . rw[lg _ _ _ (by omega)];rcases IF i ks.length with z|z
   . rw[iM z] at hE;exact g.open_ i z hE
   . have:i=ks.length:=by omega
     subst this;rw[ju] at hE;intro e;have:=g.len;rw[e] at this;exact ho hE (JV.mp this.symm)
 . rw[lg _ _ _ (by omega)] at hs;rcases IF i ks.length with z|z
   . rw[iM z] at hE;have hb:=(gW ks i b (by rw[hs]; exact HS)).1;rw[iM (by omega)];exact g.els i b r z hE hs
   . have:i=ks.length:=by omega
     subst this;rw[ju] at hE;obtain⟨r',e⟩:=he hE;have hb:=(gW ks ks.length b (by rw[hs]; exact HS)).1;rw[iM hb];exact g.mt 0 b (by rw[hs]; rfl) (by rw[e]; rfl)
theorem Good.keep (g:Good ks os) (x:Str) {i:Nat}(h:(stk ks ks.length)[i]?=some b) (h':os[i]?=some "if"):kd (ks++[x]) b="if":=by have hb:=(gW ks ks.length b (HP h)).1;rw[iM hb];exact g.mt i b h h'
theorem Good.opn {x:Str} (g:Good ks os) (ho:isO x=true):Good (ks++[x]) (x :: os):=by
 have e:push (stk ks ks.length) ks.length x=ks.length :: stk ks ks.length:=by unfold push; rw[HR ho]
 refine g.snoc (λz=>absurd z (lB ho)) (λz=>absurd z (wL ho)) (by rw[e,Hh,Hh,g.len]) ?_;rw[e];intro i b h h';cases i with
 | zero =>
   have h1:ks.length=b:=by simpa using h
   have h2:x="if":=by simpa using h'
   rw[<- h1,ju];exact h2
 | succ i=>exact g.keep x (by simpa using h) (by simpa using h')
theorem Good.plain {x:Str} (g:Good ks os) (h1:¬ isO x=true) (h2:¬ isE x=true) (h3:¬ x="end"):Good (ks++[x]) os:=by
 have e:push (stk ks ks.length) ks.length x=stk ks ks.length:=by unfold push; rw[HI h1,HI h3]
 refine g.snoc (λz=>absurd z h2) (λz=>absurd (by rw[z]; decide +kernel) h2) (by rw[e,g.len]) ?_;rw[e];intro i b h h';exact g.keep x h h'
theorem Good.els' {r:List Str}(g:Good ks (("if":Str) :: r)):Good (ks++[("else":Str)]) (("else":Str) :: r):=by
 have e:push (stk ks ks.length) ks.length "else"=stk ks ks.length:=by unfold push; rw[HI (by decide +kernel),HI i8]
 refine g.snoc (λ_=>List.cons_ne_nil _ _) (λ_=>#[r,rfl]) (by rw[e,g.len]; rfl) ?_;rw[e];intro i b h h';cases i with
 | zero =>
   have:("else":Str)="if":=by simpa using h'
   exact absurd this (by decide +kernel)
 | succ i=>exact g.keep _ h (by simpa using h')
theorem Good.fin {r:List Str}{o:Str} (g:Good ks (o :: r)):Good (ks++[("end":Str)]) r:=by
 have e:push (stk ks ks.length) ks.length "end"=(stk ks ks.length).tail:=by unfold push; rw[HI (by decide +kernel),HR rfl]
 have l:=g.len;rw[Hh] at l;refine g.snoc (λ_=>List.cons_ne_nil _ _) (λz=>absurd z.symm i8) (by rw[e,List.length_tail]; omega) ?_;rw[e];intro i b h h';rw[List.getElem?_tail] at h;exact g.keep _ h (by simpa using h')
theorem Good.back (g:Good ks []):Wf (ks++[("back":Str)]):=by
 have hs:stk ks ks.length=[]:=JV.mp g.len;have g':=g.plain pG lD (by decide +kernel);refine#[g'.open_,g'.els,JV.mp g'.len,λi h=>?_,by rw[HU]; exact Nat.succ_pos _];have:i=ks.length:=by rw[HU] at h; simpa using h
 rw[this,ju]
structure RowsAt (K:W.Frag) (H:Hp) (a:Addr) (ks:List Str):Prop where
 ex:∃rs:List Addr,aG K H a (rs.map V.ref)/\rs.length=ks.length/\∀i r,rs[i]?=some r->∃rest,aG K H r (V.str (kd ks i) :: rest)
variable {H:Hp}
theorem RowsAt.mono {K:W.Frag} {H':Hp}{a:Addr} (h:RowsAt K H a ks) (e:aC H H'):RowsAt K H' a ks :=
 #[let ⟨rs,h1,h2,h3⟩:=h.ex; #[rs,e.tup h1,h2,λi r q=>let ⟨rest,z⟩:=h3 i r q; #[rest,e.tup z]]]
theorem ai {x:V} {r:List V}:bQ (x :: r) 0=some x:=by unfold bQ ca;rw[HR (by decide),HR (by simp)];rfl
theorem ixk {K:W.Frag} {Q:VK} {a:Addr} {i:Int} (h:RowsAt K H a ks) (h0:0<=i) (h1:i<ks.length) (q:Q (.str (kd ks i.toNat)) H):nL K (.ref a) (.int i) H λx H1=>nL K x (.int 0) H1 Q:=by
 obtain⟨rs,e1,e2,e3⟩:=h.ex;have hi:i.toNat<rs.length:=by omega
 obtain⟨rest,hr⟩:=e3 i.toNat rs[i.toNat] (by simp [hi]);refine#[a,_,i,.ref rs[i.toNat],rfl,rfl,e1,?_,rs[i.toNat],_,0,_,rfl,rfl,hr,ai,q];have e:bQ (rs.map V.ref) i=some (V.ref rs[i.toNat]):=by unfold bQ ca;rw[HR h0,HR (by rw[HH]; omega),KL,HW];simp [hi]
 exact e
def gD (L:List (Nat×Nat)):List (aO×V):=L.map λp=>(Sum.inl (p.1:Int),V.int (p.2:Int))
def bg (ks:List Str) (i:Nat):List (aO×V):=gD (br ks i)
theorem wC (ks:List Str):∀i,∀p∈br ks i,p.1<i
 | 0,p,h=>by cases h
 | i+1,p,h=>by
   rcases Hg.mp h with h|h
   . have:=wC ks i p h;omega
   . rcases gj ks i with⟨b,e,_⟩|⟨e,_⟩
     . rw[e] at h;have:p=(i,b):=by simpa using h
       rw[this];exact Iv _
     . rw[e] at h;cases h
theorem Di (ks:List Str) (i:Nat):bR (bg ks i) (Sum.inl (i:Int):aO)=none:=by
 have h:=iK (Sum.inl (i:Int):aO) (bg ks i);cases q:bR (bg ks i) (Sum.inl (i:Int):aO) with
 | none=>rfl
 | some v =>
   rw[q] at h;obtain⟨kv,hm,e⟩:=List.any_eq_true.mp h;obtain⟨p,hp,rfl⟩:=Hq.mp hm;have e:=Iq e;have:(p.1:Int)=(i:Int):=Sum.inl.inj e;have:=wC ks i p hp;omega
theorem m5 {i:Nat}(h:cp ks b i):az (bg ks i) (Sum.inl (i:Int):aO) (V.int (b:Int))=bg ks (i+1):=by
 rw[nU _ (Di ks i)];rcases gj ks i with⟨b',e,h'⟩|⟨e,h'⟩
 . show gD (br ks i)++_=gD (br ks i++one ks i);rw[e,mL h h'];unfold gD;rw[Hk];rfl
 . exact absurd h (h' b)
theorem tf {i:Nat} (h:¬ isE (kd ks i)=true):bg ks (i+1)=bg ks i:=by
 rcases gj ks i with⟨b',e,h'⟩|⟨e,h'⟩
 . exact absurd h'.1 h
 . show gD (br ks i++one ks i)=_;rw[e,II];rfl
theorem oQ (ks:List Str):∀i,(br ks i).length<=i
 | 0=>HN _
 | i+1=>by have:=oQ ks i;show(br ks i++one ks i).length<=i+1;rw[HU];rcases gj ks i with⟨b',e,h'⟩|⟨e,h'⟩ <;> rw[e] <;> simp <;> omega
theorem nH (ks:List Str) (i:Nat):(bg ks i).length<=i:=by unfold bg gD; rw[HH]; exact oQ ks i
def eV (ks:List Str) (i:Nat):List V:=(stk ks i).reverse.map λ(n:Nat)=>V.int (n:Int)
theorem EJ (ks:List Str):∀i,(eV ks i).length<=i:=by
 intro i;unfold eV;rw[HH,List.length_reverse]
 induction i with
 | zero=>exact HN _
 | succ i ih =>
   rw[dI];unfold push;split
   . simp; omega
   . split
     . simp; omega
     . omega
theorem inO (s:Str):gE (.str s) [V.str "if",V.str "while"]=isO s:=by show((("if":Str)==s) || ((("while":Str)==s) || false))=isO s;unfold isO;rw[Ka];congr 1 <;> (rw[IV,KC,Ia]; exact eq_comm)
theorem inE (s:Str):gE (.str s) [V.str "else",V.str "end"]=isE s:=by show((("else":Str)==s) || ((("end":Str)==s) || false))=isE s;unfold isE;rw[Ka];congr 1 <;> (rw[IV,KC,Ia]; exact eq_comm)
theorem dh:0<=sizeLine:=by decide
theorem cN:1<=sizeLine:=by decide
theorem aw:2<=sizeLine:=by decide
theorem lt_line' {n:Nat} (h:n<1000000):n<sizeLine:=by
 have:(1000000:Nat)<sizeLine:=by decide
 omega
theorem rf {i:Nat}{r:List Nat} (h:stk ks i=b :: r):bQ (eV ks i) (-1)=some (.int (b:Int))/\(eV ks i)[(eV ks i).length - 1]?=some (.int (b:Int))/\(eV ks i).dropLast=r.reverse.map λ(n:Nat)=>V.int (n:Int):=by
 have e:eV ks i=(r.reverse.map λ(n:Nat)=>V.int (n:Int))++[V.int (b:Int)]:=by unfold eV;rw[h,List.reverse_cons,Hk];rfl
 rw[e];refine#[?_,by simp,by simp];unfold bQ ca;rw[HI (by decide),HR (by simp; omega),KL];have:((-1:Int)+(((r.reverse.map λ(n:Nat)=>V.int (n:Int))++[V.int (b:Int)]).length:Int)).toNat=(r.reverse.map λ(n:Nat)=>V.int (n:Int)).length:=by rw[HU];simp;omega
 rw[this];simp
theorem rQ {K:W.Frag} {a q:Addr} {xs:List V} {kvs:List (aO×V)} {o:HO} (h:aG K H a xs) (hq:H q=some (.dK kvs)):aG K (upd H q o) a xs:=by
 rcases h with(h|⟨o,h⟩)|h
 . exact .inl (.inl (by rw[ay (fJ h hq (by intro z; cases z))]; exact h))
 . exact .inl (.inr #[o,by rw[ay (fJ h hq (by intro z; cases z))]; exact h])
 . exact .inr h
theorem RowsAt.frz {K:W.Frag} {H:Hp} {a q:Addr} {ks:List Str} {kvs:List (aO×V)} {o:HO} (h:RowsAt K H a ks) (hq:H q=some (.dK kvs)):RowsAt K (upd H q o) a ks :=
 #[let ⟨rs,h1,h2,h3⟩:=h.ex; #[rs,rQ h1 hq,h2,λi r z=>let ⟨rest,y⟩:=h3 i r z; #[rest,rQ y hq]]]
def u8 (H:Hp) (l:Addr) (ks:List Str):Prop:=∃bs,H l=some (.lst bs)/\bs.length=ks.length/\∀k,k+1<ks.length->∃r:Nat,Beh ks k r/\bs[k]?=some (.int (r:Int))
def vF (n:Nat):List V:=(List.replicate n [V.non]).flatten
theorem BH (n:Nat):(vF n).length=n:=by unfold vF; rw[pO]; simp
theorem uZ {k:Nat}(n:Nat) (hk:k<n) (h:cp ks b k):bR (bg ks n) (Sum.inl (k:Int):aO)=some (.int (b:Int)):=by
 induction n with
 | zero=>omega
 | succ n ih =>
   rcases IF k n with z|z
   . rcases gj ks n with⟨b',e,h'⟩|⟨e,h'⟩
     . rw[<- m5 h',valV_put,HI (λz'=>by have:(k:Int)=(n:Int):=Sum.inl.inj z'; omega)];exact ih z
     . have:bg ks (n+1)=bg ks n:=by show gD (br ks n++one ks n)=_;rw[e,II];rfl
       rw[this];exact ih z
   . have:k=n:=by omega
     subst this;rw[<- m5 h,valV_put,HR rfl]
theorem sJ {n i:Nat} {kv:aO×V} (h:(bg ks n)[i]?=some kv):∃p:Nat×Nat,(br ks n)[i]?=some p/\kv=(Sum.inl (p.1:Int),V.int (p.2:Int)):=by
 unfold bg gD at h;rw[HW] at h;cases q:(br ks n)[i]? with
 | none=>rw[q] at h; cases h
 | some p=>rw[q] at h; exact#[p,rfl,by simpa using h.symm]
def natsV (l:List Nat):List V:=l.map λ(n:Nat)=>V.int (n:Int)
def fq (H:Hp) (v:V):Option (List Nat)->Prop
 | none=>v=.non
 | some l=>∃p,v=.ref p/\H p=some (.tup (natsV l))
theorem fq.mono {H':Hp}{v:V} {o:Option (List Nat)} (h:fq H v o) (e:aC H H'):fq H' v o:=by
 cases o with
 | none=>exact h
 | some l=>obtain⟨p,h1,h2⟩:=h; exact#[p,h1,e _ _ h2]
theorem fq.lst {H:Hp} {q:Addr} {l l':List V} {v:V} {o:Option (List Nat)} (h:fq H v o) (hq:H q=some (.lst l)):fq (upd H q (.lst l')) v o:=by
 cases o with
 | none=>exact h
 | some l=>obtain⟨p,h1,h2⟩:=h; exact#[p,h1,by rw[ay (fJ h2 hq (by intro z; cases z))]; exact h2]
def FoundN (H:Hp) (l:Addr) (ks:List Str) (i:Nat):Prop:=∃vs:List V,H l=some (.lst vs)/\vs.length=i/\∀k v,vs[k]?=some v->∃o,Due ks k o/\fq H v o
theorem FoundN.mono {H H':Hp} {l:Addr} {ks:List Str} {i:Nat} (h:FoundN H l ks i) (e:aC H H'):FoundN H' l ks i :=
 let ⟨vs,h1,h2,h3⟩:=h; #[vs,e _ _ h1,h2,λk v q=>let ⟨o,d,z⟩:=h3 k v q; #[o,d,z.mono e]]
theorem FoundN.push {l:Addr} {i:Nat} {vs:List V} {v:V} {o:Option (List Nat)} (h1:H l=some (.lst vs)) (h2:vs.length=i) (h3:∀k v,vs[k]?=some v->∃o,Due ks k o/\fq H v o) (hd:Due ks i o) (hv:fq H v o):FoundN (upd H l (.lst (vs++[v]))) l ks (i+1):=by
 refine#[_,aL,by rw[HU,h2]; rfl,λk v' q=>?_];rcases IF k vs.length with z|z
 . rw[J5 z] at q;obtain⟨o',d,y⟩:=h3 k v' q;exact#[o',d,y.lst h1]
 . rw[IR z] at q;have hk:k - vs.length=0:=by
     rcases Nat.eq_zero_or_pos (k - vs.length) with y|y
     . exact y
     . rw[Iz (by simp; omega)] at q;cases q
   rw[hk] at q;have hv':v=v':=by simpa using q
   subst hv';have:k=i:=by omega
   subst this;exact#[o,hd,hv.lst h1]
section
variable {P:Program} {w:World} {K:W.Frag} {mg:Str->Option Value} {base:Heap}
def sp_begins_of (K:W.Frag):Sp:=λvs H Q _=>∃(a:Addr) (ks:List Str),vs=[.ref a]/\RowsAt K H a ks/\Wf ks/\ks.length<=1000/\∀d H',aC H H'->H d=none->H' d=some (.dK (bg ks ks.length))->Q (.ref d) H'
def sp_firsts_behind (K:W.Frag):Sp:=λvs H Q _=>∃(a d:Addr) (ks:List Str),vs=[.ref a,.ref d]/\RowsAt K H a ks/\Wf ks/\ks.length<=1000/\H d=some (.dK (bg ks ks.length))/\∀l o H',aC (upd H d (.frz o (.dK (bg ks ks.length)))) H'->H l=none->u8 H' l ks->Q (.ref l) H'
def sp_ways (K:W.Frag):Sp:=λvs H Q _=>∃(a:Addr) (ks:List Str),vs=[.ref a]/\RowsAt K H a ks/\Wf ks/\ks.length<=1000/\∀l H',aC H H'->H l=none->FoundN H' l ks ks.length->Q (.ref l) H'
theorem cG {n:Nat} (h:n<1000000):n<=sizeLine:=by
 have:(1000000:Nat)<sizeLine:=by decide
 omega
end
end K13
namespace Fl
open PySem L2 Gx
structure Rw where
 r:Addr
 k:Str
 c:Str
structure Fd where
 name:Str
 fa:Addr
 ra:Addr
 rs:List Rw
def iV (K:W.Frag) (H:Hp) (w:Rw):Prop:=∃rest,aG K H w.r (V.str w.k :: rest)/\(w.k="call"->∃x y,rest=[x,.str w.c,y])
variable {H:Hp}
theorem iV.mono {K:W.Frag} {H':Hp}{w:Rw} (e:aC H H') (h:iV K H w):iV K H' w:=let ⟨rest,h1,h2⟩:=h; #[rest,e.tup h1,h2]
structure FnAt (K:W.Frag) (H:Hp) (f:Fd):Prop where
 fn:∃fo pa,aG K H f.fa [.str f.name,fo,.ref pa,.ref f.ra]
 rw_:aG K H f.ra (f.rs.map λw=>V.ref w.r)
 rk:∀w∈f.rs,iV K H w
 fu:∃ps ds,K12.FunAt K H f.fa ps ds
 wf:K13.Wf (f.rs.map (·.k))
 len:f.rs.length<=100
theorem FnAt.mono {K:W.Frag} {H H':Hp} {f:Fd} (e:aC H H') (h:FnAt K H f):FnAt K H' f :=
 #[let ⟨a,b,z⟩:=h.fn; #[a,b,e.tup z],e.tup h.rw_,λw hw=>(h.rk w hw).mono e,let ⟨a,b,z⟩:=h.fu; #[a,b,z.mono e],h.wf,h.len]
theorem FnAt.rows {K:W.Frag} {f:Fd} (h:FnAt K H f):K13.RowsAt K H f.ra (f.rs.map (·.k)):=by
 refine#[f.rs.map (·.r),by rw[IS]; exact h.rw_,by rw[HH,HH],λi r hr=>?_];rw[HW] at hr;cases e:f.rs[i]? with
 | none=>rw[e] at hr; cases hr
 | some w =>
   rw[e] at hr;cases hr;obtain⟨rest,h1,_⟩:=h.rk w (HP e);refine#[rest,?_];have:K13.kd (f.rs.map (·.k)) i=w.k:=by unfold K13.kd;rw[IM,HW,e];rfl
   rw[this];exact h1
structure FS (C:Addr) (H:Hp) (x dx:Addr) (fs:List (Str×V)) (d:Nat->Addr) (kv:Nat->List (aO×V)):Prop where
 ob:H x=some (.ins C dx fs)
 dc:∀j,j<6->H (d j)=some (.dK (kv j))
theorem FS.mono {C:Addr} {H':Hp}{x dx:Addr} {fs:List (Str×V)} {d:Nat->Addr} {kv:Nat->List (aO×V)} (e:aC H H') (h:FS C H x dx fs d kv):FS C H' x dx fs d kv:=#[e _ _ h.ob,λj hj=>e _ _ (h.dc j hj)]
theorem FS.put {C:Addr} {x dx:Addr} {fs:List (Str×V)} {d:Nat->Addr} {kv:Nat->List (aO×V)} (h:FS C H x dx fs d kv) (inj:∀i j,i<6->j<6->d i=d j->i=j) (j:Nat) (hj:j<6) (k':List (aO×V)):FS C (upd H (d j) (.dK k')) x dx fs d (λi=>if i=j then k' else kv i):=by
 refine#[?_,λi hi=>?_]
 . rw[ay (fJ h.ob (h.dc j hj) (by intro z; cases z))]; exact h.ob
 . by_cases e:i=j
   . subst e;rw[aL,HR rfl]
   . rw[ay (λz=>e (inj i j hi hj z)),HI e];exact h.dc i hi
def db (v:V) (d:Nat->Addr):List (Str×V):=aZ "ways_in" (.ref (d 5)) (aZ "names_in" (.ref (d 4)) (aZ "rows_of" (.ref (d 3)) (aZ "params_of" (.ref (d 2)) (aZ "folded_of" (.ref (d 1)) (aZ "number_of" (.ref (d 0)) (aZ "last" v []))))))
theorem Bi (v:V) (d:Nat->Addr):(db v d).lookup ("number_of":Str)=some (.ref (d 0)):=by unfold db;rw[cX,HI (by decide +kernel),cX,HI (by decide +kernel),cX,HI (by decide +kernel),cX,HI (by decide +kernel),cX,HI (by decide +kernel),cX,HR rfl]
theorem FH (v:V) (d:Nat->Addr):(db v d).lookup ("folded_of":Str)=some (.ref (d 1)):=by unfold db;rw[cX,HI (by decide +kernel),cX,HI (by decide +kernel),cX,HI (by decide +kernel),cX,HI (by decide +kernel),cX,HR rfl]
theorem Cn (v:V) (d:Nat->Addr):(db v d).lookup ("params_of":Str)=some (.ref (d 2)):=by unfold db;rw[cX,HI (by decide +kernel),cX,HI (by decide +kernel),cX,HI (by decide +kernel),cX,HR rfl]
theorem rF (v:V) (d:Nat->Addr):(db v d).lookup ("rows_of":Str)=some (.ref (d 3)):=by unfold db;rw[cX,HI (by decide +kernel),cX,HI (by decide +kernel),cX,HR rfl]
theorem ur (v:V) (d:Nat->Addr):(db v d).lookup ("names_in":Str)=some (.ref (d 4)):=by unfold db;rw[cX,HI (by decide +kernel),cX,HR rfl]
theorem tj (v:V) (d:Nat->Addr):(db v d).lookup ("ways_in":Str)=some (.ref (d 5)):=by unfold db;rw[cX,HR rfl]
def dd (d0 d1 d2 d3 d4 d5:Addr):Nat->Addr
 | 0=>d0
 | 1=>d1
 | 2=>d2
 | 3=>d3
 | 4=>d4
 | _=>d5
theorem bn {a b:Addr} {o:HO} (h:upd H a o b=none):b≠a/\H b=none:=by
 have hn:b≠a:=λz=>by rw[z,aL] at h; cases h
 rw[ay hn] at h;exact#[hn,h]
theorem bP {a b:Addr} {o o':HO} (h:H b=some o) (hn:b≠a):upd H a o' b=some o:=by rw[ay hn]; exact h
theorem eR (f:Str) (v:V) (l:List (Str×V)) (k:Nat) (h:l.length<=k):(aZ f v l).length<=k+1:=Ht (nh f v l) (by omega)
theorem si {α:Type} {l:List α} {f:α->V} {r:Int} {a:α} (h0:0<=r) (h:l[r.toNat]?=some a):bQ (l.map f) r=some (f a):=by obtain⟨j,rfl⟩:=IL h0;refine bt ?_;rw[IH] at h;rw[HW,h];rfl
end Fl
namespace L2
open PySem
def hl (H:Hp):Hp:=λb=>match H b with
 | some (.lst xs)=>some (.lst xs)
 | some (.tup xs)=>some (.tup xs)
 | _=>none
variable {H:Hp}
theorem oF :aC (hl H) H:=λb o h=>by
 unfold hl at h;split at h
 . rename_i e; rw[e]; exact h
 . rename_i e; rw[e]; exact h
 . cases h
theorem sf {b:Addr} {xs:List V} (h:H b=some (.lst xs)):hl H b=some (.lst xs):=by unfold hl; rw[h]
theorem zw {b:Addr} {xs:List V} (h:H b=some (.tup xs)):hl H b=some (.tup xs):=by unfold hl; rw[h]
theorem aC.hl {H H':Hp} (e:aC H H'):aC (hl H) (hl H'):=λb o h=>by have h1:=oF _ _ h;have h2:=e _ _ h1;unfold L2.hl at h ⊢;rw[h1] at h;rw[h2];exact h
theorem En {a:Addr} {o:HO} (h:∀xs,H a≠some (.lst xs)/\H a≠some (.tup xs)) (ho:∀xs,o≠.lst xs/\o≠.tup xs):hl (upd H a o)=hl H:=by
 funext b;unfold hl upd;by_cases hb:b=a
 . subst hb;rw[HR rfl];cases o with
   | lst xs=>exact absurd rfl (ho xs).1
   | tup xs=>exact absurd rfl (ho xs).2
   | _ =>
     cases e:H b with
     | none=>rfl
     | some u=>cases u with
       | lst xs=>exact absurd e (h xs).1
       | tup xs=>exact absurd e (h xs).2
       | _=>rfl
 . rw[HI hb]
theorem iT {a:Addr} {kvs kvs':List (aO×V)} (h:H a=some (.dK kvs)):hl (upd H a (.dK kvs'))=hl H :=
 En (λxs=>#[(by rw[h]; intro z; cases z),(by rw[h]; intro z; cases z)]) λxs=>#[(by intro z; cases z),(by intro z; cases z)]
end L2
namespace K13
open PySem L2
theorem FoundN.hl {H:Hp} {l:Addr} {ks:List Str} {i:Nat} (h:FoundN H l ks i):FoundN (L2.hl H) l ks i:=by
 obtain⟨vs,h1,h2,h3⟩:=h;refine#[vs,sf h1,h2,λk v q=>?_];obtain⟨o,d,z⟩:=h3 k v q;refine#[o,d,?_];cases o with
 | none=>exact z
 | some l=>obtain⟨p,z1,z2⟩:=z; exact#[p,z1,zw z2]
end K13
namespace F2
open PySem L2 Gx Fl
structure Fd where
 name:Str
 fo:V
 fa:Addr
 pa:Addr
 ra:Addr
 ps:List Str
 rs:List Rw
 ds:List K12.RowD
structure FnAt (K:W.Frag) (H:Hp) (f:Fd):Prop where
 fn:aG K H f.fa [.str f.name,f.fo,.ref f.pa,.ref f.ra]
 pr:aG K H f.pa (f.ps.map V.str)
 rw_:aG K H f.ra (f.rs.map λw=>V.ref w.r)
 rk:∀w∈f.rs,iV K H w
 fu:K12.FunAt K H f.fa f.ps f.ds
 wf:K13.Wf (f.rs.map (·.k))
 len:f.rs.length<=100
theorem FnAt.mono {K:W.Frag} {H H':Hp} {f:Fd} (e:aC H H') (h:FnAt K H f):FnAt K H' f :=
 #[e.tup h.fn,e.tup h.pr,e.tup h.rw_,λw hw=>(h.rk w hw).mono e,h.fu.mono e,h.wf,h.len]
def toF (f:Fd):Fl.Fd:=#[f.name,f.fa,f.ra,f.rs]
theorem FnAt.old {K:W.Frag} {H:Hp} {f:Fd} (h:FnAt K H f):Fl.FnAt K H (toF f):=#[#[_,_,h.fn],h.rw_,h.rk,#[_,_,h.fu],h.wf,h.len]
def nms (f:Fd):List Str:=K12.onceL (K12.allOf f.ps f.ds)
def kds (f:Fd):List Str:=f.rs.map (·.k)
def kD (g:Nat->Fd->V) (fns:List Fd):List (aO×V):=fns.mapIdx λi f=>(Sum.inr f.name,g i f)
theorem Dm (g:Nat->Fd->V) (fns:List Fd) (f:Fd):kD g (fns++[f])=kD g fns++[(Sum.inr f.name,g fns.length f)]:=by unfold kD;rw[List.mapIdx_append];simp
variable {fns:List Fd}
theorem FU {g g':Nat->Fd->V} (h:∀i f,i<fns.length->g i f=g' i f):kD g fns=kD g' fns:=by unfold kD;refine List.ext_getElem (by simp) λi h1 h2=>?_;simp only[List.getElem_mapIdx];rw[h i _ (by simpa using h1)]
theorem Gm (g:Nat->Fd->V) {s:Str} (h:s ∉ fns.map (·.name)):bR (kD g fns) (Sum.inr s:aO)=none:=by
 unfold bR;rw[Option.map_eq_none_iff,List.find?_eq_none];intro kv hkv z;unfold kD at hkv;obtain⟨i,hi,e⟩:=List.mem_mapIdx.mp hkv;subst e;have z:(Sum.inr fns[i].name:aO)=Sum.inr s:=by simpa using z
 exact h (Hq.mpr #[fns[i],IW hi,Sum.inr.inj z])
theorem rP {f:Fd} {i:Nat} (h:fns[i]?=some f) (nd:(fns.map (·.name)).Nodup):f.name ∉ (fns.take i).map (·.name):=by
 intro z;obtain⟨g,hg,e⟩:=Hq.mp z;obtain⟨j,hj⟩:=Im hg;have hji:j<i:=by have:=(HL.mp hj).1;rw[Hx] at this;omega
 rw[JP hji] at hj;have h1:(fns.map (·.name))[i]?=some f.name:=by rw[HW,h]; rfl
 have h2:(fns.map (·.name))[j]?=some f.name:=by rw[HW,hj]; exact Hb some e
 have:=(List.getElem?_inj (HL.mp h2).1 nd).mp (h2.trans h1.symm);omega
theorem gv {g g':Nat->Fd->V} {f:Fd} {i:Nat} {v:V} (h:fns[i]?=some f) (nd:(fns.map (·.name)).Nodup) (hg:∀j f,j<i->g j f=g' j f) (hv:v=g' i f):az (kD g (fns.take i)) (Sum.inr f.name:aO) v=kD g' (fns.take (i+1)):=by
 have hi:i<fns.length:=(HL.mp h).1;have hl:(fns.take i).length=i:=by rw[Hx]; omega
 rw[nU _ (Gm g (rP h nd)),IU,h];show _=kD g' (fns.take i++[f]);rw[Dm,hl,<- hv,FU (g:=g) (g':=g') λj f hj=>hg j f (by omega)]
theorem kD_at (g:Nat->Fd->V):∀{fns:List Fd} {i:Nat} {f:Fd},(fns.map (·.name)).Nodup->fns[i]?=some f->bR (kD g fns) (Sum.inr f.name:aO)=some (g i f):=by
 intro fns i f nd h;have hi:i<fns.length:=(HL.mp h).1;have key:∀k,i<k->k<=fns.length->bR (kD g (fns.take k)) (Sum.inr f.name:aO)=some (g i f):=by
   intro k
   induction k with
   | zero=>intro h0; exact absurd h0 (IJ _)
   | succ k ih =>
     intro hk hk';obtain⟨f',hf'⟩:∃f',fns[k]?=some f':=#[fns[k],HX (by omega)]
     rw[<- gv (g:=g) (g':=g) hf' nd (λ_ _ _=>rfl) rfl,valV_put];by_cases e:i=k
     . subst e;rw[h] at hf';cases hf';rw[HR rfl]
     . have hn:¬ (Sum.inr f.name:aO)=Sum.inr f'.name:=λz=>rP hf' nd (Hq.mpr #[f,HP (by rw[JP (show i<k by omega)]; exact h),Sum.inr.inj z]);rw[HI hn];exact ih (by omega) (by omega)
 have:=key fns.length hi (HN _);rw[IB] at this;exact this
structure FlowsAt (K:W.Frag) (C:Addr) (H:Hp) (x:Addr) (fns:List Fd):Prop where
 all:∀f∈fns,FnAt K H f
 nd:(fns.map (·.name)).Nodup
 ob:∃dx fz d kv,∃nl wl:Nat->Addr,fns[fns.length - 1]?=some fz/\FS C H x dx (db (V.str fz.name) d) d kv/\kv 0=kD (λi _=>.int i) fns/\kv 1=kD (λ_ f=>f.fo) fns/\kv 2=kD (λ_ f=>.ref f.pa) fns/\kv 3=kD (λ_ f=>.ref f.ra) fns /\
   kv 4=kD (λi _=>.ref (nl i)) fns/\kv 5=kD (λi _=>.ref (wl i)) fns/\∀i f,fns[i]?=some f->H (nl i)=some (.lst ((nms f).map V.str))/\K13.FoundN H (wl i) (kds f) (kds f).length
theorem FlowsAt.mono {K:W.Frag} {C:Addr} {H H':Hp} {x:Addr} {fns:List Fd} (e:aC H H') (h:FlowsAt K C H x fns):FlowsAt K C H' x fns:=by obtain⟨dx,fz,d,kv,nl,wl,h0,h1,h2,h3,h4,h5,h6,h7,h8⟩:=h.ob;exact#[λf hf=>(h.all f hf).mono e,h.nd,#[dx,fz,d,kv,nl,wl,h0,h1.mono e,h2,h3,h4,h5,h6,h7,λi f hi=>#[e _ _ (h8 i f hi).1,(h8 i f hi).2.mono e]]]
end F2
namespace K21
open PySem L2
abbrev wide:Int:=281474976710656
def bw (s:Str) (a b:Int):Int:=if s="&" then Builtin.bitAnd a b else if s="|" then Builtin.bitOr a b else Builtin.bitXor a b
def jF (s:Str) (x y:Int):Int:=if s="&" then x * y else if s="|" then x+y - x * y else(x+y)%2
theorem mW (x:Int):x%2=0\/x%2=1:=by omega
theorem Df (s:Str) (a b:Int):0<=jF s (a%2) (b%2)/\jF s (a%2) (b%2)<=1:=by unfold jF;rcases mW a with h|h <;> rcases mW b with h' | h' <;> rw[h,h'] <;> (split; decide; split <;> decide)
theorem GG {x y:Int} (hx:0<=x) (hy:0<=y):Builtin.bitAnd x y=2 * Builtin.bitAnd (x / 2) (y / 2)+(x%2) * (y%2):=by
 obtain⟨n,rfl⟩:=IL hx;obtain⟨m,rfl⟩:=IL hy;rw[PyProof.Rows.bitAnd_pp hx hy,PyProof.Rows.bitAnd_pp (by omega) (by omega)];have e1:(Int.ofNat n).toNat=n:=rfl;have e2:(Int.ofNat m).toNat=m:=rfl;have e3:((n:Int) / 2).toNat=n / 2:=by omega
 have e4:((m:Int) / 2).toNat=m / 2:=by omega
 have a1:((n &&& m) / 2)=(n / 2) &&& (m / 2):=Nat.and_div_two;have a2:(n &&& m)%2=(n%2) * (m%2):=by have h1:=Nat.and_mod_two_eq_one (a:=n) (b:=m);rcases K8 n with h|h <;> rcases K8 m with h' | h' <;> rw[h,h'] at h1 ⊢ <;> omega
 have a3:=Nat.div_add_mod (n &&& m) 2;show((n &&& m:Nat):Int)=_;rw[e3,e4,<- a1];have a4:((n:Int)%2) * ((m:Int)%2)=(((n%2) * (m%2):Nat):Int):=by rw[KW];rfl
 show _=2 * (((n &&& m) / 2:Nat):Int)+((n:Int)%2) * ((m:Int)%2);rw[a4,<- a2];omega
theorem zq (s:Str) {a b:Int} (ha:0<=a) (hb:0<=b):bw s a b=2 * bw s (a / 2) (b / 2)+jF s (a%2) (b%2):=by
 have h:=GG ha hb;unfold bw jF;split
 . exact h
 . split
   . rw[Je,Je,h];omega
   . have e:∀x y:Int,Builtin.bitXor x y=x+y - 2 * Builtin.bitAnd x y:=λx y=>by unfold Builtin.bitXor;rw[Je];omega
     rw[e,e,h];rcases mW a with p|p <;> rcases mW b with p' | p' <;> rw[p,p'] <;> omega
theorem Gn (s:Str):bw s 0 0=0:=by
 unfold bw;split
 . rfl
 . split <;> rfl
theorem wa (s:Str):∀(n:Nat) {a b:Int},0<=a->0<=b->a<2 ^ n->b<2 ^ n->0<=bw s a b/\bw s a b<2 ^ n
 | 0,a,b,h1,h2,h3,h4=>by
   have e1:a=0:=by simp at h3; omega
   have e2:b=0:=by simp at h4; omega
   subst e1 e2;rw[Gn];decide
 | n+1,a,b,h1,h2,h3,h4=>by rw[Int.pow_succ] at h3 h4 ⊢;have ih:=wa s n (a:=a / 2) (b:=b / 2) (by omega) (by omega) (by omega) (by omega);have st:=zq s h1 h2;have bb:=Df s a b;omega
def valOf (s:Str) (a b:Int):Int :=
 if s="+" then(a+b)%wide else if s="-" then(a - b)%wide else if s="*" then(a * b)%wide else if s="/" then(if b=0 then 0 else a / b)
 else if s="<" then(if a<b then 1 else 0) else if s="=" then(if a=b then 1 else 0) else bw s a b
theorem Bk (s:Str) {a b:Int} (ha:0<=a) (hb:0<=b) (ha':a<wide) (hb':b<wide):0<=valOf s a b/\valOf s a b<wide:=by
 have m:∀z:Int,0<=z%wide/\z%wide<wide:=λz=>#[Iy _ (by decide),Ii _ (by decide)]
 unfold valOf;split
 . exact m _
 split
 . exact m _
 split
 . exact m _
 split
 . split
   . decide
   . have h1:0<=a / b:=Int.ediv_nonneg ha hb;have h2:a / b<=a:=Int.ediv_le_self b ha;omega
 split
 . split <;> decide
 split
 . split <;> decide
 exact wa s 48 ha hb ha' hb'
end K21
namespace Rk2
open PySem L2 K21
inductive Tr where
 | box (k:Int):Tr
 | num (v:Int):Tr
 | op (s:Str) (l r:Tr):Tr
 deriving DecidableEq
def lvs:Tr->List (Bool×Int)
 | .box k=>[(true,k)]
 | .num v=>[(false,v)]
 | .op _ l r=>lvs l++lvs r
def dp:Tr->Nat
 | .box _=>0
 | .num _=>0
 | .op _ l r=>max (dp l) (dp r)+1
def RAt (H:Hp):Tr->V->Prop
 | .box k,v=>∃p,v=.ref p/\H p=some (.tup [.str "box",.int k])
 | .num n,v=>∃p,v=.ref p/\H p=some (.tup [.str "num",.int n])
 | .op s l r,v=>∃p x y,v=.ref p/\H p=some (.tup [.str s,x,y])/\¬ s="box"/\¬ s="num"/\RAt H l x/\RAt H r y
theorem RAt.mono {H H':Hp} (e:aC H H'):∀{t:Tr} {v:V},RAt H t v->RAt H' t v
 | .box k,v,h=>let ⟨p,h1,h2⟩:=h; #[p,h1,e _ _ h2]
 | .num n,v,h=>let ⟨p,h1,h2⟩:=h; #[p,h1,e _ _ h2]
 | .op s l r,v,h=>let ⟨p,x,y,h1,h2,h3,h4,h5,h6⟩:=h; #[p,x,y,h1,e _ _ h2,h3,h4,RAt.mono e h5,RAt.mono e h6]
variable {H:Hp}
theorem qE {a q:Addr} {xs l:List V} {o:HO} (h:H a=some (.tup xs)) (hq:H q=some (.lst l)):(upd H q o) a=some (.tup xs):=by rw[ay (fJ h hq (by intro z; cases z))];exact h
theorem RAt.lst {H:Hp} {q:Addr} {l:List V} {o:HO} (hq:H q=some (.lst l)):∀{t:Tr} {v:V},RAt H t v->RAt (upd H q o) t v
 | .box k,v,h=>let ⟨p,h1,h2⟩:=h; #[p,h1,qE h2 hq]
 | .num n,v,h=>let ⟨p,h1,h2⟩:=h; #[p,h1,qE h2 hq]
 | .op s l r,v,h=>let ⟨p,x,y,h1,h2,h3,h4,h5,h6⟩:=h; #[p,x,y,h1,qE h2 hq,h3,h4,RAt.lst hq h5,RAt.lst hq h6]
theorem RAt.upd {H:Hp} {q:Addr} {o o':HO} (hq:H q=some o') (hn:∀xs,o'≠.tup xs):∀{t:Tr} {v:V},RAt H t v->RAt (upd H q o) t v
 | .box k,v,h=>let ⟨p,h1,h2⟩:=h; #[p,h1,by rw[ay (fJ h2 hq (λz=>hn _ z.symm))]; exact h2]
 | .num n,v,h=>let ⟨p,h1,h2⟩:=h; #[p,h1,by rw[ay (fJ h2 hq (λz=>hn _ z.symm))]; exact h2]
 | .op s l r,v,h=>let ⟨p,x,y,h1,h2,h3,h4,h5,h6⟩:=h; #[p,x,y,h1,by rw[ay (fJ h2 hq (λz=>hn _ z.symm))]; exact h2,h3,h4,RAt.upd hq hn h5,RAt.upd hq hn h6]
def Ps {α:Type} (R:α->V->Prop):List V->List α->Prop
 | [],[]=>True
 | v :: us,t :: ts=>R t v/\Ps R us ts
 | _,_=>False
variable {α:Type} {R R':α->V->Prop}
theorem Ps.imp (f:∀t v,R t v->R' t v):∀{us:List V} {ts:List α},Ps R us ts->Ps R' us ts
 | [],[],_=>trivial
 | v :: us,t :: ts,h=>#[f _ _ h.1,Ps.imp f h.2]
 | [],_ :: _,h=>h.elim
 | _ :: _,[],h=>h.elim
theorem Ps.len:∀{us:List V} {ts:List α},Ps R us ts->us.length=ts.length
 | [],[],_=>rfl
 | v :: us,t :: ts,h=>by rw[Hh,Hh,Ps.len h.2]
 | [],_ :: _,h=>h.elim
 | _ :: _,[],h=>h.elim
theorem Ps.app:∀{us us':List V} {ts ts':List α},Ps R us ts->Ps R us' ts'->Ps R (us++us') (ts++ts')
 | [],_,[],_,_,h=>h
 | v :: us,_,t :: ts,_,h,h'=>#[h.1,Ps.app h.2 h']
 | [],_,_ :: _,_,h,_=>h.elim
 | _ :: _,_,[],_,h,_=>h.elim
theorem Ps.at:∀{us:List V} {ts:List α} {n:Nat},Ps R us ts->n<ts.length->∃u t,us[n]?=some u/\ts[n]?=some t/\R t u
 | v :: us,t :: ts,0,h,_=>#[v,t,rfl,rfl,h.1]
 | v :: us,t :: ts,n+1,h,hn=>by obtain⟨u,t',h1,h2,h3⟩:=Ps.at (n:=n) h.2 (by simpa using hn);exact#[u,t',by simpa using h1,by simpa using h2,h3]
 | [],[],_,_,hn=>absurd hn (IJ _)
 | [],_ :: _,_,h,_=>h.elim
 | _ :: _,[],_,h,_=>h.elim
theorem one_char (c:Nat):¬ (#[(List.toArray [c])]:Str)="box"/\¬ (#[(List.toArray [c])]:Str)="num":=by
 refine#[λz=>?_,λz=>?_]
 . have:=Hb Str.length z;exact absurd this (by show ¬ (1=Str.length "box"); decide +kernel)
 . have:=Hb Str.length z;exact absurd this (by show ¬ (1=Str.length "num"); decide +kernel)
def jt (s:Str) (k:Int):PyData:=.tuple [.str s,.int k]
theorem zh {K:W.Frag} {p:Addr} {s:Str} {k:Int} (h:aG K H p [.str s,.int k]):bH K H (jt s k) (.ref p):=by unfold jt bH;refine#[p,_,rfl,h,?_];unfold bT;refine#[_,_,rfl,(by unfold bH; rfl),?_];unfold bT;refine#[_,_,rfl,(by unfold bH; rfl),?_];unfold bT;rfl
theorem GY (s s':Str) (k b:Int):PyData.eqv (jt s k) (jt s' b)=(decide (s=s')&&decide (k=b)):=by unfold jt PyData.eqv PyData.eqvAll;unfold PyData.eqvAll PyData.eqv;unfold PyData.eqvAll;rw[IV];simp
theorem RAt.head {tr:Tr} {v:V} (h:RAt H tr v):∃p hd rest,v=.ref p/\H p=some (.tup (.str hd :: rest))/\(hd="num"->∃k,tr=.num k/\rest=[.int k])/\(¬ hd="num"->∀k,tr≠.num k):=by
 cases tr with
 | box k =>
   obtain⟨p,rfl,e⟩:=h;exact#[p,_,_,rfl,e,λz=>absurd z (by decide +kernel),λ_ k z=>by cases z]
 | num k =>
   obtain⟨p,rfl,e⟩:=h;exact#[p,_,_,rfl,e,λ_=>#[k,rfl,rfl],λz=>absurd rfl z]
 | op s l r =>
   obtain⟨p,x,y,rfl,e,n1,n2,_,_⟩:=h;exact#[p,_,_,rfl,e,λz=>absurd z n2,λ_ k z=>by cases z]
def tog (s:Str):Tr->Tr->Tr
 | .num x,.num y=>.num (valOf s x y)
 | a,b=>.op s a b
theorem tog_op {s:Str} {a b:Tr} (h:(∀k,a≠.num k)\/∀k,b≠.num k):tog s a b=.op s a b:=by
 unfold tog;split
 . rcases h with h|h
   . exact absurd rfl (h _)
   . exact absurd rfl (h _)
 . rfl
def okl (l:List (Bool×Int)):Prop:=∀v,(false,v)∈l->0<=v/\v<wide
theorem okl_num {v:Int} (h:okl (lvs (.num v))):0<=v/\v<wide:=h v HS
theorem vq {Q:VK} {x y:V} (h:x=y) (q:Q y H):Q x H:=by subst h; exact q
theorem pw48:((2:Int) ^ (48:Int).toNat)=wide:=by decide
theorem pos48:(0:Int)<(2:Int) ^ (48:Int).toNat:=by decide
theorem aw:2<=sizeLine:=by decide
theorem cU:3<=sizeLine:=by decide
theorem lt_line' {n:Nat} (h:n<1000000):n<sizeLine:=by
 have:(1000000:Nat)<sizeLine:=by decide
 omega
theorem ai {x:V} {r:List V}:bQ (x :: r) 0=some x:=by unfold bQ ca;rw[HR (by decide),HR (by simp)];rfl
theorem AW:PyData.strOk "box"=true:=by decide +kernel
theorem Cb:PyData.strOk "num"=true:=by decide +kernel
theorem t9:¬ (("num":Str)="box"):=by decide +kernel
theorem D3:¬ (("box":Str)="num"):=by decide +kernel
theorem EK:((("+-*/<=&|^":Str).cps.toList.length:Nat):Int)=9:=by decide +kernel
theorem sg_fit:("+-*/<=&|^":Str).length<=sizeLine:=by decide +kernel
def Sg (s:Str):Prop:=¬ s="box"/\¬ s="num"
theorem sg_at {i:Int} (h0:0<=i) (h1:i<9):∃ch,bQ ("+-*/<=&|^":Str).cps.toList i=some ch:=by obtain⟨ch,hch,_⟩:=uC (xs:=("+-*/<=&|^":Str).cps.toList) (i:=i) h0 (by rw[EK]; exact h1);exact#[ch,hch]
theorem mS {a b:List (Bool×Int)} (h:okl (a++b)):okl a/\okl b:=#[λv hv=>h v (Hg.mpr (.inl hv)),λv hv=>h v (Hg.mpr (.inr hv))]
theorem no_dk {l:List (aO×V)}:∀xs,HO.dK l≠.tup xs:=λxs z=>by cases z
theorem putK_len (kvs:List (aO×V)) (k:aO) (v:V):(az kvs k v).length<=kvs.length+1:=by
 unfold az;split
 . rw[HH]; omega
 . rw[HU]; exact HN _
end Rk2
namespace Rk2
open PySem L2 K21
def pt (g:Int->Option Tr):Tr->Tr
 | .num v=>.num v
 | .box k=>(g k).getD (.box k)
 | .op s l r=>tog s (pt g l) (pt g r)
def NV (H:Hp) (kvs:List (aO×V)) (g:Int->Option Tr):Prop:=∀k,match g k with|none=>bR kvs (Sum.inl k:aO)=none|some t=>∃x,bR kvs (Sum.inl k:aO)=some x/\RAt H t x
theorem NV.no {H:Hp} {kvs:List (aO×V)} {g:Int->Option Tr} (h:NV H kvs g) {k:Int} (e:g k=none):bR kvs (Sum.inl k:aO)=none:=by have:=h k;rw[e] at this;exact this
theorem NV.yes {H:Hp} {kvs:List (aO×V)} {g:Int->Option Tr} (h:NV H kvs g) {k:Int} {t:Tr} (e:g k=some t):∃x,bR kvs (Sum.inl k:aO)=some x/\RAt H t x:=by have:=h k;rw[e] at this;exact this
theorem NV.of {H:Hp} {kvs:List (aO×V)} {g:Int->Option Tr} (h1:∀k,g k=none->bR kvs (Sum.inl k:aO)=none) (h2:∀k t,g k=some t->∃x,bR kvs (Sum.inl k:aO)=some x/\RAt H t x):NV H kvs g:=λk=>by
 cases e:g k with
 | none=>exact h1 k e
 | some t=>exact h2 k t e
theorem NV.mono {H H':Hp} {kvs:List (aO×V)} {g:Int->Option Tr} (h:NV H kvs g) (s:aC H H'):NV H' kvs g :=
 .of (λk e=>h.no e) λk t e=>let ⟨x,h1,h2⟩:=h.yes e; #[x,h1,h2.mono s]
theorem NV.upd {H:Hp} {q:Addr} {o o':HO} {kvs:List (aO×V)} {g:Int->Option Tr} (h:NV H kvs g) (hq:H q=some o') (hn:∀xs,o'≠.tup xs):NV (upd H q o) kvs g :=
 .of (λk e=>h.no e) λk t e=>let ⟨x,h1,h2⟩:=h.yes e; #[x,h1,h2.upd hq hn]
def setG (g:Int->Option Tr) (k:Int) (t:Tr):Int->Option Tr:=λj=>if j=k then some t else g j
theorem NV.put {H:Hp} {kvs:List (aO×V)} {g:Int->Option Tr} (h:NV H kvs g) {k:Int} {t:Tr} {x:V} (r:RAt H t x):NV H (az kvs (Sum.inl k:aO) x) (setG g k t):=by
 refine .of (λj e=>?_) λj t' e=>?_
 . unfold setG at e;split at e
   . cases e
   . rename_i hj
     rw[valV_put,HI (λz=>hj (Sum.inl.inj z))];exact h.no e
 . unfold setG at e;split at e
   . rename_i hj
     cases e;exact#[x,by rw[valV_put,HR (by rw[hj])],r]
   . rename_i hj
     obtain⟨y,h1,h2⟩:=h.yes e;exact#[y,by rw[valV_put,HI (λz=>hj (Sum.inl.inj z))]; exact h1,h2]
theorem ux {s:Str} {a b:Tr} (ha:okl (lvs a)) (hb:okl (lvs b)):okl (lvs (tog s a b)):=by
 unfold tog;split
 . rename_i x y
   have h1:=okl_num ha;have h2:=okl_num hb;have h3:=Bk s h1.1 h2.1 h1.2 h2.2;intro v hv;have:=HY.mp hv;cases this;exact h3
 . intro v hv;rcases Hg.mp hv with hv|hv
   . exact ha v hv
   . exact hb v hv
theorem j4 {g:Int->Option Tr} (hg:∀k t,g k=some t->okl (lvs t)):∀{tr:Tr},okl (lvs tr)->okl (lvs (pt g tr))
 | .num v,h=>h
 | .box k,h=>by
   show okl (lvs ((g k).getD (.box k)));cases e:g k with
   | none=>exact h
   | some t=>exact hg k t e
 | .op s l r,h=>ux (j4 hg (mS h).1) (j4 hg (mS h).2)
theorem vf {s:Str} {a b:Tr} {n:Nat} (h1:dp a<=n) (h2:dp b<=n):dp (tog s a b)<=n+1:=by
 unfold tog;split
 . exact Hl _
 . show max (dp a) (dp b)+1<=n+1;omega
theorem qD {g:Int->Option Tr} {m:Nat} (hg:∀k t,g k=some t->dp t<=m):∀(tr:Tr),dp (pt g tr)<=dp tr+m
 | .num v=>Hl _
 | .box k=>by
   show dp ((g k).getD (.box k))<=_;cases e:g k with
   | none=>exact Hl _
   | some t=>have:=hg k t e; show dp t<=0+m; omega
 | .op s l r=>by have h1:=qD hg l;have h2:=qD hg r;have:=vf (s:=s) (a:=pt g l) (b:=pt g r) (n:=max (dp l) (dp r)+m) (by omega) (by omega);show dp (tog s (pt g l) (pt g r))<=max (dp l) (dp r)+1+m;omega
theorem pX {v:Int} (h0:0<=v) (h1:v<wide):okl (lvs (.num v)):=λw hw=>by have h:=HY.mp hw;cases h;exact#[h0,h1]
theorem okl_box (k:Int):okl (lvs (.box k)):=λw hw=>by have h:=HY.mp hw;cases h
theorem EO {x y i:Int} (h0:0<=i) (h1:i<2):bQ [V.int x,V.int y] i=some (.int (if i=0 then x else y)):=by
 have:i=0\/i=1:=by omega
 rcases this with e|e <;> subst e <;> rfl
end Rk2
namespace K41
open PySem L2 Gx Fl
structure RR where
 w:Rw
 d:K12.RowD
def gP (K:W.Frag) (H:Hp) (x:RR):Prop:=x.w.r=x.d.r/\iV K H x.w/\K12.RowAt K H x.d
def rnone (k:Str) (r:Addr):RR:=#[#[r,k,""],#[r,0,0,none,[]]]
theorem Eu {K:W.Frag} {H:Hp} {r:Addr} (h:aG K H r [.str "else"]):gP K H (rnone "else" r) :=
 #[rfl,#[_,h,λz=>absurd z (by show ¬ (("else":Str)="call"); decide +kernel)],#[#[_,h,.els],(λv hv=>by cases hv),Hl _,λx hx=>by cases hx]]
theorem zS {K:W.Frag} {H:Hp} {r:Addr} (h:aG K H r [.str "end"]):gP K H (rnone "end" r) :=
 #[rfl,#[_,h,λz=>absurd z (by show ¬ (("end":Str)="call"); decide +kernel)],#[#[_,h,.fin],(λv hv=>by cases hv),Hl _,λx hx=>by cases hx]]
theorem vZ {ks os:List Str} {x:Str} (g:K13.Good ks os) (h1:¬ K13.isO x=true) (h2:¬ K13.isE x=true) (h3:¬ x="end"):∀n,K13.Good (ks++List.replicate n x) os
 | 0=>by rw[List.replicate_zero,II]; exact g
 | n+1=>by rw[List.replicate_succ',<- Hv]; exact(vZ g h1 h2 h3 n).plain h1 h2 h3
def lc (z:Int):Nat:=K12.lets.cps.toList.getD z.toNat 0
theorem vN:K12.lets.cps.toList.length=26:=by decide +kernel
variable {z:Int}
theorem sY (h0:0<=z) (h1:z<26):bQ K12.lets.cps.toList z=some (lc z):=by
 obtain⟨j,rfl⟩:=IL h0;have hj:j<K12.lets.cps.toList.length:=by rw[vN]; omega
 refine bt ?_;unfold lc;rw[IH,IM,HX hj];rfl
theorem uL (h0:0<=z) (h1:z<26):lc z∈K12.lets.cps.toList:=by
 have hj:z.toNat<K12.lets.cps.toList.length:=by rw[vN]; omega
 unfold lc;rw[IM,HX hj];exact IW hj
theorem Em {x y:Int} (x0:0<=x) (x1:x<26) (y0:0<=y) (y1:y<26) (h:lc x=lc y):x=y:=by
 have key:∀i<26,∀j<26,K12.lets.cps.toList.getD i 0=K12.lets.cps.toList.getD j 0->i=j:=by decide +kernel
 have:=key x.toNat (by omega) y.toNat (by omega) h;omega
theorem wH {l:List Nat} (h:∀c∈l,c∈K12.lets.cps.toList):PyData.strOk (tx l)=true:=by
 have hz:=K12.lets_ok;unfold PyData.strOk at hz ⊢;rw[Array.all_eq_true'] at hz ⊢;intro x hx;have hx:x∈l:=by simpa [tx] using hx
 exact hz x (by simpa using h x hx)
def io:List V:=[V.str "fn",V.str "in",V.str "new",V.str "get",V.str "put",V.str "call",V.str "out",V.str "if",V.str "while",V.str "else",V.str "end",V.str "back"]
def du (W:List Nat) (a:Nat) (z:Int) (k:Nat):List Nat:=W.take a++[lc ((z+k)%26)]++W.drop a
def dq (W:List Nat) (a:Nat) (z:Int) (k:Nat):Str:=if gE (.str (tx (du W a z k))) io=true then tx (du W a z k++[120]) else tx (du W a z k)
theorem mP (W:List Nat) (a:Nat) (z:Int) (k:Nat):(du W a z k).length=W.length+1:=by unfold du;rw[HU,HU,Hx,J8];simp;omega
variable {j:Nat}
theorem vC {W:List Nat} {a:Nat} {i:Nat}(hi:i<26) (hj:j<26) (h:du W a z i=du W a z j):i=j:=by unfold du at h;rw[Hv,Hv] at h;have h:=List.append_cancel_left h;have h:=(List.cons.inj h).1;have b1:=gd (z+i) 26 (by decide);have b2:=gd (z+j) 26 (by decide);have:=Em b1.1 b1.2 b2.1 b2.2 h;omega
theorem DR {W:List Nat} {a:Nat} {i:Nat}(hi:i<26) (hj:j<26) (h:dq W a z i=dq W a z j):i=j:=by
 have l1:=mP W a z i;have l2:=mP W a z j;unfold dq at h;split at h
 . split at h
   . have:=kq h;exact vC hi hj (List.append_cancel_right this)
   . have:=Hb List.length (kq h);rw[HU] at this;simp at this;omega
 . split at h
   . have:=Hb List.length (kq h);rw[HU] at this;simp at this;omega
   . exact vC hi hj (kq h)
theorem Ap {W:List Nat} {a:Nat} {k:Nat} (hW:∀c∈W,c∈K12.lets.cps.toList) (hl:W.length<=10):K12.Nm (dq W a z k):=by
 have b1:=gd (z+k) 26 (by decide);have hm:∀c∈du W a z k,c∈K12.lets.cps.toList:=λc hc=>by
   unfold du at hc;rcases Hg.mp hc with h|h
   . rcases Hg.mp h with h|h
     . exact hW c (List.mem_of_mem_take h)
     . rw[HY.mp h]; exact uL b1.1 b1.2
   . exact hW c (List.mem_of_mem_drop h)
 have l1:=mP W a z k;unfold dq;split
 . refine#[by rw[ff,HU,l1]; simp; omega,wH λc hc=>?_];rcases Hg.mp hc with h|h
   . exact hm c h
   . rw[HY.mp h]; decide +kernel
 . exact#[by rw[ff,l1]; omega,wH hm]
theorem E' {l:List Nat} (h:j<=l.length):PySem.Txt.slice (tx l) none (some (j:Int))=tx (l.take j):=by have:=PyProof.Rows.slice_closes_to (x:=tx l) (j:=(j:Int)) #[by omega,by rw[jP]; omega];rw[KC,jP] at this;rw[this];simp [tx]
theorem zb {l:List Nat} (h:j<=l.length):PySem.Txt.slice (tx l) (some (j:Int)) none=tx (l.drop j):=by
 have:=PyProof.Rows.slice_from_eq (x:=tx l) (i:=(j:Int)) (b:=(l.length:Int)) (by omega) (by rw[ff]; omega) (by rw[ff]);rw[this,jP];have e:((l.length:Int) - (j:Int)).toNat=(l.drop j).length:=by rw[J8]; omega
 rw[e,IH,IB];rfl
end K41
namespace Bg
open PySem L2 Gx Rk2
def bu:Tr->PyData
 | .box k=>.tuple [.str "box",.int k]
 | .num v=>.tuple [.str "num",.int v]
 | .op s l r=>.tuple [.str s,bu l,bu r]
def eM:Tr->Prop
 | .op s l r=>PyData.strOk s=true/\eM l/\eM r
 | _=>True
theorem iJ:∀{t:Tr},eM t->bJ (dp t+1) (bu t)
 | .box k,_=>by
   unfold bu dp;refine bJ.tuple λd hd=>?_;rcases HV.mp hd with rfl|hd
   . exact bJ.str AW
   . cases HY.mp hd; exact bJ.int _
 | .num v,_=>by
   unfold bu dp;refine bJ.tuple λd hd=>?_;rcases HV.mp hd with rfl|hd
   . exact bJ.str Cb
   . cases HY.mp hd; exact bJ.int _
 | .op s l r,h=>by
   have h1:=iJ h.2.1;have h2:=iJ h.2.2;unfold bu dp;refine bJ.tuple λd hd=>?_;rcases HV.mp hd with rfl|hd
   . exact bJ.str h.1
   . rcases HV.mp hd with rfl|hd
     . exact h1.mono (by have:=Nat.le_max_left (dp l) (dp r); omega)
     . cases HY.mp hd; exact h2.mono (by have:=Nat.le_max_right (dp l) (dp r); omega)
theorem dr {K:W.Frag} {H:Hp}:∀{t:Tr} {v:V},RAt H t v->bH K H (bu t) v
 | .box k,v,h=>by obtain⟨p,rfl,e⟩:=h;unfold bu bH;refine#[p,_,rfl,aG.of e,?_];unfold bT;refine#[_,_,rfl,by unfold bH; rfl,?_];unfold bT;refine#[_,_,rfl,by unfold bH; rfl,?_];unfold bT;rfl
 | .num k,v,h=>by obtain⟨p,rfl,e⟩:=h;unfold bu bH;refine#[p,_,rfl,aG.of e,?_];unfold bT;refine#[_,_,rfl,by unfold bH; rfl,?_];unfold bT;refine#[_,_,rfl,by unfold bH; rfl,?_];unfold bT;rfl
 | .op s l r,v,h=>by obtain⟨p,x,y,rfl,e,n1,n2,hx,hy⟩:=h;have ix:=dr (K:=K) hx;have iy:=dr (K:=K) hy;unfold bu bH;refine#[p,_,rfl,aG.of e,?_];unfold bT;refine#[_,_,rfl,by unfold bH; rfl,?_];unfold bT;refine#[_,_,rfl,ix,?_];unfold bT;refine#[_,_,rfl,iy,?_];unfold bT;rfl
theorem pE (s s':Str) (k b:Int):PyData.eqv (.tuple [.str s,.int k]) (.tuple [.str s',.int b])=(decide (s=s')&&decide (k=b)):=GY s s' k b
theorem t6 (t:Tr) (k:Int):PyData.eqv (bu t) (bu (.box k))=decide (t=.box k):=by
 cases t with
 | box j =>
   refine(pE _ _ _ _).trans ?_;rw[HK rfl,Ir,IV,Ia,Ia];exact#[λe=>by rw[e],λe=>Tr.box.inj e]
 | num v =>
   refine(pE _ _ _ _).trans ?_;rw[Hd t9,Bool.false_and];exact(Hd (λz=>by cases z)).symm
 | op s l r =>
   rw[Hd (by intro z; cases z)];unfold bu PyData.eqv PyData.eqvAll;unfold PyData.eqvAll;unfold PyData.eqvAll;rw[Jv,Jv]
theorem sC {s:Str} (hs:PyData.strOk s=true) {a b:Tr} (ha:eM a) (hb:eM b):eM (tog s a b):=by cases a <;> cases b <;> first|exact trivial|exact#[hs,ha,hb]
theorem n9 {g:Int->Option Tr} (hg:∀k u,g k=some u->eM u):∀{t:Tr},eM t->eM (pt g t)
 | .num v,_=>trivial
 | .box k,_=>by
   unfold pt;cases e:g k with
   | none=>exact trivial
   | some u=>exact hg k u e
 | .op s l r,h=>sC h.1 (n9 hg h.2.1) (n9 hg h.2.2)
def aX (H:Hp):Option Tr->V->Prop
 | none,v=>v=.non
 | some t,v=>RAt H t v
theorem aX.mono {H H':Hp} {o:Option Tr} {v:V} (h:aX H o v) (e:aC H H'):aX H' o v:=by
 cases o with
 | none=>exact h
 | some t=>exact RAt.mono e h
theorem aX.lst {H:Hp} {q:Addr} {l:List V} {o:HO} (hq:H q=some (.lst l)) {u:Option Tr} {v:V} (h:aX H u v):aX (upd H q o) u v:=by
 cases u with
 | none=>exact h
 | some t=>exact RAt.lst hq h
def TOk (t:Tr):Prop:=okl (lvs t)/\eM t/\dp t<=8/\∀k,(true,k)∈lvs t->0<=k/\k<128
def fR (n:Nat) (t:Tr):Prop:=okl (lvs t)/\eM t/\dp t<=n/\∀k,(true,k)∈lvs t->0<=k/\k<128
variable {n:Nat}
theorem fR.ok {t:Tr} (h:fR n t) (hn:n<=8):TOk t:=#[h.1,h.2.1,Ht h.2.2.1 hn,h.2.2.2]
theorem tJ {k:Int} (h:0<=k/\k<128):fR n (.box k):=#[okl_box k,trivial,Hl _,λj hj=>by cases HY.mp hj; exact h]
theorem uV {v:Int} (h0:0<=v) (h1:v<K21.wide):fR n (.num v):=#[pX h0 h1,trivial,Hl _,λj hj=>by cases HY.mp hj]
theorem m9 {s:Str} {a b:Tr} (hs:PyData.strOk s=true) (ha:fR n a) (hb:fR n b):fR (n+1) (.op s a b) :=
 #[λv hv=>(Hg.mp hv).elim (ha.1 v) (hb.1 v),#[hs,ha.2.1,hb.2.1],Nat.succ_le_succ (Nat.max_le.mpr #[ha.2.2.1,hb.2.2.1]),λk hk=>(Hg.mp hk).elim (ha.2.2.2 k) (hb.2.2.2 k)]
theorem iX {i:Int} {ch:Nat} (h:bQ ("+-*/<=&|^":Str).cps.toList i=some ch):PyData.strOk (#[(List.toArray [ch])]:Str)=true:=by
 have hm:ch∈("+-*/<=&|^":Str).cps.toList:=by
   unfold bQ at h;cases e:ca ("+-*/<=&|^":Str).cps.toList.length i with
   | none=>rw[e] at h; cases h
   | some j=>rw[e] at h; exact HP h
 have key:∀c∈("+-*/<=&|^":Str).cps.toList,PyData.strOk (⟨(List.toArray [c])⟩:Str)=true:=by decide +kernel
 exact key ch hm
theorem cy (a b:Int) (h:0<b):0<=a%b/\a%b<b:=#[Iy _ (Int.ne_of_gt h),Ii _ h]
def gM (bs:List Int):Prop:=bs.length=8/\∀b∈bs,0<=b/\b<128
theorem qW {bs:List Int} (h:gM bs) (z:Int):∃b,(0:Int)<((bs.map V.int).length:Nat)/\bQ (bs.map V.int) (z%((bs.map V.int).length:Nat))=some (.int b)/\0<=b/\b<128:=by
 have hl:(bs.map V.int).length=8:=by rw[HH]; exact h.1
 have hz:=cy z ((bs.map V.int).length:Nat) (by omega);obtain⟨j,ej⟩:=IL hz.1;have hj:j<bs.length:=by have:=h.1; omega
 refine#[bs[j],by omega,?_,(h.2 _ (IW hj)).1,(h.2 _ (IW hj)).2];rw[ej];refine bt ?_;rw[HW,HX hj];rfl
end Bg
namespace L2
open PySem PySem.Spec PyProof.Rows
def sB:Stmt->List Stmt
 | .For _ _ b _ _=>b
 | .While _ b _ _=>b
 | .If _ b _ _=>b
 | _=>[]
inductive WVar (i:Nat) (σ:St) (H:Hp) (Q:VK):Prop
 | mk (v:V) (h:σ[i]?=some (some v)) (q:Q v H):WVar i σ H Q
def Bt (i:Nat):TE:=λσ H Q=>WVar i σ H Q
variable {X:Cx}
theorem aB (i:Nat) {x:Str} {pos:Pos} (hN:X.N[i]?=some x:=by rfl) (hv:lI X.env.scope x:=by first|exact Or.inl rfl|exact Or.inr (Or.inl rfl)|exact Or.inr (Or.inr rfl)) (hd:(x==("__debug__":Str))=false:=by decide)
   (hcd:(x==("__classdict__":Str))=false:=by decide):PE X (.Name x pos) (Bt i):=λpins s σ H Q I h=>pv i hN hv hd hcd pins s σ H Q I (let ⟨v,e,q⟩:=h; #[v,e,q])
inductive WIxL (K:W.Frag) (x y:V) (H:Hp) (Q:VK):Prop
 | mk (p:Addr) (xs:List V) (i:Int) (v:V) (h1:x=.ref p) (h2:y=.int i) (h3:aK K H p xs) (h4:bQ xs i=some v) (q:Q v H):WIxL K x y H Q
inductive WIxT (K:W.Frag) (x y:V) (H:Hp) (Q:VK):Prop
 | mk (p:Addr) (xs:List V) (i:Int) (v:V) (h1:x=.ref p) (h2:y=.int i) (h3:aG K H p xs) (h4:bQ xs i=some v) (q:Q v H):WIxT K x y H Q
def ae (K:W.Frag):R2:=λx y H Q=>WIxL K x y H Q
def aR (K:W.Frag):R2:=λx y H Q=>WIxT K x y H Q
theorem aJ.imp {r r':R2} (h:aJ X r) (f:∀x y H Q,r' x y H Q->r x y H Q):aJ X r':=λa b pins s σ H x y v u Q I r1 r2 q z=>h a b pins s σ H x y v u Q I r1 r2 (f x y H Q q) z
theorem bW.imp {g:Value->Value->Sem Value} {r r':R2} (h:bW X g r) (f:∀x y H Q,r' x y H Q->r x y H Q):bW X g r':=λpins s σ H x y v u Q I r1 r2 q=>h pins s σ H x y v u Q I r1 r2 (f x y H Q q)
theorem bx.imp {g:Value} {r r':List V->Hp->VK->Prop} (h:bx X g r) (f:∀xs H Q,r' xs H Q->r xs H Q):bx X g r':=λpins s σ H xs us Q I r1 q=>h pins s σ H xs us Q I r1 (f xs H Q q)
theorem af :aJ X (ae X.K):=j5.imp λx y H Q h=>let ⟨p,xs,i,v,h1,h2,h3,h4,q⟩:=h; #[p,xs,i,v,h1,h2,h3,h4,q]
theorem aS :aJ X (aR X.K):=gz.imp λx y H Q h=>let ⟨p,xs,i,v,h1,h2,h3,h4,q⟩:=h; #[p,xs,i,v,h1,h2,h3,h4,q]
inductive WI (C:Int->Int->Prop) (g:Int->Int->V) (x y:V) (H:Hp) (Q:VK):Prop
 | mk (i j:Int) (h1:x=.int i) (h2:y=.int j) (h3:C i j) (q:Q (g i j) H):WI C g x y H Q
inductive WI0 (g:Int->Int->V) (x y:V) (H:Hp) (Q:VK):Prop
 | mk (i j:Int) (h1:x=.int i) (h2:y=.int j) (q:Q (g i j) H):WI0 g x y H Q
def cI (C:Int->Int->Prop) (g:Int->Int->V):R2:=λx y H Q=>WI C g x y H Q
def cI0 (g:Int->Int->V):R2:=λx y H Q=>WI0 g x y H Q
theorem aV {f:Value->Value->Sem Value} {C:Int->Int->Prop} {g:Int->Int->V} (h:bW X f (rI C g)):bW X f (cI C g):=h.imp λx y H Q h=>let ⟨i,j,h1,h2,h3,q⟩:=h; #[i,j,h1,h2,h3,q]
theorem bf {f:Value->Value->Sem Value} {g:Int->Int->V} (h:bW X f (ft g)):bW X f (cI0 g):=h.imp λx y H Q h=>let ⟨i,j,h1,h2,q⟩:=h; #[i,j,h1,h2,q]
inductive WLen (K:W.Frag) (xs:List V) (H:Hp) (Q:VK):Prop
 | mk (p:Addr) (ys:List V) (h1:xs=[.ref p]) (h2:aK K H p ys\/aG K H p ys) (q:Q (.int ys.length) H):WLen K xs H Q
def cb (K:W.Frag):List V->Hp->VK->Prop:=λxs H Q=>WLen K xs H Q
theorem ck :bx X (.builtin "len") (cb X.K):=qS.imp λxs H Q h=>let ⟨p,ys,h1,h2,q⟩:=h; #[p,ys,h1,h2,q]
inductive WApp (x:V) (vs:List V) (H:Hp) (Q:VK):Prop
 | mk (l:Addr) (xs:List V) (y:V) (h1:x=.ref l) (h2:vs=[y]) (h3:H l=some (.lst xs)) (h4:xs.length<sizeLine) (q:Q .non (upd H l (.lst (xs++[y])))):WApp x vs H Q
def DZ:V->List V->Hp->VK->Prop:=λx vs H Q=>WApp x vs H Q
theorem iS :kL X "list.append" DZ:=λpins s σ H x xs v us Q I r1 r2 q=>ip pins s σ H x xs v us Q I r1 r2 (let ⟨l,xs,y,h1,h2,h3,h4,q⟩:=q; #[l,xs,y,h1,h2,h3,h4,q])
inductive WBl (x:V) (H:Hp) (Q:Bool->Hp->Prop):Prop
 | mk (k:Bool) (h:x=.bl k) (q:Q k H):WBl x H Q
def sI (t:TE):TT:=λσ H Q=>t σ H λx H'=>WBl x H' Q
section
variable {X:Cx} {a b:Expr} {ta tb:TE} {pos:Pos}
theorem au {op:CmpOp} {r:R2} (ho:bW X (compareOp op) r) (ha:PE X a ta) (hb:PE X b tb) (hm:behindInMarks op b=false):PT X (.Compare a [op] [b] pos) (sI (jj r ta tb)):=by
 intro pins s σ H Q I h;refine Jh (aq (ha pins s σ H _ I h) λv s1 ⟨x,H1,I1,r1,q1⟩=>aq (hb pins s1 σ H1 _ I1 q1) λu s2 ⟨y,H2,I2,r2,q2⟩ =>
   aq (ho pins s2 σ H2 x y v u _ I2 r1 r2 q2) λc s3 ⟨z,H3,I3,r3,w⟩=>?_) hm
 obtain⟨k,e,q3⟩:=w;subst e;cases r3;exact IT #[H3,I3,q3]
theorem jc {e:Expr} {t:TE} (h:PE X e t) (he:∀whole,isTrue e X.env whole=(do let v <- whole; standAt e.pos; holding [v] (truthy v)):=by intro _; rfl):PT X e (sI t):=by intro pins s σ H Q I hw;refine isTrue_plain (aq (h pins s σ H _ I hw) λv s1 ⟨x,H1,I1,r1,q1⟩=>?_) (he _);obtain⟨d,rfl,q⟩:=q1;cases r1;exact IT #[H1,I1,q]
end
def GV (t u:TS):TS:=λD σ H=>∃M:St->Hp->Prop,t { D with nx:=M } σ H/\∀σ' H',M σ' H'->u D σ' H'
theorem cr {X:Cx} {st:Stmt} {rest:List Stmt} {t u:TS} (h1:PS X st t) (h2:bV X rest u):bV X (st :: rest) (GV t u):=zR h1 h2
end L2
namespace Bg
open PySem L2 Gx K41
def bN (K:W.Frag) (H:Hp) (n:Nat) (v:V):Prop:=∃d,bJ n d/\bH K H d v
def cB (K:W.Frag) (H:Hp) (n:Nat) (xs:List V):Prop:=∃ds,(∀d∈ds,bJ n d)/\bT K H ds xs
theorem bN.mono {K:W.Frag} {H H':Hp} {n:Nat} {v:V} (h:bN K H n v) (e:aC H H'):bN K H' n v:=let ⟨d,l,z⟩:=h; #[d,l,bH.mono e d v z]
variable {K:W.Frag} {H:Hp} {n:Nat}
theorem bN.up {m:Nat}{v:V} (h:bN K H n v) (e:n<=m):bN K H m v:=let ⟨d,l,z⟩:=h; #[d,l.mono e,z]
theorem bN.str {K:W.Frag} {H:Hp} {n:Nat} {s:Str} (h:PyData.strOk s=true):bN K H n (.str s):=#[.str s,bJ.str h,by unfold bH; rfl]
theorem bN.int {K:W.Frag} {H:Hp} {n:Nat} {i:Int}:bN K H n (.int i):=#[.int i,bJ.int i,by unfold bH; rfl]
theorem bN.bl {b:Bool}:bN K H n (.bl b):=#[.bool b,bJ.bool b,by unfold bH; rfl]
theorem bN.non :bN K H n .non:=#[.none,bJ.none,by unfold bH; rfl]
theorem cB.nil :cB K H n []:=#[[],λd h=>(by cases h),by unfold bT; rfl]
theorem cB.cons {K:W.Frag} {H:Hp} {n:Nat} {x:V} {xs:List V} (h:bN K H n x) (t:cB K H n xs):cB K H n (x :: xs):=by obtain⟨d,l,z⟩:=h;obtain⟨ds,ls,zs⟩:=t;refine#[d :: ds,λe he=>(HV.mp he).elim (λz=>z ▸ l) (ls e),?_];unfold bT;exact#[_,_,rfl,z,zs]
theorem cB.of {K:W.Frag} {H:Hp} {n:Nat}:∀{xs:List V},(∀x∈xs,bN K H n x)->cB K H n xs
 | [],_=>.nil
 | x :: xs,h=>.cons (h x HS) (cB.of λy hy=>h y (HZ _ hy))
theorem bN.tup {K:W.Frag} {H:Hp} {n:Nat} {a:Addr} {xs:List V} (h:aG K H a xs) (t:cB K H n xs):bN K H (n+1) (.ref a):=by obtain⟨ds,ls,zs⟩:=t;refine#[.tuple ds,bJ.tuple ls,?_];unfold bH;exact#[a,xs,rfl,h,zs]
theorem bN.lst {K:W.Frag} {H:Hp} {n:Nat} {a:Addr} {xs:List V} (h:aK K H a xs) (t:cB K H n xs):bN K H (n+1) (.ref a):=by obtain⟨ds,ls,zs⟩:=t;refine#[.list ds,bJ.list ls,?_];unfold bH;exact#[a,xs,rfl,h,zs]
def cf (K:W.Frag) (H:Hp) (n:Nat) (x y:V):Prop:=∃d,bJ n d/\bH K H d x/\bH K H d y
def dQ (K:W.Frag) (H:Hp) (n:Nat) (xs ys:List V):Prop:=∃ds,(∀d∈ds,bJ n d)/\bT K H ds xs/\bT K H ds ys
theorem cf.of {x:V} (h:bN K H n x):cf K H n x x:=let ⟨d,l,z⟩:=h; #[d,l,z,z]
theorem cf.up {m:Nat}{x y:V} (h:cf K H n x y) (e:n<=m):cf K H m x y:=let ⟨d,l,z⟩:=h; #[d,l.mono e,z]
theorem dQ.nil :dQ K H n [] []:=#[[],λd h=>(by cases h),(by unfold bT; rfl),(by unfold bT; rfl)]
theorem dQ.cons {K:W.Frag} {H:Hp} {n:Nat} {x y:V} {xs ys:List V} (h:cf K H n x y) (t:dQ K H n xs ys):dQ K H n (x :: xs) (y :: ys):=by
 obtain⟨d,l,z1,z2⟩:=h;obtain⟨ds,ls,zs1,zs2⟩:=t;refine#[d :: ds,λe he=>(HV.mp he).elim (λz=>z ▸ l) (ls e),?_,?_]
 . unfold bT;exact#[_,_,rfl,z1,zs1]
 . unfold bT;exact#[_,_,rfl,z2,zs2]
theorem dQ.of {xs:List V} (h:cB K H n xs):dQ K H n xs xs:=let ⟨ds,l,z⟩:=h; #[ds,l,z,z]
theorem cf.tup {K:W.Frag} {H:Hp} {n:Nat} {a b:Addr} {xs ys:List V} (h1:aG K H a xs) (h2:aG K H b ys) (t:dQ K H n xs ys):cf K H (n+1) (.ref a) (.ref b):=by
 obtain⟨ds,ls,z1,z2⟩:=t;refine#[.tuple ds,bJ.tuple ls,?_,?_]
 . unfold bH;exact#[a,xs,rfl,h1,z1]
 . unfold bH;exact#[b,ys,rfl,h2,z2]
theorem cf.lst {K:W.Frag} {H:Hp} {n:Nat} {a b:Addr} {xs ys:List V} (h1:aK K H a xs) (h2:aK K H b ys) (t:dQ K H n xs ys):cf K H (n+1) (.ref a) (.ref b):=by
 obtain⟨ds,ls,z1,z2⟩:=t;refine#[.list ds,bJ.list ls,?_,?_]
 . unfold bH;exact#[a,xs,rfl,h1,z1]
 . unfold bH;exact#[b,ys,rfl,h2,z2]
theorem cf.eq {Q:VK} {x y:V} (h:cf K H n x y) (hn:n<=64) (q:Q (.bl true) H):jR K x y H Q:=let ⟨d,l,z1,z2⟩:=h; AC hn l z1 z2 q
theorem gP.mono {K:W.Frag} {H H':Hp} {x:RR} (h:gP K H x) (e:aC H H'):gP K H' x:=#[h.1,h.2.1.mono e,h.2.2.mono e]
theorem uT {nk:Str} {fa tr qC:Addr} {fo:V} {ps:List Str} (rr:List RR) (h1:aG K H fa [.str nk,fo,.ref qC,.ref tr]) (h2:aG K H tr (rr.map λx=>V.ref x.w.r)) (h3:∀x∈rr,gP K H x) (h4:aG K H qC (ps.map V.str)) (h5:∀s∈ps,K12.Nm s) (h6:ps.length<=100) (h7:rr.length<=100) (wf:K13.Wf (rr.map λx=>x.w.k)) :
   F2.FnAt K H #[nk,fo,fa,qC,tr,ps,rr.map (·.w),rr.map (·.d)]:=by
 refine#[h1,h4,by show aG K H tr ((rr.map (·.w)).map λw=>V.ref w.r); rw[IS]; exact h2,λw hw=>?_,#[#[_,_,_,_,h1,h4,?_],λd hd=>?_,h5,h6,by show(rr.map (·.d)).length<=100; rw[HH]; exact h7],by show K13.Wf ((rr.map (·.w)).map (·.k)); rw[IS]; exact wf,by show(rr.map (·.w)).length<=100; rw[HH]; exact h7]
 . obtain⟨x,hx,rfl⟩:=Hq.mp hw;exact(h3 x hx).2.1
 . show aG K H tr ((rr.map (·.d)).map λd=>V.ref d.r);rw[IS];have:(rr.map λx=>V.ref x.w.r)=rr.map ((λd=>V.ref d.r) ∘ (·.d)):=Ju λx hx=>by show V.ref x.w.r=V.ref x.d.r;rw[(h3 x hx).1]
   rw[<- this];exact h2
 . obtain⟨x,hx,rfl⟩:=Hq.mp hd;exact(h3 x hx).2.2
def m6 (K:W.Frag) (H:Hp) (x:RR):Prop:=gP K H x/\bN K H 3 (.ref x.w.r)
theorem m6.mono {K:W.Frag} {H H':Hp} {x:RR} (h:m6 K H x) (e:aC H H'):m6 K H' x:=#[gP.mono h.1 e,h.2.mono e]
end Bg
namespace Ex
open PySem PySem.W PyProof.Rows PySem.Spec
section
variable {prog:Program} {w:World} {A:Around} {E:Value->Shared->Prop} {R:Result->Shared->Prop} {h:Heap} {g:Array GenState} {d:Drawn} {t:Nat} {os:OsState}
 {nm q:Str} {C N:Addr} {bs bm:List Value} {hdct:Bool} {sn:List Str} {sub:List Value} {ab:Bool} {col:Option Bool} {dd:Option Addr} {k0 k1 k2 k3 k5:Option Value}
end
end Ex
namespace L2
open PySem PySem.Spec PyProof.Rows
section
variable {P:Program} {w:World} {K:W.Frag} {mg:Str->Option Value} {base:Heap} {N:List Str} {qual:Str} {sc:Scope} {f:Addr} {cd:Value} {A:Around} {outer:List Env} {s0 s:Shared} {H0 H:Hp} {E:XK}
 {pins:List (Addr×Obj)} {σ:St} {cls:Value} {d:Option Addr} {e:Addr}
end
end L2
namespace Ex
open PySem PySem.W PyProof.Rows PySem.Spec
section
variable {prog:Program} {w:World} {A:Around} {E:Value->Shared->Prop} {R:Result->Shared->Prop} {h:Heap} {g:Array GenState} {d:Drawn} {t:Nat} {os:OsState}
 {nm q:Str} {C N:Addr} {bs bm:List Value} {hdct:Bool} {sn:List Str} {sub:List Value} {ab:Bool} {col:Option Bool} {dd:Option Addr} {k0 k1 k2 k3 k5:Option Value}
end
end Ex
namespace L2
open PySem PySem.Spec PyProof.Rows
open PySem.Builtin
theorem Dp:fillsNumberSlot (.type "tuple") "mul"=pure false :=
 PySem.fillsNumberSlot_seq (id:="tuple.__mul__") (r:=some (.builtin "tuple.__rmul__")) JI.lookup (by decide +kernel) F.slot_tuple_rmul.lookup (by decide +kernel)
theorem A8:seqRepeat? (.type "tuple")=pure (some (.builtin "tuple.__mul__")):=by unfold seqRepeat?;rw[PySem.seqSlot_of (T:="tuple") (name:="__mul__") (id:="tuple.__mul__") JI.lookup (by decide +kernel),PySem.seqSlot_of (T:="tuple") (name:="__rmul__") (id:="tuple.__rmul__") F.slot_tuple_rmul.lookup (by decide +kernel)];rfl
theorem BK (a:Int) (t:Tok) (l:Addr) (items:Array Value) (n:Nat) (dd:Option Addr) (sl:Array (Option Value)) :
   Meets (Builtin.«int.__rmul__» #[[.int a t,.ref l],[]]) (λ_ R s=>s.heap.get? l=some { cls:=.type "tuple",dict:=dd,data:=.seq items n,slots:=sl }/\R (.ok (.ret Value.notImplemented)) s) :=
 .of_wp λprog w A R s h=>by obtain⟨hp,g,d,tk,os⟩:=s; obtain⟨hl,h⟩:=h; wp_walk; exact#[_,rfl,h]
theorem Dj (l:Addr) (items:Array Value) (n:Nat) (dd:Option Addr) (sl:Array (Option Value)) (u:Tok) :
   Meets (Builtin.«tuple.__mul__» #[[.ref l,.int 1 u],[]]) (λ_ R s=>s.heap.get? l=some { cls:=.type "tuple",dict:=dd,data:=.seq items n,slots:=sl }/\R (.ok (.ret (.ref l))) s) :=
 .of_wp λprog w A R s h=>by
   obtain⟨hp,g,d,tk,os⟩:=s; obtain⟨hl,h⟩:=h; have f1:=AutoSeq1.idx_int; have f2:=AutoSeq1.sub_tuple_tuple
   wp_walk using AutoSeq1.wpAny_loadPart' hl
   exact#[_,rfl,h]
theorem EQ (l:Addr) (items:Array Value) (n:Nat) (dd:Option Addr) (sl:Array (Option Value)) (u:Tok) (hc:¬ items.isEmpty=true) :
   Meets (Builtin.«tuple.__mul__» #[[.ref l,.int 0 u],[]]) (λ_ R s=>s.heap.get? l=some { cls:=.type "tuple",dict:=dd,data:=.seq items n,slots:=sl }/\R (.ok (.ret (.ref s.heap.objs.size))) { s with heap:=s.heap.push { cls:=Value.type "tuple",data:=Data.seq (List.toArray []) } }) :=
 .of_wp λprog w A R s h=>by
   obtain⟨hp,g,d,tk,os⟩:=s; obtain⟨hl,h⟩:=h; have f1:=AutoSeq1.idx_int; have f2:=AutoSeq1.sub_tuple_tuple
   have hc':items.isEmpty=false:=Bool.eq_false_iff.mpr hc
   wp_walk using AutoSeq1.wpAny_loadPart' hl
   exact#[_,rfl,h]
theorem Ct (l:Addr) (items:Array Value) (n:Nat) (dd:Option Addr) (sl:Array (Option Value)) (x:Int) (u:Tok) (hc:¬ items.isEmpty=true) (h2:2<=x) (hz:(items.size:Int) * x<=1000) (hx:x<=1000) :
   Meets (Builtin.«tuple.__mul__» #[[.ref l,.int x u],[]]) (λ_ R s=>s.heap.get? l=some { cls:=.type "tuple",dict:=dd,data:=.seq items n,slots:=sl }/\R (.ok (.ret (.ref s.heap.objs.size))) { s with heap:=s.heap.push { cls:=Value.type "tuple",data:=Data.seq (List.foldl (λx1 x2=>x1++x2) (List.toArray []) (List.replicate x.toNat items)) } }) :=
 .of_wp λprog w A R s h=>by
   obtain⟨hp,g,d,tk,os⟩:=s; obtain⟨hl,h⟩:=h; have f1:=AutoSeq1.idx_int; have f2:=AutoSeq1.sub_tuple_tuple
   have hc':items.isEmpty=false:=Bool.eq_false_iff.mpr hc;have c1:¬ (decide (x < -(2 ^ 63)) || decide (x>=2 ^ 63))=true:=by simp; omega
   have c2:¬ (items.isEmpty || x==1)=true:=by rw[hc']; simp; omega
   have c3:¬ (decide (x<=0) || items.isEmpty)=true:=by rw[hc']; simp; omega
   have c4:¬ (items.size:Int) * x > (2 ^ 63 - 1) / 8:=by omega
   have c5:¬ Builtin.Tuple.tupleTooMany ((items.size:Int) * x)=true:=by
     unfold Builtin.Tuple.tupleTooMany;rw[Ia];have:(1000:Int)<(sizeLine:Int):=by decide
     omega
   have c6:¬ (List.foldl (λx1 x2=>x1++x2) (List.toArray []) (List.replicate x.toNat items)).size > sizeLine:=by
     have h1:=AutoSeq1.size_joined items x.toNat (List.toArray []);have h3:(1000:Nat)<sizeLine:=by decide
     have h4:((x.toNat * items.size:Nat):Int)=(items.size:Int) * x:=by rw[KW,Int.toNat_of_nonneg (by omega),Int.mul_comm]
     have h5:((List.toArray []):Array Value).size=0:=rfl;omega
   wp_walk using AutoSeq1.wpAny_loadPart' hl
   refine Jq (Hd c1) ?_
   wp_walk using AutoSeq1.wpAny_loadPart' hl
   refine Jq (Hd c2) ?_
   wp_walk using AutoSeq1.wpAny_loadPart' hl
   refine Jq (Hd c3) ?_
   wp_walk using AutoSeq1.wpAny_loadPart' hl
   refine Jq (Hd c4) ?_
   wp_walk using AutoSeq1.wpAny_loadPart' hl
   exact#[_,rfl,h]
def FY (K:W.Frag):R2:=λx y H Q=>∃a k xs,x=.ref a/\y=.int k/\aG K H a xs/\xs≠[]/\0<=k/\k<=1000/\(xs.length:Int) * k<=1000 /\
 (k=1->Q (.ref a) H)/\(k≠1->∀p,H p=none->Q (.ref p) (upd H p (.tup (List.replicate k.toNat xs).flatten)))
theorem Ey {X:Cx}:bW X (binaryOp .Mult) (FY X.K):=by
 intro pins s σ H x y v u Q I rx ry h;obtain⟨a,k,xs,rfl,rfl,ha,hx,k0,k1,hz,q1,q2⟩:=h;cases rx;obtain⟨t,rfl⟩:=ry;obtain⟨its,r1,p1,hl⟩:=I.tuple ha;obtain⟨⟨cls,dd,data,sl⟩,ho,hc,n,hd⟩:=id p1;simp only at hc hd;subst hc hd;have hne:¬ its.toArray.isEmpty=true:=by have:its≠[]:=λz=>hx (r1.nil_iff.mp z);simpa using this
 have hsz:(its.toArray.size:Int) * k<=1000:=by rw[Hc,<- r1.length]; exact hz
 have road:wpAny (model X.prog X.w) X.A (call (.builtin "tuple.__mul__") [.ref a,.int k t]) (EP X pins σ Q) X.xe s:=by
   by_cases e1:k=1
   . subst e1;exact call_meets JI #[_,ho,rfl] KA (K2 _ _) (Dj a its.toArray n dd sl t) #[ho,#[.ref a,H,I,rfl,q1 rfl]]
   . by_cases e0:k=0
     . subst e0;refine call_meets JI #[_,ho,rfl] KA (K2 _ _) (EQ a its.toArray n dd sl t hne) #[ho,?_];refine#[.ref s.heap.objs.size,_,I.laid (t':=s.toks) (o:=.tup []) (λb ob q=>HJ _ q) (HN _) ?_,rfl,q2 e1 _ (I.hok.fresh (HN _))];exact#[Hl _,[],.nil,IsTup.new _ _]
     . refine call_meets JI #[_,ho,rfl] KA (K2 _ _) (Ct a its.toArray n dd sl k t hne (by omega) hsz k1) #[ho,?_];have hnew:List.foldl (λx1 x2=>x1++x2) (List.toArray []) (List.replicate k.toNat its.toArray)=(List.replicate k.toNat its).flatten.toArray:=by have:=nj its k.toNat [];rw[Jj] at this;exact this
       rw[hnew];refine#[.ref s.heap.objs.size,_,I.laid (t':=s.toks) (o:=.tup (List.replicate k.toNat xs).flatten) (λb ob q=>HJ _ q) (HN _) ?_,rfl,q2 e1 _ (I.hok.fresh (HN _))];refine#[?_,_,r1.rep k.toNat,IsTup.new _ _];rw[pO];have h4:((k.toNat * xs.length:Nat):Int)=(xs.length:Int) * k:=by rw[KW,Int.toNat_of_nonneg k0,Int.mul_comm]
       have h3:(1000:Nat)<sizeLine:=by decide
       omega
 exact KB (T:="tuple") (U:="int") (by decide) #[_,ho,rfl] (λs'=>typeIs_int s' k t) Dp F.fills_int_mul Jk A8 F.slot_int_index.lookup
   (call_meets Jk (typeIs_int s k t) F.entry_int_rmul (F.args_int_rmul_2 _ _) (BK k t a its.toArray n dd sl) #[ho,rfl,#[_,ho,rfl],road])
end L2
namespace Sk
open PySem PySem.Spec PyProof.Rows
mutual
def oj (w:World):PyData->Int
 | .int i=>hashInt i
 | .str x=>hashStr w x
 | .bool b=>hashInt (if b then 1 else 0)
 | .tuple ds=>reduceHash (Builtin.Tuple.tupleHashOf (w4 w ds))
 | _=>0
def w4 (w:World):List PyData->List Int
 | []=>[]
 | d :: ds=>oj w d :: w4 w ds
end
mutual
def drw:PyData->Nat
 | .tuple ds=>vk ds+1
 | _=>1
def vk:List PyData->Nat
 | []=>0
 | d :: ds=>drw d+vk ds
end
end Sk
namespace L2
open PySem PySem.Spec PyProof.Rows
def Dn (K:W.Frag):V->List V->Hp->VK->Prop:=λx xs H Q=>∃p ys y j,x=.ref p/\xs=[y]/\aK K H p ys/\eJ y=true/\ys.all eJ=true/\j<1000/\(∃z,ys[j]?=some z/\eO z y=true)/\(∀m z,m<j->ys[m]?=some z->eO z y=false)/\Q (.int (j:Nat)) H
theorem qX {X:Cx}:mN X "list.index" (Dn X.K):=by
 intro pins s σ H x vs v us Q I rx rv h;obtain⟨p,ys,y,j,rfl,rfl,hT,fy,fs,hj0,⟨z,hz,ez⟩,hno,q⟩:=h;cases rx;obtain⟨u,rfl,ru⟩:=rv.one;obtain⟨its,r,⟨⟨cls,dd,data,sl⟩,n,ho,hc,_,hd⟩,hl⟩:=I.list hT;simp only at hc hd;subst hc hd;obtain⟨uz,huz,rz⟩:=r.get hz;have hj:j<its.toArray.size:=by rw[Hc];exact(HL.mp huz).1
 have eU:∀(m:Nat) (hm:m<its.toArray.size) (zz:V),ys[m]?=some zz->fF y its.toArray[m]=eO zz y:=λm hm zz hzz=>by
   obtain⟨uu,huu,ruu⟩:=r.get hzz;have:its.toArray[m]=uu:=by have h2:=(HL.mp huu).2;simpa using h2
   rw[this];exact nY ruu (Ig.mp fs zz (HP hzz))
 refine call_meets F.slot_list_index #[_,ho,rfl] F.entry_list_index (F.args_list_index_2 _ _) (SeqAt.list_indexAt p its.toArray n dd sl u (fF y) j hj (by omega) (by rw[eU j hj z hz]; exact ez) λm hm hmj=>?_) #[ho,λw hw=>kR ru fy r fs w (by simpa using hw),?_]
 . have hm':m<ys.length:=by rw[r.length]; simpa using hm
   rw[eU m hm ys[m] (HX hm')];exact hno m _ hmj (HX hm')
 . exact#[.int j,H,I.tok _,#[_,rfl],q]
end L2
namespace PySem
theorem zi:typeLookup (.type "zip") "keys"=pure none:=by rw[typeLookup_type,builtinLookup_eq_fast]; kernel_rfl
theorem Ec:typeLookup (.type "zip") "__getattr__"=pure none:=by rw[typeLookup_type,builtinLookup_eq_fast]; kernel_rfl
theorem zU:entryFor table "zip.__getattribute__"=some Builtin.«object.__getattribute__» :=
 entryFor_alias (id':="object.__getattribute__") (by kernel_rfl) (by decide +kernel) (by decide +kernel) (by kernel_rfl)
theorem E4 (a:Addr) (xs:Array Value) (sl:Array (Option Value)) (name:Str) (u:Tok) (hmiss:typeLookup (.type "zip") name=pure none) (hname:(["__module__","__name__","__qualname__","__doc__","__annotations__"]:List Str).contains name=false) (hsz:name.length+100<=sizeLine:=by size_fits) :
   Meets (Builtin.«object.__getattribute__» #[[.ref a,.str name u],[]]) (λA R s=>s.heap.get? a=some { cls:=.type "zip",dict:=none,data:=.fields xs,slots:=sl }/\raisesAttr (.ref a) name A R s) :=
 Meets.of_wp λprog w A R s hs=>by
   obtain⟨hp,g,d,tk,os⟩:=s;obtain⟨hx,hs⟩:=hs;have hT:(⟨hp,g,d,tk,os⟩:Shared).TypeIs (.ref a) "zip":=#[_,hx,rfl]
   unfold Builtin.«object.__getattribute__»
   repeat (any_goals (first|assumption|wp_step))
   simp only[hname,Bool.false_eq_true,if_false]
   repeat (any_goals (first|assumption|wp_step))
   exact wpAny_raiseAttrError hs.1 hs.2 (attrMsg_fits (by decide +kernel) hsz)
theorem Ej {prog:Program} {w:World} {A:Around} {E:Value->Shared->Prop} {s:Shared} {a:Addr} {o:Obj} {xs:Array Value} {Q:Option Value->Shared->Prop}
   (hx:s.heap.get? a=some o) (hc:o.cls=.type "zip") (hdat:o.data=.fields xs) (hd:o.dict=none) (hA:A.handled=none)
   (h:∀h' tk,(∀b ob,s.heap.get? b=some ob->h'.get? b=some ob)->Q none { s with heap:=h',toks:=tk }) :
   wpAny (model prog w) A (getAttr? (.ref a) "keys") Q E s:=by
 obtain⟨c,dct,dat,sl⟩:=o;simp only at hc hdat hd;subst hc hdat hd;obtain⟨hp,g,d,tk,os⟩:=s;have hT:∀tk',(⟨hp,g,d,tk',os⟩:Shared).TypeIs (.ref a) "zip":=λ_=>#[_,hx,rfl]
 have f1:=sub_AttributeError;have f3:=JW.lookup;have f4:=JW.bind (.ref a);have f5:=Ec;unfold getAttr? getAttrBy? getAttrBy
 repeat (any_goals (first|assumption|exact hT _|((with_reducible show wpAny _ _ (call (Value.builtin "zip.__getattribute__") _ _) _ _ _); refine call_meets JW (hT _) zU (F.args_zip_getattribute_2 _ _) (E4 a xs sl "keys" _ zi (by decide +kernel) (by decide +kernel)) #[hx,hA,λh' tk' e hx'=>?_])|wp_step))
 obtain⟨t',u',he⟩:=hx'.there
 try (show wpAny _ _ (getattributeRaised _ _ _ _ _ _ _) _ _ _)
 try unfold getattributeRaised
 repeat (any_goals (first|assumption|wp_step))
 all_goals (first|exact h _ _ hx'.keeps|trace_state)
end PySem
namespace PySem
open Sem (wp)
abbrev gl (h:Heap) (z TI TO T:Addr) (fb:Bool):Prop :=
 h.get? z=some { cls:=.type "zip",dict:=none,data:=.fields (List.toArray [rawInt T,.bool fb,.bool false,.ref TI,.ref TO]),slots:=(List.toArray []) }
variable {z i1 i2 l1 l2:Addr} {b1 b2:Bool} {k1 k2:Nat}
section
variable {prog:Program} {w:World} {A:Around} {E:Value->Shared->Prop} {s:Shared}
theorem zN {a:Addr} {Q:Option Obj->Shared->Prop} (h:Q (s.heap.get? a) s):wpAny (model prog w) A (loadIfAlive a) Q E s:=λΓ p _=>by unfold loadIfAlive;rw[Sem.wp_loadIfAlive];exact(by simpa using h)
theorem tI {TI TO T:Addr}{fb:Bool} {Q:Bool->Shared->Prop} (zZ:gl s.heap z TI TO T fb) (aT:∃o,s.heap.get? T=some o)
   (hQ:∀h',gl h' z TI TO T true->Heap.SameBut z s.heap h'->Q false { s with heap:=h' }):wpAny (model prog w) A (Builtin.SmallTypes.ownedTupleIsFree (.ref z)) Q E s:=by
 unfold Builtin.SmallTypes.ownedTupleIsFree;refine HG (IA zZ rfl (x:=rawInt T) rfl ?_);show wpAny _ _ (loadIfAlive _ >>= _) _ _ _;refine HG (zN ?_);obtain⟨o,ho⟩:=aT;rw[show(T:Int).toNat=T from rfl,ho];rw[HI (by simp)];refine HG (IA zZ rfl (x:=.bool fb) rfl ?_);cases fb with
 | true=>exact HQ (hQ _ zZ #[rfl,λ_ _=>rfl])
 | false=>exact HG (Ij zZ (by simp) λh₁ zZ₁ hs₁=>HQ (hQ h₁ zZ₁ hs₁))
theorem F7 {TI TO T:Addr}{fb:Bool} {xs ys:Array Value} {x y:Value} {Q:Value->Shared->Prop} (D:ZipApart z TI TO i1 i2 l1 l2)
   (zZ:gl s.heap z TI TO T fb) (aT:∃o,s.heap.get? T=some o) (zI:IsPair s.heap TI (.ref i1) (.ref i2))
   (p1:bZ b1 s.heap i1 l1 k1) (p2:bZ b2 s.heap i2 l2 k2) (q1:bz b1 s.heap l1 xs) (q2:bz b2 s.heap l2 ys) (hx:xs[k1]?=some x) (hy:ys[k2]?=some y)
   (hQ:∀h',gl h' z TI TO T true->bZ b1 h' i1 l1 (k1+1)->bZ b2 h' i2 l2 (k2+1)->IsPair h' s.heap.objs.size x y->h'.objs.size=s.heap.objs.size+1 ->
     (∀c o,c≠z->c≠i1->c≠i2->s.heap.get? c=some o->h'.get? c=some o)->Q (.ref s.heap.objs.size) { s with heap:=h' }) :
   wpAny (model prog w) A (Builtin.«zip.__next__» #[[.ref z],[]]) (λfin s'=>∃v,fin=.done (.ret v)/\Q v s') E s:=by
 show wpAny _ _ (field (.ref z) 2 >>= _) _ _ _;refine HG (IA zZ rfl (x:=.bool false) rfl ?_);show wpAny _ _ (field (.ref z) 3 >>= _) _ _ _;refine HG (IA zZ rfl (x:=.ref TI) rfl ?_);refine HG (IZ zI rfl ?_);show wpAny _ _ (Builtin.SmallTypes.ownedTupleIsFree (.ref z) >>= _) _ _ _;refine HG (tI zZ aT λh₁ zZ₁ hs₁=>?_);rw[HI (by simp)];refine HG ?_;simp only[List.forIn_toArray,JN,Jy];refine HG (HG (IG ?_));show wpAny _ _ (Builtin.SmallTypes.nextOf (.ref i1) >>= _) _ _ _;refine HG (ij (p1.extBut hs₁.extBut D.i1z) (q1.extBut hs₁.extBut D.l1z) hx λh₂ h1₂ hs₂=>HQ (HQ ?_));refine HG (HG (IG ?_));show wpAny _ _ (Builtin.SmallTypes.nextOf (.ref i2) >>= _) _ _ _;refine HG (ij ((p2.extBut hs₁.extBut D.i2z).extBut hs₂.extBut D.i12.symm) ((q2.extBut hs₁.extBut D.l2z).extBut hs₂.extBut D.l2i1) hy λh₃ h2₃ hs₃=>HQ (HQ (HQ ?_)));have hsz:h₃.objs.size=s.heap.objs.size:=by rw[hs₃.1,hs₂.1,hs₁.1]
 have hk:∀c o,c≠z->c≠i1->c≠i2->s.heap.get? c=some o->h₃.get? c=some o:=λc o c1 c3 c4 e=>hs₃.extBut _ _ c4 (hs₂.extBut _ _ c3 (hs₁.extBut _ _ c1 e));show wpAny _ _ (newTuple [x,y] >>= _) _ _ _;refine HG (wpAny_newTuple ?_);have hz₃:gl h₃ z TI TO T true:=hs₃.extBut _ _ D.i2z.symm (hs₂.extBut _ _ D.i1z.symm zZ₁);refine HQ #[_,rfl,?_];show Q (.ref h₃.objs.size) _;have hp:IsPair (h₃.push { cls:=.type "tuple",data:=.seq (List.toArray [x,y]) }) s.heap.objs.size x y:=by rw[<- hsz]; exact Hf _ rfl
 rw[hsz];exact hQ _ (HJ _ hz₃) ((h1₂.extBut hs₃.extBut D.i12).at λo e=>HJ _ e) (h2₃.at λo e=>HJ _ e) hp (by rw[IX,hsz]) λc o c1 c3 c4 e=>HJ _ (hk c o c1 c3 c4 e)
theorem Ba {TI TO T:Addr}{fb:Bool} {xs ys:Array Value} {Q:Fin->Shared->Prop} (hh:A.handled=none) (D:ZipApart z TI TO i1 i2 l1 l2)
   (zZ:gl s.heap z TI TO T fb) (aT:∃o,s.heap.get? T=some o) (zI:IsPair s.heap TI (.ref i1) (.ref i2))
   (p1:bZ b1 s.heap i1 l1 k1) (p2:bZ b2 s.heap i2 l2 k2) (q1:bz b1 s.heap l1 xs) (q2:bz b2 s.heap l2 ys) (hend:xs[k1]?=none\/ys[k2]?=none)
   (hE:∀h' e,(∀c o,c≠z->c≠i1->c≠i2->s.heap.get? c=some o->h'.get? c=some o)->(∃o,h'.get? e=some o/\o.cls=.type "StopIteration")->E (.ref e) { s with heap:=h' }) :
   wpAny (model prog w) A (Builtin.«zip.__next__» #[[.ref z],[]]) Q E s:=by
 show wpAny _ _ (field (.ref z) 2 >>= _) _ _ _;refine HG (IA zZ rfl (x:=.bool false) rfl ?_);show wpAny _ _ (field (.ref z) 3 >>= _) _ _ _;refine HG (IA zZ rfl (x:=.ref TI) rfl ?_);refine HG (IZ zI rfl ?_);show wpAny _ _ (Builtin.SmallTypes.ownedTupleIsFree (.ref z) >>= _) _ _ _;refine HG (tI zZ aT λh₁ zZ₁ hs₁=>?_);rw[HI (by simp)];refine HG ?_;simp only[List.forIn_toArray,JN,Jy];refine HG (HG (IG ?_));show wpAny _ _ (Builtin.SmallTypes.nextOf (.ref i1) >>= _) _ _ _;cases hx:xs[k1]? with
 | none=>exact HG (lr hh (p1.extBut hs₁.extBut D.i1z) (q1.extBut hs₁.extBut D.l1z) hx λh₂ e hs₂ he=>hE h₂ e (λc o c1 c3 _ x=>hs₂ _ _ c3 (hs₁.extBut _ _ c1 x)) he)
 | some x =>
   have hy:ys[k2]?=none:=by rcases hend with h|h; rw[hx] at h; cases h; exact h
   refine HG (ij (p1.extBut hs₁.extBut D.i1z) (q1.extBut hs₁.extBut D.l1z) hx λh₂ h1₂ hs₂=>HQ (HQ ?_));refine HG (HG (IG ?_));show wpAny _ _ (Builtin.SmallTypes.nextOf (.ref i2) >>= _) _ _ _;exact HG (lr hh ((p2.extBut hs₁.extBut D.i2z).extBut hs₂.extBut D.i12.symm) ((q2.extBut hs₁.extBut D.l2z).extBut hs₂.extBut D.l2i1) hy λh₃ e hs₃ he=>hE h₃ e (λc o c1 c3 c4 x=>hs₃ _ _ c4 (hs₂.extBut _ _ c3 (hs₁.extBut _ _ c1 x))) he)
def i7 (h:Heap) (z TI TO:Addr):Option Addr->Prop
 | none=>IsZip h z TI TO .none/\∃a b,IsPair h TO a b
 | some T=>(∃fb,gl h z TI TO T fb)/\∃o,h.get? T=some o
theorem zf {TI TO:Addr}{m:Option Addr} {xs ys:Array Value} {x y:Value} {Q:Option Value->Shared->Prop} (D:ZipApart z TI TO i1 i2 l1 l2)
   (zZ:i7 s.heap z TI TO m) (hm:∀T,m=some T->T≠z/\T≠i1/\T≠i2) (zI:IsPair s.heap TI (.ref i1) (.ref i2))
   (p1:bZ b1 s.heap i1 l1 k1) (p2:bZ b2 s.heap i2 l2 k2) (q1:bz b1 s.heap l1 xs) (q2:bz b2 s.heap l2 ys) (hx:xs[k1]?=some x) (hy:ys[k2]?=some y)
   (hQ:∀h',i7 h' z TI TO (some (m.getD s.heap.objs.size))->bZ b1 h' i1 l1 (k1+1)->bZ b2 h' i2 l2 (k2+1)->IsPair h' s.heap.objs.size x y->h'.objs.size=s.heap.objs.size+1 ->
     (∀c o,c≠z->c≠TO->c≠i1->c≠i2->s.heap.get? c=some o->h'.get? c=some o)->Q (some (.ref s.heap.objs.size)) { s with heap:=h' }) :
   wpAny (model prog w) A (pyNext (.ref z)) Q E s:=by
 cases m with
 | none =>
   obtain⟨hz,a,b,hTO⟩:=zZ;exact wG D hz zI hTO p1 p2 q1 q2 hx hy λh' a1 a2 a3 a4 a5 a6 a7=>hQ h' #[#[false,a1],_,a5] a3 a4 a5 a6 a7
 | some T =>
   obtain⟨⟨fb,hz⟩,o,ho⟩:=zZ;have hT:s.TypeIs (.ref z) "zip":=#[_,hz,rfl]
   obtain⟨t1,t2,t3⟩:=hm T rfl;unfold pyNext;exact HG (K7 (wpAny_callSpecial?_slot (name:=Str.ofString "__next__") hT Il
     (IN Il hT Jg
       (F7 D hz #[o,ho] zI p1 p2 q1 q2 hx hy λh' a1 a3 a4 a5 a6 a7=>HQ (hQ h' #[#[true,a1],o,a7 _ _ t1 t2 t3 ho] a3 a4 a5 a6 λc o c1 _ c3 c4 e=>a7 c o c1 c3 c4 e)) (Ja _))))
theorem Gu {TI TO:Addr}{m:Option Addr} {xs ys:Array Value} {Q:Option Value->Shared->Prop} (hh:A.handled=none) (D:ZipApart z TI TO i1 i2 l1 l2)
   (zZ:i7 s.heap z TI TO m) (zI:IsPair s.heap TI (.ref i1) (.ref i2))
   (p1:bZ b1 s.heap i1 l1 k1) (p2:bZ b2 s.heap i2 l2 k2) (q1:bz b1 s.heap l1 xs) (q2:bz b2 s.heap l2 ys) (hend:xs[k1]?=none\/ys[k2]?=none)
   (hQ:∀h',(∀c o,c≠z->c≠TO->c≠i1->c≠i2->s.heap.get? c=some o->h'.get? c=some o)->Q none { s with heap:=h' }):wpAny (model prog w) A (pyNext (.ref z)) Q E s:=by
 cases m with
 | none =>
   obtain⟨hz,a,b,hTO⟩:=zZ;exact vp hh D hz zI hTO p1 p2 q1 q2 hend hQ
 | some T =>
   obtain⟨⟨fb,hz⟩,o,ho⟩:=zZ;have hT:s.TypeIs (.ref z) "zip":=#[_,hz,rfl]
   unfold pyNext;refine HG (K7 (wpAny_callSpecial?_slot (name:=Str.ofString "__next__") hT Il
     (IN Il hT Jg (Ba hh D hz #[o,ho] zI p1 p2 q1 q2 hend λh' e hk he=>?_) (Ja _))))
   obtain⟨o',ho',hc'⟩:=he;refine HG (wpAny_isInstance (T:="StopIteration") (b:=true) #[o',ho',hc'] isSubtype_stop ?_);exact HQ (hQ _ λc o c1 _ c3 c4 e=>hk c o c1 c3 c4 e)
theorem i7.at {h h':Heap} {TI TO:Addr}{m:Option Addr} (p:i7 h z TI TO m) (ez:∀o,h.get? z=some o->h'.get? z=some o) (eT:∀o,h.get? TO=some o->h'.get? TO=some o) (em:∀T,m=some T->∀o,h.get? T=some o->h'.get? T=some o):i7 h' z TI TO m:=by
 cases m with
 | none=>obtain⟨a,b,c,d⟩:=p; exact#[ez _ a,b,c,eT _ d]
 | some T=>obtain⟨⟨fb,a⟩,o,ho⟩:=p; exact#[#[fb,ez _ a],o,em T rfl _ ho]
end
end PySem
namespace L2
open PySem PySem.Spec PyProof.Rows
section
variable {X:Cx} {pins:List (Addr×Obj)} {σ:St} {H:Hp}
theorem D2 {A:Around} {R:Result->Shared->Prop} {b1 b2:Bool} {D z TI TO i1 i2 l1 l2:Addr} {ks:List aO} {ys:List V} (hA:A.handled=none) (ap:ZipApart z TI TO i1 i2 l1 l2)
   (h1:cg b1 X.K H l1 (ks.map kV)) (h2:cg b2 X.K H l2 ys) (hD:H D=none) (hz:ks.length<=100000) (nD:∀b∈[z,TI,TO,i1,i2],b≠D) (fp:∀b∈[z,TI,TO,i1,i2],∀H',H' b=none->eI X pins H' b)
   (hR:∀s' H',Inv X pins σ H' s'->aC H H'->H' D=some (.dK ((ks.zip ys).foldl (λacc kv=>az acc kv.1 kv.2) []))->R (.ok (.ret .none)) s') :
   ∀(k i:Nat) (t:Tok) (s:Shared) (Hi:Hp) (m:Option Addr),(ks.zip ys).length - i=k->i<=(ks.zip ys).length->Inv X pins σ Hi s->aC H Hi->Hi D=some (.dK (((ks.zip ys).take i).foldl (λacc kv=>az acc kv.1 kv.2) [])) ->
     i7 s.heap z TI TO m->(∀T,m=some T->∃xs,Hi T=some (.tup xs))->IsPair s.heap TI (.ref i1) (.ref i2)->bZ b1 s.heap i1 l1 i->bZ b2 s.heap i2 l2 i->(∀b∈[z,TI,TO,i1,i2],Hi b=none)->TO<s.heap.objs.size ->
     codeAny (model X.prog X.w) A (.builtin "dict.update.loop" #[[.ref D,.ref z,.int (i:Nat) t,.none],[]]) R s:=by
 have flen:∀(l:List (aO×V)) (acc:List (aO×V)),(l.foldl (λacc kv=>az acc kv.1 kv.2) acc).length<=acc.length+l.length:=by
   intro l
   induction l with
   | nil=>intro acc; simp
   | cons x r ih =>
     intro acc;rw[JB];have h1:=ih (az acc x.1 x.2);have h2:=dP acc x.1 x.2;simp only[Hh];omega
 have big:(100000:Nat)<sizeLine:=by decide
 have hzl:(ks.zip ys).length=min ks.length ys.length:=J0;have sqS:∀{b:Bool} {l:Addr} {xs:List V} {Hi:Hp},aC H Hi->cg b X.K H l xs->cg b X.K Hi l xs:=λ{b} {l} {xs} {Hi} sm h=>by
   cases b with
   | true=>exact sm.tup h
   | false=>exact sm.seq h
 intro k
 induction k with
 | zero =>
   intro i t s Hi m hk hi I sm eD zs hm zI p1 p2 fr lTO;have e:i=(ks.zip ys).length:=by omega
   rw[e,IB] at eD;obtain⟨is1,r1,q1⟩:=I.sqv (sqS sm h1);obtain⟨is2,r2,q2⟩:=I.sqv (sqS sm h2);have hl1:=r1.length;have hl2:=r2.length;rw[HH] at hl1;refine Jm kU ?_;rw[Around.under_plainId gc _];show wpAny _ A.in1 (pyNext (.ref z) >>= _) _ _ s;refine HG (Gu (A:=A.in1) hA ap zs zI p1 p2 q1 q2 ?_ λh' hk=>?_)
   . have:ks.length<=i\/ys.length<=i:=by rw[e,hzl]; omega
     rcases this with h|h
     . left; simp; omega
     . right; simp; omega
   . have I1:Inv X pins σ Hi { s with heap:=h' }:=I.turnedL (t':=s.toks) (ch:=[z,TI,TO,i1,i2]) (λb o hb q=>hk b o (λzz=>hb (by simp [zz])) (λzz=>hb (by simp [zz])) (λzz=>hb (by simp [zz])) (λzz=>hb (by simp [zz])) q) λb hb=>fp b hb Hi (fr b hb);show wpAny _ _ (Builtin.Dict.addKeywords D [] >>= _) _ _ _;exact HG (HQ (HQ (hR _ _ I1 sm eD)))
 | succ k ih =>
   intro i t s Hi m hk hi I sm eD zs hm zI p1 p2 fr lTO;have hlt:i<(ks.zip ys).length:=by omega
   have hi1:i<ks.length:=by omega
   have hi2:i<ys.length:=by omega
   obtain⟨is1,r1,q1⟩:=I.sqv (sqS sm h1);obtain⟨is2,r2,q2⟩:=I.sqv (sqS sm h2);obtain⟨u,hu,ru⟩:=r1.get (show(ks.map kV)[i]?=some (kV ks[i]) by simp [hi1]);obtain⟨v,hv,rv⟩:=r2.get (show ys[i]?=some ys[i] by simp [hi2]);have hp:∀b∈[z,TI,TO,i1,i2],∀T,m=some T->T≠b:=λb hb T eT q=>by obtain⟨xs,hT⟩:=hm T eT;rw[q,fr b hb] at hT;cases hT
   refine Jm kU ?_;rw[Around.under_plainId gc _];show wpAny _ A.in1 (pyNext (.ref z) >>= _) _ _ s;refine HG (zf (A:=A.in1) ap zs (λT eT=>#[hp z (by simp) T eT,hp i1 (by simp) T eT,hp i2 (by simp) T eT]) zI p1 p2 q1 q2 (by simpa using hu) (by simpa using hv) λh' zs' p1' p2' pr hs' hk=>?_);have hN:Hi s.heap.objs.size=none:=I.hok.fresh (HN _);have I1:Inv X pins σ (upd Hi s.heap.objs.size (.tup [kV ks[i],ys[i]])) { s with heap:=h' }:=I.turnLaid (t':=s.toks) (ch:=[z,TI,TO,i1,i2]) (λb o hb q=>hk b o (λzz=>hb (by simp [zz])) (λzz=>hb (by simp [zz])) (λzz=>hb (by simp [zz])) (λzz=>hb (by simp [zz])) q) (λb hb=>fp b hb Hi (fr b hb)) (HN _)
     #[by show 2<=sizeLine; decide,[u,v],.cons ru (.cons rv .nil),#[_,pr,rfl,_,rfl]]
   have nN:∀b∈[z,TI,TO,i1,i2],b<s.heap.objs.size:=by
     have a1:z<s.heap.objs.size:=by
       cases m with
       | none=>exact Ha zs.1
       | some T=>obtain⟨⟨fb,a⟩,_⟩:=zs; exact Ha a
     intro b hb;simp only[HV,Hm,or_false] at hb;rcases hb with e|e|e|e|e
     . rw[e]; exact a1
     . rw[e]; exact Ha zI
     . rw[e]; exact lTO
     . rw[e]; exact p1.lt
     . rw[e]; exact p2.lt
   have nDN:D≠s.heap.objs.size:=λq=>by rw[q,hN] at eD; cases eD
   have eD1:upd Hi s.heap.objs.size (.tup [kV ks[i],ys[i]]) D=some (.dK (((ks.zip ys).take i).foldl (λacc kv=>az acc kv.1 kv.2) [])):=by rw[ay nDN]; exact eD
   refine HG (IG (HG (wpAny_tryCatch ?_)));show wpAny _ _ (Builtin.Dict.pairItems (.ref s.heap.objs.size)) _ _ _;unfold Builtin.Dict.pairItems;refine HG (JE (T:="tuple") #[_,pr,rfl] ?_);rw[HR (by decide)];refine HG ?_;show wpAny _ _ (load s.heap.objs.size >>= _) _ _ _;refine HG (wpAny_load pr ?_);refine HQ (HQ ?_);show wpAny _ _ (holding [u,v] (dictSet D u v)) _ _ _;refine IG ?_;obtain⟨z',hd,vs,rel,dd⟩:=jn I1.hok eD1;have hl1:=flen ((ks.zip ys).take i) [];have hl2:((ks.zip ys).take i).length<=(ks.zip ys).length:=by rw[Hx]; omega
   simp only[IQ,Nat.zero_add] at hl1;have hzv:vs.length<=sizeLine:=by rw[<- rel.length]; exact z'
   refine wpAny_dictSet_pairs (hsz:=hzv) (gf ru) dd λh2' dd2 hs2=>?_;have he:∃q,h2'.get? D=some q:=let ⟨q,_,_,hq,_⟩:=dd2; #[q,hq]
   have hl3:(az (((ks.zip ys).take i).foldl (λacc kv=>az acc kv.1 kv.2) []) ks[i] ys[i]).length<=sizeLine:=by have:=dP (((ks.zip ys).take i).foldl (λacc kv=>az acc kv.1 kv.2) []) ks[i] ys[i];omega
   have I2:=k9 (t':=({ s with heap:=h' }:Shared).toks+1) I1 (by rw[eD1]; exact True.intro) hs2 he (lL hl3 hd (rel.put ks[i] rv) dd2);have e3:((ks.zip ys).take (i+1)).foldl (λacc kv=>az acc kv.1 kv.2) []=az (((ks.zip ys).take i).foldl (λacc kv=>az acc kv.1 kv.2) []) ks[i] ys[i]:=by rw[IU,ID,HX hlt,List.getElem_zip];rfl
   rw[<- e3] at I2;refine HQ #[plainId_quiet gc _,?_];have up:∀c,c≠D->∀o,h'.get? c=some o->h2'.get? c=some o:=λc hc o e=>(hs2.2 c hc).trans e;refine ih (i+1) 0 _ _ (some (m.getD s.heap.objs.size)) (by omega) (by omega) I2 (aC.upd (sm.trans (aC.new hN)) hD) aL (zs'.at (up _ (nD z (by simp))) (up _ (nD TO (by simp))) λT eT=>up T ?_) (λT eT=>?_) ?_ ?_ ?_ (λb hb=>?_) ?_
   . cases eT;cases m with
     | none=>exact λq=>nDN q.symm
     | some T =>
       obtain⟨xs,hT⟩:=hm T rfl;intro q;rw[show T=D from q,eD] at hT;cases hT
   . cases eT;cases m with
     | none=>exact#[[kV ks[i],ys[i]],by show upd (upd Hi s.heap.objs.size _) D _ s.heap.objs.size=_; rw[ay (λq=>nDN q.symm)]; exact aL]
     | some T =>
       obtain⟨xs,hT⟩:=hm T rfl;refine#[xs,?_];show upd (upd Hi s.heap.objs.size _) D _ T=_;rw[ay (show T≠D from λq=>by rw[q,eD] at hT; cases hT)];rw[ay (show T≠s.heap.objs.size from λq=>by rw[q,hN] at hT; cases hT)];exact hT
   . exact up _ (nD TI (by simp)) _ (hk _ _ ap.TIz ap.TITO ap.TIi1 ap.TIi2 zI)
   . exact p1'.at (up _ (nD i1 (by simp)))
   . exact p2'.at (up _ (nD i2 (by simp)))
   . rw[ay (nD b hb),ay (Hw (nN b hb))];exact fr b hb
   . show TO<h2'.objs.size;rw[hs2.1];show TO<h'.objs.size;rw[hs'];exact Nat.lt_succ_of_lt lTO
def pY (b1 b2:Bool) (K:W.Frag):List V->Hp->VK->Prop:=λxs H Q=>∃(l1 l2:Addr) (ks:List aO) (ys:List V),xs=[.ref l1,.ref l2]/\cg b1 K H l1 (ks.map kV)/\cg b2 K H l2 ys/\ks.length<=100000 /\
 ∀d H',H d=none->aC H H'->H' d=some (.dK ((ks.zip ys).foldl (λacc kv=>az acc kv.1 kv.2) []))->Q (.ref d) H'
theorem DG {s:Shared} {b1 b2:Bool} {l1 l2:Addr} {Q:VK} (hc:X.calm=true) (I:Inv X pins σ H s) (h:pY b1 b2 X.K [.ref l1,.ref l2] H Q) :
   wpAny (model X.prog X.w) X.A (call (.type "zip") [.ref l1,.ref l2]) (λv s1=>wpAny (model X.prog X.w) X.A (call (.type "dict") [v]) (EP X pins σ Q) X.xe s1) X.xe s:=by
 obtain⟨l1',l2',ks,ys,e,h1,h2,hz,q⟩:=h;cases e;obtain⟨is1,v1,p1⟩:=I.sqv h1;obtain⟨is2,v2,p2⟩:=I.sqv h2;refine rS p1 p2 λh' n hn hzp hTI hTO i1 i2 hk=>?_;subst hn;have hA:=I.ok.hd hc;generalize hs1:({ s with heap:=h' }:Shared)=s1;have ehp:s1.heap=h':=by rw[<- hs1]
 have I0:Inv X pins σ H s1:=by rw[<- hs1]; exact I.kept (t':=s.toks) hk
 have hD:H s1.heap.objs.size=none:=I0.hok.fresh (HN _);have I1:Inv X pins σ (upd H s1.heap.objs.size (.dK [])) { s1 with heap:=s1.heap.push { cls:=.type "dict",data:=.dict (List.toArray []) } } :=
   I0.laid (a:=s1.heap.objs.size) (o:=.dK []) (t':=s1.toks) (λ_ _ q=>HJ _ q) (HN _) (om s1.heap I0.big)
 refine callType_codes (Q₁:=λobj s₁=>obj=.ref s1.heap.objs.size/\s₁={ s1 with heap:=s1.heap.push { cls:=.type "dict",data:=.dict (List.toArray []) } }) PySem.F.kt_called_dict (K4 _) KP (kt_code_dict_new _ #[rfl,rfl]) ?_;rintro obj s₁ ⟨rfl,rfl⟩;have hnew:(s1.heap.push { cls:=.type "dict",data:=.dict (List.toArray []) }).DictOf (cK X.prog X.w) s1.heap.objs.size []:=Heap.DictOf.new s1.heap;refine#[hnew.typeIs,KH _ _,?_];unfold Builtin.«dict.__init__»;refine HG ?_;unfold Builtin.Dict.selfAndRest;refine HG (wpAny_notOrdered_dict hnew.typeIs ?_);show wpAny _ _ (pure (s1.heap.objs.size,[Value.ref (s.heap.objs.size+4)])) _ _ _;refine HQ ?_;show wpAny _ _ (Builtin.Dict.updateFrom "dict.__init__" s1.heap.objs.size (.ref (s.heap.objs.size+4)) [] .none) _ _ _;unfold Builtin.Dict.updateFrom;have hzp1:(s1.heap.push { cls:=.type "dict",data:=.dict (List.toArray []) }).get? (s.heap.objs.size+4)=some { cls:=.type "zip",dict:=none,data:=.fields (List.toArray [.none,.bool false,.bool false,.ref (s.heap.objs.size+2),.ref (s.heap.objs.size+3)]),slots:=(List.toArray []) }:=HJ _ (by rw[ehp]; exact hzp);refine HG (JE (T:="zip") #[_,hzp1,rfl] ?_);rw[HR (by decide)];refine HG (Ej (s:={ s1 with heap:=s1.heap.push { cls:=.type "dict",data:=.dict (List.toArray []) } }) hzp1 rfl rfl rfl hA λh3 tk hk3=>?_);have I2:Inv X pins σ (upd H s1.heap.objs.size (.dK [])) { s1 with heap:=h3,toks:=tk }:=I1.kept hk3;rw[HR (by rfl)];refine HG (Jn ?_);have up:∀b o,h'.get? b=some o->h3.get? b=some o:=λb o e=>hk3 _ _ (HJ _ (show s1.heap.get? b=some o by rw[ehp]; exact e));refine HG (KI (s:={ s1 with heap:=h3,toks:=tk }) (up _ _ hzp) ?_);have dZ:∀b∈[s.heap.objs.size+4,s.heap.objs.size+2,s.heap.objs.size+3,s.heap.objs.size,s.heap.objs.size+1],s.heap.objs.size<=b/\b<s1.heap.objs.size:=λb hb=>by
   have h4:s.heap.objs.size+4<s1.heap.objs.size:=by rw[ehp]; exact Ha hzp
   simp only[HV,Hm,or_false] at hb;rcases hb with e|e|e|e|e <;> (rw[e]; constructor <;> omega)
 refine HQ #[plainId_quiet gc _,?_];have fpk:∀b∈[s.heap.objs.size+4,s.heap.objs.size+2,s.heap.objs.size+3,s.heap.objs.size,s.heap.objs.size+1],∀H',H' b=none->eI X pins H' b:=λb hb H' hn=>I.fpOk (dZ b hb).1 hn;refine D2 (A:=X.A.in1) (H:=H) (D:=s1.heap.objs.size) hA (zipApart_new (bz.lt p1) (bz.lt p2)) h1 h2 hD hz (λb hb=>Hw (dZ b hb).2) fpk (λs' H' J sm eD=>#[rfl,.ref s1.heap.objs.size,H',J,rfl,q _ H' hD sm eD])
   (ks.zip ys).length 0 0 _ (upd H s1.heap.objs.size (.dK [])) none (by omega) (Hl _) I2 (aC.new hD) (by rw[aL]; rfl) #[up _ _ hzp,_,_,up _ _ hTO] (λT z=>by cases z) (up _ _ hTI) (i1.at λo e=>up _ o e) (i2.at λo e=>up _ o e) (λb hb=>?_) ?_
 . rw[ay (Hw (dZ b hb).2)];exact I.hok.fresh (dZ b hb).1
 . exact Ha (up _ _ hTO)
theorem EW (b1 b2:Bool) {a b:Expr} {ta:TA} {p pos p' pos':Pos} (hc:X.calm=true) (hg:Gl X "dict") (hm:X.mg "dict"=none) (hg2:Gl X "zip") (hm2:X.mg "zip"=none) (ha:PA X [a,b] ta)
   (hs:starEach [a,b] X.env=(false,eval a X.env) :: starEach [b] X.env:=by rfl) (hs2:(backTo pos' (starEach [b] X.env)).any (·.1)=false:=by rfl)
   (he:starEach [.Call (.Name "zip" p') [a,b] [] pos'] X.env=[(false,eval (.Call (.Name "zip" p') [a,b] [] pos') X.env)]:=by rfl) :
   PE X (.Call (.Name "dict" p) [.Call (.Name "zip" p') [a,b] [] pos'] [] pos) (kX (pY b1 b2 X.K) ta):=by
 intro pins s σ H Q I h;refine JA (gF I hg hm lH ?_);refine IE ?_ he rfl;rw[he];show wpAny _ _ (spliced [(false,eval (.Call (.Name "zip" p') [a,b] [] pos') X.env)]) _ _ s;refine Calls.spliced_cons (Call_ (gF I hg2 hm2 vI (IE (aq (ha pos' pins s σ H _ I h) λus s1 ⟨vs,H1,I1,r1,q1⟩=>?_) hs hs2)));obtain⟨l1,l2,ks,ys,e,q⟩:=id q1;subst e;cases r1 with
 | cons r rr =>
   cases rr with
   | cons r' rr =>
     cases rr;cases r;cases r';exact aq (DG hc I1 q1) λv s2 q2=>Calls.spliced_nil q2
end
variable {p:Addr}
section
variable {g:TG} {tif:TT} {te:TE} {js:List (Option Nat)} {σ:St} {H:Hp} {Q:VK}
def jJ (H:Hp) (p:Addr) (T:Nat->Hp->V->Prop) (i:Nat) (acc:List V) (H2:Hp):Prop:=aC H H2/\H2 p=some (.lst acc)/\acc.length=i/\∀(j:Nat) v,acc[j]?=some v->T j (ers p H2) v
theorem Dl {H:Hp} {o:HO}:ers p (upd H p o)=ers p H:=by
 funext b;unfold ers;by_cases h:b=p
 . rw[HR h,HR h]
 . rw[HI h,HI h,ay h]
theorem nM {T:Nat->Hp->V->Prop} {i:Nat} {acc:List V} {H2 H3:Hp} {v:V} (tm:∀i v H H',aC H H'->T i H v->T i H' v) (hp:H p=none) (r:jJ H p T i acc H2) (s3:aC H2 H3) (hv:T i (ers p H3) v) :
   H3 p=some (.lst acc)/\jJ H p T (i+1) (acc++[v]) (upd H3 p (.lst (acc++[v]))):=by
 obtain⟨s2,e2,rfl,ht⟩:=r;refine#[s3 _ _ e2,(s2.trans s3).upd hp,aL,by simp,λj u hu=>?_];rw[Dl];by_cases hj:j<acc.length
 . rw[J5 hj] at hu;exact tm _ _ _ _ (aC.ers s3) (ht j u hu)
 . have:j=acc.length:=by have:=(HL.mp hu).1;simp at this;omega
   subst this;rw[IR (HN _)] at hu;simp at hu;rw[<- hu];exact hv
theorem oT {K:W.Frag} {a:Addr} {xs:List V} (T:Nat->Hp->V->Prop) (tm:∀i v H H',aC H H'->T i H v->T i H' v) (hn:xs.length<=1000000) (hS:aK K H a xs) (hp:H p=none)
   (hs:∀i x H2 (R:VK),xs[i]?=some x->aC H H2->(∃acc,H2 p=some (.lst acc))->(∀v H3,aC H2 H3->T i (ers p H3) v->R v H3)->g x (cE js σ) H2 λσ2 H3=>tif σ2 H3 λc H4=>if c=true then te σ2 H4 R else False)
   (hd:∀H2 vs,aC H H2->H2 p=some (.lst vs)->vs.length=xs.length->(∀(i:Nat) v,vs[i]?=some v->T i (ers p H2) v)->Q (.ref p) H2) (mono:∀x H2 (M M':St->Hp->Prop),(∀σ' H',M σ' H'->M' σ' H')->g x (cE js σ) H2 M->g x (cE js σ) H2 M':=by intro _ _ _ _ h z; exact h _ _ z) (mon2:∀σ2 H2 (M M':Bool->Hp->Prop),(∀c H',M c H'->M' c H')->tif σ2 H2 M->tif σ2 H2 M':=by intro _ _ _ _ h z; exact h _ _ z) :
   gT (i4 K a) g tif te js σ Q p H:=by
 refine km hn (jJ H p T) #[aC.new hp,aL,rfl,λj v h=>by simp at h] ?_ ?_ ?_
 . rintro i acc H2 hi ⟨s2,e2,l2,_⟩;exact#[e2,by omega,s2.seq hS]
 . rintro i x acc H2 hx r;refine mono _ _ _ _ (λσ' H' z=>?_) (hs i x H2 _ hx r.1 #[acc,r.2.1] λv H3 s3 t3=>nM tm hp r s3 t3);refine mon2 _ _ _ _ (λc H'' zz=>?_) z;cases c with
   | true=>exact zz
   | false=>exact zz.elim
 . rintro acc H2 ⟨s2,e2,l2,t2⟩;exact hd H2 acc s2 e2 l2 t2
theorem GJ {K:W.Frag} {a:Addr} {xs:List V} (T:Nat->Hp->V->Prop) (tm:∀i v H H',aC H H'->T i H v->T i H' v) (hn:xs.length<=1000000) (hS:aG K H a xs) (hp:H p=none)
   (hs:∀i x H2 (R:VK),xs[i]?=some x->aC H H2->(∃acc,H2 p=some (.lst acc))->(∀v H3,aC H2 H3->T i (ers p H3) v->R v H3)->g x (cE js σ) H2 λσ2 H3=>tif σ2 H3 λc H4=>if c=true then te σ2 H4 R else False)
   (hd:∀H2 vs,aC H H2->H2 p=some (.lst vs)->vs.length=xs.length->(∀(i:Nat) v,vs[i]?=some v->T i (ers p H2) v)->Q (.ref p) H2) (mono:∀x H2 (M M':St->Hp->Prop),(∀σ' H',M σ' H'->M' σ' H')->g x (cE js σ) H2 M->g x (cE js σ) H2 M':=by intro _ _ _ _ h z; exact h _ _ z) (mon2:∀σ2 H2 (M M':Bool->Hp->Prop),(∀c H',M c H'->M' c H')->tif σ2 H2 M->tif σ2 H2 M':=by intro _ _ _ _ h z; exact h _ _ z) :
   gT (iC K a) g tif te js σ Q p H:=by
 refine vn hn (jJ H p T) #[aC.new hp,aL,rfl,λj v h=>by simp at h] ?_ ?_ ?_
 . rintro i acc H2 hi ⟨s2,e2,l2,_⟩;exact#[e2,by omega,s2.tup hS]
 . rintro i x acc H2 hx r;refine mono _ _ _ _ (λσ' H' z=>?_) (hs i x H2 _ hx r.1 #[acc,r.2.1] λv H3 s3 t3=>nM tm hp r s3 t3);refine mon2 _ _ _ _ (λc H'' zz=>?_) z;cases c with
   | true=>exact zz
   | false=>exact zz.elim
 . rintro acc H2 ⟨s2,e2,l2,t2⟩;exact hd H2 acc s2 e2 l2 t2
theorem zV {lo:Int} {n:Nat} (T:Nat->Hp->V->Prop) (tm:∀i v H H',aC H H'->T i H v->T i H' v) (hn:n<=1000000) (hp:H p=none)
   (hs:∀i H2 (R:VK),i<n->aC H H2->(∃acc,H2 p=some (.lst acc))->(∀v H3,aC H2 H3->T i (ers p H3) v->R v H3)->g (.int (lo+i)) (cE js σ) H2 λσ2 H3=>tif σ2 H3 λc H4=>if c=true then te σ2 H4 R else False)
   (hd:∀H2 vs,aC H H2->H2 p=some (.lst vs)->vs.length=n->(∀(i:Nat) v,vs[i]?=some v->T i (ers p H2) v)->Q (.ref p) H2) (mono:∀x H2 (M M':St->Hp->Prop),(∀σ' H',M σ' H'->M' σ' H')->g x (cE js σ) H2 M->g x (cE js σ) H2 M':=by intro _ _ _ _ h z; exact h _ _ z) (mon2:∀σ2 H2 (M M':Bool->Hp->Prop),(∀c H',M c H'->M' c H')->tif σ2 H2 M->tif σ2 H2 M':=by intro _ _ _ _ h z; exact h _ _ z) :
   gT (gR lo n) g tif te js σ Q p H:=by
 refine oU hn (jJ H p T) #[aC.new hp,aL,rfl,λj v h=>by simp at h] ?_ ?_ ?_
 . rintro i acc H2 hi ⟨s2,e2,l2,_⟩;exact#[e2,by omega]
 . rintro i acc H2 hx r;refine mono _ _ _ _ (λσ' H' z=>?_) (hs i H2 _ hx r.1 #[acc,r.2.1] λv H3 s3 t3=>nM tm hp r s3 t3);refine mon2 _ _ _ _ (λc H'' zz=>?_) z;cases c with
   | true=>exact zz
   | false=>exact zz.elim
 . rintro acc H2 ⟨s2,e2,l2,t2⟩;exact hd H2 acc s2 e2 l2 t2
end
end L2
namespace Wk
open PySem L2 Gx Fl
def fw (F:F2.Fd) (k j r:Nat):Prop:=∃l,K13.Due (F2.kds F) k (some l)/\l[j]?=some r
section
variable {K:W.Frag} {C x:Addr} {H:Hp} {fns:List F2.Fd} {F:F2.Fd}
def oY (C:Addr) (H:Hp) (x:Addr) (fld:Str) (n:Str) (v:V):Prop:=∃dx fs d kvs,H x=some (.ins C dx fs)/\fs.lookup fld=some (.ref d)/\H d=some (.dK kvs)/\bR kvs (Sum.inr n:aO)=some v
theorem je {H:Hp} {d:Addr} {kvs:List (aO×V)} {n:Str} {v:V} (h:H d=some (.dK kvs)) (hv:bR kvs (Sum.inr n:aO)=some v):cz H d (.str n) (some v):=by have:=cz.k (k:=(Sum.inr n:aO)) h;rw[hv] at this;exact this
theorem zJ (h:F2.FlowsAt K C H x fns) (hF:F∈fns):oY C H x "rows_of" F.name (.ref F.ra):=by obtain⟨i,hi⟩:=Im hF;obtain⟨dx,fz,d,kv,nl,wl,h0,hO,h2,h3,h4,h5,h6,h7,h8⟩:=h.ob;have hd:=hO.dc 3 (by decide);rw[h5] at hd;exact#[dx,_,_,_,hO.ob,rF _ _,hd,F2.kD_at _ h.nd hi]
theorem A3 (h:F2.FlowsAt K C H x fns) (hF:F∈fns):∃nl,oY C H x "names_in" F.name (.ref nl)/\H nl=some (.lst ((F2.nms F).map V.str)):=by obtain⟨i,hi⟩:=Im hF;obtain⟨dx,fz,d,kv,nl,wl,h0,hO,h2,h3,h4,h5,h6,h7,h8⟩:=h.ob;have hd:=hO.dc 4 (by decide);rw[h6] at hd;exact#[nl i,#[dx,_,_,_,hO.ob,ur _ _,hd,F2.kD_at _ h.nd hi],(h8 i F hi).1]
theorem GW (h:F2.FlowsAt K C H x fns) (hF:F∈fns) {k j r:Nat} (hk:k<F.rs.length) (hw:fw F k j r):∃wl tp vs l,oY C H x "ways_in" F.name (.ref wl)/\H wl=some (.lst vs)/\vs[k]?=some (.ref tp)/\H tp=some (.tup (K13.natsV l))/\l[j]?=some r:=by
 obtain⟨i,hi⟩:=Im hF;obtain⟨dx,fz,d,kv,nl,wl,h0,hO,h2,h3,h4,h5,h6,h7,h8⟩:=h.ob;have hd:=hO.dc 5 (by decide);rw[h7] at hd;obtain⟨vs,e1,e2,e3⟩:=(h8 i F hi).2;have hl:(F2.kds F).length=F.rs.length:=by unfold F2.kds; rw[HH]
 have ev:vs[k]?=some vs[k]:=HX (by omega);obtain⟨o,due,vo⟩:=e3 k _ ev;obtain⟨l,dl,hl'⟩:=hw;rw[K13.Due.uniq due dl] at vo;obtain⟨p,ep,hp⟩:=vo;exact#[wl i,p,vs,l,#[dx,_,_,_,hO.ob,tj _ _,hd,F2.kD_at _ h.nd hi],e1,by rw[ev,ep],hp,hl']
end
theorem EX (kvs:List (aO×V)) (k:aO) (v:V):(az kvs k v).length<=kvs.length+1:=by
 induction kvs with
 | nil=>simp [az]
 | cons p r ih =>
   unfold az;split <;> simp <;> omega
end Wk
namespace L2
open PySem PySem.Spec PyProof.Rows
theorem bW.or2 {X:Cx} {f:Value->Value->Sem Value} {r1 r2:R2} (h1:bW X f r1) (h2:bW X f r2):bW X f (λx y H Q=>r1 x y H Q\/r2 x y H Q):=by
 intro pins s σ H x y v u Q I rx ry h;rcases h with h|h
 . exact h1 pins s σ H x y v u Q I rx ry h
 . exact h2 pins s σ H x y v u Q I rx ry h
def jr (K:W.Frag):R2:=λx y H Q=>vP K x y H Q\/sW K x y H Q
theorem mQ {X:Cx}:bW X (binaryOp .Add) (jr X.K):=bW.or2 DV rj
theorem kr {K:W.Frag} {H:Hp} {a b:Addr} {xs ys:List V} {Q:VK} (ha:aG K H a xs) (hb:H b=some (.tup ys)) (hy:ys≠[]) (hl:xs.length+ys.length<=sizeLine) (q:∀p H',aC H H'->H' p=some (.tup (xs++ys))->Q (.ref p) H'):jr K (.ref a) (.ref b) H Q:=by
 by_cases hx:xs=[]
 . subst hx;exact .inl #[a,b,ys,rfl,rfl,ha,aG.of hb,q b H (aC.refl _) hb]
 . exact .inr #[a,b,xs,ys,rfl,rfl,ha,aG.of hb,hx,hl,λz=>absurd z hy,λ_ p hp=>q p _ (aC.new hp) aL]
end L2
namespace Wk
open PySem L2 Gx Fl K41 Bg
inductive RG where
 | out (a:V)|copy (x:Str) (a:V)|op (x s:Str) (a b:V)|back (a:V)|new (x:Str)|get (x:Str) (a:V) (f:Str)|put (a:V) (f:Str) (b:V)|call (x g:Str) (p:Addr) (as:List V)|ifs (a:V)|whl (a:V)
def RG.items:RG->List V
 | .out a=>[.str "out",a]
 | .copy x a=>[.str "copy",.str x,a]
 | .op x s a b=>[.str "op",.str x,.str s,a,b]
 | .back a=>[.str "back",a]
 | .new x=>[.str "new",.str x]
 | .get x a f=>[.str "get",.str x,a,.str f]
 | .put a f b=>[.str "put",a,.str f,b]
 | .call x g p _=>[.str "call",.str x,.str g,.ref p]
 | .ifs a=>[.str "if",a]
 | .whl a=>[.str "while",a]
def RG.kind:RG->Str
 | .out _=>"out"
 | .copy _ _=>"copy"
 | .op _ _ _ _=>"op"
 | .back _=>"back"
 | .new _=>"new"
 | .get _ _ _=>"get"
 | .put _ _ _=>"put"
 | .call _ _ _ _=>"call"
 | .ifs _=>"if"
 | .whl _=>"while"
def RG.gx:RG->Option Str
 | .copy x _=>some x
 | .op x _ _ _=>some x
 | .new x=>some x
 | .get x _ _=>some x
 | .call x _ _ _=>some x
 | _=>none
def RG.as:RG->List V
 | .out a=>[a]
 | .copy _ a=>[a]
 | .op _ _ a b=>[a,b]
 | .back a=>[a]
 | .new _=>[]
 | .get _ a _=>[a]
 | .put a _ b=>[a,b]
 | .call _ _ _ as=>as
 | .ifs a=>[a]
 | .whl a=>[a]
def RG.cl:RG->Str
 | .call _ g _ _=>g
 | _=>""
def RG.rr (r:Addr) (rg:RG):RR:=#[#[r,rg.kind,rg.cl],#[r,0,0,rg.gx,rg.as]]
def RG.parts (rg:RG):List V:=(rg.gx.toList.map V.str)++rg.as
structure RGAt (K:W.Frag) (H:Hp) (r:Addr) (rg:RG):Prop where
 it:aG K H r rg.items
 ar:∀x g p as,rg=.call x g p as->aG K H p as
structure RG.Ok (rg:RG):Prop where
 at_:∀v∈rg.parts,K12.Atom v
 sg:∀x s a b,rg=.op x s a b->PyData.strOk s=true
 fl:(∀x a f,rg=.get x a f->PyData.strOk f=true)/\∀a f b,rg=.put a f b->PyData.strOk f=true
 cl:∀x g p as,rg=.call x g p as->PyData.strOk g=true/\as.length<=10
theorem gat {x:Str} (h:K12.Atom (.str x)):K12.Nm x:=by
 rcases h with⟨s,e,h⟩|⟨i,e⟩
 . cases e; exact h
 . cases e
variable {rg:RG}
theorem Fb {K:W.Frag} {H:Hp} {r:Addr} (h:RGAt K H r rg):K12.RowS K H rg.items rg.gx rg.as:=by
 cases rg with
 | out a=>exact .out a
 | copy x a=>exact .copy x a
 | op x s a b=>exact .op x s a b
 | back a=>exact .back a
 | new x=>exact .new x
 | get x a f=>exact .get x a f
 | put a f b=>exact .put a f b
 | call x g p as=>exact .call x g p as (h.ar x g p as rfl)
 | ifs a=>exact .ifs a
 | whl a=>exact .whl a
theorem Av (ok:rg.Ok):rg.as.length<=10:=by
 cases rg with
 | call x g p as=>exact(ok.cl x g p as rfl).2
 | _=>simp [RG.as]
theorem kP {K:W.Frag} {H:Hp} {r:Addr} (h:RGAt K H r rg) (ok:rg.Ok):gP K H (rg.rr r):=by
 refine#[rfl,?_,#[#[_,h.it,Fb h],λv hv=>ok.at_ v (Hu _ hv),Av ok,λx hx=>?_]]
 . have ne:∀k∈([("out":Str),"copy","op","back","new","get","put","if","while"]:List Str),¬ k="call":=by decide +kernel
   cases rg with
   | call x g p as=>exact#[_,h.it,λ_=>#[_,_,rfl]]
   | out a=>exact#[_,h.it,λz=>absurd z (ne "out" (by simp))]
   | copy x a=>exact#[_,h.it,λz=>absurd z (ne "copy" (by simp))]
   | op x s a b=>exact#[_,h.it,λz=>absurd z (ne "op" (by simp))]
   | back a=>exact#[_,h.it,λz=>absurd z (ne "back" (by simp))]
   | new x=>exact#[_,h.it,λz=>absurd z (ne "new" (by simp))]
   | get x a f=>exact#[_,h.it,λz=>absurd z (ne "get" (by simp))]
   | put a f b=>exact#[_,h.it,λz=>absurd z (ne "put" (by simp))]
   | ifs a=>exact#[_,h.it,λz=>absurd z (ne "if" (by simp))]
   | whl a=>exact#[_,h.it,λz=>absurd z (ne "while" (by simp))]
 . have hx:rg.gx=some x:=hx;refine gat (ok.at_ (.str x) (JH _ ?_));rw[hx];simp
end Wk
namespace L2
open PySem PySem.Spec PyProof.Rows
theorem nw {H X:Hp} {a:Addr} {o:HO} (e:upd H a o=X) (h:H a=none):aC H X/\X a=some o:=by subst e; exact#[aC.new h,aL]
theorem iN {c A B:Prop} [Decidable c] (h:B) (hc:¬ c:=by decide +kernel):if c then A else B:=ak hc h
theorem iP {c A B:Prop} [Decidable c] (h:A) (hc:c:=by decide +kernel):if c then A else B:=aU hc h
theorem jN {c A B:Prop} [Decidable c] (h:B) (hc:¬ c:=by decide):if c then A else B:=ak hc h
section
variable {g:TG} {tif:TT} {te:TE} {js:List (Option Nat)} {σ:St} {H:Hp} {Q:VK}
theorem zX {b1 b2:Bool} {K:W.Frag} {l1 l2:Addr} {xs ys:List V} {p:Addr} (hn:xs.length<=1000000) (Pv:Nat->List V->Hp->Prop) (h0:Pv 0 [] (upd H p (.lst [])))
   (hl:∀i acc H2,i<=min xs.length ys.length->Pv i acc H2->H2 p=some (.lst acc)/\acc.length<=i/\cg b1 K H2 l1 xs/\cg b2 K H2 l2 ys)
   (hs:∀i x y acc H2 b,xs[i]?=some x->ys[i]?=some y->Pv i acc H2->H2 b=none->mU g tif te (cE js σ) p acc (Pv (i+1)) (.ref b) (upd H2 b (.tup [x,y]))) (hd:∀acc H2,Pv (min xs.length ys.length) acc H2->Q (.ref p) H2) :
   gT (iq K b1 b2 l1 l2) g tif te js σ Q p H:=by
 refine#[λi m acc H=>m=min xs.length ys.length - i/\i<=min xs.length ys.length/\Pv i acc H,#[min xs.length ys.length,by simp,Hl _,h0],?_];rintro i m acc H2 ⟨rfl,hi,q⟩;obtain⟨q1,q2,q3,q4⟩:=hl i acc H2 hi q;refine#[q1,?_];by_cases hlt:i<min xs.length ys.length
 . have l1':i<xs.length:=by omega
   have l2':i<ys.length:=by omega
   refine .inr #[#[xs,ys,xs[i],ys[i],q3,q4,by simp [l1'],by simp [l2']],?_,Pv (i+1),λacc' H' p'=>#[min xs.length ys.length - (i+1),by omega,rfl,hlt,p'],λx H' y=>?_]
   . have:(1000000:Nat)<sizeLine:=by decide
     omega
   . obtain⟨b,rfl,hb,y⟩:=y;rw[y xs ys xs[i] ys[i] q3 q4 (by simp [l1']) (by simp [l2'])];exact hs i xs[i] ys[i] acc H2 b (by simp [l1']) (by simp [l2']) q hb
 . have e:i=min xs.length ys.length:=by omega
   subst e;refine .inl #[#[xs,ys,q3,q4,?_],hd acc H2 q];rcases Nat.le_total xs.length ys.length with h|h
   . left; rw[Jp h]; exact Iz (HN _)
   . right; rw[Nat.min_eq_right h]; exact Iz (HN _)
end
end L2
namespace L2
open PySem PySem.Spec PyProof.Rows PySem.W
section
variable {prog:Program} {w:World} {A:Around} {E:Value->Shared->Prop} {s:Shared} {δ:Type} {R:δ->Value->Prop} {a:Addr} {D:List (Str×δ)} {k:Str} {tk:Tok} {d:δ}
theorem AB {Q:Value->Shared->Prop} (T:KTD.TabOf R s.heap a D) (h:Q (.bool (KTD.datumAt k D).isSome) { s with toks:=s.toks+1 }) :
   wpAny (model prog w) A (compareOp .In (.str k tk) (.ref a)) Q E s:=by
 have ty:=mI T;obtain⟨hsm,o,es,ep,ho,hc,hdt,hr⟩:=T;unfold compareOp;show wpAny _ _ (contains (.ref a) (.str k tk) >>= λb=>pure (Value.bool b)) _ _ s;refine HG (wpAny_contains_slot ty slot_dict_contains (IN slot_dict_contains ty entry_dict_contains ?_ (args_dict_contains _ _)));unfold Builtin.«dict.__contains__»;show wpAny _ _ (dictGet a (.str k tk) >>= λr=>if r.isSome=true then ret (Value.bool true) else Builtin.Dict.pendingKey? a (.str k tk) >>= λr=>match r with|some _=>ret (Value.bool true)|none=>ret (Value.bool false)) _ _ s;have hf:findBy (λk v=>v.isStr k) es k=(es.toList.find? λe=>e.key.isStr k).map (·.val):=by obtain⟨l⟩:=es;simp [findBy]
 refine HG ?_;unfold dictGet
 try with_reducible refine IG ?_
 refine HG (KD (HG (KTD.kt_dictFind_strs (s:={ s with toks:=s.toks+1 }) ho hdt (by obtain⟨l⟩:=es; simpa using hr.exact) ?_)));rw[findBy_of_findIdx?] at hf;cases hq:KTD.datumAt k D with
 | some d =>
   obtain⟨v,hv,_⟩:=hr.find_some hq;rw[hv] at hf;cases hi:es.findIdx? λe=>e.key.isStr k with
   | none=>rw[hi] at hf; cases hf
   | some i =>
     rw[hi] at hf;have hf:es[i]?.map (·.val)=some v:=hf;refine HG (wpAny_dictEntries (s:={ s with toks:=s.toks+1 }) ho hdt (HQ ?_));show wpAny _ _ _ _ _ _;rw[hf];show wpAny _ _ (ret (Value.bool true)) _ _ _;rw[hq] at h;exact HQ #[_,rfl,IT (HQ h)]
 | none =>
   have hv:=hr.find_none hq;rw[hv] at hf;cases hi:es.findIdx? λe=>e.key.isStr k with
   | some i =>
     exfalso;rw[hi] at hf;have hf:es[i]?.map (·.val)=none:=hf;have:=(Array.findIdx?_eq_some_iff_getElem.mp hi).1;rw[Array.getElem?_eq_getElem this] at hf;cases hf
   | none =>
     refine HQ ?_;show wpAny _ _ (Builtin.Dict.pendingKey? a (.str k tk) >>= λr=>match r with|some _=>ret (Value.bool true)|none=>ret (Value.bool false)) _ _ _;unfold Builtin.Dict.pendingKey?;rw[hq] at h;dsimp only;rw[HI (by rw[hsm]; exact He)];exact HG (HQ (HQ #[_,rfl,IT (HQ h)]))
end
def mG (K:W.Frag) (d:Addr) (rows:List (Str×Int)):Prop :=
 ∃(o:Obj) (es:Array DictEntry) (ep:Nat),K.lookup d=some o/\(d==sysModules)=false/\o.ExactDict/\o.data=.dict es ep/\KTD.Rows (λ(i:Int) v=>∃t,v=.int i t) es.toList rows
def AI (K:W.Frag):R2:=λx y H Q=>∃d rows k i,x=.ref d/\y=.str k/\mG K d rows/\KTD.datumAt k rows=some i/\Q (.int i) H
theorem CD {X:Cx}:aJ X (AI X.K):=by
 intro value slice pins s σ H x y v u Q I rx ry h hs;obtain⟨d,rows,k,i,rfl,rfl,⟨o,es,ep,ho,lo,hc,hd,hr⟩,hk,q⟩:=h;cases (show v=Value.ref d from rx);obtain⟨t,rfl⟩:=(show ∃t,u=Value.str k t from ry)
 have T:KTD.TabOf (λ(i:Int) v=>∃t,v=.int i t) s.heap d rows:=#[lo,o,es,ep,I.kIn d o ho,hc,hd,hr]
 refine tail_any (mI T) slot_dict_getitem.lookup (uy T hk λv hv=>?_) hs;obtain⟨t',rfl⟩:=hv;exact#[.int i,H,I.tok _,#[_,rfl],q]
def Ad (K:W.Frag):R2:=λx y H Q=>∃d rows k,x=.str k/\y=.ref d/\mG K d rows/\Q (.bl (KTD.datumAt k rows).isSome) H
theorem Aa {X:Cx}:bW X (compareOp .In) (Ad X.K):=by
 intro pins s σ H x y v u Q I rx ry h;obtain⟨d,rows,k,rfl,rfl,⟨o,es,ep,ho,lo,hc,hd,hr⟩,q⟩:=h;cases (show u=Value.ref d from ry);obtain⟨t,rfl⟩:=(show ∃t,v=Value.str k t from rx)
 have T:KTD.TabOf (λ(i:Int) v=>∃t,v=.int i t) s.heap d rows:=#[lo,o,es,ep,I.kIn d o ho,hc,hd,hr]
 exact AB T #[.bl _,H,I.tok _,rfl,q]
end L2
namespace L2
open PySem PySem.Spec PyProof.Rows
def le (K:W.Frag) (i:Int) (v:Value):Bool:=match v with
 | .int j _=>decide (i=j)
 | _=>false
theorem DP {K:W.Frag} (i:Int) (v:Value) (h:le K i v=true):∃t,v=.int i t:=by
 unfold le at h;split at h
 . rename_i j t
   exact#[t,by rw[Iq h]]
 . cases h
theorem BQ {K:W.Frag} {d:Addr} {rows:List (Str×Int)} (h:KTD.tabLook (le K) (λa=>K.lookup a) d rows=true):mG K d rows:=by
 simp only[KTD.tabLook,Hr] at h;obtain⟨h0,hl⟩:=h;split at hl
 . rename_i o ho
   simp only[Hr] at hl;obtain⟨⟨⟨e1,e2⟩,e3⟩,e4⟩:=hl;split at e4
   . rename_i es ep hd
     exact#[o,es,ep,ho,by simpa using h0,#[beq_iff_eq.mp e1,by simpa using e2,by simpa using e3],hd,KTD.rows_of_look DP e4]
   . cases e4
 . cases hl
end L2
namespace St
open PySem L2 Gx Rk2 Bg Fl Wk
def hX (K:W.Frag) (H:Hp) (c:Str×Nat) (v:V):Prop:=∃p,v=.ref p/\aG K H p [.str c.1,.int c.2]
def cR (K:W.Frag) (H:Hp) (ch:List (Str×Nat)) (v:V):Prop:=∃p cs,v=.ref p/\aG K H p cs/\Ps (hX K H) cs ch
def fH (K:W.Frag) (H:Hp) (vw:List (Option Tr)) (v:V):Prop:=∃l us,v=.ref l/\aK K H l us/\Ps (aX H) us vw
structure Mrk where
 ch:List (Str×Nat)
 vs:List (List (Option Tr))
def fN (K:W.Frag) (H:Hp) (m:Mrk) (v:V):Prop:=∃p c w ws,v=.ref p/\aG K H p [c,.ref w]/\cR K H m.ch c/\aK K H w ws/\Ps (fH K H) ws m.vs
abbrev Lv:=Str->Option (Option Tr)
def iA (b:Nat) (H:Hp) (f:Lv) (d:Addr):Prop:=∃kvs,H d=some (.dK kvs)/\kvs.length<=b/\∀n o,f n=some o->∃v,bR kvs (Sum.inr n:aO)=some v/\aX H o v
def gw (b:Nat) (H:Hp) (f:Lv) (v:V):Prop:=∃d,v=.ref d/\iA b H f d
def dD (b:Nat) (H:Hp) (fs:List Lv) (v:V):Prop:=∃l ds,v=.ref l/\H l=some (.lst ds)/\Ps (gw b H) ds fs
variable {v:V}
section
variable {K:W.Frag} {H H':Hp}
theorem hX.mono {c:Str×Nat} (e:aC H H') (h:hX K H c v):hX K H' c v:=let ⟨p,h1,h2⟩:=h; #[p,h1,e.tup h2]
theorem cR.mono {ch:List (Str×Nat)} {v:V} (e:aC H H') (h:cR K H ch v):cR K H' ch v:=let ⟨p,cs,h1,h2,h3⟩:=h; #[p,cs,h1,e.tup h2,Ps.imp (λ_ _ z=>z.mono e) h3]
theorem fH.mono {vw:List (Option Tr)} {v:V} (e:aC H H') (h:fH K H vw v):fH K H' vw v:=let ⟨l,us,h1,h2,h3⟩:=h; #[l,us,h1,e.seq h2,Ps.imp (λ_ _ z=>aX.mono z e) h3]
theorem fN.mono {m:Mrk} {v:V} (e:aC H H') (h:fN K H m v):fN K H' m v:=let ⟨p,c,w,ws,h1,h2,h3,h4,h5⟩:=h; #[p,c,w,ws,h1,e.tup h2,h3.mono e,e.seq h4,Ps.imp (λ_ _ z=>z.mono e) h5]
theorem iA.mono {b:Nat} {f:Lv} {d:Addr} (e:aC H H') (h:iA b H f d):iA b H' f d:=let ⟨kvs,h1,h2,h3⟩:=h; #[kvs,e _ _ h1,h2,λn o z=>let ⟨v,a,b⟩:=h3 n o z; #[v,a,aX.mono b e]]
theorem gw.mono {b:Nat} {f:Lv} {v:V} (e:aC H H') (h:gw b H f v):gw b H' f v:=let ⟨d,h1,h2⟩:=h; #[d,h1,h2.mono e]
theorem dD.mono {b:Nat} {fs:List Lv} {v:V} (e:aC H H') (h:dD b H fs v):dD b H' fs v:=let ⟨l,ds,h1,h2,h3⟩:=h; #[l,ds,h1,e _ _ h2,Ps.imp (λ_ _ z=>z.mono e) h3]
theorem gw.up {b c:Nat} {f:Lv} (hb:b<=c) (h:gw b H f v):gw c H f v:=let ⟨d,h1,kvs,h2,h3,h4⟩:=h; #[d,h1,kvs,h2,Ht h3 hb,h4]
theorem Ps.split1 {α:Type} {R:α->V->Prop}:∀{ts:List α} {t:α} {us:List V},Ps R us (ts++[t])->∃ws u,us=ws++[u]/\Ps R ws ts/\R t u
 | [],t,us,h=>by
   match us,h with
   | [u],h=>exact#[[],u,rfl,trivial,h.1]
   | [],h=>exact h.elim
   | u :: u' :: us,h=>exact h.2.elim
 | a :: ts,t,us,h=>by
   match us,h with
   | u :: us,h =>
     obtain⟨ws,x,rfl,h1,h2⟩:=Ps.split1 h.2;exact#[u :: ws,x,rfl,#[h.1,h1],h2]
   | [],h=>exact h.elim
end
theorem gY (xs:List V) (v:V):bQ (xs++[v]) (-1)=some v:=by
 unfold bQ;have:ca (xs++[v]).length (-1)=some xs.length:=by unfold ca;rw[HI (by decide),HR (by rw[HU]; simp; omega)];congr 1;rw[HU];simp;omega
 rw[this];show(xs++[v])[xs.length]?=_;rw[IR (HN _),Nat.sub_self];rfl
theorem wB (xs:List V) (v:V):cV (xs++[v]) none (some (-1))=xs:=by unfold cV;show((xs++[v]).drop 0).take (HT.sIx (xs++[v]).length (xs++[v]).length (some (-1)) - 0)=_;rw[Jz,KJ];have e:HT.sIx (xs++[v]).length (xs++[v]).length (some (-1))=((-1:Int)+((xs++[v]).length:Int)).toNat:=rfl;rw[e,show((-1:Int)+((xs++[v]).length:Int)).toNat=xs.length by rw[HU]; simp; omega,List.take_left]
theorem FP {kvs:List (aO×V)} {k k':aO} :bR (az kvs k v) k'=if k'=k then some v else bR kvs k':=L2.valV_put kvs k k' v
variable {H:Hp}
theorem fh :∀{t:Tr} {v:V},RAt H t v->∃p,v=.ref p
 | .box _,_,h=>let ⟨p,e,_⟩:=h; #[p,e]
 | .num _,_,h=>let ⟨p,e,_⟩:=h; #[p,e]
 | .op _ _ _,_,h=>let ⟨p,_,_,e,_⟩:=h; #[p,e]
variable {t:Tr}
theorem uS (h:RAt H t .non):False:=by obtain⟨p,e⟩:=fh h; cases e
def cS (f:Lv):V->Option (Option Tr)
 | .str n=>f n
 | .int i=>some (some (.num i))
 | _=>none
def gm (f:Lv) (n:Str) (o:Option Tr):Lv:=λm=>if m=n then some o else f m
def fI (s:Str):Option Tr->Option Tr->Option Tr
 | some l,some r=>some (tog s l r)
 | _,_=>none
def df (f:Lv):RG->Option (Option Tr)
 | .copy _ a=>cS f a
 | .op _ s a b=>(cS f a).bind λl=>(cS f b).map λr=>fI s l r
 | _=>none
theorem g9 {H':Hp}{z:Addr} (e:aC H H') (h:H z=none):aC H (ers z H'):=λb o hb=>by rw[c9 (λy=>by rw[y,h] at hb; cases hb)]; exact e _ _ hb
theorem vH (ss:List Str):(K12.onceL ss).Nodup:=by
 have key:∀(ss acc:List Str),acc.Nodup->(ss.foldl K12.step acc).Nodup:=by
   intro ss
   induction ss with
   | nil=>intro acc h; exact h
   | cons s ss ih =>
     intro acc h;refine ih _ ?_;unfold K12.step;split
     . exact h
     . rename_i hs
       rw[List.nodup_append];refine#[h,by simp,λa ha b hb=>?_];have:b=s:=by simpa using hb
       subst this;exact λz=>hs (z ▸ ha)
 exact key ss [] List.nodup_nil
def kz (ns:List Str) (us:List V):List (aO×V):=(ns.map λn=>(Sum.inr n:aO)).zip us
theorem wJ:∀{ns:List Str} {us:List V} {acc:List (aO×V)},ns.Nodup->(∀n∈ns,bR acc (Sum.inr n:aO)=none)->(kz ns us).foldl (λacc kv=>az acc kv.1 kv.2) acc=acc++kz ns us
 | [],us,acc,_,_=>(II _).symm
 | n :: ns,[],acc,_,_=>(II _).symm
 | n :: ns,u :: us,acc,nd,h=>by
   show(kz ns us).foldl _ (az acc (Sum.inr n) u)=acc++(Sum.inr n,u) :: kz ns us;rw[nU u (h n HS)];rw[Ix] at nd;rw[wJ nd.2 λm hm=>?_,Hv]
   . rfl
   . rw[pc _ _ _ _ (h n HS),HI (λz=>nd.1 (by rw[<- Sum.inr.inj z]; exact hm))];exact h m (HZ _ hm)
def lk:List Str->List (Option Tr)->Lv
 | n :: ns,v :: vs,m=>if m=n then some v else lk ns vs m
 | _,_,_=>none
theorem uj {H:Hp}:∀{ns:List Str} {us:List V} {vw:List (Option Tr)},Ps (aX H) us vw->∀n o,lk ns vw n=some o->∃v,bR (kz ns us) (Sum.inr n:aO)=some v/\aX H o v
 | [],_,_,_,_,_,h=>by cases h
 | n :: ns,[],[],_,_,_,h=>by cases h
 | n :: ns,u :: us,v :: vw,hp,m,o,h=>by
   show ∃w,bR ((Sum.inr n,u) :: kz ns us) _=some w/\_;unfold lk at h;by_cases e:m=n
   . rw[HR e] at h;cases h;exact#[u,eZ (by rw[e]),hp.1]
   . rw[HI e] at h;rw[eo (λz=>e (Sum.inr.inj z).symm)];exact uj hp.2 m o h
structure Lev where
 F:F2.Fd
 r:Nat
 vw:List (Option Tr)
def Lev.fr (e:Lev):Str×Nat:=(e.F.name,e.r)
def Lev.lv (e:Lev):Lv:=lk (F2.nms e.F) e.vw
structure LevOk (fns:List F2.Fd) (e:Lev):Prop where
 m:e.F∈fns
 r:e.r<e.F.rs.length
 l:e.vw.length=(F2.nms e.F).length
 b:(F2.nms e.F).length<=1000
def dE (L:List Lev):Mrk:=#[L.map Lev.fr,L.map Lev.vw]
def jB (H0 H:Hp) (e:Lev) (v:V):Prop:=∃d us,v=.ref d/\H0 d=none/\H d=some (.dK (kz (F2.nms e.F) us))/\Ps (aX H) us e.vw
def oH (H0 H:Hp) (L:List Lev) (v:V):Prop:=∃l ds,v=.ref l/\H l=some (.lst ds)/\Ps (jB H0 H) ds L
def LeA (H:Hp) (e:Lev) (v:V):Prop:=∃d us,v=.ref d/\H d=some (.dK (kz (F2.nms e.F) us))/\Ps (aX H) us e.vw
def mh (H:Hp) (L:List Lev) (v:V):Prop:=∃l ds,v=.ref l/\H l=some (.lst ds)/\Ps (LeA H) ds L
theorem Ps.map {α β:Type} {R:α->V->Prop} {R':β->V->Prop} (g:α->β):∀{us:List V} {ts:List α},(∀t∈ts,∀v,R t v->R' (g t) v)->Ps R us ts->Ps R' us (ts.map g)
 | [],[],_,_=>trivial
 | u :: us,t :: ts,f,h=>#[f t HS u h.1,Ps.map g (λt ht=>f t (HZ _ ht)) h.2]
theorem oH.old {H0:Hp}{L:List Lev} (h:oH H0 H L v):mh H L v:=let ⟨l,ds,h1,h2,h3⟩:=h; #[l,ds,h1,h2,Ps.imp (λ_ _ z=>let ⟨d,us,z1,_,z3,z4⟩:=z; #[d,us,z1,z3,z4]) h3]
theorem jB.mono {H0 H H':Hp} {e:Lev} {v:V} (s:aC H H') (h:jB H0 H e v):jB H0 H' e v:=let ⟨d,us,h1,h0,h2,h3⟩:=h; #[d,us,h1,h0,s _ _ h2,Ps.imp (λ_ _ z=>aX.mono z s) h3]
theorem mh.lv {H:Hp} {fns:List F2.Fd} {L:List Lev} {v:V} (hk:∀e∈L,LevOk fns e) (h:mh H L v):dD 1000 H (L.map Lev.lv) v:=by obtain⟨l,ds,h1,h2,h3⟩:=h;refine#[l,ds,h1,h2,Ps.map Lev.lv (λe he v z=>?_) h3];obtain⟨d,us,z1,z2,z3⟩:=z;refine#[d,z1,_,z2,?_,uj z3];unfold kz;rw[J0,HH];have:=(hk e he).b;omega
def fX (K:W.Frag) (H:Hp) (b:Int×Tr) (v:V):Prop:=∃p x,v=.ref p/\aG K H p [.int b.1,x]/\RAt H b.2 x
theorem fX.mono {K:W.Frag} {H H':Hp} {b:Int×Tr} {v:V} (e:aC H H') (h:fX K H b v):fX K H' b v:=let ⟨p,x,h1,h2,h3⟩:=h; #[p,x,h1,e.tup h2,h3.mono e]
def gB (K:W.Frag) (H:Hp) (ps:List (Int×Tr)) (a:Addr) (v:V):Prop:=∃p l xs,v=.ref p/\aG K H p [.ref l,.ref a]/\aK K H l xs/\Ps (fX K H) xs ps
theorem gB.mono {K:W.Frag} {H H':Hp} {ps:List (Int×Tr)} {a:Addr} {v:V} (e:aC H H') (h:gB K H ps a v):gB K H' ps a v:=let ⟨p,l,xs,h1,h2,h3,h4⟩:=h; #[p,l,xs,h1,e.tup h2,e.seq h3,Ps.imp (λ_ _ z=>z.mono e) h4]
def cQ (ps:List (Int×Tr)):Int->Option Tr:=ps.foldl (λg b=>setG g b.1 b.2) (λ_=>none)
def jo (as:List V):Prop:=∃k r,as=.str k :: r/\(PyProof.Rows.KTD.datumAt k [("get",(3:Int)),("new",1),("wait",1)]=none\/(k="new"/\∃r',r=.non :: r'))
theorem vS {K:W.Frag} {H:Hp}:∀{xs:List V} {ps:List (Int×Tr)},Ps (fX K H) xs ps->∃(as:List Addr) (kvs:List (aO×V)),xs=as.map V.ref/\Paired (λa (kv:aO×V)=>aG K H a [kV kv.1,kv.2]) as kvs/\kvs.length=ps.length/\∀H' acc g,aC H H'->NV H' acc g->NV H' (kvs.foldl (λacc kv=>az acc kv.1 kv.2) acc) (ps.foldl (λg b=>setG g b.1 b.2) g)
 | [],[],_=>#[[],[],rfl,.nil,rfl,λ_ _ _ _ h=>h]
 | x :: xs,b :: ps,h=>by obtain⟨⟨p,y,rfl,h1,h2⟩,h3⟩:=h;obtain⟨as,kvs,rfl,z1,z2,z3⟩:=vS h3;exact#[p :: as,(Sum.inl b.1,y) :: kvs,rfl,.cons h1 z1,by rw[Hh,Hh,z2],λH' acc g e n=>z3 H' _ _ e (n.put (h2.mono e))]
structure Stp where
 fl:Addr
 sp:Addr
 mt:Addr
 a:Addr
 r:Addr
 d:Addr
 cv:V
 av:V
def stF (S:Stp):List (Str×V):=aZ "news" (.ref S.d) (aZ "row" (.ref S.r) (aZ "ahead" S.av (aZ "chain" S.cv (aZ "act" (.ref S.a) (aZ "marks" (.ref S.mt) (aZ "spots" (.ref S.sp) (aZ "flows" (.ref S.fl) [])))))))
def gV (K:W.Frag) (H:Hp) (kd:Str) (v:V):Prop:=∃p l a r,v=.ref p/\aG K H p [l,.ref a]/\aG K H a (.str kd :: r)
variable {K:W.Frag}
theorem gV.mono {H':Hp}{kd:Str} (e:aC H H') (h:gV K H kd v):gV K H' kd v:=let ⟨p,l,a,r,h1,h2,h3⟩:=h; #[p,l,a,r,h1,e.tup h2,e.tup h3]
structure TbA (K:W.Frag) (C:Addr) (H:Hp) (fl sp mk:Addr) (fns:List F2.Fd) (svs mvs:List V) (ks:List Str) (Ms:List (List Lev)):Prop where
 f:F2.FlowsAt K C H fl fns
 s:aK K H sp svs
 ss:Ps (gV K H) svs ks
 m:aK K H mk mvs
 ms:Ps (λL v=>fN K H (dE L) v) mvs Ms
 l:∀L∈Ms,L.length<=11/\∀e∈L,LevOk fns e
theorem TbA.mono {K:W.Frag} {C:Addr} {H H':Hp} {fl sp mk:Addr} {fns:List F2.Fd} {svs mvs:List V} {ks:List Str} {Ms:List (List Lev)} (e:aC H H') (h:TbA K C H fl sp mk fns svs mvs ks Ms):TbA K C H' fl sp mk fns svs mvs ks Ms :=
 #[h.f.mono e,e.seq h.s,Ps.imp (λ_ _ z=>z.mono e) h.ss,e.seq h.m,Ps.imp (λ_ _ z=>z.mono e) h.ms,h.l]
structure StpA (K:W.Frag) (CS CF:Addr) (H:Hp) (x:Addr) (S:Stp) (fns:List F2.Fd) (svs mvs:List V) (ks:List Str) (Ms:List (List Lev)) (L0:List Lev) (e:Lev) (ps:List (Int×Tr)) (as:List V):Prop where
 ob:∃dx,H x=some (.ins CS dx (stF S))
 tb:TbA K CF H S.fl S.sp S.mt fns svs mvs ks Ms
 ac:aG K H S.a as
 ch:cR K H ((L0++[e]).map Lev.fr) S.cv
 ah:dD 1000 H ((L0++[e]).map Lev.lv) S.av
 ok:∀e'∈L0++[e],LevOk fns e'
 ln:L0.length<=10
 row:∃w,e.F.rs[e.r]?=some w/\S.r=w.r
 nw:∃kvs,H S.d=some (.dK kvs)/\NV H kvs (cQ ps)
theorem StpA.mono {K:W.Frag} {CS CF:Addr} {H H':Hp} {x:Addr} {S:Stp} {fns:List F2.Fd} {svs mvs:List V} {ks:List Str} {Ms:List (List Lev)} {L0:List Lev} {e:Lev} {ps:List (Int×Tr)} {as:List V} (s:aC H H') (h:StpA K CS CF H x S fns svs mvs ks Ms L0 e ps as):StpA K CS CF H' x S fns svs mvs ks Ms L0 e ps as :=
 #[let ⟨dx,z⟩:=h.ob; #[dx,s _ _ z],h.tb.mono s,s.tup h.ac,h.ch.mono s,h.ah.mono s,h.ok,h.ln,h.row,let ⟨kvs,z1,z2⟩:=h.nw; #[kvs,s _ _ z1,z2.mono s]]
theorem fE {G:Hp}{x:Addr} {o:HO} (e:aC (ers x H) G):aC (ers x H) (upd G x o):=λb o' h=>by
 have hb:b≠x:=λz=>by rw[z] at h; unfold ers at h; rw[HR rfl] at h; cases h
 rw[ay hb];exact e _ _ h
section
variable {H:Hp} {x c dx:Addr} {fs:List (Str×V)}
theorem ia {a:Addr} {o:HO} (hx:H x=some (.ins c dx fs)) (h:H a=some o) (ho:∀c dx fs,o≠.ins c dx fs):ers x H a=some o:=by rw[c9 (λz=>by rw[z,hx] at h; cases h; exact ho _ _ _ rfl)];exact h
theorem l9 (hx:H x=some (.ins c dx fs)):∀{t:Tr} {v:V},RAt H t v->RAt (ers x H) t v
 | .box _,_,h=>let ⟨p,e,z⟩:=h; #[p,e,ia hx z (λ_ _ _ y=>by cases y)]
 | .num _,_,h=>let ⟨p,e,z⟩:=h; #[p,e,ia hx z (λ_ _ _ y=>by cases y)]
 | .op _ _ _,_,h=>let ⟨p,a,b,e,z,z1,z2,z3,z4⟩:=h; #[p,a,b,e,ia hx z (λ_ _ _ y=>by cases y),z1,z2,l9 hx z3,l9 hx z4]
theorem FW (hx:H x=some (.ins c dx fs)):∀{o:Option Tr} {v:V},aX H o v->aX (ers x H) o v
 | none,_,h=>h
 | some _,_,h=>l9 hx h
theorem AV {b:Nat} {gs:List Lv} (hx:H x=some (.ins c dx fs)) (h:dD b H gs v):dD b (ers x H) gs v :=
 let ⟨l,ds,h1,h2,h3⟩:=h
 #[l,ds,h1,ia hx h2 (λ_ _ _ y=>by cases y),Ps.imp (λ_ _ z=>let ⟨d,z1,kvs,z2,z3,z4⟩:=z; #[d,z1,kvs,ia hx z2 (λ_ _ _ y=>by cases y),z3,λn o y=>let ⟨v,y1,y2⟩:=z4 n o y; #[v,y1,FW hx y2]]) h3]
theorem BM {kvs:List (aO×V)} {g:Int->Option Tr} (hx:H x=some (.ins c dx fs)) (h:NV H kvs g):NV (ers x H) kvs g:=λk=>by
 have:=h k;cases e:g k with
 | none=>rw[e] at this; exact this
 | some t=>rw[e] at this; exact let ⟨u,y1,y2⟩:=this; #[u,y1,l9 hx y2]
theorem qK {o:HO}:aC (ers x H) (upd H x o):=fE dH
end
structure Ak where
 S:Stp
 fns:List F2.Fd
 svs:List V
 mvs:List V
 ks:List Str
 Ms:List (List Lev)
 L0:List Lev
 e:Lev
 ps:List (Int×Tr)
 as:List V
abbrev gi (K:W.Frag) (CS CF:Addr) (H:Hp) (x:Addr) (A:Ak):Prop:=StpA K CS CF H x A.S A.fns A.svs A.mvs A.ks A.Ms A.L0 A.e A.ps A.as
def eC (t:Tr):Option Tr->Bool
 | none=>false
 | some u=>PyData.eqv (bu t) (bu u)
def gb (g:Int->Option Tr) (b:Lv) (n:Str):Option Tr->Bool
 | none=>true
 | some t=>match b n with|some o=>eC (pt g t) o|none=>false
def eN (g:Int->Option Tr) (e:Lev) (b:Lv):Bool:=((F2.nms e.F).zip e.vw).all λnv=>gb g b nv.1 nv.2
def iO (g:Int->Option Tr) (L:List Lev) (ch:List (Str×Nat)) (fs:List Lv):Bool:=decide (L.map Lev.fr=ch)&&(L.zip fs).all λeb=>eN g eb.1 eb.2
def eK (A:Ak) (k:Nat) (ch:List (Str×Nat)) (fs:List Lv):Bool:=match A.ks[k]?,A.Ms[k]? with
 | some kd,some L=>!decide (kd="wait")&&iO (cQ A.ps) L ch fs
 | _,_=>false
def bp (t:Tr):Prop:=okl (lvs t)/\eM t/\dp t<10
structure AkOk (A:Ak):Prop where
 l:A.ks.length=A.Ms.length
 n:∀F∈A.fns,PyData.strOk F.name=true
 g:∀b∈A.ps,bp b.2
 v:∀L∈A.Ms,∀e∈L,∀t,some t∈e.vw->bp t
structure LvlOk (fns:List F2.Fd) (ch:List (Str×Nat)) (fs:List Lv):Prop where
 n:∀c∈ch,PyData.strOk c.1=true
 l:∀(i:Nat) (c:Str×Nat) (f:Lv),ch[i]?=some c->fs[i]?=some f->∀F∈fns,F.name=c.1->∀n∈F2.nms F,∃o,f n=some o/\∀t,o=some t->bp t
theorem dD.up {b c:Nat} {H:Hp} {fs:List Lv} {v:V} (hb:b<=c) (h:dD b H fs v):dD c H fs v:=let ⟨l,ds,h1,h2,h3⟩:=h; #[l,ds,h1,h2,Ps.imp (λ_ _ z=>z.up hb) h3]
def Ak.at (A:Ak) (n:Nat):List (Str×Nat):=A.L0.map Lev.fr++[(A.e.F.name,n)]
def Ak.fs (A:Ak):List Lv:=(A.L0++[A.e]).map Lev.lv
def Ak.give (A:Ak) (n:Str) (o:Option Tr):List Lv:=A.L0.map Lev.lv++[gm A.e.lv n o]
def RG.gives (x:Str):RG->Prop
 | .copy y _=>y=x
 | .op y _ _ _=>y=x
 | _=>False
def RG.turns:RG->Prop
 | .ifs _=>True
 | .whl _=>True
 | _=>False
def fD (c:Str×Nat):PyData:=.tuple [.str c.1,.int (c.2:Int)]
def cD (ch:List (Str×Nat)):PyData:=.tuple (ch.map fD)
theorem uB:∀a b:List (Str×Nat),PyData.eqvAll (a.map fD) (b.map fD)=decide (a=b)
 | [],[]=>by rw[JF]; unfold PyData.eqvAll; rw[HK rfl]
 | [],b :: bs=>by rw[JF,Ho]; unfold PyData.eqvAll; rw[Hd (by intro z; cases z)]
 | a :: as,[]=>by rw[JF,Ho]; unfold PyData.eqvAll; rw[Hd (by intro z; cases z)]
 | a :: as,b :: bs=>by rw[Ho,Ho];unfold PyData.eqvAll;rw[show PyData.eqv (fD a) (fD b)=(decide (a.1=b.1)&&decide ((a.2:Int)=b.2)) from pE _ _ _ _,uB as bs,IV];obtain⟨a1,a2⟩:=a;obtain⟨b1,b2⟩:=b;simp [and_assoc];intro _ _;exact#[λz=>by omega,λz=>by rw[z]]
theorem CG (a b:List (Str×Nat)):PyData.eqv (cD a) (cD b)=decide (a=b):=by unfold cD PyData.eqv;exact uB a b
theorem sh {K:W.Frag} {H:Hp}:∀{cs:List V} {ch:List (Str×Nat)},Ps (hX K H) cs ch->bT K H (ch.map fD) cs
 | [],[],_=>by rw[JF]; unfold bT; rfl
 | c :: cs,f :: ch,h=>by rw[Ho];unfold bT;obtain⟨⟨p,rfl,h1⟩,h2⟩:=h;exact#[_,_,rfl,zh h1,sh h2]
theorem cR.dat {ch:List (Str×Nat)} (h:cR K H ch v):bH K H (cD ch) v:=by obtain⟨p,cs,rfl,h1,h2⟩:=h;unfold cD bH;exact#[p,cs,rfl,h1,sh h2]
theorem oq {ch:List (Str×Nat)} (h:∀c∈ch,PyData.strOk c.1=true):bJ 2 (cD ch):=by
 unfold cD;refine bJ.tuple λd hd=>?_;obtain⟨f,hf,rfl⟩:=Hq.mp hd;unfold fD;refine bJ.tuple λd hd=>?_;rcases HV.mp hd with rfl|hd
 . exact bJ.str (h f hf)
 . cases HY.mp hd; exact bJ.int _
theorem vJ (t:Tr):PyData.eqv (bu t) .none=false:=by cases t <;> (unfold bu PyData.eqv; rfl)
def cL (H0 H H':Hp):Prop:=∀a o,H a=some o->H' a=some o\/∃kvs oo,o=.dK kvs/\H0 a=none/\H' a=some (.frz oo (.dK kvs))
section
variable {H0 H H1 H2:Hp}
theorem cL.of (s:aC H H1):cL H0 H H1:=λa o h=>.inl (s _ _ h)
theorem cL.trans (f:cL H0 H H1) (s:aC H1 H2):cL H0 H H2:=λa o h=>(f a o h).elim (λz=>.inl (s _ _ z)) λ⟨k,oo,e,n,z⟩=>.inr #[k,oo,e,n,s _ _ z]
theorem cL.frz {d:Addr} {kvs:List (aO×V)} {oo:Obj} (f:cL H0 H H1) (n:H0 d=none) (e:H1 d=some (.dK kvs)):cL H0 H (upd H1 d (.frz oo (.dK kvs))):=λa o h=>by
 by_cases z:a=d
 . subst z;rcases f a o h with g|⟨k,o2,g1,g2,g3⟩
   . rw[e] at g; cases g;exact .inr #[kvs,oo,rfl,n,aL]
   . rw[e] at g3; cases g3
 . rw[ay z];exact f a o h
theorem cL.same (s:aC H0 H) (f:cL H0 H H1):aC H0 H1:=λa o h=>(f a o (s _ _ h)).elim id λ⟨_,_,_,n,_⟩=>by rw[n] at h; cases h
theorem cL.lst {l:Addr} {xs:List V} (f:cL H0 H H1) (h:H l=some (.lst xs)):H1 l=some (.lst xs):=(f _ _ h).elim id λ⟨_,_,e,_,_⟩=>by cases e
theorem cL.tup {l:Addr} {xs:List V} (f:cL H0 H H1) (h:H l=some (.tup xs)):H1 l=some (.tup xs):=(f _ _ h).elim id λ⟨_,_,e,_,_⟩=>by cases e
theorem cL.dk {d:Addr} {kvs:List (aO×V)} (f:cL H0 H H1) (h:H d=some (.dK kvs)):H1 d=some (.dK kvs)\/∃o,H1 d=some (.frz o (.dK kvs)):=(f _ _ h).elim .inl λ⟨_,oo,e,_,z⟩=>.inr #[oo,by cases e; exact z]
theorem cL.rat (f:cL H0 H H1):∀{t:Tr} {v:V},RAt H t v->RAt H1 t v
 | .box _,_,h=>let ⟨p,e,z⟩:=h; #[p,e,f.tup z]
 | .num _,_,h=>let ⟨p,e,z⟩:=h; #[p,e,f.tup z]
 | .op _ _ _,_,h=>let ⟨p,a,b,e,z,z1,z2,z3,z4⟩:=h; #[p,a,b,e,f.tup z,z1,z2,f.rat z3,f.rat z4]
theorem cL.vat (f:cL H0 H H1):∀{o:Option Tr} {v:V},aX H o v->aX H1 o v
 | none,_,h=>h
 | some _,_,h=>f.rat h
end
abbrev nV (g:TG) (tb:TS) (D:cF) (σ:L2.St) (J:It) (H1:Hp):Prop:=∃W:Nat->Nat->L2.St->Hp->Prop,(∃m,W 0 m σ H1)/\∀i m σ H,W i m σ H->(J.stop i H/\D.nx σ H)\/(J.go i H/\∃N:L2.St->Hp->Prop,(∀σ' H',N σ' H'->∃m',m'<m/\W (i+1) m' σ' H')/\∀x H',J.yld i H x H'->g x σ H' λσ2 H2=>tb { D with nx:=N,ct:=N,bk:=D.nx } σ2 H2)
theorem Ef {H0 H1 G:Hp} {d:Addr} {kvs:List (aO×V)} {g:TG} {tb:TS} {D:cF} {σ:L2.St} (fz:cL H0 H1 G) (n:H0 d=none) (e:H1 d=some (.dK kvs)) (m:∀o G2,cL H0 H1 G2->G2 d=some (.frz o (.dK kvs))->nV g tb D σ (fg o d kvs) G2):∃d' kvs',V.ref d=.ref d'/\((G d'=some (.dK kvs')/\∀o,nV g tb D σ (fg o d' kvs') (upd G d' (.frz o (.dK kvs'))))\/∃o,G d'=some (.frz o (.dK kvs'))/\nV g tb D σ (fg o d' kvs') G) :=
 (fz.dk e).elim (λz=>#[d,kvs,rfl,.inl #[z,λo=>m o _ (fz.frz n z) aL]]) λ⟨o,z⟩=>#[d,kvs,rfl,.inr #[o,z,m o _ fz z]]
theorem vg {H:Hp}:∀{ns:List Str} {us:List V} {vw:List (Option Tr)} {j:Nat} {kv:aO×V},Ps (aX H) us vw->(kz ns us)[j]?=some kv->∃n o u,kv=(Sum.inr n,u)/\(ns.zip vw)[j]?=some (n,o)/\aX H o u
 | [],_,_,j,_,_,h=>by cases j <;> cases h
 | n :: ns,[],[],j,_,_,h=>by cases j <;> cases h
 | n :: ns,u :: us,v :: vw,0,kv,hp,h=>by cases h; exact#[n,v,u,rfl,rfl,hp.1]
 | n :: ns,u :: us,v :: vw,j+1,kv,hp,h=>vg (ns:=ns) (us:=us) (j:=j) hp.2 h
theorem DL {ns:List Str} {us:List V} {vw:List (Option Tr)} (hp:Ps (aX H) us vw):(kz ns us).length=(ns.zip vw).length:=by unfold kz;rw[J0,J0,HH,Ps.len hp]
theorem vd:∀{ps:List (Int×Tr)} {g:Int->Option Tr},(∀b∈ps,bp b.2)->(∀k t,g k=some t->bp t)->∀k t,ps.foldl (λg b=>setG g b.1 b.2) g k=some t->bp t
 | [],_,_,hg,k,t,h=>hg k t h
 | b :: ps,g,hp,hg,k,t,h=>vd (λc hc=>hp c (HZ _ hc)) (λj u e=>by
     have e:(if j=b.1 then some b.2 else g j)=some u:=e;split at e
     . cases e; exact hp b HS
     . exact hg j u e) k t h
theorem oy {ps:List (Int×Tr)} (h:∀b∈ps,bp b.2):∀k t,cQ ps k=some t->bp t:=vd h (λ_ _ e=>by cases e)
theorem bp.lay (h:bp t):bJ 10 (bu t):=(iJ h.2.1).mono (by have:=h.2.2; omega)
theorem px {g:Int->Option Tr} (hg:∀k u,g k=some u->bp u) (h:bp t):bJ 20 (bu (pt g t)):=(iJ (n9 (λk u e=>(hg k u e).2.1) h.2.1)).mono (by have:=qD (g:=g) (m:=9) (λk u e=>by have:=(hg k u e).2.2; omega) t; have:=h.2.2; omega)
theorem lY {Q:VK} {o:Option Tr} {x y:V} (ht:bJ 20 (bu t)) (ho:∀u,o=some u->bp u) (hx:RAt H t x) (hy:aX H o y) (q:Q (.bl (!eC t o)) H):j2 K x y H Q:=by
 cases o with
 | none =>
   cases hy;exact#[bu t,.none,dr hx,(by unfold bH; rfl),ht.shaped (by decide),(bJ.none (n:=1)).shaped (by decide),by rw[vJ]; exact q]
 | some u=>exact#[bu t,bu u,dr hx,dr hy,ht.shaped (by decide),(ho u rfl).lay.shaped (by decide),q]
theorem uD {Q:VK} {a b:List (Str×Nat)} {x y:V} (ha:∀c∈a,PyData.strOk c.1=true) (hb:∀c∈b,PyData.strOk c.1=true) (hx:cR K H a x) (hy:cR K H b y) (q:Q (.bl (!decide (a=b))) H):j2 K x y H Q :=
 #[cD a,cD b,hx.dat,hy.dat,(oq ha).shaped (by decide),(oq hb).shaped (by decide),by rw[CG]; exact q]
inductive Sb (H:Hp) (A:Ak) (rg:RG):Bool->Prop
 | no {k:Nat}:A.as=[.str "go",.int k]->k<A.Ms.length->RG.turns rg->Sb H A rg false
 | go {k to_:Nat} {n:Str} {o:Option Tr}:A.as=[.str "go",.int k]->k<A.Ms.length->RG.gives n rg->df A.e.lv rg=some o->fw A.e.F A.e.r 0 to_->LvlOk A.fns (A.at to_) (A.give n o)->Sb H A rg (eK A k (A.at to_) (A.give n o))
 | ot {n kd:Str} {rest:List V}:RG.gives n rg->A.as=.str kd :: rest->¬ kd="wait"->¬ kd="go"->PyData.strOk kd=true->Sb H A rg false
 | tu {a v:V} {o:Option Tr} {t:Tr} {k0 k1 n0 n1:Nat}:(rg=.ifs a\/rg=.whl a)->A.as=[.str "if",v,.int k0,.int k1]->RAt H t v->bp t->cS A.e.lv a=some o->(∀u,o=some u->bp u)->k0<A.Ms.length->k1<A.Ms.length->fw A.e.F A.e.r 0 n0->fw A.e.F A.e.r 1 n1->(∀n,LvlOk A.fns (A.at n) A.fs)->Sb H A rg (eC t o&&(eK A k0 (A.at n0) A.fs&&eK A k1 (A.at n1) A.fs))
theorem Sb.mono {H H':Hp} {A:Ak} {rg:RG} {b:Bool} (s:aC H H') (h:Sb H A rg b):Sb H' A rg b:=by
 cases h with
 | no a b c=>exact .no a b c
 | go a b c d e f=>exact .go a b c d e f
 | ot a b c d e=>exact .ot a b c d e
 | tu a b c d e f g h i j k=>exact .tu a b (c.mono s) d e f g h i j k
theorem BV (x:V) (r:List V):cV (x :: r) none (some ((1:Nat):Int))=[x]:=by unfold cV;rw[show HT.sIx (x :: r).length (x :: r).length (some ((1:Nat):Int))=min 1 (x :: r).length from HT.sIx_nat _ _ 1,HT.sIx_none,Jz,KJ,Jp (by simp)];rfl
theorem AN (x y:V) (r:List V):cV (x :: y :: r) none (some ((2:Nat):Int))=[x,y]:=by unfold cV;rw[show HT.sIx (x :: y :: r).length (x :: y :: r).length (some ((2:Nat):Int))=min 2 (x :: y :: r).length from HT.sIx_nat _ _ 2,HT.sIx_none,Jz,KJ,Jp (by simp)];rfl
theorem vx {p:Addr} {s:Str} (h:aG K H p [.str s]):bH K H (.tuple [.str s]) (.ref p):=by unfold bH;refine#[p,_,rfl,h,?_];unfold bT;refine#[_,_,rfl,by unfold bH; rfl,?_];unfold bT;rfl
theorem Fg (s s':Str):PyData.eqv (.tuple [.str s]) (.tuple [.str s'])=decide (s=s'):=by unfold PyData.eqv PyData.eqvAll;rw[show PyData.eqvAll [] []=true by unfold PyData.eqvAll; rfl,Bool.and_true];unfold PyData.eqv;rfl
theorem vz {p:Addr} {s:Str} {d:PyData} (h:aG K H p [.str s,v]) (hv:bH K H d v):bH K H (.tuple [.str s,d]) (.ref p):=by unfold bH;refine#[p,_,rfl,h,?_];unfold bT;refine#[_,_,rfl,by unfold bH; rfl,?_];unfold bT;refine#[_,_,rfl,hv,?_];unfold bT;rfl
theorem EB (s:Str) (d e:PyData):PyData.eqv (.tuple [.str s,d]) (.tuple [.str s,e])=PyData.eqv d e:=by rw[PyData.eqv,PyData.eqvAll,PyData.eqvAll,PyData.eqvAll,Bool.and_true,show PyData.eqv (.str s) (.str s)=true by unfold PyData.eqv; exact HK rfl,Ir]
def oD:Option Tr->PyData
 | none=>.none
 | some u=>bu u
theorem tM :∀{o:Option Tr} {v:V},aX H o v->bH K H (oD o) v
 | none,_,h=>by cases h; unfold oD bH; rfl
 | some _,_,h=>dr h
theorem pW:∀{o:Option Tr},(∀u,o=some u->bp u)->bJ 10 (oD o)
 | none,_=>bJ.none
 | some u,h=>(h u rfl).lay
theorem Fp (t:Tr):∀o:Option Tr,PyData.eqv (bu t) (oD o)=eC t o
 | none=>vJ t
 | some _=>rfl
theorem Fe {Q:VK} {p q:Addr} {o:Option Tr} {x y:V} {s:Str} (ht:bJ 20 (bu t)) (ho:∀u,o=some u->bp u) (hp:aG K H p [.str s,x]) (hq:aG K H q [.str s,y]) (hx:RAt H t x) (hy:aX H o y) (h:Q (.bl (!eC t o)) H) (hs:PyData.strOk s=true:=by decide +kernel):j2 K (.ref p) (.ref q) H Q:=by
 refine#[_,_,vz hp (dr hx),vz hq (tM hy),(bJ.tuple (n:=20) λd hd=>?_).shaped (by decide),(bJ.tuple (n:=20) λd hd=>?_).shaped (by decide),by rw[EB,Fp]; exact h]
 . rcases HV.mp hd with rfl|hd
   . exact bJ.str hs
   . cases HY.mp hd; exact ht
 . rcases HV.mp hd with rfl|hd
   . exact bJ.str hs
   . cases HY.mp hd; exact(pW ho).mono (by decide)
structure TbB (K:W.Frag) (H:Hp) (sp mk:Addr) (A:Ak):Prop where
 s:aK K H sp A.svs
 ss:Ps (gV K H) A.svs A.ks
 m:aK K H mk A.mvs
 ms:Ps (λL v=>fN K H (dE L) v) A.mvs A.Ms
 l:∀L∈A.Ms,L.length<=11/\∀e∈L,LevOk A.fns e
theorem TbB.mono {K:W.Frag} {H H':Hp} {sp mk:Addr} {A:Ak} (e:aC H H') (h:TbB K H sp mk A):TbB K H' sp mk A :=
 #[e.seq h.s,Ps.imp (λ_ _ z=>z.mono e) h.ss,e.seq h.m,Ps.imp (λ_ _ z=>z.mono e) h.ms,h.l]
def Ak.to (A:Ak) (S:Stp):Ak:={ A with S:=S }
theorem Sb.to {H:Hp} {A:Ak} {rg:RG} {b:Bool} (S:Stp) (h:Sb H A rg b):Sb H (A.to S) rg b:=by
 cases h with
 | no a b c=>exact .no a b c
 | go a b c d e f=>exact .go (A:=A.to S) a b c d e f
 | ot a b c d e=>exact .ot a b c d e
 | tu a b c d e f g h i j k=>exact .tu (A:=A.to S) a b c d e f g h i j k
theorem AkOk.to {A:Ak} (S:Stp) (h:AkOk A):AkOk (A.to S):=#[h.l,h.n,h.g,h.v]
end St
namespace St
open PySem L2 Gx Rk2 Bg Fl Wk K41
def dL (ws:List Str) (a:V):Prop:=(∃z,a=.int z/\0<=z/\z<K21.wide)\/∃n∈ws,a=.str n
def cc (o:Option Tr):Prop:=∀u,o=some u->bp u
def bo (vw:List (Option Tr)):Prop:=∀o∈vw,cc o
def gC (ws:List Str):RG->Prop
 | .copy x a=>x∈ws/\dL ws a
 | .op x s a b=>x∈ws/\Sg s/\PyData.strOk s=true/\dL ws a/\dL ws b
 | .ifs a=>dL ws a
 | .whl a=>dL ws a
 | _=>False
theorem bp.num {z:Int} (h0:0<=z) (h1:z<K21.wide):bp (.num z):=#[pX h0 h1,trivial,by show 0<10; decide]
variable {t:Tr}
theorem TOk.tr (h:TOk t):bp t:=#[h.1,h.2.1,by have:=h.2.2.1; omega]
theorem cc.no:cc none:=λu h=>by cases h
theorem cc.of (h:bp t):cc (some t):=λu e=>by cases e; exact h
variable {n:Str}
theorem lM {m:Str}(ns:List Str) (h:m≠n):(m :: ns).idxOf n=ns.idxOf n+1:=by rw[List.idxOf_cons,beq_eq_false_iff_ne.mpr h];rfl
theorem lW:∀{ns:List Str} {vw:List (Option Tr)} {x:Str},x∈ns->vw.length=ns.length->∃o,lk ns vw x=some o/\o∈vw
 | [],_,_,h,_=>by cases h
 | n :: ns,[],_,_,h=>by cases h
 | n :: ns,v :: vw,x,h,hl=>by
   unfold lk;by_cases e:x=n
   . exact#[v,HR e,HS]
   . obtain⟨o,h1,h2⟩:=lW (ns:=ns) (vw:=vw) ((HV.mp h).resolve_left e) (by simpa using hl);exact#[o,by rw[HI e]; exact h1,HZ _ h2]
theorem pU:∀{ns:List Str} {vw:List (Option Tr)} {x:Str} {i:Nat} {o:Option Tr},ns.idxOf x=i->x∈ns->vw[i]?=some o->lk ns vw x=some o
 | [],_,_,_,_,_,h,_=>by cases h
 | n :: ns,[],_,i,_,_,_,h=>by simp at h
 | n :: ns,v :: vw,x,i,o,hi,hx,h=>by
   unfold lk;by_cases e:x=n
   . subst e;rw[J6] at hi;subst hi;rw[HR rfl];exact h
   . rw[HI e];rw[lM _ (λz=>e z.symm)] at hi;subst hi;exact pU rfl ((HV.mp hx).resolve_left e) (by simpa using h)
theorem nI:∀{ns:List Str} {vw:List (Option Tr)} {x:Str} {o:Option Tr},x∈ns->vw.length=ns.length->lk ns (vw.set (ns.idxOf x) o)=gm (lk ns vw) x o
 | [],_,_,_,h,_=>by cases h
 | n :: ns,[],_,_,_,h=>by cases h
 | n :: ns,v :: vw,x,o,hx,hl=>by
   funext m;unfold gm;by_cases e:x=n
   . subst e;rw[J6];show lk (x :: ns) (o :: vw) m=_;unfold lk;by_cases em:m=x
     . rw[HR em,HR em]
     . rw[HI em,HI em,HI em]
   . rw[lM _ (λz=>e z.symm)];show lk (n :: ns) (v :: vw.set (ns.idxOf x) o) m=_;have ih:=congrFun (nI (ns:=ns) (vw:=vw) (o:=o) ((HV.mp hx).resolve_left e) (by simpa using hl)) m;unfold gm at ih;unfold lk;by_cases em:m=n
     . rw[HR em,HR em,HI (λz=>e (z.symm.trans em))]
     . rw[HI em,HI em,ih]
variable {ws:List Str} {vw:List (Option Tr)}
theorem GP {a:V} (h:dL ws a) (hl:vw.length=ws.length) (hv:bo vw):∃o,cS (lk ws vw) a=some o/\cc o:=by
 rcases h with⟨z,rfl,h0,h1⟩|⟨n,hn,rfl⟩
 . exact#[_,rfl,.of (.num h0 h1)]
 . obtain⟨o,h1,h2⟩:=lW hn hl;exact#[o,h1,hv o h2]
def dw (ws:List Str) (vw:List (Option Tr)) (rg:RG):List (Option Tr):=match rg with
 | .copy x _=>vw.set (ws.idxOf x) ((df (lk ws vw) rg).getD none)
 | .op x _ _ _=>vw.set (ws.idxOf x) ((df (lk ws vw) rg).getD none)
 | _=>vw
theorem oV (ws:List Str) (vw:List (Option Tr)) (rg:RG):(dw ws vw rg).length=vw.length:=by unfold dw;split <;> first|exact Ib|rfl
def fm (t:Tr):Prop:=okl (lvs t)/\eM t/\dp t<9
def fG (vw:List (Option Tr)):Prop:=∀t,some t∈vw->fm t
theorem fm.ok (h:fm t):bp t:=#[h.1,h.2.1,Nat.lt_trans h.2.2 (by decide)]
theorem TOk.tr9 (h:TOk t):fm t:=#[h.1,h.2.1,by have:=h.2.2.1; omega]
theorem fG.ok {vw:List (Option Tr)} (h:fG vw):bo vw:=λo ho u e=>(h u (e ▸ ho)).ok
theorem fm.num {z:Int} (h0:0<=z) (h1:z<K21.wide):fm (.num z):=#[pX h0 h1,trivial,by show 0<9; decide]
theorem i0 {a:V} (h:dL ws a) (hl:vw.length=ws.length) (hv:fG vw):∃o,cS (lk ws vw) a=some o/\∀u,o=some u->fm u:=by
 rcases h with⟨z,rfl,h0,h1⟩|⟨n,hn,rfl⟩
 . exact#[_,rfl,λu e=>by cases e; exact .num h0 h1]
 . obtain⟨o,h1,h2⟩:=lW hn hl;exact#[o,h1,λu e=>hv u (e ▸ h2)]
theorem Au {s:Str} (hs:PyData.strOk s=true) {a b:Option Tr} (ha:∀u,a=some u->fm u) (hb:∀u,b=some u->fm u):cc (fI s a b):=λu e=>by
 cases a with
 | none=>cases e
 | some l =>
   cases b with
   | none=>cases e
   | some r =>
     cases e;have h1:=ha l rfl;have h2:=hb r rfl;exact#[ux h1.1 h2.1,sC hs h1.2.1 h2.2.1,by have:=vf (s:=s) (a:=l) (b:=r) (n:=8) (by have:=h1.2.2; omega) (by have:=h2.2.2; omega); omega]
variable {rg:RG}
theorem uU (hg:RG.gives n rg) (ok:gC ws rg) (hl:vw.length=ws.length) (hv:fG vw):∃o,df (lk ws vw) rg=some o/\cc o:=by
 cases rg with
 | copy x a =>
   obtain⟨o,h1,h2⟩:=i0 ok.2 hl hv;exact#[o,h1,λu e=>(h2 u e).ok]
 | op x s a b =>
   obtain⟨l,h1,h2⟩:=i0 ok.2.2.2.1 hl hv;obtain⟨r,h3,h4⟩:=i0 ok.2.2.2.2 hl hv;refine#[fI s l r,?_,Au ok.2.2.1 h2 h4];show((cS (lk ws vw) a).bind λl=>(cS (lk ws vw) b).map λr=>fI s l r)=_;rw[h1,h3];rfl
 | _=>exact hg.elim
theorem jV (ok:gC ws rg):(∃n,RG.gives n rg/\n∈ws)\/(RG.turns rg/\∃a,(rg=.ifs a\/rg=.whl a)/\dL ws a):=by
 cases rg with
 | copy x a=>exact .inl #[x,rfl,ok.1]
 | op x s a b=>exact .inl #[x,rfl,ok.1]
 | ifs a=>exact .inr #[trivial,a,.inl rfl,ok]
 | whl a=>exact .inr #[trivial,a,.inr rfl,ok]
 | _=>exact ok.elim
theorem Fx {o:Option Tr} (hg:RG.gives n rg) (hn:n∈ws) (hl:vw.length=ws.length) (hm:df (lk ws vw) rg=some o):lk ws (dw ws vw rg)=gm (lk ws vw) n o:=by
 cases rg with
 | copy x a =>
   cases hg;show lk ws (vw.set (ws.idxOf n) ((df (lk ws vw) (.copy n a)).getD none))=_;rw[hm];exact nI hn hl
 | op x s a b =>
   cases hg;show lk ws (vw.set (ws.idxOf n) ((df (lk ws vw) (.op n s a b)).getD none))=_;rw[hm];exact nI hn hl
 | _=>exact hg.elim
theorem vX {α:Type} {l:List α} {i:Nat} {a b:α} (h:b∈l.set i a):b=a\/b∈l:=by
 rcases List.mem_or_eq_of_mem_set h with h|h
 . exact .inr h
 . exact .inl h
theorem w6 (ok:gC ws rg) (hl:vw.length=ws.length) (hv:fG vw):bo (dw ws vw rg):=by
 rcases jV ok with⟨n,hg,hn⟩|⟨ht,_⟩
 . obtain⟨o,h1,h2⟩:=uU hg ok hl hv;have:dw ws vw rg=vw.set (ws.idxOf n) o:=by
     cases rg with
     | copy x a=>cases hg; show vw.set _ ((df (lk ws vw) (.copy n a)).getD none)=_; rw[h1]; rfl
     | op x s a b=>cases hg; show vw.set _ ((df (lk ws vw) (.op n s a b)).getD none)=_; rw[h1]; rfl
     | _=>exact hg.elim
   rw[this];intro p hp;rcases vX hp with rfl|hp
   . exact h2
   . exact hv.ok p hp
 . have:dw ws vw rg=vw:=by cases rg <;> first|rfl|exact ht.elim
   rw[this];exact hv.ok
def iu (g:Int->Option Tr) (p o:Option Tr):Bool:=match p with
 | none=>true
 | some t=>eC (pt g t) o
def gS (g:Int->Option Tr) (vw kn:List (Option Tr)):Bool:=(vw.zip kn).all λpo=>iu g po.1 po.2
def ge (g:Int->Option Tr) (vs Kn:List (List (Option Tr))):Bool:=(vs.zip Kn).all λp=>gS g p.1 p.2
def fA (g:Int->Option Tr) (kd:Str) (L:List Lev) (ch:List (Str×Nat)) (Kn:List (List (Option Tr))):Bool:=!decide (kd="wait")&&(decide (L.map Lev.fr=ch)&&ge g (L.map Lev.vw) Kn)
structure HldOk (L:List Lev) (ch:List (Str×Nat)) (Kn:List (List (Option Tr))):Prop where
 n:∀e∈L,PyData.strOk e.F.name=true
 v:∀e∈L,bo e.vw
 c:∀c∈ch,PyData.strOk c.1=true
 k:∀kn∈Kn,bo kn
theorem mm:∀{fns:List F2.Fd} {F G:F2.Fd},(fns.map (·.name)).Nodup->F∈fns->G∈fns->F.name=G.name->F=G
 | [],_,_,_,h,_,_=>by cases h
 | f :: fns,F,G,nd,h1,h2,e=>by
   rw[Ho,Ix] at nd;rcases HV.mp h1 with z1|g1
   . rcases HV.mp h2 with z2|g2
     . rw[z1,z2]
     . exact absurd (Hq.mpr #[G,g2,by rw[<- e,z1]]) nd.1
   . rcases HV.mp h2 with z2|g2
     . exact absurd (Hq.mpr #[F,g1,by rw[e,z2]]) nd.1
     . exact mm nd.2 g1 g2 e
theorem rC (g:Int->Option Tr):∀{ns:List Str} {vw kn:List (Option Tr)} {b:Lv},(∀(i:Nat) n,ns[i]?=some n->∀o,kn[i]?=some o->b n=some o)->vw.length=ns.length->kn.length=ns.length->((ns.zip vw).all λnv=>gb g b nv.1 nv.2)=gS g vw kn
 | [],[],[],_,_,_,_=>rfl
 | n :: ns,v :: vw,k :: kn,b,h,h1,h2=>by
   have ih:=rC g (ns:=ns) (vw:=vw) (kn:=kn) (b:=b) (λi m hm o ho=>h (i+1) m (by simpa using hm) o (by simpa using ho)) (by simpa using h1) (by simpa using h2);show(gb g b n v&&(ns.zip vw).all λnv=>gb g b nv.1 nv.2)=(iu g v k&&gS g vw kn);rw[ih];congr 1;cases v with
   | none=>rfl
   | some t =>
     show(match b n with|some o=>eC (pt g t) o|none=>false)=_;rw[h 0 n rfl k rfl];rfl
 | [],_ :: _,_,_,_,h,_=>by cases h
 | [],[],_ :: _,_,_,_,h=>by cases h
 | _ :: _,[],_,_,_,h,_=>by cases h
 | _ :: _,_ :: _,[],_,_,_,h=>by cases h
theorem wM:∀{ns:List Str} {i:Nat} {n:Str},ns.Nodup->ns[i]?=some n->ns.idxOf n=i
 | [],i,_,_,h=>by simp at h
 | m :: ns,0,n,_,h=>by
   have:m=n:=by simpa using h
   subst this;exact J6
 | m :: ns,i+1,n,nd,h=>by
   rw[Ix] at nd;have h:ns[i]?=some n:=by simpa using h
   have:m≠n:=λz=>nd.1 (z ▸ HP h);rw[lM _ this,wM nd.2 h]
theorem EN (g:Int->Option Tr) {e:Lev} {kn:List (Option Tr)} (h1:e.vw.length=(F2.nms e.F).length) (h2:kn.length=(F2.nms e.F).length):eN g e (lk (F2.nms e.F) kn)=gS g e.vw kn :=
 rC g (λi n hn o ho=>pU (wM (vH _) hn) (HP hn) ho) h1 h2
def fV (Fs:List F2.Fd) (Kn:List (List (Option Tr))):List Lv:=(Fs.zip Kn).map λp=>lk (F2.nms p.1) p.2
structure FK (fns Fs:List F2.Fd) (Kn:List (List (Option Tr))):Prop where
 m:∀F∈Fs,F∈fns
 l:Kn.length=Fs.length
 k:∀p∈Fs.zip Kn,p.2.length=(F2.nms p.1).length
theorem sX (g:Int->Option Tr) {fns:List F2.Fd} (nd:(fns.map (·.name)).Nodup):∀{L:List Lev} {Fs:List F2.Fd} {Kn:List (List (Option Tr))},(∀e∈L,LevOk fns e)->FK fns Fs Kn->L.map (λe=>e.F.name)=Fs.map (·.name)->((L.zip (fV Fs Kn)).all λeb=>eN g eb.1 eb.2)=ge g (L.map Lev.vw) Kn
 | [],[],[],_,_,_=>rfl
 | [],[],_ :: _,_,h,_=>by have:=h.l; cases this
 | [],_ :: _,_,_,_,h=>by cases h
 | _ :: _,[],_,_,_,h=>by cases h
 | _ :: _,_ :: _,[],_,h,_=>by have:=h.l; cases this
 | e :: L,F :: Fs,kn :: Kn,hL,hF,hn=>by rw[Ho,Ho] at hn;have hn1:e.F.name=F.name:=(List.cons.inj hn).1;have eF:e.F=F:=mm nd (hL e HS).m (hF.m F HS) hn1;have ih:=sX g nd (L:=L) (Fs:=Fs) (Kn:=Kn) (λe he=>hL e (HZ _ he)) #[λF h=>hF.m F (HZ _ h),by simpa using hF.l,λp hp=>hF.k p (HZ _ hp)] (List.cons.inj hn).2;show(eN g e (lk (F2.nms F) kn)&&(L.zip (fV Fs Kn)).all λeb=>eN g eb.1 eb.2)=(gS g e.vw kn&&ge g (L.map Lev.vw) Kn);rw[ih,<- eF,EN g (hL e HS).l (by have:=hF.k (F,kn) HS; rw[eF]; exact this)]
theorem pA {A:Ak} {k:Nat} {kd:Str} {L:List Lev} {ch:List (Str×Nat)} {Fs:List F2.Fd} {Kn:List (List (Option Tr))} (nd:(A.fns.map (·.name)).Nodup) (h1:A.ks[k]?=some kd) (h2:A.Ms[k]?=some L) (hL:∀e∈L,LevOk A.fns e) (hF:FK A.fns Fs Kn) (hn:ch.map (·.1)=Fs.map (·.name)):eK A k ch (fV Fs Kn)=fA (cQ A.ps) kd L ch Kn:=by
 unfold eK fA;rw[h1,h2];show(!decide (kd="wait")&&iO (cQ A.ps) L ch (fV Fs Kn))=_;congr 1;unfold iO;by_cases e:L.map Lev.fr=ch
 . rw[HK e,Ir,Ir];refine sX _ nd hL hF ?_;rw[<- hn,<- e,IS];rfl
 . rw[Hd e];rfl
theorem sP {fns:List F2.Fd} (nd:(fns.map (·.name)).Nodup) (sn:∀F∈fns,PyData.strOk F.name=true) {ch:List (Str×Nat)} {Fs:List F2.Fd} {Kn:List (List (Option Tr))} (hF:FK fns Fs Kn) (hv:∀kn∈Kn,bo kn) (hn:ch.map (·.1)=Fs.map (·.name)):LvlOk fns ch (fV Fs Kn):=by
 refine#[λc hc=>?_,λi c f hc hf F hFm e n hn'=>?_]
 . have:c.1∈Fs.map (·.name):=by rw[<- hn]; exact List.mem_map_of_mem hc
   obtain⟨F,hm,he⟩:=Hq.mp this;rw[<- he];exact sn F (hF.m F hm)
 . unfold fV at hf;rw[HW,Ic] at hf;obtain⟨p,hp,rfl⟩:=hf;have hz:=IP.mp hp;have:p.1.name=c.1:=by
     have h1:(Fs.map (·.name))[i]?=some p.1.name:=by rw[HW,hz.1]; rfl
     rw[<- hn,HW,hc] at h1;exact(Option.some.inj h1).symm
   have eF:F=p.1:=mm nd hFm (hF.m _ (HP hz.1)) (e.trans this.symm);subst eF;obtain⟨o,h1,h2⟩:=lW hn' (hF.k p (HP hp));exact#[o,h1,hv _ (HP hz.2) o h2]
theorem uK (h:0<ws.length) (z:Int):∃n,(0:Int)<((ws.map V.str).length:Nat)/\bQ (ws.map V.str) (z%((ws.map V.str).length:Nat))=some (.str n)/\n∈ws:=by
 have hl:(0:Int)<((ws.map V.str).length:Nat):=by rw[HH]; omega
 have b0:=Iy z (Int.ne_of_gt hl);have b1:=Ii z hl;have hj:(z%((ws.map V.str).length:Nat)).toNat<ws.length:=by rw[HH] at b1 ⊢; rw[HH] at b0; omega
 exact#[ws[(z%((ws.map V.str).length:Nat)).toNat],hl,si b0 (HX hj),IW hj]
theorem sN:∀{ws:List Str} {m:Nat} {n:Str},ws[m]?=some n->ws.idxOf n<=m
 | [],m,_,h=>by simp at h
 | w :: ws,0,n,h=>by
   have:w=n:=by simpa using h
   subst this;rw[J6];exact Hl _
 | w :: ws,m+1,n,h=>by
   by_cases e:w=n
   . subst e;rw[J6];exact Hl _
   . rw[lM _ e];have:=sN (ws:=ws) (m:=m) (n:=n) (by simpa using h);omega
theorem nW (hn:n∈ws) (hl:ws.length<=100):eJ (.str n)=true/\(ws.map V.str).all eJ=true/\ws.idxOf n<1000/\(∃z,(ws.map V.str)[ws.idxOf n]?=some z/\eO z (.str n)=true)/\∀m z,m<ws.idxOf n->(ws.map V.str)[m]?=some z->eO z (.str n)=false:=by
 have hi:ws.idxOf n<ws.length:=JG hn;refine#[rfl,?_,by omega,#[.str n,?_,HK rfl],λm z hm hz=>?_]
 . rw[Ig];intro v hv;obtain⟨s,_,rfl⟩:=Hq.mp hv;rfl
 . rw[HW,HX hi,List.getElem_idxOf];rfl
 . rw[HW,Ic] at hz;obtain⟨s,hs,rfl⟩:=hz;refine Hd λe=>?_;have e:s=n:=e;subst e;have:=sN hs;omega
variable {us:List V} {H:Hp}
theorem As {ko:List (Option Tr)} (h:0<us.length) (hp:Ps (aX H) us ko) (z:Int):∃u o,(0:Int)<(us.length:Nat)/\bQ us (z%(us.length:Nat))=some u/\o∈ko/\aX H o u:=by
 have hl:(0:Int)<(us.length:Nat):=by omega
 have b0:=Iy z (Int.ne_of_gt hl);have b1:=Ii z hl;obtain⟨u,o,a1,a2,a3⟩:=Ps.at hp (n:=(z%(us.length:Nat)).toNat) (by have:=Ps.len hp; omega);refine#[u,o,hl,?_,HP a2,a3];have:z%(us.length:Nat)=(((z%(us.length:Nat)).toNat:Nat):Int):=by omega
 rw[this];exact bt a1
theorem p9 {K:W.Frag} {H:Hp}:∀{us:List V} {ko:List (Option Tr)},Ps (aX H) us ko->bT K H (ko.map oD) us
 | [],[],_=>by rw[JF]; unfold bT; rfl
 | u :: us,o :: ko,h=>by rw[Ho];unfold bT;exact#[_,_,rfl,tM h.1,p9 h.2]
theorem E6 {ko:List (Option Tr)} (h:bo ko):bJ 11 (.list (ko.map oD)):=bJ.list λd hd=>by obtain⟨o,ho,rfl⟩:=Hq.mp hd;exact pW (h o ho)
variable {K:W.Frag} {Q:VK}
theorem Ar {l q:Addr} {ko:List (Option Tr)} (h1:aK K H l us) (h2:Ps (aX H) us ko) (h3:bo ko) (hq:aK K H q []) (h:Q (.bl (!decide (us=[]))) H):j2 K (.ref l) (.ref q) H Q:=by
 refine#[_,.list [],(by unfold bH; exact#[l,us,rfl,h1,p9 h2]),(by unfold bH; exact#[q,[],rfl,hq,by unfold bT; rfl]),(E6 h3).shaped (by decide),bJ.shaped (n:=1) (bJ.list λd hd=>by cases hd) (by decide),?_];have e:PyData.eqv (.list (ko.map oD)) (.list [])=decide (us=[]):=by
   cases us with
   | nil=>cases ko with
     | nil=>unfold PyData.eqv PyData.eqvAll; rfl
     | cons=>exact h2.elim
   | cons u us=>cases ko with
     | nil=>exact h2.elim
     | cons o ko=>rw[Ho]; unfold PyData.eqv PyData.eqvAll; rfl
 rw[e];exact h
variable {x:V}
theorem An {q:Addr} {k:Int} (ht:bp t) (hx:RAt H t x) (hq:H q=some (.tup [.str "box",.int k])) (h:Q (.bl (!decide (t=.box k))) H):j2 K x (.ref q) H Q :=
 #[bu t,bu (.box k),dr hx,dr (t:=.box k) #[q,rfl,hq],ht.lay.shaped (by decide),(iJ (t:=.box k) trivial).shaped (show 0+1<=64 by decide),by rw[t6]; exact h]
theorem DJ {q:Addr} {k:Int} (ht:bp t) (hx:RAt H t x) (hq:H q=some (.tup [.str "box",.int k])) (h:Q (.bl (decide (t=.box k))) H):jR K x (.ref q) H Q :=
 #[bu t,bu (.box k),dr hx,dr (t:=.box k) #[q,rfl,hq],ht.lay.shaped (by decide),(iJ (t:=.box k) trivial).shaped (show 0+1<=64 by decide),by rw[t6]; exact h]
theorem BR {u:Tr}{y:V}(ht:bp t) (hu:bp u) (hx:RAt H t x) (hy:RAt H u y) (h:Q (.bl (PyData.eqv (bu t) (bu u))) H):jR K x y H Q :=
 #[bu t,bu u,dr hx,dr hy,ht.lay.shaped (by decide),hu.lay.shaped (by decide),h]
def dB (H:Hp) (vw:List (Option Tr)) (v:V):Prop:=∃l us,v=.ref l/\H l=some (.lst us)/\Ps (aX H) us vw
theorem dB.mono {H H':Hp} {vw:List (Option Tr)} {v:V} (e:aC H H') (h:dB H vw v):dB H' vw v:=let ⟨l,us,h1,h2,h3⟩:=h; #[l,us,h1,e _ _ h2,Ps.imp (λ_ _ z=>aX.mono z e) h3]
def ik (H0 H:Hp) (vw:List (Option Tr)) (v:V):Prop:=∃l us,v=.ref l/\H0 l=none/\H l=some (.lst us)/\Ps (aX H) us vw
theorem ik.mono {H0 H H':Hp} {vw:List (Option Tr)} {v:V} (e:aC H H') (h:ik H0 H vw v):ik H0 H' vw v:=let ⟨l,us,h1,h0,h2,h3⟩:=h; #[l,us,h1,h0,e _ _ h2,Ps.imp (λ_ _ z=>aX.mono z e) h3]
variable {v:V}
theorem dB.a (h:dB H vw v):fH K H vw v:=let ⟨l,us,h1,h2,h3⟩:=h; #[l,us,h1,aK.of h2,h3]
theorem bo.app {a b:List (Option Tr)} (h:bo a) (h':bo b):bo (a++b):=λo ho=>(Hg.mp ho).elim (h o) (h' o)
theorem Eb {α:Type} (xs:List α) (v:α):ca (xs++[v]).length (-1)=some xs.length:=by unfold ca;rw[HI (by decide),HR (by rw[HU]; simp; omega)];congr 1;rw[HU];simp;omega
theorem DU {α:Type} (xs:List α) (v w:α):(xs++[v]).set xs.length w=xs++[w]:=by rw[List.set_append_right _ _ (HN _),Nat.sub_self];rfl
theorem nR {α:Type} {P:Nat->α->V->Prop}:∀{vs:List V},(∀(i:Nat) v,vs[i]?=some v->∃x,P i x v)->∃xs:List α,xs.length=vs.length/\(∀(i:Nat) x,xs[i]?=some x->∃v,vs[i]?=some v/\P i x v)/\Ps (λx v=>∃i,P i x v) vs xs
 | [],_=>#[[],rfl,λi x h=>by simp at h,trivial]
 | v :: vs,h=>by
   obtain⟨x,hx⟩:=h 0 v rfl;obtain⟨xs,h1,h2,h3⟩:=nR (P:=λi=>P (i+1)) (vs:=vs) λi w hw=>h (i+1) w (by simpa using hw);refine#[x :: xs,by rw[Hh,Hh,h1],λi y hy=>?_,#[0,hx],Ps.imp (λ_ _ ⟨i,z⟩=>#[i+1,z]) h3];rcases i with _|i
   . have:x=y:=by simpa using hy
     subst this;exact#[v,rfl,hx]
   . obtain⟨w,a,b⟩:=h2 i y (by simpa using hy);exact#[w,by simpa using a,b]
theorem BD {α β:Type} {xs:List (List α)} {ys:List (List β)} (h:xs.length=ys.length) (f:∀(i:Nat) x,xs[i]?=some x->∃y,ys[i]?=some y/\x.length=y.length):xs.map List.length=ys.map List.length:=by
 refine List.ext_getElem? λi=>?_;rw[HW,HW];cases e:xs[i]? with
 | none =>
   have:ys[i]?=none:=by rw[JK] at e ⊢;omega
   rw[this];rfl
 | some x =>
   obtain⟨y,h1,h2⟩:=f i x e;rw[h1];exact Hb some h2
theorem lP {H:Hp} {l:Addr} {xs:List V} (hl:H l=some (.lst xs)):∀{t:Tr} {v:V},RAt H t v->RAt (ers l H) t v
 | .box _,_,h=>let ⟨p,e,z⟩:=h; #[p,e,by rw[c9 (λy=>by rw[y,hl] at z; cases z)]; exact z]
 | .num _,_,h=>let ⟨p,e,z⟩:=h; #[p,e,by rw[c9 (λy=>by rw[y,hl] at z; cases z)]; exact z]
 | .op _ _ _,_,h=>let ⟨p,a,b,e,z,z1,z2,z3,z4⟩:=h; #[p,a,b,e,(by rw[c9 (λy=>by rw[y,hl] at z; cases z)]; exact z),z1,z2,lP hl z3,lP hl z4]
theorem m8 {l:Addr} {xs:List V} (hl:H l=some (.lst xs)):∀{o:Option Tr} {v:V},aX H o v->aX (ers l H) o v
 | none,_,h=>h
 | some _,_,h=>lP hl h
theorem dB.erl {p l:Addr} {acc:List V}(hp:H p=some (.lst acc)) (hl:H l=some (.lst us)) (n:l≠p) (h:Ps (aX H) us vw):dB (ers p H) vw (.ref l):=#[l,us,rfl,by rw[c9 n]; exact hl,Ps.imp (λ_ _ z=>m8 hp z) h]
theorem uk {bs:List Int} (h:gM bs) (z:Int):∃b,bQ (bs.map V.int) (z%8)=some (.int b)/\0<=b/\b<128:=by obtain⟨b,e1,e2,e3⟩:=qW h z;rw[HH,h.1] at e2;exact#[b,e2,e3]
theorem Bc {acc:List Str} {s:Str} (h:s∈acc):K12.step acc s=acc:=HR h
theorem uR:∀{ss acc:List Str},(∀s∈ss,s∈acc)->ss.foldl K12.step acc=acc
 | [],_,_=>rfl
 | s :: ss,acc,h=>by show ss.foldl K12.step (K12.step acc s)=acc;rw[Bc (h s HS)];exact uR λt ht=>h t (HZ _ ht)
theorem vW:∀{ss acc:List Str},(acc++ss).Nodup->ss.foldl K12.step acc=acc++ss
 | [],acc,_=>(II acc).symm
 | s :: ss,acc,h=>by
   have hs:s ∉ acc:=λz=>by rw[List.nodup_append] at h;exact h.2.2 s z s HS rfl
   show ss.foldl K12.step (K12.step acc s)=_;rw[show K12.step acc s=acc++[s] from HI hs,vW (by rw[Hv]; exact h),Hv];rfl
theorem u6 {ps:List Str} {ds:List K12.RowD} (nd:ps.Nodup) (h:∀d∈ds,∀s∈K12.rowStrs d,s∈ps):K12.onceL (K12.allOf ps ds)=ps:=by unfold K12.onceL K12.allOf;rw[ID,vW (acc:=[]) (by simpa using nd),Jj];refine uR λs hs=>?_;obtain⟨d,hd,hs⟩:=List.mem_flatMap.mp hs;exact h d hd s hs
def dv (K:W.Frag) (H:Hp) (ws:List Str) (x:RR):Prop:=m6 K H x/\∀s∈K12.rowStrs x.d,s∈ws
theorem dv.mono {K:W.Frag} {H H':Hp} {ws:List Str} {x:RR} (e:aC H H') (h:dv K H ws x):dv K H' ws x:=#[h.1.mono e,h.2]
def dN (ws:List Str) (v:V):Prop:=(∃i,v=.int i)\/∃n∈ws,v=.str n
theorem dL.i {a:V} (h:dL ws a):dN ws a:=h.elim (λ⟨z,e,_⟩=>.inl #[z,e]) .inr
theorem dN.atom (hw:∀w∈ws,K12.Nm w) (h:dN ws v):K12.Atom v:=h.elim .inr λ⟨n,hn,e⟩=>.inl #[n,e,hw n hn]
theorem dN.has {n:Nat} (hw:∀w∈ws,K12.Nm w) (h:dN ws v):bN K H n v:=by
 rcases h with⟨i,rfl⟩|⟨s,hs,rfl⟩
 . exact .int
 . exact .str (hw s hs).2
theorem lS {as:List V} (h:∀v∈as,dN ws v):∀s∈K12.strsOf as,s∈ws:=λs hs=>by
 unfold K12.strsOf at hs;obtain⟨v,hv,e⟩:=J'.mp hs;rcases h v hv with⟨i,rfl⟩|⟨n,hn,rfl⟩
 . simp at e
 . have:n=s:=by simpa using e
   rw[<- this]; exact hn
variable {r:Addr}
section
variable {K:W.Frag} {H:Hp} {ws:List Str}
theorem dS {a:V} (hw:∀w∈ws,K12.Nm w) (rg:RG) (hg:rg=.out a\/rg=.back a\/rg=.ifs a\/rg=.whl a) (h:aG K H r rg.items) (ha:dN ws a):dv K H ws (rg.rr r):=by
 have e1:rg.as=[a]/\rg.gx=none/\rg.items=[.str rg.kind,a]/\PyData.strOk rg.kind=true:=by
   rcases hg with rfl|rfl|rfl|rfl
   . exact#[rfl,rfl,rfl,show PyData.strOk "out"=true by decide +kernel]
   . exact#[rfl,rfl,rfl,show PyData.strOk "back"=true by decide +kernel]
   . exact#[rfl,rfl,rfl,show PyData.strOk "if"=true by decide +kernel]
   . exact#[rfl,rfl,rfl,show PyData.strOk "while"=true by decide +kernel]
 have ok:rg.Ok:=by
   refine#[λv hv=>?_,?_,#[?_,?_],?_]
   . unfold RG.parts at hv;rw[e1.1,e1.2.1] at hv;have:v=a:=by simpa using hv
     rw[this]; exact ha.atom hw
   all_goals (intros; rcases hg with rfl|rfl|rfl|rfl <;> simp_all)
 refine#[#[kP #[h,?_] ok,bN.tup h ?_],λs hs=>?_]
 . intros; rcases hg with rfl|rfl|rfl|rfl <;> simp_all
 . rw[e1.2.2.1];exact .cons (.str e1.2.2.2) (.cons (ha.has hw) .nil)
 . have hs:s∈rg.gx.toList++K12.strsOf rg.as:=hs;rw[e1.1,e1.2.1] at hs;exact lS (λv hv=>by cases HY.mp hv; exact ha) s (by simpa using hs)
theorem iI {x:Str} {a:V} (hw:∀w∈ws,K12.Nm w) (h:aG K H r [.str "copy",.str x,a]) (hx:x∈ws) (ha:dN ws a):dv K H ws ((RG.copy x a).rr r):=by
 refine#[#[kP #[h,λx g p as e=>by cases e] #[λv hv=>?_,λ_ _ _ _ e=>(by cases e),#[λ_ _ _ e=>(by cases e),λ_ _ _ e=>(by cases e)],λ_ _ _ _ e=>(by cases e)],bN.tup h (.cons (.str (by decide +kernel)) (.cons (.str (hw x hx).2) (.cons (ha.has hw) .nil)))],λs hs=>?_]
 . have hv:v∈[V.str x,a]:=hv;rcases HV.mp hv with rfl|hv
   . exact dN.atom hw (.inr #[x,hx,rfl])
   . cases HY.mp hv; exact ha.atom hw
 . have hs:s∈[x]++K12.strsOf [a]:=hs;rcases Hg.mp hs with hs|hs
   . cases HY.mp hs; exact hx
   . exact lS (λv hv=>by cases HY.mp hv; exact ha) s hs
theorem Ga {x sg:Str} {a b:V} (hw:∀w∈ws,K12.Nm w) (h:aG K H r [.str "op",.str x,.str sg,a,b]) (hx:x∈ws) (hsg:PyData.strOk sg=true) (ha:dN ws a) (hb:dN ws b):dv K H ws ((RG.op x sg a b).rr r):=by
 refine#[#[kP #[h,λx g p as e=>by cases e] #[λv hv=>?_,λ_ _ _ _ e=>(by cases e; exact hsg),#[λ_ _ _ e=>(by cases e),λ_ _ _ e=>(by cases e)],λ_ _ _ _ e=>(by cases e)],bN.tup h (.cons (.str (by decide +kernel)) (.cons (.str (hw x hx).2) (.cons (.str hsg) (.cons (ha.has hw) (.cons (hb.has hw) .nil)))))],λs hs=>?_]
 . have hv:v∈[V.str x,a,b]:=hv;rcases HV.mp hv with rfl|hv
   . exact dN.atom hw (.inr #[x,hx,rfl])
   . rcases HV.mp hv with rfl|hv
     . exact ha.atom hw
     . cases HY.mp hv; exact hb.atom hw
 . have hs:s∈[x]++K12.strsOf [a,b]:=hs;rcases Hg.mp hs with hs|hs
   . cases HY.mp hs; exact hx
   . refine lS (λv hv=>?_) s hs;rcases HV.mp hv with rfl|hv
     . exact ha
     . cases HY.mp hv; exact hb
theorem ue {p:Addr}{x g:Str} {as:List V} (hw:∀w∈ws,K12.Nm w) (h:aG K H r [.str "call",.str x,.str g,.ref p]) (hp:aG K H p as) (hx:x∈ws) (hg:K12.Nm g) (ha:∀v∈as,dN ws v) (hl:as.length<=10):dv K H ws ((RG.call x g p as).rr r):=by
 refine#[#[kP #[h,λx g p as e=>by cases e; exact hp] #[λv hv=>?_,λ_ _ _ _ e=>(by cases e),#[λ_ _ _ e=>(by cases e),λ_ _ _ e=>(by cases e)],λ_ _ _ _ e=>(by cases e; exact#[hg.2,hl])],bN.tup h (.cons (.str (by decide +kernel)) (.cons (.str (hw x hx).2) (.cons (.str hg.2) (.cons (bN.tup (n:=1) hp (cB.of λv hv=>(ha v hv).has hw)) .nil))))],λs hs=>?_]
 . have hv:v∈[V.str x]++as:=hv;rcases Hg.mp hv with hv|hv
   . cases HY.mp hv; exact dN.atom hw (.inr #[x,hx,rfl])
   . exact(ha v hv).atom hw
 . have hs:s∈[x]++K12.strsOf as:=hs;rcases Hg.mp hs with hs|hs
   . cases HY.mp hs; exact hx
   . exact lS ha s hs
theorem jf {k:Str} (hk:k="else"\/k="end") (h:aG K H r [.str k]):dv K H ws (rnone k r):=by
 rcases hk with rfl|rfl
 . exact#[#[Eu h,bN.tup h (.cons (.str (by decide +kernel)) .nil)],λs hs=>by cases hs]
 . exact#[#[zS h,bN.tup h (.cons (.str (by decide +kernel)) .nil)],λs hs=>by cases hs]
end
theorem Fa {xs:List V} {a b:Option Int}:∀v∈cV xs a b,v∈xs:=λv hv=>by unfold cV at hv;exact List.mem_of_mem_drop (List.mem_of_mem_take hv)
theorem Ds {xs:List V} {a b:Option Int}:(cV xs a b).length<=xs.length:=by unfold cV;rw[Hx,J8];omega
structure Rs (K:W.Frag) (H:Hp) (ws:List Str) (rr:List RR) (at_:Nat) (ex:List Nat) (rg:RG):Prop where
 ok:∀x∈rr,dv K H ws x
 wf:K13.Wf (rr.map λx=>x.w.k)
 row:∃x,rr[at_]?=some x/\aG K H x.w.r rg.items
 rg_:gC ws rg
 ln:rr.length<=10
 way:∃l,K13.Due (rr.map λx=>x.w.k) at_ (some l)/\∀(j e:Nat),ex[j]?=some e->l[j]?=some e/\e<rr.length
 n1:∀n,RG.gives n rg->ex.length=1
 n2:RG.turns rg->ex.length=2
theorem Rs.mono {K:W.Frag} {H H':Hp} {ws:List Str} {rr:List RR} {at_:Nat} {ex:List Nat} {rg:RG} (e:aC H H') (h:Rs K H ws rr at_ ex rg):Rs K H' ws rr at_ ex rg :=
 #[λx hx=>(h.ok x hx).mono e,h.wf,let ⟨x,a,b⟩:=h.row; #[x,a,e.tup b],h.rg_,h.ln,h.way,h.n1,h.n2]
def eY (n:Nat):List Str:=List.replicate n "copy"
theorem ll (n:Nat):K13.Good (eY n) []:=by have:=vZ K13.good_nil (x:="copy") (by decide +kernel) (by decide +kernel) (by decide +kernel) n;rw[Jj] at this;exact this
section
variable (n:Nat) (hn:n<3)
include hn
theorem tV {k nx:Str} (hk:k="copy"\/k="op") (hx:nx="out"\/nx="call"):K13.Wf (eY n++[k,nx,"back"])/\K13.Due (eY n++[k,nx,"back"]) n (some [n+1]):=by
 constructor
 . have p1:¬ K13.isO k=true/\¬ K13.isE k=true/\¬ k="end":=by rcases hk with rfl|rfl <;> decide +kernel
   have p2:¬ K13.isO nx=true/\¬ K13.isE nx=true/\¬ nx="end":=by rcases hx with rfl|rfl <;> decide +kernel
   have:=(((ll n).plain p1.1 p1.2.1 p1.2.2).plain p2.1 p2.2.1 p2.2.2).back;simpa [Hv] using this
 . match n,hn with
   | 0,_=>rcases hk with rfl|rfl <;> rcases hx with rfl|rfl <;> exact .one (by decide +kernel) (by decide +kernel) (by decide +kernel) (.oth (by decide +kernel) (by decide +kernel))
   | 1,_=>rcases hk with rfl|rfl <;> rcases hx with rfl|rfl <;> exact .one (by decide +kernel) (by decide +kernel) (by decide +kernel) (.oth (by decide +kernel) (by decide +kernel))
   | 2,_=>rcases hk with rfl|rfl <;> rcases hx with rfl|rfl <;> exact .one (by decide +kernel) (by decide +kernel) (by decide +kernel) (.oth (by decide +kernel) (by decide +kernel))
theorem sr {k:Str} (hk:k="copy"\/k="op"):K13.Wf (eY n++[("while":Str),k,"end","back"])/\K13.Due (eY n++[("while":Str),k,"end","back"]) (n+1) (some [n]):=by
 constructor
 . have p1:¬ K13.isO k=true/\¬ K13.isE k=true/\¬ k="end":=by rcases hk with rfl|rfl <;> decide +kernel
   have:=(((ll n).opn (x:="while") (by decide +kernel)).plain p1.1 p1.2.1 p1.2.2).fin.back;simpa [Hv] using this
 . match n,hn with
   | 0,_=>rcases hk with rfl|rfl <;> exact .one (by decide +kernel) (by decide +kernel) (by decide +kernel) (.whl (by decide +kernel) (by decide +kernel) (by decide +kernel))
   | 1,_=>rcases hk with rfl|rfl <;> exact .one (by decide +kernel) (by decide +kernel) (by decide +kernel) (.whl (by decide +kernel) (by decide +kernel) (by decide +kernel))
   | 2,_=>rcases hk with rfl|rfl <;> exact .one (by decide +kernel) (by decide +kernel) (by decide +kernel) (.whl (by decide +kernel) (by decide +kernel) (by decide +kernel))
theorem lR {o nx:Str} (ho:o="if"\/o="while") (hx:nx="out"\/nx="call"):K13.Wf (eY n++[o,nx,"end","back"])/\K13.Due (eY n++[o,nx,"end","back"]) n (some [n+1,n+3]):=by
 constructor
 . have p0:K13.isO o=true:=by rcases ho with rfl|rfl <;> decide +kernel
   have p2:¬ K13.isO nx=true/\¬ K13.isE nx=true/\¬ nx="end":=by rcases hx with rfl|rfl <;> decide +kernel
   have:=(((ll n).opn p0).plain p2.1 p2.2.1 p2.2.2).fin.back;simpa [Hv] using this
 . match n,hn with
   | 0,_=>rcases ho with rfl|rfl <;> rcases hx with rfl|rfl <;> exact .two (f:=2) (by decide +kernel) #[by decide +kernel,#[by decide +kernel,by decide +kernel],λk hk ⟨h1,h2⟩=>by rcases k with _|_|k <;> first|omega|(revert h1; decide +kernel)] (.oth (by decide +kernel) (by decide +kernel)) (.oth (by decide +kernel) (by decide +kernel))
   | 1,_=>rcases ho with rfl|rfl <;> rcases hx with rfl|rfl <;> exact .two (f:=3) (by decide +kernel) #[by decide +kernel,#[by decide +kernel,by decide +kernel],λk hk ⟨h1,h2⟩=>by rcases k with _|_|_|k <;> first|omega|(revert h1; decide +kernel)] (.oth (by decide +kernel) (by decide +kernel)) (.oth (by decide +kernel) (by decide +kernel))
   | 2,_=>rcases ho with rfl|rfl <;> rcases hx with rfl|rfl <;> exact .two (f:=4) (by decide +kernel) #[by decide +kernel,#[by decide +kernel,by decide +kernel],λk hk ⟨h1,h2⟩=>by rcases k with _|_|_|_|k <;> first|omega|(revert h1; decide +kernel)] (.oth (by decide +kernel) (by decide +kernel)) (.oth (by decide +kernel) (by decide +kernel))
theorem wR:K13.Wf (eY n++[("if":Str),"out","else","out","end","back"])/\K13.Due (eY n++[("if":Str),"out","else","out","end","back"]) n (some [n+1,n+3]):=by
 constructor
 . have p2:¬ K13.isO "out"=true/\¬ K13.isE "out"=true/\¬ ("out":Str)="end":=by decide +kernel
   have:=(((((ll n).opn (x:="if") (by decide +kernel)).plain p2.1 p2.2.1 p2.2.2).els').plain p2.1 p2.2.1 p2.2.2).fin.back;simpa [Hv] using this
 . match n,hn with
   | 0,_=>exact .two (f:=2) (by decide +kernel) #[by decide +kernel,#[by decide +kernel,by decide +kernel],λk hk ⟨h1,h2⟩=>by rcases k with _|_|k <;> first|omega|(revert h1; decide +kernel)] (.oth (by decide +kernel) (by decide +kernel)) (.oth (by decide +kernel) (by decide +kernel))
   | 1,_=>exact .two (f:=3) (by decide +kernel) #[by decide +kernel,#[by decide +kernel,by decide +kernel],λk hk ⟨h1,h2⟩=>by rcases k with _|_|_|k <;> first|omega|(revert h1; decide +kernel)] (.oth (by decide +kernel) (by decide +kernel)) (.oth (by decide +kernel) (by decide +kernel))
   | 2,_=>exact .two (f:=4) (by decide +kernel) #[by decide +kernel,#[by decide +kernel,by decide +kernel],λk hk ⟨h1,h2⟩=>by rcases k with _|_|_|_|k <;> first|omega|(revert h1; decide +kernel)] (.oth (by decide +kernel) (by decide +kernel)) (.oth (by decide +kernel) (by decide +kernel))
end
theorem ag {H:Hp}:∀{us:List V} {vw:List (Option Tr)} (i:Nat) {o:Option Tr} {v:V},Ps (aX H) us vw->aX H o v->Ps (aX H) (us.set i v) (vw.set i o)
 | [],[],_,_,_,_,_=>trivial
 | u :: us,w :: vw,0,_,_,h,hv=>#[hv,h.2]
 | u :: us,w :: vw,i+1,_,_,h,hv=>#[h.1,ag i h.2 hv]
theorem jA {n j:Nat} (h:j<n):ca n (j:Int)=some j:=by unfold ca;rw[HR (by omega),HR (by omega)];congr 1
theorem lO {y:V}{i:Int} (h0:0<=i) (h1:i<2):∃v,bQ [x,y] i=some v/\(v=x\/v=y):=by
 obtain rfl|rfl:i=0\/i=1:=by omega
 . exact#[x,rfl,.inl rfl]
 . exact#[y,rfl,.inr rfl]
theorem ou {α:Type} (n:Nat) (x:α):(List.replicate n [x]).flatten=List.replicate n x:=by
 induction n with
 | zero=>rfl
 | succ n ih=>rw[Iu,Ip,ih]; rfl
theorem jv {c x:RR} {tail:List RR} {ks:List Str} {n j:Nat} {l:List Nat} (hn:n<3) (hck:c.w.k="copy") (hc:dv K H ws c) (ht:∀x∈tail,dv K H ws x) (hk:tail.map (λx=>x.w.k)=ks) (hw:K13.Wf (eY n++ks)) (hd:K13.Due (eY n++ks) (n+j) (some l)) (hlt:∀e∈l,e<n+tail.length) (tl:tail.length<=7) (hx:tail[j]?=some x) (hr:aG K H x.w.r rg.items) (ok:gC ws rg) (h1:∀n,RG.gives n rg->l.length=1) (h2:RG.turns rg->l.length=2):Rs K H ws (List.replicate n c++tail) (n+j) l rg:=by
 have ek:(List.replicate n c++tail).map (λx=>x.w.k)=eY n++ks:=by rw[Hk,Ik,hk,hck];rfl
 refine#[λy hy=>?_,by rw[ek]; exact hw,#[x,?_,hr],ok,by rw[HU,Hj]; omega,#[l,by rw[ek]; exact hd,λi e he=>#[he,?_]],h1,h2]
 . rcases Hg.mp hy with hy|hy
   . rw[(JD.mp hy).2]; exact hc
   . exact ht y hy
 . rw[IR (by rw[Hj]; omega),Hj,KS];exact hx
 . have:=hlt e (HP he);rw[HU,Hj];exact this
theorem jz (n:Nat) (c:RR) (tail:List RR):(List.replicate n c++tail).map (λx=>V.ref x.w.r)=List.replicate n (V.ref c.w.r)++tail.map λx=>V.ref x.w.r:=by rw[Hk,Ik]
theorem dW {cs:List Int} {j:Nat} (h:j<cs.length):∃c,bQ (cs.map V.int) (j:Int)=some (.int c):=#[cs[j],bt (by rw[HW,HX h]; rfl)]
inductive Db (H:Hp) (rg:RG) (as:List V) (ks:List Str) (Ms:List (List Lev)) (chs:List (List (Str×Nat))) (Kn:List (List (Option Tr))) (g:Int->Option Tr) (ws:List Str):Bool->Prop
 | no {k:Nat} {a:V} {o:Option Tr} {K0:List (List (Option Tr))} {kn:List (Option Tr)}:(rg=.ifs a\/rg=.whl a)->as=[.str "go",.int k]->Kn=K0++[kn]->kn.length=ws.length->dL ws a->cS (lk ws kn) a=some o->Db H rg as ks Ms chs Kn g ws false
 | go {k:Nat} {kd:Str} {L:List Lev} {ch:List (Str×Nat)}:(∃n,RG.gives n rg)->as=[.str "go",.int k]->ks[k]?=some kd->Ms[k]?=some L->chs[0]?=some ch->Db H rg as ks Ms chs Kn g ws (fA g kd L ch Kn)
 | ot {kd:Str} {rest:List V}:(∃n,RG.gives n rg)->as=.str kd :: rest->¬ kd="go"->Db H rg as ks Ms chs Kn g ws false
 | tu {a v:V} {o:Option Tr} {t:Tr} {j0 j1:Nat} {d0 d1:Str} {L0 L1:List Lev} {c0 c1:List (Str×Nat)} {K0:List (List (Option Tr))} {kn:List (Option Tr)}:(rg=.ifs a\/rg=.whl a)->as=[.str "if",v,.int j0,.int j1]->RAt H t v->bp t->Kn=K0++[kn]->kn.length=ws.length->dL ws a->cS (lk ws kn) a=some o->cc o->ks[j0]?=some d0->Ms[j0]?=some L0->chs[0]?=some c0->ks[j1]?=some d1->Ms[j1]?=some L1->chs[1]?=some c1->Db H rg as ks Ms chs Kn g ws (eC t o&&(fA g d0 L0 c0 Kn&&fA g d1 L1 c1 Kn))
theorem Ps.get {α:Type} {R:α->V->Prop} {us:List V} {ts:List α} {i:Nat} {x:α} (h:Ps R us ts) (e:ts[i]?=some x):∃u,us[i]?=some u/\R x u:=by obtain⟨u,t,a,b,c⟩:=Ps.at h (n:=i) (HL.mp e).1;rw[e] at b;cases b;exact#[u,a,c]
def dF (K:W.Frag) (H:Hp) (m:Mrk) (v:V):Prop:=∃p c w ws,v=.ref p/\H p=some (.tup [c,.ref w])/\cR K H m.ch c/\H w=some (.lst ws)/\Ps (dB H) ws m.vs
theorem dF.mono {K:W.Frag} {H H':Hp} {m:Mrk} {v:V} (e:aC H H') (h:dF K H m v):dF K H' m v:=let ⟨p,c,w,ws,h1,h2,h3,h4,h5⟩:=h; #[p,c,w,ws,h1,e _ _ h2,h3.mono e,e _ _ h4,Ps.imp (λ_ _ z=>z.mono e) h5]
theorem dF.a {K:W.Frag} {H:Hp} {m:Mrk} {v:V} (h:dF K H m v):fN K H m v:=let ⟨p,c,w,ws,h1,h2,h3,h4,h5⟩:=h; #[p,c,w,ws,h1,aG.of h2,h3,aK.of h4,Ps.imp (λ_ _ z=>z.a) h5]
def hJ (K:W.Frag) (H G:Hp) (o v:V):Prop:=∃lo us l,o=.ref lo/\H lo=some (.lst us)/\v=.ref l/\G l=some (.lst us)
def gN (K:W.Frag) (H G:Hp) (o v:V):Prop:=∃po c w ws q w' vs,o=.ref po/\H po=some (.tup [c,.ref w])/\H w=some (.lst ws)/\v=.ref q/\G q=some (.tup [c,.ref w'])/\G w'=some (.lst vs)/\Ps (hJ K H G) vs ws
section
variable {K:W.Frag} {H G G':Hp}
theorem hJ.mono {o:V}(e:aC G G') (h:hJ K H G o v):hJ K H G' o v:=let ⟨a,b,c,d1,d2,d3,d4⟩:=h; #[a,b,c,d1,d2,d3,e _ _ d4]
theorem gN.mono {o v:V} (e:aC G G') (h:gN K H G o v):gN K H G' o v:=let ⟨a,b,c,d,f,g,i,h1,h2,h3,h4,h5,h6,h7⟩:=h; #[a,b,c,d,f,g,i,h1,h2,h3,h4,e _ _ h5,e _ _ h6,Ps.imp (λ_ _ z=>z.mono e) h7]
theorem um:∀{os vs:List V} {vws:List (List (Option Tr))},aC H G->Ps (dB H) os vws->Ps (hJ K H G) vs os->Ps (fH K G) vs vws
 | [],[],[],_,_,_=>trivial
 | o :: os,v :: vs,vw :: vws,e,h1,h2=>by obtain⟨⟨lo,us,rfl,a1,a2⟩,h1⟩:=h1;obtain⟨⟨lo',us',l,eq,b1,rfl,b2⟩,h2⟩:=h2;cases eq;rw[a1] at b1;cases b1;exact#[#[l,_,rfl,aK.of b2,Ps.imp (λ_ _ z=>aX.mono z e) a2],um e h1 h2]
 | [],_ :: _,_,_,_,h=>h.elim
 | _ :: _,[],_,_,_,h=>h.elim
 | [],[],_ :: _,_,h,_=>h.elim
 | _ :: _,_ :: _,[],_,h,_=>h.elim
theorem BE {m:Mrk} {o:V}(e:aC H G) (h1:dF K H m o) (h2:gN K H G o v):fN K G m v:=by obtain⟨p,c,w,ws,rfl,a1,a2,a3,a4⟩:=h1;obtain⟨po,c',w1,ws',q,w',vs,eq,b1,b2,rfl,b3,b4,b5⟩:=h2;cases eq;rw[a1] at b1;cases b1;rw[a3] at b2;cases b2;exact#[q,c,w',vs,rfl,aG.of b3,a2.mono e,aK.of b4,um e a4 b5]
theorem Cv (ok:bo vw) (h:Ps (aX H) us vw):cB K H 10 us:=#[vw.map oD,λd hd=>by obtain⟨o,ho,rfl⟩:=Hq.mp hd; exact pW (ok o ho),p9 h]
theorem cB.mono {n:Nat} {xs:List V} (e:aC H G) (h:cB K H n xs):cB K G n xs:=let ⟨ds,l,z⟩:=h; #[ds,l,bT.mono e ds xs z]
theorem uF:∀{os vs:List V} {vws:List (List (Option Tr))},aC H G->(∀vw∈vws,bo vw)->Ps (dB H) os vws->Ps (hJ K H G) vs os->dQ K G 11 vs os
 | [],[],[],_,_,_,_=>.nil
 | o :: os,v :: vs,vw :: vws,e,ok,h1,h2=>by obtain⟨⟨lo,us,rfl,a1,a2⟩,h1⟩:=h1;obtain⟨⟨lo',us',l,eq,b1,rfl,b2⟩,h2⟩:=h2;cases eq;rw[a1] at b1;cases b1;exact .cons (cf.lst (aK.of b2) (aK.of (e _ _ a1)) (dQ.of (cB.mono e (Cv (ok vw HS) a2)))) (uF e (λvw h=>ok vw (HZ _ h)) h1 h2)
 | [],_ :: _,_,_,_,_,h=>h.elim
 | _ :: _,[],_,_,_,_,h=>h.elim
 | [],[],_ :: _,_,_,h,_=>h.elim
 | _ :: _,_ :: _,[],_,_,h,_=>h.elim
theorem Gc {m:Mrk} {o:V}(e:aC H G) (ok:∀vw∈m.vs,bo vw) (sn:∀c∈m.ch,PyData.strOk c.1=true) (h1:dF K H m o) (h2:gN K H G o v):cf K G 13 v o:=by obtain⟨p,c,w,ws,rfl,a1,a2,a3,a4⟩:=h1;obtain⟨po,c',w1,ws',q,w',vs,eq,b1,b2,rfl,b3,b4,b5⟩:=h2;cases eq;rw[a1] at b1;cases b1;rw[a3] at b2;cases b2;exact cf.tup (aG.of b3) (aG.of (e _ _ a1)) (.cons (cf.of (n:=12) #[_,(oq sn).mono (by decide),(a2.mono e).dat]) (.cons (cf.lst (aK.of b4) (aK.of (e _ _ a3)) (uF e ok a4 b5)) .nil))
end
def Ak.mv (A:Ak) (mvs:List V):Ak:={ A with mvs:=mvs }
theorem Sb.mv {H:Hp} {A:Ak} {rg:RG} {b:Bool} (mvs:List V) (h:Sb H A rg b):Sb H (A.mv mvs) rg b:=by
 cases h with
 | no a b c=>exact .no a b c
 | go a b c d e f=>exact .go (A:=A.mv mvs) a b c d e f
 | ot a b c d e=>exact .ot a b c d e
 | tu a b c d e f g h i j k=>exact .tu (A:=A.mv mvs) a b c d e f g h i j k
theorem Ps.of_at {α:Type} {R:α->V->Prop}:∀{vs:List V} {os:List α},vs.length=os.length->(∀(i:Nat) v o,vs[i]?=some v->os[i]?=some o->R o v)->Ps R vs os
 | [],[],_,_=>trivial
 | v :: vs,o :: os,h,f=>#[f 0 v o rfl rfl,Ps.of_at (by simpa using h) λi v o a b=>f (i+1) v o (by simpa using a) (by simpa using b)]
 | [],_ :: _,h,_=>by cases h
 | _ :: _,[],h,_=>by cases h
theorem vB {K:W.Frag} {H G:Hp}:∀{os vs:List V} {Ms:List (List Lev)},aC H G->Ps (λL v=>dF K H (dE L) v) os Ms->Ps (gN K H G) vs os->Ps (λL v=>fN K G (dE L) v) vs Ms
 | [],[],[],_,_,_=>trivial
 | o :: os,v :: vs,L :: Ms,e,h1,h2=>#[BE e h1.1 h2.1,vB e h1.2 h2.2]
 | [],_ :: _,_,_,_,h=>h.elim
 | _ :: _,[],_,_,_,h=>h.elim
 | [],[],_ :: _,_,h,_=>h.elim
 | _ :: _,_ :: _,[],_,h,_=>h.elim
theorem w9 {K:W.Frag} {H G:Hp}:∀{os vs:List V} {Ms:List (List Lev)},aC H G->(∀L∈Ms,∀e∈L,bo e.vw/\PyData.strOk e.F.name=true)->Ps (λL v=>dF K H (dE L) v) os Ms->Ps (gN K H G) vs os->dQ K G 13 vs os
 | [],[],[],_,_,_,_=>.nil
 | o :: os,v :: vs,L :: Ms,e,ok,h1,h2=>.cons (Gc e (λvw h=>by obtain⟨l,hl,rfl⟩:=Hq.mp h; exact(ok L HS l hl).1) (λc h=>by obtain⟨l,hl,rfl⟩:=Hq.mp h; exact(ok L HS l hl).2) h1.1 h2.1) (w9 e (λL h=>ok L (HZ _ h)) h1.2 h2.2)
 | [],_ :: _,_,_,_,_,h=>h.elim
 | _ :: _,[],_,_,_,_,h=>h.elim
 | [],[],_ :: _,_,_,h,_=>h.elim
 | _ :: _,_ :: _,[],_,_,h,_=>h.elim
def iB (H:Hp) (rg:RG) (k0 k1:Nat) (as:List V):Prop :=
 (as=[.str "go",.int (k0:Int)])\/((∃n,RG.gives n rg)/\∃(kd:Str) (v:V),(kd="out"/\RAt H (.num 0) v\/kd="new"/\v=.non)/\as=[.str kd,v,.int (k0:Int)])\/(RG.turns rg/\∃t v a b,RAt H t v/\bp t/\(a=k0/\b=k1\/a=k1/\b=k0)/\as=[.str "if",v,.int (a:Nat),.int (b:Nat)])
theorem lZ (h:RG.gives n rg):∃k r,rg.items=.str k :: .str n :: r/\(k="copy"\/k="op"):=by
 cases rg with
 | copy x a=>cases h; exact#[_,_,rfl,.inl rfl]
 | op x s a b=>cases h; exact#[_,_,rfl,.inr rfl]
 | _=>exact h.elim
theorem lV {a:V} (h:rg=.ifs a\/rg=.whl a):∃k,rg.items=[.str k,a]/\(k="if"\/k="while"):=by
 rcases h with rfl|rfl
 . exact#[_,rfl,.inl rfl]
 . exact#[_,rfl,.inr rfl]
theorem kW {a:V} (h:RG.gives n rg) (h':rg=.ifs a\/rg=.whl a):False:=by rcases h' with rfl|rfl <;> exact h
theorem pS {k:Str} (h:k="copy"\/k="op"):gE (.str k) [V.str "copy",V.str "op"]=true:=by rcases h with rfl|rfl <;> decide
theorem qI {k:Str} (h:k="if"\/k="while"):¬ gE (.str k) [V.str "copy",V.str "op"]=true:=by rcases h with rfl|rfl <;> decide
theorem DS (h:RG.turns rg):∃a,rg=.ifs a\/rg=.whl a:=by
 cases rg with
 | ifs a=>exact#[a,.inl rfl]
 | whl a=>exact#[a,.inr rfl]
 | _=>exact h.elim
end St
namespace St
open PySem L2
def iU (H:Hp):List (Addr×HO)->Prop
 | []=>True
 | x :: L=>H x.1=some x.2/\iU H L
def Al (H0 H:Hp) (L:List (Addr×HO)):Prop:=aC H0 H/\iU H L
section
variable {H0 H H':Hp} {L:List (Addr×HO)} {q:Addr} {o:HO}
theorem iU.mono (s:aC H H'):∀{L:List (Addr×HO)},iU H L->iU H' L
 | [],_=>trivial
 | _ :: _,h=>#[s _ _ h.1,iU.mono s h.2]
theorem Al.nil:Al H H []:=#[aC.refl _,trivial]
theorem Al.mono (h:Al H0 H L) (s:aC H H'):Al H0 H' L:=#[h.1.trans s,h.2.mono s]
theorem Al.re (h:Al H0 H L):Al H H L:=#[aC.refl _,h.2]
theorem Al.add (h:Al H0 H L) (e:H q=some o):Al H0 H ((q,o) :: L):=#[h.1,e,h.2]
theorem Al.new (h:Al H0 H L) (k:H q=none):Al H0 (upd H q o) ((q,o) :: L):=(h.mono (aC.new k)).add aL
end
end St
namespace K43
open PySem L2 Gx Fl Bg Wk St
def bO (i:Nat):Stmt:=PySem.Challenge.pw_stopglass_k43_copies_and_choices_held.main.body.getD i (.Pass #[0,0,0,0])
abbrev oG:Stmt:=bO 3
abbrev nG:Stmt:=bO 4
abbrev pe:Stmt:=bO 5
abbrev me:Stmt:=bO 6
abbrev oJ:Stmt:=bO 7
abbrev jI:Stmt:=bO 8
abbrev oz:Stmt:=bO 9
abbrev jC:Stmt:=bO 10
abbrev m7:Stmt:=fL (bO 11) 0
abbrev pd:Stmt:=fL (bO 11) 1
abbrev nu:Stmt:=fL (bO 11) 2
abbrev qJ:Stmt:=bO 14
abbrev pq:Stmt:=bO 16
abbrev nP:Stmt:=bO 17
abbrev nc:Stmt:=bO 21
abbrev qQ:Stmt:=bO 22
abbrev pZ:Stmt:=bO 23
abbrev qO:Stmt:=bO 24
abbrev pz:Stmt:=bO 25
abbrev mr:Stmt:=bO 26
abbrev nT:Stmt:=bO 27
abbrev qG:Stmt:=bO 28
abbrev ph:Stmt:=bO 29
abbrev jy:Stmt:=fL (bO 30) 0
abbrev ib:Stmt:=fL (bO 30) 1
abbrev jU:Stmt:=fL (bO 30) 2
abbrev qB:Stmt:=fL (bO 30) 3
abbrev oZ:Stmt:=fL (bO 30) 4
abbrev nZ:Stmt:=fL (bO 30) 5
abbrev pH:Stmt:=fL (bO 30) 6
abbrev oI:Stmt:=fL (bO 30) 7
abbrev pJ:Stmt:=bO 32
abbrev pD:Stmt:=bO 34
abbrev pw:Stmt:=bO 35
abbrev qR:Stmt:=bO 36
abbrev nr:Stmt:=bO 37
abbrev nC:Stmt:=bO 38
abbrev na:Stmt:=bO 39
abbrev mF:Stmt:=bO 40
abbrev nK:Stmt:=bO 41
abbrev jW:Stmt:=bO 42
abbrev oW:Stmt:=bO 43
abbrev mx:Stmt:=bO 44
abbrev qP:Stmt:=bO 45
abbrev pK:Stmt:=bO 46
abbrev nE:Stmt:=bO 47
abbrev mo:Stmt:=bO 48
abbrev gy:Stmt:=bO 49
abbrev jM:Stmt:=bO 50
abbrev jx:Stmt:=bO 51
abbrev jg:Stmt:=bO 52
abbrev qZ:Stmt:=bO 53
abbrev lT:Stmt:=bO 54
abbrev gZ:Stmt:=bO 55
set_option genInjectivity false in
set_option genSizeOf false in
structure Adr where
 bX:Addr
 aj:Addr
 xY:Addr
 yf:FuncData
 xc:Addr
 yh:FuncData
 x8:Addr
 yG:FuncData
 wx:Addr
 yA:FuncData
 x4:Addr
 yD:FuncData
 xi:Addr
 yl:FuncData
 wy:Addr
 yB:FuncData
 x6:Addr
 yF:FuncData
 we:Addr
 xl:FuncData
 wg:Addr
 xm:FuncData
 wj:Addr
 xn:FuncData
 xh:Addr
 yk:FuncData
 xg:Addr
 yj:FuncData
 mY:Addr
 ma:FuncData
 xV:Addr
 yc:FuncData
 xZ:Addr
 yg:FuncData
 xX:Addr
 ye:FuncData
 xj:Addr
 ym:FuncData
 xW:Addr
 yd:FuncData
 x5:Addr
 yE:FuncData
 xU:Addr
 yb:FuncData
 ww:Addr
 xz:FuncData
 wz:Addr
 yC:FuncData
 wo:Addr
 xt:FuncData
 wu:Addr
 xy:FuncData
 wn:Addr
 xq:FuncData
 wr:Addr
 xw:FuncData
 wm:Addr
 xp:FuncData
 wk:Addr
 xo:FuncData
 wq:Addr
 xu:FuncData
 wt:Addr
 xx:FuncData
 xf:Addr
 yi:FuncData
 xD:Addr
 yL:FuncData
 xR:Addr
 yZ:FuncData
 xJ:Addr
 yR:FuncData
 xP:Addr
 yX:FuncData
 kG:Addr
 kH:FuncData
 xS:Addr
 ya:FuncData
 xO:Addr
 yW:FuncData
 xK:Addr
 yS:FuncData
 xH:Addr
 yP:FuncData
 xG:Addr
 yO:FuncData
 xM:Addr
 yU:FuncData
 xQ:Addr
 yY:FuncData
 xF:Addr
 yN:FuncData
 xB:Addr
 yJ:FuncData
 xL:Addr
 yT:FuncData
 xN:Addr
 yV:FuncData
 xC:Addr
 yK:FuncData
 x9:Addr
 yH:FuncData
 xE:Addr
 yM:FuncData
 xI:Addr
 yQ:FuncData
 xA:Addr
 yI:FuncData
 xT:Addr
 mZ:FuncData
 ql:Addr
 wd:Addr
 qm:Addr
 kF:Addr
structure Txt (K:W.Frag) (mg:Str->Option Value) (t:Adr):Prop where
 names_of:DefOk K mg "names_of" oG ["function"] t.xY t.yf
 reads:DefOk K mg "reads" nG ["row"] t.xc t.yh
 gives:DefOk K mg "gives" pe ["row"] t.x8 t.yG
 atoms_of:DefOk K mg "atoms_of" me ["row"] t.wx t.yA
 each_once:DefOk K mg "each_once" oJ ["names"] t.x4 t.yD
 ways:DefOk K mg "ways" jI ["rows"] t.xi t.yl
 begins_of:DefOk K mg "begins_of" oz ["rows"] t.wy t.yB
 firsts_behind:DefOk K mg "firsts_behind" jC ["rows","begins"] t.x6 t.yF
 wb:IniOk K t.bX "Flows.__init__" m7 ["self","program"] t.we t.xl
 kB:MetOk K t.bX "row_at" "Flows.row_at" pd ["self","frame"] t.wg t.xm
 qh:MetOk K t.bX "ways_at" "Flows.ways_at" nu ["self","frame"] t.wj t.xn
 value:DefOk K mg "value" qJ ["sign","one","other"] t.xh t.yk
 together:DefOk K mg "together" pq ["sign","left","right"] t.xg t.yj
 put_through:DefOk K mg "put_through" nP ["one","news"] t.mY t.ma
 levels_of:DefOk K mg "levels_of" nc ["flows","mark"] t.xV t.yc
 place_of:DefOk K mg "place_of" qQ ["named","atom"] t.xZ t.yg
 moved:DefOk K mg "moved" pZ ["flows","chain","way"] t.xX t.ye
 with_given:DefOk K mg "with_given" qO ["levels","name","place"] t.xj t.ym
 made_by:DefOk K mg "made_by" pz ["row","named"] t.xW t.yd
 entered:DefOk K mg "entered" mr ["flows","row","levels"] t.x5 t.yE
 left_behind:DefOk K mg "left_behind" nT ["call","back","levels"] t.xU t.yb
 asked_act:DefOk K mg "asked_act" qG ["row","named"] t.ww t.xz
 boxes_behind:DefOk K mg "boxes_behind" ph ["spot"] t.wz t.yC
 wc:IniOk K t.aj "Step.__init__" jy ["self","flows","spots","marks","k"] t.wo t.xt
 qk:MetOk K t.aj "stands" "Step.stands" ib ["self"] t.wu t.xy
 qi:MetOk K t.aj "goes" "Step.goes" jU ["self","k"] t.wn t.xq
 qj:MetOk K t.aj "parts" "Step.parts" qB ["self","yes","no"] t.wr t.xw
 fU:MetOk K t.aj "comes_on" "Step.comes_on" oZ ["self","k","levels"] t.wm t.xp
 fT:MetOk K t.aj "arrives" "Step.arrives" nZ ["self","k","chain","levels"] t.wk t.xo
 kC:MetOk K t.aj "is_wait" "Step.is_wait" pH ["self","k"] t.wq t.xu
 kE:MetOk K t.aj "shows" "Step.shows" oI ["self","k","chain","levels"] t.wt t.xx
 spot_holds:DefOk K mg "spot_holds" pJ ["program","spots","marks","k"] t.xf t.yi
 yq:DefOk K mg "_law_cell_at" pD ["_law_script","_law_k"] t.xD t.yL
 qu:DefOk K mg "_law_value" pw ["_law_sign","_law_one","_law_other"] t.xR t.yZ
 md:DefOk K mg "_law_names" qR ["_law_cell","_law_many"] t.xJ t.yR
 kI:DefOk K mg "_law_some" nr ["_law_cell","_law_boxes"] t.xP t.yX
 j8:DefOk K mg "_law_through" nC ["_law_one","_law_news_here"] t.kG t.kH
 qv:DefOk K mg "_law_view" na ["_law_cell","_law_size","_law_boxes","_law_calm"] t.xS t.ya
 zA:DefOk K mg "_law_sets" mF ["_law_cell","_law_known","_law_boxes"] t.xO t.yW
 yx:DefOk K mg "_law_news" nK ["_law_sets_here","_law_box"] t.xK t.yS
 yu:DefOk K mg "_law_landing" jW ["_law_cell","_law_known","_law_news_here","_law_boxes","_law_calm"] t.xH t.yP
 qr:DefOk K mg "_law_held" oW ["_law_spot","_law_mark","_law_chain","_law_known","_law_news_here"] t.xG t.yO
 yy:DefOk K mg "_law_outer" mx ["_law_own","_law_outer_here","_law_many"] t.xM t.yU
 qt:DefOk K mg "_law_turned" qP ["_law_one"] t.xQ t.yY
 yt:DefOk K mg "_law_flat" pK ["_law_views"] t.xF t.yN
 qq:DefOk K mg "_law_atom" nE ["_law_cell","_law_names_here"] t.xB t.yJ
 l_of:DefOk K mg "_law_of" mo ["_law_atom_here","_law_names_here","_law_view_here"] t.xL t.yT
 yz:DefOk K mg "_law_rows" gy ["_law_cells","_law_names_here","_law_own"] t.xN t.yV
 yp:DefOk K mg "_law_behind" jM ["_law_row","_law_names_here","_law_view_here"] t.xC t.yK
 yn:DefOk K mg "_law_act" jx ["_law_row","_law_cell","_law_exits","_law_names_here","_law_view_here","_law_boxes"] t.x9 t.yH
 yr:DefOk K mg "_law_due" jg ["_law_row","_law_act_here","_law_spots","_law_marks","_law_chains","_law_known","_law_news_here","_law_names_here"] t.xE t.yM
 yw:DefOk K mg "_law_landings" qZ ["_law_cell","_law_known","_law_news_here","_law_boxes","_law_calm"] t.xI t.yQ
 yo:DefOk K mg "_law_asked" lT ["_law_program","_law_spots","_law_marks","_law_k","_law_due_here"] t.xA t.yI
 law:DefOk K mg "law" gZ ["_law_script"] t.xT t.mZ
 cu:ClsOk K mg "Flows" t.bX
 bG:ClsOk K mg "Step" t.aj
 HC:ci K t.bX "last"
 zC:ci K t.bX "number_of"
 zB:ci K t.bX "folded_of"
 zD:ci K t.bX "params_of"
 qx:ci K t.bX "rows_of"
 qw:ci K t.bX "names_in"
 qy:ci K t.bX "ways_in"
 kK:ci K t.aj "flows"
 zG:ci K t.aj "spots"
 qz:ci K t.aj "marks"
 dC:ci K t.aj "act"
 kJ:ci K t.aj "chain"
 iH:ci K t.aj "ahead"
 eW:ci K t.aj "row"
 zE:ci K t.aj "news"
 qp:∃tk,mg "WIDE"=some (.int 281474976710656 tk)
 HB:mg "GIVING_KINDS"=some (.ref t.ql)
 HD:∀H:Hp,aG K H t.ql (K12.giving.map V.str)
 qo:mg "BROUGHT"=some (.ref t.wd)
 q_BRO:∀H:Hp,aG K H t.wd [V.str "brought"]
 Gz:mg "ATOM_PLACES"=some (.ref t.qm)
 HE:mq K t.qm K12.tabl
 xk:mg "FILLED_PLACES"=some (.ref t.kF)
 r9:mG K t.kF [("get",3),("new",1),("wait",1)]
 b_len:mg "len"=none
 b_list:mg "list"=none
 b_tuple:mg "tuple"=none
 b_isinstance:mg "isinstance"=none
 b_range:mg "range"=none
 b_all:mg "all"=none
 b_enumerate:mg "enumerate"=none
 b_dict:mg "dict"=none
 b_str:mg "str"=none
 b_zip:mg "zip"=none
 b_bool:mg "bool"=none
 b_int:mg "int"=none
 b_max:mg "max"=none
 bl:∀(s:Shared) (u:Value),BindsTo s t.mZ #[[u],[]] [("_law_script",u)]
section
variable {P:Program} {w:World} {K:W.Frag} {mg:Str->Option Value} {base:Heap} {t:Adr}
def Ei (K:W.Frag) (t:Adr):Sp:=λvs H Q _=>∃(x dx p:Addr) (fns:List F2.Fd),vs=[.ref x,.ref p]/\H x=some (.ins t.bX dx [])/\aK K (ers x H) p (fns.map λf=>V.ref f.fa)/\fns≠[]/\fns.length<=12/\(∀f∈fns,F2.FnAt K (ers x H) f)/\(fns.map (·.name)).Nodup /\
 ∀H',aC (ers x H) H'->F2.FlowsAt K t.bX H' x fns->Q .non H'
def FT (K:W.Frag):Sp:=λvs H Q _=>∃(s:Str) (a b:Int),vs=[.str s,.int a,.int b]/\0<=a/\0<=b/\a<K21.wide/\b<K21.wide/\Q (.int (K21.valOf s a b)) H
def Bp (K:W.Frag):Sp:=λvs H Q _=>∃(s:Str) (tl tr:Rk2.Tr) (x y:V),vs=[.str s,x,y]/\Rk2.Sg s/\Rk2.RAt H tl x/\Rk2.RAt H tr y/\Rk2.okl (Rk2.lvs tl)/\Rk2.okl (Rk2.lvs tr)/\∀v H',aC H H'->Rk2.RAt H' (Rk2.tog s tl tr) v->Q v H'
def oh (K:W.Frag) (n:Nat):Sp:=λvs H Q _=>∃(tr:Rk2.Tr) (v:V) (d:Addr) (kvs:List (aO×V)) (g:Int->Option Rk2.Tr),vs=[v,.ref d]/\Rk2.dp tr<n/\Rk2.RAt H tr v/\H d=some (.dK kvs)/\Rk2.NV H kvs g/\Rk2.okl (Rk2.lvs tr)/\(∀k t,g k=some t->Rk2.okl (Rk2.lvs t))/\∀v' H',aC H H'->Rk2.RAt H' (Rk2.pt g tr) v'->Q v' H'
def GC (K:W.Frag) (t:Adr):Sp:=λvs H Q _=>∃(x fa:Addr) (fns:List F2.Fd) (F:F2.Fd) (r:Nat) (w:Rw),vs=[.ref x,.ref fa]/\F2.FlowsAt K t.bX H x fns/\F∈fns/\aG K H fa [.str F.name,.int r]/\F.rs[r]?=some w/\Q (.ref w.r) H
def Ge (K:W.Frag) (t:Adr):Sp:=λvs H Q _=>∃(x fa:Addr) (fns:List F2.Fd) (F:F2.Fd) (r j to_:Nat),vs=[.ref x,.ref fa]/\F2.FlowsAt K t.bX H x fns/\F∈fns/\aG K H fa [.str F.name,.int r]/\r<F.rs.length/\fw F r j to_/\∀tp l,aG K H tp (K13.natsV l)->l[j]?=some to_->Q (.ref tp) H
def C2 (K:W.Frag) (t:Adr):Sp:=λvs H Q _=>∃(x:Addr) (cv:V) (fns:List F2.Fd) (ch:List (Str×Nat)) (F:F2.Fd) (r j to_:Nat),vs=[.ref x,cv,.int j]/\F2.FlowsAt K t.bX H x fns/\cR K H (ch++[(F.name,r)]) cv/\F∈fns/\r<F.rs.length/\fw F r j to_/\ch.length<=10/\∀cv' H',aC H H'->cR K H' (ch++[(F.name,to_)]) cv'->Q cv' H'
def F8 (K:W.Frag):Sp:=λvs H Q _=>∃(b:Nat) (d:Addr) (f:Lv) (a:V) (o:Option Rk2.Tr),vs=[.ref d,a]/\iA b H f d/\cS f a=some o/\∀v H',aC H H'->aX H' o v->Q v H'
def AT (K:W.Frag):Sp:=λvs H Q _=>∃(lv pv:V) (n:Str) (fs:List Lv) (f:Lv) (o:Option Rk2.Tr),vs=[lv,.str n,pv]/\dD 1000 H (fs++[f]) lv/\aX H o pv/\fs.length<=10/\∀lv' H',aC H H'->dD 1001 H' (fs++[gm f n o]) lv'->Q lv' H'
def Ek (K:W.Frag):Sp:=λvs H Q _=>∃(b:Nat) (r d:Addr) (rg:RG) (f:Lv) (o:Option Rk2.Tr),vs=[.ref r,.ref d]/\aG K H r rg.items/\iA b H f d/\df f rg=some o/\(∀a∈rg.items,∀t,cS f a=some (some t)->Rk2.okl (Rk2.lvs t))/\(∀x s a b,rg=.op x s a b->Rk2.Sg s)/\∀v H',aC H H'->aX H' o v->Q v H'
def zL (K:W.Frag) (t:Adr):Sp:=λvs H Q _=>∃(x:Addr) (m:V) (fns:List F2.Fd) (L:List Lev),vs=[.ref x,m]/\F2.FlowsAt K t.bX H x fns/\fN K H (dE L) m/\(∀e∈L,LevOk fns e)/\L.length<=11/\∀v H',aC H H'->oH H H' L v->Q v H'
def Ed (K:W.Frag):Sp:=λvs H Q _=>∃(v:V) (ps:List (Int×Rk2.Tr)) (a:Addr) (as:List V),vs=[v]/\gB K H ps a v/\aG K H a as/\jo as/\ps.length<=1000/\∀d kvs H',aC H H'->H' d=some (.dK kvs)->Rk2.NV H' kvs (cQ ps)->Q (.ref d) H'
def Dg (K:W.Frag) (t:Adr):Sp:=λvs H Q _=>∃(x dx fl sp mk a:Addr) (k:Nat) (fns:List F2.Fd) (svs mvs:List V) (ks:List Str) (Ms:List (List Lev)) (L0:List Lev) (e:Lev) (ps:List (Int×Rk2.Tr)) (as:List V) (v:V),vs=[.ref x,.ref fl,.ref sp,.ref mk,.int (k:Int)]/\H x=some (.ins t.aj dx [])/\TbA K t.bX (ers x H) fl sp mk fns svs mvs ks Ms/\Ms[k]?=some (L0++[e])/\svs[k]?=some v/\gB K (ers x H) ps a v/\aG K (ers x H) a as/\jo as/\ps.length<=1000 /\
 ∀S H',aC (ers x H) H'->StpA K t.aj t.bX H' x S fns svs mvs ks Ms L0 e ps as->Q .non H'
def CU (K:W.Frag) (t:Adr):Sp:=λvs H Q _=>∃(x:Addr) (A:Ak) (k:Nat) (kd:Str),vs=[.ref x,.int (k:Int)]/\gi K t.aj t.bX H x A/\A.ks[k]?=some kd/\Q (.bl (decide (kd="wait"))) H
def D1 (K:W.Frag) (t:Adr):Sp:=λvs H Q _=>∃(x:Addr) (A:Ak) (k:Nat) (L:List Lev) (ch:List (Str×Nat)) (fs:List Lv) (cv lv:V),vs=[.ref x,.int (k:Int),cv,lv]/\gi K t.aj t.bX H x A/\AkOk A/\A.Ms[k]?=some L/\cR K H ch cv/\dD 1001 H fs lv/\LvlOk A.fns ch fs/\∀H',aC H H'->Q (.bl (iO (cQ A.ps) L ch fs)) H'
def Gk (K:W.Frag) (t:Adr):Sp:=λvs H Q _=>∃(x:Addr) (A:Ak) (k:Nat) (ch:List (Str×Nat)) (fs:List Lv) (cv lv:V),vs=[.ref x,.int (k:Int),cv,lv]/\gi K t.aj t.bX H x A/\AkOk A/\k<A.Ms.length/\cR K H ch cv/\dD 1001 H fs lv/\LvlOk A.fns ch fs/\∀H',aC H H'->Q (.bl (eK A k ch fs)) H'
def A0 (K:W.Frag) (t:Adr):Sp:=λvs H Q _=>∃(x:Addr) (A:Ak) (k to_:Nat) (fs:List Lv) (lv:V),vs=[.ref x,.int (k:Int),lv]/\gi K t.aj t.bX H x A/\AkOk A/\k<A.Ms.length/\fw A.e.F A.e.r 0 to_/\dD 1001 H fs lv/\LvlOk A.fns (A.L0.map Lev.fr++[(A.e.F.name,to_)]) fs/\∀H',aC H H'->Q (.bl (eK A k (A.L0.map Lev.fr++[(A.e.F.name,to_)]) fs)) H'
def vO (K:W.Frag) (t:Adr):Sp:=λvs H Q _=>∃(x:Addr) (A:Ak) (k0 k1 n0 n1:Nat),vs=[.ref x,.int (k0:Int),.int (k1:Int)]/\gi K t.aj t.bX H x A/\AkOk A/\k0<A.Ms.length/\k1<A.Ms.length/\fw A.e.F A.e.r 0 n0/\fw A.e.F A.e.r 1 n1/\(∀n,LvlOk A.fns (A.at n) A.fs)/\∀H',aC H H'->Q (.bl (eK A k0 (A.at n0) A.fs&&eK A k1 (A.at n1) A.fs)) H'
def BX (K:W.Frag) (t:Adr):Sp:=λ_ _ _ _=>False
def CV (K:W.Frag):Sp:=λ_ _ _ _=>False
def FN (K:W.Frag) (t:Adr):Sp:=λvs H Q _=>∃(x:Addr) (A:Ak) (k:Nat) (rg:RG),vs=[.ref x,.int (k:Int)]/\gi K t.aj t.bX H x A/\AkOk A/\aG K H A.S.r rg.items/\k<A.Ms.length /\
 ((RG.turns rg/\∀H',aC H H'->Q (.bl false) H')\/∃n o to_,RG.gives n rg/\df A.e.lv rg=some o/\(∀a∈rg.items,∀t,cS A.e.lv a=some (some t)->Rk2.okl (Rk2.lvs t))/\(∀x s a b,rg=.op x s a b->Rk2.Sg s)/\fw A.e.F A.e.r 0 to_/\LvlOk A.fns (A.at to_) (A.give n o)/\∀H',aC H H'->Q (.bl (eK A k (A.at to_) (A.give n o))) H')
def GR (K:W.Frag):Sp:=λvs H Q _=>∃(r d:Addr) (rg:RG) (f:Lv) (b:Nat),vs=[.ref r,.ref d]/\aG K H r rg.items/\iA b H f d /\
 ((∃n,RG.gives n rg/\∀p H',aC H H'->aG K H' p [.str "go"]->Q (.ref p) H')\/∃a o,(rg=.ifs a\/rg=.whl a)/\cS f a=some o/\∀p v H',aC H H'->aG K H' p [.str "if",v]->aX H' o v->Q (.ref p) H')
def nS (f:Lv) (rg:RG):Prop:=(∀a∈rg.items,∀t,cS f a=some (some t)->Rk2.okl (Rk2.lvs t))/\∀x s a b,rg=.op x s a b->Rk2.Sg s
def FC (K:W.Frag) (t:Adr):Sp:=λvs H Q _=>∃(x:Addr) (A:Ak) (rg:RG) (b:Bool),vs=[.ref x]/\gi K t.aj t.bX H x A/\AkOk A/\aG K H A.S.r rg.items/\nS A.e.lv rg/\Sb H A rg b/\∀H',aC H H'->Q (.bl b) H'
def AA (K:W.Frag) (t:Adr):Sp:=λvs H Q _=>∃(p sp mk a:Addr) (k:Nat) (A:Ak) (rg:RG) (v:V) (w:Rw) (b:Bool),vs=[.ref p,.ref sp,.ref mk,.int (k:Int)]/\aK K H p (A.fns.map λf=>V.ref f.fa)/\A.fns≠[]/\A.fns.length<=12/\(∀f∈A.fns,F2.FnAt K H f)/\(A.fns.map (·.name)).Nodup/\TbB K H sp mk A/\A.Ms[k]?=some (A.L0++[A.e])/\A.svs[k]?=some v/\gB K H A.ps a v/\aG K H a A.as/\jo A.as/\A.ps.length<=1000/\AkOk A/\A.e.F.rs[A.e.r]?=some w/\aG K H w.r rg.items/\nS A.e.lv rg/\Sb H A rg b/\∀H',aC H H'->Q (.bl b) H'
def FX (K:W.Frag):Sp:=λvs H Q _=>∃(a:Addr) (ns:List Int) (k:Int),vs=[.ref a,.int k]/\aK K H a (ns.map V.int)/\ns.length<=63/\0<=k/\∀z,Q (.int z) H
def CP (K:W.Frag):Sp:=λvs H Q _=>∃(s:Str) (a b:Int),vs=[.str s,.int a,.int b]/\0<=a/\0<=b/\a<K21.wide/\b<K21.wide/\Q (.int (K21.valOf s a b)) H
def Aq (K:W.Frag):Sp:=λvs H Q _=>∃(c:Int) (mn:Nat),vs=[.int c,.int mn]/\mn<=20/\∀ws:List Str,ws.length=mn->ws.Nodup->(∀w∈ws,K12.Nm w)->K12.Gives H Q (ws.map V.str)
def Bo (K:W.Frag):Sp:=λvs H Q _=>∃(c:Int) (bl:Addr) (bs:List Int),vs=[.int c,.ref bl]/\aK K H bl (bs.map V.int)/\gM bs/\∀tr v H',aC H H'->Rk2.RAt H' tr v->TOk tr->Q v H'
def mD (K:W.Frag) (n:Nat):Sp:=λvs H Q _=>∃(tr:Rk2.Tr) (v:V) (d:Addr) (kvs:List (aO×V)) (g:Int->Option Rk2.Tr),vs=[v,.ref d]/\Rk2.dp tr<n/\Rk2.RAt H tr v/\H d=some (.dK kvs)/\Rk2.NV H kvs g/\Rk2.okl (Rk2.lvs tr)/\(∀k t,g k=some t->Rk2.okl (Rk2.lvs t))/\∀v' H',aC H H'->Rk2.RAt H' (Rk2.pt g tr) v'->Q v' H'
def mX (H:Hp) (Q:VK) (ok:List (Option Rk2.Tr)->Prop):Prop:=∀l us vw H',aC H H'->H l=none->H' l=some (.lst us)->Rk2.Ps (aX H') us vw->ok vw->Q (.ref l) H'
def Ax (K:W.Frag):Sp:=λvs H Q _=>∃(c:Int) (sz:Nat) (bl:Addr) (bs:List Int) (cm:Int),vs=[.int c,.int sz,.ref bl,.int cm]/\sz<=20/\aK K H bl (bs.map V.int)/\gM bs/\0<=cm/\mX H Q (λvw=>vw.length=sz/\fG vw)
def FZ (K:W.Frag):Sp:=λvs H Q _=>∃(c:Int) (kl bl:Addr) (us:List V) (ko:List (Option Rk2.Tr)) (bs:List Int),vs=[.int c,.ref kl,.ref bl]/\aK K H kl us/\Rk2.Ps (aX H) us ko/\bo ko/\ko.length<=100/\aK K H bl (bs.map V.int)/\gM bs/\∀l xs ps H',aC H H'->H l=none->H' l=some (.lst xs)->Rk2.Ps (fX K H') xs ps->ps.length<=10->(∀b∈ps,bp b.2)->Q (.ref l) H'
def Ew (K:W.Frag):Sp:=λvs H Q _=>∃(l:Addr) (xs:List V) (ps:List (Int×Rk2.Tr)),vs=[.ref l,.non]/\aK K H l xs/\Rk2.Ps (fX K H) xs ps/\ps.length<=100/\∀d kvs H',aC H H'->H d=none->H' d=some (.dK kvs)->Rk2.NV H' kvs (cQ ps)->Q (.ref d) H'
def Cy (K:W.Frag):Sp:=λvs H Q _=>∃(o:Option Rk2.Tr) (v:V),vs=[v]/\aX H o v/\cc o/\∀o' v' H',aC H H'->aX H' o' v'->cc o'->(o=none->o'=none)->(∀u,o=some u->∃u',o'=some u')->Q v' H'
def i9 (H:Hp) (d:Addr) (g:Int->Option Rk2.Tr):Prop:=(∃kvs,H d=some (.dK kvs)/\Rk2.NV H kvs g)/\∀k t,g k=some t->bp t
theorem i9.mono {H H':Hp} {d:Addr} {g:Int->Option Rk2.Tr} (s:aC H H') (h:i9 H d g):i9 H' d g:=#[let ⟨kvs,a,b⟩:=h.1; #[kvs,s _ _ a,b.mono s],h.2]
def zx (K:W.Frag):Sp:=λvs H Q _=>∃(c:Int) (kl nd bl:Addr) (us:List V) (ko:List (Option Rk2.Tr)) (g:Int->Option Rk2.Tr) (bs:List Int) (cm:Int),vs=[.int c,.ref kl,.ref nd,.ref bl,.int cm]/\aK K H kl us/\Rk2.Ps (aX H) us ko/\bo ko/\ko.length<=100/\i9 H nd g/\aK K H bl (bs.map V.int)/\gM bs/\mX H Q (λvw=>vw.length=ko.length/\bo vw)
def CO (K:W.Frag):Sp:=λvs H Q _=>∃(c:Int) (kl nd bl:Addr) (ks:List V) (Kn:List (List (Option Rk2.Tr))) (g:Int->Option Rk2.Tr) (bs:List Int) (cm:Int),vs=[.int c,.ref kl,.ref nd,.ref bl,.int cm]/\aK K H kl ks/\Rk2.Ps (fH K H) ks Kn/\(∀kn∈Kn,bo kn/\kn.length<=100)/\Kn.length<=10/\i9 H nd g/\aK K H bl (bs.map V.int)/\gM bs/\∀l ws Vs H',aC H H'->H l=none->H' l=some (.lst ws)->Rk2.Ps (ik H H') ws Vs->Vs.map List.length=Kn.map List.length->(∀vw∈Vs,bo vw)->Q (.ref l) H'
def CL (K:W.Frag):Sp:=λvs H Q _=>∃(sv mv cv:V) (kA d:Addr) (kd:Str) (L:List Lev) (ch:List (Str×Nat)) (kl:List V) (Kn:List (List (Option Rk2.Tr))) (g:Int->Option Rk2.Tr),vs=[sv,mv,cv,.ref kA,.ref d]/\gV K H kd sv/\fN K H (dE L) mv/\cR K H ch cv/\aK K H kA kl/\Rk2.Ps (fH K H) kl Kn/\i9 H d g/\HldOk L ch Kn/\∀H',aC H H'->Q (.bl (fA g kd L ch Kn)) H'
def Ch (K:W.Frag):Sp:=λvs H Q _=>∃(l:Addr) (ws:List V) (Kn:List (List (Option Rk2.Tr))),vs=[.ref l]/\aK K H l ws/\Rk2.Ps (dB H) ws Kn/\(∀kn∈Kn,bo kn/\kn.length<=20)/\Kn.length<=3/\mX H Q (λvw=>vw.length<=100/\bo vw)
def Fy (K:W.Frag):Sp:=λvs H Q _=>∃(c:Int) (nl:Addr) (ws:List Str),vs=[.int c,.ref nl]/\aK K H nl (ws.map V.str)/\0<ws.length/\∀a,dL ws a->Q a H
def AX (K:W.Frag):Sp:=λvs H Q _=>∃(a:V) (nl vl:Addr) (ws:List Str) (us:List V) (vw:List (Option Rk2.Tr)) (o:Option Rk2.Tr),vs=[a,.ref nl,.ref vl]/\dL ws a/\aK K H nl (ws.map V.str)/\aK K H vl us/\Rk2.Ps (aX H) us vw/\vw.length=ws.length/\ws.length<=100/\cS (lk ws vw) a=some o/\∀v H',aC H H'->aX H' o v->Q v H'
def AZ (K:W.Frag):Sp:=λvs H Q _=>∃(ol ul:Addr) (n0 n1 o0 o1:Str) (m:Nat),vs=[.ref ol,.ref ul,.int m]/\aK K H ol [.str n0,.str n1]/\aK K H ul [.str o0,.str o1]/\K12.Nm n0/\K12.Nm n1/\[o0,o1].Nodup/\(∀w∈[o0,o1],K12.Nm w)/\m<=5/\∀F H',aC H H'->F2.FnAt K H' F->F.name=n1->F2.nms F=[o0,o1]->0<F.rs.length->bN K H' 6 (.ref F.fa)->Q (.ref F.fa) H'
def BB (K:W.Frag):Sp:=λvs H Q _=>∃(cl nl:Addr) (cs:List Int) (ws:List Str) (own:Str),vs=[.ref cl,.ref nl,.str own]/\aK K H cl (cs.map V.int)/\cs.length=15/\aK K H nl (ws.map V.str)/\3<=ws.length/\ws.length<=5/\(∀w∈ws,K12.Nm w)/\K12.Nm own/\∀p rl ep rr at_ ex rg H',aC H H'->aG K H' p [.ref rl,.int (at_:Nat),.ref ep]->H' rl=some (.lst (rr.map λx=>V.ref x.w.r))->aG K H' ep (ex.map λe:Nat=>V.int e)->Rs K H' ws rr at_ ex rg->Q (.ref p) H'
def EV (K:W.Frag):Sp:=λvs H Q _=>∃(r nl vl:Addr) (rg:RG) (ws:List Str) (us:List V) (vw:List (Option Rk2.Tr)),vs=[.ref r,.ref nl,.ref vl]/\aG K H r rg.items/\gC ws rg/\aK K H nl (ws.map V.str)/\H vl=some (.lst us)/\Rk2.Ps (aX H) us vw/\vw.length=ws.length/\ws.length<=20/\fG vw/\mX H Q (λko=>ko=dw ws vw rg)
def BG (K:W.Frag):Sp:=λvs H Q _=>∃(r el nl vl bl:Addr) (c:Int) (rg:RG) (k0 k1:Nat) (ws:List Str) (us:List V) (vw:List (Option Rk2.Tr)) (bs:List Int),vs=[.ref r,.int c,.ref el,.ref nl,.ref vl,.ref bl]/\aG K H r rg.items/\gC ws rg/\aK K H el [.int (k0:Int),.int (k1:Int)]/\aK K H nl (ws.map V.str)/\aK K H vl us/\Rk2.Ps (aX H) us vw/\vw.length=ws.length/\ws.length<=20/\fG vw/\aK K H bl (bs.map V.int)/\gM bs/\∀a as H',aC H H'->aG K H' a as->iB H' rg k0 k1 as->Q (.ref a) H'
structure Tb (K:W.Frag) (H:Hp) (sA mA cA kA d nA:Addr) (svs mvs cvs kl:List V) (ks:List Str) (Ms:List (List Lev)) (chs:List (List (Str×Nat))) (Kn:List (List (Option Rk2.Tr))) (g:Int->Option Rk2.Tr) (ws:List Str):Prop where
 s:aK K H sA svs
 ss:Rk2.Ps (gV K H) svs ks
 m:aK K H mA mvs
 ms:Rk2.Ps (λL v=>fN K H (dE L) v) mvs Ms
 c:aK K H cA cvs
 cs:Rk2.Ps (cR K H) cvs chs
 k:aK K H kA kl
 kk:Rk2.Ps (fH K H) kl Kn
 g:i9 H d g
 n:aK K H nA (ws.map V.str)
 ok:∀L∈Ms,∀ch∈chs,HldOk L ch Kn
 l:ws.length<=20
theorem Tb.mono {K:W.Frag} {H H':Hp} {sA mA cA kA d nA:Addr} {svs mvs cvs kl:List V} {ks:List Str} {Ms:List (List Lev)} {chs:List (List (Str×Nat))} {Kn:List (List (Option Rk2.Tr))} {g:Int->Option Rk2.Tr} {ws:List Str} (e:aC H H') (h:Tb K H sA mA cA kA d nA svs mvs cvs kl ks Ms chs Kn g ws):Tb K H' sA mA cA kA d nA svs mvs cvs kl ks Ms chs Kn g ws :=
 #[e.seq h.s,Rk2.Ps.imp (λ_ _ z=>z.mono e) h.ss,e.seq h.m,Rk2.Ps.imp (λ_ _ z=>z.mono e) h.ms,e.seq h.c,Rk2.Ps.imp (λ_ _ z=>z.mono e) h.cs,e.seq h.k,Rk2.Ps.imp (λ_ _ z=>z.mono e) h.kk,h.g.mono e,e.seq h.n,h.ok,h.l]
def A6 (K:W.Frag):Sp:=λvs H Q _=>∃(r a sA mA cA kA d nA:Addr) (svs mvs cvs kl:List V) (ks:List Str) (Ms:List (List Lev)) (chs:List (List (Str×Nat))) (Kn:List (List (Option Rk2.Tr))) (g:Int->Option Rk2.Tr) (ws:List Str) (rg:RG) (as:List V) (b:Bool),vs=[.ref r,.ref a,.ref sA,.ref mA,.ref cA,.ref kA,.ref d,.ref nA]/\Tb K H sA mA cA kA d nA svs mvs cvs kl ks Ms chs Kn g ws/\aG K H r rg.items/\aG K H a as/\Db H rg as ks Ms chs Kn g ws b/\∀H',aC H H'->Q (.bl b) H'
def BJ (K:W.Frag) (t:Adr):Sp:=λvs H Q _=>∃(p sp mk a:Addr) (k:Nat) (A:Ak) (rg:RG) (v:V) (w:Rw) (b:Bool),vs=[.ref p,.ref sp,.ref mk,.int (k:Int),.bl b]/\aK K H p (A.fns.map λf=>V.ref f.fa)/\A.fns≠[]/\A.fns.length<=12/\(∀f∈A.fns,F2.FnAt K H f)/\(A.fns.map (·.name)).Nodup/\TbB K H sp mk A/\A.Ms[k]?=some (A.L0++[A.e])/\A.svs[k]?=some v/\gB K H A.ps a v/\aG K H a A.as/\jo A.as/\A.ps.length<=1000/\AkOk A/\A.e.F.rs[A.e.r]?=some w/\aG K H w.r rg.items/\nS A.e.lv rg/\Sb H A rg b/\cB K H 13 (A.fns.map λf=>V.ref f.fa)/\cB K H 13 A.svs/\Rk2.Ps (λL v=>dF K H (dE L) v) A.mvs A.Ms/\A.Ms.length<=100/\∀H',Q (.bl true) H'
def Cf (K:W.Frag):List V->Hp->VK->Prop:=λxs H Q=>∃p ys,xs=[.ref p]/\(aK K H p ys\/aG K H p ys)/\∀l,H l=none->Q (.ref l) (upd H l (.lst ys))
theorem D8 {X:Cx} {K:W.Frag} {tg l:Expr} (f:W.Frag->TI) (h:X.K=K) (p:PI X tg l (f X.K)):PI X tg l (f K):=h ▸ p
def sp_law (K:W.Frag):Sp:=λvs H Q _=>∃(a:Addr) (ns:List Int),vs=[.ref a]/\aK K H a (ns.map V.int)/\ns.length<=63/\∀H',Q (.bl true) H'
theorem lx {X:Cx} {L:List Stmt} {R:TS->Prop} (f:let XX:=X; ∃t,bV XX L t/\R t):∃t,bV X L t/\R t:=f
theorem wO {X:Cx} {K:W.Frag} {e:Expr} (f:W.Frag->TE) (h:X.K=K) (p:PE X e (f X.K)):PE X e (f K):=h ▸ p
end
end K43
namespace K43
open PySem L2 K12
section
variable {P:Program} {w:World} {K:W.Frag} {mg:Str->Option Value} {base:Heap} {t:Adr}
theorem C1:FnScope ["names"] ["names"] (bD oJ):=by walk_at "s"
theorem tE (T:Txt K mg t):FnOk P w K mg base CX0 1 t.x4 t.yD ["names"] (K12.sp_each_once K):=by
 refine T.each_once.F.ok C1 (λvs H Q E h=>?_) (λcdv A outer s H vs Q E hr h=>?_)
 . obtain⟨p0,ss,rfl,hS,hl,q⟩:=h;rfl
 . obtain⟨p0,ss,rfl,hS,hl,q⟩:=h;refine#[_,(aM (@aa _ _ _ _ (d6 (DE rfl) (by rfl) T.b_list gp (aE (d6 (tY rfl) (by rfl) T.b_dict lH (aE (gO (N':=["name"]) (js:=[none]) (by kernel_rfl) rfl (gG (aB 0)) fP (λ_ _ _ _=>(bS (i:=0) (show(["name"]:List Str).Nodup by decide +kernel) rfl (Or.inl rfl) (.inr rfl))) (λ_ _ _ _=>fQ) (λ_ _ _ _=>(aY (aE (aB 0) (aE d9 aF rfl) rfl)))) aF rfl)) aF rfl))) al),?_];refine#[_,rfl,p0,rfl,#[_,hS],λp hp=>km (xs:=ss.map V.str) (by rw[HH]; omega) (λi acc H2=>i<=ss.length/\aC H H2/\H2 p=some (.lst acc)/\∃ps:List Addr,acc=ps.map V.ref/\Paired (λa (kv:aO×V)=>aG K H2 a [kV kv.1,kv.2]) ps (cY (ss.take i))) #[Hl _,aC.new hp,aL,[],rfl,.nil] ?_ ?_ ?_]
   . rintro i acc H2 hi ⟨hi',s2,h2,ps,rfl,hps⟩;refine#[h2,?_,s2.seq hS];have:=Paired.length hps;rw[HH,this];unfold cY;rw[HH,Hx];omega
   . rintro i x acc H2 hx ⟨hi',s2,h2,ps,rfl,hps⟩;have hi:i<ss.length:=by have:=(HL.mp hx).1;rw[HH] at this;exact this
     rw[HW] at hx;have hx:V.str ss[i]=x:=by simpa [hi] using hx
     subst hx;refine#[_,rfl,(by show 2<=sizeLine; decide),λa ha=>?_];have hap:a≠p:=λz=>by rw[z,h2] at ha; cases ha
     have e:(upd H2 a (.tup [V.str ss[i],V.bl true])) p=some (.lst (ps.map V.ref)):=by rw[ay hap.symm]; exact h2
     refine#[e,hi,?_,aL,ps++[a],by rw[Hk]; rfl,?_]
     . exact(s2.trans (aC.new ha)).upd hp
     . have e2:cY (ss.take (i+1))=cY (ss.take i)++[(Sum.inr ss[i],V.bl true)]:=by unfold cY;rw[IU,Hk];simp [hi]
       rw[e2];refine Paired.snoc (Paired.mapP hps λb kv z=>By ((aC.new ha).tup z) e) ?_;exact aG.of (by rw[ay hap]; exact aL)
   . rintro acc H2 ⟨hi',s2,h2,ps,rfl,hps⟩;have e0:ss.take (ss.map V.str).length=ss:=by rw[HH]; exact IB
     rw[e0] at hps;refine#[p,ps,cY ss,rfl,aK.of h2,hps,by unfold cY; rw[HH]; omega,λd hd=>?_];rw[ES];refine#[d,cY (onceL ss),rfl,aL,λl hl'=>?_];rw[F4];exact q l _ ((s2.trans (aC.new hd)).trans (aC.new hl')) (s2.free ((aC.new hd).free hl')) aL
theorem GE:FnScope ["row"] ["row"] (bD pe):=by walk_at "s"
theorem Bm (T:Txt K mg t):FnOk P w K mg base CX0 1 t.x8 t.yG ["row"] (K12.sp_gives K):=by
 refine T.gives.F.ok GE (λvs H Q E h=>?_) (λcdv A outer s H vs Q E hr h=>?_)
 . obtain⟨r,xs,g,as,rfl,hr,hrow,q⟩:=h;rfl
 . obtain⟨r,xs,g,as,rfl,hr,hrow,q⟩:=h;refine#[_,(aM (@aa _ _ _ _ (@ig _ _ _ _ _ _ _ _ (au fM (aI (show aJ _ (aR K) from aS) (aB 0) aD (λ_ _=>rfl)) (gn T.HB) (by with_unfolding_all rfl)) (aI (show aJ _ (aR K) from aS) (aB 0) aD (λ_ _=>rfl)) dX)) al),?_];obtain⟨kd,h0,hc⟩:=EI hrow;refine#[_,rfl,r,xs,_,_,rfl,rfl,hr,h0,t.ql,giving.map V.str,rfl,.inr (T.HD H),rfl,Aw,_,rfl,?_];rcases hc with⟨x,rfl,e,h1⟩|⟨rfl,e⟩
   . exact aU e #[_,rfl,r,xs,_,_,rfl,rfl,hr,h1,q]
   . exact ak (Gd e) q
theorem zp:FnScope ["row"] ["row"] (bD me):=by walk_at "s"
theorem Cp (T:Txt K mg t):FnOk P w K mg base CX0 1 t.wx t.yA ["row"] (K12.sp_atoms_of K):=by
 refine T.atoms_of.F.ok zp (λvs H Q E h=>?_) (λcdv A outer s H vs Q E hr h=>?_)
 . obtain⟨r,xs,g,as,rfl,hr,hrow,hl,q⟩:=h;rfl
 . obtain⟨r,xs,g,as,rfl,hr,hrow,hl,q⟩:=h;refine#[_,(aM (ao (au bE (aI (show aJ _ (aR K) from aS) (aB 0) aD (λ_ _=>rfl)) aQ (am _)) (@aP _ _ _ (@aa _ _ _ _ (d6 j3 (by rfl) T.b_list gp (aE (aI (show aJ _ (aR K) from aS) (aB 0) aD (λ_ _=>rfl)) aF rfl)))) al) (@aP _ _ _ (@aa _ _ _ _ (gO (N':=["place","row"]) (js:=[none,some 0]) (by kernel_rfl) rfl (mH (aI Fi (gn T.Gz) (aI (show aJ _ (aR K) from aS) (aB 0) aD (λ_ _=>rfl)) (λ_ _=>rfl))) fP (λ_ _ _ _=>(bS (i:=0) (show(["place","row"]:List Str).Nodup by decide +kernel) rfl (Or.inl rfl) (.inr rfl))) (λ_ _ _ _=>fQ) (λ_ _ _ _=>(aI (show aJ _ (aR K) from aS) (aB 1) (aB 0) (λ_ _=>rfl))))))),?_];obtain⟨kd,h0,hc⟩:=Cg hrow;refine#[_,rfl,r,xs,_,_,rfl,rfl,hr,h0,rfl,_,rfl,?_];rcases hc with⟨rfl,p,h3,hp⟩|⟨hne,pl,hk,hpl,hat⟩
   . exact aU (HK rfl) #[_,rfl,r,xs,_,_,rfl,rfl,hr,h3,p,as,rfl,.inr hp,λl hl=>q l _ (aC.new hl) hl aL]
   . refine ak (λh=>hne (V.str.inj (bM h))) ?_;refine#[_,rfl,r,xs,_,_,rfl,rfl,hr,h0,t.qm,tabl,_,_,rfl,rfl,T.HE,hk,λa ha=>?_];refine#[a,rfl,#[_,ha],λp hp=>vn (xs:=pl.map V.int) (by rw[HH]; omega) (λi acc H2=>acc=as.take i/\H2=upd H p (.lst acc)) #[rfl,rfl] ?_ ?_ ?_]
     . rintro i acc H2 hi ⟨rfl,rfl⟩;exact#[aL,by rw[Hx]; omega,(aC.new hp).tup ha]
     . rintro i x acc H2 hx ⟨rfl,rfl⟩;have hi:i<as.length:=by have:=(HL.mp hx).1;rw[HH] at this;omega
       obtain⟨p1,hp1,hp2⟩:=hat i as[i] (by simp [hi]);rw[HW,hp1] at hx;have hx:V.int p1=x:=by simpa using hx
       subst hx;refine#[_,rfl,_,rfl,r,xs,_,_,rfl,rfl,(aC.new hp).tup hr,hp2,aL,?_,pN];rw[IU];simp [hi]
     . rintro acc H2 ⟨rfl,rfl⟩;have e:(as.take (pl.map V.int).length)=as:=by rw[HH,hpl]; exact IB
       exact q p _ (aC.new hp) hp (by rw[aL,e])
theorem A4:FnScope ["row"] ["row"] (bD nG):=by walk_at "s"
theorem FO (T:Txt K mg t):FnOk P w K mg base CX0 2 t.xc t.yh ["row"] (K12.sp_reads K):=by
 have Qj:=tE (P:=P) (w:=w) (base:=base) T;have Qv:=Cp (P:=P) (w:=w) (base:=base) T;refine T.reads.F.ok A4 (λvs H Q E h=>?_) (λcdv A outer s H vs Q E hr h=>?_)
 . obtain⟨r,xs,g,as,rfl,hrw,hrow,hl,hat,q⟩:=h;rfl
 . obtain⟨r,xs,g,as,rfl,hrw,hrow,hl,hat,q⟩:=h;refine#[_,(aM (@aa _ _ _ _ (bC T.each_once Qj (hr.mono (by decide)) (aE (gO (N':=["atom"]) (js:=[none]) (by kernel_rfl) rfl (gG (bC T.atoms_of Qv (hr.mono (by decide)) (aE (aB 0) aF rfl))) fP (λ_ _ _ _=>(bS (i:=0) (show(["atom"]:List Str).Nodup by decide +kernel) rfl (Or.inl rfl) (.inr rfl))) (λ_ _ _ _=>(wW (jc (cP (show bx _ (.builtin "isinstance") (EY K) from mC) (by rfl) T.b_isinstance mE (aE (aB 0) (aE (lX (v:=V.ty "str") rfl T.b_str pM rfl) aF rfl) rfl))))) (λ_ _ _ _=>(aB 0))) aF rfl))) al),?_];refine#[_,rfl,r,xs,g,as,rfl,hrw,hrow,hl,λl0 H1 s1 n1 e1=>?_];refine#[l0,rfl,#[_,aK.of e1],λp hp=>km (xs:=as) (by omega) (λi acc H2=>acc=(strsOf (as.take i)).map V.str/\H2=upd H1 p (.lst acc)) #[rfl,rfl] ?_ ?_ ?_]
   . rintro i acc H2 hi ⟨rfl,rfl⟩;refine#[aL,?_,(aC.new hp).seq (aK.of e1)];have:=pB (as.take i);rw[HH];rw[Hx] at this;omega
   . rintro i x acc H2 hx ⟨rfl,rfl⟩;have hi:i<as.length:=(HL.mp hx).1;have e2:strsOf (as.take (i+1))=strsOf (as.take i)++strsOf [x]:=by rw[IU,hx,Fc];rfl
     rcases hat x (HP hx) with⟨s,rfl,hn⟩|⟨z,rfl⟩
     . refine#[_,rfl,_,_,_,true,rfl,.str _,rfl,_,rfl,?_];refine#[_,rfl,aL,?_,pN];rw[e2,Hk];rfl
     . refine#[_,rfl,_,_,_,false,rfl,.int _,rfl,_,rfl,?_];refine#[?_,?_]
       . rw[e2,D9,II]
       . rfl
   . rintro acc H2 ⟨rfl,rfl⟩;rw[IB];have hle:=pB as;exact#[p,strsOf as,rfl,aK.of aL,by omega,λl H3 s3 n3 e3=>q l H3 ((s1.trans (aC.new hp)).trans s3) (s1.free ((aC.new hp).free n3)) e3]
theorem kZ:FnScope ["function","found","row","given"] ["function"] (bD oG):=by walk_at "s"
theorem GT (T:Txt K mg t):FnOk P w K mg base CX0 3 t.xY t.yf ["function"] (K12.sp_names_of K):=by
 have Qj:=tE (P:=P) (w:=w) (base:=base) T;have Qw:=Bm (P:=P) (w:=w) (base:=base) T;have Qx:=FO (P:=P) (w:=w) (base:=base) T;refine T.names_of.F.ok kZ (λvs H Q E h=>?_) (λcdv A outer s H vs Q E hr h=>?_)
 . obtain⟨f,ps,ds,rfl,hf,q⟩:=h;rfl
 . obtain⟨f,ps,ds,rfl,hf,q⟩:=h;refine#[_,(aM (@ag _ _ 1 _ _ _ _ kZ.nd rfl (Or.inl rfl) (d6 j3 (by rfl) T.b_list gp (aE (aI (show aJ _ (aR K) from aS) (aB 0) aD (λ_ _=>rfl)) aF rfl)) (by rfl) (by walk_at "f")) (aM (cj PassesOwn.never rfl (mH (aI (show aJ _ (aR K) from aS) (aB 0) aD (λ_ _=>rfl))) (bS (i:=2) kZ.nd rfl (Or.inl rfl)) (aM (@ag _ _ 3 _ _ _ _ kZ.nd rfl (Or.inl rfl) (bC T.gives Qw (hr.mono (by decide)) (aE (aB 2) aF rfl)) (by rfl) (by walk_at "f")) (aM (ao (dG (fZ (aB 3))) (@aP _ _ _ (@ee _ _ _ _ (dU Hs Hy Hz iS (aB 1) (aE (aB 3) aF rfl)) (by rfl))) al) (@aP _ _ _ (@ee _ _ _ _ (dU Hs PySem.F.slot_list_extend PySem.F.type_list_extend GH (aB 1) (aE (bC T.reads Qx (hr.mono (by decide)) (aE (aB 2) aF rfl)) aF rfl)) (by rfl)))))) (@aP _ _ _ (@aa _ _ _ _ (bC T.each_once Qj (hr.mono (by decide)) (aE (aB 1) aF rfl)))))),?_];obtain⟨n,b,pp,rr,hF,hP,hR⟩:=hf.fn;refine#[_,rfl,f,_,_,_,rfl,rfl,hF,rfl,pp,_,rfl,.inr hP,λl hl=>?_];refine#[_,rfl,f,_,_,_,rfl,rfl,(aC.new hl).tup hF,rfl,?_];refine#[rr,rfl,#[_,(aC.new hl).tup hR],Cu (xs:=ds.map λd=>V.ref d.r) (λi σ H2=>aC H H2/\∃v1 v2 fs,σ=[some (.ref f),some (.ref l),v1,v2]/\H2 l=some (.lst (List.map V.str fs))/\onceL fs=onceL (ps++(ds.take i).flatMap rowStrs)/\fs.length<=100+11 * i) #[aC.new hl,_,_,ps,rfl,aL,by simp,by have:=hf.pl; omega] ?_ ?_ ?_]
   . rintro i σ H2 hi ⟨s2,_⟩;exact s2.tup hR
   . rintro i x σ H2 hx ⟨s2,v1,v2,fs,rfl,h2,ho,hlen⟩;have hi:i<ds.length:=by have:=(HL.mp hx).1;rw[HH] at this;exact this
     rw[HW] at hx;have hx:V.ref ds[i].r=x:=by simpa [hi] using hx
     subst hx;have hd:=hf.rows ds[i] (IW hi);have hds:=hf.dl;have ef:(ds.take (i+1)).flatMap rowStrs=(ds.take i).flatMap rowStrs++rowStrs ds[i]:=by rw[IU,List.flatMap_append];simp [hi]
     have hol:=FE (strsOf ds[i].as);have hsl:=pB ds[i].as;have hal:=hd.len;obtain⟨xs,hr1,hr2⟩:=(hd.mono s2).row;refine#[_,rfl,ds[i].r,xs,_,_,rfl,hr1,hr2,?_];refine#[_,rfl,_,rfl,?_];cases hg:ds[i].gx with
     | none =>
       refine iW #[_,rfl,.inl #[rfl,_,aK.of h2],_,rfl,ds[i].r,xs,_,_,rfl,hr1,hr2,hd.len,hd.ats,λl4 H4 s4 n4 e4=>?_];refine#[l,l4,_,_,rfl,rfl,s4 _ _ h2,e4,cG (by rw[HH,HH]; omega),?_];refine#[(s2.trans s4).upd hl,_,_,fs++[]++onceL (strsOf ds[i].as),rfl,(by rw[aL,II,Hk]),?_,(by simp only[HU,IQ]; omega)];rw[uH ho,ef,Hv];unfold rowStrs;rw[hg];rfl
     | some x =>
       refine pQ #[_,rfl,.inl #[rfl,_,aK.of h2],_,rfl,l,_,_,rfl,rfl,h2,lt_line' (by rw[HH]; omega),?_];have s3:aC H (upd H2 l (.lst (List.map V.str fs++[V.str x]))):=s2.upd hl;obtain⟨xs',hr1',hr2'⟩:=(hd.mono s3).row;refine#[_,rfl,.inl #[rfl,_,aK.of aL],_,rfl,ds[i].r,xs',_,_,rfl,hr1',hr2',hd.len,hd.ats,λl4 H4 s4 n4 e4=>?_];refine#[l,l4,_,_,rfl,rfl,s4 _ _ aL,e4,cG (by simp only[HU,HH,Hh,IQ]; omega),?_];refine#[(s3.trans s4).upd hl,_,_,fs++[x]++onceL (strsOf ds[i].as),rfl,(by rw[aL,Hk,Hk]; rfl),?_,(by simp only[HU,Hh,IQ]; omega)];rw[uH ho,ef,Hv];unfold rowStrs;rw[hg];rfl
   . rintro σ H2 ⟨s2,v1,v2,fs,rfl,h2,ho,hlen⟩;rw[HH,IB] at ho;rw[HH] at hlen;have hds:=hf.dl;refine#[_,rfl,l,fs,rfl,aK.of h2,by omega,λl3 H3 s3 n3 e3=>q l3 H3 (s2.trans s3) (s2.free n3) ?_];rw[e3,ho];rfl
end
end K43
namespace K43
open PySem L2 K13
section
variable {P:Program} {w:World} {K:W.Frag} {mg:Str->Option Value} {base:Heap} {t:Adr}
theorem jk:FnScope ["rows","opened","begins","k","row"] ["rows"] (bD oz):=by walk_at "s"
theorem CY (T:Txt K mg t):FnOk P w K mg base CX0 1 t.wy t.yB ["rows"] (K13.sp_begins_of K):=by
 refine T.begins_of.F.ok jk (λvs H Q E h=>?_) (λcdv A outer s H vs Q E hr h=>?_)
 . obtain⟨a,ks,rfl,hR,w,hn,q⟩:=h;rfl
 . obtain⟨a,ks,rfl,hR,w,hn,q⟩:=h;refine#[_,(aM (@ag _ _ 1 _ _ _ _ jk.nd rfl (Or.inl rfl) (bj aF) (by rfl) (by walk_at "f")) (aM (@ag _ _ 2 _ _ _ _ jk.nd rfl (Or.inl rfl) g7 (by rfl) (by walk_at "f")) (aM (cj PassesOwn.never rfl (tU rfl T.b_enumerate (aE (aB 0) aF rfl)) (dn rfl (c7 (bS (i:=3) jk.nd rfl (Or.inl rfl)) (c7 (bS (i:=4) jk.nd rfl (Or.inl rfl)) di))) (@aP _ _ _ (ao (au fM (aI (show aJ _ (aR K) from aS) (aB 4) aD (λ_ _=>rfl)) (aY (aE aQ (aE aQ aF rfl) rfl)) (by with_unfolding_all rfl)) (@aP _ _ _ (@ee _ _ _ _ (dU Hs Hy Hz iS (aB 1) (aE (aB 3) aF rfl)) (by rfl))) (@aP _ _ _ (ao (au bE (aI (show aJ _ (aR K) from aS) (aB 4) aD (λ_ _=>rfl)) aQ (am _)) (@aP _ _ _ (eQ (cO hr.units) (aB 2) (aB 3) (aI (show aJ _ (ae K) from af) (aB 1) (cq cn aD) (λ_ _=>rfl)) (by rfl))) (@aP _ _ _ (ao (au bE (aI (show aJ _ (aR K) from aS) (aB 4) aD (λ_ _=>rfl)) aQ (am _)) (@aP _ _ _ (eQ (cO hr.units) (aB 2) (aB 3) (GU Hs PySem.F.slot_list_pop PySem.F.type_list_pop CN (aB 1)) (by rfl))) al))))))) (@aP _ _ _ (@aa _ _ _ _ (aB 2)))))),?_];refine#[dh,λol hol=>λd hd=>?_];obtain⟨rs,e1,e2,e3⟩:=hR.ex;have hdo:d≠ol:=λz=>by rw[z,aL] at hd; cases hd
   have s0:aC H (upd (upd H ol (.lst [])) d (.dK [])):=(aC.new hol).trans (aC.new hd);have hd0:H d=none:=(aC.new hol).free hd;refine#[_,rfl,a,rfl,#[_,s0.tup e1],u9 (xs:=rs.map V.ref) (λi σ H2=>i<=ks.length/\aC H H2/\∃v3 v4,σ=[some (.ref a),some (.ref ol),some (.ref d),v3,v4]/\H2 ol=some (.lst (eV ks i))/\H2 d=some (.dK (bg ks i))) #[Hl _,s0,_,_,rfl,by rw[ay hdo.symm]; exact aL,aL] ?_ ?_ ?_]
   . rintro i σ H2 hi ⟨_,s2,_⟩;exact s2.tup e1
   . rintro i x σ H2 b hx ⟨hi',s2,v3,v4,rfl,ho,hg⟩ hb;have hi:i<rs.length:=by have:=(HL.mp hx).1;rw[HH] at this;exact this
     rw[HW] at hx;have hx:V.ref rs[i]=x:=by simpa [hi] using hx
     subst hx;obtain⟨rest,hrow⟩:=e3 i rs[i] (by simp [hi]);have s3:aC H (upd H2 b (.tup [.int i,.ref rs[i]])):=s2.trans (aC.new hb);have ho3:=aC.new (o:=.tup [.int i,.ref rs[i]]) hb _ _ ho;have hg3:=aC.new (o:=.tup [.int i,.ref rs[i]]) hb _ _ hg;have sl:=EJ ks i;have bl:=nH ks i;refine#[b,_,rfl,aG.of aL,rfl,_,_,rfl,_,_,rfl,rfl,?_];refine#[_,rfl,rs[i],_,_,_,rfl,rfl,s3.tup hrow,ai,aw,λtw htw=>#[tw,[V.str "if",V.str "while"],rfl,.inr (aG.of aL),rfl,rfl,_,rfl,?_]];have s4:=s3.trans (aC.new (o:=.tup [V.str "if",V.str "while"]) htw);have ho4:=aC.new (o:=.tup [V.str "if",V.str "while"]) htw _ _ ho3;have hg4:=aC.new (o:=.tup [V.str "if",V.str "while"]) htw _ _ hg3;by_cases hO:isO (kd ks i)=true
     . refine aU ((inO _).trans hO) ?_;refine#[_,rfl,.inl #[rfl,_,aK.of ho4],_,rfl,ol,_,_,rfl,rfl,ho4,lt_line' (by omega),?_];refine#[by omega,s4.upd hol,_,_,rfl,?_,?_]
       . rw[aL];have:stk ks (i+1)=i :: stk ks i:=by rw[dI]; unfold push; rw[HR hO]
         unfold eV;rw[this,List.reverse_cons,Hk];rfl
       . rw[ay hdo,tf (lB hO)];exact hg4
     refine ak (λz=>hO ((inO _).symm.trans z)) ?_;refine#[_,rfl,rs[i],_,_,_,rfl,rfl,s4.tup hrow,ai,rfl,_,rfl,?_];by_cases h1:kd ks i="else"
     . refine aU (HK (Hb V.str h1)) ?_;have hE:isE (kd ks i)=true:=by rw[h1]; decide +kernel
       obtain⟨t,r,ht⟩:∃t r,stk ks i=t :: r:=by
         cases z:stk ks i with
         | nil=>exact absurd z (w.open_ i (by omega) hE)
         | cons t r=>exact#[t,r,rfl]
       obtain⟨q1,q2,q3⟩:=rf ht;refine#[_,rfl,_,rfl,ol,_,_,_,rfl,rfl,aK.of ho4,q1,_,rfl,_,rfl,d,_,rfl,dj.k (k:=Sum.inl (i:Int)) hg4 (lt_line' (by omega)),?_];refine#[by omega,s4.upd hd0,_,_,rfl,?_,?_]
       . rw[ay hdo.symm];have:stk ks (i+1)=stk ks i:=by rw[dI]; unfold push; rw[HI hO,HI (by rw[h1]; exact i8)]
         unfold eV;rw[this];exact ho4
       . rw[aL,m5 #[hE,by rw[ht]; rfl]]
     refine ak (λz=>h1 (V.str.inj (bM z))) ?_;refine#[_,rfl,rs[i],_,_,_,rfl,rfl,s4.tup hrow,ai,rfl,_,rfl,?_];by_cases h2:kd ks i="end"
     . refine aU (HK (Hb V.str h2)) ?_;have hE:isE (kd ks i)=true:=by rw[h2]; decide +kernel
       obtain⟨t,r,ht⟩:∃t r,stk ks i=t :: r:=by
         cases z:stk ks i with
         | nil=>exact absurd z (w.open_ i (by omega) hE)
         | cons t r=>exact#[t,r,rfl]
       obtain⟨q1,q2,q3⟩:=rf ht;refine#[_,rfl,.inl #[rfl,_,aK.of ho4],ol,_,_,rfl,rfl,ho4,q2,_,rfl,_,rfl,d,_,rfl,dj.k (k:=Sum.inl (i:Int)) (by rw[ay hdo]; exact hg4) (lt_line' (by omega)),?_];refine#[by omega,(s4.upd hol).upd hd0,_,_,rfl,?_,?_]
       . rw[ay hdo.symm,aL,q3];have:stk ks (i+1)=r:=by rw[dI]; unfold push; rw[HI hO,HR h2,ht]; rfl
         unfold eV;rw[this]
       . rw[aL,m5 #[hE,by rw[ht]; rfl]]
     refine ak (λz=>h2 (V.str.inj (bM z))) ?_;refine#[by omega,s4,_,_,rfl,?_,?_]
     . have:stk ks (i+1)=stk ks i:=by rw[dI]; unfold push; rw[HI hO,HI h2]
       unfold eV;rw[this];exact ho4
     . rw[tf (A7 h1 h2)];exact hg4
   . rintro σ H2 ⟨_,s2,v3,v4,rfl,ho,hg⟩;rw[HH,e2] at hg;exact#[_,rfl,q d H2 s2 hd0 hg]
theorem gh:FnScope ["rows","begins","ends","k","begin","behind","follower","kind"] ["rows","begins"] (bD jC):=by walk_at "s"
theorem CH (T:Txt K mg t):FnOk P w K mg base CX0 1 t.x6 t.yF ["rows","begins"] (K13.sp_firsts_behind K):=by
 refine T.firsts_behind.F.ok gh (λvs H Q E h=>?_) (λcdv A outer s H vs Q E hr h=>?_)
 . obtain⟨a,d,ks,rfl,hR,w,hn,hd,q⟩:=h;rfl
 . skip
   refine lx ?_;intro XX;refine(let W3:TS:=_; have hW3:bV XX ((bU jC).drop 3) W3:=(aM (cj PassesOwn.never rfl (Er rfl T.b_range (aE (@aN _ _ _ _ _ _ _ _ lC (cP qS (by rfl) T.b_len cW (aE (pv 0) aF rfl)) aD) (aE (cq cn aD) (aE (cq cn aD) aF rfl) rfl) rfl)) (bS (i:=3) gh.nd rfl (Or.inl rfl)) (aM (@ag _ _ 6 _ _ _ _ gh.nd rfl (Or.inl rfl) (@aN _ _ _ _ _ _ _ _ cM (pv 3) aD) (by rfl) (by walk_at "f")) (aM (@ag _ _ 7 _ _ _ _ gh.nd rfl (Or.inl rfl) (aI gz (aI gz (pv 0) (pv 6) (λ_ _=>rfl)) aD (λ_ _=>rfl)) (by rfl) (by walk_at "f")) (@aP _ _ _ (ao (j6 bE (pv 7) aQ (am _)) (@aP _ _ _ (eE (aI j5 (pv 5) (fW (cO hr.units) (pv 2) (fW (cO hr.units) (pv 1) (pv 6) (λ_ _=>rfl)) (λ_ _=>rfl)) (λ_ _=>rfl)) (fS (pv 5) (pv 3) fC))) (@aP _ _ _ (ao (@PW.pt _ _ _ (dA (j6 bE (pv 7) aQ (am _)) (dJ (j6 bE (aI gz (aI gz (pv 0) (fW (cO hr.units) (pv 1) (pv 6) (λ_ _=>rfl)) (λ_ _=>rfl)) aD (λ_ _=>rfl)) aQ (am _))))) (@aP _ _ _ (eE (fW (cO hr.units) (pv 1) (pv 6) (λ_ _=>rfl)) (fS (pv 5) (pv 3) fC))) (@aP _ _ _ (ao (j6 bE (pv 7) aQ (am _)) (@aP _ _ _ (eE (aI j5 (pv 5) (pv 6) (λ_ _=>rfl)) (fS (pv 5) (pv 3) fC))) (@aP _ _ _ (eE (pv 6) (fS (pv 5) (pv 3) fC)))))))))))) (@aP _ _ _ (@aa _ _ _ _ (pv 5)))); ?_);refine(let W2:TS:=_; have hW2:bV XX ((bU jC).drop 2) W2:=(aM (@ag _ _ 5 _ _ _ _ gh.nd rfl (Or.inl rfl) (@aN _ _ _ _ _ _ _ _ kt (bj (aE dX aF rfl)) (cP qS (by rfl) T.b_len cW (aE (pv 0) aF rfl))) (by rfl) (by walk_at "f")) hW3); ?_);obtain⟨a,d,ks,rfl,hR,w,hn,hd,q⟩:=h;refine#[_,(aM (@ag _ _ 2 _ _ _ _ gh.nd rfl (Or.inl rfl) g7 (by rfl) (by walk_at "f")) (aM (cj PassesOwn.never rfl (ox (pv 1)) (dn rfl (c7 (bS (i:=3) gh.nd rfl (Or.inl rfl)) (c7 (bS (i:=4) gh.nd rfl (Or.inl rfl)) di))) (@aP _ _ _ (eQ (cO hr.units) (pv 2) (pv 4) (pv 3) (by rfl)))) hW2)),?_];refine λed hed=>?_;have hde:d≠ed:=λz=>by rw[<- z,hd] at hed; cases hed
   refine#[_,rfl,d,bg ks ks.length,rfl,.inl #[aC.new hed _ _ hd,λo=>?_]];have sF:aC (upd H d (.frz o (.dK (bg ks ks.length)))) (upd (upd H ed (.dK [])) d (.frz o (.dK (bg ks ks.length)))):=λb u h=>by
     by_cases hb:b=d
     . subst hb;rw[aL] at h ⊢;exact h
     . rw[ay hb] at h ⊢;rw[ay (λz=>by rw[z,hed] at h; cases h)];exact h
   have hF:(upd H d (.frz o (.dK (bg ks ks.length)))) d=some (.frz o (.dK (bg ks ks.length))):=aL;have hedF:(upd H d (.frz o (.dK (bg ks ks.length)))) ed=none:=by rw[ay hde.symm]; exact hed
   have hRF:RowsAt K (upd H d (.frz o (.dK (bg ks ks.length)))) a ks:=hR.frz hd;have qF:∀l H',aC (upd H d (.frz o (.dK (bg ks ks.length)))) H'->(upd H d (.frz o (.dK (bg ks ks.length)))) l=none->u8 H' l ks->Q (.ref l) H':=λl H' h1 h2 h3=>q l o H' h1 (by rw[ay (λz=>by rw[z,hF] at h2; cases h2)] at h2; exact h2) h3;generalize upd H d (.frz o (.dK (bg ks ks.length)))=HF at sF hF hedF hRF qF;have bl:=nH ks ks.length;have pl:=oQ ks ks.length;refine oO (λi σ H2=>i<=(bg ks ks.length).length/\aC HF H2/\∃v3 v4 eds,σ=[some (.ref a),some (.ref d),some (.ref ed),v3,v4,none,none,none]/\H2 ed=some (.dK eds)/\eds.length<=i/\∀b:Nat,bR eds (Sum.inl (b:Int):aO)=(eX ((br ks ks.length).take i) b).map λ(m:Nat)=>V.int (m:Int)) #[Hl _,sF,_,_,[],rfl,by rw[ay hde.symm]; exact aL,HN _,λb=>rfl] ?_ ?_ ?_
   . rintro i σ H2 hi ⟨_,s2,_⟩;exact s2 _ _ hF
   . rintro i kv σ H2 b hkv ⟨hi,s2,v3,v4,eds,rfl,he,hel,hv⟩ hb;obtain⟨p,hp,rfl⟩:=sJ hkv;have hlt:=(HL.mp hkv).1;have he3:=aC.new (o:=.tup [V.int (p.1:Int),V.int (p.2:Int)]) hb _ _ he;refine#[b,_,rfl,aG.of aL,rfl,_,_,rfl,_,_,rfl,rfl,?_];refine#[_,rfl,_,rfl,_,rfl,ed,_,rfl,dj.k (k:=Sum.inl (p.2:Int)) he3 (lt_line' (by omega)),?_];refine#[hlt,(s2.trans (aC.new hb)).upd hedF,_,_,_,rfl,aL,?_,λb'=>?_]
     . exact Ht (dP _ _ _) (by omega)
     . rw[valV_put,IU,hp];show _=(eX ((br ks ks.length).take i++[p]) b').map _;rw[vU,hv b'];by_cases h:p.2=b'
       . rw[HR h,HR (by rw[h])];rfl
       . rw[HI h,HI (λz=>h (by have:(b':Int)=(p.2:Int):=Sum.inl.inj z; omega))]
   . rintro σ H2 ⟨_,s2,v3,v4,eds,rfl,he,hel,hv⟩;have hv:∀b:Nat,bR eds (Sum.inl (b:Int):aO)=(eX (br ks ks.length) b).map λ(m:Nat)=>V.int (m:Int):=λb=>by rw[hv b];unfold bg gD;rw[HH,IB]
     obtain⟨rs,r1,r2,r3⟩:=hRF.ex;have rl:(rs.map V.ref).length=ks.length:=by rw[HH,r2]
     refine#[cN,λnl hnl=>#[_,rfl,a,_,rfl,.inr ((s2.trans (aC.new hnl)).tup r1),nl,_,_,rfl,rfl,aL,by omega,by rw[rl]; omega,by rw[rl]; exact cG (by simp; omega),λbl hbl=>?_]];have s3:=(s2.trans (aC.new (o:=.lst [V.non]) hnl)).trans (aC.new (o:=.lst (List.replicate (((rs.map V.ref).length:Int).toNat) [V.non]).flatten) hbl);have hbF:HF bl=none:=s2.free ((aC.new hnl).free hbl);have hbe:bl≠ed:=λz=>by have:=(aC.new hnl).free hbl;rw[z,he] at this;cases this
     have he3:=(aC.new (o:=.lst (List.replicate (((rs.map V.ref).length:Int).toNat) [V.non]).flatten) hbl) _ _ ((aC.new (o:=.lst [V.non]) hnl) _ _ he);refine#[_,rfl,a,_,rfl,.inr (s3.tup r1),_,_,rfl,rfl,_,rfl,_,rfl,(ks.length:Int) - 2,-1,by rw[rl],#[by omega,by omega,by omega,by omega],?_];have hnn:(((ks.length:Int) - 2) - -1).toNat=ks.length - 1:=by omega
     rw[hnn];refine GI (λi σ H4=>aC HF H4/\∃v3 v4 v6 v7 bs,σ=[some (.ref a),some (.ref d),some (.ref ed),v3,v4,some (.ref bl),v6,v7]/\H4 ed=some (.dK eds)/\H4 bl=some (.lst bs)/\bs.length=ks.length/\∀k,k+1<ks.length->ks.length - 1 - i<=k->∃r:Nat,Beh ks k r/\bs[k]?=some (.int (r:Int))) #[s3,_,_,_,_,_,rfl,he3,aL,by rw[rl]; exact BH _,λk h1 h2=>by omega] ?_ ?_
     . rintro i σ H4 hi ⟨s4,v3,v4,v6,v7,bs,rfl,e4,b4,l4,hb4⟩;obtain⟨k,hk⟩:∃k:Nat,k+2+i=ks.length:=#[ks.length - 2 - i,by omega]
       have ek:((ks.length:Int) - 2) - (i:Int)=(k:Int):=by omega
       rw[ek];have hR4:=hRF.mono s4;have old:∀j,j+1<ks.length->k<j->∃r:Nat,Beh ks j r/\bs[j]?=some (.int (r:Int)):=λj h1 h2=>hb4 j h1 (by omega);have fin:∀(r:Nat) (v3 v4 v6 v7:Option V),Beh ks k r->aC HF (upd H4 bl (.lst (bs.set k (.int (r:Int)))))/\∃v3' v4' v6' v7' bs',([some (.ref a),some (.ref d),some (.ref ed),v3,v4,some (.ref bl),v6,v7]:St)=[some (.ref a),some (.ref d),some (.ref ed),v3',v4',some (.ref bl),v6',v7']/\(upd H4 bl (.lst (bs.set k (.int (r:Int))))) ed=some (.dK eds)/\(upd H4 bl (.lst (bs.set k (.int (r:Int))))) bl=some (.lst bs')/\bs'.length=ks.length/\∀j,j+1<ks.length->ks.length - 1 - (i+1)<=j->∃r:Nat,Beh ks j r/\bs'[j]?=some (.int (r:Int)):=λr v3 v4 v6 v7 hr=>by
         refine#[s4.upd hbF,_,_,_,_,_,rfl,by rw[ay hbe.symm]; exact e4,aL,by rw[Ib]; exact l4,λj h1 h2=>?_];by_cases hj:j=k
         . subst hj;exact#[r,hr,by rw[Iw (by omega)]]
         . obtain⟨r',q1,q2⟩:=old j h1 (by omega);exact#[r',q1,by rw[J4 (λz=>hj z.symm)]; exact q2]
       have hix:ca bs.length (k:Int)=some k:=by unfold ca;rw[HR (by omega),HR (by omega),IH]
       have at_bs:∀j r:Nat,bs[j]?=some (.int (r:Int))->bQ bs (j:Int)=some (.int (r:Int)):=λj r h=>bt h;refine#[_,rfl,_,_,rfl,rfl,?_];show ii 6 (V.int ((k:Int)+1)) _ _ _;rw[show((k:Int)+1)=((k+1:Nat):Int) by omega];refine#[_,rfl,_,rfl,ixk hR4 (by omega) (by omega) ?_];refine#[_,rfl,rfl,_,rfl,?_];have bO:isE (kd ks (k+1))=true->∃b,(stk ks (k+1)).head?=some b:=λh=>by
         cases z:stk ks (k+1) with
         | nil=>exact absurd z (w.open_ (k+1) (by omega) h)
         | cons b r=>exact#[b,rfl]
       have fz:Rd H4 d (.dK (bg ks ks.length)):=.inr #[o,s4 _ _ hF];by_cases h1:kd ks (k+1)="else"
       . refine aU (HK (Hb V.str h1)) ?_;have hE:isE (kd ks (k+1))=true:=by rw[h1]; decide +kernel
         obtain⟨b,hb⟩:=bO hE;have hbo:=qN (#[hE,hb]:cp ks b (k+1));obtain⟨e,hEn⟩:=rK w (by omega) hbo.2;have h5:k+1<=e:=rN hEn #[hE,hb];have h6:e+1<ks.length:=by
           rcases IF (e+1) ks.length with z|z
           . exact z
           . have:=w.last e (by have:=hEn.2.1; omega);rw[hEn.2.2.1] at this;exact absurd this.symm wF.2
         obtain⟨r,hr1,hr2⟩:=old e h6 (by omega);have g1:cz H4 d (.int ((k+1:Nat):Int)) (some (.int (b:Int))):=.inl #[_,Sum.inl ((k+1:Nat):Int),fz,rfl,(uZ ks.length (by omega) #[hE,hb]).symm];have g2:cz H4 ed (.int (b:Int)) (some (.int (e:Int))):=.inl #[_,Sum.inl (b:Int),.inl e4,rfl,by rw[hv b,Go hEn]; rfl];exact#[_,rfl,_,rfl,_,rfl,_,rfl,d,_,rfl,g1,ed,_,rfl,g2,bl,_,_,_,rfl,rfl,aK.of b4,at_bs e r hr2,_,rfl,_,rfl,bl,_,_,_,rfl,rfl,b4,hix,fin r _ _ _ _ (.els h1 hb hEn hr1)]
       refine ak (λz=>h1 (V.str.inj (bM z))) ?_;refine#[_,rfl,rfl,_,rfl,?_];by_cases h2:kd ks (k+1)="end"
       . have hE:isE (kd ks (k+1))=true:=by rw[h2]; decide +kernel
         obtain⟨b,hb⟩:=bO hE;have hbo:=qN (#[hE,hb]:cp ks b (k+1));have g1:cz H4 d (.int ((k+1:Nat):Int)) (some (.int (b:Int))):=.inl #[_,Sum.inl ((k+1:Nat):Int),fz,rfl,(uZ ks.length (by omega) #[hE,hb]).symm];refine aU (HK (Hb V.str h2)) ?_;refine#[_,rfl,_,rfl,_,rfl,d,_,rfl,g1,ixk hR4 (by omega) (by omega) #[rfl,_,rfl,?_]];by_cases h3:kd ks b="while"
         . refine aU (HK (Hb V.str h3)) ?_;exact#[_,rfl,_,rfl,d,_,rfl,g1,_,rfl,_,rfl,bl,_,_,_,rfl,rfl,b4,hix,fin b _ _ _ _ (.whl h2 hb h3)]
         . refine ak (λz=>h3 (V.str.inj (bM z))) ?_;refine#[_,rfl,rfl,_,rfl,aU (HK (Hb V.str h2)) ?_];have h6:k+1+1<ks.length:=by
             rcases IF (k+1+1) ks.length with z|z
             . exact z
             . have:=w.last (k+1) (by omega);rw[h2] at this;exact absurd this.symm wF.2
           obtain⟨r,hr1,hr2⟩:=old (k+1) h6 (by omega);exact#[_,rfl,_,rfl,bl,_,_,_,rfl,rfl,aK.of b4,at_bs (k+1) r hr2,_,rfl,_,rfl,bl,_,_,_,rfl,rfl,b4,hix,fin r _ _ _ _ (.fin h2 hb h3 hr1)]
       . refine ak (λz=>h2 (V.str.inj (bM z))) (iW ?_);refine#[_,rfl,rfl,_,rfl,ak (λz=>h2 (V.str.inj (bM z))) ?_];exact#[_,rfl,_,rfl,_,rfl,bl,_,_,_,rfl,rfl,b4,hix,fin (k+1) _ _ _ _ (.oth h1 h2)]
     . rintro σ H4 ⟨s4,v3,v4,v6,v7,bs,rfl,e4,b4,l4,hb4⟩;exact#[_,rfl,qF bl H4 s4 hbF #[bs,b4,l4,λk h1=>hb4 k h1 (by omega)]]
theorem gQ:FnScope ["rows","begins","behind","turns","k","begin","found","row"] ["rows"] (bD jI):=by walk_at "s"
theorem zr (T:Txt K mg t):FnOk P w K mg base CX0 2 t.xi t.yl ["rows"] (K13.sp_ways K):=by
 have Qy:=CY (P:=P) (w:=w) (base:=base) T;have Qz:=CH (P:=P) (w:=w) (base:=base) T;refine T.ways.F.ok gQ (λvs H Q E h=>?_) (λcdv A outer s H vs Q E hr h=>?_)
 . obtain⟨a,ks,rfl,hR,w,hn,q⟩:=h;rfl
 . skip
   refine lx ?_;intro XX;refine(let W5:TS:=_; have hW5:bV XX ((bU jI).drop 5) W5:=(aM (cj PassesOwn.never rfl (tU rfl T.b_enumerate (aE (pv 0) aF rfl)) (dn rfl (c7 (bS (i:=4) gQ.nd rfl (Or.inl rfl)) (c7 (bS (i:=7) gQ.nd rfl (Or.inl rfl)) di))) (@aP _ _ _ (ao (j6 fM (aI gz (pv 7) aD (λ_ _=>rfl)) (aY (aE aQ (aE aQ aF rfl) rfl)) (by with_unfolding_all rfl)) (@aP _ _ _ (@ee _ _ _ _ (dU Hs Hy Hz ip (pv 6) (aE dX aF rfl)) (by rfl))) (@aP _ _ _ (ao (j6 bE (aI gz (pv 7) aD (λ_ _=>rfl)) aQ (am _)) (@aP _ _ _ (@ee _ _ _ _ (dU Hs Hy Hz ip (pv 6) (aE (aY aF) aF rfl)) (by rfl))) (@aP _ _ _ (ao (dG (EZ (cO hr.units) (pv 4) (pv 3))) (@aP _ _ _ (@ee _ _ _ _ (dU Hs Hy Hz ip (pv 6) (aE (aY (aE (aI j5 (pv 2) (pv 4) (λ_ _=>rfl)) (aE (aI j5 (pv 2) (fW (cO hr.units) (pv 3) (pv 4) (λ_ _=>rfl)) (λ_ _=>rfl)) aF rfl) rfl)) aF rfl)) (by rfl))) (@aP _ _ _ (@ee _ _ _ _ (dU Hs Hy Hz ip (pv 6) (aE (aY (aE (aI j5 (pv 2) (pv 4) (λ_ _=>rfl)) aF rfl)) aF rfl)) (by rfl)))))))))) (@aP _ _ _ (@aa _ _ _ _ (pv 6)))); ?_);refine(let W3:TS:=_; have hW3:bV XX ((bU jI).drop 3) W3:=(aM (cj PassesOwn.never rfl (ox (pv 1)) (dn rfl (c7 (bS (i:=4) gQ.nd rfl (Or.inl rfl)) (c7 (bS (i:=5) gQ.nd rfl (Or.inl rfl)) di))) (@aP _ _ _ (@ee _ _ _ _ (FG (pv 3) (pv 5) (pv 4) #[rfl,rfl,rfl,rfl]) (by rfl)))) (aM (@ag _ _ 6 _ _ _ _ gQ.nd rfl (Or.inl rfl) (bj aF) (by rfl) (by walk_at "f")) hW5)); ?_);obtain⟨a,ks,rfl,hR,w,hn,q⟩:=h;refine#[_,(aM (@ag _ _ 1 _ _ _ _ gQ.nd rfl (Or.inl rfl) (bC T.begins_of Qy (hr.mono (by decide)) (aE (pv 0) aF rfl)) (by rfl) (by walk_at "f")) (aM (@ag _ _ 2 _ _ _ _ gQ.nd rfl (Or.inl rfl) (bC T.firsts_behind Qz (hr.mono (by decide)) (aE (pv 0) (aE (pv 1) aF rfl) rfl)) (by rfl) (by walk_at "f")) (aM (@ag _ _ 3 _ _ _ _ gQ.nd rfl (Or.inl rfl) g7 (by rfl) (by walk_at "f")) hW3))),?_];refine#[_,rfl,a,ks,rfl,hR,w,hn,λd H1 s1 n1 e1=>?_];refine#[_,rfl,_,rfl,a,d,ks,rfl,hR.mono s1,w,hn,e1,λl o H2 s2 n2 hB=>?_];have s02:aC H H2:=(s1.upd n1).trans s2;have hdF:H2 d=some (.frz o (.dK (bg ks ks.length))):=s2 _ _ aL;have hl0:H l=none:=s1.free n2;refine λtd htd=>?_;have bl:=nH ks ks.length;obtain⟨bs,hb1,hb2,hb3⟩:=hB;refine#[_,rfl,d,bg ks ks.length,rfl,.inr #[o,aC.new htd _ _ hdF,?_]];refine oO (λi σ H3=>i<=(bg ks ks.length).length/\aC H2 H3/\∃v4 v5 tds,σ=[some (.ref a),some (.ref d),some (.ref l),some (.ref td),v4,v5,none,none]/\H3 td=some (.dK tds)/\tds.length<=i/\∀b:Nat,bR tds (Sum.inl (b:Int):aO)=(cZ ((br ks ks.length).take i) b).map λ(m:Nat)=>V.int (m:Int)) #[Hl _,aC.new htd,_,_,[],rfl,aL,HN _,λb=>rfl] ?_ ?_ ?_
   . rintro i σ H3 hi ⟨_,s3,_⟩;exact s3 _ _ hdF
   . rintro i kv σ H3 b hkv ⟨hi,s3,v4,v5,tds,rfl,he,hel,hv⟩ hb;obtain⟨p,hp,rfl⟩:=sJ hkv;have hlt:=(HL.mp hkv).1;have he3:=aC.new (o:=.tup [V.int (p.1:Int),V.int (p.2:Int)]) hb _ _ he;refine#[b,_,rfl,aG.of aL,rfl,_,_,rfl,_,_,rfl,rfl,?_];have tk:∀b',cZ ((br ks ks.length).take (i+1)) b'=if(cZ ((br ks ks.length).take i) b').isSome=true then cZ ((br ks ks.length).take i) b' else if p.2=b' then some p.1 else none:=λb'=>by rw[IU,hp];exact tL _ p b'
     refine#[_,rfl,td,rfl,.inl #[tds,.inl he3],_,rfl,_,rfl,tds,Sum.inl (p.2:Int),he3,rfl,lt_line' (by omega),λv hv'=>?_,λhv'=>?_]
     . refine#[hlt,s3.trans (aC.new hb),_,_,tds,rfl,he3,by omega,λb'=>?_];rw[hv b',tk b'];cases z:cZ ((br ks ks.length).take i) b' with
       | some m=>rfl
       | none =>
         rw[HI (show ¬ (none:Option Nat).isSome=true by decide),HI];intro h;rw[h,hv b',z] at hv';cases hv'
     . refine#[hlt,(s3.trans (aC.new hb)).upd htd,_,_,_,rfl,aL,Ht (dP _ _ _) (by omega),λb'=>?_];rw[valV_put,tk b'];by_cases h:p.2=b'
       . subst h;have z:cZ ((br ks ks.length).take i) p.2=none:=by
           rw[hv p.2] at hv';cases y:cZ ((br ks ks.length).take i) p.2 with
           | none=>rfl
           | some m=>rw[y] at hv'; cases hv'
         rw[HR rfl,z,HI (show ¬ (none:Option Nat).isSome=true by decide),HR rfl];rfl
       . rw[HI (λz=>h (by have:(b':Int)=(p.2:Int):=Sum.inl.inj z; omega)),hv b',HI h];cases z:cZ ((br ks ks.length).take i) b' with
         | some m=>rfl
         | none=>rfl
   . rintro σ H3 ⟨_,s3,v4,v5,tds,rfl,he,hel,hv⟩;have hv:∀b:Nat,bR tds (Sum.inl (b:Int):aO)=(cZ (br ks ks.length) b).map λ(m:Nat)=>V.int (m:Int):=λb=>by rw[hv b];unfold bg gD;rw[HH,IB]
     obtain⟨rs,r1,r2,r3⟩:=hR.ex;refine#[dh,λfl hfl=>?_];have s03:=s02.trans s3;have hf2:H3 fl=none:=hfl;have htf:td≠fl:=λz=>by rw[<- z,he] at hfl; cases hfl
     have hf0:H fl=none:=s03.free hfl;refine#[_,rfl,a,rfl,#[_,(s03.trans (aC.new hfl)).tup r1],u9 (xs:=rs.map V.ref) (λi σ H4=>i<=ks.length/\aC H3 H4/\(∃v4 v5 v7,σ=[some (.ref a),some (.ref d),some (.ref l),some (.ref td),v4,v5,some (.ref fl),v7])/\FoundN H4 fl ks i) #[Hl _,aC.new hfl,#[_,_,_,rfl],#[[],aL,rfl,λk v z=>by simp at z]] ?_ ?_ ?_]
     . rintro i σ H4 hi ⟨_,s4,_⟩;exact(s03.trans s4).tup r1
     . rintro i x σ H4 b hx ⟨hi',s4,⟨v4,v5,v7,rfl⟩,hF⟩ hb;have hi:i<rs.length:=by have:=(HL.mp hx).1;rw[HH] at this;exact this
       rw[HW] at hx;have hx:V.ref rs[i]=x:=by simpa [hi] using hx
       subst hx;obtain⟨rest,hrow⟩:=r3 i rs[i] (by simp [hi]);have s5:=s4.trans (aC.new (o:=.tup [.int i,.ref rs[i]]) hb);have hF5:=hF.mono (aC.new (o:=.tup [.int i,.ref rs[i]]) hb);refine#[b,_,rfl,aG.of aL,rfl,_,_,rfl,_,_,rfl,rfl,?_];refine#[_,rfl,rs[i],_,_,_,rfl,rfl,(s03.trans s5).tup hrow,ai,aw,λtw htw=>#[tw,[V.str "else",V.str "end"],rfl,.inr (aG.of aL),rfl,rfl,_,rfl,?_]];have s6:=s5.trans (aC.new (o:=.tup [V.str "else",V.str "end"]) htw);obtain⟨vs,f1,f2,f3⟩:=hF5.mono (aC.new (o:=.tup [V.str "else",V.str "end"]) htw);generalize upd (upd H4 b (.tup [.int i,.ref rs[i]])) tw (.tup [V.str "else",V.str "end"])=H6 at s6 f1 f3 ⊢;have s06:=s03.trans s6;have fin:∀{H7:Hp} {v:V} {oo:Option (List Nat)} (u4 u5 u7:Option V),aC H6 H7->Due ks i oo->fq H7 v oo->i+1<=ks.length/\aC H3 (upd H7 fl (.lst (vs++[v])))/\(∃v4 v5 v7,([some (.ref a),some (.ref d),some (.ref l),some (.ref td),u4,u5,some (.ref fl),u7]:St)=[some (.ref a),some (.ref d),some (.ref l),some (.ref td),v4,v5,some (.ref fl),v7])/\FoundN (upd H7 fl (.lst (vs++[v]))) fl ks (i+1):=λu4 u5 u7 s7 hd hv=>by refine#[by omega,(s6.trans s7).upd hfl,#[_,_,_,rfl],FoundN.push (s7 _ _ f1) f2 (λk v z=>?_) hd hv];obtain⟨o',d',y⟩:=f3 k v z;exact#[o',d',y.mono s7]
       by_cases hE:isE (kd ks i)=true
       . refine aU ((inE _).trans hE) ?_;exact#[_,rfl,.inl #[rfl,_,aK.of f1],fl,_,_,rfl,rfl,f1,lt_line' (by omega),fin _ _ _ (aC.refl _) (.no hE) rfl]
       refine ak (λz=>hE ((inE _).symm.trans z)) ?_;refine#[_,rfl,rs[i],_,_,_,rfl,rfl,s06.tup hrow,ai,rfl,_,rfl,?_];by_cases hbk:kd ks i="back"
       . refine aU (HK (Hb V.str hbk)) ?_;exact#[_,rfl,.inl #[rfl,_,aK.of f1],dh,λp hp=>#[fl,_,_,rfl,rfl,aC.new hp _ _ f1,lt_line' (by omega),fin _ _ _ (aC.new hp) (.back hbk) #[p,rfl,aL]]]
       refine ak (λz=>hbk (V.str.inj (bM z))) ?_;have hlast:=t7 w (by omega) hbk;obtain⟨r,hr1,hr2⟩:=hb3 i hlast;have hb6:=(s3.trans s6) _ _ hb1;have ht6:=s6 _ _ he;refine#[_,rfl,_,rfl,td,_,rfl,cz.k (k:=Sum.inl (i:Int)) ht6,_,rfl,?_];by_cases hO:isO (kd ks i)=true
       . obtain⟨e,hEn⟩:=rK w (by omega) hO;obtain⟨f,hf⟩:=Gs hEn;obtain⟨r',hr3,hr4⟩:=hb3 f (Bn w hf);have hvi:bR tds (Sum.inl (i:Int):aO)=some (V.int (f:Int)):=by rw[hv i,Gp hf]; rfl
         refine aU (by rw[hvi]; rfl) ?_;have g:cz H6 td (.int (i:Int)) (some (V.int (f:Int))):=.inl #[_,Sum.inl (i:Int),.inl ht6,rfl,hvi.symm];exact#[_,rfl,.inl #[rfl,_,aK.of f1],_,rfl,_,rfl,l,_,_,_,rfl,rfl,aK.of hb6,bt hr2,_,rfl,_,rfl,_,rfl,td,_,rfl,g,l,_,_,_,rfl,rfl,aK.of hb6,bt hr4,aw,λp hp=>#[fl,_,_,rfl,rfl,aC.new hp _ _ f1,lt_line' (by omega),fin _ _ _ (aC.new hp) (.two hO hf hr1 hr3) #[p,rfl,aL]]]
       . have hvi:bR tds (Sum.inl (i:Int):aO)=none:=by rw[hv i,Do hO]; rfl
         refine ak (by rw[hvi]; decide) ?_;exact#[_,rfl,.inl #[rfl,_,aK.of f1],_,rfl,_,rfl,l,_,_,_,rfl,rfl,aK.of hb6,bt hr2,cN,λp hp=>#[fl,_,_,rfl,rfl,aC.new hp _ _ f1,lt_line' (by omega),fin _ _ _ (aC.new hp) (.one hE hbk hO hr1) #[p,rfl,aL]]]
     . rintro σ H4 ⟨_,s4,⟨v4,v5,v7,rfl⟩,hF⟩;rw[HH,r2] at hF;exact#[_,rfl,q fl H4 (s03.trans s4) hf0 hF]
end
end K43
namespace K43
open PySem L2 Gx Fl F2
section
variable {P:Program} {w:World} {K:W.Frag} {mg:Str->Option Value} {base:Heap} {t:Adr}
theorem mj:FnScope ["self","program","k","function"] ["self","program"] (bD m7):=by walk_at "s"
theorem GA (T:Txt K mg t):FnOk P w K mg base CX0 4 t.we t.xl ["self","program"] (Ei K t):=by
 have QA:=GT (P:=P) (w:=w) (base:=base) T;have QB:=zr (P:=P) (w:=w) (base:=base) T;refine T.wb.F.ok mj (λvs H Q E h=>?_) (λcdv A outer s H vs Q E hr h=>?_)
 . obtain⟨x,dx,p,fns,rfl,hx,hS,n0,n12,hE,nd,q⟩:=h;rfl
 . skip
   refine lx ?_;intro XX;refine(let W7:TS:=_; have hW7:bV XX ((bU m7).drop 7) W7:=(@aP _ _ _ (cj PassesOwn.never rfl (Ac rfl T.b_enumerate (aE (aB 1) aF rfl)) (dn rfl (c7 (bS (i:=2) mj.nd rfl (Or.inl rfl)) (c7 (bS (i:=3) mj.nd rfl (Or.inl rfl)) di))) (aM (eQ (cO hr.units) (bK (aB 0) (by rfl)) (aI (show aJ _ (aR K) from aS) (aB 3) aD (λ_ _=>rfl)) (aB 2) (by rfl)) (aM (eQ (cO hr.units) (bK (aB 0) (by rfl)) (aI (show aJ _ (aR K) from aS) (aB 3) aD (λ_ _=>rfl)) (aI (show aJ _ (aR K) from aS) (aB 3) aD (λ_ _=>rfl)) (by rfl)) (aM (eQ (cO hr.units) (bK (aB 0) (by rfl)) (aI (show aJ _ (aR K) from aS) (aB 3) aD (λ_ _=>rfl)) (aI (show aJ _ (aR K) from aS) (aB 3) aD (λ_ _=>rfl)) (by rfl)) (aM (eQ (cO hr.units) (bK (aB 0) (by rfl)) (aI (show aJ _ (aR K) from aS) (aB 3) aD (λ_ _=>rfl)) (aI (show aJ _ (aR K) from aS) (aB 3) aD (λ_ _=>rfl)) (by rfl)) (aM (eQ (cO hr.units) (bK (aB 0) (by rfl)) (aI (show aJ _ (aR K) from aS) (aB 3) aD (λ_ _=>rfl)) (bC T.names_of QA (hr.mono (by decide)) (aE (aB 3) aF rfl)) (by rfl)) (@aP _ _ _ (eQ (cO hr.units) (bK (aB 0) (by rfl)) (aI (show aJ _ (aR K) from aS) (aB 3) aD (λ_ _=>rfl)) (bC T.ways QB (hr.mono (by decide)) (aE (aI (show aJ _ (aR K) from aS) (aB 3) aD (λ_ _=>rfl)) aF rfl)) (by rfl)))))))))); ?_);obtain⟨x,dx,p,fns,rfl,hx,hS,n0,n12,hE,nd,q⟩:=h;refine#[_,(aM (dM (aB 0) (aI (show aJ _ (aR K) from aS) (aI (show aJ _ (ae K) from af) (aB 1) (cq cn aD) (λ_ _=>rfl)) aD (λ_ _=>rfl)) (by rfl)) (aM (dM (aB 0) g7 (by rfl)) (aM (dM (aB 0) g7 (by rfl)) (aM (dM (aB 0) g7 (by rfl)) (aM (dM (aB 0) g7 (by rfl)) (aM (dM (aB 0) g7 (by rfl)) (cr (dM (aB 0) g7 (by rfl)) hW7))))))),?_];have fl:(fns.map λf=>V.ref f.fa).length=fns.length:=HH _;have np:0<fns.length:=List.length_pos_iff.mpr n0;obtain⟨fz,hz⟩:∃fz,fns[fns.length - 1]?=some fz:=#[fns[fns.length - 1],HX (by omega)]
   have hzT:=(hE fz (HP hz)).fn;have eL:bQ (fns.map λf=>V.ref f.fa) (-1)=some (V.ref fz.fa):=by
     unfold bQ ca;rw[HI (by decide),HR (by rw[fl]; omega),KL];have:((-1:Int)+((fns.map λf=>V.ref f.fa).length:Int)).toNat=fns.length - 1:=by rw[fl]; omega
     rw[this,HW,hz];rfl
   refine#[_,rfl,_,rfl,p,_,_,_,rfl,rfl,dH.seq hS,eL,fz.fa,_,_,_,rfl,rfl,dH.tup hzT,ai,_,rfl,x,t.bX,dx,_,rfl,hx,T.cu.cl,T.HC,(by show 0<1000; decide),?_];have sx:∀{b:Addr} {o:HO},ers x H b=some o->b≠x/\H b=some o:=λ{b o} e=>by
     have hb:b≠x:=λz=>by rw[z] at e; unfold ers at e; rw[HR rfl] at e; cases e
     rw[c9 hb] at e;exact#[hb,e]
   have l1:=eR "last" (V.str fz.name) [] 0 (HN _);intro d0 h0;refine#[_,rfl,x,t.bX,dx,_,rfl,bP aL (Ne.symm (bn h0).1),T.cu.cl,T.zC,(by omega),?_];have l2:=eR "number_of" (.ref d0) _ 1 l1;intro d1 h1;refine#[_,rfl,x,t.bX,dx,_,rfl,bP aL (Ne.symm (bn h1).1),T.cu.cl,T.zB,(by omega),?_];have l3:=eR "folded_of" (.ref d1) _ 2 l2;intro d2 h2;refine#[_,rfl,x,t.bX,dx,_,rfl,bP aL (Ne.symm (bn h2).1),T.cu.cl,T.zD,(by omega),?_];have l4:=eR "params_of" (.ref d2) _ 3 l3;intro d3 h3;refine#[_,rfl,x,t.bX,dx,_,rfl,bP aL (Ne.symm (bn h3).1),T.cu.cl,T.qx,(by omega),?_];have l5:=eR "rows_of" (.ref d3) _ 4 l4;intro d4 h4;refine#[_,rfl,x,t.bX,dx,_,rfl,bP aL (Ne.symm (bn h4).1),T.cu.cl,T.qw,(by omega),?_];have l6:=eR "names_in" (.ref d4) _ 5 l5;refine#[λσ' G=>∃d:Nat->Addr,σ'=[some (.ref x),some (.ref p),none,none]/\FS t.bX G x dx (db (V.str fz.name) d) d (λ_=>[])/\(∀i j,i<6->j<6->d i=d j->i=j)/\aC (ers x H) G/\∀k,ers x H (d k)=none,?_,?_]
   . intro d5 h5;obtain⟨nx0,z0⟩:=bn h0;have q0:H d0=none:=z0;obtain⟨nx1,z1⟩:=bn h1;obtain⟨n10,w10⟩:=bn z1;obtain⟨_,y10⟩:=bn w10;have q1:H d1=none:=y10;obtain⟨nx2,z2⟩:=bn h2;obtain⟨n21,w21⟩:=bn z2;obtain⟨_,y21⟩:=bn w21;obtain⟨n20,w20⟩:=bn y21;obtain⟨_,y20⟩:=bn w20;have q2:H d2=none:=y20;obtain⟨nx3,z3⟩:=bn h3;obtain⟨n32,w32⟩:=bn z3;obtain⟨_,y32⟩:=bn w32;obtain⟨n31,w31⟩:=bn y32;obtain⟨_,y31⟩:=bn w31;obtain⟨n30,w30⟩:=bn y31;obtain⟨_,y30⟩:=bn w30;have q3:H d3=none:=y30;obtain⟨nx4,z4⟩:=bn h4;obtain⟨n43,w43⟩:=bn z4;obtain⟨_,y43⟩:=bn w43;obtain⟨n42,w42⟩:=bn y43;obtain⟨_,y42⟩:=bn w42;obtain⟨n41,w41⟩:=bn y42;obtain⟨_,y41⟩:=bn w41;obtain⟨n40,w40⟩:=bn y41;obtain⟨_,y40⟩:=bn w40;have q4:H d4=none:=y40;obtain⟨nx5,z5⟩:=bn h5;obtain⟨n54,w54⟩:=bn z5;obtain⟨_,y54⟩:=bn w54;obtain⟨n53,w53⟩:=bn y54;obtain⟨_,y53⟩:=bn w53;obtain⟨n52,w52⟩:=bn y53;obtain⟨_,y52⟩:=bn w52;obtain⟨n51,w51⟩:=bn y52;obtain⟨_,y51⟩:=bn w51;obtain⟨n50,w50⟩:=bn y51;obtain⟨_,y50⟩:=bn w50;have q5:H d5=none:=y50;have inj:∀i j,i<6->j<6->dd d0 d1 d2 d3 d4 d5 i=dd d0 d1 d2 d3 d4 d5 j->i=j:=λi j hi hj e=>by
       match i,j,hi,hj with
       | 0,0,_,_=>rfl
       | 0,1,_,_=>exact absurd e.symm n10
       | 0,2,_,_=>exact absurd e.symm n20
       | 0,3,_,_=>exact absurd e.symm n30
       | 0,4,_,_=>exact absurd e.symm n40
       | 0,5,_,_=>exact absurd e.symm n50
       | 1,0,_,_=>exact absurd e n10
       | 1,1,_,_=>rfl
       | 1,2,_,_=>exact absurd e.symm n21
       | 1,3,_,_=>exact absurd e.symm n31
       | 1,4,_,_=>exact absurd e.symm n41
       | 1,5,_,_=>exact absurd e.symm n51
       | 2,0,_,_=>exact absurd e n20
       | 2,1,_,_=>exact absurd e n21
       | 2,2,_,_=>rfl
       | 2,3,_,_=>exact absurd e.symm n32
       | 2,4,_,_=>exact absurd e.symm n42
       | 2,5,_,_=>exact absurd e.symm n52
       | 3,0,_,_=>exact absurd e n30
       | 3,1,_,_=>exact absurd e n31
       | 3,2,_,_=>exact absurd e n32
       | 3,3,_,_=>rfl
       | 3,4,_,_=>exact absurd e.symm n43
       | 3,5,_,_=>exact absurd e.symm n53
       | 4,0,_,_=>exact absurd e n40
       | 4,1,_,_=>exact absurd e n41
       | 4,2,_,_=>exact absurd e n42
       | 4,3,_,_=>exact absurd e n43
       | 4,4,_,_=>rfl
       | 4,5,_,_=>exact absurd e.symm n54
       | 5,0,_,_=>exact absurd e n50
       | 5,1,_,_=>exact absurd e n51
       | 5,2,_,_=>exact absurd e n52
       | 5,3,_,_=>exact absurd e n53
       | 5,4,_,_=>exact absurd e n54
       | 5,5,_,_=>rfl
       | n+6,_,h,_=>omega
       | _,n+6,_,h=>omega
     refine#[_,rfl,x,t.bX,dx,_,rfl,bP aL (Ne.symm nx5),T.cu.cl,T.qy,(by omega),dd d0 d1 d2 d3 d4 d5,rfl,#[aL,λj hj=>?_],inj,λb o e=>bP (bP (bP (bP (bP (bP (bP (bP (bP (bP (bP (bP (bP (sx e).2 (sx e).1) (cT (sx e).2 q0)) (sx e).1) (cT (sx e).2 q1)) (sx e).1) (cT (sx e).2 q2)) (sx e).1) (cT (sx e).2 q3)) (sx e).1) (cT (sx e).2 q4)) (sx e).1) (cT (sx e).2 q5)) (sx e).1,λk=>?_]
     . match j,hj with
       | 0,_=>exact bP (bP (bP (bP (bP (bP (bP (bP (bP (bP (bP aL nx0) (Ne.symm n10)) nx0) (Ne.symm n20)) nx0) (Ne.symm n30)) nx0) (Ne.symm n40)) nx0) (Ne.symm n50)) nx0
       | 1,_=>exact bP (bP (bP (bP (bP (bP (bP (bP (bP aL nx1) (Ne.symm n21)) nx1) (Ne.symm n31)) nx1) (Ne.symm n41)) nx1) (Ne.symm n51)) nx1
       | 2,_=>exact bP (bP (bP (bP (bP (bP (bP aL nx2) (Ne.symm n32)) nx2) (Ne.symm n42)) nx2) (Ne.symm n52)) nx2
       | 3,_=>exact bP (bP (bP (bP (bP aL nx3) (Ne.symm n43)) nx3) (Ne.symm n53)) nx3
       | 4,_=>exact bP (bP (bP aL nx4) (Ne.symm n54)) nx4
       | 5,_=>exact bP aL nx5
       | n+6,h=>omega
     . match k with
       | 0=>exact(c9 nx0).trans q0
       | 1=>exact(c9 nx1).trans q1
       | 2=>exact(c9 nx2).trans q2
       | 3=>exact(c9 nx3).trans q3
       | 4=>exact(c9 nx4).trans q4
       | n+5=>exact(c9 nx5).trans q5
   rintro σ' G ⟨d,rfl,hFS,inj,hsm,hfd⟩;refine#[_,rfl,p,rfl,#[_,hsm.seq hS],(let Jv1:Nat->St->Hp->Prop:=λi σ H2=>∃(v2 v3:Option V) (kv:Nat->List (aO×V)) (nl wl:Nat->Addr),σ=[some (.ref x),some (.ref p),v2,v3]/\aC (ers x H) H2/\FS t.bX H2 x dx (db (V.str fz.name) d) d kv/\kv 0=kD (λi _=>.int i) (fns.take i)/\kv 1=kD (λ_ f=>f.fo) (fns.take i)/\kv 2=kD (λ_ f=>.ref f.pa) (fns.take i)/\kv 3=kD (λ_ f=>.ref f.ra) (fns.take i)/\kv 4=kD (λi _=>.ref (nl i)) (fns.take i)/\kv 5=kD (λi _=>.ref (wl i)) (fns.take i)/\(∀j g,j<i->fns[j]?=some g->hl H2 (nl j)=some (.lst ((nms g).map V.str))/\K13.FoundN (hl H2) (wl j) (kds g) (kds g).length)/\∀j,j<6->(kv j).length<=i; Gj (xs:=fns.map λf=>V.ref f.fa) Jv1 #[_,_,_,λ_=>0,λ_=>0,rfl,hsm,hFS,rfl,rfl,rfl,rfl,rfl,rfl,λj g h=>absurd h (IJ _),λj hj=>HN _] ?_ ?_ ?_)]
   . rintro i σ H2 hi ⟨v2,v3,kv,nlf,wlf,rfl,s2,_⟩;exact s2.seq hS
   . rintro i y σ H2 b hy ⟨v2,v3,kv,nlf,wlf,rfl,s2,o2,k0,k1,k2,k3,k4,k5,hnw,kl⟩ hb;obtain⟨f,hi,hm,rfl⟩:=zy hy;have ilt:i<fns.length:=(HL.mp hi).1;have hT:=(hE f hm).fn;have hfu:=(hE f hm).fu;have fit:∀{n:Nat},n<=i+1->n<sizeLine:=λ{n} h=>tZ (by omega);refine#[b,_,rfl,aG.of aL,rfl,_,_,rfl,_,_,rfl,rfl,?_];have s3:=s2.trans (aC.new (o:=.tup [.int i,.ref f.fa]) hb);have o3:=o2.mono (aC.new (o:=.tup [.int i,.ref f.fa]) hb);refine#[_,rfl,_,rfl,x,t.bX,dx,_,_,rfl,o3.ob,T.cu.cl,T.zC,Bi _ _,_,rfl,f.fa,_,_,_,rfl,rfl,s3.tup hT,ai,d 0,_,rfl,dj.k (k:=(Sum.inr f.name:aO)) (show _=some (HO.dK (kv 0)) from o3.dc 0 (by decide)) (fit (by have:=kl 0 (by decide); simpa using (by omega:_<=i+1))),?_];have s4:=aC.upd (o:=.dK (az (kv 0) (Sum.inr f.name:aO) (V.int i))) s3 (hfd 0);have o4:=o3.put inj 0 (by decide) (az (kv 0) (Sum.inr f.name:aO) (V.int i));refine#[_,rfl,f.fa,_,_,_,rfl,rfl,s4.tup hT,rfl,_,rfl,x,t.bX,dx,_,_,rfl,o4.ob,T.cu.cl,T.zB,FH _ _,_,rfl,f.fa,_,_,_,rfl,rfl,s4.tup hT,ai,d 1,_,rfl,dj.k (k:=(Sum.inr f.name:aO)) (show _=some (HO.dK (kv 1)) from o4.dc 1 (by decide)) (fit (by have:=kl 1 (by decide); simpa using (by omega:_<=i+1))),?_];have s5:=aC.upd (o:=.dK (az (kv 1) (Sum.inr f.name:aO) f.fo)) s4 (hfd 1);have o5:=o4.put inj 1 (by decide) (az (kv 1) (Sum.inr f.name:aO) f.fo);refine#[_,rfl,f.fa,_,_,_,rfl,rfl,s5.tup hT,rfl,_,rfl,x,t.bX,dx,_,_,rfl,o5.ob,T.cu.cl,T.zD,Cn _ _,_,rfl,f.fa,_,_,_,rfl,rfl,s5.tup hT,ai,d 2,_,rfl,dj.k (k:=(Sum.inr f.name:aO)) (show _=some (HO.dK (kv 2)) from o5.dc 2 (by decide)) (fit (by have:=kl 2 (by decide); simpa using (by omega:_<=i+1))),?_];have s6:=aC.upd (o:=.dK (az (kv 2) (Sum.inr f.name:aO) (.ref f.pa))) s5 (hfd 2);have o6:=o5.put inj 2 (by decide) (az (kv 2) (Sum.inr f.name:aO) (.ref f.pa));refine#[_,rfl,f.fa,_,_,_,rfl,rfl,s6.tup hT,rfl,_,rfl,x,t.bX,dx,_,_,rfl,o6.ob,T.cu.cl,T.qx,rF _ _,_,rfl,f.fa,_,_,_,rfl,rfl,s6.tup hT,ai,d 3,_,rfl,dj.k (k:=(Sum.inr f.name:aO)) (show _=some (HO.dK (kv 3)) from o6.dc 3 (by decide)) (fit (by have:=kl 3 (by decide); simpa using (by omega:_<=i+1))),?_];have s7:=aC.upd (o:=.dK (az (kv 3) (Sum.inr f.name:aO) (.ref f.ra))) s6 (hfd 3);have o7:=o6.put inj 3 (by decide) (az (kv 3) (Sum.inr f.name:aO) (.ref f.ra));refine#[_,rfl,f.fa,f.ps,f.ds,rfl,hfu.mono s7,λnl H8 e8 hnl hl8=>?_];have s8:=s7.trans e8;have o8:=o7.mono e8;refine#[_,rfl,x,t.bX,dx,_,_,rfl,o8.ob,T.cu.cl,T.qw,ur _ _,_,rfl,f.fa,_,_,_,rfl,rfl,s8.tup hT,ai,d 4,_,rfl,dj.k (k:=(Sum.inr f.name:aO)) (show _=some (HO.dK (kv 4)) from o8.dc 4 (by decide)) (fit (by have:=kl 4 (by decide); simpa using (by omega:_<=i+1))),?_];have s9:=aC.upd (o:=.dK (az (kv 4) (Sum.inr f.name:aO) (.ref nl))) s8 (hfd 4);have o9:=o8.put inj 4 (by decide) (az (kv 4) (Sum.inr f.name:aO) (.ref nl));refine#[_,rfl,f.fa,_,_,_,rfl,rfl,s9.tup hT,rfl,f.ra,kds f,rfl,((hE f hm).old.mono s9).rows,(hE f hm).wf,(by unfold kds; rw[HH]; have:=(hE f hm).len; omega),λwl HA eA hwl hfn=>?_];have sA:=s9.trans eA;have oA:=o9.mono eA;refine#[_,rfl,x,t.bX,dx,_,_,rfl,oA.ob,T.cu.cl,T.qy,tj _ _,_,rfl,f.fa,_,_,_,rfl,rfl,sA.tup hT,ai,d 5,_,rfl,dj.k (k:=(Sum.inr f.name:aO)) (show _=some (HO.dK (kv 5)) from oA.dc 5 (by decide)) (fit (by have:=kl 5 (by decide); simpa using (by omega:_<=i+1))),?_];have sB:=aC.upd (o:=.dK (az (kv 5) (Sum.inr f.name:aO) (.ref wl))) sA (hfd 5);have oB:=oA.put inj 5 (by decide) (az (kv 5) (Sum.inr f.name:aO) (.ref wl));have c3:aC (hl H2) (hl H8):=by have z1:aC (hl H2) (hl (upd H2 b (.tup [.int i,.ref f.fa]))):=(aC.new (o:=.tup [.int i,.ref f.fa]) hb).hl;have z2:=e8.hl;rw[iT (o6.dc 3 (by decide)),iT (o5.dc 2 (by decide)),iT (o4.dc 1 (by decide)),iT (o3.dc 0 (by decide))] at z2;exact z1.trans z2
     have c4:aC (hl H8) (hl HA):=by have z2:=eA.hl;rw[iT (o8.dc 4 (by decide))] at z2;exact z2
     have c5:hl (upd HA (d 5) (.dK (az (kv 5) (Sum.inr f.name:aO) (.ref wl))))=hl HA:=iT (oA.dc 5 (by decide));refine#[_,_,_,λj=>if j=i then nl else nlf j,λj=>if j=i then wl else wlf j,rfl,sB,oB,?_,?_,?_,?_,?_,?_,λj g hj hg=>?_,λj hj=>?_]
     . show az (kv 0) (Sum.inr f.name:aO) (V.int i)=_;rw[k0];exact gv hi nd (λ_ _ _=>rfl) rfl
     . show az (kv 1) (Sum.inr f.name:aO) f.fo=_;rw[k1];exact gv hi nd (λ_ _ _=>rfl) rfl
     . show az (kv 2) (Sum.inr f.name:aO) (.ref f.pa)=_;rw[k2];exact gv hi nd (λ_ _ _=>rfl) rfl
     . show az (kv 3) (Sum.inr f.name:aO) (.ref f.ra)=_;rw[k3];exact gv hi nd (λ_ _ _=>rfl) rfl
     . show az (kv 4) (Sum.inr f.name:aO) (.ref nl)=_;rw[k4];exact gv hi nd (λj _ hj=>by show V.ref (nlf j)=V.ref (if j=i then nl else nlf j); rw[HI (by omega)]) (by show V.ref nl=V.ref (if i=i then nl else nlf i); rw[HR rfl])
     . show az (kv 5) (Sum.inr f.name:aO) (.ref wl)=_;rw[k5];exact gv hi nd (λj _ hj=>by show V.ref (wlf j)=V.ref (if j=i then wl else wlf j); rw[HI (by omega)]) (by show V.ref wl=V.ref (if i=i then wl else wlf i); rw[HR rfl])
     . rw[c5];by_cases hji:j=i
       . subst hji;rw[hi] at hg;cases hg;refine#[?_,?_]
         . show hl HA (if j=j then nl else nlf j)=_;rw[HR rfl];exact c4 _ _ (sf hl8)
         . show K13.FoundN (hl HA) (if j=j then wl else wlf j) _ _;rw[HR rfl];exact hfn.hl
       . obtain⟨y1,y2⟩:=hnw j g (by omega) hg;refine#[?_,?_]
         . show hl HA (if j=i then nl else nlf j)=_;rw[HI hji];exact c4 _ _ (c3 _ _ y1)
         . show K13.FoundN (hl HA) (if j=i then wl else wlf j) _ _;rw[HI hji];exact y2.mono (c3.trans c4)
     . have e:=kl j hj
       match j,hj with
       | 0,_=>exact Ht (dP _ _ _) (by omega)
       | 1,_=>exact Ht (dP _ _ _) (by omega)
       | 2,_=>exact Ht (dP _ _ _) (by omega)
       | 3,_=>exact Ht (dP _ _ _) (by omega)
       | 4,_=>exact Ht (dP _ _ _) (by omega)
       | 5,_=>exact Ht (dP _ _ _) (by omega)
       | n+6,h=>omega
   . rintro σ H2 ⟨v2,v3,kv,nlf,wlf,rfl,s2,o2,k0,k1,k2,k3,k4,k5,hnw,kl⟩;rw[fl,IB] at k0 k1 k2 k3 k4 k5;exact q H2 s2 #[λf hf=>(hE f hf).mono s2,nd,dx,fz,d,kv,nlf,wlf,hz,o2,k0,k1,k2,k3,k4,k5,λi f hi=>let ⟨y1,y2⟩:=hnw i f (by rw[fl]; exact(HL.mp hi).1) hi; #[oF _ _ y1,y2.mono oF]]
end
end K43
namespace K43
open PySem L2 Gx Fl Bg Wk St
section
variable {P:Program} {w:World} {K:W.Frag} {mg:Str->Option Value} {base:Heap} {t:Adr}
theorem CC:FnScope ["self","frame"] ["self","frame"] (bD pd):=by walk_at "s"
theorem uN (T:Txt K mg t):FnOk P w K mg base CX0 1 t.wg t.xm ["self","frame"] (GC K t):=by
 refine T.kB.F.ok CC (λvs H Q E h=>?_) (λcdv A outer s H vs Q E hr h=>?_)
 . obtain⟨x,fa,fns,F,r,w,rfl,hF,hm,hT,hW,q⟩:=h;rfl
 . obtain⟨x,fa,fns,F,r,w,rfl,hF,hm,hT,hW,q⟩:=h;refine#[_,(aM (@aa _ _ _ _ (aI (show aJ _ (aR K) from aS) (fW (cO hr.units) (bK (aB 0) (by rfl)) (aI (show aJ _ (aR K) from aS) (aB 1) aD (λ_ _=>rfl)) (λ_ _=>rfl)) (aI (show aJ _ (aR K) from aS) (aB 1) aD (λ_ _=>rfl)) (λ_ _=>rfl))) al),?_];obtain⟨dx,fs,d,kvs,e1,e2,e3,e4⟩:=zJ hF hm;exact#[_,rfl,x,t.bX,dx,_,_,rfl,e1,T.cu.cl,T.qx,e2,_,rfl,fa,_,_,_,rfl,rfl,hT,ai,_,_,rfl,je e3 e4,_,rfl,fa,_,_,_,rfl,rfl,hT,rfl,F.ra,_,_,_,rfl,rfl,(hF.all F hm).rw_,si (by omega) (by rw[IH]; exact hW),q]
theorem A9:FnScope ["self","frame"] ["self","frame"] (bD nu):=by walk_at "s"
theorem Af (T:Txt K mg t):FnOk P w K mg base CX0 1 t.wj t.xn ["self","frame"] (Ge K t):=by
 refine T.qh.F.ok A9 (λvs H Q E h=>?_) (λcdv A outer s H vs Q E hr h=>?_)
 . obtain⟨x,fa,fns,F,r,j,to_,rfl,hF,hm,hT,hr_,hw,q⟩:=h;rfl
 . obtain⟨x,fa,fns,F,r,j,to_,rfl,hF,hm,hT,hr_,hw,q⟩:=h;refine#[_,(aM (@aa _ _ _ _ (aI (show aJ _ (ae K) from af) (fW (cO hr.units) (bK (aB 0) (by rfl)) (aI (show aJ _ (aR K) from aS) (aB 1) aD (λ_ _=>rfl)) (λ_ _=>rfl)) (aI (show aJ _ (aR K) from aS) (aB 1) aD (λ_ _=>rfl)) (λ_ _=>rfl))) al),?_];obtain⟨wl,tp,vs,l,⟨dx,fs,d,kvs,e1,e2,e3,e4⟩,h1,h2,h3,h4⟩:=GW hF hm hr_ hw;exact#[_,rfl,x,t.bX,dx,_,_,rfl,e1,T.cu.cl,T.qy,e2,_,rfl,fa,_,_,_,rfl,rfl,hT,ai,_,_,rfl,je e3 e4,_,rfl,fa,_,_,_,rfl,rfl,hT,rfl,wl,_,_,_,rfl,rfl,aK.of h1,bt h2,q tp l (aG.of h3) h4]
end
end K43
namespace K43
open PySem L2 K21 Rk2
section
variable {P:Program} {w:World} {K:W.Frag} {mg:Str->Option Value} {base:Heap} {t:Adr}
theorem FA:FnScope ["sign","one","other"] ["sign","one","other"] (bD qJ):=by walk_at "s"
theorem AS (T:Txt K mg t):FnOk P w K mg base CX0 1 t.xh t.yk ["sign","one","other"] (FT K):=by
 refine T.value.F.ok FA (λvs H Q E h=>?_) (λcdv A outer s H vs Q E hr h=>?_)
 . obtain⟨s,a,b,rfl,h1,h2,h3,h4,q⟩:=h;rfl
 . obtain⟨s,a,b,rfl,h1,h2,h3,h4,q⟩:=h;refine#[_,(aM (ao (au bE (aB 0) aQ (am _)) (@aP _ _ _ (@aa _ _ _ _ (@aN _ _ _ _ _ _ _ _ (aV bI) (@aN _ _ _ _ _ _ _ _ (bf cM) (aB 1) (aB 2)) (pC T.qp)))) al) (aM (ao (au bE (aB 0) aQ (am _)) (@aP _ _ _ (@aa _ _ _ _ (@aN _ _ _ _ _ _ _ _ (aV bI) (@aN _ _ _ _ _ _ _ _ (bf lC) (aB 1) (aB 2)) (pC T.qp)))) al) (aM (ao (au bE (aB 0) aQ (am _)) (@aP _ _ _ (@aa _ _ _ _ (@aN _ _ _ _ _ _ _ _ (aV bI) (@aN _ _ _ _ _ _ _ _ (aV dm) (aB 1) (aB 2)) (pC T.qp)))) al) (aM (ao (au bE (aB 0) aQ (am _)) (@aP _ _ _ (@aa _ _ _ _ (@ig _ _ _ _ _ _ _ _ (au bE (aB 2) aD (am _)) aD (@aN _ _ _ _ _ _ _ _ (aV vT) (aB 1) (aB 2))))) al) (aM (ao (au bE (aB 0) aQ (am _)) (@aP _ _ _ (@aa _ _ _ _ (@ig _ _ _ _ _ _ _ _ (au (bf kS) (aB 1) (aB 2) (am _)) aD aD))) al) (aM (ao (au bE (aB 0) aQ (am _)) (@aP _ _ _ (@aa _ _ _ _ (@ig _ _ _ _ _ _ _ _ (au bE (aB 1) (aB 2) (am _)) aD aD))) al) (aM (ao (au bE (aB 0) aQ (am _)) (@aP _ _ _ (@aa _ _ _ _ (@aN _ _ _ _ _ _ _ _ (bf sV) (aB 1) (aB 2)))) al) (aM (ao (au bE (aB 0) aQ (am _)) (@aP _ _ _ (@aa _ _ _ _ (@aN _ _ _ _ _ _ _ _ (bf rh) (aB 1) (aB 2)))) al) (@aP _ _ _ (@aa _ _ _ _ (@aN _ _ _ _ _ _ _ _ (bf vE) (aB 1) (aB 2)))))))))))),?_];have hw:wide=281474976710656:=rfl;refine#[_,rfl,rfl,_,rfl,?_];by_cases k1:s="+"
   . refine aU (HK (Hb V.str k1)) ?_;have e:valOf s a b=(a+b)%wide:=by unfold valOf; rw[HR k1]
     rw[e] at q;exact#[_,rfl,_,rfl,_,_,rfl,rfl,_,_,rfl,rfl,(show(0:Int)<281474976710656 by decide),q]
   refine ak (λz=>k1 (V.str.inj (bM z))) ?_;refine#[_,rfl,rfl,_,rfl,?_];by_cases k2:s="-"
   . refine aU (HK (Hb V.str k2)) ?_;have e:valOf s a b=(a - b)%wide:=by unfold valOf; rw[HI k1,HR k2]
     rw[e] at q;exact#[_,rfl,_,rfl,_,_,rfl,rfl,_,_,rfl,rfl,(show(0:Int)<281474976710656 by decide),q]
   refine ak (λz=>k2 (V.str.inj (bM z))) ?_;refine#[_,rfl,rfl,_,rfl,?_];by_cases k3:s="*"
   . refine aU (HK (Hb V.str k3)) ?_;have e:valOf s a b=(a * b)%wide:=by unfold valOf; rw[HI k1,HI k2,HR k3]
     rw[e] at q;exact#[_,rfl,_,rfl,_,_,rfl,rfl,.inl #[by omega,by omega],_,_,rfl,rfl,(show(0:Int)<281474976710656 by decide),q]
   refine ak (λz=>k3 (V.str.inj (bM z))) ?_;refine#[_,rfl,rfl,_,rfl,?_];by_cases k4:s="/"
   . refine aU (HK (Hb V.str k4)) ?_;have e:valOf s a b=if b=0 then 0 else a / b:=by unfold valOf; rw[HI k1,HI k2,HI k3,HR k4]
     rw[e] at q;refine#[_,rfl,rfl,_,rfl,?_];by_cases hb:b=0
     . rw[HR hb] at q;exact aU (HK (Hb V.int hb)) q
     . rw[HI hb] at q;exact ak (λz=>hb (V.int.inj (bM z))) #[_,rfl,_,rfl,_,_,rfl,rfl,#[by omega,by omega],q]
   refine ak (λz=>k4 (V.str.inj (bM z))) ?_;refine#[_,rfl,rfl,_,rfl,?_];by_cases k5:s="<"
   . refine aU (HK (Hb V.str k5)) ?_;have e:valOf s a b=if a<b then 1 else 0:=by unfold valOf; rw[HI k1,HI k2,HI k3,HI k4,HR k5]
     rw[e] at q;refine#[_,rfl,_,rfl,_,_,rfl,rfl,_,rfl,?_];by_cases hb:a<b
     . rw[HR hb] at q;exact aU (HK hb) q
     . rw[HI hb] at q;exact ak (λz=>hb (bM z)) q
   refine ak (λz=>k5 (V.str.inj (bM z))) ?_;refine#[_,rfl,rfl,_,rfl,?_];by_cases k6:s="="
   . refine aU (HK (Hb V.str k6)) ?_;have e:valOf s a b=if a=b then 1 else 0:=by unfold valOf; rw[HI k1,HI k2,HI k3,HI k4,HI k5,HR k6]
     rw[e] at q;refine#[_,rfl,_,rfl,rfl,_,rfl,?_];by_cases hb:a=b
     . rw[HR hb] at q;exact aU (HK (Hb V.int hb)) q
     . rw[HI hb] at q;exact ak (λz=>hb (V.int.inj (bM z))) q
   refine ak (λz=>k6 (V.str.inj (bM z))) ?_;refine#[_,rfl,rfl,_,rfl,?_];by_cases k7:s="&"
   . refine aU (HK (Hb V.str k7)) ?_;have e:valOf s a b=Builtin.bitAnd a b:=by unfold valOf bw; rw[HI k1,HI k2,HI k3,HI k4,HI k5,HI k6,HR k7]
     rw[e] at q;exact#[_,rfl,_,rfl,_,_,rfl,rfl,q]
   refine ak (λz=>k7 (V.str.inj (bM z))) ?_;refine#[_,rfl,rfl,_,rfl,?_];by_cases k8:s="|"
   . refine aU (HK (Hb V.str k8)) ?_;have e:valOf s a b=Builtin.bitOr a b:=by unfold valOf bw; rw[HI k1,HI k2,HI k3,HI k4,HI k5,HI k6,HI k7,HR k8]
     rw[e] at q;exact#[_,rfl,_,rfl,_,_,rfl,rfl,q]
   refine ak (λz=>k8 (V.str.inj (bM z))) ?_;have e:valOf s a b=Builtin.bitXor a b:=by unfold valOf bw; rw[HI k1,HI k2,HI k3,HI k4,HI k5,HI k6,HI k7,HI k8]
   rw[e] at q;exact#[_,rfl,_,rfl,_,_,rfl,rfl,q]
theorem Dc:FnScope ["sign","left","right"] ["sign","left","right"] (bD pq):=by walk_at "s"
theorem tt (T:Txt K mg t):FnOk P w K mg base CX0 2 t.xg t.yj ["sign","left","right"] (Bp K):=by
 have QC:=AS (P:=P) (w:=w) (base:=base) T;refine T.together.F.ok Dc (λvs H Q E h=>?_) (λcdv A outer s H vs Q E hr h=>?_)
 . obtain⟨s,tl,tr,x,y,rfl,sg,hL,hR,oL,oR,q⟩:=h;rfl
 . obtain⟨s,tl,tr,x,y,rfl,sg,hL,hR,oL,oR,q⟩:=h;refine#[_,(aM (ao (@PW.pt _ _ _ (dA (au bE (aI (show aJ _ (aR K) from aS) (aB 1) aD (λ_ _=>rfl)) aQ (am _)) (dJ (au bE (aI (show aJ _ (aR K) from aS) (aB 2) aD (λ_ _=>rfl)) aQ (am _))))) (@aP _ _ _ (@aa _ _ _ _ (aY (aE aQ (aE (bC T.value QC (hr.mono (by decide)) (aE (aB 0) (aE (aI (show aJ _ (aR K) from aS) (aB 1) aD (λ_ _=>rfl)) (aE (aI (show aJ _ (aR K) from aS) (aB 2) aD (λ_ _=>rfl)) aF rfl) rfl) rfl)) aF rfl) rfl)))) al) (@aP _ _ _ (@aa _ _ _ _ (aY (aE (aB 0) (aE (aB 1) (aE (aB 2) aF rfl) rfl) rfl))))),?_];obtain⟨p1,g1,r1,rfl,e1,n1,m1⟩:=hL.head;obtain⟨p2,g2,r2,rfl,e2,n2,m2⟩:=hR.head;have opc:((∀k,tl≠.num k)\/∀k,tr≠.num k)->∀p,H p=none->Q (.ref p) (upd H p (.tup [.str s,.ref p1,.ref p2])):=λh p hp=>by refine q _ _ (aC.new hp) ?_;rw[tog_op h];exact#[p,_,_,rfl,aL,sg.1,sg.2,hL.mono (aC.new hp),hR.mono (aC.new hp)]
   refine#[_,rfl,p1,_,_,_,rfl,rfl,aG.of e1,ai,rfl,_,rfl,?_];by_cases k1:g1="num"
   . refine aU (HK (Hb V.str k1)) #[_,rfl,p2,_,_,_,rfl,rfl,aG.of e2,ai,rfl,_,rfl,?_];by_cases k2:g2="num"
     . refine aU (HK (Hb V.str k2)) ?_;obtain⟨a,rfl,rfl⟩:=n1 k1;obtain⟨b,rfl,rfl⟩:=n2 k2;have bA:=okl_num oL;have bB:=okl_num oR;exact#[_,rfl,_,rfl,p1,_,_,_,rfl,rfl,aG.of e1,rfl,_,rfl,p2,_,_,_,rfl,rfl,aG.of e2,rfl,s,a,b,rfl,bA.1,bB.1,bA.2,bB.2,aw,λp hp=>q _ _ (aC.new hp) #[p,rfl,aL]]
     . refine ak (λz=>k2 (V.str.inj (bM z))) #[_,rfl,_,rfl,_,rfl,cU,opc (.inr (m2 k2))]
   . refine ak (λz=>k1 (V.str.inj (bM z))) (iW #[_,rfl,_,rfl,_,rfl,cU,opc (.inl (m1 k1))])
theorem wU:FnScope ["one","news"] ["one","news"] (bD nP):=by walk_at "s"
theorem uP (T:Txt K mg t):∀n,FnOk P w K mg base CX0 (n+3) t.mY t.ma ["one","news"] (oh K n)
| 0=>T.put_through.F.ok wU (λvs H Q E h=>by obtain⟨tr,v,d,kvs,g,rfl,hd,hR,hD,nv,ok,og,q⟩:=h; exact absurd hd (IJ _)) (λcdv A outer s H vs Q E hr h=>by obtain⟨tr,v,d,kvs,g,rfl,hd,hR,hD,nv,ok,og,q⟩:=h; exact absurd hd (IJ _))
| n+1=>by
 have Qk:=tt (P:=P) (w:=w) (base:=base) T;have Qi:FnOk P w K mg base CX0 (n+3) t.mY t.ma ["one","news"] (oh K n):=uP T n;refine T.put_through.F.ok wU (λvs H Q E h=>?_) (λcdv A outer s H vs Q E hr h=>?_)
 . obtain⟨tr,v,d,kvs,g,rfl,hd,hR,hD,nv,ok,og,q⟩:=h;rfl
 . obtain⟨tr,v,d,kvs,g,rfl,hd,hR,hD,nv,ok,og,q⟩:=h;refine#[_,(aM (ao (au bE (aI (show aJ _ (aR K) from aS) (aB 0) aD (λ_ _=>rfl)) aQ (am _)) (@aP _ _ _ (@aa _ _ _ _ (aB 0))) al) (aM (ao (au bE (aI (show aJ _ (aR K) from aS) (aB 0) aD (λ_ _=>rfl)) aQ (am _)) (@aP _ _ _ (@aa _ _ _ _ (oP (cO hr.units) (aB 1) (aI (show aJ _ (aR K) from aS) (aB 0) aD (λ_ _=>rfl)) (aB 0) #[rfl,rfl,rfl,rfl]))) al) (@aP _ _ _ (@aa _ _ _ _ (bC T.together Qk (hr.mono (by omega)) (aE (aI (show aJ _ (aR K) from aS) (aB 0) aD (λ_ _=>rfl)) (aE (bC T.put_through Qi (hr.mono (by omega)) (aE (aI (show aJ _ (aR K) from aS) (aB 0) aD (λ_ _=>rfl)) (aE (aB 1) aF rfl) rfl)) (aE (bC T.put_through Qi (hr.mono (by omega)) (aE (aI (show aJ _ (aR K) from aS) (aB 0) aD (λ_ _=>rfl)) (aE (aB 1) aF rfl) rfl)) aF rfl) rfl) rfl)))))),?_];cases tr with
   | num k =>
     have hR':=hR;obtain⟨p,rfl,e⟩:=hR;exact#[_,rfl,p,_,_,_,rfl,rfl,aG.of e,ai,rfl,_,rfl,aU (HK rfl) #[_,rfl,q _ _ (aC.refl _) hR']]
   | box k =>
     have hR':=hR;obtain⟨p,rfl,e⟩:=hR;refine#[_,rfl,p,_,_,_,rfl,rfl,aG.of e,ai,rfl,_,rfl,ak (λz=>D3 (V.str.inj (bM z))) ?_];refine#[_,rfl,p,_,_,_,rfl,rfl,aG.of e,ai,rfl,_,rfl,aU (HK rfl) ?_];refine#[_,rfl,d,rfl,.inl #[kvs,.inl hD],_,rfl,p,_,_,_,rfl,rfl,aG.of e,rfl,_,rfl,_,cz.k (k:=Sum.inl k) hD,q _ _ (aC.refl _) ?_];show RAt H ((g k).getD (.box k)) _;cases eg:g k with
     | none=>rw[nv.no eg]; exact hR'
     | some t =>
       obtain⟨x,h1,h2⟩:=nv.yes eg;rw[h1];exact h2
   | op s l r =>
     obtain⟨p,x,y,rfl,e,n1,n2,hx,hy⟩:=hR;have d1:dp l<n:=by have:max (dp l) (dp r)+1<n+1:=hd; omega
     have d2:dp r<n:=by have:max (dp l) (dp r)+1<n+1:=hd; omega
     obtain⟨o1,o2⟩:=mS ok;refine#[_,rfl,p,_,_,_,rfl,rfl,aG.of e,ai,rfl,_,rfl,ak (λz=>n2 (V.str.inj (bM z))) ?_];refine#[_,rfl,p,_,_,_,rfl,rfl,aG.of e,ai,rfl,_,rfl,ak (λz=>n1 (V.str.inj (bM z))) ?_];refine#[_,rfl,p,_,_,_,rfl,rfl,aG.of e,ai,_,rfl,p,_,_,_,rfl,rfl,aG.of e,rfl,_,rfl,l,x,d,kvs,g,rfl,d1,hx,hD,nv,o1,og,λv1 H1 s1 r1=>?_];refine#[_,rfl,p,_,_,_,rfl,rfl,aG.of (s1 _ _ e),rfl,_,rfl,r,y,d,kvs,g,rfl,d2,hy.mono s1,s1 _ _ hD,nv.mono s1,o2,og,λv2 H2 s2 r2=>?_];exact#[s,pt g l,pt g r,v1,v2,rfl,#[n1,n2],r1.mono s2,r2,j4 og o1,j4 og o2,λv3 H3 s3 r3=>q _ _ ((s1.trans s2).trans s3) r3]
end
end K43
namespace K43
open PySem L2 Gx Fl Bg Wk St
section
variable {P:Program} {w:World} {K:W.Frag} {mg:Str->Option Value} {base:Heap} {t:Adr}
theorem nO:FnScope ["flows","mark","chain","views"] ["flows","mark"] (bD nc):=by walk_at "s"
theorem wP (T:Txt K mg t):FnOk P w K mg base CX0 1 t.xV t.yc ["flows","mark"] (zL K t):=by
 refine T.levels_of.F.ok nO (λvs H Q E h=>?_) (λcdv A outer s H vs Q E hr h=>?_)
 . obtain⟨x,m,fns,L,rfl,hF,hM,hk,hL,q⟩:=h;rfl
 . obtain⟨x,m,fns,L,rfl,hF,hM,hk,hL,q⟩:=h;refine#[_,(aM (eE (aB 1) (dn rfl (c7 (bS (i:=2) nO.nd rfl (Or.inl rfl)) (c7 (bS (i:=3) nO.nd rfl (Or.inl rfl)) di)))) (@aP _ _ _ (@aa _ _ _ _ (gO (N':=["frame","places","flows"]) (js:=[none,none,some 0]) (by kernel_rfl) rfl (lK true false rfl T.b_zip (aE (aB 2) (aE (aB 3) aF rfl) rfl)) (wV (lA (lA rO))) (λ_ _ _ _=>(show PG _ _ (mK K 2 _) from dn (n:=2) rfl (c7 (bS (i:=0) (show(["frame","places","flows"]:List Str).Nodup by decide +kernel) rfl (Or.inl rfl) (.inr rfl)) (c7 (bS (i:=1) (show(["frame","places","flows"]:List Str).Nodup by decide +kernel) rfl (Or.inl rfl) (.inr rfl)) di)))) (λ_ _ _ _=>fQ) (λ_ _ _ _=>(wO (λK=>kX (pY false false K) _) rfl (EW false false rfl (by rfl) T.b_dict (by rfl) T.b_zip (aE (fW (cO hr.units) (wO (λK=>sQ K _ "names_in") rfl (bK (aB 2) (by rfl))) (aI (show aJ _ (aR K) from aS) (aB 0) aD (λ_ _=>rfl)) (λ_ _=>rfl)) (aE (aB 1) aF rfl) rfl)))))))),?_];obtain⟨p,c,w,ws,rfl,hp,⟨cA,cs,rfl,hcs,hcp⟩,hw,hwp⟩:=hM;have hcp:Rk2.Ps (hX K H) cs (L.map Lev.fr):=hcp;have hwp:Rk2.Ps (fH K H) ws (L.map Lev.vw):=hwp;have lc:cs.length=L.length:=by have:=Rk2.Ps.len hcp; rwa [HH] at this
   have lw:ws.length=L.length:=by have:=Rk2.Ps.len hwp; rwa [HH] at this
   refine#[_,rfl,p,_,rfl,hp,rfl,_,_,rfl,_,_,rfl,rfl,?_];refine#[_,rfl,_,rfl,cA,w,rfl,#[_,hcs],#[_,hw],λpL hpL=>zX (b1:=true) (b2:=false) (xs:=cs) (ys:=ws) (by omega) (λi acc H2=>aC H H2/\H2 pL=some (.lst acc)/\Rk2.Ps (jB H (ers pL H2)) acc (L.take i)) #[aC.new hpL,aL,by rw[List.take_zero]; trivial] ?_ ?_ ?_]
   . rintro i acc H2 hi ⟨s2,e2,l2⟩;exact#[e2,by rw[Rk2.Ps.len l2,Hx]; omega,s2.tup hcs,s2.seq hw]
   . rintro i y z acc H2 b hy hz ⟨s2,e2,l2⟩ hb;have hi:i<L.length:=by have:=(HL.mp hy).1; omega
     obtain⟨e,he⟩:∃e,L[i]?=some e:=#[L[i],HX hi]
     obtain⟨u1,c1,a1,a2,a3⟩:=Rk2.Ps.at hcp (n:=i) (by rw[HH]; exact hi);rw[HW,he] at a2;cases a2;rw[hy] at a1;cases a1;obtain⟨u2,c2,b1,b2,b3⟩:=Rk2.Ps.at hwp (n:=i) (by rw[HH]; exact hi);rw[HW,he] at b2;cases b2;rw[hz] at b1;cases b1;obtain⟨fp,rfl,hfr⟩:=a3;obtain⟨vl,us,rfl,hvl,hus⟩:=b3;have ok:=hk e (HP he);have s3:=aC.new (o:=.tup [V.ref fp,V.ref vl]) hb;refine#[b,_,rfl,aG.of aL,rfl,_,_,rfl,_,_,rfl,rfl,?_];generalize upd H2 b (.tup [V.ref fp,V.ref vl])=H3 at s3 ⊢;have s03:=s2.trans s3;obtain⟨nl,⟨dx,fs,d,kvs,g1,g2,g3,g4⟩,g5⟩:=A3 (hF.mono s03) ok.m;refine#[_,rfl,x,t.bX,dx,_,_,rfl,g1,T.cu.cl,T.qw,g2,_,rfl,fp,_,_,_,rfl,rfl,s03.tup hfr,ai,_,_,rfl,je g3 g4,_,rfl,nl,vl,(F2.nms e.F).map (λn=>(Sum.inr n:aO)),us,rfl,(by rw[IS]; exact aK.of g5),s03.seq hvl,(by rw[HH]; have:=ok.b; omega),λd2 H4 n4 s4 e4=>?_];have nd:d2≠pL:=λz=>by rw[z,s3 _ _ e2] at n4; cases n4
     refine#[s4 _ _ (s3 _ _ e2),(s03.trans s4).upd hpL,aL,?_];rw[show L.take (i+1)=L.take i++[e] by rw[List.take_succ,he]; rfl,gg];exact Rk2.Ps.app (Rk2.Ps.imp (λ_ _ z=>z.mono (aC.ers (s3.trans s4))) l2) #[#[d2,us,rfl,(s03.free n4),(by rw[c9 nd]; exact e4.trans (Hb (λz=>some (HO.dK z)) (wJ (us:=us) (acc:=[]) (vH _) λ_ _=>rfl))),Rk2.Ps.imp (λ_ _ z=>aX.mono z (g9 (s03.trans s4) hpL)) hus],trivial]
   . rintro acc H2 ⟨s2,e2,l2⟩;rw[lc,lw,Nat.min_self,IB] at l2;exact q _ _ s2 #[pL,acc,rfl,e2,Rk2.Ps.imp (λ_ _ z=>z.mono dH) l2]
theorem zP:FnScope ["named","atom"] ["named","atom"] (bD qQ):=by walk_at "s"
theorem sO (T:Txt K mg t):FnOk P w K mg base CX0 1 t.xZ t.yg ["named","atom"] (F8 K):=by
 refine T.place_of.F.ok zP (λvs H Q E h=>?_) (λcdv A outer s H vs Q E hr h=>?_)
 . obtain⟨b0,d,f,a,o,rfl,hL,ho,q⟩:=h;rfl
 . obtain⟨b0,d,f,a,o,rfl,hL,ho,q⟩:=h;refine#[_,(aM (@aa _ _ _ _ (@ig _ _ _ _ _ _ _ _ (jc (cP mC (by rfl) T.b_isinstance mE (aE (aB 1) (aE (lX (v:=V.ty "str") rfl T.b_str pM rfl) aF rfl) rfl))) (fW (cO hr.units) (aB 0) (aB 1) (λ_ _=>rfl)) (aY (aE aQ (aE (aB 1) aF rfl) rfl)))) al),?_];cases a with
   | str n =>
     obtain⟨kvs,e,_,h3⟩:=hL;obtain⟨v,h4,h5⟩:=h3 n o ho;exact#[_,rfl,_,"str",_,true,rfl,.str _,rfl,_,rfl,pQ #[_,rfl,_,rfl,d,_,rfl,je e h4,q v H (aC.refl _) h5]]
   | int i =>
     cases ho;exact#[_,rfl,_,"str",_,false,rfl,.int _,rfl,_,rfl,iW #[_,rfl,aw,λp hp=>q _ _ (aC.new hp) #[p,rfl,aL]]]
   | _=>cases ho
theorem vM:FnScope ["flows","chain","way","last"] ["flows","chain","way"] (bD pZ):=by walk_at "s"
theorem oE (T:Txt K mg t):FnOk P w K mg base CX0 2 t.xX t.ye ["flows","chain","way"] (C2 K t):=by
 have QD:=Af (P:=P) (w:=w) (base:=base) T;refine T.moved.F.ok vM (λvs H Q E h=>?_) (λcdv A outer s H vs Q E hr h=>?_)
 . obtain⟨x,cv,fns,ch,F,r,j,to_,rfl,hF,hC,hm,hr_,hw,h10,q⟩:=h;rfl
 . obtain⟨x,cv,fns,ch,F,r,j,to_,rfl,hF,hC,hm,hr_,hw,h10,q⟩:=h;refine#[_,(aM (@ag _ _ 3 _ _ _ _ vM.nd rfl (Or.inl rfl) (aI (show aJ _ (aR K) from aS) (aB 1) (cq cn aD) (λ_ _=>rfl)) (by rfl) (by walk_at "f")) (@aP _ _ _ (@aa _ _ _ _ (@aN _ _ _ _ _ _ _ _ mQ (iD mT (aB 1) i6 (gu (cq cn aD))) (aY (aE (aY (aE (aI (show aJ _ (aR K) from aS) (aB 3) aD (λ_ _=>rfl)) (aE (aI (show aJ _ (aR K) from aS) (cw (aB 0) T.cu.cl T.qh.m QD (hr.mono (by decide)) T.qh.b .nil ce (aE (aB 3) aF rfl)) (aB 2) (λ_ _=>rfl)) aF rfl) rfl)) aF rfl)))))),?_];obtain⟨cA,cs,rfl,hcs,hp⟩:=hC;obtain⟨ws,u,rfl,h1,fa,rfl,hfa⟩:=St.Ps.split1 hp;have lw:ws.length=ch.length:=Rk2.Ps.len h1;refine#[_,rfl,_,rfl,cA,_,_,_,rfl,rfl,hcs,gY _ _,?_];refine#[_,rfl,_,rfl,_,rfl,lJ hcs λqA HA sA hqA=>?_];rw[wB] at hqA;have hF':=hF.mono sA;obtain⟨dx,fz,d,kv,nl,wl,h0,hO,_⟩:=hF'.ob;refine#[_,rfl,fa,_,_,_,rfl,rfl,sA.tup hfa,ai,_,rfl,x,dx,_,rfl,hO.ob,(by rfl),_,rfl,x,fa,fns,F,r,j,to_,rfl,hF',hm,sA.tup hfa,hr_,hw,λtp l ht hl=>?_];refine#[_,rfl,tp,_,_,_,rfl,rfl,ht,bt (j:=j) (by unfold K13.natsV; rw[HW,hl]; rfl),aw,λp1 hp1=>#[cN,λp2 hp2=>?_]];have z1:=aC.new (o:=.tup [.str F.name,.int (to_:Int)]) hp1;have z2:=aC.new (o:=.tup [.ref p1]) hp2;refine kr ((z1.trans z2).tup hqA) aL (by simp) (cG (by show ws.length+1<_; omega)) λp3 H3 s3 e3=>?_;have s03:=((sA.trans z1).trans z2).trans s3;exact q _ H3 s03 #[p3,_,rfl,aG.of e3,Rk2.Ps.app (Rk2.Ps.imp (λ_ _ z=>z.mono s03) h1) #[#[p1,rfl,s3.tup (z2.tup (aG.of aL))],trivial]]
theorem tD:FnScope ["levels","name","place","named"] ["levels","name","place"] (bD qO):=by walk_at "s"
theorem tK (T:Txt K mg t):FnOk P w K mg base CX0 1 t.xj t.ym ["levels","name","place"] (AT K):=by
 refine T.with_given.F.ok tD (λvs H Q E h=>?_) (λcdv A outer s H vs Q E hr h=>?_)
 . obtain⟨lv,pv,n,fs,f,o,rfl,hL,hv,h10,q⟩:=h;rfl
 . obtain⟨lv,pv,n,fs,f,o,rfl,hL,hv,h10,q⟩:=h;refine#[_,(aM (@ag _ _ 3 _ _ _ _ tD.nd rfl (Or.inl rfl) (d6 EA (by rfl) T.b_dict lH (aE (aI (show aJ _ (ae K) from af) (aB 0) (cq cn aD) (λ_ _=>rfl)) aF rfl)) (by rfl) (by walk_at "f")) (aM (eQ (cO hr.units) (aB 3) (aB 1) (aB 2) (by rfl)) (@aP _ _ _ (@aa _ _ _ _ (@aN _ _ _ _ _ _ _ _ fe (iD AM (aB 0) i6 (gu (cq cn aD))) (bj (aE (aB 3) aF rfl))))))),?_];obtain⟨l,ds,rfl,el,hd⟩:=hL;obtain⟨ws,u,rfl,h1,d,rfl,kvs,e,hk,h3⟩:=St.Ps.split1 hd;have lw:ws.length=fs.length:=Rk2.Ps.len h1;refine#[_,rfl,_,rfl,l,_,_,_,rfl,rfl,aK.of el,gY _ _,d,kvs,rfl,e,λd2 hd2=>?_];have s1:=aC.new (o:=.dK kvs) hd2;refine#[_,rfl,_,rfl,_,rfl,d2,_,rfl,dj.k (k:=(Sum.inr n:aO)) aL (Rk2.lt_line' (n:=kvs.length) (by omega)),?_];have s2:aC H (upd (upd H d2 (.dK kvs)) d2 (.dK (az kvs (Sum.inr n:aO) pv))):=s1.upd hd2;have e2:upd (upd H d2 (.dK kvs)) d2 (.dK (az kvs (Sum.inr n:aO) pv)) d2=some (.dK (az kvs (Sum.inr n:aO) pv)):=aL;generalize upd (upd H d2 (.dK kvs)) d2 (.dK (az kvs (Sum.inr n:aO) pv))=H2 at s2 e2 ⊢;refine#[_,rfl,_,rfl,_,rfl,l,_,rfl,aK.of (s2 _ _ el),λp1 hp1=>#[_,rfl,cN,λp2 hp2=>?_]];rw[wB] at hp2 ⊢;refine#[p1,p2,_,_,rfl,rfl,aC.new hp2 _ _ aL,aL,cG (by show ws.length+1<_; omega),λp3 hp3=>?_];have s3:=((aC.new (o:=.lst ws) hp1).trans (aC.new (o:=.lst [.ref d2]) hp2)).trans (aC.new (o:=.lst (ws++[.ref d2])) hp3);refine q _ _ (s2.trans s3) #[p3,_,rfl,aL,Rk2.Ps.app (Rk2.Ps.imp (λ_ _ z=>(z.mono (s2.trans s3)).up (by decide)) h1) #[#[d2,rfl,_,s3 _ _ e2,by have:=EX kvs (Sum.inr n:aO) pv; omega,λm o' hm=>?_],trivial]];rw[FP];unfold gm at hm;by_cases hmn:m=n
   . rw[HR hmn] at hm;cases hm;rw[HR (by rw[hmn])];exact#[pv,rfl,aX.mono hv (s2.trans s3)]
   . rw[HI hmn] at hm;rw[HI (λz=>hmn (Sum.inr.inj z))];obtain⟨v,a1,a2⟩:=h3 m o' hm;exact#[v,a1,aX.mono a2 (s2.trans s3)]
theorem qV:FnScope ["row","named","left","right"] ["row","named"] (bD pz):=by walk_at "s"
theorem AQ (T:Txt K mg t):FnOk P w K mg base CX0 3 t.xW t.yd ["row","named"] (Ek K):=by
 have Qa:=sO (P:=P) (w:=w) (base:=base) T;have Qk:=tt (P:=P) (w:=w) (base:=base) T;refine T.made_by.F.ok qV (λvs H Q E h=>?_) (λcdv A outer s H vs Q E hr h=>?_)
 . obtain⟨b0,r,d,rg,f,o,rfl,hr_,hL,ho,hok,hsg,q⟩:=h;rfl
 . obtain⟨b0,r,d,rg,f,o,rfl,hr_,hL,ho,hok,hsg,q⟩:=h;refine#[_,(aM (ao (au bE (aI (show aJ _ (aR K) from aS) (aB 0) aD (λ_ _=>rfl)) aQ (am _)) (@aP _ _ _ (@aa _ _ _ _ (bC T.place_of Qa (hr.mono (by decide)) (aE (aB 1) (aE (aI (show aJ _ (aR K) from aS) (aB 0) aD (λ_ _=>rfl)) aF rfl) rfl)))) al) (aM (@ag _ _ 2 _ _ _ _ qV.nd rfl (Or.inl rfl) (bC T.place_of Qa (hr.mono (by decide)) (aE (aB 1) (aE (aI (show aJ _ (aR K) from aS) (aB 0) aD (λ_ _=>rfl)) aF rfl) rfl)) (by rfl) (by walk_at "f")) (aM (@ag _ _ 3 _ _ _ _ qV.nd rfl (Or.inl rfl) (bC T.place_of Qa (hr.mono (by decide)) (aE (aB 1) (aE (aI (show aJ _ (aR K) from aS) (aB 0) aD (λ_ _=>rfl)) aF rfl) rfl)) (by rfl) (by walk_at "f")) (aM (ao (@PW.pt _ _ _ (hU (dG (jL (aB 2))) (iZ (dG (jL (aB 3)))))) (@aP _ _ _ (@aa _ _ _ _ dX)) al) (@aP _ _ _ (@aa _ _ _ _ (bC T.together Qk (hr.mono (by decide)) (aE (aI (show aJ _ (aR K) from aS) (aB 0) aD (λ_ _=>rfl)) (aE (aB 2) (aE (aB 3) aF rfl) rfl) rfl)))))))),?_];cases rg with
   | copy x a=>exact#[_,rfl,r,_,_,_,rfl,rfl,hr_,ai,rfl,_,rfl,aU (HK rfl) #[_,rfl,_,rfl,r,_,_,_,rfl,rfl,hr_,rfl,b0,d,f,a,o,rfl,hL,ho,λv H1 s1 hv=>q v H1 s1 hv]]
   | op x s a b =>
     obtain⟨ol,hl,or,hr2,rfl⟩:∃ol,cS f a=some ol/\∃or,cS f b=some or/\fI s ol or=o:=by
       have ho:((cS f a).bind λl=>(cS f b).map λr=>fI s l r)=some o:=ho;cases h1:cS f a with
       | none=>rw[h1] at ho; cases ho
       | some ol =>
         rw[h1] at ho;cases h2:cS f b with
         | none=>rw[h2] at ho; cases ho
         | some or=>rw[h2] at ho; cases ho; exact#[ol,rfl,or,rfl,rfl]
     refine#[_,rfl,r,_,_,_,rfl,rfl,hr_,ai,rfl,_,rfl,iN #[_,rfl,_,rfl,r,_,_,_,rfl,rfl,hr_,rfl,b0,d,f,a,ol,rfl,hL,hl,λv1 H1 s1 d1=>#[_,rfl,_,rfl,r,_,_,_,rfl,rfl,s1.tup hr_,rfl,b0,d,f,b,or,rfl,hL.mono s1,hr2,λv2 H2 s2 d2=>?_]]];have d1':=aX.mono d1 s2;cases ol with
     | none =>
       cases d1';exact#[_,rfl,_,rfl,aU rfl (aU rfl (q .non H2 (s1.trans s2) rfl))]
     | some tl =>
       refine#[_,rfl,_,rfl,ak (λz=>uS (by have:=bM z; subst this; exact d1')) #[_,rfl,_,rfl,?_]];cases or with
       | none =>
         cases d2;exact aU rfl (q .non H2 (s1.trans s2) rfl)
       | some tr =>
         refine ak (λz=>uS (by have:=bM z; subst this; exact d2)) ?_;exact#[_,rfl,r,_,_,_,rfl,rfl,(s1.trans s2).tup hr_,rfl,_,rfl,_,rfl,s,tl,tr,v1,v2,rfl,hsg x s a b rfl,d1',d2,hok a (by simp [RG.items]) tl hl,hok b (by simp [RG.items]) tr hr2,λv H3 s3 hv=>q v H3 ((s1.trans s2).trans s3) hv]
   | _=>cases ho
theorem E9:FnScope ["flows","row","levels","named","param","atom"] ["flows","row","levels"] (bD mr):=by walk_at "s"
theorem Eg (T:Txt K mg t):FnOk P w K mg base CX0 2 t.x5 t.yE ["flows","row","levels"] (BX K t):=T.entered.F.ok E9 (λvs H Q E h=>h.elim) (λcdv A outer s H vs Q E hr h=>h.elim)
theorem C5:FnScope ["call","back","levels"] ["call","back","levels"] (bD nT):=by walk_at "s"
theorem EE (T:Txt K mg t):FnOk P w K mg base CX0 2 t.xU t.yb ["call","back","levels"] (CV K):=T.left_behind.F.ok C5 (λvs H Q E h=>h.elim) (λcdv A outer s H vs Q E hr h=>h.elim)
theorem vc:FnScope ["row","named","kind"] ["row","named"] (bD qG):=by walk_at "s"
theorem DF (T:Txt K mg t):FnOk P w K mg base CX0 2 t.ww t.xz ["row","named"] (GR K):=by
 have Qa:=sO (P:=P) (w:=w) (base:=base) T;refine T.asked_act.F.ok vc (λvs H Q E h=>?_) (λcdv A outer s H vs Q E hr h=>?_)
 . obtain⟨r,d,rg,f,b0,rfl,hR,hL,q⟩:=h;rfl
 . obtain⟨r,d,rg,f,b0,rfl,hR,hL,q⟩:=h;refine#[_,(aM (@ag _ _ 2 _ _ _ _ vc.nd rfl (Or.inl rfl) (aI (show aJ _ (aR K) from aS) (aB 0) aD (λ_ _=>rfl)) (by rfl) (by walk_at "f")) (aM (ao (au fM (aB 2) (aY (aE aQ (aE aQ aF rfl) rfl)) (by with_unfolding_all rfl)) (@aP _ _ _ (@aa _ _ _ _ (aY (aE (aB 2) (aE (bC T.place_of Qa (hr.mono (by decide)) (aE (aB 1) (aE (aI (show aJ _ (aR K) from aS) (aB 0) aD (λ_ _=>rfl)) aF rfl) rfl)) aF rfl) rfl)))) al) (aM (ao (au fM (aB 2) (aY (aE aQ (aE aQ aF rfl) rfl)) (by with_unfolding_all rfl)) (@aP _ _ _ (@aa _ _ _ _ (aY (aE aQ (aE (bC T.place_of Qa (hr.mono (by decide)) (aE (aB 1) (aE (aI (show aJ _ (aR K) from aS) (aB 0) aD (λ_ _=>rfl)) aF rfl) rfl)) aF rfl) rfl)))) al) (aM (ao (au bE (aB 2) aQ (am _)) (@aP _ _ _ (@aa _ _ _ _ (aY (aE aQ (aE (bC T.place_of Qa (hr.mono (by decide)) (aE (aB 1) (aE (aI (show aJ _ (aR K) from aS) (aB 0) aD (λ_ _=>rfl)) aF rfl) rfl)) (aE (aI (show aJ _ (aR K) from aS) (aB 0) aD (λ_ _=>rfl)) aF rfl) rfl) rfl)))) al) (aM (ao (au bE (aB 2) aQ (am _)) (@aP _ _ _ (@aa _ _ _ _ (aY (aE aQ (aE (bC T.place_of Qa (hr.mono (by decide)) (aE (aB 1) (aE (aI (show aJ _ (aR K) from aS) (aB 0) aD (λ_ _=>rfl)) aF rfl) rfl)) (aE (aI (show aJ _ (aR K) from aS) (aB 0) aD (λ_ _=>rfl)) (aE (bC T.place_of Qa (hr.mono (by decide)) (aE (aB 1) (aE (aI (show aJ _ (aR K) from aS) (aB 0) aD (λ_ _=>rfl)) aF rfl) rfl)) aF rfl) rfl) rfl) rfl)))) al) (aM (ao (au bE (aB 2) aQ (am _)) (@aP _ _ _ (@aa _ _ _ _ (aY (aE aQ (aE (aI (show aJ _ (aR K) from aS) (aB 0) aD (λ_ _=>rfl)) (aE (d6 jY (by rfl) T.b_tuple jK (aE (gO (N':=["atom","named"]) (js:=[none,some 1]) (by kernel_rfl) rfl (mH (aI (show aJ _ (aR K) from aS) (aB 0) aD (λ_ _=>rfl))) fP (λ_ _ _ _=>(bS (i:=0) (show(["atom","named"]:List Str).Nodup by decide +kernel) rfl (Or.inl rfl) (.inr rfl))) (λ_ _ _ _=>fQ) (λ_ _ _ _=>(bC T.place_of Qa (hr.mono (by decide)) (aE (aB 1) (aE (aB 0) aF rfl) rfl)))) aF rfl)) aF rfl) rfl) rfl)))) al) (aM (ao (au bE (aB 2) aQ (am _)) (@aP _ _ _ (@aa _ _ _ _ (aY (aE aQ aF rfl)))) al) (@aP _ _ _ (@aa _ _ _ _ (aY (aE aQ aF rfl))))))))))),?_];rcases q with⟨n,hg,q⟩|⟨a,o,hg,ho,q⟩
   . obtain⟨kd_,rest_,hit,hkd⟩:=lZ hg;rw[hit] at hR;refine#[_,rfl,r,_,_,_,rfl,rfl,hR,ai,?_];refine#[_,rfl,aw,λp1 h1=>#[p1,_,rfl,.inr (aG.of aL),rfl,rfl,_,rfl,ak (by rcases hkd with rfl|rfl <;> decide) ?_]];refine#[_,rfl,aw,λp2 h2=>#[p2,_,rfl,.inr (aG.of aL),rfl,rfl,_,rfl,ak (by rcases hkd with rfl|rfl <;> decide) ?_]];exact#[_,rfl,rfl,_,rfl,ak (by rcases hkd with rfl|rfl <;> decide) #[_,rfl,rfl,_,rfl,ak (by rcases hkd with rfl|rfl <;> decide) #[_,rfl,rfl,_,rfl,ak (by rcases hkd with rfl|rfl <;> decide) #[_,rfl,rfl,_,rfl,ak (by rcases hkd with rfl|rfl <;> decide) #[cN,λp3 h3=>q p3 _ (((aC.new h1).trans (aC.new h2)).trans (aC.new h3)) (aG.of aL)]]]]]
   . obtain⟨kd_,hit,hkd⟩:=lV hg;rw[hit] at hR;refine#[_,rfl,r,_,_,_,rfl,rfl,hR,ai,?_];refine#[_,rfl,aw,λp1 h1=>#[p1,_,rfl,.inr (aG.of aL),rfl,rfl,_,rfl,ak (by rcases hkd with rfl|rfl <;> decide) ?_]];refine#[_,rfl,aw,λp2 h2=>#[p2,_,rfl,.inr (aG.of aL),rfl,rfl,_,rfl,aU (by rcases hkd with rfl|rfl <;> decide) ?_]];have s2:=(aC.new (o:=.tup [V.str "out",V.str "back"]) h1).trans (aC.new (o:=.tup [V.str "if",V.str "while"]) h2);exact#[_,rfl,_,rfl,r,_,_,_,rfl,rfl,s2.tup hR,rfl,b0,d,f,a,o,rfl,hL.mono s2,ho,λv H3 s3 hv=>#[aw,λp3 h3=>q p3 v _ ((s2.trans s3).trans (aC.new h3)) (aG.of aL) (aX.mono hv (aC.new h3))]]
theorem jd:FnScope ["spot","sets","act","news","filled"] ["spot"] (bD ph):=by walk_at "s"
theorem BN (T:Txt K mg t):FnOk P w K mg base CX0 1 t.wz t.yC ["spot"] (Ed K):=by
 refine T.boxes_behind.F.ok jd (λvs H Q E h=>?_) (λcdv A outer s H vs Q E hr h=>?_)
 . obtain⟨v,ps,a,as,rfl,hS,ha,hf,h10,q⟩:=h;rfl
 . obtain⟨v,ps,a,as,rfl,hS,ha,hf,h10,q⟩:=h;refine#[_,(aM (eE (aB 0) (dn rfl (c7 (bS (i:=1) jd.nd rfl (Or.inl rfl)) (c7 (bS (i:=2) jd.nd rfl (Or.inl rfl)) di)))) (aM (@ag _ _ 3 _ _ _ _ jd.nd rfl (Or.inl rfl) (d6 (tY rfl) (by rfl) T.b_dict lH (aE (aB 1) aF rfl)) (by rfl) (by walk_at "f")) (aM (@ag _ _ 4 _ _ _ _ jd.nd rfl (Or.inl rfl) (@ig _ _ _ _ _ _ _ _ (au Aa (aI (show aJ _ (aR K) from aS) (aB 2) aD (λ_ _=>rfl)) (gn T.xk) (by with_unfolding_all rfl)) (aI (show aJ _ (aR K) from aS) (aB 2) (aI CD (gn T.xk) (aI (show aJ _ (aR K) from aS) (aB 2) aD (λ_ _=>rfl)) (λ_ _=>rfl)) (λ_ _=>rfl)) dX) (by rfl) (by walk_at "f")) (aM (ao (dG (fZ (aB 4))) (@aP _ _ _ (eQ (cO hr.units) (aB 3) (aB 4) (gn T.qo) (by rfl))) al) (@aP _ _ _ (@aa _ _ _ _ (aB 3))))))),?_];obtain⟨p,l,xs,rfl,hp,hl,hxs⟩:=hS;obtain⟨as',kvs,rfl,z1,z2,z3⟩:=vS hxs;obtain⟨k,r,rfl,hk⟩:=hf;refine#[_,rfl,p,_,rfl,hp,rfl,_,_,rfl,_,_,rfl,rfl,?_];refine#[_,rfl,l,as',kvs,rfl,hl,z1,by omega,λd hd=>?_];have s1:=aC.new (o:=.dK (kvs.foldl (λacc kv=>az acc kv.1 kv.2) [])) hd;have nv:=z3 _ [] (λ_=>none) s1 (λ_=>rfl);have fin:=q d _ _ s1 aL nv;rcases hk with hk|⟨rfl,r',rfl⟩
   . refine#[_,rfl,a,_,_,_,rfl,rfl,s1.tup ha,ai,t.kF,_,k,rfl,rfl,T.r9,_,rfl,ak (by rw[hk]; exact He) ?_];exact#[_,rfl,_,rfl,jN #[_,rfl,fin]]
   . refine#[_,rfl,a,_,_,_,rfl,rfl,s1.tup ha,ai,t.kF,_,"new",rfl,rfl,T.r9,_,rfl,iP ?_];exact#[_,rfl,_,rfl,a,_,_,_,rfl,rfl,s1.tup ha,ai,t.kF,_,"new",1,rfl,rfl,T.r9,rfl,a,_,_,.non,rfl,rfl,s1.tup ha,bt (j:=1) rfl,_,rfl,_,rfl,jN #[_,rfl,fin]]
theorem Dz:FnScope ["self","flows","spots","marks","k"] ["self","flows","spots","marks","k"] (bD jy):=by walk_at "s"
theorem CB (T:Txt K mg t):FnOk P w K mg base CX0 2 t.wo t.xt ["self","flows","spots","marks","k"] (Dg K t):=by
 have Ql:=wP (P:=P) (w:=w) (base:=base) T;have QE:=BN (P:=P) (w:=w) (base:=base) T;have Qm:=uN (P:=P) (w:=w) (base:=base) T;refine T.wc.F.ok Dz (λvs H Q E h=>?_) (λcdv A outer s H vs Q E hr h=>?_)
 . obtain⟨x,dx,fl,sp,mk,a,k,fns,svs,mvs,ks,Ms,L0,e,ps,as,v,rfl,hx,hT,hM,hv,hS,ha,hf,h10,q⟩:=h;rfl
 . skip
   refine lx ?_;intro XX;refine(let W5:TS:=_; have hW5:bV XX ((bU jy).drop 5) W5:=(aM (dM (aB 0) (bC T.levels_of Ql (hr.mono (by decide)) (aE (aB 1) (aE (aI (show aJ _ (ae K) from af) (aB 3) (aB 4) (λ_ _=>rfl)) aF rfl) rfl)) (by rfl)) (aM (dM (aB 0) (cw (aB 1) T.cu.cl T.kB.m Qm (hr.mono (by decide)) T.kB.b .nil ce (aE (aI (show aJ _ (aR K) from aS) (bK (aB 0) (by rfl)) (cq cn aD) (λ_ _=>rfl)) aF rfl)) (by rfl)) (@aP _ _ _ (dM (aB 0) (bC T.boxes_behind QE (hr.mono (by decide)) (aE (aI (show aJ _ (ae K) from af) (aB 2) (aB 4) (λ_ _=>rfl)) aF rfl)) (by rfl))))); ?_);refine(let W2:TS:=_; have hW2:bV XX ((bU jy).drop 2) W2:=(aM (dM (aB 0) (aB 3) (by rfl)) (aM (dM (aB 0) (aI (show aJ _ (aR K) from aS) (aI (show aJ _ (ae K) from af) (aB 2) (aB 4) (λ_ _=>rfl)) aD (λ_ _=>rfl)) (by rfl)) (aM (dM (aB 0) (aI (show aJ _ (aR K) from aS) (aI (show aJ _ (ae K) from af) (aB 3) (aB 4) (λ_ _=>rfl)) aD (λ_ _=>rfl)) (by rfl)) hW5))); ?_);obtain⟨x,dx,fl,sp,mk,a,k,fns,svs,mvs,ks,Ms,L0,e,ps,as,v,rfl,hx,hT,hM,hv,hS,ha,hf,h10,q⟩:=h;refine#[_,(aM (dM (aB 0) (aB 1) (by rfl)) (aM (dM (aB 0) (aB 2) (by rfl)) hW2)),?_];obtain⟨p,l,xs,rfl,hp,hl,hxs⟩:=id hS;have kM:k<Ms.length:=(HL.mp hM).1;obtain⟨mv,Lk,m1,m2,m3⟩:=Rk2.Ps.at hT.ms (n:=k) kM;rw[hM] at m2;cases m2;obtain⟨mp,cv,mw,ws,rfl,hmp,hch,_⟩:=id m3;have s0:aC (ers x H) H:=dH;refine#[_,rfl,_,rfl,x,t.aj,dx,_,rfl,hx,T.bG.cl,T.kK,(by show 0<1000; decide),?_];have l1:=eR "flows" (V.ref fl) [] 0 (HN _);refine#[_,rfl,_,rfl,x,t.aj,dx,_,rfl,aL,T.bG.cl,T.zG,(by omega),?_];have l2:=eR "spots" (V.ref sp) _ 1 l1;refine#[_,rfl,_,rfl,x,t.aj,dx,_,rfl,aL,T.bG.cl,T.qz,(by omega),?_];have l3:=eR "marks" (V.ref mk) _ 2 l2;have s3:=fE (o:=.ins t.aj dx (aZ "marks" (V.ref mk) (aZ "spots" (V.ref sp) (aZ "flows" (V.ref fl) [])))) (fE (o:=.ins t.aj dx (aZ "spots" (V.ref sp) (aZ "flows" (V.ref fl) []))) (fE (o:=.ins t.aj dx (aZ "flows" (V.ref fl) [])) s0));have e3:upd (upd (upd H x (.ins t.aj dx (aZ "flows" (V.ref fl) []))) x (.ins t.aj dx (aZ "spots" (V.ref sp) (aZ "flows" (V.ref fl) [])))) x (.ins t.aj dx (aZ "marks" (V.ref mk) (aZ "spots" (V.ref sp) (aZ "flows" (V.ref fl) [])))) x=some (.ins t.aj dx (aZ "marks" (V.ref mk) (aZ "spots" (V.ref sp) (aZ "flows" (V.ref fl) [])))):=aL;generalize upd (upd (upd H x (.ins t.aj dx (aZ "flows" (V.ref fl) []))) x (.ins t.aj dx (aZ "spots" (V.ref sp) (aZ "flows" (V.ref fl) [])))) x (.ins t.aj dx (aZ "marks" (V.ref mk) (aZ "spots" (V.ref sp) (aZ "flows" (V.ref fl) []))))=H3 at s3 e3 ⊢;refine#[_,rfl,_,rfl,sp,_,_,_,rfl,rfl,s3.seq hT.s,bt hv,p,_,_,_,rfl,rfl,s3.tup hp,rfl,_,rfl,x,t.aj,dx,_,rfl,e3,T.bG.cl,T.dC,(by omega),?_];have l4:=eR "act" (V.ref a) _ 3 l3;have s4:=fE (o:=.ins t.aj dx (aZ "act" (V.ref a) (aZ "marks" (V.ref mk) (aZ "spots" (V.ref sp) (aZ "flows" (V.ref fl) []))))) s3;refine#[_,rfl,_,rfl,mk,_,_,_,rfl,rfl,s4.seq hT.m,bt m1,mp,_,_,_,rfl,rfl,s4.tup hmp,ai,_,rfl,x,t.aj,dx,_,rfl,aL,T.bG.cl,T.kJ,(by omega),?_];have l5:=eR "chain" cv _ 4 l4;have s5:=fE (o:=.ins t.aj dx (aZ "chain" cv (aZ "act" (V.ref a) (aZ "marks" (V.ref mk) (aZ "spots" (V.ref sp) (aZ "flows" (V.ref fl) [])))))) s4;have hLk:=hT.l _ (HP hM);refine#[_,rfl,_,rfl,_,rfl,mk,_,_,_,rfl,rfl,s5.seq hT.m,bt m1,fl,.ref mp,fns,L0++[e],rfl,hT.f.mono s5,m3.mono s5,hLk.2,hLk.1,λav H6 s56 hA=>?_];have s6:=s5.trans s56;have e6:=s56 _ _ aL;refine#[_,rfl,x,t.aj,dx,_,rfl,e6,T.bG.cl,T.iH,(by omega),?_];have l6:=eR "ahead" av _ 5 l5;have hA6:=AV e6 (hA.old.lv hLk.2);have s67:aC (ers x H6) (upd H6 x (.ins t.aj dx (aZ "ahead" av (aZ "chain" cv (aZ "act" (V.ref a) (aZ "marks" (V.ref mk) (aZ "spots" (V.ref sp) (aZ "flows" (V.ref fl) [])))))))):=qK;have s7:=fE (o:=.ins t.aj dx (aZ "ahead" av (aZ "chain" cv (aZ "act" (V.ref a) (aZ "marks" (V.ref mk) (aZ "spots" (V.ref sp) (aZ "flows" (V.ref fl) []))))))) s6;have e7:upd H6 x (.ins t.aj dx (aZ "ahead" av (aZ "chain" cv (aZ "act" (V.ref a) (aZ "marks" (V.ref mk) (aZ "spots" (V.ref sp) (aZ "flows" (V.ref fl) []))))))) x=some (.ins t.aj dx (aZ "ahead" av (aZ "chain" cv (aZ "act" (V.ref a) (aZ "marks" (V.ref mk) (aZ "spots" (V.ref sp) (aZ "flows" (V.ref fl) []))))))):=aL;generalize upd H6 x (.ins t.aj dx (aZ "ahead" av (aZ "chain" cv (aZ "act" (V.ref a) (aZ "marks" (V.ref mk) (aZ "spots" (V.ref sp) (aZ "flows" (V.ref fl) [])))))))=H7 at s67 s7 e7 ⊢;have hch':cR K (ers x H) ((L0++[e]).map Lev.fr) cv:=hch;obtain⟨cA,cs,rfl,hcs,hcp⟩:=id hch';rw[Hk] at hcp;obtain⟨cs',u,rfl,-,fa,rfl,hfa⟩:=St.Ps.split1 (t:=e.fr) hcp;have oke:=hLk.2 e (Hu _ HS);obtain⟨w,hw⟩:∃w,e.F.rs[e.r]?=some w:=#[_,HX oke.r]
   have hF7:=hT.f.mono s7;obtain⟨dy,fz,d,kv,nl,wl,h0,hO,_⟩:=hF7.ob;refine#[_,rfl,fl,dy,_,rfl,hO.ob,(by rfl),_,rfl,x,t.aj,dx,_,_,rfl,e7,T.bG.cl,T.kJ,(by rfl),_,rfl,cA,_,_,_,rfl,rfl,s7.tup hcs,gY _ _,fl,fa,fns,e.F,e.r,w,rfl,hF7,oke.m,s7.tup hfa,hw,_,rfl,x,t.aj,dx,_,rfl,e7,T.bG.cl,T.eW,(by omega),?_];have l7:=eR "row" (V.ref w.r) _ 6 l6;have s8:=fE (o:=.ins t.aj dx (aZ "row" (V.ref w.r) (aZ "ahead" av (aZ "chain" (V.ref cA) (aZ "act" (V.ref a) (aZ "marks" (V.ref mk) (aZ "spots" (V.ref sp) (aZ "flows" (V.ref fl) [])))))))) s7;have s68:=fE (o:=.ins t.aj dx (aZ "row" (V.ref w.r) (aZ "ahead" av (aZ "chain" (V.ref cA) (aZ "act" (V.ref a) (aZ "marks" (V.ref mk) (aZ "spots" (V.ref sp) (aZ "flows" (V.ref fl) [])))))))) s67;refine#[_,rfl,_,rfl,sp,_,_,_,rfl,rfl,s8.seq hT.s,bt hv,.ref p,ps,a,as,rfl,hS.mono s8,s8.tup ha,hf,h10,λd' kvs H9 s89 e9 nv=>?_];have e9x:=s89 _ _ aL;refine#[_,rfl,x,t.aj,dx,_,rfl,e9x,T.bG.cl,T.zE,(by omega),?_];have sF:=fE (o:=.ins t.aj dx (aZ "news" (.ref d') (aZ "row" (V.ref w.r) (aZ "ahead" av (aZ "chain" (V.ref cA) (aZ "act" (V.ref a) (aZ "marks" (V.ref mk) (aZ "spots" (V.ref sp) (aZ "flows" (V.ref fl) []))))))))) (s8.trans s89);refine q #[fl,sp,mk,a,w.r,d',.ref cA,av] _ sF #[#[dx,aL],hT.mono sF,sF.tup ha,hch'.mono sF,hA6.mono (fE (s68.trans s89)),hLk.2,?_,#[w,hw,rfl],kvs,qK _ _ (ia e9x e9 (λ_ _ _ y=>by cases y)),(BM e9x nv).mono qK];have:=hLk.1;rw[HU] at this;simp at this;omega
theorem jO:FnScope ["self","k","chain","levels","shown","behind","name","place"] ["self","k","chain","levels"] (bD oI):=by walk_at "s"
theorem tH (T:Txt K mg t):FnOk P w K mg base CX0 14 t.wt t.xx ["self","k","chain","levels"] (D1 K t):=by
 have Ql:=wP (P:=P) (w:=w) (base:=base) T;have Qi:FnOk P w K mg base CX0 13 t.mY t.ma ["one","news"] (oh K 10):=uP T 10;refine T.kE.F.ok jO (λvs H Q E h=>?_) (λcdv A outer s H vs Q E hr h=>?_)
 . obtain⟨x,A_,k,L,ch,fs,cv,lv,rfl,hA,hO,hL,hC,hV,hB,q⟩:=h;rfl
 . obtain⟨x,A_,k,L,ch,fs,cv,lv,rfl,hA,hO,hL,hC,hV,hB,q⟩:=h;refine#[_,(aM (ao (au (gI hr.units) (aI (show aJ _ (aR K) from aS) (aI (show aJ _ (ae K) from af) (bK (aB 0) (by rfl)) (aB 1) (λ_ _=>rfl)) aD (λ_ _=>rfl)) (aB 2) (am _)) (@aP _ _ _ (@aa _ _ _ _ d9)) al) (aM (cj PassesOwn.never rfl (lK false false rfl T.b_zip (aE (bC T.levels_of Ql (hr.mono (by decide)) (aE (bK (aB 0) (by rfl)) (aE (aI (show aJ _ (ae K) from af) (bK (aB 0) (by rfl)) (aB 1) (λ_ _=>rfl)) aF rfl) rfl)) (aE (aB 3) aF rfl) rfl)) (dn rfl (c7 (bS (i:=4) jO.nd rfl (Or.inl rfl)) (c7 (bS (i:=5) jO.nd rfl (Or.inl rfl)) di))) (@aP _ _ _ (cj PassesOwn.never rfl (ox (aB 4)) (dn rfl (c7 (bS (i:=6) jO.nd rfl (Or.inl rfl)) (c7 (bS (i:=7) jO.nd rfl (Or.inl rfl)) di))) (@aP _ _ _ (ao (@PW.pt _ _ _ (dA (dG (fZ (aB 7))) (dJ (au (gI hr.units) (bC T.put_through Qi (hr.mono (by decide)) (aE (aB 7) (aE (bK (aB 0) (by rfl)) aF rfl) rfl)) (fW (cO hr.units) (aB 5) (aB 6) (λ_ _=>rfl)) (am _))))) (@aP _ _ _ (@aa _ _ _ _ d9)) al))))) (@aP _ _ _ (@aa _ _ _ _ d9)))),?_];obtain⟨dx,ob⟩:=hA.ob;obtain⟨mv,L',a1,a2,hM⟩:=Rk2.Ps.at hA.tb.ms (n:=k) (HL.mp hL).1;rw[hL] at a2;cases a2;obtain⟨mp,mc,w_,ws,rfl,hmp,hmc,hmw,hmws⟩:=id hM;have hLk:=hA.tb.l L (HP hL);have hn1:∀c∈L.map Lev.fr,PyData.strOk c.1=true:=λc hc=>by obtain⟨e,he,rfl⟩:=Hq.mp hc;exact hO.n _ (hLk.2 e he).m
   refine#[_,rfl,x,t.aj,dx,_,_,rfl,ob,T.bG.cl,T.qz,(by rfl),_,rfl,A_.S.mt,_,_,_,rfl,rfl,hA.tb.m,bt a1,mp,_,_,_,rfl,rfl,hmp,ai,_,rfl,uD hn1 hB.n hmc hC #[_,rfl,?_]];have eS:iO (cQ A_.ps) L ch fs=(decide (L.map Lev.fr=ch)&&(L.zip fs).all λeb=>eN (cQ A_.ps) eb.1 eb.2):=rfl;by_cases hch:L.map Lev.fr=ch
   case neg =>
     rw[Hd hch] at eS ⊢;rw[eS] at q;exact aU rfl (q H (aC.refl _))
   rw[HK hch,Ir] at eS;rw[eS] at q;rw[HK hch];have gok:=oy hO.g;obtain⟨kg,eg,nvg⟩:=hA.nw;refine jN #[_,rfl,x,t.aj,dx,_,_,rfl,ob,T.bG.cl,T.kK,(by rfl),_,rfl,x,t.aj,dx,_,_,rfl,ob,T.bG.cl,T.qz,(by rfl),_,rfl,A_.S.mt,_,_,_,rfl,rfl,hA.tb.m,bt a1,A_.S.fl,.ref mp,A_.fns,L,rfl,hA.tb.f,hM,hLk.2,hLk.1,λlv1 H1 s1 hN=>?_];obtain⟨l1,ds,rfl,e1,hds⟩:=hN;obtain⟨l2,ds2,rfl,e2,hds2⟩:=hV;refine#[_,rfl,l1,l2,rfl,#[_,aK.of e1],#[_,aK.of (s1 _ _ e2)],(let Jv1:Nat->St->Hp->Prop:=λi σ G=>∃v4 v5 v6 v7:Option V,σ=[some (.ref x),some (.int (k:Int)),some cv,some (.ref l2),v4,v5,v6,v7]/\cL H H1 G/\∀j eb,j<i->(L.zip fs)[j]?=some eb->eN (cQ A_.ps) eb.1 eb.2=true; pP (b1:=false) (b2:=false) (xs:=ds) (ys:=ds2) Jv1 #[_,_,_,_,rfl,cL.of (aC.refl _),λj eb hj=>absurd hj (IJ j)] ?_ ?_ ?_)]
   . rintro i σ G hi ⟨v4,v5,v6,v7,rfl,fz,hb⟩;exact#[aK.of (fz.lst e1),aK.of (fz.same s1 _ _ e2)]
   . rintro i y z σ G b hy hz ⟨v4,v5,v6,v7,rfl,fz,hb⟩ nb;have iL:i<L.length:=by have:=(HL.mp hy).1; have:=Rk2.Ps.len hds; omega
     have iF:i<fs.length:=by have:=(HL.mp hz).1; have:=Rk2.Ps.len hds2; omega
     obtain⟨u1,e,b1,b2,d,us,rfl,n0,ed,hus⟩:=Rk2.Ps.at hds (n:=i) iL;rw[hy] at b1;cases b1;obtain⟨u2,f,c1,c2,d2,rfl,kv2,ed2,hk2,hf2⟩:=Rk2.Ps.at hds2 (n:=i) iF;rw[hz] at c1;cases c1;have oke:=hLk.2 e (HP b2);have fz1:=fz.trans (aC.new (o:=.tup [V.ref d,V.ref d2]) nb);refine#[b,_,rfl,aG.of aL,rfl,_,_,rfl,_,_,rfl,rfl,?_];generalize upd G b (.tup [V.ref d,V.ref d2])=G1 at fz1 ⊢;refine#[_,rfl,Ef fz1 n0 ed λo G2 fz2 ed2'=>oO (o:=o) (d:=d) (kvs:=kz (F2.nms e.F) us) (λj σ G3=>∃v6 v7:Option V,σ=[some (.ref x),some (.int (k:Int)),some cv,some (.ref l2),some (.ref d),some (.ref d2),v6,v7]/\cL H H1 G3/\G3 d=some (.frz o (.dK (kz (F2.nms e.F) us)))/\∀j' nv,j'<j->((F2.nms e.F).zip e.vw)[j']?=some nv->gb (cQ A_.ps) f nv.1 nv.2=true) #[_,_,rfl,fz2,ed2',λj nv hj=>absurd hj (IJ j)] ?_ ?_ ?_]
     . rintro j σ G3 hj ⟨v6,v7,rfl,fz3,z3,h3⟩;exact z3
     . rintro j kv σ G3 b3 hkv ⟨v6,v7,rfl,fz3,z3,h3⟩ nb3;obtain⟨n,pl,u,rfl,hz3,hu⟩:=vg hus hkv;have nm:n∈F2.nms e.F:=(JM (HP hz3)).1;have vm:pl∈e.vw:=(JM (HP hz3)).2;obtain⟨o2,ho2,hok2⟩:=hB.l i e.fr f (by rw[<- hch,HW,b2]; rfl) c2 e.F oke.m rfl n nm;have s4:=aC.new (o:=.tup [V.str n,u]) nb3;have fz4:=fz3.trans s4;have z4:=s4 _ _ z3;refine#[b3,_,rfl,aG.of aL,rfl,_,_,rfl,_,_,rfl,rfl,?_];have hu4:=fz4.vat hu;have step:∀G5,cL H H1 G5->G5 d=some (.frz o (.dK (kz (F2.nms e.F) us)))->gb (cQ A_.ps) f n pl=true->∃v6 v7:Option V,[some (.ref x),some (.int (k:Int)),some cv,some (.ref l2),some (.ref d),some (.ref d2),some (.str n),some u]=[some (.ref x),some (.int (k:Int)),some cv,some (.ref l2),some (.ref d),some (.ref d2),v6,v7]/\cL H H1 G5/\G5 d=some (.frz o (.dK (kz (F2.nms e.F) us)))/\∀j' nv,j'<j+1->((F2.nms e.F).zip e.vw)[j']?=some nv->gb (cQ A_.ps) f nv.1 nv.2=true:=λG5 f5 d5 h5=>#[_,_,rfl,f5,d5,λj' nv hj' hn=>by
         rcases J9.mp hj' with h|h
         . exact h3 j' nv h hn
         . subst h;rw[hz3] at hn;cases hn;exact h5]
       cases pl with
       | none =>
         cases hu4;refine#[_,rfl,_,rfl,ak (by simp) (ak (by simp) ?_)];exact step _ fz4 z4 rfl
       | some tr =>
         have tok:=hO.v L (HP hL) e (HP b2) tr vm;refine#[_,rfl,_,rfl,aU (by obtain⟨p,rfl⟩:=fh hu4; rfl) ?_];have s04:=fz4.same s1;refine#[_,rfl,_,rfl,x,t.aj,dx,_,_,rfl,s04 _ _ ob,T.bG.cl,T.zE,(by rfl),tr,u,A_.S.d,kg,cQ A_.ps,rfl,tok.2.2,hu4,s04 _ _ eg,nvg.mono s04,tok.1,(λk t h=>(gok k t h).1),λv5 G5 s5 hv5=>?_];have fz5:=fz4.trans s5;obtain⟨v6,g6,hv6⟩:=hf2 n o2 ho2;refine#[_,rfl,_,rfl,d2,_,rfl,je (fz5.same s1 _ _ ed2) g6,lY (o:=o2) (px gok tok) hok2 hv5 (aX.mono hv6 (fz5.same s1)) #[_,rfl,?_]];have eP:gb (cQ A_.ps) f n (some tr)=eC (Rk2.pt (cQ A_.ps) tr) o2:=by show(match f n with|some o=>_|none=>_)=_; rw[ho2]
         cases hE:eC (Rk2.pt (cQ A_.ps) tr) o2 with
         | true=>exact jN (step G5 fz5 (s5 _ _ z4) (eP.trans hE))
         | false =>
           refine aU rfl ?_;have:((L.zip fs).all λeb=>eN (cQ A_.ps) eb.1 eb.2)=false:=by rw[Jb];refine#[(e,f),HP (IP.mpr #[b2,c2]),?_];show ¬ eN _ e f=true;rw[Bool.not_eq_true];unfold eN;rw[Jb];exact#[(n,some tr),HP hz3,by rw[eP.trans hE]; decide]
           rw[this] at q;exact q G5 (fz5.same s1)
     . rintro σ G3 ⟨v6,v7,rfl,fz3,z3,h3⟩;refine#[_,_,_,_,rfl,fz3,λj eb hj hz4=>?_];rcases J9.mp hj with h|h
       . exact hb j eb h hz4
       . subst h;rw[IP] at hz4;rw[b2,c2] at hz4;obtain⟨y1,y2⟩:=hz4;cases y1;cases y2;show eN _ eb.1 eb.2=true;unfold eN;rw[Ig];intro nv hnv;obtain⟨j',hj',e'⟩:=JJ hnv;exact h3 j' nv (by rw[DL hus]; exact hj') (by rw[<- e']; exact HX hj')
   . rintro σ G ⟨v4,v5,v6,v7,rfl,fz,hb⟩;have:((L.zip fs).all λeb=>eN (cQ A_.ps) eb.1 eb.2)=true:=by rw[Ig];intro eb heb;obtain⟨j',hj',e'⟩:=JJ heb;exact hb j' eb (by rw[Rk2.Ps.len hds,Rk2.Ps.len hds2]; rw[J0] at hj'; exact hj') (by rw[<- e']; exact HX hj')
     rw[this] at q;exact q G (fz.same s1)
theorem GF:FnScope ["self","k"] ["self","k"] (bD pH):=by walk_at "s"
theorem rW (T:Txt K mg t):FnOk P w K mg base CX0 1 t.wq t.xu ["self","k"] (CU K t):=by
 refine T.kC.F.ok GF (λvs H Q E h=>?_) (λcdv A outer s H vs Q E hr h=>?_)
 . obtain⟨x,A_,k,kd,rfl,hA,hk,q⟩:=h;rfl
 . obtain⟨x,A_,k,kd,rfl,hA,hk,q⟩:=h;refine#[_,(aM (@aa _ _ _ _ (gr bE (aI (show aJ _ (aR K) from aS) (aI (show aJ _ (aR K) from aS) (aI (show aJ _ (ae K) from af) (bK (aB 0) (by rfl)) (aB 1) (λ_ _=>rfl)) aD (λ_ _=>rfl)) aD (λ_ _=>rfl)) aQ (am _))) al),?_];obtain⟨dx,ob⟩:=hA.ob;obtain⟨v,kd',a1,a2,p,l,a,r,rfl,h1,h2⟩:=Rk2.Ps.at hA.tb.ss (n:=k) (HL.mp hk).1;rw[hk] at a2;cases a2;refine#[_,rfl,x,t.aj,dx,_,_,rfl,ob,T.bG.cl,T.zG,(by rfl),_,rfl,A_.S.sp,_,_,_,rfl,rfl,hA.tb.s,bt a1,p,_,_,_,rfl,rfl,h1,rfl,a,_,_,_,rfl,rfl,h2,ai,rfl,?_];rw[show decide (V.str kd=V.str "wait")=decide (kd="wait") from decide_eq_decide.mpr #[λz=>V.str.inj z,λz=>by rw[z]]];exact q
theorem za:FnScope ["self","k","chain","levels"] ["self","k","chain","levels"] (bD nZ):=by walk_at "s"
theorem mf (T:Txt K mg t):FnOk P w K mg base CX0 15 t.wk t.xo ["self","k","chain","levels"] (Gk K t):=by
 have Qn:=tH (P:=P) (w:=w) (base:=base) T;have Qo:=rW (P:=P) (w:=w) (base:=base) T;refine T.fT.F.ok za (λvs H Q E h=>?_) (λcdv A outer s H vs Q E hr h=>?_)
 . obtain⟨x,A_,k,ch,fs,cv,lv,rfl,hA,hO,hL,hC,hV,hB,q⟩:=h;rfl
 . obtain⟨x,A_,k,ch,fs,cv,lv,rfl,hA,hO,hL,hC,hV,hB,q⟩:=h;refine#[_,(aM (@aa _ _ _ _ (lF (DQ (cw (aB 0) T.bG.cl T.kC.m Qo (hr.mono (by decide)) T.kC.b .nil ce (aE (aB 1) aF rfl))) (oN (cw (aB 0) T.bG.cl T.kE.m Qn (hr.mono (by decide)) T.kE.b .nil ce (aE (aB 1) (aE (aB 2) (aE (aB 3) aF rfl) rfl) rfl))))) al),?_];obtain⟨dx,ob⟩:=hA.ob;obtain⟨kd,hkd⟩:∃kd,A_.ks[k]?=some kd:=#[_,HX (by rw[hO.l]; exact hL)]
   obtain⟨L,hLk⟩:∃L,A_.Ms[k]?=some L:=#[_,HX hL]
   have eA:eK A_ k ch fs=(!decide (kd="wait")&&iO (cQ A_.ps) L ch fs):=by unfold eK; rw[hkd,hLk]
   rw[eA] at q;refine#[_,rfl,x,dx,_,rfl,ob,(by rfl),_,rfl,x,A_,k,kd,rfl,hA,hkd,_,rfl,_,rfl,?_];by_cases hw:kd="wait"
   . rw[HK hw] at q ⊢;exact jN (q H (aC.refl _))
   . rw[Hd hw] at q ⊢;exact aU rfl #[_,rfl,x,dx,_,rfl,ob,(by rfl),_,rfl,_,rfl,_,rfl,x,A_,k,L,ch,fs,cv,lv,rfl,hA,hO,hLk,hC,hV,hB,λH' s'=>q H' s']
theorem zo:FnScope ["self","k","levels"] ["self","k","levels"] (bD oZ):=by walk_at "s"
theorem rY (T:Txt K mg t):FnOk P w K mg base CX0 16 t.wm t.xp ["self","k","levels"] (A0 K t):=by
 have Qe:=oE (P:=P) (w:=w) (base:=base) T;have Qb:=mf (P:=P) (w:=w) (base:=base) T;refine T.fU.F.ok zo (λvs H Q E h=>?_) (λcdv A outer s H vs Q E hr h=>?_)
 . obtain⟨x,A_,k,to_,fs,lv,rfl,hA,hO,hL,hW,hV,hB,q⟩:=h;rfl
 . obtain⟨x,A_,k,to_,fs,lv,rfl,hA,hO,hL,hW,hV,hB,q⟩:=h;refine#[_,(aM (@aa _ _ _ _ (cw (aB 0) T.bG.cl T.fT.m Qb (hr.mono (by decide)) T.fT.b .nil ce (aE (aB 1) (aE (bC T.moved Qe (hr.mono (by decide)) (aE (bK (aB 0) (by rfl)) (aE (bK (aB 0) (by rfl)) (aE aD aF rfl) rfl) rfl)) (aE (aB 2) aF rfl) rfl) rfl))) al),?_];obtain⟨dx,ob⟩:=hA.ob;have oke:=hA.ok A_.e (Hu _ HS);have hch:cR K H (A_.L0.map Lev.fr++[(A_.e.F.name,A_.e.r)]) A_.S.cv:=by have:=hA.ch;rw[Hk] at this;exact this
   refine#[_,rfl,x,dx,_,rfl,ob,(by rfl),_,rfl,_,rfl,x,t.aj,dx,_,_,rfl,ob,T.bG.cl,T.kK,(by rfl),_,rfl,x,t.aj,dx,_,_,rfl,ob,T.bG.cl,T.kJ,(by rfl),A_.S.fl,A_.S.cv,A_.fns,A_.L0.map Lev.fr,A_.e.F,A_.e.r,0,to_,rfl,hA.tb.f,hch,oke.m,oke.r,hW,(by rw[HH]; exact hA.ln),λcv' H' s' hc'=>#[_,rfl,x,A_,k,_,fs,cv',lv,rfl,hA.mono s',hO,hL,hc',hV.mono s',hB,λH2 s2=>q H2 (s'.trans s2)]]
theorem kQ:FnScope ["self","k","kind","outer","levels"] ["self","k"] (bD jU):=by walk_at "s"
theorem BW (T:Txt K mg t):FnOk P w K mg base CX0 17 t.wn t.xq ["self","k"] (FN K t):=by
 have QF:=EE (P:=P) (w:=w) (base:=base) T;have Qh:=tK (P:=P) (w:=w) (base:=base) T;have QG:=Eg (P:=P) (w:=w) (base:=base) T;have Qe:=oE (P:=P) (w:=w) (base:=base) T;have QH:=AQ (P:=P) (w:=w) (base:=base) T;have Qf:=rY (P:=P) (w:=w) (base:=base) T;have Qb:=mf (P:=P) (w:=w) (base:=base) T;have Qm:=uN (P:=P) (w:=w) (base:=base) T;refine T.qi.F.ok kQ (λvs H Q E h=>?_) (λcdv A outer s H vs Q E hr h=>?_)
 . obtain⟨x,A_,k,rg,rfl,hA,hO,hR,hL,q⟩:=h;rfl
 . skip
   refine lx ?_;intro XX;refine(let W4:TS:=_; have hW4:bV XX ((bU jU).drop 4) W4:=(aM (ao (@PW.pt _ _ _ (dA (au bE (aB 2) aQ (am _)) (dJ (au (bf kT) (cP (show bx _ (.builtin "len") (cb K) from ck) (by rfl) T.b_len cW (aE (bK (aB 0) (by rfl)) aF rfl)) aD (am _))))) (aM (@ag _ _ 3 _ _ _ _ kQ.nd rfl (Or.inl rfl) (iD mT (bK (aB 0) (by rfl)) i6 (gu (cq cn aD))) (by rfl) (by walk_at "f")) (aM (@ag _ _ 4 _ _ _ _ kQ.nd rfl (Or.inl rfl) (bC T.left_behind QF (hr.mono (by decide)) (aE (cw (bK (aB 0) (by rfl)) T.cu.cl T.kB.m Qm (hr.mono (by decide)) T.kB.b .nil ce (aE (aI (show aJ _ (aR K) from aS) (aB 3) (cq cn aD) (λ_ _=>rfl)) aF rfl)) (aE (bK (aB 0) (by rfl)) (aE (bK (aB 0) (by rfl)) aF rfl) rfl) rfl)) (by rfl) (by walk_at "f")) (@aP _ _ _ (@aa _ _ _ _ (cw (aB 0) T.bG.cl T.fT.m Qb (hr.mono (by decide)) T.fT.b .nil ce (aE (aB 1) (aE (bC T.moved Qe (hr.mono (by decide)) (aE (bK (aB 0) (by rfl)) (aE (aB 3) (aE aD aF rfl) rfl) rfl)) (aE (aB 4) aF rfl) rfl) rfl)))))) al) (@aP _ _ _ (@aa _ _ _ _ d9))); ?_);refine(let W2:TS:=_; have hW2:bV XX ((bU jU).drop 2) W2:=(aM (ao (au bE (aB 2) aQ (am _)) (@aP _ _ _ (@aa _ _ _ _ (cw (aB 0) T.bG.cl T.fU.m Qf (hr.mono (by decide)) T.fU.b .nil ce (aE (aB 1) (aE (bC T.with_given Qh (hr.mono (by decide)) (aE (bK (aB 0) (by rfl)) (aE (aI (show aJ _ (aR K) from aS) (bK (aB 0) (by rfl)) aD (λ_ _=>rfl)) (aE dX aF rfl) rfl) rfl)) aF rfl) rfl)))) al) (aM (ao (au bE (aB 2) aQ (am _)) (@aP _ _ _ (@aa _ _ _ _ (cw (aB 0) T.bG.cl T.fT.m Qb (hr.mono (by decide)) T.fT.b .nil ce (aE (aB 1) (aE (@aN _ _ _ _ _ _ _ _ rj (bK (aB 0) (by rfl)) (aY (aE (aY (aE (aI (show aJ _ (aR K) from aS) (bK (aB 0) (by rfl)) aD (λ_ _=>rfl)) (aE aD aF rfl) rfl)) aF rfl))) (aE (bC T.entered QG (hr.mono (by decide)) (aE (bK (aB 0) (by rfl)) (aE (bK (aB 0) (by rfl)) (aE (bK (aB 0) (by rfl)) aF rfl) rfl) rfl)) aF rfl) rfl) rfl)))) al) hW4)); ?_);obtain⟨x,A_,k,rg,rfl,hA,hO,hR,hL,q⟩:=h;refine#[_,(aM (@ag _ _ 2 _ _ _ _ kQ.nd rfl (Or.inl rfl) (aI (show aJ _ (aR K) from aS) (bK (aB 0) (by rfl)) aD (λ_ _=>rfl)) (by rfl) (by walk_at "f")) (aM (ao (au fM (aB 2) (aY (aE aQ (aE aQ aF rfl) rfl)) (by with_unfolding_all rfl)) (@aP _ _ _ (@aa _ _ _ _ (cw (aB 0) T.bG.cl T.fU.m Qf (hr.mono (by decide)) T.fU.b .nil ce (aE (aB 1) (aE (bC T.with_given Qh (hr.mono (by decide)) (aE (bK (aB 0) (by rfl)) (aE (aI (show aJ _ (aR K) from aS) (bK (aB 0) (by rfl)) aD (λ_ _=>rfl)) (aE (bC T.made_by QH (hr.mono (by decide)) (aE (bK (aB 0) (by rfl)) (aE (aI (show aJ _ (ae K) from af) (bK (aB 0) (by rfl)) (cq cn aD) (λ_ _=>rfl)) aF rfl) rfl)) aF rfl) rfl) rfl)) aF rfl) rfl)))) al) hW2)),?_];obtain⟨dx,ob⟩:=hA.ob;rcases q with⟨ht,q⟩|⟨n,o,to_,hg,hm,hok,hsg,hW,hB,q⟩
   . obtain⟨a_,hy⟩:=DS ht;obtain⟨kd_,hit,hkd⟩:=lV hy;rw[hit] at hR;refine#[_,rfl,x,t.aj,dx,_,_,rfl,ob,T.bG.cl,T.eW,(by rfl),A_.S.r,_,_,_,rfl,rfl,hR,ai,?_];refine#[_,rfl,aw,λp hp=>#[p,_,rfl,.inr (aG.of aL),rfl,rfl,_,rfl,ak (qI hkd) ?_]];exact#[_,rfl,rfl,_,rfl,ak (by rcases hkd with rfl|rfl <;> decide) #[_,rfl,rfl,_,rfl,ak (by rcases hkd with rfl|rfl <;> decide) #[_,rfl,rfl,_,rfl,ak (by rcases hkd with rfl|rfl <;> decide) (jN (q _ (aC.new hp)))]]]
   . obtain⟨l,ds,hav,hal,hap⟩:=hA.ah;rw[Hk] at hap;obtain⟨ds',u,rfl,-,d,rfl,hd⟩:=St.Ps.split1 (t:=A_.e.lv) hap;obtain⟨kd_,rest_,hit,hkd⟩:=lZ hg;have hI:=hR;rw[hit] at hI;refine#[_,rfl,x,t.aj,dx,_,_,rfl,ob,T.bG.cl,T.eW,(by rfl),A_.S.r,_,_,_,rfl,rfl,hI,ai,?_];refine#[_,rfl,aw,λp hp=>#[p,_,rfl,.inr (aG.of aL),rfl,rfl,_,rfl,aU (pS hkd) ?_]];have s1:=aC.new (o:=.tup [V.str "copy",V.str "op"]) hp;have ob1:=s1 _ _ ob;generalize upd H p (.tup [V.str "copy",V.str "op"])=H1 at s1 ob1 ⊢;refine#[_,rfl,x,dx,_,rfl,ob1,(by rfl),_,rfl,_,rfl,x,t.aj,dx,_,_,rfl,ob1,T.bG.cl,T.iH,(by rfl),_,rfl,x,t.aj,dx,_,_,rfl,ob1,T.bG.cl,T.eW,(by rfl),A_.S.r,_,_,_,rfl,rfl,s1.tup hI,bt (j:=1) rfl,_,rfl,x,t.aj,dx,_,_,rfl,ob1,T.bG.cl,T.eW,(by rfl),_,rfl,x,t.aj,dx,_,_,rfl,ob1,T.bG.cl,T.iH,(by rfl),_,rfl,l,_,_,_,hav,rfl,aK.of (s1 _ _ hal),gY _ _,1000,A_.S.r,d,rg,A_.e.lv,o,rfl,s1.tup hR,hd.mono s1,hm,hok,hsg,λv H2 s2 hv=>?_];have s12:=s1.trans s2;refine#[A_.S.av,v,n,A_.L0.map Lev.lv,A_.e.lv,o,rfl,?_,hv,(by rw[HH]; exact hA.ln),λlv' H3 s3 hl'=>#[x,A_,k,to_,A_.give n o,lv',rfl,hA.mono (s12.trans s3),hO,hL,hW,hl',hB,λH4 s4=>q H4 ((s12.trans s3).trans s4)]];have:=hA.ah.mono s12;rw[Hk] at this;exact this
theorem Ay:FnScope ["self","yes","no"] ["self","yes","no"] (bD qB):=by walk_at "s"
theorem Dw (T:Txt K mg t):FnOk P w K mg base CX0 16 t.wr t.xw ["self","yes","no"] (vO K t):=by
 have Qe:=oE (P:=P) (w:=w) (base:=base) T;have Qb:=mf (P:=P) (w:=w) (base:=base) T;refine T.qj.F.ok Ay (λvs H Q E h=>?_) (λcdv A outer s H vs Q E hr h=>?_)
 . obtain⟨x,A_,k0,k1,n0,n1,rfl,hA,hO,hL,hL1,hW,hW1,hB,q⟩:=h;rfl
 . obtain⟨x,A_,k0,k1,n0,n1,rfl,hA,hO,hL,hL1,hW,hW1,hB,q⟩:=h;refine#[_,(aM (ao (gk (jc (cw (aB 0) T.bG.cl T.fT.m Qb (hr.mono (by decide)) T.fT.b .nil ce (aE (aB 1) (aE (bC T.moved Qe (hr.mono (by decide)) (aE (bK (aB 0) (by rfl)) (aE (bK (aB 0) (by rfl)) (aE aD aF rfl) rfl) rfl)) (aE (bK (aB 0) (by rfl)) aF rfl) rfl) rfl)))) (@aP _ _ _ (@aa _ _ _ _ d9)) al) (@aP _ _ _ (@aa _ _ _ _ (cw (aB 0) T.bG.cl T.fT.m Qb (hr.mono (by decide)) T.fT.b .nil ce (aE (aB 2) (aE (bC T.moved Qe (hr.mono (by decide)) (aE (bK (aB 0) (by rfl)) (aE (bK (aB 0) (by rfl)) (aE aD aF rfl) rfl) rfl)) (aE (bK (aB 0) (by rfl)) aF rfl) rfl) rfl))))),?_];have oke:=hA.ok A_.e (Hu _ HS);have hch:cR K H (A_.at A_.e.r) A_.S.cv:=by have:=hA.ch;rw[Hk] at this;exact this
   have lv:dD 1001 H A_.fs A_.S.av:=hA.ah.up (by decide);obtain⟨dx,ob⟩:=hA.ob;refine#[_,rfl,x,dx,_,rfl,ob,(by rfl),_,rfl,_,rfl,x,t.aj,dx,_,_,rfl,ob,T.bG.cl,T.kK,(by rfl),_,rfl,x,t.aj,dx,_,_,rfl,ob,T.bG.cl,T.kJ,(by rfl),A_.S.fl,A_.S.cv,A_.fns,A_.L0.map Lev.fr,A_.e.F,A_.e.r,0,n0,rfl,hA.tb.f,hch,oke.m,oke.r,hW,(by rw[HH]; exact hA.ln),λcv' H' s' hc'=>?_];have hA':=hA.mono s';have ob':=s' _ _ ob;refine#[_,rfl,x,t.aj,dx,_,_,rfl,ob',T.bG.cl,T.iH,(by rfl),x,A_,k0,A_.at n0,A_.fs,cv',A_.S.av,rfl,hA',hO,hL,hc',lv.mono s',hB n0,λH2 s2=>?_];refine#[_,rfl,?_];cases h0:eK A_ k0 (A_.at n0) A_.fs with
   | false =>
     rw[h0] at q;exact aU rfl (q H2 (s'.trans s2))
   | true =>
     rw[h0] at q;have s12:=s'.trans s2;have hA2:=hA.mono s12;have ob2:=s12 _ _ ob;refine jN #[_,rfl,x,dx,_,rfl,ob2,(by rfl),_,rfl,_,rfl,x,t.aj,dx,_,_,rfl,ob2,T.bG.cl,T.kK,(by rfl),_,rfl,x,t.aj,dx,_,_,rfl,ob2,T.bG.cl,T.kJ,(by rfl),A_.S.fl,A_.S.cv,A_.fns,A_.L0.map Lev.fr,A_.e.F,A_.e.r,1,n1,rfl,hA2.tb.f,hch.mono s12,oke.m,oke.r,hW1,(by rw[HH]; exact hA.ln),λcv3 H3 s3 hc3=>?_];have s13:=s12.trans s3;exact#[_,rfl,x,t.aj,dx,_,_,rfl,s13 _ _ ob,T.bG.cl,T.iH,(by rfl),x,A_,k1,A_.at n1,A_.fs,cv3,A_.S.av,rfl,hA.mono s13,hO,hL1,hc3,lv.mono s13,hB n1,λH4 s4=>q H4 (s13.trans s4)]
theorem wE:FnScope ["self","asked"] ["self"] (bD ib):=by walk_at "s"
theorem FR (T:Txt K mg t):FnOk P w K mg base CX0 18 t.wu t.xy ["self"] (FC K t):=by
 have QI:=DF (P:=P) (w:=w) (base:=base) T;have Qh:=tK (P:=P) (w:=w) (base:=base) T;have Qf:=rY (P:=P) (w:=w) (base:=base) T;have QJ:=BW (P:=P) (w:=w) (base:=base) T;have QK:=Dw (P:=P) (w:=w) (base:=base) T;have Qo:=rW (P:=P) (w:=w) (base:=base) T;have Qn:=tH (P:=P) (w:=w) (base:=base) T;refine T.qk.F.ok wE (λvs H Q E h=>?_) (λcdv A outer s H vs Q E hr h=>?_)
 . obtain⟨x,A_,rg,b,rfl,hA,hO,hR,hW,hS,q⟩:=h;rfl
 . skip
   refine lx ?_;intro XX;refine(let W6:TS:=_; have hW6:bV XX ((bU ib).drop 6) W6:=(aM (ao (au fM (aI (show aJ _ (aR K) from aS) (bK (aB 0) (by rfl)) aD (λ_ _=>rfl)) (aY (aE aQ (aE aQ aF rfl) rfl)) (by with_unfolding_all rfl)) (@aP _ _ _ (@aa _ _ _ _ (cw (aB 0) T.bG.cl T.qj.m QK (hr.mono (by decide)) T.qj.b .nil ce (aE (aI (show aJ _ (aR K) from aS) (bK (aB 0) (by rfl)) aD (λ_ _=>rfl)) (aE (aI (show aJ _ (aR K) from aS) (bK (aB 0) (by rfl)) aD (λ_ _=>rfl)) aF rfl) rfl)))) al) (aM (ao (au fM (aI (show aJ _ (aR K) from aS) (bK (aB 0) (by rfl)) aD (λ_ _=>rfl)) (aY (aE aQ (aE aQ aF rfl) rfl)) (by with_unfolding_all rfl)) (@aP _ _ _ (@aa _ _ _ _ (cw (aB 0) T.bG.cl T.fU.m Qf (hr.mono (by decide)) T.fU.b .nil ce (aE (aI (show aJ _ (aR K) from aS) (bK (aB 0) (by rfl)) (cq cn aD) (λ_ _=>rfl)) (aE (bC T.with_given Qh (hr.mono (by decide)) (aE (bK (aB 0) (by rfl)) (aE (aI (show aJ _ (aR K) from aS) (bK (aB 0) (by rfl)) aD (λ_ _=>rfl)) (aE (gn T.qo) aF rfl) rfl) rfl)) aF rfl) rfl)))) al) (@aP _ _ _ (@aa _ _ _ _ (cw (aB 0) T.bG.cl T.fU.m Qf (hr.mono (by decide)) T.fU.b .nil ce (aE (aI (show aJ _ (aR K) from aS) (bK (aB 0) (by rfl)) (cq cn aD) (λ_ _=>rfl)) (aE (bK (aB 0) (by rfl)) aF rfl) rfl)))))); ?_);refine(let W4:TS:=_; have hW4:bV XX ((bU ib).drop 4) W4:=(aM (ao (au bE (aI (show aJ _ (aR K) from aS) (bK (aB 0) (by rfl)) aD (λ_ _=>rfl)) aQ (am _)) (@aP _ _ _ (@aa _ _ _ _ (gr bE (cP (show bx _ (.builtin "len") (cb K) from ck) (by rfl) T.b_len cW (aE (bK (aB 0) (by rfl)) aF rfl)) aD (am _)))) al) (aM (ao (au bE (aI (show aJ _ (aR K) from aS) (bK (aB 0) (by rfl)) aD (λ_ _=>rfl)) aQ (am _)) (@aP _ _ _ (@aa _ _ _ _ (lF (cw (aB 0) T.bG.cl T.kC.m Qo (hr.mono (by decide)) T.kC.b .nil ce (aE (aI (show aJ _ (aR K) from aS) (bK (aB 0) (by rfl)) aD (λ_ _=>rfl)) aF rfl)) (oN (cw (aB 0) T.bG.cl T.kE.m Qn (hr.mono (by decide)) T.kE.b .nil ce (aE (aI (show aJ _ (aR K) from aS) (bK (aB 0) (by rfl)) aD (λ_ _=>rfl)) (aE (bK (aB 0) (by rfl)) (aE (bK (aB 0) (by rfl)) aF rfl) rfl) rfl)))))) al) hW6)); ?_);refine(let W2:TS:=_; have hW2:bV XX ((bU ib).drop 2) W2:=(aM (@ag _ _ 1 _ _ _ _ wE.nd rfl (Or.inl rfl) (bC T.asked_act QI (hr.mono (by decide)) (aE (bK (aB 0) (by rfl)) (aE (aI (show aJ _ (ae K) from af) (bK (aB 0) (by rfl)) (cq cn aD) (λ_ _=>rfl)) aF rfl) rfl)) (by rfl) (by walk_at "f")) (aM (ao (au (gI hr.units) (iD mT (bK (aB 0) (by rfl)) i6 (gu (cP (show bx _ (.builtin "len") (cb K) from ck) (by rfl) T.b_len cW (aE (aB 1) aF rfl)))) (aB 1) (am _)) (@aP _ _ _ (@aa _ _ _ _ d9)) al) hW4)); ?_);obtain⟨x,A_,rg,b,rfl,hA,hO,hR,hW,hS,q⟩:=h;refine#[_,(aM (ao (au bE (aI (show aJ _ (aR K) from aS) (bK (aB 0) (by rfl)) aD (λ_ _=>rfl)) aQ (am _)) (@aP _ _ _ (@aa _ _ _ _ (cw (aB 0) T.bG.cl T.fU.m Qf (hr.mono (by decide)) T.fU.b .nil ce (aE (aI (show aJ _ (aR K) from aS) (bK (aB 0) (by rfl)) aD (λ_ _=>rfl)) (aE (bC T.with_given Qh (hr.mono (by decide)) (aE (bK (aB 0) (by rfl)) (aE (aI (show aJ _ (aR K) from aS) (bK (aB 0) (by rfl)) aD (λ_ _=>rfl)) (aE (gn T.qo) aF rfl) rfl) rfl)) aF rfl) rfl)))) al) (aM (ao (au bE (aI (show aJ _ (aR K) from aS) (bK (aB 0) (by rfl)) aD (λ_ _=>rfl)) aQ (am _)) (@aP _ _ _ (@aa _ _ _ _ (cw (aB 0) T.bG.cl T.qi.m QJ (hr.mono (by decide)) T.qi.b .nil ce (aE (aI (show aJ _ (aR K) from aS) (bK (aB 0) (by rfl)) aD (λ_ _=>rfl)) aF rfl)))) al) hW2)),?_];obtain⟨dx,ob⟩:=hA.ob;have hac:=hA.ac;obtain⟨l,ds,hav,hal,hap⟩:=hA.ah;rw[Hk] at hap;obtain⟨ds',u,rfl,-,d,rfl,hd⟩:=St.Ps.split1 (t:=A_.e.lv) hap;cases hS with
   | no e1 hk ht =>
     rw[e1] at hac;exact#[_,rfl,x,t.aj,dx,_,_,rfl,ob,T.bG.cl,T.dC,(by rfl),A_.S.a,_,_,_,rfl,rfl,hac,ai,rfl,_,rfl,jN #[_,rfl,x,t.aj,dx,_,_,rfl,ob,T.bG.cl,T.dC,(by rfl),A_.S.a,_,_,_,rfl,rfl,hac,ai,rfl,_,rfl,aU (by decide) #[_,rfl,x,dx,_,rfl,ob,(by rfl),_,rfl,x,t.aj,dx,_,_,rfl,ob,T.bG.cl,T.dC,(by rfl),A_.S.a,_,_,_,rfl,rfl,hac,rfl,x,A_,_,rg,rfl,hA,hO,hR,hk,.inl #[ht,q]]]]
   | go e1 hk hg hm hwy hB =>
     rw[e1] at hac;exact#[_,rfl,x,t.aj,dx,_,_,rfl,ob,T.bG.cl,T.dC,(by rfl),A_.S.a,_,_,_,rfl,rfl,hac,ai,rfl,_,rfl,jN #[_,rfl,x,t.aj,dx,_,_,rfl,ob,T.bG.cl,T.dC,(by rfl),A_.S.a,_,_,_,rfl,rfl,hac,ai,rfl,_,rfl,aU (by decide) #[_,rfl,x,dx,_,rfl,ob,(by rfl),_,rfl,x,t.aj,dx,_,_,rfl,ob,T.bG.cl,T.dC,(by rfl),A_.S.a,_,_,_,rfl,rfl,hac,rfl,x,A_,_,rg,rfl,hA,hO,hR,hk,.inr #[_,_,_,hg,hm,hW.1,hW.2,hwy,hB,q]]]]
   | @ot n kd rest hg e1 nw ng sk =>
     rw[e1] at hac;refine#[_,rfl,x,t.aj,dx,_,_,rfl,ob,T.bG.cl,T.dC,(by rfl),A_.S.a,_,_,_,rfl,rfl,hac,ai,rfl,_,rfl,ak (λz=>nw (V.str.inj (bM z))) #[_,rfl,x,t.aj,dx,_,_,rfl,ob,T.bG.cl,T.dC,(by rfl),A_.S.a,_,_,_,rfl,rfl,hac,ai,rfl,_,rfl,ak (λz=>ng (V.str.inj (bM z))) ?_]];refine#[_,rfl,x,t.aj,dx,_,_,rfl,ob,T.bG.cl,T.eW,(by rfl),_,rfl,x,t.aj,dx,_,_,rfl,ob,T.bG.cl,T.iH,(by rfl),_,rfl,l,_,_,_,hav,rfl,aK.of hal,gY _ _,A_.S.r,d,rg,A_.e.lv,1000,rfl,hR,hd,.inl #[n,hg,λp H1 s1 hp=>?_]];refine#[_,rfl,x,t.aj,dx,_,_,rfl,(s1 _ _ ob),T.bG.cl,T.dC,(by rfl),_,rfl,p,_,rfl,.inr hp,_,rfl,lJ (s1.tup hac) λq2 H2 s2 hq2=>?_];rw[show cV (V.str kd :: rest) none (some (([V.str "go"].length:Nat):Int))=[V.str kd] from BV _ _] at hq2;refine#[_,rfl,#[.tuple [.str kd],.tuple [.str "go"],vx hq2,vx (s2.tup hp),(bJ.tuple (n:=1) λd hd=>by cases HY.mp hd; exact bJ.str sk).shaped (by decide),by decide +kernel,?_]];rw[Fg,Hd ng];exact#[_,rfl,aU rfl (q H2 (s1.trans s2))]
   | @tu a v o tr k0 k1 n0 n1 hg e1 hv tok hpl hok hk0 hk1 w0 w1 hB =>
     rw[e1] at hac;refine#[_,rfl,x,t.aj,dx,_,_,rfl,ob,T.bG.cl,T.dC,(by rfl),A_.S.a,_,_,_,rfl,rfl,hac,ai,rfl,_,rfl,jN #[_,rfl,x,t.aj,dx,_,_,rfl,ob,T.bG.cl,T.dC,(by rfl),A_.S.a,_,_,_,rfl,rfl,hac,ai,rfl,_,rfl,jN ?_]];refine#[_,rfl,x,t.aj,dx,_,_,rfl,ob,T.bG.cl,T.eW,(by rfl),_,rfl,x,t.aj,dx,_,_,rfl,ob,T.bG.cl,T.iH,(by rfl),_,rfl,l,_,_,_,hav,rfl,aK.of hal,gY _ _,A_.S.r,d,rg,A_.e.lv,1000,rfl,hR,hd,.inr #[a,o,hg,hpl,λp v1 H1 s1 hp hv1=>?_]];refine#[_,rfl,x,t.aj,dx,_,_,rfl,(s1 _ _ ob),T.bG.cl,T.dC,(by rfl),_,rfl,p,_,rfl,.inr hp,_,rfl,lJ (s1.tup hac) λq2 H2 s2 hq2=>?_];rw[show cV [V.str "if",v,V.int (k0:Int),V.int (k1:Int)] none (some (([V.str "if",v1].length:Nat):Int))=[V.str "if",v] from AN _ _ _] at hq2;have s12:=s1.trans s2;refine#[_,rfl,Fe (tok.lay.mono (by decide)) hok hq2 (s2.tup hp) (hv.mono s12) (aX.mono hv1 s2) #[_,rfl,?_]];cases hE:eC tr o with
     | false =>
       rw[hE] at q;exact aU rfl (q H2 s12)
     | true =>
       rw[hE,Ir] at q;have ob2:=s12 _ _ ob;refine jN ?_;have hR2:=s12.tup hR;have hac2:=s12.tup hac;have go:∀H3,aC H2 H3->∀(z:gi K t.aj t.bX H3 x A_),vO K t [.ref x,.int (k0:Int),.int (k1:Int)] H3 Q E:=λH3 s3 z=>#[x,A_,k0,k1,n0,n1,rfl,z,hO,hk0,hk1,w0,w1,hB,λH4 s4=>q H4 ((s12.trans s3).trans s4)]
       rcases hg with rfl|rfl
       . exact#[_,rfl,x,t.aj,dx,_,_,rfl,ob2,T.bG.cl,T.eW,(by rfl),A_.S.r,_,_,_,rfl,rfl,hR2,ai,rfl,_,rfl,jN #[_,rfl,x,t.aj,dx,_,_,rfl,ob2,T.bG.cl,T.eW,(by rfl),A_.S.r,_,_,_,rfl,rfl,hR2,ai,rfl,_,rfl,jN #[_,rfl,x,t.aj,dx,_,_,rfl,ob2,T.bG.cl,T.eW,(by rfl),A_.S.r,_,_,_,rfl,rfl,hR2,ai,aw,λp3 h3=>#[p3,_,rfl,.inr (aG.of aL),rfl,rfl,_,rfl,aU (by decide) #[_,rfl,x,dx,_,rfl,(aC.new h3 _ _ ob2),(by rfl),_,rfl,x,t.aj,dx,_,_,rfl,(aC.new h3 _ _ ob2),T.bG.cl,T.dC,(by rfl),A_.S.a,_,_,_,rfl,rfl,((aC.new h3).tup hac2),rfl,_,rfl,x,t.aj,dx,_,_,rfl,(aC.new h3 _ _ ob2),T.bG.cl,T.dC,(by rfl),A_.S.a,_,_,_,rfl,rfl,((aC.new h3).tup hac2),rfl,go _ (aC.new h3) (hA.mono (s12.trans (aC.new h3)))]]]]]
       . exact#[_,rfl,x,t.aj,dx,_,_,rfl,ob2,T.bG.cl,T.eW,(by rfl),A_.S.r,_,_,_,rfl,rfl,hR2,ai,rfl,_,rfl,jN #[_,rfl,x,t.aj,dx,_,_,rfl,ob2,T.bG.cl,T.eW,(by rfl),A_.S.r,_,_,_,rfl,rfl,hR2,ai,rfl,_,rfl,jN #[_,rfl,x,t.aj,dx,_,_,rfl,ob2,T.bG.cl,T.eW,(by rfl),A_.S.r,_,_,_,rfl,rfl,hR2,ai,aw,λp3 h3=>#[p3,_,rfl,.inr (aG.of aL),rfl,rfl,_,rfl,aU (by decide) #[_,rfl,x,dx,_,rfl,(aC.new h3 _ _ ob2),(by rfl),_,rfl,x,t.aj,dx,_,_,rfl,(aC.new h3 _ _ ob2),T.bG.cl,T.dC,(by rfl),A_.S.a,_,_,_,rfl,rfl,((aC.new h3).tup hac2),rfl,_,rfl,x,t.aj,dx,_,_,rfl,(aC.new h3 _ _ ob2),T.bG.cl,T.dC,(by rfl),A_.S.a,_,_,_,rfl,rfl,((aC.new h3).tup hac2),rfl,go _ (aC.new h3) (hA.mono (s12.trans (aC.new h3)))]]]]]
theorem FV:FnScope ["program","spots","marks","k"] ["program","spots","marks","k"] (bD pJ):=by walk_at "s"
theorem DA (T:Txt K mg t):FnOk P w K mg base CX0 19 t.xf t.yi ["program","spots","marks","k"] (AA K t):=by
 have QL:=CB (P:=P) (w:=w) (base:=base) T;have QM:=GA (P:=P) (w:=w) (base:=base) T;have QN:=FR (P:=P) (w:=w) (base:=base) T;refine T.spot_holds.F.ok FV (λvs H Q E h=>?_) (λcdv A outer s H vs Q E hr h=>?_)
 . obtain⟨p,sp,mk,a,k,A_,rg,v,w_,b,rfl,hP,n0,n12,hE,nd,hT,hM,hv,hSp,ha,hf,h10,hO,hw,hR,hW,hS,q⟩:=h;rfl
 . obtain⟨p,sp,mk,a,k,A_,rg,v,w_,b,rfl,hP,n0,n12,hE,nd,hT,hM,hv,hSp,ha,hf,h10,hO,hw,hR,hW,hS,q⟩:=h;refine#[_,(aM (@aa _ _ _ _ (AH (vh T.bG T.wc QL (hr.mono (by decide)) (aE (vh T.cu T.wb QM (hr.mono (by decide)) (aE (aB 0) aF rfl)) (aE (aB 1) (aE (aB 2) (aE (aB 3) aF rfl) rfl) rfl) rfl)) T.bG.cl T.qk.m QN (hr.mono (by decide)) T.qk.b .nil ce)) al),?_];refine#[_,rfl,λx dx nx ndx nex=>?_];have s0:aC H (upd (upd H dx (.own x)) x (.ins t.bX dx [])):=λb o e=>by rw[ay (cT e nx),ay (cT e ndx)];exact e
   have s1':aC H (ers x (upd (upd H dx (.own x)) x (.ins t.bX dx []))):=λb o e=>by rw[gg,c9 (cT e nx),ay (cT e ndx)];exact e
   refine#[x,dx,p,A_.fns,rfl,aL,s1'.seq hP,n0,n12,λf hf=>(hE f hf).mono s1',nd,λH1 s1 hF=>#[rfl,?_]];have s01:aC H H1:=λb o e=>s1 b o (by rw[c9 (cT e nx)]; exact s0 b o e);refine#[_,rfl,_,rfl,_,rfl,λy dy ny ndy ney=>?_];have s2':aC H1 (ers y (upd (upd H1 dy (.own y)) y (.ins t.aj dy []))):=λb o e=>by rw[gg,c9 (cT e ny),ay (cT e ndy)];exact e
   have s02:=s01.trans s2';have hT2:=hT.mono s02;refine#[y,dy,x,sp,mk,a,k,A_.fns,A_.svs,A_.mvs,A_.ks,A_.Ms,A_.L0,A_.e,A_.ps,A_.as,v,rfl,aL,#[hF.mono s2',hT2.s,hT2.ss,hT2.m,hT2.ms,hT2.l],hM,hv,hSp.mono s02,s02.tup ha,hf,h10,λS H3 s3 hSt=>#[rfl,?_]];have s03:aC H H3:=s02.trans s3;obtain⟨dz,obz⟩:=hSt.ob;obtain⟨w2,e2,e3⟩:=hSt.row;have:w2=w_:=by rw[hw] at e2; exact(Option.some.inj e2).symm
   subst this;exact#[y,dz,_,rfl,obz,(by rfl),y,A_.to S,rg,b,rfl,hSt,hO.to S,(by show aG K H3 S.r rg.items; rw[e3]; exact s03.tup hR),hW,(hS.mono s03).to S,λH4 s4=>q H4 (s03.trans s4)]
theorem zH:FnScope ["_law_script","_law_k"] ["_law_script","_law_k"] (bD pD):=by walk_at "s"
theorem EF (T:Txt K mg t):FnOk P w K mg base CX0 1 t.xD t.yL ["_law_script","_law_k"] (FX K):=by
 refine T.yq.F.ok zH (λvs H Q E h=>?_) (λcdv A outer s H vs Q E hr h=>?_)
 . obtain⟨a,ns,k,rfl,hS,hl,h0,q⟩:=h;rfl
 . obtain⟨a,ns,k,rfl,hS,hl,h0,q⟩:=h;refine#[_,(aM (ao (au (bf kS) (aB 1) (cP (show bx _ (.builtin "len") (cb K) from ck) (by rfl) T.b_len cW (aE (aB 0) aF rfl)) (am _)) (@aP _ _ _ (@aa _ _ _ _ (aI (show aJ _ (ae K) from af) (aB 0) (aB 1) (λ_ _=>rfl)))) al) (@aP _ _ _ (@aa _ _ _ _ aD))),?_];have hlen:(ns.map V.int).length=ns.length:=HH _;refine#[_,rfl,_,rfl,a,_,rfl,.inl hS,_,_,rfl,rfl,_,rfl,?_];refine EL (λc=>?_) (λc=>?_)
   . have c:=bM c;rw[hlen] at c;obtain⟨z,hz⟩:=Ao h0 c;exact#[_,rfl,_,rfl,a,_,_,_,rfl,rfl,hS,hz,q _]
   . exact q _
end
end K43
namespace K43
open PySem L2 K21 Rk2
section
variable {P:Program} {w:World} {K:W.Frag} {mg:Str->Option Value} {base:Heap} {t:Adr}
theorem DD:FnScope ["_law_sign","_law_one","_law_other"] ["_law_sign","_law_one","_law_other"] (bD pw):=by walk_at "s"
theorem wZ (T:Txt K mg t):FnOk P w K mg base CX0 1 t.xR t.yZ ["_law_sign","_law_one","_law_other"] (CP K):=by
 refine T.qu.F.ok DD (λvs H Q E h=>?_) (λcdv A outer s H vs Q E hr h=>?_)
 . obtain⟨s,a,b,rfl,h1,h2,h3,h4,q⟩:=h;rfl
 . obtain⟨s,a,b,rfl,h1,h2,h3,h4,q⟩:=h;refine#[_,(aM (ao (au bE (aB 0) aQ (am _)) (@aP _ _ _ (@aa _ _ _ _ (@aN _ _ _ _ _ _ _ _ (aV bI) (@aN _ _ _ _ _ _ _ _ (bf cM) (aB 1) (aB 2)) (@aN _ _ _ _ _ _ _ _ (aV j7) aD aD)))) al) (aM (ao (au bE (aB 0) aQ (am _)) (@aP _ _ _ (@aa _ _ _ _ (@aN _ _ _ _ _ _ _ _ (aV bI) (@aN _ _ _ _ _ _ _ _ (bf lC) (aB 1) (aB 2)) (@aN _ _ _ _ _ _ _ _ (aV j7) aD aD)))) al) (aM (ao (au bE (aB 0) aQ (am _)) (@aP _ _ _ (@aa _ _ _ _ (@aN _ _ _ _ _ _ _ _ (aV bI) (@aN _ _ _ _ _ _ _ _ (aV dm) (aB 1) (aB 2)) (@aN _ _ _ _ _ _ _ _ (aV j7) aD aD)))) al) (aM (ao (au bE (aB 0) aQ (am _)) (aM (ao (au bE (aB 2) aD (am _)) (@aP _ _ _ (@aa _ _ _ _ aD)) al) (@aP _ _ _ (@aa _ _ _ _ (@aN _ _ _ _ _ _ _ _ (aV vT) (aB 1) (aB 2))))) al) (aM (ao (au bE (aB 0) aQ (am _)) (@aP _ _ _ (@aa _ _ _ _ (d6 oK (by rfl) T.b_int mi (aE (gr (bf kS) (aB 1) (aB 2) (am _)) aF rfl)))) al) (aM (ao (au bE (aB 0) aQ (am _)) (@aP _ _ _ (@aa _ _ _ _ (d6 oK (by rfl) T.b_int mi (aE (gr bE (aB 1) (aB 2) (am _)) aF rfl)))) al) (aM (ao (au bE (aB 0) aQ (am _)) (@aP _ _ _ (@aa _ _ _ _ (@aN _ _ _ _ _ _ _ _ (bf sV) (aB 1) (aB 2)))) al) (aM (ao (au bE (aB 0) aQ (am _)) (@aP _ _ _ (@aa _ _ _ _ (@aN _ _ _ _ _ _ _ _ (bf rh) (aB 1) (aB 2)))) al) (@aP _ _ _ (@aa _ _ _ _ (@aN _ _ _ _ _ _ _ _ (bf vE) (aB 1) (aB 2)))))))))))),?_];have hw:wide=281474976710656:=rfl;refine#[_,rfl,rfl,_,rfl,?_];by_cases k1:s="+"
   . refine aU (HK (Hb V.str k1)) ?_;have e:valOf s a b=(a+b)%wide:=by unfold valOf; rw[HR k1]
     rw[e] at q;exact#[_,rfl,_,rfl,_,_,rfl,rfl,_,_,rfl,rfl,#[by decide,by decide,by decide],_,_,rfl,rfl,pos48,vq (Hb V.int (Hb (λz=>(a+b)%z) pw48)) q]
   refine ak (λz=>k1 (V.str.inj (bM z))) ?_;refine#[_,rfl,rfl,_,rfl,?_];by_cases k2:s="-"
   . refine aU (HK (Hb V.str k2)) ?_;have e:valOf s a b=(a - b)%wide:=by unfold valOf; rw[HI k1,HR k2]
     rw[e] at q;exact#[_,rfl,_,rfl,_,_,rfl,rfl,_,_,rfl,rfl,#[by decide,by decide,by decide],_,_,rfl,rfl,pos48,vq (Hb V.int (Hb (λz=>(a - b)%z) pw48)) q]
   refine ak (λz=>k2 (V.str.inj (bM z))) ?_;refine#[_,rfl,rfl,_,rfl,?_];by_cases k3:s="*"
   . refine aU (HK (Hb V.str k3)) ?_;have e:valOf s a b=(a * b)%wide:=by unfold valOf; rw[HI k1,HI k2,HR k3]
     rw[e] at q;exact#[_,rfl,_,rfl,_,_,rfl,rfl,.inl #[by omega,by omega],_,_,rfl,rfl,#[by decide,by decide,by decide],_,_,rfl,rfl,pos48,vq (Hb V.int (Hb (λz=>(a * b)%z) pw48)) q]
   refine ak (λz=>k3 (V.str.inj (bM z))) ?_;refine#[_,rfl,rfl,_,rfl,?_];by_cases k4:s="/"
   . refine aU (HK (Hb V.str k4)) ?_;have e:valOf s a b=if b=0 then 0 else a / b:=by unfold valOf; rw[HI k1,HI k2,HI k3,HR k4]
     rw[e] at q;refine#[_,rfl,rfl,_,rfl,?_];by_cases hb:b=0
     . rw[HR hb] at q;exact aU (HK (Hb V.int hb)) q
     . rw[HI hb] at q;exact ak (λz=>hb (V.int.inj (bM z))) #[_,rfl,_,rfl,_,_,rfl,rfl,#[by omega,by omega],q]
   refine ak (λz=>k4 (V.str.inj (bM z))) ?_;refine#[_,rfl,rfl,_,rfl,?_];by_cases k5:s="<"
   . refine aU (HK (Hb V.str k5)) ?_;have e:valOf s a b=if a<b then 1 else 0:=by unfold valOf; rw[HI k1,HI k2,HI k3,HI k4,HR k5]
     rw[e] at q;refine#[_,rfl,_,rfl,_,_,rfl,rfl,.inr #[_,rfl,vq ?_ q]];by_cases hb:a<b <;> simp [hb]
   refine ak (λz=>k5 (V.str.inj (bM z))) ?_;refine#[_,rfl,rfl,_,rfl,?_];by_cases k6:s="="
   . refine aU (HK (Hb V.str k6)) ?_;have e:valOf s a b=if a=b then 1 else 0:=by unfold valOf; rw[HI k1,HI k2,HI k3,HI k4,HI k5,HR k6]
     rw[e] at q;refine#[_,rfl,_,rfl,rfl,.inr #[_,rfl,vq ?_ q]];by_cases hb:a=b <;> simp [hb]
   refine ak (λz=>k6 (V.str.inj (bM z))) ?_;refine#[_,rfl,rfl,_,rfl,?_];by_cases k7:s="&"
   . refine aU (HK (Hb V.str k7)) ?_;have e:valOf s a b=Builtin.bitAnd a b:=by unfold valOf bw; rw[HI k1,HI k2,HI k3,HI k4,HI k5,HI k6,HR k7]
     rw[e] at q;exact#[_,rfl,_,rfl,_,_,rfl,rfl,q]
   refine ak (λz=>k7 (V.str.inj (bM z))) ?_;refine#[_,rfl,rfl,_,rfl,?_];by_cases k8:s="|"
   . refine aU (HK (Hb V.str k8)) ?_;have e:valOf s a b=Builtin.bitOr a b:=by unfold valOf bw; rw[HI k1,HI k2,HI k3,HI k4,HI k5,HI k6,HI k7,HR k8]
     rw[e] at q;exact#[_,rfl,_,rfl,_,_,rfl,rfl,q]
   refine ak (λz=>k8 (V.str.inj (bM z))) ?_;have e:valOf s a b=Builtin.bitXor a b:=by unfold valOf bw; rw[HI k1,HI k2,HI k3,HI k4,HI k5,HI k6,HI k7,HI k8]
   rw[e] at q;exact#[_,rfl,_,rfl,_,_,rfl,rfl,q]
end
end K43
namespace K43
open PySem L2 Gx Fl K41
section
variable {P:Program} {w:World} {K:W.Frag} {mg:Str->Option Value} {base:Heap} {t:Adr}
theorem gJ:FnScope ["_law_cell","_law_many","_law_letters","_law_size","_law_word","_law_at","_law_found","_law_k","_law_name"] ["_law_cell","_law_many"] (bD qR):=by walk_at "s"
theorem Cd (T:Txt K mg t):FnOk P w K mg base CX0 1 t.xJ t.yR ["_law_cell","_law_many"] (Aq K):=by
 refine T.md.F.ok gJ (λvs H Q E h=>?_) (λcdv A outer s H vs Q E hr h=>?_)
 . obtain⟨c,mn,rfl,hmn,q⟩:=h;rfl
 . obtain⟨c,mn,rfl,hmn,q⟩:=h;refine#[_,(aM (@ag _ _ 2 _ _ _ _ gJ.nd rfl (Or.inr rfl) aQ (by rfl) (by walk_at "f")) (aM (@ag _ _ 3 _ _ _ _ gJ.nd rfl (Or.inl rfl) (@aN _ _ _ _ _ _ _ _ (aV bI) (aB 0) aD) (by rfl) (by walk_at "f")) (aM (@ag _ _ 4 _ _ _ _ gJ.nd rfl (Or.inl rfl) (dU PySem.F.plainAttrs_str PySem.F.slot_str_join PySem.F.type_str_join E5 aQ (aE (gO (N':=["_law_k","_law_letters","_law_cell"]) (js:=[none,some 2,some 0]) (by kernel_rfl) rfl (g8 rfl T.b_range (aE (aB 3) aF rfl)) fP (λ_ _ _ _=>(bS (i:=0) (show(["_law_k","_law_letters","_law_cell"]:List Str).Nodup by decide +kernel) rfl (Or.inl rfl) (.inr rfl))) (λ_ _ _ _=>fQ) (λ_ _ _ _=>(aI ki (aB 1) (@aN _ _ _ _ _ _ _ _ (aV bI) (@aN _ _ _ _ _ _ _ _ (aV bv) (@aN _ _ _ _ _ _ _ _ (aV bI) (@aN _ _ _ _ _ _ _ _ (aV dm) (aB 2) (@aN _ _ _ _ _ _ _ _ (bf cM) aD (@aN _ _ _ _ _ _ _ _ (aV dm) aD (aB 0)))) aD) aD) aD) (λ_ _=>rfl)))) aF rfl)) (by rfl) (by walk_at "f")) (aM (@ag _ _ 5 _ _ _ _ gJ.nd rfl (Or.inl rfl) (@aN _ _ _ _ _ _ _ _ (aV bI) (@aN _ _ _ _ _ _ _ _ (aV bv) (aB 0) aD) (@aN _ _ _ _ _ _ _ _ (bf cM) (aB 3) aD)) (by rfl) (by walk_at "f")) (aM (@ag _ _ 6 _ _ _ _ gJ.nd rfl (Or.inl rfl) (bj aF) (by rfl) (by walk_at "f")) (aM (cj PassesOwn.never rfl (g8 rfl T.b_range (aE (aB 1) aF rfl)) (bS (i:=7) gJ.nd rfl (Or.inl rfl)) (aM (@ag _ _ 8 _ _ _ _ gJ.nd rfl (Or.inl rfl) (@aN _ _ _ _ _ _ _ _ ni (@aN _ _ _ _ _ _ _ _ ni (iD uY (aB 4) i6 (gu (aB 5))) (aI ki (aB 2) (@aN _ _ _ _ _ _ _ _ (aV bI) (@aN _ _ _ _ _ _ _ _ (bf cM) (@aN _ _ _ _ _ _ _ _ (aV bv) (aB 0) aD) (aB 7)) aD) (λ_ _=>rfl))) (iD uY (aB 4) (gu (aB 5)) i6)) (by rfl) (by walk_at "f")) (aM (ao (au fM (aB 8) (@Bw _ _ [V.str "fn",V.str "in",V.str "new",V.str "get",V.str "put",V.str "call",V.str "out",V.str "if",V.str "while",V.str "else",V.str "end",V.str "back"] (by kernel_rfl)) (by with_unfolding_all rfl)) (@aP _ _ _ (@ag _ _ 8 _ _ _ _ gJ.nd rfl (Or.inl rfl) (@aN _ _ _ _ _ _ _ _ ni (aB 8) aQ) (by rfl) (by walk_at "f"))) al) (@aP _ _ _ (@ee _ _ _ _ (dU Hs Hy Hz iS (aB 6) (aE (aB 8) aF rfl)) (by rfl)))))) (@aP _ _ _ (@aa _ _ _ _ (aB 6))))))))),?_];have b8:=gd c 8 (by decide);obtain⟨sz,es⟩:=IL b8.1;have s8:sz<8:=by omega
   have lf:K12.lets.length<=sizeLine:=by decide +kernel
   refine#[_,rfl,_,_,rfl,rfl,(show(0:Int)<8 by decide),?_];refine#[rfl,_,rfl,_,rfl,by omega,by omega,λu hu=>DY (λi=>V.str (tx [lc (c * (48271+2 * (0+(i:Int)))%2147483647 / 9%26)])) (by omega) hu ?_ ?_]
   . rintro i H2 Rr hi s2 hR;have bi:=gd (c * (48271+2 * (0+(i:Int)))%2147483647 / 9) 26 (by decide);refine#[_,rfl,_,rfl,_,rfl,_,_,rfl,rfl,.inl #[by decide,by decide],_,_,rfl,rfl,_,_,rfl,rfl,.inr #[by omega,by omega],_,_,rfl,rfl,(show(0:Int)<2147483647 by decide),_,_,rfl,rfl,#[by decide,by decide],_,_,rfl,rfl,(show(0:Int)<26 by decide),_,_,_,rfl,rfl,lf,sY bi.1 bi.2,hR]
   rintro H2 s2 e2;have en:(c%8).toNat=sz:=by omega
   rw[en] at e2;have e3:((List.range sz).map λi:Nat=>V.str (tx [lc (c * (48271+2 * (0+(i:Int)))%2147483647 / 9%26)]))=(((List.range sz).map λi:Nat=>[lc (c * (48271+2 * (0+(i:Int)))%2147483647 / 9%26)]).map tx).map V.str:=by rw[IS,IS];rfl
   rw[e3] at e2;have so:∀l:List Nat,(((l.map λi:Nat=>[lc (c * (48271+2 * (0+(i:Int)))%2147483647 / 9%26)]).map tx).map (·.length)).sum=l.length:=λl=>by
     induction l with
     | nil=>rfl
     | cons x l ih=>rw[Ho,Ho,Ho,List.sum_cons,ih,ff,Hh]; simp; omega
   have fo:∀l:List Nat,(l.map λi:Nat=>[lc (c * (48271+2 * (0+(i:Int)))%2147483647 / 9%26)]).flatten=l.map λi:Nat=>lc (c * (48271+2 * (0+(i:Int)))%2147483647 / 9%26):=λl=>by
     induction l with
     | nil=>rfl
     | cons x l ih=>rw[Ho,Ip,ih]; rfl
   refine#[_,u,_,rfl,rfl,aK.of e2,(by rw[so,J3,HH,HH,J3]; show sz+sz * 0<=16777216; omega),?_];rw[sL,fo];have hWl:((List.range sz).map λi:Nat=>lc (c * (48271+2 * (0+(i:Int)))%2147483647 / 9%26)).length=sz:=by rw[HH,J3]
   have hWm:∀x∈((List.range sz).map λi:Nat=>lc (c * (48271+2 * (0+(i:Int)))%2147483647 / 9%26)),x∈K12.lets.cps.toList:=λx hx=>by obtain⟨i,_,rfl⟩:=Hq.mp hx;have bi:=gd (c * (48271+2 * (0+(i:Int)))%2147483647 / 9) 26 (by decide);exact uL bi.1 bi.2
   generalize ((List.range sz).map λi:Nat=>lc (c * (48271+2 * (0+(i:Int)))%2147483647 / 9%26))=W at hWl hWm ⊢;have wf:(tx W).length<=sizeLine:=by rw[ff]; exact cG (by omega)
   have ba:=gd (c / 8) (c%8+1) (by omega);obtain⟨a,ea⟩:=IL ba.1;have aW:a<=W.length:=by omega
   refine#[_,rfl,_,_,rfl,rfl,#[by decide,by decide],_,rfl,_,_,rfl,rfl,_,_,rfl,rfl,(by show(0:Int)<c%8+1; omega),?_];refine#[dh,λl hl=>?_];have hlH:H l=none:=s2.free hl;refine#[_,rfl,_,rfl,by omega,by omega,?_];refine(let Jv1:Nat->St->Hp->Prop:=λi σ H3=>aC H H3/\(∃v7 v8,σ=[some (.int c),some (.int mn),some (.str K12.lets),some (.int (c%8)),some (.str (tx W)),some (.int (c / 8%(c%8+1))),some (.ref l),v7,v8])/\H3 l=some (.lst (((List.range i).map (dq W a (c / 64))).map V.str)); gq (lo:=0) (n:=mn) Jv1 #[s2.trans (aC.new hl),#[_,_,rfl],aL] ?_ ?_)
   . rintro i σ H3 hi ⟨s3,⟨v7,v8,rfl⟩,e3⟩;have bi:=gd (c / 64+(0+(i:Int))) 26 (by decide);have ei:(c / 64+(0+(i:Int)))%26=(c / 64+(i:Int))%26:=by rw[KM]
     refine#[_,rfl,_,rfl,_,rfl,_,rfl,wf,?_];rw[show(some (c / 8%(c%8+1)):Option Int)=some ((a:Nat):Int) by rw[ea],E' aW];refine#[_,rfl,_,rfl,_,_,rfl,rfl,#[by decide,by decide],_,rfl,_,_,rfl,rfl,_,_,rfl,rfl,(show(0:Int)<26 by decide),_,_,_,rfl,rfl,lf,sY bi.1 bi.2,?_];refine#[_,_,rfl,rfl,(by rw[ff,Hx]; exact cG (by show min a W.length+1<1000000; omega)),?_];refine#[_,rfl,_,rfl,_,rfl,_,rfl,wf,?_];rw[show(some (c / 8%(c%8+1)):Option Int)=some ((a:Nat):Int) by rw[ea],zb aW];have eB:tx (W.take a)++(⟨(List.toArray [lc ((c / 64+(0+(i:Int)))%26)])⟩:Str)++tx (W.drop a)=tx (du W a (c / 64) i):=by rw[show(#[(List.toArray [lc ((c / 64+(0+(i:Int)))%26)])]:Str)=tx [lc ((c / 64+(0+(i:Int)))%26)] from rfl,jq,jq,ei];rfl
     have bl:=mP W a (c / 64) i;refine#[_,_,rfl,rfl,?_,?_]
     . rw[show(#[(List.toArray [lc ((c / 64+(0+(i:Int)))%26)])]:Str)=tx [lc ((c / 64+(0+(i:Int)))%26)] from rfl,jq,ff,ff,HU,Hx,J8];exact cG (by simp; omega)
     rw[eB];refine#[_,rfl,(by show 12<=sizeLine; decide),λtl htl=>#[tl,_,rfl,.inl (aK.of aL),rfl,(by decide +kernel),_,rfl,?_]];have s4:=s3.trans (aC.new (o:=.lst io) htl);have e4:=aC.new (o:=.lst io) htl _ _ e3;have nx:∀s:Str,s=dq W a (c / 64) i->aC H (upd (upd H3 tl (.lst io)) l (.lst (((List.range i).map (dq W a (c / 64))).map V.str++[V.str s])))/\(upd (upd H3 tl (.lst io)) l (.lst (((List.range i).map (dq W a (c / 64))).map V.str++[V.str s]))) l=some (.lst (((List.range (i+1)).map (dq W a (c / 64))).map V.str)):=λs hs=>by refine#[s4.upd hlH,?_];rw[aL,hs,List.range_succ,Hk,Hk];rfl
     have fitl:(((List.range i).map (dq W a (c / 64))).map V.str).length<sizeLine:=by rw[HH,HH,J3]; exact tZ (by omega)
     by_cases ht:gE (.str (tx (du W a (c / 64) i))) io=true
     . have en:tx (du W a (c / 64) i)++("x":Str)=dq W a (c / 64) i:=by unfold dq;rw[HR ht];exact jq _ [120]
       refine aU ht #[_,rfl,_,_,rfl,rfl,(by rw[ff,bl]; exact cG (by show W.length+1+1<1000000; omega)),?_];obtain⟨x1,x2⟩:=nx _ en;exact#[_,rfl,.inl #[rfl,_,aK.of e4],_,rfl,l,_,_,rfl,rfl,e4,fitl,x1,#[_,_,rfl],x2]
     . have en:tx (du W a (c / 64) i)=dq W a (c / 64) i:=by unfold dq;rw[HI ht]
       refine ak ht ?_;obtain⟨x1,x2⟩:=nx _ en;exact#[_,rfl,.inl #[rfl,_,aK.of e4],_,rfl,l,_,_,rfl,rfl,e4,fitl,x1,#[_,_,rfl],x2]
   . rintro σ H3 ⟨s3,⟨v7,v8,rfl⟩,e3⟩;refine#[_,rfl,q _ (by rw[HH,J3]) ?_ (λw hw=>?_) l H3 s3 hlH e3]
     . exact List.pairwise_map.mpr (List.Pairwise.imp_of_mem (λ{x y} hx hy hne h=>hne (DR (by have:=KY.mp hx; omega) (by have:=KY.mp hy; omega) h)) List.nodup_range)
     . obtain⟨k,_,rfl⟩:=Hq.mp hw;exact Ap hWm (by omega)
end
end K43
namespace K43
open PySem L2 K21 Rk2 Bg
section
variable {P:Program} {w:World} {K:W.Frag} {mg:Str->Option Value} {base:Heap} {t:Adr}
theorem fY:FnScope ["_law_cell","_law_boxes","_law_one","_law_k","_law_number","_law_sign","_law_other"] ["_law_cell","_law_boxes"] (bD nr):=by walk_at "s"
theorem mJ (T:Txt K mg t):FnOk P w K mg base CX0 1 t.xP t.yX ["_law_cell","_law_boxes"] (Bo K):=by
 refine T.kI.F.ok fY (λvs H Q E h=>?_) (λcdv A outer s H vs Q E hr h=>?_)
 . obtain⟨c,bl,bs,rfl,hB,hbs,q⟩:=h;rfl
 . obtain⟨c,bl,bs,rfl,hB,hbs,q⟩:=h;refine#[_,(aM (@ag _ _ 2 _ _ _ _ fY.nd rfl (Or.inl rfl) (aY (aE aQ (aE (@aN _ _ _ _ _ _ _ _ (aV bI) (@aN _ _ _ _ _ _ _ _ (aV bv) (aB 0) aD) (@aN _ _ _ _ _ _ _ _ (aV j7) aD aD)) aF rfl) rfl)) (by rfl) (by walk_at "f")) (cr (ao (au (bf kT) (@aN _ _ _ _ _ _ _ _ (aV bI) (aB 0) aD) aD (am _)) (@aP _ _ _ (@ag _ _ 2 _ _ _ _ fY.nd rfl (Or.inl rfl) (aY (aE aQ (aE (aI (show aJ _ (ae K) from af) (aB 1) (@aN _ _ _ _ _ _ _ _ (aV bI) (@aN _ _ _ _ _ _ _ _ (aV bv) (aB 0) aD) (cP (show bx _ (.builtin "len") (cb K) from ck) (by rfl) T.b_len cW (aE (aB 1) aF rfl))) (λ_ _=>rfl)) aF rfl) rfl)) (by rfl) (by walk_at "f"))) al) (aM (cj PassesOwn.never rfl (g8 rfl T.b_range (aE (@aN _ _ _ _ _ _ _ _ (aV bI) (@aN _ _ _ _ _ _ _ _ (aV bv) (aB 0) aD) aD) aF rfl)) (bS (i:=3) fY.nd rfl (Or.inl rfl)) (aM (@ag _ _ 4 _ _ _ _ fY.nd rfl (Or.inl rfl) (@aN _ _ _ _ _ _ _ _ (aV bv) (@aN _ _ _ _ _ _ _ _ (aV bI) (@aN _ _ _ _ _ _ _ _ (aV dm) (aB 0) (aI (show aJ _ (ae K) from af) (bj (aE aD (aE aD aF rfl) rfl)) (aB 3) (λ_ _=>rfl))) aD) aD) (by rfl) (by walk_at "f")) (aM (@ag _ _ 5 _ _ _ _ fY.nd rfl (Or.inl rfl) (aI ki aQ (@aN _ _ _ _ _ _ _ _ (aV bI) (@aN _ _ _ _ _ _ _ _ (aV bv) (aB 4) aD) aD) (λ_ _=>rfl)) (by rfl) (by walk_at "f")) (aM (@ag _ _ 6 _ _ _ _ fY.nd rfl (Or.inl rfl) (aY (aE aQ (aE (aI (show aJ _ (ae K) from af) (aB 1) (@aN _ _ _ _ _ _ _ _ (aV bI) (@aN _ _ _ _ _ _ _ _ (aV bv) (aB 4) aD) (cP (show bx _ (.builtin "len") (cb K) from ck) (by rfl) T.b_len cW (aE (aB 1) aF rfl))) (λ_ _=>rfl)) aF rfl) rfl)) (by rfl) (by walk_at "f")) (aM (ao (au bE (@aN _ _ _ _ _ _ _ _ (aV bI) (@aN _ _ _ _ _ _ _ _ (aV bv) (aB 4) aD) aD) aD (am _)) (@aP _ _ _ (@ag _ _ 6 _ _ _ _ fY.nd rfl (Or.inl rfl) (aY (aE aQ (aE (@aN _ _ _ _ _ _ _ _ (aV bI) (@aN _ _ _ _ _ _ _ _ (aV bv) (aB 4) aD) aD) aF rfl) rfl)) (by rfl) (by walk_at "f"))) al) (@aP _ _ _ (ao (au bE (@aN _ _ _ _ _ _ _ _ (aV bI) (aB 4) aD) aD (am _)) (@aP _ _ _ (@ag _ _ 2 _ _ _ _ fY.nd rfl (Or.inl rfl) (aY (aE (aB 5) (aE (aB 2) (aE (aB 6) aF rfl) rfl) rfl)) (by rfl) (by walk_at "f"))) (@aP _ _ _ (@ag _ _ 2 _ _ _ _ fY.nd rfl (Or.inl rfl) (aY (aE (aB 5) (aE (aB 6) (aE (aB 2) aF rfl) rfl) rfl)) (by rfl) (by walk_at "f")))))))))) (@aP _ _ _ (@aa _ _ _ _ (aB 2)))))),?_];have b5:=cy (c / 5) ((2:Int) ^ (48:Int).toNat) pos48;rw[pw48] at b5;refine#[_,rfl,_,_,rfl,rfl,#[by decide,by decide],_,_,rfl,rfl,#[by decide,by decide,by decide],_,_,rfl,rfl,pos48,aw,λa0 k0=>?_];refine#[λσ' G=>∃tr v,σ'=[some (.int c),some (.ref bl),some v,none,none,none,none]/\aC H G/\RAt G tr v/\fR 0 tr,?_,?_]
   . refine#[_,rfl,_,_,rfl,rfl,(show(0:Int)<5 by decide),_,_,rfl,rfl,_,rfl,?_];by_cases h5:c%5 > 0
     . obtain⟨b,e1,e2,e3⟩:=qW hbs (c / 5);refine aU (HK h5) #[_,rfl,_,rfl,_,_,rfl,rfl,#[by decide,by decide],_,rfl,bl,_,rfl,.inl ((aC.new k0).seq hB),_,_,rfl,rfl,e1,bl,_,_,_,rfl,rfl,(aC.new k0).seq hB,e2,aw,λa1 k1=>#[.box b,_,rfl,(aC.new k0).trans (aC.new k1),#[a1,rfl,aL],tJ e3]]
     . exact ak (by rw[Ia]; exact h5) #[.num (c / 5%(2:Int) ^ (48:Int).toNat),_,rfl,aC.new k0,#[a0,rfl,aL],(by rw[pw48]; exact uV b5.1 b5.2)]
   rintro σ' G ⟨tr0,v0,rfl,s0,r0,t0⟩;have b3:=cy (c / 40) 3 (by decide);refine#[_,rfl,_,_,rfl,rfl,#[by decide,by decide],_,_,rfl,rfl,(show(0:Int)<3 by decide),_,rfl,by omega,by omega,(let Jv1:Nat->St->Hp->Prop:=λi σ H2=>∃tr v v3 v4 v5 v6,σ=[some (.int c),some (.ref bl),some v,v3,v4,v5,v6]/\aC H H2/\RAt H2 tr v/\fR i tr; gq (lo:=0) (n:=(c / 40%3).toNat) Jv1 #[tr0,v0,_,_,_,_,rfl,s0,r0,t0] ?_ ?_)]
   . rintro i σ H2 hi ⟨tr,v,v3,v4,v5,v6,rfl,s1,r1,t1⟩;refine#[_,rfl,aw,λL hL=>#[_,rfl,L,_,_,_,rfl,rfl,aK.of aL,EO (by omega) (by omega),?_]];generalize hf:(if(0+(i:Int))=0 then(48271:Int) else 69621)=fc;have hfc:fc=48271\/fc=69621:=by rw[<- hf]; split <;> simp
     refine#[_,_,rfl,rfl,.inr #[by omega,by omega],_,_,rfl,rfl,(show(0:Int)<2147483647 by decide),_,_,rfl,rfl,#[by decide,by decide],?_];have s2:=s1.trans (aC.new (o:=.lst [V.int 48271,V.int 69621]) hL);have r2:=r1.mono (aC.new (o:=.lst [V.int 48271,V.int 69621]) hL);generalize upd H2 L (.lst [V.int 48271,V.int 69621])=G2 at s2 r2 ⊢;obtain⟨ch,hch⟩:=sg_at (i:=c * fc%2147483647 / 3 / 2%9) (Iy _ (by decide)) (Ii _ (by decide));have oc:=one_char ch;refine#[_,rfl,_,_,rfl,rfl,#[by decide,by decide],_,_,rfl,rfl,(show(0:Int)<9 by decide),_,_,ch,rfl,rfl,sg_fit,hch,?_];obtain⟨b,e1,e2,e3⟩:=qW hbs (c * fc%2147483647 / 3 / 18);refine#[_,rfl,_,rfl,_,_,rfl,rfl,#[by decide,by decide],_,rfl,bl,_,rfl,.inl (s2.seq hB),_,_,rfl,rfl,e1,bl,_,_,_,rfl,rfl,s2.seq hB,e2,aw,λa2 k2=>?_];refine#[_,rfl,_,_,rfl,rfl,#[by decide,by decide],_,_,rfl,rfl,(show(0:Int)<4 by decide),rfl,_,rfl,?_];by_cases h4:c * fc%2147483647 / 3 / 144%4=0
     . have b9:=cy (c * fc%2147483647 / 3 / 576) 9 (by decide);refine aU (HK (Hb V.int h4)) #[_,rfl,_,_,rfl,rfl,#[by decide,by decide],_,_,rfl,rfl,(show(0:Int)<9 by decide),aw,λa3 k3=>?_];have s13:=(aC.new (o:=.tup [V.str "box",V.int b]) k2).trans (aC.new (o:=.tup [V.str "num",V.int (c * fc%2147483647 / 3 / 576%9)]) k3);have s3:=s2.trans s13;have r3:RAt (upd (upd G2 a2 (.tup [V.str "box",V.int b])) a3 (.tup [V.str "num",V.int (c * fc%2147483647 / 3 / 576%9)])) (.num (c * fc%2147483647 / 3 / 576%9)) (.ref a3):=#[a3,rfl,aL]
       have t3:fR i (.num (c * fc%2147483647 / 3 / 576%9)):=uV b9.1 (Int.lt_trans b9.2 (by decide));have r1:=r2;refine#[_,rfl,_,_,rfl,rfl,(show(0:Int)<2 by decide),rfl,_,rfl,?_];by_cases h2:c * fc%2147483647 / 3%2=0
       . refine aU (HK (Hb V.int h2)) #[_,rfl,_,rfl,_,rfl,cU,λa4 k4=>?_];exact#[.op #[(List.toArray [ch])] tr (.num (c * fc%2147483647 / 3 / 576%9)),_,_,_,_,_,rfl,s3.trans (aC.new k4),#[a4,_,_,rfl,aL,oc.1,oc.2,(r1.mono s13).mono (aC.new k4),r3.mono (aC.new k4)],m9 (iX hch) t1 t3]
       . refine ak (λz=>h2 (V.int.inj (bM z))) #[_,rfl,_,rfl,_,rfl,cU,λa4 k4=>?_];exact#[.op #[(List.toArray [ch])] (.num (c * fc%2147483647 / 3 / 576%9)) tr,_,_,_,_,_,rfl,s3.trans (aC.new k4),#[a4,_,_,rfl,aL,oc.1,oc.2,r3.mono (aC.new k4),(r1.mono s13).mono (aC.new k4)],m9 (iX hch) t3 t1]
     . have s13:=aC.new (o:=.tup [V.str "box",V.int b]) k2;have s3:=s2.trans s13;have r3:RAt (upd G2 a2 (.tup [V.str "box",V.int b])) (.box b) (.ref a2):=#[a2,rfl,aL]
       have t3:fR i (.box b):=tJ e3;have r1:=r2;refine ak (λz=>h4 (V.int.inj (bM z))) #[_,rfl,_,_,rfl,rfl,(show(0:Int)<2 by decide),rfl,_,rfl,?_];by_cases h2:c * fc%2147483647 / 3%2=0
       . refine aU (HK (Hb V.int h2)) #[_,rfl,_,rfl,_,rfl,cU,λa4 k4=>?_];exact#[.op #[(List.toArray [ch])] tr (.box b),_,_,_,_,_,rfl,s3.trans (aC.new k4),#[a4,_,_,rfl,aL,oc.1,oc.2,(r1.mono s13).mono (aC.new k4),r3.mono (aC.new k4)],m9 (iX hch) t1 t3]
       . refine ak (λz=>h2 (V.int.inj (bM z))) #[_,rfl,_,rfl,_,rfl,cU,λa4 k4=>?_];exact#[.op #[(List.toArray [ch])] (.box b) tr,_,_,_,_,_,rfl,s3.trans (aC.new k4),#[a4,_,_,rfl,aL,oc.1,oc.2,r3.mono (aC.new k4),(r1.mono s13).mono (aC.new k4)],m9 (iX hch) t3 t1]
   . rintro σ H2 ⟨tr,v,v3,v4,v5,v6,rfl,s1,r1,t1⟩;exact#[_,rfl,q tr v H2 s1 r1 (t1.ok (by omega))]
end
end K43
namespace K43
open PySem L2 K21 Rk2
section
variable {P:Program} {w:World} {K:W.Frag} {mg:Str->Option Value} {base:Heap} {t:Adr}
theorem kY:FnScope ["_law_one","_law_news_here","_law_left","_law_right"] ["_law_one","_law_news_here"] (bD nC):=by walk_at "s"
theorem oM (T:Txt K mg t):∀n,FnOk P w K mg base CX0 (n+2) t.kG t.kH ["_law_one","_law_news_here"] (mD K n)
| 0=>T.j8.F.ok kY (λvs H Q E h=>by obtain⟨tr,v,d,kvs,g,rfl,hd,hR,hD,nv,ok,og,q⟩:=h; exact absurd hd (IJ _)) (λcdv A outer s H vs Q E hr h=>by obtain⟨tr,v,d,kvs,g,rfl,hd,hR,hD,nv,ok,og,q⟩:=h; exact absurd hd (IJ _))
| n+1=>by
 have Qg:FnOk P w K mg base CX0 (n+2) t.kG t.kH ["_law_one","_law_news_here"] (mD K n):=oM T n;have Qp:=wZ (P:=P) (w:=w) (base:=base) T;refine T.j8.F.ok kY (λvs H Q E h=>?_) (λcdv A outer s H vs Q E hr h=>?_)
 . obtain⟨tr,v,d,kvs,g,rfl,hd,hR,hD,nv,ok,og,q⟩:=h;rfl
 . obtain⟨tr,v,d,kvs,g,rfl,hd,hR,hD,nv,ok,og,q⟩:=h;refine#[_,(aM (ao (au bE (aI (show aJ _ (aR K) from aS) (aB 0) aD (λ_ _=>rfl)) aQ (am _)) (@aP _ _ _ (@aa _ _ _ _ (oP (cO hr.units) (aB 1) (aI (show aJ _ (aR K) from aS) (aB 0) aD (λ_ _=>rfl)) (aB 0) #[rfl,rfl,rfl,rfl]))) al) (aM (ao (au bE (aI (show aJ _ (aR K) from aS) (aB 0) aD (λ_ _=>rfl)) aQ (am _)) (@aP _ _ _ (@aa _ _ _ _ (aB 0))) al) (aM (@ag _ _ 2 _ _ _ _ kY.nd rfl (Or.inl rfl) (bC T.j8 Qg (hr.mono (by omega)) (aE (aI (show aJ _ (aR K) from aS) (aB 0) aD (λ_ _=>rfl)) (aE (aB 1) aF rfl) rfl)) (by rfl) (by walk_at "f")) (aM (@ag _ _ 3 _ _ _ _ kY.nd rfl (Or.inl rfl) (bC T.j8 Qg (hr.mono (by omega)) (aE (aI (show aJ _ (aR K) from aS) (aB 0) aD (λ_ _=>rfl)) (aE (aB 1) aF rfl) rfl)) (by rfl) (by walk_at "f")) (aM (ao (@PW.pt _ _ _ (dA (au bE (aI (show aJ _ (aR K) from aS) (aB 2) aD (λ_ _=>rfl)) aQ (am _)) (dJ (au bE (aI (show aJ _ (aR K) from aS) (aB 3) aD (λ_ _=>rfl)) aQ (am _))))) (@aP _ _ _ (@aa _ _ _ _ (aY (aE aQ (aE (bC T.qu Qp (hr.mono (by omega)) (aE (aI (show aJ _ (aR K) from aS) (aB 0) aD (λ_ _=>rfl)) (aE (aI (show aJ _ (aR K) from aS) (aB 2) aD (λ_ _=>rfl)) (aE (aI (show aJ _ (aR K) from aS) (aB 3) aD (λ_ _=>rfl)) aF rfl) rfl) rfl)) aF rfl) rfl)))) al) (@aP _ _ _ (@aa _ _ _ _ (aY (aE (aI (show aJ _ (aR K) from aS) (aB 0) aD (λ_ _=>rfl)) (aE (aB 2) (aE (aB 3) aF rfl) rfl) rfl))))))))),?_];cases tr with
   | box k =>
     have hR':=hR;obtain⟨p,rfl,e⟩:=hR;refine#[_,rfl,p,_,_,_,rfl,rfl,aG.of e,ai,rfl,_,rfl,aU (HK rfl) ?_];refine#[_,rfl,d,rfl,.inl #[kvs,.inl hD],_,rfl,p,_,_,_,rfl,rfl,aG.of e,rfl,_,rfl,_,cz.k (k:=Sum.inl k) hD,q _ _ (aC.refl _) ?_];show RAt H ((g k).getD (.box k)) _;cases eg:g k with
     | none=>rw[nv.no eg]; exact hR'
     | some t =>
       obtain⟨x,h1,h2⟩:=nv.yes eg;rw[h1];exact h2
   | num k =>
     have hR':=hR;obtain⟨p,rfl,e⟩:=hR;refine#[_,rfl,p,_,_,_,rfl,rfl,aG.of e,ai,rfl,_,rfl,ak (λz=>t9 (V.str.inj (bM z))) ?_];exact#[_,rfl,p,_,_,_,rfl,rfl,aG.of e,ai,rfl,_,rfl,aU (HK rfl) #[_,rfl,q _ _ (aC.refl _) hR']]
   | op s l r =>
     obtain⟨p,x,y,rfl,e,n1,n2,hx,hy⟩:=hR;have d1:dp l<n:=by have:max (dp l) (dp r)+1<n+1:=hd; omega
     have d2:dp r<n:=by have:max (dp l) (dp r)+1<n+1:=hd; omega
     obtain⟨o1,o2⟩:=mS ok;refine#[_,rfl,p,_,_,_,rfl,rfl,aG.of e,ai,rfl,_,rfl,ak (λz=>n1 (V.str.inj (bM z))) ?_];refine#[_,rfl,p,_,_,_,rfl,rfl,aG.of e,ai,rfl,_,rfl,ak (λz=>n2 (V.str.inj (bM z))) ?_];refine#[_,rfl,p,_,_,_,rfl,rfl,aG.of e,rfl,_,rfl,l,x,d,kvs,g,rfl,d1,hx,hD,nv,o1,og,λv1 H1 s1 r1=>?_];refine#[_,rfl,p,_,_,_,rfl,rfl,aG.of (s1 _ _ e),rfl,_,rfl,r,y,d,kvs,g,rfl,d2,hy.mono s1,s1 _ _ hD,nv.mono s1,o2,og,λv2 H2 s2 r2=>?_];have s12:=s1.trans s2;have r1':=r1.mono s2;obtain⟨pl,hd1,rest1,rfl,el,a1,a2⟩:=r1'.head;obtain⟨pr,hd2,rest2,rfl,er,b1,b2⟩:=r2.head;refine#[_,rfl,pl,_,_,_,rfl,rfl,aG.of el,ai,rfl,_,rfl,?_];have fin:∀c H3,H3 c=some (.tup [.str s,.ref pl,.ref pr])->aC H2 H3->((∀k,pt g l≠.num k)\/∀k,pt g r≠.num k)->RAt H3 (pt g (.op s l r)) (.ref c):=λc H3 hc s3 hn=>by show RAt H3 (tog s (pt g l) (pt g r)) (.ref c);rw[tog_op hn];exact#[c,_,_,rfl,hc,n1,n2,r1'.mono s3,r2.mono s3]
     by_cases m1:hd1="num"
     . refine aU (HK (Hb V.str m1)) #[_,rfl,pr,_,_,_,rfl,rfl,aG.of er,ai,rfl,_,rfl,?_];by_cases m2:hd2="num"
       . obtain⟨k1,z1,y1⟩:=a1 m1;obtain⟨k2,z2,y2⟩:=b1 m2;subst y1;subst y2;have w1:=okl_num (by have:=j4 og o1; rw[z1] at this; exact this);have w2:=okl_num (by have:=j4 og o2; rw[z2] at this; exact this);refine aU (HK (Hb V.str m2)) #[_,rfl,p,_,_,_,rfl,rfl,aG.of (s12 _ _ e),ai,_,rfl,pl,_,_,_,rfl,rfl,aG.of el,rfl,_,rfl,pr,_,_,_,rfl,rfl,aG.of er,rfl,s,k1,k2,rfl,w1.1,w2.1,w1.2,w2.2,aw,λc hc=>q _ _ (s12.trans (aC.new hc)) ?_];show RAt _ (tog s (pt g l) (pt g r)) _;rw[z1,z2];exact#[c,rfl,aL]
       . refine ak (λz=>m2 (V.str.inj (bM z))) #[_,rfl,p,_,_,_,rfl,rfl,aG.of (s12 _ _ e),ai,_,rfl,_,rfl,cU,λc hc=>q _ _ (s12.trans (aC.new hc)) (fin c _ aL (aC.new hc) (.inr (b2 m2)))]
     . refine ak (λz=>m1 (V.str.inj (bM z))) (iW #[_,rfl,p,_,_,_,rfl,rfl,aG.of (s12 _ _ e),ai,_,rfl,_,rfl,cU,λc hc=>q _ _ (s12.trans (aC.new hc)) (fin c _ aL (aC.new hc) (.inl (a2 m1)))])
end
end K43
namespace K43
open PySem L2 Gx Fl Bg Wk St
section
variable {P:Program} {w:World} {K:W.Frag} {mg:Str->Option Value} {base:Heap} {t:Adr}
theorem mO:FnScope ["_law_cell","_law_size","_law_boxes","_law_calm","_law_view_here","_law_k","_law_number"] ["_law_cell","_law_size","_law_boxes","_law_calm"] (bD na):=by walk_at "s"
theorem GZ (T:Txt K mg t):FnOk P w K mg base CX0 2 t.xS t.ya ["_law_cell","_law_size","_law_boxes","_law_calm"] (Ax K):=by
 have Qc:=mJ (P:=P) (w:=w) (base:=base) T;refine T.qv.F.ok mO (λvs H Q E h=>?_) (λcdv A outer s H vs Q E hr h=>?_)
 . obtain⟨c,sz,bl,bs,cm,rfl,hz,hB,hbs,hc,q⟩:=h;rfl
 . obtain⟨c,sz,bl,bs,cm,rfl,hz,hB,hbs,hc,q⟩:=h;refine#[_,(aM (@ag _ _ 4 _ _ _ _ mO.nd rfl (Or.inl rfl) (bj aF) (by rfl) (by walk_at "f")) (aM (cj PassesOwn.never rfl (g8 rfl T.b_range (aE (aB 1) aF rfl)) (bS (i:=5) mO.nd rfl (Or.inl rfl)) (aM (@ag _ _ 6 _ _ _ _ mO.nd rfl (Or.inl rfl) (@aN _ _ _ _ _ _ _ _ (aV bv) (@aN _ _ _ _ _ _ _ _ (aV bI) (@aN _ _ _ _ _ _ _ _ (aV dm) (aB 0) (@aN _ _ _ _ _ _ _ _ (bf cM) aD (@aN _ _ _ _ _ _ _ _ (aV dm) aD (aB 5)))) aD) aD) (by rfl) (by walk_at "f")) (aM (@ee _ _ _ _ (dU Hs Hy Hz iS (aB 4) (aE (bC T.kI Qc (hr.mono (by decide)) (aE (@aN _ _ _ _ _ _ _ _ (aV bv) (aB 6) aD) (aE (aB 2) aF rfl) rfl)) aF rfl)) (by rfl)) (@aP _ _ _ (ao (au bE (@aN _ _ _ _ _ _ _ _ (aV bI) (aB 6) (@aN _ _ _ _ _ _ _ _ (bf cM) aD (@aN _ _ _ _ _ _ _ _ (aV dm) aD (aB 3)))) aD (am _)) (@aP _ _ _ (eE dX (fS (aB 4) (cq cn aD) fC))) al))))) (@aP _ _ _ (@aa _ _ _ _ (aB 4))))),?_];refine#[dh,λl hlH=>?_];refine#[_,rfl,_,rfl,by omega,by omega,(let Jv1:Nat->St->Hp->Prop:=λi σ H2=>∃v5 v6 us view,σ=[some (.int c),some (.int sz),some (.ref bl),some (.int cm),some (.ref l),v5,v6]/\aC H H2/\H2 l=some (.lst us)/\Rk2.Ps (aX H2) us view/\view.length=i/\fG view; gq (lo:=0) (n:=sz) Jv1 #[_,_,[],[],rfl,aC.new hlH,aL,trivial,rfl,λt h=>by cases h] ?_ ?_)]
   . rintro i σ H2 hi ⟨v5,v6,us,view,rfl,s2,e2,p2,vl,vo⟩;refine#[_,rfl,_,rfl,_,_,rfl,rfl,.inl #[by decide,by decide],_,_,rfl,rfl,_,_,rfl,rfl,.inr #[by omega,by omega],_,_,rfl,rfl,(show(0:Int)<2147483647 by decide),_,_,rfl,rfl,#[by decide,by decide],?_];generalize c * (48271+2 * (0+(i:Int)))%2147483647 / 3=n6;refine#[_,rfl,.inl #[rfl,_,aK.of e2],_,rfl,_,_,rfl,rfl,#[by decide,by decide],_,rfl,_,bl,bs,rfl,s2.seq hB,hbs,λtr v H3 s3 r3 t3=>?_];have e3:=s3 _ _ e2;refine#[l,_,_,rfl,rfl,e3,Rk2.lt_line' (by rw[Rk2.Ps.len p2]; omega),?_];have s03:=s2.trans s3;refine#[_,rfl,_,rfl,_,_,rfl,rfl,.inl #[by decide,by decide],_,_,rfl,rfl,_,_,rfl,rfl,(by show(0:Int)<4+4 * cm; omega),rfl,_,rfl,?_];by_cases h4:n6%(4+4 * cm)=0
     . refine aU (HK (Hb V.int h4)) #[_,rfl,_,rfl,l,_,_,_,rfl,rfl,aL,Eb _ _,_,_,us++[.non],view++[none],rfl,(s03.upd hlH).upd hlH,(by rw[DU]; exact aL),Rk2.Ps.imp (λ_ _ z=>aX.lst aL (aX.lst e3 z)) (Rk2.Ps.app (Rk2.Ps.imp (λ_ _ z=>aX.mono z s3) p2) #[(show aX H3 none .non from rfl),trivial]),(by rw[HU,vl]; rfl),λt ht=>(Hg.mp ht).elim (vo t) λht=>by cases HY.mp ht]
     . exact ak (λz=>h4 (V.int.inj (bM z))) #[_,_,us++[v],view++[some tr],rfl,s03.upd hlH,aL,Rk2.Ps.imp (λ_ _ z=>aX.lst e3 z) (Rk2.Ps.app (Rk2.Ps.imp (λ_ _ z=>aX.mono z s3) p2) #[r3,trivial]),(by rw[HU,vl]; rfl),λt ht=>(Hg.mp ht).elim (vo t) λht=>by cases HY.mp ht; exact St.TOk.tr9 t3]
   . rintro σ H2 ⟨v5,v6,us,view,rfl,s2,e2,p2,vl,vo⟩;exact#[_,rfl,q l us view H2 s2 hlH e2 p2 #[vl,vo]]
theorem i3:FnScope ["_law_cell","_law_known","_law_boxes","_law_sets_here","_law_told","_law_k","_law_number","_law_one"] ["_law_cell","_law_known","_law_boxes"] (bD mF):=by walk_at "s"
theorem Eh (T:Txt K mg t):FnOk P w K mg base CX0 2 t.xO t.yW ["_law_cell","_law_known","_law_boxes"] (FZ K):=by
 have Qc:=mJ (P:=P) (w:=w) (base:=base) T;refine T.zA.F.ok i3 (λvs H Q E h=>?_) (λcdv A outer s H vs Q E hr h=>?_)
 . obtain⟨c,kl,bl,us,ko,bs,rfl,hk,hu,hok,hlen,hB,hbs,q⟩:=h;rfl
 . skip
   refine lx ?_;intro XX;refine(let W2_2:TS:=_; have hW2_2:bV XX ((sB ((bU mF).getD 2 (.Pass ⟨0,0,0,0⟩))).drop 2) W2_2:=(cr (ao (@PW.pt _ _ _ (dA (au (bf kT) (@aN _ _ _ _ _ _ _ _ (aV bI) (aB 6) aD) aD (am _)) (dJ (au (gI hr.units) (aB 4) (bj aF) (am _))))) (@aP _ _ _ (@ag _ _ 7 _ _ _ _ i3.nd rfl (Or.inl rfl) (aI (show aJ _ (ae K) from af) (aB 4) (@aN _ _ _ _ _ _ _ _ (aV bI) (@aN _ _ _ _ _ _ _ _ (aV bv) (aB 6) aD) (cP (show bx _ (.builtin "len") (cb K) from ck) (by rfl) T.b_len cW (aE (aB 4) aF rfl))) (λ_ _=>rfl)) (by rfl) (by walk_at "f"))) al) (@aP _ _ _ (ao (au (gI hr.units) (aB 7) (aY (aE aQ (aE (cq cn aD) aF rfl) rfl)) (am _)) (@aP _ _ _ (@ee _ _ _ _ (dU Hs Hy Hz iS (aB 3) (aE (aY (aE (aI (show aJ _ (ae K) from af) (aB 2) (@aN _ _ _ _ _ _ _ _ (aV bI) (@aN _ _ _ _ _ _ _ _ (bf cM) (@aN _ _ _ _ _ _ _ _ (aV bv) (aB 0) aD) (@aN _ _ _ _ _ _ _ _ (aV dm) aD (aB 5))) aD) (λ_ _=>rfl)) (aE (aB 7) aF rfl) rfl)) aF rfl)) (by rfl))) al))); ?_);obtain⟨c,kl,bl,us,ko,bs,rfl,hk,hu,hok,hlen,hB,hbs,q⟩:=h;refine#[_,(aM (@ag _ _ 3 _ _ _ _ i3.nd rfl (Or.inl rfl) (bj aF) (by rfl) (by walk_at "f")) (aM (lE (i:=4) i3.nd rfl (Or.inl rfl) (N':=["_law_one"]) (js:=[none]) (by kernel_rfl) rfl (gG (aB 1)) fP (λ_ _ _ _=>(bS (i:=0) (show(["_law_one"]:List Str).Nodup by decide +kernel) rfl (Or.inl rfl) (.inr rfl))) (λ_ _ _ _=>(wW (dG (fZ (aB 0))))) (λ_ _ _ _=>(aB 0)) (by rfl)) (aM (cj PassesOwn.never rfl (g8 rfl T.b_range (aE (@aN _ _ _ _ _ _ _ _ (aV bI) (aB 0) aD) aF rfl)) (bS (i:=5) i3.nd rfl (Or.inl rfl)) (aM (@ag _ _ 6 _ _ _ _ i3.nd rfl (Or.inl rfl) (@aN _ _ _ _ _ _ _ _ (aV bv) (@aN _ _ _ _ _ _ _ _ (aV bI) (@aN _ _ _ _ _ _ _ _ (aV dm) (aB 0) (@aN _ _ _ _ _ _ _ _ (bf cM) aD (@aN _ _ _ _ _ _ _ _ (aV dm) aD (aB 5)))) aD) aD) (by rfl) (by walk_at "f")) (aM (@ag _ _ 7 _ _ _ _ i3.nd rfl (Or.inl rfl) (bC T.kI Qc (hr.mono (by decide)) (aE (@aN _ _ _ _ _ _ _ _ (aV bv) (aB 6) aD) (aE (aB 2) aF rfl) rfl)) (by rfl) (by walk_at "f")) hW2_2))) (@aP _ _ _ (@aa _ _ _ _ (aB 3)))))),?_];have lu:=Rk2.Ps.len hu;refine#[dh,λl hlH=>?_];have s0:=aC.new (o:=.lst []) hlH;have e0:upd H l (.lst []) l=some (.lst []):=aL;generalize upd H l (.lst [])=H0 at s0 e0 ⊢;refine#[_,rfl,kl,rfl,#[_,s0.seq hk],λpT hpT=>(let Jv1:Nat->List V->Hp->Prop:=λi acc H2=>aC H0 H2/\H2 pT=some (.lst acc)/\acc.length<=i/\∃ko',Rk2.Ps (aX (ers pT H2)) acc ko'/\(∀o∈ko',∃t,o=some t/\bp t); km (xs:=us) (by omega) Jv1 #[aC.new hpT,aL,HN _,[],trivial,λo h=>by cases h] ?_ ?_ ?_)]
   . rintro i acc H2 hi ⟨s2,e2,l2,_⟩;exact#[e2,l2,(s0.trans s2).seq hk]
   . rintro i y acc H2 hy ⟨s2,e2,l2,ko',p2,k2⟩;obtain⟨u,o,a1,a2,a3⟩:=Rk2.Ps.at hu (n:=i) (by have:=(HL.mp hy).1; omega);rw[hy] at a1;cases a1;have oo:=hok o (HP a2);cases o with
     | none =>
       cases a3;exact#[_,rfl,_,rfl,jN #[s2,e2,by omega,ko',p2,k2]]
     | some tr =>
       have a4:aX (ers pT H2) (some tr) y:=aX.mono a3 (g9 (s0.trans s2) (s0.free hpT));refine#[_,rfl,_,rfl,aU (by obtain⟨p,rfl⟩:=fh a3; rfl) #[_,rfl,e2,s2.upd hpT,aL,(by rw[HU]; simp; omega),ko'++[some tr],?_,λo ho=>(Hg.mp ho).elim (k2 o) λho=>#[tr,HY.mp ho,oo tr rfl]]];rw[gg];exact Rk2.Ps.app p2 #[a4,trivial]
   rintro acc H1 ⟨s1,e1,l1,ko',p1,k1⟩;have p1:Rk2.Ps (aX H1) acc ko':=Rk2.Ps.imp (λ_ _ z=>aX.mono z dH) p1;have s01:=s0.trans s1;have b4:=cy c 4 (by decide);have ko1:bo ko':=λo ho=>by obtain⟨t,rfl,h⟩:=k1 o ho; exact .of h
   refine#[_,rfl,_,_,rfl,rfl,(show(0:Int)<4 by decide),_,rfl,by omega,by omega,(let Jv2:Nat->St->Hp->Prop:=λi σ H2=>∃v5 v6 v7 xs ps,σ=[some (.int c),some (.ref kl),some (.ref bl),some (.ref l),some (.ref pT),v5,v6,v7]/\aC (ers l H1) H2/\H2 l=some (.lst xs)/\Rk2.Ps (fX K (ers l H2)) xs ps/\ps.length<=i/\∀b∈ps,bp b.2; gq (lo:=0) (n:=(c%4).toNat) Jv2 #[_,_,_,[],[],rfl,dH,s1 _ _ e0,trivial,HN _,λb h=>by cases h] ?_ ?_)]
   . rintro i σ H2 hi ⟨v5,v6,v7,xs,ps,rfl,s2,e2,p2,l2,o2⟩;have z1:aC H (ers l H1):=g9 s01 hlH;have z2:=z1.trans s2;have nl:pT≠l:=λz=>by rw[z,e0] at hpT; cases hpT
     have eT:ers l H1 pT=some (.lst acc):=by rw[c9 nl]; exact e1
     have pT1:Rk2.Ps (aX (ers l H1)) acc ko':=Rk2.Ps.imp (λ_ _ z=>m8 (s1 _ _ e0) z) p1;refine#[_,rfl,_,rfl,_,_,rfl,rfl,.inl #[by decide,by decide],_,_,rfl,rfl,_,_,rfl,rfl,.inr #[by omega,by omega],_,_,rfl,rfl,(show(0:Int)<2147483587 by decide),_,_,rfl,rfl,#[by decide,by decide],?_];generalize c * (39373+2 * (0+(i:Int)))%2147483587 / 3=n6;refine#[_,rfl,_,_,rfl,rfl,#[by decide,by decide],_,rfl,_,bl,bs,rfl,z2.seq hB,hbs,λtr v H3 s3 r3 t3=>?_];have s13:=s2.trans s3;refine#[λσ' G=>∃tr v,σ'=[some (.int c),some (.ref kl),some (.ref bl),some (.ref l),some (.ref pT),some (.int (0+(i:Int))),some (.int n6),some v]/\aC H3 G/\Rk2.RAt G tr v/\bp tr,?_,?_]
     . refine#[_,rfl,_,_,rfl,rfl,(show(0:Int)<4 by decide),_,_,rfl,rfl,_,rfl,?_];by_cases h4:n6%4 > 0
       . refine aU (HK h4) #[_,rfl,dh,λq0 hq0=>?_];have s4:=aC.new (o:=.lst []) hq0;have s14:=s13.trans s4;refine Ar (ko:=ko') (aK.of (s14 _ _ eT)) (Rk2.Ps.imp (λ_ _ z=>aX.mono z s14) pT1) ko1 (aK.of aL) #[_,rfl,?_];by_cases hn:acc=[]
         . rw[HK hn];exact jN #[tr,v,rfl,s4,r3.mono s4,St.TOk.tr t3]
         . rw[Hd hn];obtain⟨u,o,m1,m2,m3,m4⟩:=As (us:=acc) (List.length_pos_iff.mpr hn) (Rk2.Ps.imp (λ_ _ z=>aX.mono z s14) pT1) (n6 / 4);obtain⟨t,rfl,tk⟩:=k1 o m3;exact aU rfl #[_,rfl,_,rfl,_,_,rfl,rfl,#[by decide,by decide],_,rfl,pT,_,rfl,.inl (aK.of (s14 _ _ eT)),_,_,rfl,rfl,m1,pT,_,_,_,rfl,rfl,aK.of (s14 _ _ eT),m2,t,u,rfl,s4,m4,tk]
       . exact ak (λz=>h4 (Iq z)) (jN #[tr,v,rfl,aC.refl _,r3,St.TOk.tr t3])
     . rintro σ' G ⟨t,u,rfl,s4,r4,t4⟩;refine#[_,rfl,_,rfl,aw,λq1 hq1=>?_];have s5:=s4.trans (aC.new (o:=.tup [V.str "box",V.int (-1)]) hq1);refine An t4 (r4.mono (aC.new hq1)) aL #[_,rfl,?_];have sF:=s13.trans s5;have eF:=(s3.trans s5) _ _ e2;have pF:Rk2.Ps (fX K (ers l (upd G q1 (.tup [V.str "box",V.int (-1)])))) xs ps:=Rk2.Ps.imp (λ_ _ z=>z.mono (aC.ers (s3.trans s5))) p2;have r5:=r4.mono (aC.new (o:=.tup [V.str "box",V.int (-1)]) hq1);generalize upd G q1 (.tup [V.str "box",V.int (-1)])=H5 at sF eF pF r5 ⊢;by_cases hb:t=.box (-1)
       . rw[HK hb];exact jN #[_,_,_,xs,ps,rfl,sF,eF,pF,by omega,o2]
       . rw[Hd hb];obtain⟨b,m1,m2,m3⟩:=uk hbs (c / 4+3 * (0+(i:Int)));have zF:=z1.trans sF;refine aU rfl #[_,rfl,.inl #[rfl,_,aK.of eF],_,rfl,_,rfl,_,_,rfl,rfl,#[by decide,by decide],_,rfl,_,_,rfl,rfl,.inl #[by decide,by decide],_,_,rfl,rfl,_,_,rfl,rfl,(show(0:Int)<8 by decide),bl,_,_,_,rfl,rfl,zF.seq hB,m1,_,rfl,aw,λq2 hq2=>?_];have s6:=aC.new (o:=.tup [V.int b,u]) hq2;have nq:q2≠l:=λz=>by rw[z,eF] at hq2; cases hq2
         refine#[l,_,_,rfl,rfl,s6 _ _ eF,Rk2.lt_line' (by rw[Rk2.Ps.len pF]; omega),_,_,_,xs++[.ref q2],ps++[(b,t)],rfl,?_,aL,?_,(by rw[HU]; simp; omega),λx hx=>(Hg.mp hx).elim (o2 x) λhx=>by cases HY.mp hx; exact t4]
         . exact(sF.trans s6).upd (by unfold ers; rw[HR rfl])
         . rw[gg];exact Rk2.Ps.app (Rk2.Ps.imp (λ_ _ z=>z.mono (aC.ers s6)) pF) #[#[q2,u,rfl,aG.of (by rw[c9 nq]; exact aL),lP (s6 _ _ eF) (r5.mono s6)],trivial]
   . rintro σ H2 ⟨v5,v6,v7,xs,ps,rfl,s2,e2,p2,l2,o2⟩;exact#[_,rfl,q l xs ps H2 ((g9 s01 hlH).trans s2) hlH e2 (Rk2.Ps.imp (λ_ _ z=>z.mono dH) p2) (by omega) o2]
theorem lq:FnScope ["_law_sets_here","_law_box","_law_news_here","_law_there","_law_one"] ["_law_sets_here","_law_box"] (bD nK):=by walk_at "s"
theorem CM (T:Txt K mg t):FnOk P w K mg base CX0 1 t.xK t.yS ["_law_sets_here","_law_box"] (Ew K):=by
 refine T.yx.F.ok lq (λvs H Q E h=>?_) (λcdv A outer s H vs Q E hr h=>?_)
 . obtain⟨l,xs,ps,rfl,hl,hx,hp,q⟩:=h;rfl
 . obtain⟨l,xs,ps,rfl,hl,hx,hp,q⟩:=h;refine#[_,(aM (@ag _ _ 2 _ _ _ _ lq.nd rfl (Or.inl rfl) g7 (by rfl) (by walk_at "f")) (aM (cj PassesOwn.never rfl (gG (aB 0)) (dn rfl (c7 (bS (i:=3) lq.nd rfl (Or.inl rfl)) (c7 (bS (i:=4) lq.nd rfl (Or.inl rfl)) di))) (@aP _ _ _ (eQ (cO hr.units) (aB 2) (aB 3) (aB 4) (by rfl)))) (aM (ao (dG (fZ (aB 1))) (@aP _ _ _ (eQ (cO hr.units) (aB 2) (aB 1) (aY (aE aQ (aE (cq cn aD) aF rfl) rfl)) (by rfl))) al) (@aP _ _ _ (@aa _ _ _ _ (aB 2)))))),?_];have lx:=Rk2.Ps.len hx;refine λd hd=>#[_,rfl,l,rfl,#[_,(aC.new hd).seq hl],(let Jv1:Nat->St->Hp->Prop:=λi σ H2=>∃v3 v4 kvs,σ=[some (.ref l),some .non,some (.ref d),v3,v4]/\aC H H2/\H2 d=some (.dK kvs)/\kvs.length<=i/\Rk2.NV H2 kvs ((ps.take i).foldl (λg b=>Rk2.setG g b.1 b.2) λ_=>none); pj (xs:=xs) Jv1 #[_,_,[],rfl,aC.new hd,aL,HN _,λ_=>rfl] ?_ ?_ ?_)]
   . rintro i σ H2 hi ⟨v3,v4,kvs,rfl,s2,e2,l2,n2⟩;exact s2.seq hl
   . rintro i y σ H2 hy ⟨v3,v4,kvs,rfl,s2,e2,l2,n2⟩;have iw:i<xs.length:=(HL.mp hy).1;obtain⟨u,b,a1,a2,p,x,rfl,hpx,hrx⟩:=Rk2.Ps.at hx (n:=i) (by omega);rw[hy] at a1;cases a1;refine#[p,_,rfl,s2.tup hpx,rfl,_,_,rfl,_,_,rfl,rfl,_,rfl,_,rfl,_,rfl,d,_,rfl,dj.k (k:=(Sum.inl b.1:aO)) e2 (Rk2.lt_line' (n:=kvs.length) (by omega)),_,_,_,rfl,s2.upd hd,aL,?_,?_]
     . have:=Rk2.putK_len kvs (Sum.inl b.1:aO) x; omega
     . rw[show ps.take (i+1)=ps.take i++[b] by rw[List.take_succ,a2]; rfl,ID];exact(n2.put (hrx.mono s2)).upd e2 Rk2.no_dk
   . rintro σ H2 ⟨v3,v4,kvs,rfl,s2,e2,l2,n2⟩;rw[lx,IB] at n2;exact#[_,rfl,_,rfl,jN #[_,rfl,q d kvs H2 s2 hd e2 n2]]
theorem Bl:FnScope ["_law_one"] ["_law_one"] (bD qP):=by walk_at "s"
theorem sU (T:Txt K mg t):FnOk P w K mg base CX0 1 t.xQ t.yY ["_law_one"] (Cy K):=by
 refine T.qt.F.ok Bl (λvs H Q E h=>?_) (λcdv A outer s H vs Q E hr h=>?_)
 . obtain⟨o,v,rfl,hv,ho,q⟩:=h;rfl
 . obtain⟨o,v,rfl,hv,ho,q⟩:=h;refine#[_,(aM (ao (@PW.pt _ _ _ (dA (dG (fZ (aB 0))) (dJ (au bE (cP (show bx _ (.builtin "len") (cb K) from ck) (by rfl) T.b_len cW (aE (aB 0) aF rfl)) aD (am _))))) (@aP _ _ _ (@aa _ _ _ _ (aY (aE (aI (show aJ _ (aR K) from aS) (aB 0) aD (λ_ _=>rfl)) (aE (aI (show aJ _ (aR K) from aS) (aB 0) aD (λ_ _=>rfl)) (aE (aI (show aJ _ (aR K) from aS) (aB 0) aD (λ_ _=>rfl)) aF rfl) rfl) rfl)))) al) (@aP _ _ _ (@aa _ _ _ _ (aB 0)))),?_];cases o with
   | none =>
     cases hv;exact#[_,rfl,_,rfl,jN (jN #[_,rfl,q none .non H (aC.refl _) rfl cc.no (λ_=>rfl) (λu e=>by cases e)])]
   | some tr =>
     have hv':=hv;cases tr with
     | op s_ l r =>
       obtain⟨p,x,y,rfl,e,n1,n2,hx,hy⟩:=hv;refine#[_,rfl,_,rfl,aU rfl #[_,rfl,p,_,rfl,.inr (aG.of e),rfl,_,rfl,aU (by rfl) ?_]];have ok:=ho _ rfl;refine#[_,rfl,p,_,_,_,rfl,rfl,aG.of e,ai,_,rfl,p,_,_,_,rfl,rfl,aG.of e,rfl,_,rfl,p,_,_,_,rfl,rfl,aG.of e,rfl,cU,λz hz=>q (some (.op s_ r l)) _ _ (aC.new hz) #[z,y,x,rfl,aL,n1,n2,hy.mono (aC.new hz),hx.mono (aC.new hz)] (.of #[λv hv=>ok.1 v (Hg.mpr (Hg.mp hv).symm),#[ok.2.1.1,ok.2.1.2.2,ok.2.1.2.1],?_]) (λe=>by cases e) λu _=>#[_,rfl]];have:max (Rk2.dp l) (Rk2.dp r)+1<10:=ok.2.2;show max (Rk2.dp r) (Rk2.dp l)+1<10;omega
     | box k =>
       obtain⟨p,rfl,e⟩:=hv;exact#[_,rfl,_,rfl,aU rfl #[_,rfl,p,_,rfl,.inr (aG.of e),rfl,_,rfl,ak (show ¬ decide (V.int 2=V.int 3)=true by decide) #[_,rfl,q _ _ H (aC.refl _) hv' ho (λe=>by cases e) λu _=>#[_,rfl]]]]
     | num k =>
       obtain⟨p,rfl,e⟩:=hv;exact#[_,rfl,_,rfl,aU rfl #[_,rfl,p,_,rfl,.inr (aG.of e),rfl,_,rfl,ak (show ¬ decide (V.int 2=V.int 3)=true by decide) #[_,rfl,q _ _ H (aC.refl _) hv' ho (λe=>by cases e) λu _=>#[_,rfl]]]]
theorem et:FnScope ["_law_cell","_law_known","_law_news_here","_law_boxes","_law_calm","_law_view_here","_law_k","_law_number","_law_one","_law_box"] ["_law_cell","_law_known","_law_news_here","_law_boxes","_law_calm"] (bD jW):=by walk_at "s"
theorem EG (T:Txt K mg t):FnOk P w K mg base CX0 14 t.xH t.yP ["_law_cell","_law_known","_law_news_here","_law_boxes","_law_calm"] (zx K):=by
 have Qc:=mJ (P:=P) (w:=w) (base:=base) T;have Qq:=sU (P:=P) (w:=w) (base:=base) T;have Qg:FnOk P w K mg base CX0 12 t.kG t.kH ["_law_one","_law_news_here"] (mD K 10):=oM T 10;refine T.yu.F.ok et (λvs H Q E h=>?_) (λcdv A outer s H vs Q E hr h=>?_)
 . obtain⟨c,kl,nd,bl,us,ko,g,bs,cm,rfl,hk,hu,hok,hlen,hN,hB,hbs,q⟩:=h;rfl
 . skip
   refine lx ?_;intro XX;refine(let W1_5:TS:=_; have hW1_5:bV XX ((sB ((bU jW).getD 1 (.Pass ⟨0,0,0,0⟩))).drop 5) W1_5:=(cr (ao (@PW.pt _ _ _ (dA (au bE (@aN _ _ _ _ _ _ _ _ (aV bI) (aB 7) aD) aD (am _)) (dJ (gk (jS (K:=K) rfl (aB 4) (by intro _; rfl)))))) (@aP _ _ _ (@ag _ _ 8 _ _ _ _ et.nd rfl (Or.inl rfl) (aY (aE aQ (aE (aI (show aJ _ (ae K) from af) (aB 3) (@aN _ _ _ _ _ _ _ _ (aV bI) (@aN _ _ _ _ _ _ _ _ (aV bv) (aB 7) aD) aD) (λ_ _=>rfl)) aF rfl) rfl)) (by rfl) (by walk_at "f"))) al) (cr (ao (@PW.pt _ _ _ (dA (au bE (@aN _ _ _ _ _ _ _ _ (aV bI) (aB 7) aD) aD (am _)) (dJ (gk (jS (K:=K) rfl (aB 4) (by intro _; rfl)))))) (@aP _ _ _ (@ag _ _ 8 _ _ _ _ et.nd rfl (Or.inl rfl) (bC T.qt Qq (hr.mono (by decide)) (aE (aB 8) aF rfl)) (by rfl) (by walk_at "f"))) al) (@aP _ _ _ (@ee _ _ _ _ (dU Hs Hy Hz iS (aB 5) (aE (aB 8) aF rfl)) (by rfl))))); ?_);refine(let W1_3:TS:=_; have hW1_3:bV XX ((sB ((bU jW).getD 1 (.Pass ⟨0,0,0,0⟩))).drop 3) W1_3:=(cr (ao (au bE (@aN _ _ _ _ _ _ _ _ (aV bI) (aB 7) aD) aD (am _)) (@aP _ _ _ (@ag _ _ 8 _ _ _ _ et.nd rfl (Or.inl rfl) dX (by rfl) (by walk_at "f"))) al) (cr (ao (@PW.pt _ _ _ (dA (au bE (@aN _ _ _ _ _ _ _ _ (aV bI) (aB 7) aD) aD (am _)) (dJ (gk (jS (K:=K) rfl (aB 4) (by intro _; rfl)))))) (@aP _ _ _ (@ag _ _ 8 _ _ _ _ et.nd rfl (Or.inl rfl) (bC T.kI Qc (hr.mono (by decide)) (aE (@aN _ _ _ _ _ _ _ _ (aV bv) (aB 7) aD) (aE (aB 3) aF rfl) rfl)) (by rfl) (by walk_at "f"))) al) hW1_5)); ?_);obtain⟨c,kl,nd,bl,us,ko,g,bs,cm,rfl,hk,hu,hok,hlen,hN,hB,hbs,q⟩:=h;refine#[_,(aM (@ag _ _ 5 _ _ _ _ et.nd rfl (Or.inl rfl) (bj aF) (by rfl) (by walk_at "f")) (aM (cj PassesOwn.never rfl (g8 rfl T.b_range (aE (cP (show bx _ (.builtin "len") (cb K) from ck) (by rfl) T.b_len cW (aE (aB 1) aF rfl)) aF rfl)) (bS (i:=6) et.nd rfl (Or.inl rfl)) (aM (@ag _ _ 7 _ _ _ _ et.nd rfl (Or.inl rfl) (@aN _ _ _ _ _ _ _ _ (aV bv) (@aN _ _ _ _ _ _ _ _ (aV bI) (@aN _ _ _ _ _ _ _ _ (aV dm) (aB 0) (@aN _ _ _ _ _ _ _ _ (bf cM) aD (@aN _ _ _ _ _ _ _ _ (aV dm) aD (aB 6)))) aD) aD) (by rfl) (by walk_at "f")) (aM (@ag _ _ 8 _ _ _ _ et.nd rfl (Or.inl rfl) (aI (show aJ _ (ae K) from af) (aB 1) (aB 6) (λ_ _=>rfl)) (by rfl) (by walk_at "f")) (cr (ao (dG (fZ (aB 8))) (aM (cj PassesOwn.never rfl (gG (aB 3)) (bS (i:=9) et.nd rfl (Or.inl rfl)) (@aP _ _ _ (ao (@PW.pt _ _ _ (dA (au (nQ hr.units) (oP (cO hr.units) (aB 2) (aB 9) (aY (aE aQ (aE (aB 9) aF rfl) rfl)) #[rfl,rfl,rfl,rfl]) (aB 8) (am _)) (dJ (au (bf kT) (@aN _ _ _ _ _ _ _ _ (aV bI) (@aN _ _ _ _ _ _ _ _ (aV bv) (aB 7) aD) aD) aD (am _))))) (@aP _ _ _ (@ag _ _ 8 _ _ _ _ et.nd rfl (Or.inl rfl) (aY (aE aQ (aE (aB 9) aF rfl) rfl)) (by rfl) (by walk_at "f"))) al))) (@aP _ _ _ (ao (@PW.pt _ _ _ (hU (au (nQ hr.units) (aB 8) (aY (aE aQ (aE (cq cn aD) aF rfl) rfl)) (am _)) (iZ (au (gI hr.units) (bC T.j8 Qg (hr.mono (by decide)) (aE (aB 8) (aE (aB 2) aF rfl) rfl)) (aI (show aJ _ (ae K) from af) (aB 1) (aB 6) (λ_ _=>rfl)) (am _))))) (@aP _ _ _ (@ag _ _ 8 _ _ _ _ et.nd rfl (Or.inl rfl) dX (by rfl) (by walk_at "f"))) al))) al) hW1_3)))) (@aP _ _ _ (@aa _ _ _ _ (aB 5))))),?_];have lu:=Rk2.Ps.len hu;obtain⟨⟨kvs,ed,nv⟩,gok⟩:=hN;refine#[dh,λl hlH=>?_];refine#[_,rfl,kl,_,rfl,.inl ((aC.new hlH).seq hk),_,rfl,by omega,by omega,(let Jv1:Nat->St->Hp->Prop:=λi σ H2=>∃v6 v7 v8 v9 ws view,σ=[some (.int c),some (.ref kl),some (.ref nd),some (.ref bl),some (.int cm),some (.ref l),v6,v7,v8,v9]/\aC H H2/\H2 l=some (.lst ws)/\Rk2.Ps (aX H2) ws view/\view.length=i/\bo view; gq (lo:=0) (n:=us.length) Jv1 #[_,_,_,_,[],[],rfl,aC.new hlH,aL,trivial,rfl,λt h=>by cases h] ?_ ?_)]
   . rintro i σ H2 hi ⟨v6,v7,v8,v9,ws,view,rfl,s2,e2,p2,vl,vo⟩;refine#[_,rfl,_,rfl,_,_,rfl,rfl,.inl #[by decide,by decide],_,_,rfl,rfl,_,_,rfl,rfl,.inr #[by omega,by omega],_,_,rfl,rfl,(show(0:Int)<2147483647 by decide),_,_,rfl,rfl,#[by decide,by decide],?_];generalize c * (48271+2 * (0+(i:Int)))%2147483647 / 3=n6;obtain⟨u,o1,a1,a2,a3⟩:=Rk2.Ps.at hu (n:=i) (by omega);have ok1:=hok o1 (HP a2);have a1':bQ us (0+(i:Int))=some u:=by rw[KM]; exact bt a1
     refine#[_,rfl,_,rfl,kl,_,_,_,rfl,rfl,s2.seq hk,a1',?_];have r2:=aX.mono a3 s2;refine#[λσ' G=>∃(o:Option Rk2.Tr) (v:V) (v9:Option V),σ'=[some (.int c),some (.ref kl),some (.ref nd),some (.ref bl),some (.int cm),some (.ref l),some (.int (0+(i:Int))),some (.int n6),some v,v9]/\aC H2 G/\aX G o v/\cc o,?_,?_]
     . cases o1 with
       | none =>
         cases a3;exact#[_,rfl,_,rfl,jN #[none,.non,v9,rfl,aC.refl _,rfl,cc.no]]
       | some tr =>
         refine#[_,rfl,_,rfl,aU (by obtain⟨p,rfl⟩:=fh r2; rfl) ?_];have tk:=ok1 tr rfl;refine#[_,rfl,bl,rfl,#[_,s2.seq hB],(let Jv2:Nat->St->Hp->Prop:=λj σ G=>∃(t:Rk2.Tr) (v:V) (v9:Option V),σ=[some (.int c),some (.ref kl),some (.ref nd),some (.ref bl),some (.int cm),some (.ref l),some (.int (0+(i:Int))),some (.int n6),some v,v9]/\aC H2 G/\Rk2.RAt G t v/\bp t; pj (xs:=bs.map V.int) Jv2 #[tr,u,v9,rfl,aC.refl _,r2,tk] ?_ ?_ ?_)]
         . rintro j σ G hj ⟨t,v,v9,rfl,s3,_⟩;exact(s2.trans s3).seq hB
         . rintro j y σ G hy ⟨t,v,v9,rfl,s3,r3,t3⟩;rw[HW,Ic] at hy;obtain⟨b,hb,rfl⟩:=hy;have bb:=hbs.2 b (HP hb);have s03:=s2.trans s3;refine#[_,rfl,nd,rfl,.inl #[kvs,.inl (s03 _ _ ed)],_,rfl,_,rfl,aw,λq1 h1=>?_];have s4:=aC.new (o:=.tup [V.str "box",V.int b]) h1;have e4:upd G q1 (.tup [V.str "box",V.int b]) q1=some (.tup [V.str "box",V.int b]):=aL;have s04:=s03.trans s4;have r4:Rk2.RAt (upd G q1 (.tup [V.str "box",V.int b])) ((g b).getD (.box b)) ((bR kvs (Sum.inl b:aO)).getD (.ref q1)):=by
             cases eg:g b with
             | none=>rw[nv.no eg]; exact#[q1,rfl,e4]
             | some t=>obtain⟨x,x1,x2⟩:=nv.yes eg; rw[x1]; exact x2.mono s04
           have t4:bp ((g b).getD (.box b)):=by
             cases eg:g b with
             | none=>exact#[Rk2.okl_box b,trivial,by show 0<10; decide]
             | some t=>exact gok b t eg
           refine#[_,cz.k (k:=Sum.inl b) (s04 _ _ ed),_,rfl,BR t4 t3 r4 (r3.mono s4) #[_,rfl,?_]];have s24:=s3.trans s4;have r34:=r3.mono s4;generalize upd G q1 (.tup [V.str "box",V.int b])=G4 at s4 e4 s04 r4 s24 r34 ⊢;cases PyData.eqv (bu ((g b).getD (.box b))) (bu t) with
           | false=>exact jN (jN #[t,v,_,rfl,s24,r34,t3])
           | true =>
             refine aU rfl #[_,rfl,_,_,rfl,rfl,#[by decide,by decide],_,_,rfl,rfl,(show(0:Int)<4 by decide),_,_,rfl,rfl,_,rfl,?_];by_cases h4:n6 / 8%4 > 0
             . exact aU (HK h4) #[_,rfl,aw,λq2 h2=>#[.box b,_,_,rfl,s24.trans (aC.new h2),#[q2,rfl,aL],#[Rk2.okl_box b,trivial,by show 0<10; decide]]]
             . exact ak (λz=>h4 (Iq z)) #[t,v,_,rfl,s24,r34,t3]
         . rintro σ G ⟨t,v,v9,rfl,s3,r3,t3⟩;refine#[_,rfl,_,rfl,aw,λq1 h1=>?_];have s4:=s3.trans (aC.new (o:=.tup [V.str "box",V.int (-1)]) h1);refine DJ t3 (r3.mono (aC.new h1)) aL #[_,rfl,?_];have r4:=r3.mono (aC.new (o:=.tup [V.str "box",V.int (-1)]) h1);generalize upd G q1 (.tup [V.str "box",V.int (-1)])=G4 at s4 r4 ⊢;by_cases hb:t=.box (-1)
           . rw[HK hb];exact aU rfl (aU rfl #[none,.non,v9,rfl,s4,rfl,cc.no])
           . rw[Hd hb];have s04:=s2.trans s4;refine jN #[_,rfl,_,rfl,t,v,nd,kvs,g,rfl,t3.2.2,r4,s04 _ _ ed,nv.mono s04,t3.1,(λk t h=>(gok k t h).1),λv5 G5 s5 r5=>?_];have s45:=s4.trans s5;refine#[_,rfl,_,rfl,kl,_,_,_,rfl,rfl,(s2.trans s45).seq hk,a1',lY (o:=some tr) (px gok t3) ok1 r5 (aX.mono r2 s45) #[_,rfl,?_]];cases eC (Rk2.pt g t) (some tr) with
             | true=>exact jN #[some t,v,v9,rfl,s45,r4.mono s5,.of t3]
             | false=>exact aU rfl #[none,.non,v9,rfl,s45,rfl,cc.no]
     clear v9;rintro σ' G ⟨o,v,v9,rfl,s3,r3,o3⟩;refine#[λσ' G=>∃(o:Option Rk2.Tr) (v:V) (v9:Option V),σ'=[some (.int c),some (.ref kl),some (.ref nd),some (.ref bl),some (.int cm),some (.ref l),some (.int (0+(i:Int))),some (.int n6),some v,v9]/\aC H2 G/\aX G o v/\cc o,?_,?_]
     . refine#[_,rfl,_,_,rfl,rfl,(show(0:Int)<8 by decide),rfl,_,rfl,?_];by_cases h8:n6%8=0
       . exact aU (HK (Hb V.int h8)) #[none,.non,v9,rfl,s3,rfl,cc.no]
       . exact ak (λz=>h8 (V.int.inj (bM z))) #[o,v,v9,rfl,s3,r3,o3]
     clear s3 r3 o3 o v v9;rintro σ' G ⟨o,v,v9,rfl,s3,r3,o3⟩;refine#[λσ' G=>∃(o:Option Rk2.Tr) (v:V) (v9:Option V),σ'=[some (.int c),some (.ref kl),some (.ref nd),some (.ref bl),some (.int cm),some (.ref l),some (.int (0+(i:Int))),some (.int n6),some v,v9]/\aC H2 G/\aX G o v/\cc o,?_,?_]
     . refine#[_,rfl,_,_,rfl,rfl,(show(0:Int)<8 by decide),rfl,_,rfl,?_];by_cases h8:n6%8=1
       . refine aU (HK (Hb V.int h8)) #[_,rfl,_,rfl,?_];by_cases hcm:cm=0
         . subst hcm;refine aU (by decide) ?_;exact#[_,rfl,_,_,rfl,rfl,#[by decide,by decide],_,rfl,_,bl,bs,rfl,(s2.trans s3).seq hB,hbs,λtr v4 H4 s4 r4 t4=>#[some tr,v4,v9,rfl,s3.trans s4,r4,.of (St.TOk.tr t4)]]
         . exact ak (by simp [hcm]) #[o,v,v9,rfl,s3,r3,o3]
       . exact ak (λz=>h8 (V.int.inj (bM z))) (jN #[o,v,v9,rfl,s3,r3,o3])
     clear s3 r3 o3 o v v9;rintro σ' G ⟨o,v,v9,rfl,s3,r3,o3⟩;refine#[λσ' G=>∃(o:Option Rk2.Tr) (v:V) (v9:Option V),σ'=[some (.int c),some (.ref kl),some (.ref nd),some (.ref bl),some (.int cm),some (.ref l),some (.int (0+(i:Int))),some (.int n6),some v,v9]/\aC H2 G/\aX G o v/\cc o,?_,?_]
     . refine#[_,rfl,_,_,rfl,rfl,(show(0:Int)<8 by decide),rfl,_,rfl,?_];by_cases h8:n6%8=2
       . refine aU (HK (Hb V.int h8)) #[_,rfl,_,rfl,?_];by_cases hcm:cm=0
         . subst hcm;refine aU (by decide) ?_;obtain⟨b,m1,m2⟩:=uk hbs (n6 / 8);exact#[_,rfl,_,rfl,_,_,rfl,rfl,#[by decide,by decide],_,_,rfl,rfl,(show(0:Int)<8 by decide),bl,_,_,_,rfl,rfl,(s2.trans s3).seq hB,m1,aw,λq1 h1=>#[some (.box b),_,v9,rfl,s3.trans (aC.new h1),#[q1,rfl,aL],.of #[Rk2.okl_box b,trivial,by show 0<10; decide]]]
         . exact ak (by simp [hcm]) #[o,v,v9,rfl,s3,r3,o3]
       . exact ak (λz=>h8 (V.int.inj (bM z))) (jN #[o,v,v9,rfl,s3,r3,o3])
     clear s3 r3 o3 o v v9;rintro σ' G ⟨o,v,v9,rfl,s3,r3,o3⟩;refine#[λσ' G=>∃(o:Option Rk2.Tr) (v:V) (v9:Option V),σ'=[some (.int c),some (.ref kl),some (.ref nd),some (.ref bl),some (.int cm),some (.ref l),some (.int (0+(i:Int))),some (.int n6),some v,v9]/\aC H2 G/\aX G o v/\cc o,?_,?_]
     . refine#[_,rfl,_,_,rfl,rfl,(show(0:Int)<8 by decide),rfl,_,rfl,?_];by_cases h8:n6%8=3
       . refine aU (HK (Hb V.int h8)) #[_,rfl,_,rfl,?_];by_cases hcm:cm=0
         . subst hcm;refine aU (by decide) ?_;exact#[_,rfl,o,v,rfl,r3,o3,λo4 v4 H4 s4 r4 k4 _ _=>#[o4,v4,v9,rfl,s3.trans s4,r4,k4]]
         . exact ak (by simp [hcm]) #[o,v,v9,rfl,s3,r3,o3]
       . exact ak (λz=>h8 (V.int.inj (bM z))) (jN #[o,v,v9,rfl,s3,r3,o3])
     clear s3 r3 o3 o v v9;rintro σ' G ⟨o,v,v9,rfl,s3,r3,o3⟩;have e3:=s3 _ _ e2;exact#[_,rfl,.inl #[rfl,_,aK.of e3],_,rfl,l,_,_,rfl,rfl,e3,Rk2.lt_line' (by rw[Rk2.Ps.len p2]; omega),_,_,_,_,ws++[v],view++[o],rfl,(s2.trans s3).upd hlH,aL,Rk2.Ps.imp (λ_ _ z=>aX.lst e3 z) (Rk2.Ps.app (Rk2.Ps.imp (λ_ _ z=>aX.mono z s3) p2) #[r3,trivial]),(by rw[HU,vl]; rfl),vo.app λp hp=>by cases HY.mp hp; exact o3]
   . rintro σ H2 ⟨v6,v7,v8,v9,ws,view,rfl,s2,e2,p2,vl,vo⟩;exact#[_,rfl,q l ws view H2 s2 hlH e2 p2 #[by omega,vo]]
theorem jw:FnScope ["_law_spot","_law_mark","_law_chain","_law_known","_law_news_here","_law_view_here","_law_told","_law_place","_law_one"] ["_law_spot","_law_mark","_law_chain","_law_known","_law_news_here"] (bD oW):=by walk_at "s"
theorem BL (T:Txt K mg t):FnOk P w K mg base CX0 14 t.xG t.yO ["_law_spot","_law_mark","_law_chain","_law_known","_law_news_here"] (CL K):=by
 have Qg:FnOk P w K mg base CX0 12 t.kG t.kH ["_law_one","_law_news_here"] (mD K 10):=oM T 10;refine T.qr.F.ok jw (λvs H Q E h=>?_) (λcdv A outer s H vs Q E hr h=>?_)
 . obtain⟨sv,mv,cv,kA,d,kd,L,ch,kl,Kn,g,rfl,hS,hM,hC,hK,hk,hN,hO,q⟩:=h;rfl
 . obtain⟨sv,mv,cv,kA,d,kd,L,ch,kl,Kn,g,rfl,hS,hM,hC,hK,hk,hN,hO,q⟩:=h;refine#[_,(aM (ao (@PW.pt _ _ _ (hU (au bE (aI (show aJ _ (aR K) from aS) (aI (show aJ _ (aR K) from aS) (aB 0) aD (λ_ _=>rfl)) aD (λ_ _=>rfl)) aQ (am _)) (iZ (au (gI hr.units) (aI (show aJ _ (aR K) from aS) (aB 1) aD (λ_ _=>rfl)) (aB 2) (am _))))) (@aP _ _ _ (@aa _ _ _ _ d9)) al) (aM (cj PassesOwn.never rfl (lK false false rfl T.b_zip (aE (aI (show aJ _ (aR K) from aS) (aB 1) aD (λ_ _=>rfl)) (aE (aB 3) aF rfl) rfl)) (dn rfl (c7 (bS (i:=5) jw.nd rfl (Or.inl rfl)) (c7 (bS (i:=6) jw.nd rfl (Or.inl rfl)) di))) (@aP _ _ _ (cj PassesOwn.never rfl (lK false false rfl T.b_zip (aE (aB 5) (aE (aB 6) aF rfl) rfl)) (dn rfl (c7 (bS (i:=7) jw.nd rfl (Or.inl rfl)) (c7 (bS (i:=8) jw.nd rfl (Or.inl rfl)) di))) (@aP _ _ _ (ao (@PW.pt _ _ _ (dA (dG (fZ (aB 7))) (dJ (@PW.pt _ _ _ (hU (dG (jL (aB 8))) (iZ (au (gI hr.units) (bC T.j8 Qg (hr.mono (by decide)) (aE (aB 7) (aE (aB 4) aF rfl) rfl)) (aB 8) (am _)))))))) (@aP _ _ _ (@aa _ _ _ _ d9)) al))))) (@aP _ _ _ (@aa _ _ _ _ d9)))),?_];obtain⟨sp,sl,a,r,rfl,hsp,ha⟩:=hS;obtain⟨mp,mc,w_,ws,rfl,hmp,hmc,hmw,hmws⟩:=hM;have hmws:Rk2.Ps (fH K H) ws (L.map Lev.vw):=hmws;have hmc:cR K H (L.map Lev.fr) mc:=hmc;obtain⟨⟨kvs,ed,nv⟩,gok⟩:=hN;have eB:fA g kd L ch Kn=(!decide (kd="wait")&&(decide (L.map Lev.fr=ch)&&ge g (L.map Lev.vw) Kn)):=rfl;have n1:∀c∈L.map Lev.fr,PyData.strOk c.1=true:=λc hc=>by obtain⟨e,he,rfl⟩:=Hq.mp hc;exact hO.n e he
   refine#[_,rfl,sp,_,_,_,rfl,rfl,hsp,rfl,a,_,_,_,rfl,rfl,ha,ai,rfl,_,rfl,?_];by_cases hw:kd="wait"
   . rw[HK hw] at eB;rw[eB] at q;exact aU (HK (Hb V.str hw)) (aU rfl (q H (aC.refl _)))
   rw[Hd hw,Bool.not_false,Ir] at eB;rw[eB] at q;refine ak (λz=>hw (V.str.inj (bM z))) #[_,rfl,mp,_,_,_,rfl,rfl,hmp,ai,_,rfl,uD n1 hO.c hmc hC #[_,rfl,?_]];by_cases hch:L.map Lev.fr=ch
   case neg =>
     rw[Hd hch] at q ⊢;exact aU rfl (q H (aC.refl _))
   rw[HK hch,Ir] at q;rw[HK hch];have l1:=Rk2.Ps.len hmws;have l2:=Rk2.Ps.len hk;refine jN #[_,rfl,mp,_,_,_,rfl,rfl,hmp,rfl,_,rfl,w_,kA,rfl,#[_,hmw],#[_,hK],(let Jv1:Nat->St->Hp->Prop:=λi σ G=>∃v5 v6 v7 v8:Option V,σ=[some (.ref sp),some (.ref mp),some cv,some (.ref kA),some (.ref d),v5,v6,v7,v8]/\aC H G/\∀j p,j<i->((L.map Lev.vw).zip Kn)[j]?=some p->gS g p.1 p.2=true; pP (b1:=false) (b2:=false) (xs:=ws) (ys:=kl) Jv1 #[_,_,_,_,rfl,aC.refl _,λj p hj=>absurd hj (IJ j)] ?_ ?_ ?_)]
   . rintro i σ G hi ⟨v5,v6,v7,v8,rfl,s1,hb⟩;exact#[s1.seq hmw,s1.seq hK]
   . rintro i y z σ G b hy hz ⟨v5,v6,v7,v8,rfl,s1,hb⟩ nb;obtain⟨u1,vw,b1,b2,vl,us,rfl,hvl,hus⟩:=Rk2.Ps.at hmws (n:=i) (by have:=(HL.mp hy).1; omega);rw[hy] at b1;cases b1;obtain⟨u2,kn,c1,c2,tl,us2,rfl,htl,hus2⟩:=Rk2.Ps.at hk (n:=i) (by have:=(HL.mp hz).1; omega);rw[hz] at c1;cases c1;have vok:bo vw:=by obtain⟨e,he,rfl⟩:=Hq.mp (HP b2);exact hO.v e he
     have kok:=hO.k kn (HP c2);have s2:=s1.trans (aC.new (o:=.tup [V.ref vl,V.ref tl]) nb);refine#[b,_,rfl,aG.of aL,rfl,_,_,rfl,_,_,rfl,rfl,?_];generalize upd G b (.tup [V.ref vl,V.ref tl])=G1 at s2 ⊢;have m1:=Rk2.Ps.len hus;have m2:=Rk2.Ps.len hus2;refine#[_,rfl,_,rfl,vl,tl,rfl,#[_,s2.seq hvl],#[_,s2.seq htl],(let Jv2:Nat->St->Hp->Prop:=λj σ G3=>∃v7 v8:Option V,σ=[some (.ref sp),some (.ref mp),some cv,some (.ref kA),some (.ref d),some (.ref vl),some (.ref tl),v7,v8]/\aC H G3/\∀j' po,j'<j->(vw.zip kn)[j']?=some po->iu g po.1 po.2=true; pP (b1:=false) (b2:=false) (xs:=us) (ys:=us2) Jv2 #[_,_,rfl,s2,λj p hj=>absurd hj (IJ j)] ?_ ?_ ?_)]
     . rintro j σ G3 hj ⟨v7,v8,rfl,s3,h3⟩;exact#[s3.seq hvl,s3.seq htl]
     . rintro j y z σ G3 b3 hy' hz' ⟨v7,v8,rfl,s3,h3⟩ nb3;obtain⟨w1,pl,d1,d2,d3⟩:=Rk2.Ps.at hus (n:=j) (by have:=(HL.mp hy').1; omega);rw[hy'] at d1;cases d1;obtain⟨w2,o,f1,f2,f3⟩:=Rk2.Ps.at hus2 (n:=j) (by have:=(HL.mp hz').1; omega);rw[hz'] at f1;cases f1;have hz3:(vw.zip kn)[j]?=some (pl,o):=IP.mpr #[d2,f2];have s4:=s3.trans (aC.new (o:=.tup [y,z]) nb3);refine#[b3,_,rfl,aG.of aL,rfl,_,_,rfl,_,_,rfl,rfl,?_];generalize upd G3 b3 (.tup [y,z])=G4 at s4 ⊢;have step:∀G5,aC H G5->iu g pl o=true->∃v7 v8:Option V,[some (.ref sp),some (.ref mp),some cv,some (.ref kA),some (.ref d),some (.ref vl),some (.ref tl),some y,some z]=[some (.ref sp),some (.ref mp),some cv,some (.ref kA),some (.ref d),some (.ref vl),some (.ref tl),v7,v8]/\aC H G5/\∀j' po,j'<j+1->(vw.zip kn)[j']?=some po->iu g po.1 po.2=true:=λG5 s5 h5=>#[_,_,rfl,s5,λj' po hj' hn=>by
         rcases J9.mp hj' with h|h
         . exact h3 j' po h hn
         . subst h;rw[hz3] at hn;cases hn;exact h5]
       have no:∀G5,aC H G5->iu g pl o=false->Q (.bl false) G5:=λG5 s5 h5=>by
         have:ge g (L.map Lev.vw) Kn=false:=by unfold ge;rw[Jb];refine#[(vw,kn),HP (IP.mpr #[b2,c2]),?_];show ¬ gS _ vw kn=true;rw[Bool.not_eq_true];unfold gS;rw[Jb];exact#[(pl,o),HP hz3,by rw[h5]; decide]
         rw[this] at q;exact q G5 s5
       cases pl with
       | none =>
         cases d3;exact#[_,rfl,_,rfl,jN (jN (step G4 s4 rfl))]
       | some tr =>
         have d4:=aX.mono d3 s4;have tok:=vok _ (HP d2) tr rfl;refine#[_,rfl,_,rfl,aU (by obtain⟨p,rfl⟩:=fh d4; rfl) ?_];have f4:=aX.mono f3 s4;cases o with
         | none =>
           cases f4;exact#[_,rfl,_,rfl,aU rfl (aU rfl (no G4 s4 rfl))]
         | some tr2 =>
           refine#[_,rfl,_,rfl,ak (by obtain⟨p,rfl⟩:=fh f4; simp) ?_];refine#[_,rfl,_,rfl,tr,y,d,kvs,g,rfl,tok.2.2,d4,s4 _ _ ed,nv.mono s4,tok.1,(λk t h=>(gok k t h).1),λv5 G5 s5 hv5=>?_];refine#[_,rfl,lY (o:=some tr2) (px gok tok) (kok _ (HP f2)) hv5 (aX.mono f4 s5) #[_,rfl,?_]];cases hE:eC (Rk2.pt g tr) (some tr2) with
           | true=>exact jN (step G5 (s4.trans s5) hE)
           | false=>exact aU rfl (no G5 (s4.trans s5) hE)
     . rintro σ G3 ⟨v7,v8,rfl,s3,h3⟩;refine#[_,_,_,_,rfl,s3,λj p hj hz4=>?_];rcases J9.mp hj with h|h
       . exact hb j p h hz4
       . subst h;rw[IP,b2,c2] at hz4;obtain⟨y1,y2⟩:=hz4;cases y1;cases y2;unfold gS;rw[Ig];intro po hpo;obtain⟨j',hj',e'⟩:=JJ hpo;exact h3 j' po (by rw[J0] at hj'; omega) (by rw[<- e']; exact HX hj')
   . rintro σ G ⟨v5,v6,v7,v8,rfl,s1,hb⟩;have:ge g (L.map Lev.vw) Kn=true:=by unfold ge;rw[Ig];intro p hp;obtain⟨j',hj',e'⟩:=JJ hp;exact hb j' p (by rw[J0] at hj'; omega) (by rw[<- e']; exact HX hj')
     rw[this] at q;exact q G s1
theorem rD:FnScope ["_law_own","_law_outer_here","_law_many","_law_rows_here"] ["_law_own","_law_outer_here","_law_many"] (bD mx):=by walk_at "s"
theorem Dx (T:Txt K mg t):FnOk P w K mg base CX0 1 t.xM t.yU ["_law_own","_law_outer_here","_law_many"] (AZ K):=by
 refine T.yy.F.ok rD (λvs H Q E h=>?_) (λcdv A outer s H vs Q E hr h=>?_)
 . obtain⟨ol,ul,n0,n1,o0,o1,m,rfl,hol,hul,hn0,hn1,hnd,hw,hm,q⟩:=h;rfl
 . obtain⟨ol,ul,n0,n1,o0,o1,m,rfl,hol,hul,hn0,hn1,hnd,hw,hm,q⟩:=h;refine#[_,(aM (@ag _ _ 3 _ _ _ _ rD.nd rfl (Or.inl rfl) (aY (aE (aY (aE aQ (aE (aI (show aJ _ (ae K) from af) (aB 1) aD (λ_ _=>rfl)) (aE (aI (show aJ _ (ae K) from af) (aB 0) aD (λ_ _=>rfl)) (aE (iD mT (aY (aE (aI (show aJ _ (ae K) from af) (aB 1) aD (λ_ _=>rfl)) (aE aD (aE (aI (show aJ _ (ae K) from af) (aB 1) aD (λ_ _=>rfl)) (aE aD (aE aD aF rfl) rfl) rfl) rfl) rfl)) i6 (gu (aB 2))) aF rfl) rfl) rfl) rfl)) (aE (aY (aE aQ (aE (aI (show aJ _ (ae K) from af) (aB 1) aD (λ_ _=>rfl)) aF rfl) rfl)) (aE (aY (aE aQ (aE aD aF rfl) rfl)) aF rfl) rfl) rfl)) (by rfl) (by walk_at "f")) (@aP _ _ _ (@aa _ _ _ _ (aY (aE (aI (show aJ _ (ae K) from af) (aB 0) aD (λ_ _=>rfl)) (aE d9 (aE (d6 jY (by rfl) T.b_tuple jK (aE (aB 1) aF rfl)) (aE (aB 3) aF rfl) rfl) rfl) rfl))))),?_];have m0:o0∈[o0,o1]:=HS;have m1:o1∈[o0,o1]:=HZ _ HS;refine#[_,rfl,ul,_,_,_,rfl,rfl,hul,ai,_,rfl,ol,_,_,_,rfl,rfl,hol,ai,_,rfl,ul,_,_,_,rfl,rfl,hul,rfl,_,rfl,ul,_,_,_,rfl,rfl,hul,ai,le5,λp1 h1=>#[_,rfl,_,rfl,lJ (aG.of aL) λq2 H2 s2 hq2=>?_]];have s02:=(aC.new (o:=.tup [V.str o1,.int 3,.str o0,.int 5,.int 7]) h1).trans s2;have hat:∀v∈cV [V.str o1,.int 3,.str o0,.int 5,.int 7] none (some (m:Int)),dN [o0,o1] v:=λv hv=>by
     have hv:=Fa v hv;simp only[HV,Hm,or_false] at hv;rcases hv with rfl|rfl|rfl|rfl|rfl
     . exact .inr #[o1,m1,rfl]
     . exact .inl #[_,rfl]
     . exact .inr #[o0,m0,rfl]
     . exact .inl #[_,rfl]
     . exact .inl #[_,rfl]
   have hcl:(cV [V.str o1,.int 3,.str o0,.int 5,.int 7] none (some (m:Int))).length<=10:=Ht Ds (by simp);clear hm;generalize cV [V.str o1,.int 3,.str o0,.int 5,.int 7] none (some (m:Int))=as at hq2 hat hcl;refine#[dZ,λp3 h3=>?_];have s3:=aC.new (o:=.tup [V.str "call",.str o0,.str n0,.ref q2]) h3;have c3:upd H2 p3 (.tup [V.str "call",.str o0,.str n0,.ref q2]) p3=some (.tup [V.str "call",.str o0,.str n0,.ref q2]):=aL;generalize upd H2 p3 (.tup [V.str "call",.str o0,.str n0,.ref q2])=H3 at s3 c3 ⊢;have s03:=s02.trans s3;refine#[_,rfl,ul,_,_,_,rfl,rfl,s03.seq hul,rfl,aw,λp4 h4=>#[aw,λp5 h5=>#[cU,λp6 h6=>?_]]];have s4:=aC.new (o:=.tup [V.str "out",.str o1]) h4;have s5:=aC.new (o:=.tup [V.str "back",.int 0]) h5;have s6:=aC.new (o:=.tup [V.ref p3,.ref p4,.ref p5]) h6;have c4:=(s5.trans s6) _ _ (show upd H3 p4 (.tup [V.str "out",.str o1]) p4=_ from aL);have c5:=s6 _ _ (show upd _ p5 (.tup [V.str "back",.int 0]) p5=_ from aL);have c6:upd (upd (upd H3 p4 (.tup [V.str "out",.str o1])) p5 (.tup [V.str "back",.int 0])) p6 (.tup [V.ref p3,.ref p4,.ref p5]) p6=some (HO.tup [V.ref p3,.ref p4,.ref p5]):=aL;have s36:=(s4.trans s5).trans s6;generalize upd (upd (upd H3 p4 (.tup [V.str "out",.str o1])) p5 (.tup [V.str "back",.int 0])) p6 (.tup [V.ref p3,.ref p4,.ref p5])=H6 at c4 c5 c6 s36 ⊢;have s06:=s03.trans s36;refine#[_,rfl,ol,_,_,_,rfl,rfl,s06.seq hol,rfl,_,rfl,ul,_,rfl,.inl #[s06.seq hul,λp7 h7=>#[_,rfl,dZ,λp8 h8=>?_]]];have s7:=aC.new (o:=.tup [V.str o0,.str o1]) h7;have s8:=aC.new (o:=.tup [V.str n1,.bl false,.ref p7,.ref p6]) h8;have s68:=s7.trans s8;have rc:=ue (K:=K) hw (aG.of ((s36.trans s68) _ _ c3)) ((s3.trans (s36.trans s68)).tup hq2) m0 hn0 hat hcl;have ro:=dS (K:=K) hw (.out (.str o1)) (.inl rfl) (aG.of (s68 _ _ c4)) (.inr #[o1,m1,rfl]);have rb:=dS (K:=K) hw (.back (.int 0)) (.inr (.inl rfl)) (aG.of (s68 _ _ c5)) (.inl #[0,rfl]);have all:∀x∈[(RG.call o0 n0 q2 as).rr p3,(RG.out (.str o1)).rr p4,(RG.back (.int 0)).rr p5],dv K _ [o0,o1] x:=λx hx=>by
     simp only[HV,Hm,or_false] at hx;rcases hx with rfl|rfl|rfl
     . exact rc
     . exact ro
     . exact rb
   have wf:K13.Wf ([(RG.call o0 n0 q2 as).rr p3,(RG.out (.str o1)).rr p4,(RG.back (.int 0)).rr p5].map λx=>x.w.k):=((K13.good_nil.plain (x:="call") (by decide +kernel) (by decide +kernel) (by decide +kernel)).plain (x:="out") (by decide +kernel) (by decide +kernel) (by decide +kernel)).back;have hP:aG K _ p7 ([o0,o1].map V.str):=aG.of (s8 _ _ (show upd H6 p7 (.tup [V.str o0,.str o1]) p7=_ from aL));have fn:=uT [(RG.call o0 n0 q2 as).rr p3,(RG.out (.str o1)).rr p4,(RG.back (.int 0)).rr p5] (aG.of (show upd _ p8 (.tup [V.str n1,.bl false,.ref p7,.ref p6]) p8=_ from aL)) (aG.of (s68 _ _ c6)) (λx hx=>(all x hx).1.1) hP hw (by simp) (by simp) wf;refine q _ _ (s06.trans s68) fn rfl (u6 hnd λd hd=>?_) (by show 0<3; decide) ?_
   . obtain⟨x,hx,rfl⟩:=Hq.mp hd;exact(all x hx).2
   . exact bN.tup (n:=5) fn.fn (.cons (.str hn1.2) (.cons .bl (.cons (bN.tup (n:=4) hP (cB.of λv hv=>by obtain⟨s,hs,rfl⟩:=Hq.mp hv; exact .str (hw s hs).2)) (.cons (bN.tup (n:=4) (aG.of (s68 _ _ c6)) (.cons (rc.1.2.up (by decide)) (.cons (ro.1.2.up (by decide)) (.cons (rb.1.2.up (by decide)) .nil)))) .nil))))
theorem ke:FnScope ["_law_views","_law_found","_law_view_here"] ["_law_views"] (bD pK):=by walk_at "s"
theorem Dk (T:Txt K mg t):FnOk P w K mg base CX0 1 t.xF t.yN ["_law_views"] (Ch K):=by
 refine T.yt.F.ok ke (λvs H Q E h=>?_) (λcdv A outer s H vs Q E hr h=>?_)
 . obtain⟨l,ws,Kn,rfl,hl,hw,hk,hK,q⟩:=h;rfl
 . obtain⟨l,ws,Kn,rfl,hl,hw,hk,hK,q⟩:=h;refine#[_,(aM (@ag _ _ 1 _ _ _ _ ke.nd rfl (Or.inl rfl) (bj aF) (by rfl) (by walk_at "f")) (aM (cj PassesOwn.never rfl (gG (aB 0)) (bS (i:=2) ke.nd rfl (Or.inl rfl)) (@aP _ _ _ (@ag _ _ 1 _ _ _ _ ke.nd rfl (Or.inl rfl) (@aN _ _ _ _ _ _ _ _ fe (aB 1) (aB 2)) (by rfl) (by walk_at "f")))) (@aP _ _ _ (@aa _ _ _ _ (aB 1))))),?_];have lw:=Rk2.Ps.len hw;refine#[dh,λl0 h0=>#[_,rfl,l,rfl,#[_,(aC.new h0).seq hl],(let Jv1:Nat->St->Hp->Prop:=λi σ H2=>∃v2 lf us ko,σ=[some (.ref l),some (.ref lf),v2]/\aC H H2/\H lf=none/\H2 lf=some (.lst us)/\Rk2.Ps (aX H2) us ko/\ko.length<=20 * i/\bo ko; pj (xs:=ws) Jv1 #[_,l0,[],[],rfl,aC.new h0,h0,aL,trivial,Hl _,λo h=>by cases h] ?_ ?_ ?_)]]
   . rintro i σ H2 hi ⟨v2,lf,us,ko,rfl,s2,e0,e2,p2,l2,o2⟩;exact s2.seq hl
   . rintro i y σ H2 hy ⟨v2,lf,us,ko,rfl,s2,e0,e2,p2,l2,o2⟩;have iw:i<ws.length:=(HL.mp hy).1;obtain⟨u,kn,a1,a2,b,vs,rfl,eb,pb⟩:=Rk2.Ps.at hw (n:=i) (by omega);rw[hy] at a1;cases a1;have hkn:=hk kn (HP a2);have lu:=Rk2.Ps.len p2;have lv:=Rk2.Ps.len pb;refine#[_,rfl,_,rfl,lf,b,us,vs,rfl,rfl,e2,s2 _ _ eb,cG (by omega),λz hz=>?_];have s3:=aC.new (o:=.lst (us++vs)) hz;exact#[_,z,_,ko++kn,rfl,s2.trans s3,s2.free hz,aL,Rk2.Ps.app (Rk2.Ps.imp (λ_ _ y=>aX.mono y s3) p2) (Rk2.Ps.imp (λ_ _ y=>aX.mono y (s2.trans s3)) pb),(by rw[HU]; omega),o2.app hkn.1]
   . rintro σ H2 ⟨v2,lf,us,ko,rfl,s2,e0,e2,p2,l2,o2⟩;exact#[_,rfl,q lf us ko H2 s2 e0 e2 p2 #[by omega,o2]]
theorem Ah:FnScope ["_law_cell","_law_names_here"] ["_law_cell","_law_names_here"] (bD nE):=by walk_at "s"
theorem GB (T:Txt K mg t):FnOk P w K mg base CX0 1 t.xB t.yJ ["_law_cell","_law_names_here"] (Fy K):=by
 refine T.qq.F.ok Ah (λvs H Q E h=>?_) (λcdv A outer s H vs Q E hr h=>?_)
 . obtain⟨c,nl,ws,rfl,hn,h0,q⟩:=h;rfl
 . obtain⟨c,nl,ws,rfl,hn,h0,q⟩:=h;refine#[_,(aM (ao (au bE (@aN _ _ _ _ _ _ _ _ (aV bI) (aB 0) aD) aD (am _)) (@aP _ _ _ (@aa _ _ _ _ (@aN _ _ _ _ _ _ _ _ (aV bI) (@aN _ _ _ _ _ _ _ _ (aV bv) (aB 0) aD) (@aN _ _ _ _ _ _ _ _ (aV j7) aD aD)))) al) (@aP _ _ _ (@aa _ _ _ _ (aI (show aJ _ (ae K) from af) (aB 1) (@aN _ _ _ _ _ _ _ _ (aV bI) (@aN _ _ _ _ _ _ _ _ (aV bv) (aB 0) aD) (cP (show bx _ (.builtin "len") (cb K) from ck) (by rfl) T.b_len cW (aE (aB 1) aF rfl))) (λ_ _=>rfl))))),?_];refine#[_,rfl,_,_,rfl,rfl,(show(0:Int)<5 by decide),rfl,_,rfl,?_];by_cases h5:c%5=0
   . have b5:=cy (c / 5) ((2:Int) ^ (48:Int).toNat) Rk2.pos48;rw[Rk2.pw48] at b5;exact aU (HK (Hb V.int h5)) #[_,rfl,_,_,rfl,rfl,#[by decide,by decide],_,_,rfl,rfl,#[by decide,by decide,by decide],_,_,rfl,rfl,Rk2.pos48,q _ (.inl #[_,rfl,by rw[Rk2.pw48]; exact b5.1,by rw[Rk2.pw48]; exact b5.2])]
   . obtain⟨n,e1,e2,e3⟩:=uK h0 (c / 5);exact ak (λz=>h5 (V.int.inj (bM z))) #[_,rfl,_,rfl,_,_,rfl,rfl,#[by decide,by decide],_,rfl,nl,_,rfl,.inl hn,_,_,rfl,rfl,e1,nl,_,_,_,rfl,rfl,hn,e2,q _ (.inr #[n,e3,rfl])]
theorem zl:FnScope ["_law_atom_here","_law_names_here","_law_view_here"] ["_law_atom_here","_law_names_here","_law_view_here"] (bD mo):=by walk_at "s"
theorem mz (T:Txt K mg t):FnOk P w K mg base CX0 1 t.xL t.yT ["_law_atom_here","_law_names_here","_law_view_here"] (AX K):=by
 refine T.l_of.F.ok zl (λvs H Q E h=>?_) (λcdv A outer s H vs Q E hr h=>?_)
 . obtain⟨a,nl,vl,ws,us,vw,o,rfl,ha,hn,hv,hu,hl,h1,ho,q⟩:=h;rfl
 . obtain⟨a,nl,vl,ws,us,vw,o,rfl,ha,hn,hv,hu,hl,h1,ho,q⟩:=h;refine#[_,(aM (ao (jc (cP mC (by rfl) T.b_isinstance mE (aE (aB 0) (aE (lX (v:=V.ty "str") rfl T.b_str pM rfl) aF rfl) rfl))) (@aP _ _ _ (@aa _ _ _ _ (aI (show aJ _ (ae K) from af) (aB 2) (dU Hs JX JY qX (aB 1) (aE (aB 0) aF rfl)) (λ_ _=>rfl)))) al) (@aP _ _ _ (@aa _ _ _ _ (aY (aE aQ (aE (aB 0) aF rfl) rfl))))),?_];rcases ha with⟨z,rfl,z0,z1⟩|⟨n,hm,rfl⟩
   . cases ho;exact#[_,rfl,_,"str",_,false,rfl,.int _,rfl,_,rfl,iW #[_,rfl,aw,λp hp=>q _ _ (aC.new hp) #[p,rfl,aL]]]
   . have hi:ws.idxOf n<vw.length:=by rw[hl]; exact JG hm
     obtain⟨u,o',a1,a2,a3⟩:=Rk2.Ps.at hu (n:=ws.idxOf n) hi;have:o=o':=by have e:=pU (vw:=vw) rfl hm a2;exact Option.some.inj (ho.symm.trans e)
     subst this;have kx:=nW hm h1;exact#[_,rfl,_,"str",_,true,rfl,.str _,rfl,_,rfl,pQ #[_,rfl,_,rfl,.inl #[rfl,_,hn],_,rfl,nl,_,_,ws.idxOf n,rfl,rfl,hn,kx.1,kx.2.1,kx.2.2.1,kx.2.2.2.1,kx.2.2.2.2,vl,_,_,_,rfl,rfl,hv,bt a1,q u H (aC.refl _) a3]]
theorem gU:FnScope ["_law_cells","_law_names_here","_law_own","_law_pads","_law_one","_law_row","_law_sign","_law_at","_law_next_row","_law_middle"] ["_law_cells","_law_names_here","_law_own"] (bD gy):=by walk_at "s"
theorem AL (T:Txt K mg t):FnOk P w K mg base CX0 2 t.xN t.yV ["_law_cells","_law_names_here","_law_own"] (BB K):=by
 have Qs:=GB (P:=P) (w:=w) (base:=base) T;refine T.yz.F.ok gU (λvs H Q E h=>?_) (λcdv A outer s H vs Q E hr h=>?_)
 . obtain⟨cl,nl,cs,ws,own,rfl,hcl,h15,hnl,h3,h5,hw,hown,q⟩:=h;rfl
 . skip
   refine lx ?_;intro XX;refine(let W7:TS:=_; have hW7:bV XX ((bU gy).drop 7) W7:=(@aM _ _ _ _ _ (@ao _ _ _ _ _ _ _ _ (@au _ _ _ _ _ _ _ _ bE (@aN _ _ _ _ _ _ _ _ (aV bI) (@aI _ _ _ _ _ _ _ (show aJ _ (ae K) from af) (aB 0) aD (λ_ _=>rfl)) aD) aD (am _)) (@aP _ _ _ (@aa _ _ _ _ (@aY _ _ _ _ _ (@aH _ _ _ _ _ (@aN _ _ _ _ _ _ _ _ fe (aB 3) (@bj _ _ _ _ (@aH _ _ _ _ _ (@aY _ _ _ _ _ (@aH _ _ _ _ _ aQ (@aH _ _ _ _ _ (aB 4) aF (by rfl)) (by rfl))) (@aH _ _ _ _ _ (aB 8) (@aH _ _ _ _ _ (@aY _ _ _ _ _ (@aH _ _ _ _ _ aQ aF (by rfl))) (@aH _ _ _ _ _ (@aY _ _ _ _ _ (@aH _ _ _ _ _ aQ (@aH _ _ _ _ _ aD aF (by rfl)) (by rfl))) aF (by rfl)) (by rfl)) (by rfl)) (by rfl)))) (@aH _ _ _ _ _ (aB 7) (@aH _ _ _ _ _ (@aY _ _ _ _ _ (@aH _ _ _ _ _ (@aN _ _ _ _ _ _ _ _ (bf cM) (aB 7) aD) (@aH _ _ _ _ _ (@aN _ _ _ _ _ _ _ _ (bf cM) (aB 7) aD) aF (by rfl)) (by rfl))) aF (by rfl)) (by rfl)) (by rfl))))) al) (@aM _ _ _ _ _ (@ao _ _ _ _ _ _ _ _ (@au _ _ _ _ _ _ _ _ bE (@aN _ _ _ _ _ _ _ _ (aV bI) (@aN _ _ _ _ _ _ _ _ (aV bv) (@aI _ _ _ _ _ _ _ (show aJ _ (ae K) from af) (aB 0) aD (λ_ _=>rfl)) aD) aD) aD (am _)) (@aP _ _ _ (@aa _ _ _ _ (@aY _ _ _ _ _ (@aH _ _ _ _ _ (@aN _ _ _ _ _ _ _ _ fe (aB 3) (@bj _ _ _ _ (@aH _ _ _ _ _ (@aY _ _ _ _ _ (@aH _ _ _ _ _ aQ (@aH _ _ _ _ _ aD aF (by rfl)) (by rfl))) (@aH _ _ _ _ _ (aB 5) (@aH _ _ _ _ _ (@aY _ _ _ _ _ (@aH _ _ _ _ _ aQ aF (by rfl))) (@aH _ _ _ _ _ (@aY _ _ _ _ _ (@aH _ _ _ _ _ aQ (@aH _ _ _ _ _ aD aF (by rfl)) (by rfl))) aF (by rfl)) (by rfl)) (by rfl)) (by rfl)))) (@aH _ _ _ _ _ (@aN _ _ _ _ _ _ _ _ (bf cM) (aB 7) aD) (@aH _ _ _ _ _ (@aY _ _ _ _ _ (@aH _ _ _ _ _ (aB 7) aF (by rfl))) aF (by rfl)) (by rfl)) (by rfl))))) al) (@aP _ _ _ (@aa _ _ _ _ (@aY _ _ _ _ _ (@aH _ _ _ _ _ (@aN _ _ _ _ _ _ _ _ fe (aB 3) (@bj _ _ _ _ (@aH _ _ _ _ _ (aB 5) (@aH _ _ _ _ _ (aB 8) (@aH _ _ _ _ _ (@aY _ _ _ _ _ (@aH _ _ _ _ _ aQ (@aH _ _ _ _ _ aD aF (by rfl)) (by rfl))) aF (by rfl)) (by rfl)) (by rfl)))) (@aH _ _ _ _ _ (aB 7) (@aH _ _ _ _ _ (@aY _ _ _ _ _ (@aH _ _ _ _ _ (@aN _ _ _ _ _ _ _ _ (bf cM) (aB 7) aD) aF (by rfl))) aF (by rfl)) (by rfl)) (by rfl))))))); ?_);refine(let W6:TS:=_; have hW6:bV XX ((bU gy).drop 6) W6:=(@aM _ _ _ _ _ (@ao _ _ _ _ _ _ _ _ (@au _ _ _ _ _ _ _ _ bE (@aN _ _ _ _ _ _ _ _ (aV bI) (@aI _ _ _ _ _ _ _ (show aJ _ (ae K) from af) (aB 0) aD (λ_ _=>rfl)) aD) aD (am _)) (@aM _ _ _ _ _ (@ag _ _ 9 _ _ _ _ gU.nd rfl (Or.inl rfl) (@aI _ _ _ _ _ _ _ (show aJ _ (ae K) from af) (@bj _ _ _ _ (@aH _ _ _ _ _ (@bj _ _ _ _ (@aH _ _ _ _ _ (@aY _ _ _ _ _ (@aH _ _ _ _ _ aQ (@aH _ _ _ _ _ aD aF (by rfl)) (by rfl))) (@aH _ _ _ _ _ (@aY _ _ _ _ _ (@aH _ _ _ _ _ aQ aF (by rfl))) aF (by rfl)) (by rfl))) (@aH _ _ _ _ _ (@bj _ _ _ _ (@aH _ _ _ _ _ (@aY _ _ _ _ _ (@aH _ _ _ _ _ aQ (@aH _ _ _ _ _ aD aF (by rfl)) (by rfl))) (@aH _ _ _ _ _ (@aY _ _ _ _ _ (@aH _ _ _ _ _ aQ aF (by rfl))) (@aH _ _ _ _ _ (@aY _ _ _ _ _ (@aH _ _ _ _ _ aQ (@aH _ _ _ _ _ aD aF (by rfl)) (by rfl))) (@aH _ _ _ _ _ (@aY _ _ _ _ _ (@aH _ _ _ _ _ aQ aF (by rfl))) aF (by rfl)) (by rfl)) (by rfl)) (by rfl))) aF (by rfl)) (by rfl))) (@aN _ _ _ _ _ _ _ _ (aV bI) (@aN _ _ _ _ _ _ _ _ (aV bv) (@aI _ _ _ _ _ _ _ (show aJ _ (ae K) from af) (aB 0) aD (λ_ _=>rfl)) aD) aD) (λ_ _=>rfl)) (by rfl) (by walk_at "f")) (@aP _ _ _ (@aa _ _ _ _ (@aY _ _ _ _ _ (@aH _ _ _ _ _ (@aN _ _ _ _ _ _ _ _ fe (@aN _ _ _ _ _ _ _ _ fe (@aN _ _ _ _ _ _ _ _ fe (aB 3) (@bj _ _ _ _ (@aH _ _ _ _ _ (@aY _ _ _ _ _ (@aH _ _ _ _ _ aQ (@aH _ _ _ _ _ (aB 4) aF (by rfl)) (by rfl))) aF (by rfl)))) (aB 9)) (@bj _ _ _ _ (@aH _ _ _ _ _ (@aY _ _ _ _ _ (@aH _ _ _ _ _ aQ (@aH _ _ _ _ _ aD aF (by rfl)) (by rfl))) aF (by rfl)))) (@aH _ _ _ _ _ (aB 7) (@aH _ _ _ _ _ (@aY _ _ _ _ _ (@aH _ _ _ _ _ (@aN _ _ _ _ _ _ _ _ (bf cM) (aB 7) aD) (@aH _ _ _ _ _ (@aN _ _ _ _ _ _ _ _ (bf cM) (aB 7) aD) aF (by rfl)) (by rfl))) aF (by rfl)) (by rfl)) (by rfl)))))) al) hW7); ?_);refine(let W5:TS:=_; have hW5:bV XX ((bU gy).drop 5) W5:=(@aM _ _ _ _ _ (@ag _ _ 8 _ _ _ _ gU.nd rfl (Or.inl rfl) (@aI _ _ _ _ _ _ _ (show aJ _ (ae K) from af) (@bj _ _ _ _ (@aH _ _ _ _ _ (@aY _ _ _ _ _ (@aH _ _ _ _ _ aQ (@aH _ _ _ _ _ aD aF (by rfl)) (by rfl))) (@aH _ _ _ _ _ (@aY _ _ _ _ _ (@aH _ _ _ _ _ aQ (@aH _ _ _ _ _ (@aI _ _ _ _ _ _ _ (show aJ _ (ae K) from af) (aB 1) aD (λ_ _=>rfl)) (@aH _ _ _ _ _ (aB 2) (@aH _ _ _ _ _ (d6 jY (by rfl) T.b_tuple jK (@aH _ _ _ _ _ (aB 1) aF (by rfl))) aF (by rfl)) (by rfl)) (by rfl)) (by rfl))) aF (by rfl)) (by rfl))) (@aN _ _ _ _ _ _ _ _ (aV bI) (@aN _ _ _ _ _ _ _ _ (aV bv) (@aI _ _ _ _ _ _ _ (show aJ _ (ae K) from af) (aB 0) aD (λ_ _=>rfl)) aD) aD) (λ_ _=>rfl)) (by rfl) (by walk_at "f")) hW6); ?_);refine(let W3:TS:=_; have hW3:bV XX ((bU gy).drop 3) W3:=(@cr _ _ _ _ _ (@ao _ _ _ _ _ _ _ _ (@au _ _ _ _ _ _ _ _ (bf kS) (@aN _ _ _ _ _ _ _ _ (aV bI) (@aI _ _ _ _ _ _ _ (show aJ _ (ae K) from af) (aB 0) aD (λ_ _=>rfl)) aD) aD (am _)) (@aM _ _ _ _ _ (@ag _ _ 6 _ _ _ _ gU.nd rfl (Or.inl rfl) (@aI _ _ _ _ _ _ _ ki aQ (@aN _ _ _ _ _ _ _ _ (aV bI) (@aN _ _ _ _ _ _ _ _ (aV bv) (@aI _ _ _ _ _ _ _ (show aJ _ (ae K) from af) (aB 0) aD (λ_ _=>rfl)) aD) aD) (λ_ _=>rfl)) (by rfl) (by walk_at "f")) (@aP _ _ _ (@ag _ _ 5 _ _ _ _ gU.nd rfl (Or.inl rfl) (@aY _ _ _ _ _ (@aH _ _ _ _ _ aQ (@aH _ _ _ _ _ (@aI _ _ _ _ _ _ _ (show aJ _ (ae K) from af) (aB 1) (@aN _ _ _ _ _ _ _ _ (aV bI) (@aI _ _ _ _ _ _ _ (show aJ _ (ae K) from af) (aB 0) aD (λ_ _=>rfl)) (cP (show bx _ (.builtin "len") (cb K) from ck) (by rfl) T.b_len cW (@aH _ _ _ _ _ (aB 1) aF (by rfl)))) (λ_ _=>rfl)) (@aH _ _ _ _ _ (aB 6) (@aH _ _ _ _ _ (aB 4) (@aH _ _ _ _ _ (bC T.qq Qs (hr.mono (by decide)) (@aH _ _ _ _ _ (@aN _ _ _ _ _ _ _ _ (aV bv) (@aI _ _ _ _ _ _ _ (show aJ _ (ae K) from af) (aB 0) aD (λ_ _=>rfl)) aD) (@aH _ _ _ _ _ (aB 1) aF (by rfl)) (by rfl))) aF (by rfl)) (by rfl)) (by rfl)) (by rfl)) (by rfl))) (by rfl) (by walk_at "f")))) al) (@aM _ _ _ _ _ (@ag _ _ 7 _ _ _ _ gU.nd rfl (Or.inl rfl) (cP (show bx _ (.builtin "len") (cb K) from ck) (by rfl) T.b_len cW (@aH _ _ _ _ _ (aB 3) aF (by rfl))) (by rfl) (by walk_at "f")) hW5)); ?_);obtain⟨cl,nl,cs,ws,own,rfl,hcl,h15,hnl,h3,h5,hw,hown,q⟩:=h;refine#[_,(@aM _ _ _ _ _ (@ag _ _ 3 _ _ _ _ gU.nd rfl (Or.inl rfl) (@aN _ _ _ _ _ _ _ _ kt (@bj _ _ _ _ (@aH _ _ _ _ _ (@aY _ _ _ _ _ (@aH _ _ _ _ _ aQ (@aH _ _ _ _ _ (@aI _ _ _ _ _ _ _ (show aJ _ (ae K) from af) (aB 1) aD (λ_ _=>rfl)) (@aH _ _ _ _ _ (@aN _ _ _ _ _ _ _ _ (aV bI) (@aI _ _ _ _ _ _ _ (show aJ _ (ae K) from af) (aB 0) aD (λ_ _=>rfl)) (@aN _ _ _ _ _ _ _ _ (aV j7) aD aD)) aF (by rfl)) (by rfl)) (by rfl))) aF (by rfl))) (@aN _ _ _ _ _ _ _ _ (aV bI) (@aI _ _ _ _ _ _ _ (show aJ _ (ae K) from af) (aB 0) aD (λ_ _=>rfl)) aD)) (by rfl) (by walk_at "f")) (@aM _ _ _ _ _ (@ag _ _ 4 _ _ _ _ gU.nd rfl (Or.inl rfl) (bC T.qq Qs (hr.mono (by decide)) (@aH _ _ _ _ _ (@aN _ _ _ _ _ _ _ _ (aV bv) (@aI _ _ _ _ _ _ _ (show aJ _ (ae K) from af) (aB 0) aD (λ_ _=>rfl)) aD) (@aH _ _ _ _ _ (aB 1) aF (by rfl)) (by rfl))) (by rfl) (by walk_at "f")) (@aM _ _ _ _ _ (@ag _ _ 5 _ _ _ _ gU.nd rfl (Or.inl rfl) (@aY _ _ _ _ _ (@aH _ _ _ _ _ aQ (@aH _ _ _ _ _ (@aI _ _ _ _ _ _ _ (show aJ _ (ae K) from af) (aB 1) (@aN _ _ _ _ _ _ _ _ (aV bI) (@aI _ _ _ _ _ _ _ (show aJ _ (ae K) from af) (aB 0) aD (λ_ _=>rfl)) (cP (show bx _ (.builtin "len") (cb K) from ck) (by rfl) T.b_len cW (@aH _ _ _ _ _ (aB 1) aF (by rfl)))) (λ_ _=>rfl)) (@aH _ _ _ _ _ (aB 4) aF (by rfl)) (by rfl)) (by rfl))) (by rfl) (by walk_at "f")) hW3))),?_];obtain⟨c0,hc0⟩:=dW (cs:=cs) (j:=0) (by omega);obtain⟨c1,hc1⟩:=dW (cs:=cs) (j:=1) (by omega);obtain⟨c2,hc2⟩:=dW (cs:=cs) (j:=2) (by omega);obtain⟨n0,hn0,hm0⟩:∃n,bQ (ws.map V.str) 0=some (.str n)/\n∈ws:=by
     cases ws with
     | nil=>simp at h3
     | cons n ws=>exact#[n,ai,HS]
   have F:=Al.nil (H:=H);have b3:=cy c2 3 (by decide);refine#[_,rfl,nl,_,_,_,rfl,rfl,F.1.seq hnl,hn0,_,rfl,cl,_,_,_,rfl,rfl,F.1.seq hcl,hc1,_,_,rfl,rfl,#[by decide,by decide,by decide],_,_,rfl,rfl,Rk2.pos48,cU,λrp k=>?_];generalize c1%(2:Int) ^ (48:Int).toNat=pv;have F:=F.new (o:=.tup [V.str "copy",.str n0,.int pv]) k; generalize upd H rp _=B1 at F ⊢;refine#[cN,λlp k=>?_];have F:=F.new (o:=.lst [V.ref rp]) k; generalize upd B1 lp _=B2 at F ⊢;refine#[_,rfl,cl,_,_,_,rfl,rfl,F.1.seq hcl,hc2,_,_,rfl,rfl,(show(0:Int)<3 by decide),lp,_,_,rfl,rfl,F.2.1,by omega,by omega,cG (by show 1 * (c2%3).toNat<_; omega),λpp k=>?_];obtain⟨n,hn⟩:∃n:Nat,n=(c2%3).toNat:=#[_,rfl]
   have n3:n<3:=by omega
   rw[ou,<- hn];have F:=F.new (o:=.lst (List.replicate n (V.ref rp))) k; generalize upd B2 pp _=B3 at F ⊢;refine#[_,rfl,cl,_,_,_,rfl,rfl,F.1.seq hcl,hc0,_,_,rfl,rfl,#[by decide,by decide],_,rfl,_,nl,ws,rfl,F.1.seq hnl,by omega,λa ha=>?_];obtain⟨x,x1,x2,x3⟩:=uK (ws:=ws) (by omega) c1;refine#[_,rfl,_,rfl,cl,_,_,_,rfl,rfl,F.1.seq hcl,hc1,_,rfl,nl,_,rfl,.inl (F.1.seq hnl),_,_,rfl,rfl,x1,nl,_,_,_,rfl,rfl,F.1.seq hnl,x2,_,rfl,cU,λr5 k=>?_];have F:=F.new (o:=.tup [V.str "copy",.str x,a]) k; generalize upd B3 r5 _=B4 at F ⊢;refine#[λσ' G=>∃(rg:RG) (r:Addr) (v6:Option V),σ'=[some (.ref cl),some (.ref nl),some (.str own),some (.ref pp),some a,some (.ref r),v6,none,none,none]/\aC B4 G/\aG K G r rg.items/\gC ws rg/\(∃n,RG.gives n rg)/\dv K G ws (rg.rr r)/\(rg.kind="copy"\/rg.kind="op"),?_,?_]
   . refine#[_,rfl,cl,_,_,_,rfl,rfl,F.1.seq hcl,hc0,_,_,rfl,rfl,(show(0:Int)<6 by decide),_,_,rfl,rfl,_,rfl,?_];by_cases h6:c0%6<2
     . obtain⟨ch,hch⟩:=Rk2.sg_at (i:=c1 / 5%9) (Iy _ (by decide)) (Ii _ (by decide));refine aU (HK h6) #[_,rfl,cl,_,_,_,rfl,rfl,F.1.seq hcl,hc1,_,_,rfl,rfl,#[by decide,by decide],_,_,rfl,rfl,(show(0:Int)<9 by decide),_,_,ch,rfl,rfl,Rk2.sg_fit,hch,?_];have oc:=Rk2.one_char ch;refine#[_,rfl,_,rfl,cl,_,_,_,rfl,rfl,F.1.seq hcl,hc1,_,rfl,nl,_,rfl,.inl (F.1.seq hnl),_,_,rfl,rfl,x1,nl,_,_,_,rfl,rfl,F.1.seq hnl,x2,_,rfl,_,rfl,_,rfl,cl,_,_,_,rfl,rfl,F.1.seq hcl,hc1,_,_,rfl,rfl,#[by decide,by decide],_,rfl,_,nl,ws,rfl,F.1.seq hnl,by omega,λb hb=>#[le5,λr6 k6=>#[.op x #[(List.toArray [ch])] a b,r6,_,rfl,aC.new k6,aG.of aL,#[x3,oc,iX hch,ha,hb],#[x,rfl],Ga hw (aG.of aL) x3 (iX hch) ha.i hb.i,.inr rfl]]]
     . exact ak (λz=>h6 (Iq z)) #[.copy x a,r5,_,rfl,aC.refl _,aG.of F.2.1,#[x3,ha],#[x,rfl],iI hw (aG.of F.2.1) x3 ha.i,.inl rfl]
   rintro σ' G ⟨rg,r,v6,rfl,sn,hr_,hrg,hgv,hrw,hkd⟩;have F:=F.mono sn;obtain⟨S,-,e_pp,-,e_rp,-⟩:=F;have F:=((Al.nil (H:=G)).add e_rp).add e_pp;refine#[_,rfl,pp,_,rfl,.inl (aK.of F.2.1),?_];rw[Hj];refine#[aw,λx1_ k=>?_];have F:=F.new (o:=.tup [V.str "out",.int 1]) k; generalize upd G x1_ _=B5 at F ⊢;refine#[_,rfl,nl,_,_,_,rfl,rfl,(S.trans F.1).seq hnl,hn0,_,rfl,_,rfl,nl,_,rfl,.inl #[(S.trans F.1).seq hnl,λx2_ k=>?_]];have F:=F.new (o:=.tup (ws.map V.str)) k; generalize upd B5 x2_ _=B6 at F ⊢;refine#[dZ,λx3_ k=>?_];have F:=F.new (o:=.tup [V.str "call",.str n0,.str own,.ref x2_]) k; generalize upd B6 x3_ _=B7 at F ⊢;refine#[aw,λx4_ k=>?_];have F:=F.new (o:=.lst [V.ref x1_,V.ref x3_]) k; generalize upd B7 x4_ _=B8 at F ⊢;have b2:=cy (c2 / 3) 2 (by decide);obtain⟨v8,a8,b8⟩:=lO (x:=V.ref x1_) (y:=V.ref x3_) b2.1 b2.2;refine#[_,rfl,cl,_,_,_,rfl,rfl,(S.trans F.1).seq hcl,hc2,_,_,rfl,rfl,#[by decide,by decide],_,_,rfl,rfl,(show(0:Int)<2 by decide),x4_,_,_,_,rfl,rfl,aK.of F.2.1,a8,?_];obtain⟨nx,rfl,nxk,nxo⟩:∃nx:K41.RR,v8=V.ref nx.w.r/\(nx.w.k="out"\/nx.w.k="call")/\dv K B8 ws nx:=by
     rcases b8 with rfl|rfl
     . exact#[_,rfl,.inl rfl,dS hw (.out (.int 1)) (.inl rfl) (aG.of F.2.2.2.2.1) (.inl #[1,rfl])]
     . refine#[_,rfl,.inr rfl,ue hw (aG.of F.2.2.1) (aG.of F.2.2.2.1) hm0 hown (λv hv=>?_) (by rw[HH]; omega)];obtain⟨s,hs,rfl⟩:=Hq.mp hv;exact .inr #[s,hs,rfl]
   have S:=S.trans F.1; have hr_:=F.1.tup hr_; have hrw:=hrw.mono F.1; have e_pp:=F.1 _ _ e_pp; have e_rp:=F.1 _ _ e_rp; clear F
   have F:=((Al.nil (H:=B8)).add e_rp).add e_pp;refine#[_,rfl,cl,_,_,_,rfl,rfl,(S.trans F.1).seq hcl,hc0,_,_,rfl,rfl,(show(0:Int)<6 by decide),rfl,_,rfl,?_];by_cases h4:c0%6=4
   . refine aU (HK (Hb V.int h4)) ?_;refine#[aw,λy1 k=>?_];have F:=F.new (o:=.tup [V.str "out",.int 1]) k; generalize upd B8 y1 _=B9 at F ⊢;refine#[cN,λy2 k=>?_];have F:=F.new (o:=.tup [V.str "end"]) k; generalize upd B9 y2 _=B10 at F ⊢;refine#[aw,λy3 k=>?_];have F:=F.new (o:=.lst [V.ref y1,V.ref y2]) k; generalize upd B10 y3 _=B11 at F ⊢;refine#[aw,λy4 k=>?_];have F:=F.new (o:=.tup [V.str "out",.int 1]) k; generalize upd B11 y4 _=B12 at F ⊢;refine#[cN,λy5 k=>?_];have F:=F.new (o:=.tup [V.str "else"]) k; generalize upd B12 y5 _=B13 at F ⊢;refine#[aw,λy6 k=>?_];have F:=F.new (o:=.tup [V.str "out",.int 2]) k; generalize upd B13 y6 _=B14 at F ⊢;refine#[cN,λy7 k=>?_];have F:=F.new (o:=.tup [V.str "end"]) k; generalize upd B14 y7 _=B15 at F ⊢;refine#[dZ,λy8 k=>?_];have F:=F.new (o:=.lst [V.ref y4,V.ref y5,V.ref y6,V.ref y7]) k; generalize upd B15 y8 _=B16 at F ⊢;refine#[aw,λy9 k=>?_];have F:=F.new (o:=.lst [V.ref y3,V.ref y8]) k; generalize upd B16 y9 _=B17 at F ⊢;have b6:=cy (c2 / 6) 2 (by decide);obtain⟨v9,a9,b9⟩:=lO (x:=V.ref y3) (y:=V.ref y8) b6.1 b6.2;refine#[_,rfl,cl,_,_,_,rfl,rfl,(S.trans F.1).seq hcl,hc2,_,_,rfl,rfl,#[by decide,by decide],_,_,rfl,rfl,(show(0:Int)<2 by decide),y9,_,_,_,rfl,rfl,aK.of F.2.1,a9,?_];refine#[_,rfl,_,rfl,aw,λz1 k=>?_];have F:=F.new (o:=.tup [V.str "if",a]) k; generalize upd B17 z1 _=B18 at F ⊢;refine#[cN,λz2 k=>?_];have F:=F.new (o:=.lst [V.ref z1]) k; generalize upd B18 z2 _=B19 at F ⊢;refine#[pp,z2,_,_,rfl,rfl,F.2.2.2.2.2.2.2.2.2.2.2.2.1,F.2.1,cG (by rw[Hj]; show n+1<_; omega),λz3 k_z3=>?_];have F:=F.new (o:=.lst (List.replicate n (V.ref rp)++[V.ref z1])) k_z3; generalize upd B19 z3 _=B20 at F ⊢;rcases b9 with rfl|rfl
     . refine#[_,rfl,z3,y3,_,_,rfl,rfl,F.2.1,F.2.2.2.2.2.2.2.2.2.2.1,cG (by rw[HU,Hj]; show n+1+2<_; omega),λz4 k_z4=>?_];have F:=F.new (o:=.lst (List.replicate n (V.ref rp)++[V.ref z1]++[V.ref y1,V.ref y2])) k_z4; generalize upd B20 z4 _=B21 at F ⊢;refine#[aw,λz5 k=>?_];have F:=F.new (o:=.tup [V.str "back",.int 0]) k; generalize upd B21 z5 _=B22 at F ⊢;refine#[cN,λz6 k=>?_];have F:=F.new (o:=.lst [V.ref z5]) k; generalize upd B22 z6 _=B23 at F ⊢;refine#[z4,z6,_,_,rfl,rfl,F.2.2.2.1,F.2.1,cG (by rw[HU,HU,Hj]; show n+1+2+1<_; omega),λz7 k_z7=>?_];rw[Hv,Hv];have F:=F.new (o:=.lst (List.replicate n (V.ref rp)++([V.ref z1]++([V.ref y1,V.ref y2]++[V.ref z5])))) k_z7; generalize upd B23 z7 _=B24 at F ⊢;refine#[_,rfl,_,rfl,_,_,rfl,rfl,_,rfl,_,_,rfl,rfl,aw,λze k=>?_];have F:=F.new (o:=.tup [V.int ((n:Int)+1),V.int ((n:Int)+3)]) k; generalize upd B24 ze _=B25 at F ⊢;refine#[cU,λzt k=>?_];have F:=F.new (o:=.tup [V.ref z7,V.int (n:Int),V.ref ze]) k; generalize upd B25 zt _=B26 at F ⊢;refine q zt z7 ze (List.replicate n ((RG.copy n0 (.int pv)).rr rp)++[(RG.ifs a).rr z1,(RG.out (.int 1)).rr y1,K41.rnone "end" y2,(RG.back (.int 0)).rr z5]) (n+0) [n+1,n+3] (.ifs a) _ (S.trans F.1) (aG.of F.2.1) (by rw[jz]; exact F.2.2.2.1) (aG.of F.2.2.1) (jv (ks:=["if","out","end","back"]) n3 rfl (iI (K:=K) hw (aG.of F.2.2.2.2.2.2.2.2.2.2.2.2.2.2.2.2.2.2.2.2.1) hm0 (.inl #[_,rfl])) (λx hx=>?_) (by rfl) (lR n n3 (.inl rfl) (.inl rfl)).1 (lR n n3 (.inl rfl) (.inl rfl)).2 (λe he=>?_) (by simp) (x:=(RG.ifs a).rr z1) (by rfl) (aG.of F.2.2.2.2.2.2.2.2.2.1) ha (λ_ h=>h.elim) (λ_=>rfl))
       . simp only[HV,Hm,or_false] at hx;rcases hx with rfl|rfl|rfl|rfl
         . exact dS hw (.ifs a) (.inr (.inr (.inl rfl))) (aG.of F.2.2.2.2.2.2.2.2.2.1) ha.i
         . exact dS hw (.out (.int 1)) (.inl rfl) (aG.of F.2.2.2.2.2.2.2.2.2.2.2.2.2.2.2.2.2.2.1) (.inl #[1,rfl])
         . exact jf (.inr rfl) (aG.of F.2.2.2.2.2.2.2.2.2.2.2.2.2.2.2.2.2.1)
         . exact dS hw (.back (.int 0)) (.inr (.inl rfl)) (aG.of F.2.2.2.2.2.1) (.inl #[0,rfl])
       . simp only[HV,Hm,or_false] at he;simp only[Hh,IQ];omega
     . refine#[_,rfl,z3,y8,_,_,rfl,rfl,F.2.1,F.2.2.2.2.2.1,cG (by rw[HU,Hj]; show n+1+4<_; omega),λz4 k_z4=>?_];have F:=F.new (o:=.lst (List.replicate n (V.ref rp)++[V.ref z1]++[V.ref y4,V.ref y5,V.ref y6,V.ref y7])) k_z4; generalize upd B20 z4 _=B21 at F ⊢;refine#[aw,λz5 k=>?_];have F:=F.new (o:=.tup [V.str "back",.int 0]) k; generalize upd B21 z5 _=B22 at F ⊢;refine#[cN,λz6 k=>?_];have F:=F.new (o:=.lst [V.ref z5]) k; generalize upd B22 z6 _=B23 at F ⊢;refine#[z4,z6,_,_,rfl,rfl,F.2.2.2.1,F.2.1,cG (by rw[HU,HU,Hj]; show n+1+4+1<_; omega),λz7 k_z7=>?_];rw[Hv,Hv];have F:=F.new (o:=.lst (List.replicate n (V.ref rp)++([V.ref z1]++([V.ref y4,V.ref y5,V.ref y6,V.ref y7]++[V.ref z5])))) k_z7; generalize upd B23 z7 _=B24 at F ⊢;refine#[_,rfl,_,rfl,_,_,rfl,rfl,_,rfl,_,_,rfl,rfl,aw,λze k=>?_];have F:=F.new (o:=.tup [V.int ((n:Int)+1),V.int ((n:Int)+3)]) k; generalize upd B24 ze _=B25 at F ⊢;refine#[cU,λzt k=>?_];have F:=F.new (o:=.tup [V.ref z7,V.int (n:Int),V.ref ze]) k; generalize upd B25 zt _=B26 at F ⊢;refine q zt z7 ze (List.replicate n ((RG.copy n0 (.int pv)).rr rp)++[(RG.ifs a).rr z1,(RG.out (.int 1)).rr y4,K41.rnone "else" y5,(RG.out (.int 2)).rr y6,K41.rnone "end" y7,(RG.back (.int 0)).rr z5]) (n+0) [n+1,n+3] (.ifs a) _ (S.trans F.1) (aG.of F.2.1) (by rw[jz]; exact F.2.2.2.1) (aG.of F.2.2.1) (jv (ks:=["if","out","else","out","end","back"]) n3 rfl (iI (K:=K) hw (aG.of F.2.2.2.2.2.2.2.2.2.2.2.2.2.2.2.2.2.2.2.2.1) hm0 (.inl #[_,rfl])) (λx hx=>?_) (by rfl) (wR n n3).1 (wR n n3).2 (λe he=>?_) (by simp) (x:=(RG.ifs a).rr z1) (by rfl) (aG.of F.2.2.2.2.2.2.2.2.2.1) ha (λ_ h=>h.elim) (λ_=>rfl))
       . simp only[HV,Hm,or_false] at hx;rcases hx with rfl|rfl|rfl|rfl|rfl|rfl
         . exact dS hw (.ifs a) (.inr (.inr (.inl rfl))) (aG.of F.2.2.2.2.2.2.2.2.2.1) ha.i
         . exact dS hw (.out (.int 1)) (.inl rfl) (aG.of F.2.2.2.2.2.2.2.2.2.2.2.2.2.2.2.1) (.inl #[1,rfl])
         . exact jf (.inl rfl) (aG.of F.2.2.2.2.2.2.2.2.2.2.2.2.2.2.1)
         . exact dS hw (.out (.int 2)) (.inl rfl) (aG.of F.2.2.2.2.2.2.2.2.2.2.2.2.2.1) (.inl #[2,rfl])
         . exact jf (.inr rfl) (aG.of F.2.2.2.2.2.2.2.2.2.2.2.2.1)
         . exact dS hw (.back (.int 0)) (.inr (.inl rfl)) (aG.of F.2.2.2.2.2.1) (.inl #[0,rfl])
       . simp only[HV,Hm,or_false] at he;simp only[Hh,IQ];omega
   refine ak (λz=>h4 (V.int.inj (bM z))) #[_,rfl,cl,_,_,_,rfl,rfl,(S.trans F.1).seq hcl,hc0,_,_,rfl,rfl,(show(0:Int)<6 by decide),rfl,_,rfl,?_];by_cases h5_:c0%6=5
   . refine aU (HK (Hb V.int h5_)) ?_;refine#[_,rfl,_,rfl,aw,λz1 k=>?_];have F:=F.new (o:=.tup [V.str "while",a]) k; generalize upd B8 z1 _=B9 at F ⊢;refine#[_,rfl,cN,λz2 k=>?_];have F:=F.new (o:=.tup [V.str "end"]) k; generalize upd B9 z2 _=B10 at F ⊢;refine#[aw,λz3 k=>?_];have F:=F.new (o:=.tup [V.str "back",.int 0]) k; generalize upd B10 z3 _=B11 at F ⊢;refine#[dZ,λz4 k=>?_];have F:=F.new (o:=.lst [V.ref z1,V.ref nx.w.r,V.ref z2,V.ref z3]) k; generalize upd B11 z4 _=B12 at F ⊢;refine#[pp,z4,_,_,rfl,rfl,F.2.2.2.2.2.1,F.2.1,cG (by rw[Hj]; show n+4<_; omega),λz7 k_z7=>?_];have F:=F.new (o:=.lst (List.replicate n (V.ref rp)++[V.ref z1,V.ref nx.w.r,V.ref z2,V.ref z3])) k_z7; generalize upd B12 z7 _=B13 at F ⊢;refine#[_,rfl,_,rfl,_,_,rfl,rfl,_,rfl,_,_,rfl,rfl,aw,λze k=>?_];have F:=F.new (o:=.tup [V.int ((n:Int)+1),V.int ((n:Int)+3)]) k; generalize upd B13 ze _=B14 at F ⊢;refine#[cU,λzt k=>?_];have F:=F.new (o:=.tup [V.ref z7,V.int (n:Int),V.ref ze]) k; generalize upd B14 zt _=B15 at F ⊢;refine q zt z7 ze (List.replicate n ((RG.copy n0 (.int pv)).rr rp)++[(RG.whl a).rr z1,nx,K41.rnone "end" z2,(RG.back (.int 0)).rr z3]) (n+0) [n+1,n+3] (.whl a) _ (S.trans F.1) (aG.of F.2.1) (by rw[jz]; exact F.2.2.2.1) (aG.of F.2.2.1) (jv (ks:=["while",nx.w.k,"end","back"]) n3 rfl (iI (K:=K) hw (aG.of F.2.2.2.2.2.2.2.2.2.1) hm0 (.inl #[_,rfl])) (λx hx=>?_) (by rfl) (lR n n3 (.inr rfl) nxk).1 (lR n n3 (.inr rfl) nxk).2 (λe he=>?_) (by simp) (x:=(RG.whl a).rr z1) (by rfl) (aG.of F.2.2.2.2.2.2.2.1) ha (λ_ h=>h.elim) (λ_=>rfl))
     . simp only[HV,Hm,or_false] at hx;rcases hx with rfl|rfl|rfl|rfl
       . exact dS hw (.whl a) (.inr (.inr (.inr rfl))) (aG.of F.2.2.2.2.2.2.2.1) ha.i
       . exact nxo.mono F.1
       . exact jf (.inr rfl) (aG.of F.2.2.2.2.2.2.1)
       . exact dS hw (.back (.int 0)) (.inr (.inl rfl)) (aG.of F.2.2.2.2.2.1) (.inl #[0,rfl])
     . simp only[HV,Hm,or_false] at he;simp only[Hh,IQ];omega
   refine ak (λz=>h5_ (V.int.inj (bM z))) #[_,rfl,cl,_,_,_,rfl,rfl,(S.trans F.1).seq hcl,hc2,_,_,rfl,rfl,#[by decide,by decide],_,_,rfl,rfl,(show(0:Int)<3 by decide),rfl,_,rfl,?_];have nt:¬ RG.turns rg:=λh=>by obtain⟨m,hm⟩:=hgv; cases rg <;> first|exact h.elim|exact hm.elim
   by_cases h7_:c2 / 6%3=0
   . refine aU (HK (Hb V.int h7_)) ?_;refine#[_,rfl,aw,λz1 k=>?_];have F:=F.new (o:=.tup [V.str "while",.int 1]) k; generalize upd B8 z1 _=B9 at F ⊢;refine#[_,rfl,cN,λz2 k=>?_];have F:=F.new (o:=.tup [V.str "end"]) k; generalize upd B9 z2 _=B10 at F ⊢;refine#[aw,λz3 k=>?_];have F:=F.new (o:=.tup [V.str "back",.int 0]) k; generalize upd B10 z3 _=B11 at F ⊢;refine#[dZ,λz4 k=>?_];have F:=F.new (o:=.lst [V.ref z1,V.ref r,V.ref z2,V.ref z3]) k; generalize upd B11 z4 _=B12 at F ⊢;refine#[pp,z4,_,_,rfl,rfl,F.2.2.2.2.2.1,F.2.1,cG (by rw[Hj]; show n+4<_; omega),λz7 k_z7=>?_];have F:=F.new (o:=.lst (List.replicate n (V.ref rp)++[V.ref z1,V.ref r,V.ref z2,V.ref z3])) k_z7; generalize upd B12 z7 _=B13 at F ⊢;refine#[_,rfl,_,_,rfl,rfl,_,rfl,cN,λze k=>?_];have F:=F.new (o:=.tup [V.int (n:Int)]) k; generalize upd B13 ze _=B14 at F ⊢;refine#[cU,λzt k=>?_];have F:=F.new (o:=.tup [V.ref z7,V.int ((n:Int)+1),V.ref ze]) k; generalize upd B14 zt _=B15 at F ⊢;refine q zt z7 ze (List.replicate n ((RG.copy n0 (.int pv)).rr rp)++[(RG.whl (.int 1)).rr z1,rg.rr r,K41.rnone "end" z2,(RG.back (.int 0)).rr z3]) (n+1) [n] (rg) _ (S.trans F.1) (aG.of F.2.1) (by rw[jz]; exact F.2.2.2.1) (aG.of F.2.2.1) (jv (ks:=["while",rg.kind,"end","back"]) n3 rfl (iI (K:=K) hw (aG.of F.2.2.2.2.2.2.2.2.2.1) hm0 (.inl #[_,rfl])) (λx hx=>?_) (by rfl) (sr n n3 hkd).1 (sr n n3 hkd).2 (λe he=>?_) (by simp) (x:=rg.rr r) (by rfl) (F.1.tup hr_) hrg (λ_ _=>rfl) (λh=>(nt h).elim))
     . simp only[HV,Hm,or_false] at hx;rcases hx with rfl|rfl|rfl|rfl
       . exact dS hw (.whl (.int 1)) (.inr (.inr (.inr rfl))) (aG.of F.2.2.2.2.2.2.2.1) (.inl #[1,rfl])
       . exact hrw.mono F.1
       . exact jf (.inr rfl) (aG.of F.2.2.2.2.2.2.1)
       . exact dS hw (.back (.int 0)) (.inr (.inl rfl)) (aG.of F.2.2.2.2.2.1) (.inl #[0,rfl])
     . simp only[HV,Hm,or_false] at he;simp only[Hh,IQ];omega
   . refine ak (λz=>h7_ (V.int.inj (bM z))) ?_;refine#[_,rfl,_,rfl,_,rfl,aw,λz3 k=>?_];have F:=F.new (o:=.tup [V.str "back",.int 0]) k; generalize upd B8 z3 _=B9 at F ⊢;refine#[cU,λz4 k=>?_];have F:=F.new (o:=.lst [V.ref r,V.ref nx.w.r,V.ref z3]) k; generalize upd B9 z4 _=B10 at F ⊢;refine#[pp,z4,_,_,rfl,rfl,F.2.2.2.1,F.2.1,cG (by rw[Hj]; show n+3<_; omega),λz7 k_z7=>?_];have F:=F.new (o:=.lst (List.replicate n (V.ref rp)++[V.ref r,V.ref nx.w.r,V.ref z3])) k_z7; generalize upd B10 z7 _=B11 at F ⊢;refine#[_,rfl,_,rfl,_,_,rfl,rfl,cN,λze k=>?_];have F:=F.new (o:=.tup [V.int ((n:Int)+1)]) k; generalize upd B11 ze _=B12 at F ⊢;refine#[cU,λzt k=>?_];have F:=F.new (o:=.tup [V.ref z7,V.int (n:Int),V.ref ze]) k; generalize upd B12 zt _=B13 at F ⊢;refine q zt z7 ze (List.replicate n ((RG.copy n0 (.int pv)).rr rp)++[rg.rr r,nx,(RG.back (.int 0)).rr z3]) (n+0) [n+1] (rg) _ (S.trans F.1) (aG.of F.2.1) (by rw[jz]; exact F.2.2.2.1) (aG.of F.2.2.1) (jv (ks:=[rg.kind,nx.w.k,"back"]) n3 rfl (iI (K:=K) hw (aG.of F.2.2.2.2.2.2.2.1) hm0 (.inl #[_,rfl])) (λx hx=>?_) (by rfl) (tV n n3 hkd nxk).1 (tV n n3 hkd nxk).2 (λe he=>?_) (by simp) (x:=rg.rr r) (by rfl) (F.1.tup hr_) hrg (λ_ _=>rfl) (λh=>(nt h).elim))
     . simp only[HV,Hm,or_false] at hx;rcases hx with rfl|rfl|rfl
       . exact hrw.mono F.1
       . exact nxo.mono F.1
       . exact dS hw (.back (.int 0)) (.inr (.inl rfl)) (aG.of F.2.2.2.2.2.1) (.inl #[0,rfl])
     . simp only[HV,Hm,or_false] at he;simp only[Hh,IQ];omega
theorem iE:FnScope ["_law_row","_law_names_here","_law_view_here","_law_known","_law_left","_law_right","_law_both"] ["_law_row","_law_names_here","_law_view_here"] (bD jM):=by walk_at "s"
theorem Ae (T:Txt K mg t):FnOk P w K mg base CX0 2 t.xC t.yK ["_law_row","_law_names_here","_law_view_here"] (EV K):=by
 have Qd:=mz (P:=P) (w:=w) (base:=base) T;have Qp:=wZ (P:=P) (w:=w) (base:=base) T;refine T.yp.F.ok iE (λvs H Q E h=>?_) (λcdv A outer s H vs Q E hr h=>?_)
 . obtain⟨r,nl,vl,rg,ws,us,vw,rfl,hr_,hrg,hnl,hvl,hus,hl,h20,hv9,q⟩:=h;rfl
 . skip
   refine lx ?_;intro XX;refine(let W2_2:TS:=_; have hW2_2:bV XX ((sB ((bU jM).getD 2 (.Pass ⟨0,0,0,0⟩))).drop 2) W2_2:=(aM (@ag _ _ 6 _ _ _ _ iE.nd rfl (Or.inl rfl) dX (by rfl) (by walk_at "f")) (cr (ao (@PW.pt _ _ _ (dA (dG (fZ (aB 4))) (dJ (dG (fZ (aB 5)))))) (aM (@ag _ _ 6 _ _ _ _ iE.nd rfl (Or.inl rfl) (aY (aE (aI (show aJ _ (aR K) from aS) (aB 0) aD (λ_ _=>rfl)) (aE (aB 4) (aE (aB 5) aF rfl) rfl) rfl)) (by rfl) (by walk_at "f")) (@aP _ _ _ (ao (@PW.pt _ _ _ (dA (au bE (aI (show aJ _ (aR K) from aS) (aB 4) aD (λ_ _=>rfl)) aQ (am _)) (dJ (au bE (aI (show aJ _ (aR K) from aS) (aB 5) aD (λ_ _=>rfl)) aQ (am _))))) (@aP _ _ _ (@ag _ _ 6 _ _ _ _ iE.nd rfl (Or.inl rfl) (aY (aE aQ (aE (bC T.qu Qp (hr.mono (by decide)) (aE (aI (show aJ _ (aR K) from aS) (aB 0) aD (λ_ _=>rfl)) (aE (aI (show aJ _ (aR K) from aS) (aB 4) aD (λ_ _=>rfl)) (aE (aI (show aJ _ (aR K) from aS) (aB 5) aD (λ_ _=>rfl)) aF rfl) rfl) rfl)) aF rfl) rfl)) (by rfl) (by walk_at "f"))) al))) al) (@aP _ _ _ (eE (aB 6) (fS (aB 3) (dU Hs JX JY qX (aB 1) (aE (aI (show aJ _ (aR K) from aS) (aB 0) aD (λ_ _=>rfl)) aF rfl)) fC))))); ?_);refine(let W2:TS:=_; have hW2:bV XX ((bU jM).drop 2) W2:=(aM (ao (au bE (aI (show aJ _ (aR K) from aS) (aB 0) aD (λ_ _=>rfl)) aQ (am _)) (aM (@ag _ _ 4 _ _ _ _ iE.nd rfl (Or.inl rfl) (bC T.l_of Qd (hr.mono (by decide)) (aE (aI (show aJ _ (aR K) from aS) (aB 0) aD (λ_ _=>rfl)) (aE (aB 1) (aE (aB 2) aF rfl) rfl) rfl)) (by rfl) (by walk_at "f")) (aM (@ag _ _ 5 _ _ _ _ iE.nd rfl (Or.inl rfl) (bC T.l_of Qd (hr.mono (by decide)) (aE (aI (show aJ _ (aR K) from aS) (aB 0) aD (λ_ _=>rfl)) (aE (aB 1) (aE (aB 2) aF rfl) rfl) rfl)) (by rfl) (by walk_at "f")) hW2_2)) al) (@aP _ _ _ (@aa _ _ _ _ (aB 3)))); ?_);obtain⟨r,nl,vl,rg,ws,us,vw,rfl,hr_,hrg,hnl,hvl,hus,hl,h20,hv9,q⟩:=h;refine#[_,(aM (@ag _ _ 3 _ _ _ _ iE.nd rfl (Or.inl rfl) (d6 j3 (by rfl) T.b_list gp (aE (aB 2) aF rfl)) (by rfl) (by walk_at "f")) (aM (ao (au bE (aI (show aJ _ (aR K) from aS) (aB 0) aD (λ_ _=>rfl)) aQ (am _)) (@aP _ _ _ (eE (bC T.l_of Qd (hr.mono (by decide)) (aE (aI (show aJ _ (aR K) from aS) (aB 0) aD (λ_ _=>rfl)) (aE (aB 1) (aE (aB 2) aF rfl) rfl) rfl)) (fS (aB 3) (dU Hs JX JY qX (aB 1) (aE (aI (show aJ _ (aR K) from aS) (aB 0) aD (λ_ _=>rfl)) aF rfl)) fC))) al) hW2)),?_];refine#[_,rfl,vl,us,rfl,.inl (aK.of hvl),λl hlH=>?_];have s1:=aC.new (o:=.lst us) hlH;have e1:upd H l (.lst us) l=some (.lst us):=aL;generalize upd H l (.lst us)=H1 at s1 e1 ⊢;have lu:=Rk2.Ps.len hus;have hus1:Rk2.Ps (aX H1) us vw:=Rk2.Ps.imp (λ_ _ z=>aX.mono z s1) hus;have done:∀(x:Str) (o:Option Rk2.Tr) (v:V) (G:Hp),x∈ws->aC H1 G->aX G o v->dw ws vw rg=vw.set (ws.idxOf x) o->Q (.ref l) (upd G l (.lst (us.set (ws.idxOf x) v))):=λx o v G hx sG hv hB=>by have eG:=sG _ _ e1;exact q l _ (vw.set (ws.idxOf x) o) _ ((s1.trans sG).upd hlH) hlH aL (ag (ws.idxOf x) (Rk2.Ps.imp (λ_ _ z=>aX.lst eG (aX.mono z sG)) hus1) (aX.lst eG hv)) hB.symm
   have ixx:∀x∈ws,ca us.length ((ws.idxOf x:Nat):Int)=some (ws.idxOf x):=λx hx=>jA (by rw[lu,hl]; exact JG hx);cases rg with
   | copy x a =>
     obtain⟨hx,ha⟩:=hrg;obtain⟨o,ho,_⟩:=i0 ha hl hv9;have kx:=nW hx (by omega);refine#[_,rfl,r,_,_,_,rfl,rfl,s1.tup hr_,ai,rfl,_,rfl,aU (HK rfl) #[_,rfl,r,_,_,_,rfl,rfl,s1.tup hr_,rfl,_,rfl,_,rfl,a,nl,vl,ws,us,vw,o,rfl,ha,s1.seq hnl,aK.of (s1 _ _ hvl),hus1,hl,by omega,ho,λv G sG hv=>?_]];have sg:=s1.trans sG;refine#[_,rfl,_,rfl,.inl #[rfl,_,sg.seq hnl],_,rfl,r,_,_,_,rfl,rfl,sg.tup hr_,rfl,nl,_,_,ws.idxOf x,rfl,rfl,sg.seq hnl,kx.1,kx.2.1,kx.2.2.1,kx.2.2.2.1,kx.2.2.2.2,l,_,_,_,rfl,rfl,sG _ _ e1,ixx x hx,?_];have fin:=done x o v G hx sG hv (by show vw.set _ ((df (lk ws vw) (.copy x a)).getD none)=_; rw[show df (lk ws vw) (.copy x a)=some o from ho]; rfl);have hr4:aG K (upd G l (.lst (us.set (ws.idxOf x) v))) r (RG.copy x a).items:=(sg.upd hlH).tup hr_;exact#[_,rfl,r,_,_,_,rfl,rfl,hr4,ai,rfl,_,rfl,iN #[_,rfl,fin]]
   | op x s_ a b =>
     obtain⟨hx,hS,hsk,ha,hb⟩:=hrg;obtain⟨ol,hol,kol⟩:=i0 ha hl hv9;obtain⟨or,hor,kor⟩:=i0 hb hl hv9;have kx:=nW hx (by omega);have hmb:df (lk ws vw) (.op x s_ a b)=some (fI s_ ol or):=by show((cS (lk ws vw) a).bind λl=>(cS (lk ws vw) b).map λr=>fI s_ l r)=_;rw[hol,hor];rfl
     refine#[_,rfl,r,_,_,_,rfl,rfl,s1.tup hr_,ai,rfl,_,rfl,iN #[_,rfl,r,_,_,_,rfl,rfl,s1.tup hr_,ai,rfl,_,rfl,aU (HK rfl) #[_,rfl,r,_,_,_,rfl,rfl,s1.tup hr_,rfl,_,rfl,_,rfl,a,nl,vl,ws,us,vw,ol,rfl,ha,s1.seq hnl,aK.of (s1 _ _ hvl),hus1,hl,by omega,hol,λv1 G1 sG1 hv1=>?_]]];have sg1:=s1.trans sG1;refine#[_,rfl,r,_,_,_,rfl,rfl,sg1.tup hr_,rfl,_,rfl,_,rfl,b,nl,vl,ws,us,vw,or,rfl,hb,sg1.seq hnl,aK.of (sg1 _ _ hvl),Rk2.Ps.imp (λ_ _ z=>aX.mono z sG1) hus1,hl,by omega,hor,λv2 G2 sG2 hv2=>?_];have sG12:=sG1.trans sG2;have sg2:=s1.trans sG12;have hv1':=aX.mono hv1 sG2;refine#[λσ' G=>∃v,σ'=[some (.ref r),some (.ref nl),some (.ref vl),some (.ref l),some v1,some v2,some v]/\aC G2 G/\aX G (fI s_ ol or) v,?_,?_]
     . cases ol with
       | none =>
         cases hv1';exact#[_,rfl,_,rfl,jN (jN #[.non,rfl,aC.refl _,rfl])]
       | some tl =>
         refine#[_,rfl,_,rfl,aU (by obtain⟨p,rfl⟩:=fh hv1'; rfl) ?_];cases or with
         | none =>
           cases hv2;exact#[_,rfl,_,rfl,jN #[.non,rfl,aC.refl _,rfl]]
         | some tr =>
           refine#[_,rfl,_,rfl,aU (by obtain⟨p,rfl⟩:=fh hv2; rfl) ?_];refine#[_,rfl,r,_,_,_,rfl,rfl,sg2.tup hr_,rfl,_,rfl,_,rfl,cU,λc hc=>?_];have s3:=aC.new (o:=.tup [V.str s_,v1,v2]) hc;have e3:upd G2 c (.tup [V.str s_,v1,v2]) c=some (.tup [V.str s_,v1,v2]):=aL;generalize upd G2 c (.tup [V.str s_,v1,v2])=G3 at s3 e3 ⊢;have r1:=Rk2.RAt.mono s3 hv1';have r2:=Rk2.RAt.mono s3 hv2;obtain⟨pl,hd1,rest1,rfl,el,a1,a2⟩:=r1.head;obtain⟨pr,hd2,rest2,rfl,er,b1,b2⟩:=r2.head;have fin:((∀k,tl≠.num k)\/∀k,tr≠.num k)->aX G3 (fI s_ (some tl) (some tr)) (.ref c):=λhn=>by show Rk2.RAt G3 (Rk2.tog s_ tl tr) (.ref c);rw[Rk2.tog_op hn];exact#[c,_,_,rfl,e3,hS.1,hS.2,r1,r2]
           refine#[_,rfl,pl,_,_,_,rfl,rfl,aG.of el,ai,rfl,_,rfl,?_];by_cases m1:hd1="num"
           . refine aU (HK (Hb V.str m1)) #[_,rfl,pr,_,_,_,rfl,rfl,aG.of er,ai,rfl,_,rfl,?_];by_cases m2:hd2="num"
             . obtain⟨k1,z1,y1⟩:=a1 m1;obtain⟨k2,z2,y2⟩:=b1 m2;subst y1;subst y2;subst z1;subst z2;have w1:=Rk2.okl_num (kol _ rfl).1;have w2:=Rk2.okl_num (kor _ rfl).1;exact aU (HK (Hb V.str m2)) #[_,rfl,r,_,_,_,rfl,rfl,(sg2.trans s3).tup hr_,rfl,_,rfl,pl,_,_,_,rfl,rfl,aG.of el,rfl,_,rfl,pr,_,_,_,rfl,rfl,aG.of er,rfl,s_,k1,k2,rfl,w1.1,w2.1,w1.2,w2.2,aw,λc2 hc2=>#[_,rfl,s3.trans (aC.new hc2),#[c2,rfl,aL]]]
             . exact ak (λz=>m2 (V.str.inj (bM z))) #[_,rfl,s3,fin (.inr (b2 m2))]
           . exact ak (λz=>m1 (V.str.inj (bM z))) (jN #[_,rfl,s3,fin (.inl (a2 m1))])
     . rintro σ' G ⟨v,rfl,sG3,hv⟩;have sG:=sG12.trans sG3;have sg:=s1.trans sG;refine#[_,rfl,_,rfl,_,rfl,.inl #[rfl,_,sg.seq hnl],_,rfl,r,_,_,_,rfl,rfl,sg.tup hr_,rfl,nl,_,_,ws.idxOf x,rfl,rfl,sg.seq hnl,kx.1,kx.2.1,kx.2.2.1,kx.2.2.2.1,kx.2.2.2.2,l,_,_,_,rfl,rfl,sG _ _ e1,ixx x hx,?_];exact#[_,rfl,done x (fI s_ ol or) v G hx sG hv (by show vw.set _ ((df (lk ws vw) (.op x s_ a b)).getD none)=_; rw[hmb]; rfl)]
   | ifs a =>
     refine#[_,rfl,r,_,_,_,rfl,rfl,s1.tup hr_,ai,rfl,_,rfl,iN #[_,rfl,r,_,_,_,rfl,rfl,s1.tup hr_,ai,rfl,_,rfl,iN #[_,rfl,q l us vw H1 s1 hlH e1 hus1 rfl]]]
   | whl a =>
     refine#[_,rfl,r,_,_,_,rfl,rfl,s1.tup hr_,ai,rfl,_,rfl,iN #[_,rfl,r,_,_,_,rfl,rfl,s1.tup hr_,ai,rfl,_,rfl,iN #[_,rfl,q l us vw H1 s1 hlH e1 hus1 rfl]]]
   | _=>exact hrg.elim
theorem ja:FnScope ["_law_row","_law_cell","_law_exits","_law_names_here","_law_view_here","_law_boxes","_law_other","_law_one"] ["_law_row","_law_cell","_law_exits","_law_names_here","_law_view_here","_law_boxes"] (bD jx):=by walk_at "s"
theorem C9 (T:Txt K mg t):FnOk P w K mg base CX0 2 t.x9 t.yH ["_law_row","_law_cell","_law_exits","_law_names_here","_law_view_here","_law_boxes"] (BG K):=by
 have Qd:=mz (P:=P) (w:=w) (base:=base) T;have Qc:=mJ (P:=P) (w:=w) (base:=base) T;have Qq:=sU (P:=P) (w:=w) (base:=base) T;refine T.yn.F.ok ja (λvs H Q E h=>?_) (λcdv A outer s H vs Q E hr h=>?_)
 . obtain⟨r,el,nl,vl,bl,c,rg,k0,k1,ws,us,vw,bs,rfl,hr_,hrg,hel,hnl,hvl,hus,hl,h20,hv9,hB,hbs,q⟩:=h;rfl
 . skip
   refine lx ?_;intro XX;refine(let W4:TS:=_; have hW4:bV XX ((bU jx).drop 4) W4:=(aM (ao (au bE (@aN _ _ _ _ _ _ _ _ (aV bI) (aB 1) aD) aD (am _)) (@aP _ _ _ (@aa _ _ _ _ (aY (aE aQ (aE (aB 7) (aE (aI (show aJ _ (ae K) from af) (aB 2) aD (λ_ _=>rfl)) (aE (aI (show aJ _ (ae K) from af) (aB 2) aD (λ_ _=>rfl)) aF rfl) rfl) rfl) rfl)))) al) (aM (ao (au bE (@aN _ _ _ _ _ _ _ _ (aV bI) (aB 1) aD) aD (am _)) (@aP _ _ _ (@aa _ _ _ _ (aY (aE aQ (aE (aI (show aJ _ (ae K) from af) (aB 2) aD (λ_ _=>rfl)) aF rfl) rfl)))) al) (@aP _ _ _ (@aa _ _ _ _ (aY (aE aQ (aE (aB 7) (aE (aI (show aJ _ (ae K) from af) (aB 2) aD (λ_ _=>rfl)) (aE (aI (show aJ _ (ae K) from af) (aB 2) aD (λ_ _=>rfl)) aF rfl) rfl) rfl) rfl)))))); ?_);refine(let W2:TS:=_; have hW2:bV XX ((bU jx).drop 2) W2:=(cr (ao (@PW.pt _ _ _ (hU (dG (jL (aB 7))) (iZ (au bE (@aN _ _ _ _ _ _ _ _ (aV bI) (aB 1) aD) aD (am _))))) (@aP _ _ _ (@ag _ _ 7 _ _ _ _ ja.nd rfl (Or.inl rfl) (bC T.kI Qc (hr.mono (by decide)) (aE (@aN _ _ _ _ _ _ _ _ (aV bv) (aB 1) aD) (aE (aB 5) aF rfl) rfl)) (by rfl) (by walk_at "f"))) al) (cr (ao (au bE (@aN _ _ _ _ _ _ _ _ (aV bI) (aB 1) aD) aD (am _)) (@aP _ _ _ (@ag _ _ 7 _ _ _ _ ja.nd rfl (Or.inl rfl) (bC T.qt Qq (hr.mono (by decide)) (aE (aB 7) aF rfl)) (by rfl) (by walk_at "f"))) al) hW4)); ?_);obtain⟨r,el,nl,vl,bl,c,rg,k0,k1,ws,us,vw,bs,rfl,hr_,hrg,hel,hnl,hvl,hus,hl,h20,hv9,hB,hbs,q⟩:=h;refine#[_,(aM (ao (au fM (aI (show aJ _ (aR K) from aS) (aB 0) aD (λ_ _=>rfl)) (aY (aE aQ (aE aQ aF rfl) rfl)) (by with_unfolding_all rfl)) (aM (@ag _ _ 6 _ _ _ _ ja.nd rfl (Or.inl rfl) (aI (show aJ _ (ae K) from af) (bj (aE (aY (aE aQ (aE (aY (aE aQ (aE aD aF rfl) rfl)) (aE (aI (show aJ _ (ae K) from af) (aB 2) aD (λ_ _=>rfl)) aF rfl) rfl) rfl)) (aE (aY (aE aQ (aE dX (aE (aI (show aJ _ (ae K) from af) (aB 2) aD (λ_ _=>rfl)) aF rfl) rfl) rfl)) aF rfl) rfl)) (@aN _ _ _ _ _ _ _ _ (aV bI) (@aN _ _ _ _ _ _ _ _ (aV bv) (aB 1) aD) aD) (λ_ _=>rfl)) (by rfl) (by walk_at "f")) (@aP _ _ _ (@aa _ _ _ _ (aI (show aJ _ (ae K) from af) (bj (aE (aY (aE aQ (aE (aI (show aJ _ (ae K) from af) (aB 2) aD (λ_ _=>rfl)) aF rfl) rfl)) (aE (aB 6) aF rfl) rfl)) (@aN _ _ _ _ _ _ _ _ (aV bv) (@aN _ _ _ _ _ _ _ _ (aV bI) (aB 1) aD) aD) (λ_ _=>rfl))))) al) (aM (@ag _ _ 7 _ _ _ _ ja.nd rfl (Or.inl rfl) (bC T.l_of Qd (hr.mono (by decide)) (aE (aI (show aJ _ (aR K) from aS) (aB 0) aD (λ_ _=>rfl)) (aE (aB 3) (aE (aB 4) aF rfl) rfl) rfl)) (by rfl) (by walk_at "f")) hW2)),?_];have b20:=cy c 20 (by decide);have b2:=cy (c / 20) 2 (by decide);rcases jV hrg with⟨n_,hgv,_⟩|⟨ht,a,hy,hat⟩
   . obtain⟨kd_,rest_,hit,hkd⟩:=lZ hgv;rw[hit] at hr_;refine#[_,rfl,r,_,_,_,rfl,rfl,hr_,ai,aw,λp1 h1=>#[p1,_,rfl,.inr (aG.of aL),rfl,rfl,_,rfl,aU (pS hkd) ?_]];generalize e:upd H p1 _=H1;have s1:=(nw e h1).1;refine#[aw,λp2 h2=>?_];have s2:=s1.trans (aC.new (o:=.tup [V.str "num",V.int 0]) h2);have e2:upd H1 p2 (.tup [V.str "num",V.int 0]) p2=_:=aL;generalize upd H1 p2 (.tup [V.str "num",V.int 0])=H2 at s2 e2 ⊢;refine#[_,rfl,el,_,_,_,rfl,rfl,s2.seq hel,ai,cU,λp3 h3=>?_];have s23:=aC.new (o:=.tup [V.str "out",.ref p2,V.int (k0:Int)]) h3;have s3:=s2.trans s23;have e3:upd H2 p3 (.tup [V.str "out",.ref p2,V.int (k0:Int)]) p3=_:=aL;generalize upd H2 p3 (.tup [V.str "out",.ref p2,V.int (k0:Int)])=H3 at s23 s3 e3 ⊢;refine#[_,rfl,el,_,_,_,rfl,rfl,s3.seq hel,ai,cU,λp4 h4=>#[aw,λp5 h5=>?_]];have s34:=aC.new (o:=.tup [V.str "new",.non,V.int (k0:Int)]) h4;have s45:=aC.new (o:=.lst [V.ref p3,V.ref p4]) h5;have e4:=s45 _ _ (show upd H3 p4 (.tup [V.str "new",.non,V.int (k0:Int)]) p4=_ from aL);have s5:=(s3.trans s34).trans s45;have s35:=s34.trans s45;have e5:upd (upd H3 p4 (.tup [V.str "new",.non,V.int (k0:Int)])) p5 (.lst [V.ref p3,V.ref p4]) p5=_:=aL;generalize upd (upd H3 p4 (.tup [V.str "new",.non,V.int (k0:Int)])) p5 (.lst [V.ref p3,V.ref p4])=H5 at e4 s5 s35 e5 ⊢;obtain⟨v6,a6,b6⟩:=lO (x:=V.ref p3) (y:=V.ref p4) b2.1 b2.2;refine#[_,rfl,_,_,rfl,rfl,#[by decide,by decide],_,_,rfl,rfl,(show(0:Int)<2 by decide),p5,_,_,_,rfl,rfl,aK.of e5,a6,?_];refine#[_,rfl,el,_,_,_,rfl,rfl,s5.seq hel,ai,aw,λp6 h6=>#[_,rfl,aw,λp7 h7=>?_]];have s6:=aC.new (o:=.tup [V.str "go",V.int (k0:Int)]) h6;have s7:=aC.new (o:=.lst [V.ref p6,v6]) h7;have s67:=s6.trans s7;have e6:=s7 _ _ (show upd H5 p6 (.tup [V.str "go",V.int (k0:Int)]) p6=_ from aL);obtain⟨v7,a7,b7⟩:=lO (x:=V.ref p6) (y:=v6) (i:=c%20 / 18) (by omega) (by omega);refine#[_,rfl,_,_,rfl,rfl,(show(0:Int)<20 by decide),_,_,rfl,rfl,#[by decide,by decide],p7,_,_,_,rfl,rfl,aK.of aL,a7,?_];rcases b7 with rfl|rfl
     . exact q p6 _ _ (s5.trans s67) (aG.of e6) (.inl rfl)
     . rcases b6 with rfl|rfl
       . exact q p3 _ _ (s5.trans s67) (aG.of ((s35.trans s67) _ _ e3)) (.inr (.inl #[#[_,hgv],"out",_,.inl #[rfl,p2,rfl,((s23.trans s35).trans s67) _ _ e2],rfl]))
       . exact q p4 _ _ (s5.trans s67) (aG.of (s67 _ _ e4)) (.inr (.inl #[#[_,hgv],"new",_,.inr #[rfl,rfl],rfl]))
   . obtain⟨kd_,hit,hkd⟩:=lV hy;rw[hit] at hr_;refine#[_,rfl,r,_,_,_,rfl,rfl,hr_,ai,aw,λp1 h1=>#[p1,_,rfl,.inr (aG.of aL),rfl,rfl,_,rfl,ak (qI hkd) ?_]];generalize e:upd H p1 _=H1;have s1:=(nw e h1).1;obtain⟨o,ho,ko⟩:=i0 hat hl hv9;refine#[_,rfl,r,_,_,_,rfl,rfl,s1.tup hr_,rfl,_,rfl,_,rfl,a,nl,vl,ws,us,vw,o,rfl,hat,s1.seq hnl,s1.seq hvl,Rk2.Ps.imp (λ_ _ z=>aX.mono z s1) hus,hl,by omega,ho,λv G sG hv=>?_];have s2:=s1.trans sG;have sm:∀(R':V->Hp->Prop),True:=λ_=>trivial;refine#[λσ' G=>∃(t:Rk2.Tr) (v:V),σ'=[some (.ref r),some (.int c),some (.ref el),some (.ref nl),some (.ref vl),some (.ref bl),none,some v]/\aC H G/\Rk2.RAt G t v/\bp t,?_,?_]
     . cases o with
       | none =>
         cases hv;exact#[_,rfl,_,rfl,aU rfl (aU rfl #[_,rfl,_,_,rfl,rfl,#[by decide,by decide],_,rfl,_,bl,bs,rfl,s2.seq hB,hbs,λtr v4 H4 s4 r4 t4=>#[tr,v4,rfl,s2.trans s4,r4,St.TOk.tr t4]])]
       | some tr =>
         refine#[_,rfl,_,rfl,ak (by obtain⟨p,rfl⟩:=fh hv; simp) #[_,rfl,_,_,rfl,rfl,(show(0:Int)<20 by decide),rfl,_,rfl,?_]];by_cases h0:c%20=0
         . exact aU (HK (Hb V.int h0)) #[_,rfl,_,_,rfl,rfl,#[by decide,by decide],_,rfl,_,bl,bs,rfl,s2.seq hB,hbs,λtr v4 H4 s4 r4 t4=>#[tr,v4,rfl,s2.trans s4,r4,St.TOk.tr t4]]
         . exact ak (λz=>h0 (V.int.inj (bM z))) #[tr,v,rfl,s2,hv,(ko tr rfl).ok]
     clear hv sG s2 v G;rintro σ' G ⟨tr,v,rfl,s2,hv,tk⟩;refine#[λσ' G=>∃(t:Rk2.Tr) (v:V),σ'=[some (.ref r),some (.int c),some (.ref el),some (.ref nl),some (.ref vl),some (.ref bl),none,some v]/\aC H G/\Rk2.RAt G t v/\bp t,?_,?_]
     . refine#[_,rfl,_,_,rfl,rfl,(show(0:Int)<20 by decide),rfl,_,rfl,?_];by_cases h0:c%20=4
       . refine aU (HK (Hb V.int h0)) #[_,rfl,some tr,v,rfl,hv,.of tk,λo4 v4 H4 s4 r4 k4 _ k5=>?_];obtain⟨u,rfl⟩:=k5 tr rfl;exact#[u,v4,rfl,s2.trans s4,r4,k4 u rfl]
       . exact ak (λz=>h0 (V.int.inj (bM z))) #[tr,v,rfl,s2,hv,tk]
     clear hv tk s2 v G tr;rintro σ' G ⟨tr,v,rfl,s2,hv,tk⟩;refine#[_,rfl,_,_,rfl,rfl,(show(0:Int)<20 by decide),rfl,_,rfl,?_];by_cases h1:c%20=1
     . exact aU (HK (Hb V.int h1)) #[_,rfl,_,rfl,el,_,_,_,rfl,rfl,s2.seq hel,rfl,_,rfl,el,_,_,_,rfl,rfl,s2.seq hel,ai,dZ,λp hp=>q p _ _ (s2.trans (aC.new hp)) (aG.of aL) (.inr (.inr #[ht,tr,v,k1,k0,hv.mono (aC.new hp),tk,.inr #[rfl,rfl],rfl]))]
     refine ak (λz=>h1 (V.int.inj (bM z))) #[_,rfl,_,_,rfl,rfl,(show(0:Int)<20 by decide),rfl,_,rfl,?_];by_cases h2:c%20=2
     . exact aU (HK (Hb V.int h2)) #[_,rfl,el,_,_,_,rfl,rfl,s2.seq hel,ai,aw,λp hp=>q p _ _ (s2.trans (aC.new hp)) (aG.of aL) (.inl rfl)]
     . exact ak (λz=>h2 (V.int.inj (bM z))) #[_,rfl,_,rfl,el,_,_,_,rfl,rfl,s2.seq hel,ai,_,rfl,el,_,_,_,rfl,rfl,s2.seq hel,rfl,dZ,λp hp=>q p _ _ (s2.trans (aC.new hp)) (aG.of aL) (.inr (.inr #[ht,tr,v,k0,k1,hv.mono (aC.new hp),tk,.inl #[rfl,rfl],rfl]))]
theorem qf:FnScope ["_law_row","_law_act_here","_law_spots","_law_marks","_law_chains","_law_known","_law_news_here","_law_names_here","_law_there","_law_k"] ["_law_row","_law_act_here","_law_spots","_law_marks","_law_chains","_law_known","_law_news_here","_law_names_here"] (bD jg):=by walk_at "s"
theorem F5 (T:Txt K mg t):FnOk P w K mg base CX0 15 t.xE t.yM ["_law_row","_law_act_here","_law_spots","_law_marks","_law_chains","_law_known","_law_news_here","_law_names_here"] (A6 K):=by
 have Qd:=mz (P:=P) (w:=w) (base:=base) T;have Qt:=BL (P:=P) (w:=w) (base:=base) T;refine T.yr.F.ok qf (λvs H Q E h=>?_) (λcdv A outer s H vs Q E hr h=>?_)
 . obtain⟨r,a,sA,mA,cA,kA,d,nA,svs,mvs,cvs,kl,ks,Ms,chs,Kn,g,ws,rg,as,b,rfl,hT,hr_,ha,hD,q⟩:=h;rfl
 . skip
   refine lx ?_;intro XX;refine(let W3:TS:=_; have hW3:bV XX ((bU jg).drop 3) W3:=(aM (cj PassesOwn.never rfl (g8 rfl T.b_range (aE aD aF rfl)) (bS (i:=9) qf.nd rfl (Or.inl rfl)) (@aP _ _ _ (ao (gk (jc (bC T.qr Qt (hr.mono (by decide)) (aE (aI (show aJ _ (ae K) from af) (aB 2) (aI (show aJ _ (aR K) from aS) (aB 1) (@aN _ _ _ _ _ _ _ _ (bf cM) aD (aB 9)) (λ_ _=>rfl)) (λ_ _=>rfl)) (aE (aI (show aJ _ (ae K) from af) (aB 3) (aI (show aJ _ (aR K) from aS) (aB 1) (@aN _ _ _ _ _ _ _ _ (bf cM) aD (aB 9)) (λ_ _=>rfl)) (λ_ _=>rfl)) (aE (aI (show aJ _ (ae K) from af) (aB 4) (aB 9) (λ_ _=>rfl)) (aE (aB 5) (aE (aB 6) aF rfl) rfl) rfl) rfl) rfl)))) (@aP _ _ _ (@aa _ _ _ _ d9)) al))) (@aP _ _ _ (@aa _ _ _ _ d9))); ?_);refine(let W2:TS:=_; have hW2:bV XX ((bU jg).drop 2) W2:=(aM (ao (@PW.pt _ _ _ (hU (au rn (aI (show aJ _ (aR K) from aS) (aB 1) aD (λ_ _=>rfl)) aQ (am _)) (hU (dG (jL (aB 8))) (iZ (au (gI hr.units) (aI (show aJ _ (aR K) from aS) (aB 1) aD (λ_ _=>rfl)) (aB 8) (am _)))))) (@aP _ _ _ (@aa _ _ _ _ d9)) al) hW3); ?_);obtain⟨r,a,sA,mA,cA,kA,d,nA,svs,mvs,cvs,kl,ks,Ms,chs,Kn,g,ws,rg,as,b,rfl,hT,hr_,ha,hD,q⟩:=h;refine#[_,(aM (ao (au fM (aI (show aJ _ (aR K) from aS) (aB 0) aD (λ_ _=>rfl)) (aY (aE aQ (aE aQ aF rfl) rfl)) (by with_unfolding_all rfl)) (aM (ao (au rn (aI (show aJ _ (aR K) from aS) (aB 1) aD (λ_ _=>rfl)) aQ (am _)) (@aP _ _ _ (@aa _ _ _ _ d9)) al) (@aP _ _ _ (@aa _ _ _ _ (bC T.qr Qt (hr.mono (by decide)) (aE (aI (show aJ _ (ae K) from af) (aB 2) (aI (show aJ _ (aR K) from aS) (aB 1) aD (λ_ _=>rfl)) (λ_ _=>rfl)) (aE (aI (show aJ _ (ae K) from af) (aB 3) (aI (show aJ _ (aR K) from aS) (aB 1) aD (λ_ _=>rfl)) (λ_ _=>rfl)) (aE (aI (show aJ _ (ae K) from af) (aB 4) aD (λ_ _=>rfl)) (aE (aB 5) (aE (aB 6) aF rfl) rfl) rfl) rfl) rfl))))) al) (aM (@ag _ _ 8 _ _ _ _ qf.nd rfl (Or.inl rfl) (bC T.l_of Qd (hr.mono (by decide)) (aE (aI (show aJ _ (aR K) from aS) (aB 0) aD (λ_ _=>rfl)) (aE (aB 7) (aE (aI (show aJ _ (ae K) from af) (aB 5) (cq cn aD) (λ_ _=>rfl)) aF rfl) rfl) rfl)) (by rfl) (by walk_at "f")) hW2)),?_];have hgt:(∃n,RG.gives n rg)\/∃y,rg=.ifs y\/rg=.whl y:=by
     cases hD with
     | no h=>exact .inr #[_,h]
     | go h=>exact .inl h
     | ot h=>exact .inl h
     | tu h=>exact .inr #[_,h]
   rcases hgt with⟨n_,hgv⟩|⟨y,hy⟩
   . obtain⟨kd_,rest_,hit,hkd⟩:=lZ hgv;rw[hit] at hr_;refine#[_,rfl,r,_,_,_,rfl,rfl,hr_,ai,aw,λp1 h1=>#[p1,_,rfl,.inr (aG.of aL),rfl,rfl,_,rfl,aU (pS hkd) ?_]];generalize e:upd H p1 _=H1;have s1:=(nw e h1).1;have hT:=hT.mono s1;have ha:=s1.tup ha;cases hD with
     | no hg=>exact(kW hgv hg).elim
     | tu hg=>exact(kW hgv hg).elim
     | ot hg e ng =>
       subst e;exact#[_,rfl,a,_,_,_,rfl,rfl,ha,ai,rfl,_,rfl,aU (by rw[Bool.not_eq_true',decide_eq_false_iff_not]; exact λz=>ng (V.str.inj z)) (q H1 s1)]
     | go hg e h1 h2 h3 =>
       subst e;obtain⟨sv,sv1,sv2⟩:=Ps.get hT.ss h1;obtain⟨mv,mv1,mv2⟩:=Ps.get hT.ms h2;obtain⟨cv,cv1,cv2⟩:=Ps.get hT.cs h3;exact#[_,rfl,a,_,_,_,rfl,rfl,ha,ai,rfl,_,rfl,jN #[_,rfl,_,rfl,a,_,_,_,rfl,rfl,ha,rfl,sA,_,_,_,rfl,rfl,hT.s,bt sv1,_,rfl,_,rfl,a,_,_,_,rfl,rfl,ha,rfl,mA,_,_,_,rfl,rfl,hT.m,bt mv1,_,rfl,cA,_,_,_,rfl,rfl,hT.c,(bt (j:=0) cv1),_,rfl,_,rfl,_,_,_,kA,d,_,_,_,kl,Kn,g,rfl,sv2,mv2,cv2,hT.k,hT.kk,hT.g,hT.ok _ (HP h2) _ (HP h3),λH2 s2=>q H2 (s1.trans s2)]]
   . obtain⟨kd_,hit,hkd⟩:=lV hy;rw[hit] at hr_;refine#[_,rfl,r,_,_,_,rfl,rfl,hr_,ai,aw,λp1 h1=>#[p1,_,rfl,.inr (aG.of aL),rfl,rfl,_,rfl,ak (qI hkd) ?_]];generalize e:upd H p1 _=H1;have s1:=(nw e h1).1;have hT:=hT.mono s1;have ha:=s1.tup ha;have hr_:=s1.tup hr_;cases hD with
     | go h=>obtain⟨_,h⟩:=h; exact(kW h hy).elim
     | ot h=>obtain⟨_,h⟩:=h; exact(kW h hy).elim
     | @no k a_ o K0 kn hg e hK hkn hat hpl =>
       obtain rfl:y=a_:=by rcases hy with rfl|rfl <;> rcases hg with h|h <;> cases h <;> rfl
       subst e;obtain⟨kl',u,hkl',hkp,vl,us,rfl,hvl,hus⟩:=St.Ps.split1 (hK ▸ hT.kk);have hkl:bQ kl (-1)=some (.ref vl):=by rw[hkl']; exact gY _ _
       refine#[_,rfl,r,_,_,_,rfl,rfl,hr_,rfl,_,rfl,_,rfl,_,rfl,kA,_,_,_,rfl,rfl,hT.k,hkl,_,nA,vl,ws,us,kn,o,rfl,hat,hT.n,hvl,hus,hkn,by have:=hT.l; omega,hpl,λv2 G sG hv2=>?_];exact#[_,rfl,a,_,_,_,rfl,rfl,sG.tup ha,ai,rfl,_,rfl,aU (by decide) (aU rfl (q G (s1.trans sG)))]
     | @tu a_ v o tr j0 j1 d0 d1 L0 L1 c0 c1 K0 kn hg e hv tok hK hkn hat hpl hok k0 m0 f0 k1 m1 f1 =>
       obtain rfl:y=a_:=by rcases hy with rfl|rfl <;> rcases hg with h|h <;> cases h <;> rfl
       subst e;obtain⟨kl',u,hkl',hkp,vl,us,rfl,hvl,hus⟩:=St.Ps.split1 (hK ▸ hT.kk);have hkl:bQ kl (-1)=some (.ref vl):=by rw[hkl']; exact gY _ _
       refine#[_,rfl,r,_,_,_,rfl,rfl,hr_,rfl,_,rfl,_,rfl,_,rfl,kA,_,_,_,rfl,rfl,hT.k,hkl,_,nA,vl,ws,us,kn,o,rfl,hat,hT.n,hvl,hus,hkn,by have:=hT.l; omega,hpl,λv2 G sG hv2=>?_];have hT:=hT.mono sG;have ha:=sG.tup ha;have s2:=s1.trans sG;have hv:=Rk2.RAt.mono s2 hv;refine#[_,rfl,a,_,_,_,rfl,rfl,ha,ai,rfl,_,rfl,jN ?_];cases o with
       | none =>
         cases hv2;exact#[_,rfl,_,rfl,aU rfl (aU rfl (q G s2))]
       | some tr2 =>
       refine#[_,rfl,_,rfl,ak (by obtain⟨p,rfl⟩:=fh hv2; simp) #[_,rfl,a,_,_,_,rfl,rfl,ha,rfl,_,rfl,lY (o:=some tr2) (tok.lay.mono (by decide)) hok hv hv2 #[_,rfl,?_]]];cases hE:eC tr (some tr2) with
       | false =>
         rw[hE] at q;exact aU rfl (q G s2)
       | true =>
       rw[hE,Ir] at q;refine jN #[_,rfl,by decide,by decide,(let Jv1:Nat->St->Hp->Prop:=λi σ G2=>∃v9,σ=[some (.ref r),some (.ref a),some (.ref sA),some (.ref mA),some (.ref cA),some (.ref kA),some (.ref d),some (.ref nA),some v2,v9]/\aC G G2/\(0<i->fA g d0 L0 c0 Kn=true)/\(1<i->fA g d1 L1 c1 Kn=true); gq (lo:=0) (n:=2) Jv1 #[_,rfl,aC.refl _,λh=>absurd h (IC _),λh=>absurd h (by decide)] ?_ ?_)]
       . rintro i σ G2 hi ⟨v9,rfl,s3,g0,g1⟩;have hT:=hT.mono s3;have ha:=s3.tup ha;obtain rfl|rfl:i=0\/i=1:=by omega
         . obtain⟨sv,sv1,sv2⟩:=Ps.get hT.ss k0;obtain⟨mv,mv1,mv2⟩:=Ps.get hT.ms m0;obtain⟨cv,cv1,cv2⟩:=Ps.get hT.cs f0;refine#[_,rfl,_,rfl,_,rfl,_,_,rfl,rfl,a,_,_,_,rfl,rfl,ha,rfl,sA,_,_,_,rfl,rfl,hT.s,bt sv1,_,rfl,_,rfl,_,rfl,_,_,rfl,rfl,a,_,_,_,rfl,rfl,ha,rfl,mA,_,_,_,rfl,rfl,hT.m,bt mv1,_,rfl,_,rfl,cA,_,_,_,rfl,rfl,hT.c,(bt (j:=0) cv1),_,rfl,_,rfl,_,_,_,kA,d,_,_,_,kl,Kn,g,rfl,sv2,mv2,cv2,hT.k,hT.kk,hT.g,hT.ok _ (HP m0) _ (HP f0),λH2 s4=>#[_,rfl,?_]];cases hB:fA g d0 L0 c0 Kn with
           | true=>exact jN #[_,rfl,s3.trans s4,λ_=>hB,λh=>absurd h (by decide)]
           | false =>
             rw[hB] at q;exact aU rfl (q H2 ((s2.trans s3).trans s4))
         . obtain⟨sv,sv1,sv2⟩:=Ps.get hT.ss k1;obtain⟨mv,mv1,mv2⟩:=Ps.get hT.ms m1;obtain⟨cv,cv1,cv2⟩:=Ps.get hT.cs f1;refine#[_,rfl,_,rfl,_,rfl,_,_,rfl,rfl,a,_,_,_,rfl,rfl,ha,rfl,sA,_,_,_,rfl,rfl,hT.s,bt sv1,_,rfl,_,rfl,_,rfl,_,_,rfl,rfl,a,_,_,_,rfl,rfl,ha,rfl,mA,_,_,_,rfl,rfl,hT.m,bt mv1,_,rfl,_,rfl,cA,_,_,_,rfl,rfl,hT.c,(bt (j:=1) cv1),_,rfl,_,rfl,_,_,_,kA,d,_,_,_,kl,Kn,g,rfl,sv2,mv2,cv2,hT.k,hT.kk,hT.g,hT.ok _ (HP m1) _ (HP f1),λH2 s4=>#[_,rfl,?_]];cases hB:fA g d1 L1 c1 Kn with
           | true=>exact jN #[_,rfl,s3.trans s4,λ_=>g0 (by decide),λ_=>hB]
           | false =>
             rw[hB,Jv] at q;exact aU rfl (q H2 ((s2.trans s3).trans s4))
       . rintro σ G2 ⟨v9,rfl,s3,g0,g1⟩;rw[g0 (by decide),g1 (by decide)] at q;exact q G2 (s2.trans s3)
theorem C3:FnScope ["_law_cell","_law_known","_law_news_here","_law_boxes","_law_calm"] ["_law_cell","_law_known","_law_news_here","_law_boxes","_law_calm"] (bD qZ):=by walk_at "s"
theorem BZ (T:Txt K mg t):FnOk P w K mg base CX0 15 t.xI t.yQ ["_law_cell","_law_known","_law_news_here","_law_boxes","_law_calm"] (CO K):=by
 have QO:=EG (P:=P) (w:=w) (base:=base) T;refine T.yw.F.ok C3 (λvs H Q E h=>?_) (λcdv A outer s H vs Q E hr h=>?_)
 . obtain⟨c,kl,nd,bl,ks,Kn,g,bs,cm,rfl,hk,hu,hok,hlen,hN,hB,hbs,q⟩:=h;rfl
 . obtain⟨c,kl,nd,bl,ks,Kn,g,bs,cm,rfl,hk,hu,hok,hlen,hN,hB,hbs,q⟩:=h;refine#[_,(aM (@aa _ _ _ _ (gO (N':=["_law_m","_law_news_here","_law_boxes","_law_calm","_law_cell","_law_known"]) (js:=[none,some 2,some 3,some 4,some 0,some 1]) (by kernel_rfl) rfl (g8 rfl T.b_range (aE (cP (show bx _ (.builtin "len") (cb K) from ck) (by rfl) T.b_len cW (aE (aB 1) aF rfl)) aF rfl)) fP (λ_ _ _ _=>(bS (i:=0) (show(["_law_m","_law_news_here","_law_boxes","_law_calm","_law_cell","_law_known"]:List Str).Nodup by decide +kernel) rfl (Or.inl rfl) (.inr rfl))) (λ_ _ _ _=>fQ) (λ_ _ _ _=>(bC T.yu QO (hr.mono (by decide)) (aE (@aN _ _ _ _ _ _ _ _ (bf cM) (aB 4) (@aN _ _ _ _ _ _ _ _ (aV dm) aD (aB 0))) (aE (aI (show aJ _ (ae K) from af) (aB 5) (aB 0) (λ_ _=>rfl)) (aE (aB 1) (aE (aB 2) (aE (aB 3) aF rfl) rfl) rfl) rfl) rfl))))) al),?_];have lu:=Rk2.Ps.len hu;refine#[_,rfl,kl,_,rfl,.inl hk,_,rfl,by omega,by omega,λpL hpL=>zV (lo:=0) (n:=ks.length) (λi G v=>∃kn vw,Kn[i]?=some kn/\ik H G vw v/\vw.length=kn.length/\bo vw) (λi v G G' s ⟨kn,vw,a,b,c,d⟩=>#[kn,vw,a,b.mono s,c,d]) (by omega) hpL ?_ ?_]
   . rintro i H2 R_ hi s2 ⟨acc,e2⟩ k2;obtain⟨u,kn,a1,a2,vl,us,rfl,hvl,hus⟩:=Rk2.Ps.at hu (n:=i) (by omega);have ok:=hok kn (HP a2);have a1':bQ ks (0+(i:Int))=some (.ref vl):=by rw[KM]; exact bt a1
     refine#[_,rfl,_,rfl,_,_,rfl,rfl,.inl #[by decide,by decide],_,_,rfl,rfl,_,rfl,_,rfl,kl,_,_,_,rfl,rfl,s2.seq hk,a1',_,rfl,_,rfl,_,rfl,_,vl,nd,bl,us,kn,g,bs,cm,rfl,s2.seq hvl,Rk2.Ps.imp (λ_ _ z=>aX.mono z s2) hus,ok.1,ok.2,hN.mono s2,s2.seq hB,hbs,λl us' vw H3 s3 n3 e3 p3 k3=>k2 _ _ s3 #[kn,vw,a2,(let ⟨l,us,z1,z2,z3⟩:=dB.erl (s3 _ _ e2) e3 (λz=>by rw[z,e2] at n3; cases n3) p3; #[l,us,z1,(by cases z1; exact s2.free n3),z2,z3]),k3]]
   . rintro H2 vs s2 e2 l2 t2;obtain⟨Vs,v1,v2,v3⟩:=nR (P:=λi vw v=>∃kn,Kn[i]?=some kn/\ik H (ers pL H2) vw v/\vw.length=kn.length/\bo vw) λi v h=>let ⟨kn,vw,a⟩:=t2 i v h; #[vw,kn,a]
     refine q pL vs Vs H2 s2 hpL e2 (Rk2.Ps.imp (λ_ _ ⟨_,_,_,b,_⟩=>b.mono dH) v3) (BD (by omega) λi x h=>let ⟨_,_,kn,a,_,b,_⟩:=v2 i x h; #[kn,a,b]) λvw hv=>?_;obtain⟨i,hi⟩:=Im hv;obtain⟨_,_,kn,_,_,_,b⟩:=v2 i vw hi;exact b
theorem qH:FnScope ["_law_program","_law_spots","_law_marks","_law_k","_law_due_here","_law_handed","_law_found"] ["_law_program","_law_spots","_law_marks","_law_k","_law_due_here"] (bD lT):=by walk_at "s"
theorem zc (T:Txt K mg t):FnOk P w K mg base CX0 20 t.xA t.yI ["_law_program","_law_spots","_law_marks","_law_k","_law_due_here"] (BJ K t):=by
 have QP:=DA (P:=P) (w:=w) (base:=base) T;refine T.yo.F.ok qH (λvs H Q E h=>?_) (λcdv A outer s H vs Q E hr h=>?_)
 . obtain⟨p,sp,mk,a,k,A_,rg,v,w_,b,rfl,hP,n0,n12,hE,nd,hT,hM,hv,hSp,ha,hf,h10,hO,hw,hR,hW,hS,hd1,hd2,hmp,hml,q⟩:=h;rfl
 . skip
   refine lx ?_;intro XX;refine(let W1:TS:=_; have hW1:bV XX ((bU lT).drop 1) W1:=(aM (@ag _ _ 6 _ _ _ _ qH.nd rfl (Or.inl rfl) (bC T.spot_holds QP (hr.mono (by decide)) (aE (aI (show aJ _ (ae K) from af) (aB 5) aD (λ_ _=>rfl)) (aE (aI (show aJ _ (ae K) from af) (aB 5) aD (λ_ _=>rfl)) (aE (aI (show aJ _ (ae K) from af) (aB 5) aD (λ_ _=>rfl)) (aE (aB 3) aF rfl) rfl) rfl) rfl)) (by rfl) (by walk_at "f")) (@aP _ _ _ (@aa _ _ _ _ (lF (cP mC (by rfl) T.b_isinstance mE (aE (aB 6) (aE (lX (v:=V.ty "bool") rfl T.b_bool Dq rfl) aF rfl) rfl)) (lF (gr bE (aB 6) (aB 4) (am _)) (oN (gr (nQ hr.units) (aB 5) (bj (aE (aB 0) (aE (aB 1) (aE (aB 2) aF rfl) rfl) rfl)) (am _)))))))); ?_);obtain⟨p,sp,mk,a,k,A_,rg,v,w_,b,rfl,hP,n0,n12,hE,nd,hT,hM,hv,hSp,ha,hf,h10,hO,hw,hR,hW,hS,hd1,hd2,hmp,hml,q⟩:=h;refine#[_,(aM (@ag _ _ 5 _ _ _ _ qH.nd rfl (Or.inl rfl) (bj (aE (d6 j3 (by rfl) T.b_list gp (aE (aB 0) aF rfl)) (aE (d6 j3 (by rfl) T.b_list gp (aE (aB 1) aF rfl)) (aE (gO (N':=["_law_chain","_law_parts"]) (js:=[none,none]) (by kernel_rfl) rfl (gG (aB 2)) (wV (lA (lA rO))) (λ_ _ _ _=>(show PG _ _ (mK K 2 _) from dn (n:=2) rfl (c7 (bS (i:=0) (show(["_law_chain","_law_parts"]:List Str).Nodup by decide +kernel) rfl (Or.inl rfl) (.inr rfl)) (c7 (bS (i:=1) (show(["_law_chain","_law_parts"]:List Str).Nodup by decide +kernel) rfl (Or.inl rfl) (.inr rfl)) di)))) (λ_ _ _ _=>fQ) (λ_ _ _ _=>(aY (aE (aB 0) (aE (gO (N':=["_law_part"]) (js:=[none]) (by kernel_rfl) rfl (D8 (λK=>tq K _) rfl (gG (aB 1))) fP (λ_ _ _ _=>(bS (i:=0) (show(["_law_part"]:List Str).Nodup by decide +kernel) rfl (Or.inl rfl) (.inr rfl))) (λ_ _ _ _=>fQ) (λ_ _ _ _=>(d6 (show bx _ (.type "list") (Cf K) from j3) (by rfl) T.b_list gp (aE (aB 0) aF rfl)))) aF rfl) rfl)))) aF rfl) rfl) rfl)) (by rfl) (by walk_at "f")) hW1),?_];have lm:=Rk2.Ps.len hmp;refine#[_,rfl,p,_,rfl,.inl hP,λl1 k1=>#[_,rfl,sp,_,rfl,.inl ((aC.new k1).seq hT.s),λl2 k2=>?_]];have s2:=(aC.new (o:=.lst (A_.fns.map λf=>V.ref f.fa)) k1).trans (aC.new (o:=.lst A_.svs) k2);have e1:=aC.new (o:=.lst A_.svs) k2 _ _ (show upd H l1 (.lst (A_.fns.map λf=>V.ref f.fa)) l1=_ from aL);have e2:upd (upd H l1 (.lst (A_.fns.map λf=>V.ref f.fa))) l2 (.lst A_.svs) l2=_:=aL;generalize upd (upd H l1 (.lst (A_.fns.map λf=>V.ref f.fa))) l2 (.lst A_.svs)=H2 at s2 e1 e2 ⊢;refine#[_,rfl,mk,rfl,#[_,s2.seq hT.m],λpL hpL=>oT (xs:=A_.mvs) (λi G v=>∃o,A_.mvs[i]?=some o/\gN K H G o v) (λi v G G' s ⟨o,a,b⟩=>#[o,a,b.mono s]) (by omega) (s2.seq hT.m) hpL ?_ ?_ (by intro _ _ _ _ h z; obtain⟨p,ys,e1,e2,e3,y1,r1,e4,y2,r2,e5,e6,z⟩:=z; exact#[p,ys,e1,e2,e3,y1,r1,e4,y2,r2,e5,e6,h _ _ z])]
   . rintro i x G R_ hx sG ⟨acc,eacc⟩ kk;obtain⟨u,L,a1,a2,q0,c,w,ws,rfl,m1,m2,m3,m4⟩:=Rk2.Ps.at hmp (n:=i) (by have:=(HL.mp hx).1; omega);rw[hx] at a1;cases a1;have s0:aC H G:=s2.trans sG;refine#[q0,_,rfl,aG.of (s0 _ _ m1),rfl,_,_,rfl,_,_,rfl,rfl,?_];have lw:=Rk2.Ps.len m4;refine#[_,rfl,_,rfl,w,rfl,#[_,aK.of (s0 _ _ m3)],λpI hpI=>oT (xs:=ws) (λj G' v=>(∃o,ws[j]?=some o/\hJ K H G' o v)/\v≠.ref pL) (λj v G G' s ⟨⟨o,a,b⟩,n⟩=>#[#[o,a,b.mono s],n]) ?_ (aK.of (s0 _ _ m3)) hpI ?_ ?_]
     . have:=(hT.l L (HP a2)).1;have e:(dE L).vs.length=L.length:=HH _;omega
     . rintro j y G2 R2 hy sG2 ⟨acc2,eacc2⟩ kk2;obtain⟨u2,vw,b1,b2,lo,us,rfl,c1,c2⟩:=Rk2.Ps.at m4 (n:=j) (by have:=(HL.mp hy).1; omega);rw[hy] at b1;cases b1;refine#[_,rfl,lo,us,rfl,.inl (aK.of ((s0.trans sG2) _ _ c1)),λl hl=>kk2 _ _ (aC.new hl) #[#[_,hy,lo,us,l,rfl,c1,rfl,?_],?_]]
       . rw[c9 (λz=>by rw[z,eacc2] at hl; cases hl)];exact aL
       . intro z;cases z;have:=sG2 _ _ eacc;rw[hl] at this;cases this
     . rintro G3 vs sG3 e3 l3 t3;refine#[aw,λbq hb=>kk _ _ (sG3.trans (aC.new hb)) #[_,hx,q0,c,w,ws,bq,pI,vs,rfl,m1,m3,rfl,?_,?_,?_]]
       . rw[c9 (λz=>by have:=sG3 _ _ eacc; rw[z,this] at hb; cases hb)];exact aL
       . rw[c9 (λz=>by rw[z,eacc] at hpI; cases hpI)];exact aC.new hb _ _ e3
       . refine Ps.of_at (by omega) λj v o hv ho=>?_;obtain⟨⟨o',h1,lo,us,l,h2,h3,rfl,h4⟩,h5⟩:=t3 j v hv;rw[ho] at h1;cases h1;refine#[lo,us,l,h2,h3,rfl,?_];rw[c9 (λz=>h5 (by rw[z]))];exact aC.new hb _ _ (dH _ _ h4)
   rintro G vs sG eG lG tG;have cps:Rk2.Ps (gN K H G) vs A_.mvs:=Ps.of_at lG λi v o hv ho=>by obtain⟨o',h1,h2⟩:=tG i v hv;rw[ho] at h1;cases h1;exact h2.mono dH
   have s3:=s2.trans sG;refine#[cU,λhh kh=>?_];have sn:=aC.new (o:=.lst [V.ref l1,V.ref l2,V.ref pL]) kh;have eh:upd G hh (.lst [V.ref l1,V.ref l2,V.ref pL]) hh=_:=aL;generalize upd G hh (.lst [V.ref l1,V.ref l2,V.ref pL])=H4 at sn eh ⊢;have s4:=s3.trans sn;have cps:=Rk2.Ps.imp (λ_ _ z=>z.mono sn) cps;have e1:=(sG.trans sn) _ _ e1;have e2:=(sG.trans sn) _ _ e2;have eG:=sn _ _ eG;have hT4:=hT.mono s4;refine#[_,rfl,hh,_,_,_,rfl,rfl,aK.of eh,ai,_,rfl,hh,_,_,_,rfl,rfl,aK.of eh,rfl,_,rfl,hh,_,_,_,rfl,rfl,aK.of eh,rfl,_,rfl,l1,l2,pL,a,k,A_.mv vs,rg,v,w_,b,rfl,aK.of e1,n0,n12,λf hf=>(hE f hf).mono s4,nd,#[aK.of e2,hT4.ss,aK.of eG,vB s4 hmp cps,hT.l],hM,hv,hSp.mono s4,s4.tup ha,hf,h10,#[hO.l,hO.n,hO.g,hO.v],hw,s4.tup hR,hW,(hS.mono s4).mv vs,λH5 s5=>?_];have s05:=s4.trans s5;have ok3:∀L∈A_.Ms,∀e∈L,bo e.vw/\PyData.strOk e.F.name=true:=λL hL e he=>#[λo ho u eu=>hO.v L hL e he u (eu ▸ ho),hO.n _ ((hT.l L hL).2 e he).m]
   have tw:dQ K H5 14 [V.ref l1,V.ref l2,V.ref pL] [V.ref p,V.ref sp,V.ref mk]:=.cons ((cf.lst (aK.of (s5 _ _ e1)) (s05.seq hP) (dQ.of (cB.mono s05 hd1))).up (by decide)) (.cons ((cf.lst (aK.of (s5 _ _ e2)) (s05.seq hT.s) (dQ.of (cB.mono s05 hd2))).up (by decide)) (.cons ((cf.lst (aK.of (s5 _ _ eG)) (s05.seq hT.m) (w9 s05 ok3 hmp (Rk2.Ps.imp (λ_ _ z=>z.mono s5) cps))).up (by decide)) .nil));refine#[_,rfl,_,"bool",_,true,rfl,.bl _,rfl,?_];refine#[_,rfl,aU rfl #[_,rfl,_,rfl,rfl,_,rfl,aU (HK rfl) #[_,rfl,_,rfl,_,rfl,_,rfl,cU,λy ky=>cf.eq (n:=15) ?_ (by decide) (q _)]]];obtain⟨ds,ls,z1,z2⟩:=tw;have sy:=aC.new (o:=.lst [V.ref p,V.ref sp,V.ref mk]) ky;exact cf.lst (aK.of (sy _ _ (s5 _ _ eh))) (aK.of aL) #[ds,ls,bT.mono sy ds _ z1,bT.mono sy ds _ z2]
end
end K43
namespace St
open PySem L2 Gx Rk2 Bg Fl Wk K41
def bY (s m:Addr) (H:Hp):Hp:=ers m (ers s H)
variable {o:HO} {b:Addr} {xs:List V}
section
variable {s m:Addr} {H H':Hp}
theorem ga:aC (bY s m H) H:=dH.trans dH
theorem de (e:aC H H'):aC (bY s m H) (bY s m H'):=aC.ers (aC.ers e)
theorem C8 (e:aC H H') (h1:H s=none) (h2:H m=none):aC H (bY s m H'):=g9 (g9 e h1) h2
theorem ie :bY s m (upd H s o)=bY s m H:=by unfold bY; rw[gg]
theorem iY :bY s m (upd H m o)=bY s m H:=by
 funext b;unfold bY ers;by_cases h:b=m
 . rw[HR h,HR h]
 . rw[HI h,HI h];by_cases h':b=s
   . rw[HR h',HR h']
   . rw[HI h',HI h',ay h]
theorem lQ (h1:b≠s) (h2:b≠m):bY s m H b=H b:=by unfold bY; rw[c9 h2,c9 h1]
theorem C4 {ys:List V}(hs:H s=some (.lst xs)) (hm:H m=some (.lst ys)) {o:Option Tr} {v:V} (h:aX H o v):aX (bY s m H) o v:=by
 have h1:=m8 hs h;unfold bY;by_cases e:m=s
 . subst e;have:ers m (ers m H)=ers m H:=by funext b; unfold ers; split <;> rfl
   rw[this]; exact h1
 . exact m8 (by rw[c9 e]; exact hm) h1
end
theorem vY:∀{ns:List Str} {vw:List (Option Tr)} {n:Str} {o:Option Tr},lk ns vw n=some o->o∈vw
 | [],_,_,_,h=>by cases h
 | _ :: _,[],_,_,h=>by cases h
 | n :: ns,v :: vw,m,o,h=>by
   unfold lk at h;split at h
   . cases h; exact HS
   . exact HZ _ (vY h)
theorem Ag {ws:List Str} {vw:List (Option Tr)} (hv:fG vw) {a:V} (h:(∃n,a=.str n)\/dL ws a) {t:Tr} (e:cS (lk ws vw) a=some (some t)):okl (lvs t):=by
 have key:∀n,a=.str n->okl (lvs t):=λn en=>by subst en;exact(hv t (vY e)).1
 rcases h with⟨n,rfl⟩|⟨z,rfl,h0,h1⟩|⟨n,_,rfl⟩
 . exact key n rfl
 . cases e; exact(fm.num h0 h1).1
 . exact key n rfl
variable {rg:RG}
theorem FQ {ws:List Str} (ok:gC ws rg):∀a∈rg.items,(∃n,a=.str n)\/dL ws a:=by
 intro a ha;cases rg with
 | copy x y =>
   simp only[RG.items,HV,Hm,or_false] at ha;rcases ha with rfl|rfl|rfl
   . exact .inl #[_,rfl]
   . exact .inl #[_,rfl]
   . exact .inr ok.2
 | op x s y z =>
   simp only[RG.items,HV,Hm,or_false] at ha;rcases ha with rfl|rfl|rfl|rfl|rfl
   . exact .inl #[_,rfl]
   . exact .inl #[_,rfl]
   . exact .inl #[_,rfl]
   . exact .inr ok.2.2.2.1
   . exact .inr ok.2.2.2.2
 | ifs y =>
   simp only[RG.items,HV,Hm,or_false] at ha;rcases ha with rfl|rfl
   . exact .inl #[_,rfl]
   . exact .inr ok
 | whl y =>
   simp only[RG.items,HV,Hm,or_false] at ha;rcases ha with rfl|rfl
   . exact .inl #[_,rfl]
   . exact .inr ok
 | _=>exact ok.elim
theorem rq (bL:List Lev) (F:F2.Fd) (kn:List (Option Tr)):fV (bL.map Lev.F++[F]) (bL.map Lev.vw++[kn])=bL.map Lev.lv++[lk (F2.nms F) kn]:=by
 unfold fV;rw[List.zip_append (by rw[HH,HH]),Hk];congr 1
 induction bL with
 | nil=>rfl
 | cons e bL ih=>rw[Ho,Ho,Ho,List.zip_cons_cons,Ho,ih]; rfl
theorem vD {fns:List F2.Fd} {bL:List Lev} {F:F2.Fd} {kn:List (Option Tr)} (hb:∀e∈bL,LevOk fns e) (hF:F∈fns) (hk:kn.length=(F2.nms F).length):FK fns (bL.map Lev.F++[F]) (bL.map Lev.vw++[kn]):=by
 refine#[λG hG=>?_,by simp,λp hp=>?_]
 . rcases Hg.mp hG with h|h
   . obtain⟨e,he,rfl⟩:=Hq.mp h;exact(hb e he).m
   . cases HY.mp h; exact hF
 . rw[List.zip_append (by rw[HH,HH])] at hp;rcases Hg.mp hp with h|h
   . have key:∀{bL:List Lev},p∈(bL.map Lev.F).zip (bL.map Lev.vw)->∃e∈bL,p=(e.F,e.vw):=by
       intro bL
       induction bL with
       | nil=>intro h; cases h
       | cons e bL ih =>
         intro h;rcases HV.mp h with h|h
         . exact#[e,HS,h]
         . obtain⟨e',h1,h2⟩:=ih h;exact#[e',HZ _ h1,h2]
     obtain⟨e,he,rfl⟩:=key h;exact(hb e he).l
   . cases HY.mp h; exact hk
structure DbH (H:Hp) (A:Ak) (ws:List Str) (rg:RG) (ex:List Nat) (k0 k1:Nat) (chs:List (List (Str×Nat))) (Kn:List (List (Option Tr))):Prop where
 nd:(A.fns.map (·.name)).Nodup
 sn:∀F∈A.fns,PyData.strOk F.name=true
 m:A.e.F∈A.fns
 b:∀e∈A.L0,LevOk A.fns e/\bo e.vw
 nm:F2.nms A.e.F=ws
 v:A.e.vw.length=ws.length
 v9:fG A.e.vw
 ok:gC ws rg
 way:∃l,K13.Due (F2.kds A.e.F) A.e.r (some l)/\∀(j e:Nat),ex[j]?=some e->l[j]?=some e
 n1:∀n,RG.gives n rg->ex.length=1
 n2:RG.turns rg->ex.length=2
 kl:A.ks.length=A.Ms.length
 k0:k0<A.Ms.length
 k1:k1<A.Ms.length
 ms:∀L∈A.Ms,∀e∈L,LevOk A.fns e
 kn:Kn=A.L0.map Lev.vw++[dw ws A.e.vw rg]
 ch:chs=ex.map A.at
theorem DbH.at_ {A:Ak} (n:Nat):(A.at n).map (·.1)=(A.L0.map Lev.F++[A.e.F]).map (·.name):=by unfold Ak.at;rw[Hk,Hk,IS,IS];rfl
variable {H:Hp}
theorem A5 {A:Ak} {ws:List Str} {ex:List Nat} {k0 k1:Nat} {chs:List (List (Str×Nat))} {Kn:List (List (Option Tr))} (h:DbH H A ws rg ex k0 k1 chs Kn) (ha:iB H rg k0 k1 A.as):∃b,Db H rg A.as A.ks A.Ms chs Kn (cQ A.ps) ws b/\Sb H A rg b:=by
 have ka:∀k,k<A.Ms.length->∃kd L,A.ks[k]?=some kd/\A.Ms[k]?=some L/\∀e∈L,LevOk A.fns e:=λk hk=>#[_,_,HX (by rw[h.kl]; exact hk),HX hk,h.ms _ (IW hk)]
 obtain⟨l,hdue,hl⟩:=h.way;have hb1:∀e∈A.L0,LevOk A.fns e:=λe he=>(h.b e he).1;have hkv:∀kn∈A.L0.map Lev.vw,bo kn:=λkn hk=>by obtain⟨e,he,rfl⟩:=Hq.mp hk; exact(h.b e he).2
 have alv:A.e.lv=lk ws A.e.vw:=by unfold Lev.lv; rw[h.nm]
 rcases jV h.ok with⟨n,hg,hn⟩|⟨ht,y,hy,hat⟩
 . obtain⟨e0,he0⟩:∃e,ex[0]?=some e:=#[_,HX (by rw[h.n1 n hg]; decide)]
   obtain⟨o,ho,hoo⟩:=uU hg h.ok h.v h.v9;have hgive:A.give n o=fV (A.L0.map Lev.F++[A.e.F]) Kn:=by rw[h.kn,rq,h.nm,Fx hg hn h.v ho,<- alv];rfl
   have fk:FK A.fns (A.L0.map Lev.F++[A.e.F]) Kn:=by rw[h.kn]; exact vD hb1 h.m (by rw[oV,h.v,h.nm])
   have lok:LvlOk A.fns (A.at e0) (A.give n o):=by
     rw[hgive];refine sP h.nd h.sn fk (λkn hk=>?_) (DbH.at_ e0);rw[h.kn] at hk;rcases Hg.mp hk with hk|hk
     . exact hkv kn hk
     . cases HY.mp hk; exact w6 h.ok h.v h.v9
   rcases ha with ha|⟨_,kd,v,hkd,ha⟩|⟨ht,_⟩
   . obtain⟨kd,L,h1,h2,h3⟩:=ka k0 h.k0;refine#[fA (cQ A.ps) kd L (A.at e0) Kn,.go #[n,hg] ha h1 h2 (by rw[h.ch,HW,he0]; rfl),?_];rw[<- pA h.nd h1 h2 h3 fk (DbH.at_ e0),<- hgive];exact .go ha h.k0 hg (by rw[alv]; exact ho) #[l,hdue,hl 0 e0 he0] lok
   . have nk:¬ kd="wait"/\¬ kd="go"/\PyData.strOk kd=true:=by rcases hkd with⟨rfl,_⟩|⟨rfl,_⟩ <;> decide +kernel
     exact#[false,.ot #[n,hg] ha nk.2.1,.ot hg ha nk.1 nk.2.1 nk.2.2]
   . exfalso; cases rg <;> first|exact ht.elim|exact hg.elim
 . have hbh:dw ws A.e.vw rg=A.e.vw:=by rcases hy with rfl|rfl <;> rfl
   have hkn:Kn=A.L0.map Lev.vw++[A.e.vw]:=by rw[h.kn,hbh]
   obtain⟨o,ho,hoo⟩:=GP hat h.v h.v9.ok;rcases ha with ha|⟨⟨n,hg⟩,_⟩|⟨_,t,v,a,b,hv,tk,hab,ha⟩
   . exact#[false,.no hy ha hkn h.v hat ho,.no ha h.k0 ht]
   . exfalso; cases rg <;> first|exact ht.elim|exact hg.elim
   . have la:a<A.Ms.length/\b<A.Ms.length:=by
       rcases hab with⟨rfl,rfl⟩|⟨rfl,rfl⟩
       . exact#[h.k0,h.k1]
       . exact#[h.k1,h.k0]
     obtain⟨e0,he0⟩:∃e,ex[0]?=some e:=#[_,HX (by rw[h.n2 ht]; decide)]
     obtain⟨e1,he1⟩:∃e,ex[1]?=some e:=#[_,HX (by rw[h.n2 ht]; decide)]
     obtain⟨d0,L0,p1,p2,p3⟩:=ka a la.1;obtain⟨d1,L1,q1,q2,q3⟩:=ka b la.2;have hfs:A.fs=fV (A.L0.map Lev.F++[A.e.F]) Kn:=by rw[hkn,rq];show(A.L0++[A.e]).map Lev.lv=_;rw[Hk];rfl
     have fk:FK A.fns (A.L0.map Lev.F++[A.e.F]) Kn:=by rw[hkn]; exact vD hb1 h.m (by rw[h.v,h.nm])
     have lok:∀n,LvlOk A.fns (A.at n) A.fs:=λn=>by
       rw[hfs];refine sP h.nd h.sn fk (λkn hk=>?_) (DbH.at_ n);rw[hkn] at hk;rcases Hg.mp hk with hk|hk
       . exact hkv kn hk
       . cases HY.mp hk; exact h.v9.ok
     refine#[_,.tu hy ha hv tk hkn h.v hat ho hoo p1 p2 (by rw[h.ch,HW,he0]; rfl) q1 q2 (by rw[h.ch,HW,he1]; rfl),?_];rw[<- pA h.nd p1 p2 p3 fk (DbH.at_ e0),<- pA h.nd q1 q2 q3 fk (DbH.at_ e1),<- hfs];exact .tu hy ha hv tk (by rw[alv]; exact ho) hoo la.1 la.2 #[l,hdue,hl 0 e0 he0] #[l,hdue,hl 1 e1 he1] lok
theorem zT {i:Int} (h0:0<=i) (h1:i<xs.length):∃v,bQ xs i=some v/\v∈xs:=by
 have hj:i.toNat<xs.length:=by omega
 obtain⟨j,rfl⟩:=IL h0;exact#[xs[j],bt (HX hj),IW hj]
theorem kN {α:Type} {R:α->V->Prop} {x:α} {v:V} (h:R x v):∀m,Ps R (List.replicate m v) (List.replicate m x)
 | 0=>trivial
 | m+1=>#[h,kN h m]
theorem Ps.set {α:Type} {R:α->V->Prop}:∀{us:List V} {ts:List α} (i:Nat) {x:α} {v:V},Ps R us ts->R x v->Ps R (us.set i v) (ts.set i x)
 | [],[],_,_,_,_,_=>trivial
 | u :: us,w :: vw,0,_,_,h,hv=>#[hv,h.2]
 | u :: us,w :: vw,i+1,_,_,h,hv=>#[h.1,Ps.set i h.2 hv]
def dg (K:W.Frag) (H:Hp) (kd:Str) (v:V):Prop:=gV K H kd v/\bN K H 13 v
theorem dg.mono {K:W.Frag} {H H':Hp} {kd:Str} {v:V} (e:aC H H') (h:dg K H kd v):dg K H' kd v:=#[h.1.mono e,h.2.mono e]
structure TwoL (K:W.Frag) (C:Hp) (sA mA:Addr) (fns:List F2.Fd) (G:Hp) (svs:List V) (ks:List Str) (mvs:List V) (Ms:List (List Lev)):Prop where
 b:aC C (bY sA mA G)
 c1:C sA=none
 c2:C mA=none
 s:G sA=some (.lst svs)
 m:G mA=some (.lst mvs)
 ne:sA≠mA
 ss:Ps (dg K (bY sA mA G)) svs ks
 sl:ks.length=4
 ms:Ps (λL v=>dF K (bY sA mA G) (dE L) v) mvs Ms
 ml:Ms.length=4
 ok:∀L∈Ms,L.length<=11/\∀e∈L,LevOk fns e/\bo e.vw
section
variable {K:W.Frag} {C:Hp} {sA mA:Addr} {fns:List F2.Fd} {G G':Hp} {svs:List V} {ks:List Str} {mvs:List V} {Ms:List (List Lev)}
theorem TwoL.mono (e:aC G G') (h:TwoL K C sA mA fns G svs ks mvs Ms):TwoL K C sA mA fns G' svs ks mvs Ms :=
 #[h.b.trans (de e),h.c1,h.c2,e _ _ h.s,e _ _ h.m,h.ne,Ps.imp (λ_ _ z=>z.mono (de e)) h.ss,h.sl,Ps.imp (λ_ _ z=>z.mono (de e)) h.ms,h.ml,h.ok]
theorem TwoL.setS {i:Nat} {kd:Str} {v:V} (h:TwoL K C sA mA fns G svs ks mvs Ms) (hv:dg K (bY sA mA G) kd v):TwoL K C sA mA fns (upd G sA (.lst (svs.set i v))) (svs.set i v) (ks.set i kd) mvs Ms :=
 #[by rw[ie]; exact h.b,h.c1,h.c2,aL,by rw[ay h.ne.symm]; exact h.m,h.ne,by rw[ie]; exact Ps.set i h.ss hv,by rw[Ib]; exact h.sl,by rw[ie]; exact h.ms,h.ml,h.ok]
theorem TwoL.setM {i:Nat} {L:List Lev} {v:V} (h:TwoL K C sA mA fns G svs ks mvs Ms) (hv:dF K (bY sA mA G) (dE L) v) (hL:L.length<=11/\∀e∈L,LevOk fns e/\bo e.vw):TwoL K C sA mA fns (upd G mA (.lst (mvs.set i v))) svs ks (mvs.set i v) (Ms.set i L) :=
 #[by rw[iY]; exact h.b,h.c1,h.c2,by rw[ay h.ne]; exact h.s,aL,h.ne,by rw[iY]; exact h.ss,h.sl,by rw[iY]; exact Ps.set i h.ms hv,by rw[Ib]; exact h.ml,λM hM=>by
   rcases vX hM with rfl|hM
   . exact hL
   . exact h.ok M hM]
theorem TwoL.at_ (h:TwoL K C sA mA fns G svs ks mvs Ms) (e:G b=some (.tup xs)):bY sA mA G b=some (.tup xs):=by rw[lQ (λz=>by rw[z,h.s] at e; cases e) (λz=>by rw[z,h.m] at e; cases e)];exact e
theorem TwoL.new {H0:Hp} (h:TwoL K C sA mA fns G svs ks mvs Ms) (h0:TwoL K C sA mA fns H0 svs ks mvs Ms) (n:H0 b=none) (e:G b=some o):bY sA mA G b=some o:=by rw[lQ (λz=>by rw[z,h0.s] at n; cases n) (λz=>by rw[z,h0.m] at n; cases n)];exact e
theorem TwoL.all (h:TwoL K C sA mA fns G svs ks mvs Ms):aC C G:=h.b.trans ga
end
theorem AU {fns:List F2.Fd} {F1 Fo:F2.Fd} {n r m:Nat} {Vs:List (List (Option Tr))} (h1:F1∈fns) (ho:Fo∈fns) (m1:m<=1) (hr:r<F1.rs.length) (hro:0<Fo.rs.length) (nm1:(F2.nms F1).length=n) (nmo:(F2.nms Fo).length=2) (hn:n<=1000) (hl:Vs.map List.length=List.replicate m 2++[n]) (hv:∀vw∈Vs,bo vw):∃L:List Lev,L.map Lev.fr=List.replicate m (Fo.name,0)++[(F1.name,r)]/\L.map Lev.vw=Vs/\L.length<=11/\∀e∈L,LevOk fns e/\bo e.vw:=by
 obtain rfl|rfl:m=0\/m=1:=by omega
 . match Vs,hl with
   | [v],hl =>
     have l1:v.length=n:=by simpa using hl
     refine#[[#[F1,r,v]],rfl,rfl,by simp,λe he=>?_];cases HY.mp he;exact#[#[h1,hr,l1.trans nm1.symm,by rw[nm1]; exact hn],hv v HS]
 . have h2:Vs.length=2:=by simpa using Hb List.length hl
   obtain⟨u,v,rfl⟩:∃u v,Vs=[u,v]:=by match Vs,h2 with | [u,v],_=>exact⟨u,v,rfl⟩
   . have l1:u.length=2/\v.length=n:=by simpa using hl
     refine#[[#[Fo,0,u],#[F1,r,v]],rfl,rfl,by simp,λe he=>?_];simp only[HV,Hm,or_false] at he;rcases he with rfl|rfl
     . exact#[#[ho,hro,l1.1.trans nmo.symm,by rw[nmo]; decide],hv u HS]
     . exact#[#[h1,hr,l1.2.trans nm1.symm,by rw[nm1]; exact hn],hv v (HZ _ HS)]
theorem D0 {k0 k1:Nat} {as:List V} (h:iB H rg k0 k1 as):jo as:=by
 rcases h with rfl|⟨_,kd,v,hk,rfl⟩|⟨_,t,v,a,b,_,_,_,rfl⟩
 . exact#[_,_,rfl,.inl (by decide +kernel)]
 . rcases hk with⟨rfl,_⟩|⟨rfl,rfl⟩
   . exact#[_,_,rfl,.inl (by decide +kernel)]
   . exact#[_,_,rfl,.inr #[rfl,_,rfl]]
 . exact#[_,_,rfl,.inl (by decide +kernel)]
theorem Bq {K:W.Frag} {k0 k1:Nat} {as:List V} (h:iB H rg k0 k1 as):(∃kd r,as=.str kd :: r)/\cB K H 11 as:=by
 have tr:∀{t v},RAt H t v->bp t->bN K H 11 v:=λ{t v} a b=>#[bu t,b.lay.mono (by decide),dr a]
 rcases h with rfl|⟨_,kd,v,hk,rfl⟩|⟨_,t,v,a,b,hv,tk,_,rfl⟩
 . exact#[#[_,_,rfl],.cons (.str (by decide +kernel)) (.cons .int .nil)]
 . rcases hk with⟨rfl,hv⟩|⟨rfl,rfl⟩
   . exact#[#[_,_,rfl],.cons (.str (by decide +kernel)) (.cons (tr hv (.num (by decide) (by decide))) (.cons .int .nil))]
   . exact#[#[_,_,rfl],.cons (.str (by decide +kernel)) (.cons .non (.cons .int .nil))]
 . exact#[#[_,_,rfl],.cons (.str (by decide +kernel)) (.cons (tr hv tk) (.cons .int (.cons .int .nil)))]
theorem wD {K:W.Frag} {H:Hp}:∀{xs:List V} {ps:List (Int×Tr)},(∀b∈ps,bp b.2)->Ps (fX K H) xs ps->cB K H 11 xs
 | [],[],_,_=>.nil
 | x :: xs,b :: ps,ok,h=>by obtain⟨⟨p,y,rfl,h1,h2⟩,h3⟩:=h;exact .cons (bN.tup h1 (.cons .int (.cons #[bu b.2,(ok b HS).lay,dr h2] .nil))) (wD (λc hc=>ok c (HZ _ hc)) h3)
theorem iB.mono {H H':Hp} {rg:RG} {k0 k1:Nat} {as:List V} (e:aC H H') (h:iB H rg k0 k1 as):iB H' rg k0 k1 as:=by
 rcases h with h|⟨a,kd,v,hk,h⟩|⟨a,t,v,x,y,hv,tk,z,h⟩
 . exact .inl h
 . exact .inr (.inl #[a,kd,v,hk.elim (λw=>.inl #[w.1,w.2.mono e]) .inr,h])
 . exact .inr (.inr #[a,t,v,x,y,hv.mono e,tk,z,h])
theorem dO {l q:Addr} (h:H l=some o) (n:H q=none):q≠l:=λz=>by rw[z,h] at n; cases n
theorem BY {a:Addr}:ers a (ers b H)=ers b (ers a H):=by
 funext x;unfold ers;by_cases h1:x=a
 . rw[HR h1]; split <;> rfl
 . rw[HI h1,HI h1]
theorem jX {a q:Addr}(n:q≠a/\q≠b) (h:H q=some o):ers a (ers b H) q=some o:=by rw[c9 n.1,c9 n.2]; exact h
theorem wS {s m c p:Addr} {ys zs ws:List V}(hs:H s=some (.lst xs)) (hm:H m=some (.lst ys)) (hc:H c=some (.lst zs)) (h:H p=some (.tup ws)):bY s m (ers c H) p=some (.tup ws):=by rw[lQ (λz=>by rw[z,hs] at h; cases h) (λz=>by rw[z,hm] at h; cases h),c9 (λz=>by rw[z,hc] at h; cases h)];exact h
theorem ug {K:W.Frag} {H:Hp}:∀{svs:List V} {ks:List Str},Ps (dg K H) svs ks->cB K H 13 svs
 | [],[],_=>.nil
 | v :: svs,k :: ks,h=>.cons h.1.2 (ug h.2)
structure Bd (K:W.Frag) (H:Hp) (ws:List Str) (rr:List RR) (at_:Nat) (ex:List Nat) (rg:RG) (ep:Addr) (F1 Fo:F2.Fd) (n0 n1:Str) (os:List Str):Prop where
 p:aG K H ep (ex.map λe:Nat=>V.int e)
 r:Rs K H ws rr at_ ex rg
 f1:F2.FnAt K H F1
 fo:F2.FnAt K H Fo
 d1:bN K H 6 (.ref F1.fa)
 d2:bN K H 6 (.ref Fo.fa)
 nA:F1.name=n0
 mA:F2.nms F1=ws
 rA:F1.rs=rr.map (·.w)
 nB:Fo.name=n1
 mB:F2.nms Fo=os
 rB:0<Fo.rs.length
theorem Bd.mono {K:W.Frag} {H H':Hp} {ws:List Str} {rr:List RR} {at_:Nat} {ex:List Nat} {rg:RG} {ep:Addr} {F1 Fo:F2.Fd} {n0 n1:Str} {os:List Str} (h:Bd K H ws rr at_ ex rg ep F1 Fo n0 n1 os) (s:aC H H'):Bd K H' ws rr at_ ex rg ep F1 Fo n0 n1 os :=
 #[s.tup h.p,h.r.mono s,F2.FnAt.mono s h.f1,F2.FnAt.mono s h.fo,h.d1.mono s,h.d2.mono s,h.nA,h.mA,h.rA,h.nB,h.mB,h.rB]
theorem tF {K:W.Frag} {u w y x:Addr} (h1:H u=some (.tup [.ref w,.ref y])) (h2:H w=some (.lst [])) (h3:H y=some (.tup [.str "back",.ref x])) (h4:H x=some (.tup [.str "num",.int 0])):dg K H "back" (.ref u) :=
 #[#[u,_,y,_,rfl,aG.of h1,aG.of h3],bN.tup (n:=12) (aG.of h1) (.cons (bN.lst (n:=11) (aK.of h2) .nil) (.cons (bN.tup (n:=11) (aG.of h3) (.cons (.str (by decide +kernel)) (.cons (bN.tup (n:=10) (aG.of h4) (.cons (.str (by decide +kernel)) (.cons .int .nil))) .nil))) .nil))]
theorem tN {K:W.Frag} {u w y:Addr} (h1:H u=some (.tup [.ref w,.ref y])) (h2:H w=some (.lst [])) (h3:H y=some (.tup [.str "go",.int 0])):dg K H "go" (.ref u) :=
 #[#[u,_,y,_,rfl,aG.of h1,aG.of h3],bN.tup (n:=12) (aG.of h1) (.cons (bN.lst (n:=11) (aK.of h2) .nil) (.cons (bN.tup (n:=11) (aG.of h3) (.cons (.str (by decide +kernel)) (.cons .int .nil))) .nil))]
end St
namespace K43
open PySem L2 Gx Fl Bg Wk St
section
variable {P:Program} {w:World} {K:W.Frag} {mg:Str->Option Value} {base:Heap} {t:Adr}
theorem cH:FnScope ["_law_script","_law_cells","_law_own","_law_names_here","_law_outer_here","_law_boxes","_law_rows_here","_law_at","_law_exits","_law_program","_law_calm","_law_k","_law_order","_law_on","_law_base","_law_ahead","_law_view_here","_law_known","_law_sets_here","_law_news_here","_law_act_here","_law_spots","_law_marks","_law_chains","_law_j","_law_chain","_law_due_here"] ["_law_script"] (bD gZ):=by walk_at "s"
theorem ok_law (T:Txt K mg t):FnOk P w K mg base CX0 21 t.xT t.mZ ["_law_script"] (sp_law K):=by
 have Qr:=Cd (P:=P) (w:=w) (base:=base) T;have QQ:=AL (P:=P) (w:=w) (base:=base) T;have Qu:=GZ (P:=P) (w:=w) (base:=base) T;have QR:=Eh (P:=P) (w:=w) (base:=base) T;have QS:=CM (P:=P) (w:=w) (base:=base) T;have QT:=C9 (P:=P) (w:=w) (base:=base) T;have QU:=F5 (P:=P) (w:=w) (base:=base) T;have QV:=zc (P:=P) (w:=w) (base:=base) T;have QW:=EF (P:=P) (w:=w) (base:=base) T;have QX:=Dx (P:=P) (w:=w) (base:=base) T;have QY:=Dk (P:=P) (w:=w) (base:=base) T;have QZ:=Ae (P:=P) (w:=w) (base:=base) T;have Q0:=BZ (P:=P) (w:=w) (base:=base) T;refine T.law.F.ok cH (λvs H Q E h=>?_) (λcdv A outer s H vs Q E hr h=>?_)
 . obtain⟨a,ns,rfl,hS,hL,q⟩:=h;rfl
 . skip
   refine lx ?_;intro XX;refine(let W24:TS:=_; have hW24:bV XX ((bU gZ).drop 24) W24:=(@aM _ _ _ _ _ (@ag _ _ 26 _ _ _ _ cH.nd rfl (Or.inl rfl) (bC T.yr QU (hr.mono (by decide)) (@aH _ _ _ _ _ (@aI _ _ _ _ _ _ _ (show aJ _ (ae K) from af) (aB 6) (aB 7) (λ_ _=>rfl)) (@aH _ _ _ _ _ (aB 20) (@aH _ _ _ _ _ (aB 21) (@aH _ _ _ _ _ (aB 22) (@aH _ _ _ _ _ (aB 23) (@aH _ _ _ _ _ (aB 17) (@aH _ _ _ _ _ (aB 19) (@aH _ _ _ _ _ (aB 3) aF (by rfl)) (by rfl)) (by rfl)) (by rfl)) (by rfl)) (by rfl)) (by rfl)) (by rfl))) (by rfl) (by walk_at "f")) (@aP _ _ _ (@aa _ _ _ _ (bC T.yo QV (hr.mono (by decide)) (@aH _ _ _ _ _ (aB 9) (@aH _ _ _ _ _ (aB 21) (@aH _ _ _ _ _ (aB 22) (@aH _ _ _ _ _ (aB 11) (@aH _ _ _ _ _ (aB 26) aF (by rfl)) (by rfl)) (by rfl)) (by rfl)) (by rfl)))))); ?_);refine(let W19:TS:=_; have hW19:bV XX ((bU gZ).drop 19) W19:=(@cr _ _ _ _ _ (lE (i:=22) cH.nd rfl (Or.inl rfl) (N':=["_law_spot","_law_own","_law_base","_law_names_here"]) (js:=[none,some 2,some 14,some 3]) (by kernel_rfl) rfl (gG (aB 21)) fP (λ_ _ _ _=>(bS (i:=0) (show(["_law_spot","_law_own","_law_base","_law_names_here"]:List Str).Nodup by decide +kernel) rfl (Or.inl rfl) (.inr rfl))) (λ_ _ _ _=>fQ) (λ_ _ _ _=>(@aY _ _ _ _ _ (@aH _ _ _ _ _ (@aY _ _ _ _ _ (@aH _ _ _ _ _ (@aY _ _ _ _ _ (@aH _ _ _ _ _ (@aI _ _ _ _ _ _ _ (show aJ _ (ae K) from af) (aB 1) (cP (show bx _ (.builtin "len") (cb K) from ck) (by rfl) T.b_len cW (@aH _ _ _ _ _ (aB 2) aF (by rfl))) (λ_ _=>rfl)) (@aH _ _ _ _ _ aD aF (by rfl)) (by rfl))) aF (by rfl))) (@aH _ _ _ _ _ (@bj _ _ _ _ (@aH _ _ _ _ _ (@aN _ _ _ _ _ _ _ _ kt (@bj _ _ _ _ (@aH _ _ _ _ _ dX aF (by rfl))) (@aI _ _ _ _ _ _ _ (show aJ _ (ae K) from af) (@bj _ _ _ _ (@aH _ _ _ _ _ (cP (show bx _ (.builtin "len") (cb K) from ck) (by rfl) T.b_len cW (@aH _ _ _ _ _ (aB 3) aF (by rfl))) (@aH _ _ _ _ _ aD aF (by rfl)) (by rfl))) (cP (show bx _ (.builtin "len") (cb K) from ck) (by rfl) T.b_len cW (@aH _ _ _ _ _ (aB 2) aF (by rfl))) (λ_ _=>rfl))) aF (by rfl))) aF (by rfl)) (by rfl)))) (by rfl)) (@cr _ _ _ _ _ (lE (i:=23) cH.nd rfl (Or.inl rfl) (N':=["_law_there","_law_base","_law_own"]) (js:=[none,some 14,some 2]) (by kernel_rfl) rfl (mH (aB 8)) fP (λ_ _ _ _=>(bS (i:=0) (show(["_law_there","_law_base","_law_own"]:List Str).Nodup by decide +kernel) rfl (Or.inl rfl) (.inr rfl))) (λ_ _ _ _=>fQ) (λ_ _ _ _=>(@aN _ _ _ _ _ _ _ _ (show bW _ (binaryOp .Add) (jr K) from mQ) (aB 1) (@aY _ _ _ _ _ (@aH _ _ _ _ _ (@aY _ _ _ _ _ (@aH _ _ _ _ _ (@aI _ _ _ _ _ _ _ (show aJ _ (ae K) from af) (aB 2) aD (λ_ _=>rfl)) (@aH _ _ _ _ _ (aB 0) aF (by rfl)) (by rfl))) aF (by rfl))))) (by rfl)) (@aM _ _ _ _ _ (cj PassesOwn.never rfl (g8 rfl T.b_range (@aH _ _ _ _ _ (cP (show bx _ (.builtin "len") (cb K) from ck) (by rfl) T.b_len cW (@aH _ _ _ _ _ (aB 8) aF (by rfl))) aF (by rfl))) (bS (i:=24) cH.nd rfl (Or.inl rfl)) (@aM _ _ _ _ _ (@ag _ _ 25 _ _ _ _ cH.nd rfl (Or.inl rfl) (@aI _ _ _ _ _ _ _ (show aJ _ (ae K) from af) (aB 23) (aB 24) (λ_ _=>rfl)) (by rfl) (by walk_at "f")) (@cr _ _ _ _ _ (@ao _ _ _ _ _ _ _ _ (@PW.pt _ _ _ (@dA _ _ _ _ _ _ _ (@au _ _ _ _ _ _ _ _ bE (@aN _ _ _ _ _ _ _ _ (aV bI) (@aI _ _ _ _ _ _ _ (show aJ _ (ae K) from af) (aB 1) aD (λ_ _=>rfl)) aD) (aB 24) (am _)) (@dJ _ _ _ _ (gk (jS (K:=K) rfl (aB 10) (by intro _; rfl)))))) (@aP _ _ _ (@ag _ _ 25 _ _ _ _ cH.nd rfl (Or.inl rfl) (@aN _ _ _ _ _ _ _ _ (show bW _ (binaryOp .Add) (jr K) from mQ) (aB 14) (@aY _ _ _ _ _ (@aH _ _ _ _ _ (@aY _ _ _ _ _ (@aH _ _ _ _ _ (@aI _ _ _ _ _ _ _ (show aJ _ (ae K) from af) (aB 2) aD (λ_ _=>rfl)) (@aH _ _ _ _ _ (aB 7) aF (by rfl)) (by rfl))) aF (by rfl)))) (by rfl) (by walk_at "f"))) al) (@cr _ _ _ _ _ (@ao _ _ _ _ _ _ _ _ (@PW.pt _ _ _ (@dA _ _ _ _ _ _ _ (@au _ _ _ _ _ _ _ _ bE (@aN _ _ _ _ _ _ _ _ (aV bI) (@aI _ _ _ _ _ _ _ (show aJ _ (ae K) from af) (aB 1) aD (λ_ _=>rfl)) aD) aD (am _)) (@dA _ _ _ _ _ _ _ (gk (jS (K:=K) rfl (aB 10) (by intro _; rfl))) (@dJ _ _ _ _ (@au _ _ _ _ _ _ _ _ bE (@aI _ _ _ _ _ _ _ (show aJ _ (aR K) from aS) (@aI _ _ _ _ _ _ _ (show aJ _ (ae K) from af) (aB 6) (@aI _ _ _ _ _ _ _ (show aJ _ (aR K) from aS) (aB 8) (aB 24) (λ_ _=>rfl)) (λ_ _=>rfl)) aD (λ_ _=>rfl)) aQ (am _)))))) (@aP _ _ _ (eE (@aY _ _ _ _ _ (@aH _ _ _ _ _ (@bj _ _ _ _ aF) (@aH _ _ _ _ _ (@aY _ _ _ _ _ (@aH _ _ _ _ _ aQ (@aH _ _ _ _ _ dX (@aH _ _ _ _ _ aD aF (by rfl)) (by rfl)) (by rfl))) aF (by rfl)) (by rfl))) (fS (aB 21) (@aI _ _ _ _ _ _ _ (show aJ _ (ae K) from af) (aB 13) (aB 24) (λ_ _=>rfl)) fC))) al) (@aP _ _ _ (eE (@aY _ _ _ _ _ (@aH _ _ _ _ _ (aB 25) (@aH _ _ _ _ _ (bC T.yw Q0 (hr.mono (by decide)) (@aH _ _ _ _ _ (@aI _ _ _ _ _ _ _ (show aJ _ (ae K) from af) (aB 1) (@aN _ _ _ _ _ _ _ _ (bf cM) aD (aB 24)) (λ_ _=>rfl)) (@aH _ _ _ _ _ (aB 17) (@aH _ _ _ _ _ (aB 19) (@aH _ _ _ _ _ (aB 5) (@aH _ _ _ _ _ (aB 10) aF (by rfl)) (by rfl)) (by rfl)) (by rfl)) (by rfl))) aF (by rfl)) (by rfl))) (fS (aB 22) (@aI _ _ _ _ _ _ _ (show aJ _ (ae K) from af) (aB 13) (aB 24) (λ_ _=>rfl)) fC))))))) (@aM _ _ _ _ _ (eE (@aY _ _ _ _ _ (@aH _ _ _ _ _ (aB 18) (@aH _ _ _ _ _ (aB 20) aF (by rfl)) (by rfl))) (fS (aB 21) (aB 11) fC)) (@aM _ _ _ _ _ (eE (@aY _ _ _ _ _ (@aH _ _ _ _ _ (@aN _ _ _ _ _ _ _ _ (show bW _ (binaryOp .Add) (jr K) from mQ) (aB 14) (@aY _ _ _ _ _ (@aH _ _ _ _ _ (@aY _ _ _ _ _ (@aH _ _ _ _ _ (@aI _ _ _ _ _ _ _ (show aJ _ (ae K) from af) (aB 2) aD (λ_ _=>rfl)) (@aH _ _ _ _ _ (aB 7) aF (by rfl)) (by rfl))) aF (by rfl)))) (@aH _ _ _ _ _ (@aN _ _ _ _ _ _ _ _ fe (aB 15) (@bj _ _ _ _ (@aH _ _ _ _ _ (aB 16) aF (by rfl)))) aF (by rfl)) (by rfl))) (fS (aB 22) (aB 11) fC)) hW24))))); ?_);refine(let W15:TS:=_; have hW15:bV XX ((bU gZ).drop 15) W15:=(@aM _ _ _ _ _ (@ag _ _ 18 _ _ _ _ cH.nd rfl (Or.inl rfl) (bC T.zA QR (hr.mono (by decide)) (@aH _ _ _ _ _ (@aI _ _ _ _ _ _ _ (show aJ _ (ae K) from af) (aB 1) aD (λ_ _=>rfl)) (@aH _ _ _ _ _ (bC T.yt QY (hr.mono (by decide)) (@aH _ _ _ _ _ (aB 17) aF (by rfl))) (@aH _ _ _ _ _ (aB 5) aF (by rfl)) (by rfl)) (by rfl))) (by rfl) (by walk_at "f")) (@aM _ _ _ _ _ (@ag _ _ 19 _ _ _ _ cH.nd rfl (Or.inl rfl) (bC T.yx QS (hr.mono (by decide)) (@aH _ _ _ _ _ (aB 18) (@aH _ _ _ _ _ dX aF (by rfl)) (by rfl))) (by rfl) (by walk_at "f")) (@aM _ _ _ _ _ (@ag _ _ 20 _ _ _ _ cH.nd rfl (Or.inl rfl) (bC T.yn QT (hr.mono (by decide)) (@aH _ _ _ _ _ (@aI _ _ _ _ _ _ _ (show aJ _ (ae K) from af) (aB 6) (aB 7) (λ_ _=>rfl)) (@aH _ _ _ _ _ (@aN _ _ _ _ _ _ _ _ (bf cM) (@aN _ _ _ _ _ _ _ _ (aV dm) (@aI _ _ _ _ _ _ _ (show aJ _ (ae K) from af) (aB 1) aD (λ_ _=>rfl)) (@aN _ _ _ _ _ _ _ _ (bf lC) aD (aB 10))) aD) (@aH _ _ _ _ _ (aB 13) (@aH _ _ _ _ _ (aB 3) (@aH _ _ _ _ _ (aB 16) (@aH _ _ _ _ _ (aB 5) aF (by rfl)) (by rfl)) (by rfl)) (by rfl)) (by rfl)) (by rfl))) (by rfl) (by walk_at "f")) (@cr _ _ _ _ _ (@ag _ _ 21 _ _ _ _ cH.nd rfl (Or.inl rfl) (@bj _ _ _ _ (@aH _ _ _ _ _ (@aY _ _ _ _ _ (@aH _ _ _ _ _ (@bj _ _ _ _ aF) (@aH _ _ _ _ _ (@aY _ _ _ _ _ (@aH _ _ _ _ _ aQ (@aH _ _ _ _ _ (@aY _ _ _ _ _ (@aH _ _ _ _ _ aQ (@aH _ _ _ _ _ aD aF (by rfl)) (by rfl))) aF (by rfl)) (by rfl))) aF (by rfl)) (by rfl))) (@aH _ _ _ _ _ (@aY _ _ _ _ _ (@aH _ _ _ _ _ (@bj _ _ _ _ aF) (@aH _ _ _ _ _ (@aY _ _ _ _ _ (@aH _ _ _ _ _ aQ (@aH _ _ _ _ _ (@aY _ _ _ _ _ (@aH _ _ _ _ _ aQ (@aH _ _ _ _ _ aD aF (by rfl)) (by rfl))) aF (by rfl)) (by rfl))) aF (by rfl)) (by rfl))) (@aH _ _ _ _ _ (@aY _ _ _ _ _ (@aH _ _ _ _ _ (@bj _ _ _ _ aF) (@aH _ _ _ _ _ (@aY _ _ _ _ _ (@aH _ _ _ _ _ aQ (@aH _ _ _ _ _ aD aF (by rfl)) (by rfl))) aF (by rfl)) (by rfl))) (@aH _ _ _ _ _ (@aY _ _ _ _ _ (@aH _ _ _ _ _ (@bj _ _ _ _ aF) (@aH _ _ _ _ _ (@aY _ _ _ _ _ (@aH _ _ _ _ _ aQ (@aH _ _ _ _ _ aD aF (by rfl)) (by rfl))) aF (by rfl)) (by rfl))) aF (by rfl)) (by rfl)) (by rfl)) (by rfl))) (by rfl) (by walk_at "f")) hW19)))); ?_);refine(let W10:TS:=_; have hW10:bV XX ((bU gZ).drop 10) W10:=(@aM _ _ _ _ _ (@ag _ _ 13 _ _ _ _ cH.nd rfl (Or.inl rfl) (@bj _ _ _ _ (@aH _ _ _ _ _ (@aN _ _ _ _ _ _ _ _ (aV bI) (@aN _ _ _ _ _ _ _ _ (bf cM) (aB 11) (@aI _ _ _ _ _ _ _ (show aJ _ (aR K) from aS) (aB 12) aD (λ_ _=>rfl))) aD) (@aH _ _ _ _ _ (@aN _ _ _ _ _ _ _ _ (aV bI) (@aN _ _ _ _ _ _ _ _ (bf cM) (aB 11) (@aI _ _ _ _ _ _ _ (show aJ _ (aR K) from aS) (aB 12) aD (λ_ _=>rfl))) aD) aF (by rfl)) (by rfl))) (by rfl) (by walk_at "f")) (@cr _ _ _ _ _ (@ag _ _ 14 _ _ _ _ cH.nd rfl (Or.inr rfl) (@aN _ _ _ _ _ _ _ _ Ey (@aY _ _ _ _ _ (@aH _ _ _ _ _ (@aY _ _ _ _ _ (@aH _ _ _ _ _ (@aI _ _ _ _ _ _ _ (show aJ _ (ae K) from af) (aB 2) aD (λ_ _=>rfl)) (@aH _ _ _ _ _ aD aF (by rfl)) (by rfl))) aF (by rfl))) (d6 oK (by rfl) T.b_int mi (@aH _ _ _ _ _ (gr bE (@aN _ _ _ _ _ _ _ _ (aV bI) (@aI _ _ _ _ _ _ _ (show aJ _ (ae K) from af) (aB 1) aD (λ_ _=>rfl)) aD) aD (am _)) aF (by rfl)))) (by rfl) (by walk_at "f")) (@aM _ _ _ _ _ (@ag _ _ 15 _ _ _ _ cH.nd rfl (Or.inl rfl) (@aN _ _ _ _ _ _ _ _ kt (@bj _ _ _ _ (@aH _ _ _ _ _ (bC T.qv Qu (hr.mono (by decide)) (@aH _ _ _ _ _ (@aI _ _ _ _ _ _ _ (show aJ _ (ae K) from af) (aB 1) aD (λ_ _=>rfl)) (@aH _ _ _ _ _ aD (@aH _ _ _ _ _ (aB 5) (@aH _ _ _ _ _ (aB 10) aF (by rfl)) (by rfl)) (by rfl)) (by rfl))) aF (by rfl))) (cP (show bx _ (.builtin "len") (cb K) from ck) (by rfl) T.b_len cW (@aH _ _ _ _ _ (aB 14) aF (by rfl)))) (by rfl) (by walk_at "f")) (@aM _ _ _ _ _ (@ag _ _ 16 _ _ _ _ cH.nd rfl (Or.inl rfl) (bC T.qv Qu (hr.mono (by decide)) (@aH _ _ _ _ _ (@aI _ _ _ _ _ _ _ (show aJ _ (ae K) from af) (aB 1) aD (λ_ _=>rfl)) (@aH _ _ _ _ _ (cP (show bx _ (.builtin "len") (cb K) from ck) (by rfl) T.b_len cW (@aH _ _ _ _ _ (aB 3) aF (by rfl))) (@aH _ _ _ _ _ (aB 5) (@aH _ _ _ _ _ (aB 10) aF (by rfl)) (by rfl)) (by rfl)) (by rfl))) (by rfl) (by walk_at "f")) (@aM _ _ _ _ _ (@ag _ _ 17 _ _ _ _ cH.nd rfl (Or.inl rfl) (@aN _ _ _ _ _ _ _ _ fe (aB 15) (@bj _ _ _ _ (@aH _ _ _ _ _ (bC T.yp QZ (hr.mono (by decide)) (@aH _ _ _ _ _ (@aI _ _ _ _ _ _ _ (show aJ _ (ae K) from af) (aB 6) (aB 7) (λ_ _=>rfl)) (@aH _ _ _ _ _ (aB 3) (@aH _ _ _ _ _ (aB 16) aF (by rfl)) (by rfl)) (by rfl))) aF (by rfl)))) (by rfl) (by walk_at "f")) hW15))))); ?_);refine(let W5:TS:=_; have hW5:bV XX ((bU gZ).drop 5) W5:=(@aM _ _ _ _ _ (eE (bC T.yz QQ (hr.mono (by decide)) (@aH _ _ _ _ _ (aB 1) (@aH _ _ _ _ _ (aB 3) (@aH _ _ _ _ _ (@aI _ _ _ _ _ _ _ (show aJ _ (ae K) from af) (aB 2) aD (λ_ _=>rfl)) aF (by rfl)) (by rfl)) (by rfl))) (dn rfl (c7 (bS (i:=6) cH.nd rfl (Or.inl rfl)) (c7 (bS (i:=7) cH.nd rfl (Or.inl rfl)) (c7 (bS (i:=8) cH.nd rfl (Or.inl rfl)) di))))) (@cr _ _ _ _ _ (@ag _ _ 9 _ _ _ _ cH.nd rfl (Or.inl rfl) (@bj _ _ _ _ (@aH _ _ _ _ _ (@aY _ _ _ _ _ (@aH _ _ _ _ _ (@aI _ _ _ _ _ _ _ (show aJ _ (ae K) from af) (aB 2) aD (λ_ _=>rfl)) (@aH _ _ _ _ _ d9 (@aH _ _ _ _ _ (d6 jY (by rfl) T.b_tuple jK (@aH _ _ _ _ _ (aB 3) aF (by rfl))) (@aH _ _ _ _ _ (d6 jY (by rfl) T.b_tuple jK (@aH _ _ _ _ _ (aB 6) aF (by rfl))) aF (by rfl)) (by rfl)) (by rfl)) (by rfl))) (@aH _ _ _ _ _ (bC T.yy QX (hr.mono (by decide)) (@aH _ _ _ _ _ (aB 2) (@aH _ _ _ _ _ (aB 4) (@aH _ _ _ _ _ (cP (show bx _ (.builtin "len") (cb K) from ck) (by rfl) T.b_len cW (@aH _ _ _ _ _ (aB 3) aF (by rfl))) aF (by rfl)) (by rfl)) (by rfl))) aF (by rfl)) (by rfl))) (by rfl) (by walk_at "f")) (@aM _ _ _ _ _ (@ag _ _ 10 _ _ _ _ cH.nd rfl (Or.inl rfl) (@aN _ _ _ _ _ _ _ _ (aV bI) (@aI _ _ _ _ _ _ _ (show aJ _ (ae K) from af) (aB 1) aD (λ_ _=>rfl)) aD) (by rfl) (by walk_at "f")) (@aM _ _ _ _ _ (@ag _ _ 11 _ _ _ _ cH.nd rfl (Or.inl rfl) (@aN _ _ _ _ _ _ _ _ (aV bI) (@aN _ _ _ _ _ _ _ _ (aV bv) (@aI _ _ _ _ _ _ _ (show aJ _ (ae K) from af) (aB 1) aD (λ_ _=>rfl)) aD) aD) (by rfl) (by walk_at "f")) (@cr _ _ _ _ _ (@ag _ _ 12 _ _ _ _ cH.nd rfl (Or.inl rfl) (@aI _ _ _ _ _ _ _ (show aJ _ (ae K) from af) (@bj _ _ _ _ (@aH _ _ _ _ _ (@aY _ _ _ _ _ (@aH _ _ _ _ _ aD (@aH _ _ _ _ _ aD aF (by rfl)) (by rfl))) (@aH _ _ _ _ _ (@aY _ _ _ _ _ (@aH _ _ _ _ _ aD (@aH _ _ _ _ _ aD aF (by rfl)) (by rfl))) (@aH _ _ _ _ _ (@aY _ _ _ _ _ (@aH _ _ _ _ _ aD (@aH _ _ _ _ _ aD aF (by rfl)) (by rfl))) (@aH _ _ _ _ _ (@aY _ _ _ _ _ (@aH _ _ _ _ _ aD (@aH _ _ _ _ _ aD aF (by rfl)) (by rfl))) (@aH _ _ _ _ _ (@aY _ _ _ _ _ (@aH _ _ _ _ _ aD (@aH _ _ _ _ _ aD aF (by rfl)) (by rfl))) (@aH _ _ _ _ _ (@aY _ _ _ _ _ (@aH _ _ _ _ _ aD (@aH _ _ _ _ _ aD aF (by rfl)) (by rfl))) aF (by rfl)) (by rfl)) (by rfl)) (by rfl)) (by rfl)) (by rfl))) (@aN _ _ _ _ _ _ _ _ (aV bI) (@aN _ _ _ _ _ _ _ _ (aV bv) (@aI _ _ _ _ _ _ _ (show aJ _ (ae K) from af) (aB 1) aD (λ_ _=>rfl)) aD) aD) (λ_ _=>rfl)) (by rfl) (by walk_at "f")) hW10))))); ?_);obtain⟨a,ns,rfl,hS,hL,q⟩:=h;refine#[_,(@aM _ _ _ _ _ (lE (i:=1) cH.nd rfl (Or.inl rfl) (N':=["_law_k","_law_script"]) (js:=[none,some 0]) (by kernel_rfl) rfl (g8 rfl T.b_range (@aH _ _ _ _ _ aD aF (by rfl))) fP (λ_ _ _ _=>(bS (i:=0) (show(["_law_k","_law_script"]:List Str).Nodup by decide +kernel) rfl (Or.inl rfl) (.inr rfl))) (λ_ _ _ _=>fQ) (λ_ _ _ _=>(bC T.yq QW (hr.mono (by decide)) (@aH _ _ _ _ _ (aB 1) (@aH _ _ _ _ _ (aB 0) aF (by rfl)) (by rfl)))) (by rfl)) (@aM _ _ _ _ _ (@ag _ _ 2 _ _ _ _ cH.nd rfl (Or.inr rfl) (bC T.md Qr (hr.mono (by decide)) (@aH _ _ _ _ _ (@aI _ _ _ _ _ _ _ (show aJ _ (ae K) from af) (aB 1) aD (λ_ _=>rfl)) (@aH _ _ _ _ _ aD aF (by rfl)) (by rfl))) (by rfl) (by walk_at "f")) (@aM _ _ _ _ _ (@ag _ _ 3 _ _ _ _ cH.nd rfl (Or.inr rfl) (bC T.md Qr (hr.mono (by decide)) (@aH _ _ _ _ _ (@aI _ _ _ _ _ _ _ (show aJ _ (ae K) from af) (aB 1) aD (λ_ _=>rfl)) (@aH _ _ _ _ _ (@aN _ _ _ _ _ _ _ _ (bf cM) aD (@aN _ _ _ _ _ _ _ _ (aV bI) (@aN _ _ _ _ _ _ _ _ (aV bv) (@aI _ _ _ _ _ _ _ (show aJ _ (ae K) from af) (aB 1) aD (λ_ _=>rfl)) aD) aD)) aF (by rfl)) (by rfl))) (by rfl) (by walk_at "f")) (@aM _ _ _ _ _ (@ag _ _ 4 _ _ _ _ cH.nd rfl (Or.inl rfl) (bC T.md Qr (hr.mono (by decide)) (@aH _ _ _ _ _ (@aN _ _ _ _ _ _ _ _ (aV bv) (@aI _ _ _ _ _ _ _ (show aJ _ (ae K) from af) (aB 1) aD (λ_ _=>rfl)) aD) (@aH _ _ _ _ _ aD aF (by rfl)) (by rfl))) (by rfl) (by walk_at "f")) (@aM _ _ _ _ _ (@ag _ _ 5 _ _ _ _ cH.nd rfl (Or.inl rfl) (@bj _ _ _ _ (@aH _ _ _ _ _ aD (@aH _ _ _ _ _ aD (@aH _ _ _ _ _ aD (@aH _ _ _ _ _ aD (@aH _ _ _ _ _ aD (@aH _ _ _ _ _ aD (@aH _ _ _ _ _ (@aN _ _ _ _ _ _ _ _ (bf cM) aD (@aN _ _ _ _ _ _ _ _ (aV bI) (@aI _ _ _ _ _ _ _ (show aJ _ (ae K) from af) (aB 1) aD (λ_ _=>rfl)) aD)) (@aH _ _ _ _ _ (@aN _ _ _ _ _ _ _ _ (bf cM) aD (@aN _ _ _ _ _ _ _ _ (aV bI) (@aN _ _ _ _ _ _ _ _ (aV bv) (@aI _ _ _ _ _ _ _ (show aJ _ (ae K) from af) (aB 1) aD (λ_ _=>rfl)) aD) aD)) aF (by rfl)) (by rfl)) (by rfl)) (by rfl)) (by rfl)) (by rfl)) (by rfl)) (by rfl))) (by rfl) (by walk_at "f")) hW5))))),?_];refine#[_,rfl,by decide,by decide,λcl hcl=>(let Jv1:Nat->List V->Hp->Prop:=λi acc H2=>aC H H2/\H2 cl=some (.lst acc)/\∃zs:List Int,acc=zs.map V.int/\zs.length=i; oU (lo:=0) (n:=15) (by decide) Jv1 #[aC.new hcl,aL,[],rfl,rfl] ?_ ?_ ?_)]
   . rintro i acc H2 hi ⟨s2,e2,zs,rfl,lz⟩;exact#[e2,by rw[HH,lz]; exact HN _]
   . rintro i acc H2 hi ⟨s2,e2,zs,rfl,lz⟩;refine#[_,rfl,_,rfl,a,ns,_,rfl,s2.seq hS,hL,by omega,λz=>#[e2,s2.upd hcl,aL,zs++[z],?_,by rw[HU,lz]; rfl]];rw[Hk];rfl
   rintro acc H1 ⟨-,e_cl,cs,rfl,c15⟩;obtain⟨z2,hz2⟩:=dW (cs:=cs) (j:=2) (by omega);obtain⟨z3,hz3⟩:=dW (cs:=cs) (j:=3) (by omega);obtain⟨z4,hz4⟩:=dW (cs:=cs) (j:=4) (by omega);obtain⟨z5,hz5⟩:=dW (cs:=cs) (j:=5) (by omega);obtain⟨z6,hz6⟩:=dW (cs:=cs) (j:=6) (by omega);obtain⟨z7,hz7⟩:=dW (cs:=cs) (j:=7) (by omega);obtain⟨z8,hz8⟩:=dW (cs:=cs) (j:=8) (by omega);obtain⟨z9,hz9⟩:=dW (cs:=cs) (j:=9) (by omega);obtain⟨z12,hz12⟩:=dW (cs:=cs) (j:=12) (by omega);obtain⟨z13,hz13⟩:=dW (cs:=cs) (j:=13) (by omega);obtain⟨z14,hz14⟩:=dW (cs:=cs) (j:=14) (by omega);have F:=(Al.nil (H:=H1)).add e_cl;refine#[_,rfl,cl,_,_,_,rfl,rfl,aK.of F.2.1,hz12,z12,2,rfl,by decide,λow o2 ond onm ol H2 sn hol e_ol=>?_];have F:=F.mono sn; have F:=F.re; have F:=F.add e_ol
   obtain⟨n0,n1,rfl⟩:∃x y,ow=[x,y]:=by match ow,o2 with | [x,y],_=>exact⟨x,y,rfl⟩
   have on0:=onm n0 HS;have on1:=onm n1 (HZ _ HS);have b3:=cy (z2 / 18) 3 (by decide);obtain⟨nn,hnn⟩:∃nn:Nat,3+z2 / 18%3=(nn:Int):=#[(3+z2 / 18%3).toNat,by omega]
   refine#[_,rfl,cl,_,_,_,rfl,rfl,aK.of F.2.2.1,hz3,_,rfl,cl,_,_,_,rfl,rfl,aK.of F.2.2.1,hz2,_,_,rfl,rfl,#[by decide,by decide],_,_,rfl,rfl,(show(0:Int)<3 by decide),_,_,rfl,rfl,z3,nn,(by show [V.int z3,V.int (3+z2 / 18%3)]=_; rw[hnn]),by omega,λws w2 wnd wnm nl H3 sn hnl e_nl=>?_];have F:=F.mono sn; have F:=F.re; have F:=F.add e_nl
   refine#[_,rfl,cl,_,_,_,rfl,rfl,aK.of F.2.2.2.1,hz13,_,_,rfl,rfl,#[by decide,by decide],_,2,rfl,by decide,λuw u2 und unm ul H4 sn hul e_ul=>?_];have F:=F.mono sn; have F:=F.re; have F:=F.add e_ul
   obtain⟨o0,o1,rfl⟩:∃x y,uw=[x,y]:=by match uw,u2 with | [x,y],_=>exact⟨x,y,rfl⟩
   refine#[_,rfl,cl,_,_,_,rfl,rfl,aK.of F.2.2.2.2.1,hz4,_,_,rfl,rfl,(show(0:Int)<61 by decide),_,_,rfl,rfl,_,rfl,cl,_,_,_,rfl,rfl,aK.of F.2.2.2.2.1,hz4,_,_,rfl,rfl,#[by decide,by decide],_,_,rfl,rfl,(show(0:Int)<61 by decide),_,_,rfl,rfl,(by show 8<=sizeLine; decide),λbl k=>?_];have hbs:gM [0,1,2,3,4,5,6+z4%61,67+z4 / 61%61]:=#[rfl,λb hb=>by have y1:=cy z4 61 (by decide);have y2:=cy (z4 / 61) 61 (by decide);simp only[HV,Hm,or_false] at hb;omega]
   have F:=F.new (o:=.lst [V.int 0,V.int 1,V.int 2,V.int 3,V.int 4,V.int 5,V.int (6+z4%61),V.int (67+z4 / 61%61)]) k; generalize upd H4 bl _=B1 at F ⊢;have F:Al H4 B1 ((bl,.lst ([0,1,2,3,4,5,6+z4%61,67+z4 / 61%61].map V.int)) :: _):=F;generalize [0,1,2,3,4,5,6+z4%61,67+z4 / 61%61]=bs at F hbs;refine#[_,rfl,_,rfl,_,rfl,ol,_,_,_,rfl,rfl,aK.of F.2.2.2.2.1,ai,cl,nl,cs,ws,n0,rfl,aK.of F.2.2.2.2.2.1,c15,aK.of F.2.2.2.1,by omega,by omega,wnm,on0,λp rl ep rr at_ ex rg H6 sn hp e_rl hep hRs=>?_];have F:=F.mono sn; have F:=F.re; have F:=F.add e_rl
   refine#[p,_,rfl,hp,rfl,_,_,rfl,_,_,rfl,_,_,rfl,rfl,?_];refine#[λσ' G=>∃(pr:Addr) (F1 Fo:F2.Fd),σ'=[some (.ref a),some (.ref cl),some (.ref ol),some (.ref nl),some (.ref ul),some (.ref bl),some (.ref rl),some (.int (at_:Nat)),some (.ref ep),some (.ref pr),none,none,none,none,none,none,none,none,none,none,none,none,none,none,none,none,none]/\aC H6 G/\G pr=some (.lst [V.ref F1.fa,V.ref Fo.fa])/\Bd K G ws rr at_ ex rg ep F1 Fo n0 n1 [o0,o1],?_,?_]
   . refine#[_,rfl,ol,_,_,_,rfl,rfl,aK.of F.2.2.2.2.2.1,ai,_,rfl,nl,_,rfl,.inl #[aK.of F.2.2.2.2.1,λtn k_tn=>?_]];have F:=F.new (o:=.tup (ws.map V.str)) k_tn; generalize upd H6 tn _=B2 at F ⊢;refine#[_,rfl,rl,_,rfl,.inl #[aK.of F.2.2.1,λtr k_tr=>?_]];have F:=F.new (o:=.tup (rr.map λx=>V.ref x.w.r)) k_tr; generalize upd B2 tr _=B3 at F ⊢;refine#[dZ,λf1 k=>?_];have F:=F.new (o:=.tup [V.str n0,.bl false,.ref tn,.ref tr]) k; generalize upd B3 f1 _=B4 at F ⊢;refine#[_,rfl,_,rfl,_,rfl,nl,_,rfl,.inl (aK.of F.2.2.2.2.2.2.2.1),ol,ul,n0,n1,o0,o1,_,rfl,aK.of F.2.2.2.2.2.2.2.2.1,aK.of F.2.2.2.2.2.2.1,on0,on1,und,unm,(by rw[HH]; omega),λFo H7 sn fFo nFo mFo rFo dFo=>#[aw,λpr k_pr=>?_]];have F:=F.mono sn;have hP:aG K H7 tn (ws.map V.str):=aG.of F.2.2.2.1;have hRs:=hRs.mono F.1;have fn:=uT (K:=K) rr (aG.of F.2.1) (aG.of F.2.2.1) (λx hx=>(hRs.ok x hx).1.1) hP wnm (by omega) (by have:=hRs.ln; omega) hRs.wf;have sn:=aC.new (o:=.lst [V.ref f1,V.ref Fo.fa]) k_pr;refine#[pr,_,Fo,rfl,F.1.trans sn,aL,#[sn.tup (F.1.tup hep),hRs.mono sn,F2.FnAt.mono sn fn,F2.FnAt.mono sn fFo,bN.mono (bN.tup (n:=5) (aG.of F.2.1) (.cons (.str on0.2) (.cons .bl (.cons (bN.tup (n:=4) hP (cB.of λv hv=>?_)) (.cons (bN.tup (n:=4) (aG.of F.2.2.1) (cB.of λv hv=>?_)) .nil))))) sn,bN.mono dFo sn,rfl,u6 wnd λd hd=>?_,rfl,nFo,mFo,rFo]]
     . obtain⟨s,hs,rfl⟩:=Hq.mp hv;exact .str (wnm s hs).2
     . obtain⟨x,hx,rfl⟩:=Hq.mp hv;exact((hRs.ok x hx).1.2).up (by decide)
     . obtain⟨x,hx,rfl⟩:=Hq.mp hd;exact(hRs.ok x hx).2
   clear hRs hep;rintro σ' H7 ⟨pr,F1,Fo,rfl,sn,e_pr,bd⟩;have F:=F.mono sn; have F:=F.re; have F:=F.add e_pr
   have b2:=cy z5 2 (by decide);refine#[_,rfl,cl,_,_,_,rfl,rfl,aK.of F.2.2.2.2.2.2.2.1,hz5,_,_,rfl,rfl,(show(0:Int)<2 by decide),?_];have b4:=cy (z5 / 2) 4 (by decide);obtain⟨kk,hkk⟩:∃kk:Nat,z5 / 2%4=(kk:Int):=#[(z5 / 2%4).toNat,by omega]
   have kk4:kk<4:=by omega
   refine#[_,rfl,cl,_,_,_,rfl,rfl,aK.of F.2.2.2.2.2.2.2.1,hz5,_,_,rfl,rfl,#[by decide,by decide],_,_,rfl,rfl,(show(0:Int)<4 by decide),?_];rw[hkk];generalize z5%2=cm at b2 ⊢;refine#[λσ' G=>∃(po:Addr) (xa xb:Int),σ'=[some (.ref a),some (.ref cl),some (.ref ol),some (.ref nl),some (.ref ul),some (.ref bl),some (.ref rl),some (.int (at_:Nat)),some (.ref ep),some (.ref pr),some (.int cm),some (.int (kk:Int)),some (.ref po),none,none,none,none,none,none,none,none,none,none,none,none,none,none]/\aC H7 G/\G po=some (.tup [.int xa,.int xb])/\0<=xa/\0<=xb,?_,?_]
   . refine#[aw,λt0 k=>?_];have F:=F.new (o:=.tup [V.int 1,V.int 2]) k; generalize upd H7 t0 _=B2 at F ⊢;refine#[aw,λt1 k=>?_];have F:=F.new (o:=.tup [V.int 1,V.int 3]) k; generalize upd B2 t1 _=B3 at F ⊢;refine#[aw,λt2 k=>?_];have F:=F.new (o:=.tup [V.int 2,V.int 3]) k; generalize upd B3 t2 _=B4 at F ⊢;refine#[aw,λt3 k=>?_];have F:=F.new (o:=.tup [V.int 2,V.int 1]) k; generalize upd B4 t3 _=B5 at F ⊢;refine#[aw,λt4 k=>?_];have F:=F.new (o:=.tup [V.int 3,V.int 1]) k; generalize upd B5 t4 _=B6 at F ⊢;refine#[aw,λt5 k=>?_];have F:=F.new (o:=.tup [V.int 3,V.int 2]) k; generalize upd B6 t5 _=B7 at F ⊢;refine#[le6,λlo k=>?_];have F:=F.new (o:=.lst [V.ref t0,V.ref t1,V.ref t2,V.ref t3,V.ref t4,V.ref t5]) k; generalize upd B7 lo _=B8 at F ⊢;have b6:=cy (z5 / 8) 6 (by decide);obtain⟨v12,a12,m12⟩:=zT (xs:=[V.ref t0,V.ref t1,V.ref t2,V.ref t3,V.ref t4,V.ref t5]) (i:=z5 / 8%6) b6.1 b6.2;refine#[_,rfl,cl,_,_,_,rfl,rfl,aK.of F.2.2.2.2.2.2.2.2.2.2.2.2.2.2.1,hz5,_,_,rfl,rfl,#[by decide,by decide],_,_,rfl,rfl,(show(0:Int)<6 by decide),lo,_,_,_,rfl,rfl,aK.of F.2.1,a12,?_];simp only[HV,Hm,or_false] at m12;rcases m12 with rfl|rfl|rfl|rfl|rfl|rfl
     . exact#[t0,_,_,rfl,F.1,F.2.2.2.2.2.2.2.1,by decide,by decide]
     . exact#[t1,_,_,rfl,F.1,F.2.2.2.2.2.2.1,by decide,by decide]
     . exact#[t2,_,_,rfl,F.1,F.2.2.2.2.2.1,by decide,by decide]
     . exact#[t3,_,_,rfl,F.1,F.2.2.2.2.1,by decide,by decide]
     . exact#[t4,_,_,rfl,F.1,F.2.2.2.1,by decide,by decide]
     . exact#[t5,_,_,rfl,F.1,F.2.2.1,by decide,by decide]
   rintro σ' H8 ⟨po,xa,xb,rfl,sn,e_po,b_a,b_b⟩;have F:=F.mono sn; have bd:=bd.mono F.1; have F:=F.re
   have b7:=cy (kk+xa) 4 (by decide);have b8:=cy (kk+xb) 4 (by decide);obtain⟨k0,hk0⟩:∃k0:Nat,(kk+xa)%4=(k0:Int):=#[((kk+xa)%4).toNat,by omega]
   obtain⟨k1,hk1⟩:∃k1:Nat,(kk+xb)%4=(k1:Int):=#[((kk+xb)%4).toNat,by omega]
   refine#[_,rfl,_,rfl,po,_,_,_,rfl,rfl,aG.of e_po,ai,_,_,rfl,rfl,_,_,rfl,rfl,(show(0:Int)<4 by decide),_,rfl,_,rfl,po,_,_,_,rfl,rfl,aG.of e_po,rfl,_,_,rfl,rfl,_,_,rfl,rfl,(show(0:Int)<4 by decide),aw,λon k=>?_];rw[hk0,hk1];have F:=F.new (o:=.lst [V.int (k0:Int),V.int (k1:Int)]) k; generalize upd H8 on _=B2 at F ⊢;have k04:k0<4/\k1<4:=by omega
   clear hk0 hk1 b7 b8 b_a b_b;refine#[λσ' G=>∃(bA:Addr) (m:Nat) (bs':List V),σ'=[some (.ref a),some (.ref cl),some (.ref ol),some (.ref nl),some (.ref ul),some (.ref bl),some (.ref rl),some (.int (at_:Nat)),some (.ref ep),some (.ref pr),some (.int cm),some (.int (kk:Int)),some (.ref po),some (.ref on),some (.ref bA),none,none,none,none,none,none,none,none,none,none,none,none]/\aC B2 G/\m<=1/\aG K G bA bs'/\Rk2.Ps (hX K G) bs' (List.replicate m (n1,0)),?_,?_]
   . have F:=F.re;refine#[_,rfl,ol,_,_,_,rfl,rfl,aK.of F.2.2.2.2.2.2.2.1,rfl,aw,λq1 k=>?_];have F:=F.new (o:=.tup [V.str n1,.int 0]) k; generalize upd B2 q1 _=B3 at F ⊢;refine#[cN,λq2 k=>?_];have F:=F.new (o:=.tup [V.ref q1]) k; generalize upd B3 q2 _=B4 at F ⊢;refine#[_,rfl,cl,_,_,_,rfl,rfl,aK.of F.2.2.2.2.2.2.2.2.2.2.1,hz13,_,_,rfl,rfl,(show(0:Int)<3 by decide),rfl,.inr #[_,rfl,q2,_,_,rfl,rfl,aG.of F.2.1,by simp,by split <;> decide,by split <;> decide,(by show(1:Int) * _<=1000; split <;> decide),λ_=>#[q2,1,_,rfl,F.1,HN _,aG.of F.2.1,#[q1,rfl,aG.of F.2.2.1],trivial],λh p hp=>?_]];have h0:(if decide (V.int (z13%3)=V.int 0)=true then(1:Int) else 0)=0:=by
       split
       . rename_i hh; exact absurd (HR hh) h
       . rfl
     rw[h0];exact#[p,0,[],rfl,F.1.trans (aC.new hp),Hl _,aG.of aL,trivial]
   rintro σ' B ⟨bA,m,bs',rfl,sn,m1,hbA,pbA⟩;have F:=F.mono sn; have bd:=bd.mono F.1; have F:=F.re
   have lbs:=Rk2.Ps.len pbA;rw[Hj] at lbs;refine#[_,rfl,cl,_,_,_,rfl,rfl,aK.of F.2.2.2.2.2.2.2.2.1,hz14,_,rfl,_,rfl,z14,2,bl,bs,cm,rfl,by decide,aK.of F.2.2.2.2.1,hbs,b2.1,λva ua vA H9 sn hva e_va p_va ⟨l_va,v9a⟩=>?_];have F:=F.mono sn; have bd:=bd.mono F.1; have hbA:=F.1.tup hbA; have pbA:=Rk2.Ps.imp (λ_ _ z=>z.mono F.1) pbA; have F:=F.re; have F:=F.add e_va
   refine#[cN,λla k=>?_];have F:=F.new (o:=.lst [V.ref va]) k; generalize upd H9 la _=B3 at F ⊢;refine#[_,rfl,bA,_,rfl,.inr (F.1.tup hbA),la,_,_,rfl,rfl,F.2.1,by omega,by omega,cG (by rw[IH,lbs]; show 1 * m<_; omega),λaA k=>?_];rw[ou,IH,lbs];have F:=F.new (o:=.lst (List.replicate m (V.ref va))) k; generalize upd B3 aA _=B4 at F ⊢;refine#[_,rfl,cl,_,_,_,rfl,rfl,aK.of F.2.2.2.2.2.2.2.2.2.2.2.1,hz6,_,rfl,nl,_,rfl,.inl (aK.of F.2.2.2.2.2.2.2.2.2.1),_,rfl,_,rfl,z6,_,bl,bs,cm,rfl,(by rw[HH]; omega),aK.of F.2.2.2.2.2.2.2.1,hbs,b2.1,λvv uv vw H10 sn hvv e_vv p_vv ⟨l_vv,v9v⟩=>?_];have F:=F.mono sn; have bd:=bd.mono F.1; have hbA:=F.1.tup hbA; have pbA:=Rk2.Ps.imp (λ_ _ z=>z.mono F.1) pbA; have p_va:=Rk2.Ps.imp (λ_ _ z=>aX.mono z F.1) p_va; have F:=F.re; have F:=F.add e_vv
   rw[HH] at l_vv;obtain⟨xr,hxr,hrow⟩:=bd.r.row;have hat:bQ (rr.map λx=>V.ref x.w.r) (at_:Nat)=some (.ref xr.w.r):=bt (by rw[HW,hxr]; rfl);refine#[_,rfl,_,rfl,_,rfl,rl,_,_,_,rfl,rfl,aK.of F.2.2.2.2.2.2.2.1,hat,_,rfl,_,rfl,xr.w.r,nl,vv,rg,ws,uv,vw,rfl,hrow,bd.r.rg_,aK.of F.2.2.2.2.2.2.2.2.2.2.1,F.2.1,p_vv,l_vv,by omega,v9v,λbh ub kb H11 sn hbh e_bh p_bh hkb=>?_];have F:=F.mono sn; have bd:=bd.mono F.1; have hbA:=F.1.tup hbA; have pbA:=Rk2.Ps.imp (λ_ _ z=>z.mono F.1) pbA; have p_va:=Rk2.Ps.imp (λ_ _ z=>aX.mono z F.1) p_va; have p_vv:=Rk2.Ps.imp (λ_ _ z=>aX.mono z F.1) p_vv; have hrow:=F.1.tup hrow; have F:=F.re; have F:=F.add e_bh
   subst hkb;refine#[cN,λlb k=>?_];have F:=F.new (o:=.lst [V.ref bh]) k; generalize upd H11 lb _=B5 at F ⊢;refine#[aA,lb,_,_,rfl,rfl,F.2.2.2.2.1,F.2.1,cG (by rw[Hj]; show m+1<_; omega),λkn k=>?_];have F:=F.new (o:=.lst (List.replicate m (V.ref va)++[V.ref bh])) k; generalize upd B5 kn _=B6 at F ⊢;have hKn:Rk2.Ps (dB B6) (List.replicate m (V.ref va)++[V.ref bh]) (List.replicate m vA++[dw ws vw rg]):=Rk2.Ps.app (kN (R:=dB B6) #[va,ua,rfl,F.2.2.2.2.2.2.2.1,(Rk2.Ps.imp (λ_ _ z=>aX.mono z F.1) p_va)] m) #[#[bh,ub,rfl,F.2.2.2.1,(Rk2.Ps.imp (λ_ _ z=>aX.mono z F.1) p_bh)],trivial];have bd:=bd.mono F.1; have hbA:=F.1.tup hbA; have pbA:=Rk2.Ps.imp (λ_ _ z=>z.mono F.1) pbA; have p_va:=Rk2.Ps.imp (λ_ _ z=>aX.mono z F.1) p_va; have p_vv:=Rk2.Ps.imp (λ_ _ z=>aX.mono z F.1) p_vv; have hrow:=F.1.tup hrow; have F:=F.re
   have hKo:∀kn∈List.replicate m vA++[dw ws vw rg],bo kn/\kn.length<=20:=λkn hk=>by
     rcases Hg.mp hk with h|h
     . rw[(JD.mp h).2]; exact#[v9a.ok,by rw[l_va]; decide]
     . cases HY.mp h; exact#[w6 bd.r.rg_ l_vv v9v,by rw[oV,l_vv]; omega]
   refine#[_,rfl,cl,_,_,_,rfl,rfl,aK.of F.2.2.2.2.2.2.2.2.2.2.2.2.2.2.2.1,hz7,_,rfl,kn,_,_,rfl,aK.of F.2.1,hKn,hKo,(by rw[HU,Hj]; show m+1<=3; omega),λfl uf kf H12 sn hfl e_fl p_fl ⟨l_fl,o_fl⟩=>?_];have F:=F.mono sn; have bd:=bd.mono F.1; have hbA:=F.1.tup hbA; have pbA:=Rk2.Ps.imp (λ_ _ z=>z.mono F.1) pbA; have p_va:=Rk2.Ps.imp (λ_ _ z=>aX.mono z F.1) p_va; have p_vv:=Rk2.Ps.imp (λ_ _ z=>aX.mono z F.1) p_vv; have hrow:=F.1.tup hrow; have hKn:=Rk2.Ps.imp (λ_ _ z=>z.mono F.1) hKn; have F:=F.re
   refine#[_,rfl,z7,fl,bl,uf,kf,bs,rfl,aK.of e_fl,p_fl,o_fl,l_fl,aK.of F.2.2.2.2.2.2.2.2.2.2.2.1,hbs,λsS xs ps H13 sn hst e_st p_st l_st o_st=>?_];have F:=F.mono sn; have bd:=bd.mono F.1; have hbA:=F.1.tup hbA; have pbA:=Rk2.Ps.imp (λ_ _ z=>z.mono F.1) pbA; have p_va:=Rk2.Ps.imp (λ_ _ z=>aX.mono z F.1) p_va; have p_vv:=Rk2.Ps.imp (λ_ _ z=>aX.mono z F.1) p_vv; have hrow:=F.1.tup hrow; have hKn:=Rk2.Ps.imp (λ_ _ z=>z.mono F.1) hKn; have F:=F.re; have F:=F.add e_st
   refine#[_,rfl,sS,xs,ps,rfl,aK.of F.2.1,p_st,by omega,λnw kw H14 sn hnw e_nw nv=>?_];have F:=F.mono sn; have bd:=bd.mono F.1; have hbA:=F.1.tup hbA; have pbA:=Rk2.Ps.imp (λ_ _ z=>z.mono F.1) pbA; have p_va:=Rk2.Ps.imp (λ_ _ z=>aX.mono z F.1) p_va; have p_vv:=Rk2.Ps.imp (λ_ _ z=>aX.mono z F.1) p_vv; have hrow:=F.1.tup hrow; have hKn:=Rk2.Ps.imp (λ_ _ z=>z.mono F.1) hKn; have p_st:=Rk2.Ps.imp (λ_ _ z=>z.mono F.1) p_st; have F:=F.re; have F:=F.add e_nw
   refine#[_,rfl,_,rfl,rl,_,_,_,rfl,rfl,aK.of F.2.2.2.2.2.2.2.2.2.2.2.2.1,hat,_,rfl,cl,_,_,_,rfl,rfl,aK.of F.2.2.2.2.2.2.2.2.2.2.2.2.2.2.2.2.2.1,hz8,_,rfl,_,_,rfl,rfl,_,_,rfl,rfl,.inr #[by omega,by omega],_,_,rfl,rfl,_,rfl,_,rfl,_,rfl,_,rfl,xr.w.r,on,nl,vv,bl,_,rg,k0,k1,ws,uv,vw,bs,rfl,hrow,bd.r.rg_,aK.of F.2.2.2.2.2.2.2.2.2.2.1,aK.of F.2.2.2.2.2.2.2.2.2.2.2.2.2.2.2.1,aK.of F.2.2.2.2.2.2.1,p_vv,l_vv,by omega,v9v,aK.of F.2.2.2.2.2.2.2.2.2.2.2.2.2.1,hbs,λac as H15 sn hac hAc=>?_];have F:=F.mono sn; have bd:=bd.mono F.1; have hbA:=F.1.tup hbA; have pbA:=Rk2.Ps.imp (λ_ _ z=>z.mono F.1) pbA; have p_va:=Rk2.Ps.imp (λ_ _ z=>aX.mono z F.1) p_va; have p_vv:=Rk2.Ps.imp (λ_ _ z=>aX.mono z F.1) p_vv; have hrow:=F.1.tup hrow; have hKn:=Rk2.Ps.imp (λ_ _ z=>z.mono F.1) hKn; have p_st:=Rk2.Ps.imp (λ_ _ z=>z.mono F.1) p_st; have nv:=nv.mono F.1; have F:=F.re
   obtain⟨-,e_nw,e_st,e_kn,-,-,e_vv,e_aA,-,e_va,e_on,e_pr,e_rl,e_bl,-,e_nl,e_ol,e_cl,-⟩:=F;obtain⟨hep,hRs,fF1,fFo,dF1,dFo,nF1,mF1,rF1,nFo,mFo,rFo⟩:=bd;refine#[λσ' G=>∃(sA:Addr) (svs:List V) (ks:List Str),σ'=[some (.ref a),some (.ref cl),some (.ref ol),some (.ref nl),some (.ref ul),some (.ref bl),some (.ref rl),some (.int (at_:Nat)),some (.ref ep),some (.ref pr),some (.int cm),some (.int (kk:Int)),some (.ref po),some (.ref on),some (.ref bA),some (.ref aA),some (.ref vv),some (.ref kn),some (.ref sS),some (.ref nw),some (.ref ac),some (.ref sA),none,none,none,none,none]/\aC H15 (ers sA G)/\H15 sA=none/\G sA=some (.lst svs)/\ks.length=4/\Rk2.Ps (dg K (ers sA G)) svs ks,?_,?_]
   . have F:=Al.nil (H:=H15);refine#[dh,λw0 k=>?_];have F:=F.new (o:=.lst []) k; generalize upd H15 w0 _=B7 at F ⊢;refine#[aw,λx0 k=>?_];have F:=F.new (o:=.tup [V.str "num",.int 0]) k; generalize upd B7 x0 _=B8 at F ⊢;refine#[aw,λy0 k=>?_];have F:=F.new (o:=.tup [V.str "back",.ref x0]) k; generalize upd B8 y0 _=B9 at F ⊢;refine#[aw,λu0 k=>?_];have F:=F.new (o:=.tup [V.ref w0,.ref y0]) k; generalize upd B9 u0 _=B10 at F ⊢;refine#[dh,λw1 k=>?_];have F:=F.new (o:=.lst []) k; generalize upd B10 w1 _=B11 at F ⊢;refine#[aw,λx1 k=>?_];have F:=F.new (o:=.tup [V.str "num",.int 0]) k; generalize upd B11 x1 _=B12 at F ⊢;refine#[aw,λy1 k=>?_];have F:=F.new (o:=.tup [V.str "back",.ref x1]) k; generalize upd B12 y1 _=B13 at F ⊢;refine#[aw,λu1 k=>?_];have F:=F.new (o:=.tup [V.ref w1,.ref y1]) k; generalize upd B13 u1 _=B14 at F ⊢;refine#[dh,λw2 k=>?_];have F:=F.new (o:=.lst []) k; generalize upd B14 w2 _=B15 at F ⊢;refine#[aw,λy2 k=>?_];have F:=F.new (o:=.tup [V.str "go",.int 0]) k; generalize upd B15 y2 _=B16 at F ⊢;refine#[aw,λu2 k=>?_];have F:=F.new (o:=.tup [V.ref w2,.ref y2]) k; generalize upd B16 u2 _=B17 at F ⊢;refine#[dh,λw3 k=>?_];have F:=F.new (o:=.lst []) k; generalize upd B17 w3 _=B18 at F ⊢;refine#[aw,λy3 k=>?_];have F:=F.new (o:=.tup [V.str "go",.int 0]) k; generalize upd B18 y3 _=B19 at F ⊢;refine#[aw,λu3 k=>?_];have F:=F.new (o:=.tup [V.ref w3,.ref y3]) k; generalize upd B19 u3 _=B20 at F ⊢;obtain⟨SC,e_u3,e_y3,e_w3,e_u2,e_y2,e_w2,e_u1,e_y1,e_x1,e_w1,e_u0,e_y0,e_x0,e_w0,-⟩:=F;refine#[dZ,λsA k_s=>#[sA,_,["back","back","go","go"],rfl,?_,SC.free k_s,aL,rfl,?_]]
     . rw[gg]; exact g9 SC (SC.free k_s)
     . rw[gg];have se:=g9 (aC.refl _) k_s;exact#[dg.mono se (tF e_u0 e_w0 e_y0 e_x0),dg.mono se (tF e_u1 e_w1 e_y1 e_x1),dg.mono se (tN e_u2 e_w2 e_y2),dg.mono se (tN e_u3 e_w3 e_y3),trivial]
   rintro σ' D5 ⟨sA,svs,ks,rfl,SD,nsA,e_sA,ks4,hss⟩;have rr0:0<F1.rs.length:=by rw[rF1,HH]; have:=(HL.mp hxr).1; omega
   obtain⟨nd_,sz,Fd,hix,hiy,hFm,hFn,hFl,hFr,hFz⟩:∃(x:Str) (y:Nat) (F:F2.Fd),bQ ([n0,n1].map V.str) ((bs'.length:Nat):Int)=some (.str x)/\bQ [V.int (((ws.map V.str).length:Nat):Int),V.int 2] ((bs'.length:Nat):Int)=some (.int (y:Nat))/\F∈[F1,Fo]/\F.name=x/\(F2.nms F).length=y/\0<F.rs.length/\y<=5:=by
     rw[lbs];obtain rfl|rfl:m=0\/m=1:=by omega
     . exact#[n0,ws.length,F1,rfl,by rw[HH]; rfl,HS,nF1,by rw[mF1],rr0,by omega]
     . exact#[n1,2,Fo,rfl,rfl,HZ _ HS,nFo,by rw[mFo]; rfl,rFo,by decide]
   refine#[λσ' G=>∃(mA:Addr) (mvs:List V) (Ms:List (List Lev)),σ'=[some (.ref a),some (.ref cl),some (.ref ol),some (.ref nl),some (.ref ul),some (.ref bl),some (.ref rl),some (.int (at_:Nat)),some (.ref ep),some (.ref pr),some (.int cm),some (.int (kk:Int)),some (.ref po),some (.ref on),some (.ref bA),some (.ref aA),some (.ref vv),some (.ref kn),some (.ref sS),some (.ref nw),some (.ref ac),some (.ref sA),some (.ref mA),none,none,none,none]/\TwoL K H15 sA mA [F1,Fo] G svs ks mvs Ms,?_,?_]
   . have lss:=Rk2.Ps.len hss;refine#[_,rfl,sA,rfl,#[_,aK.of e_sA],λmA hmA=>oT (xs:=svs) (λi Gx v=>∃e:Lev,LevOk [F1,Fo] e/\bo e.vw/\dF K (ers sA Gx) (dE [e]) v) (λi v G G' s ⟨e,a,b,c⟩=>#[e,a,b,c.mono (aC.ers s)]) (by omega) (aK.of e_sA) hmA ?_ ?_]
     . rintro i x G R_ hx sG ⟨acc,eacc⟩ kk;have SE:aC H15 G:=(SD.trans dH).trans sG;have esA:=sG _ _ e_sA;have F:=Al.nil (H:=G);refine#[_,rfl,_,rfl,bA,_,rfl,.inr (SE.tup hbA),ol,_,_,_,rfl,rfl,aK.of (SE _ _ e_ol),hix,aw,λq1 k=>?_];have n_q1:=And.intro (dO esA k) (dO eacc k);have F:=F.new (o:=.tup [V.str nd_,.int 0]) k; generalize upd G q1 _=B7 at F ⊢;refine#[cN,λq2 k=>?_];have n_q2:=And.intro (dO (F.1 _ _ esA) k) (dO (F.1 _ _ eacc) k);have F:=F.new (o:=.tup [V.ref q1]) k; generalize upd B7 q2 _=B8 at F ⊢;refine#[cN,λq3 k=>?_];have n_q3:=And.intro (dO (F.1 _ _ esA) k) (dO (F.1 _ _ eacc) k);have F:=F.new (o:=.lst [V.non]) k; generalize upd B8 q3 _=B9 at F ⊢;refine#[_,rfl,nl,_,rfl,.inl (aK.of ((SE.trans F.1) _ _ e_nl)),aw,λq4 k=>?_];have n_q4:=And.intro (dO (F.1 _ _ esA) k) (dO (F.1 _ _ eacc) k);have F:=F.new (o:=.lst [V.int (((ws.map V.str).length:Nat):Int),V.int 2]) k; generalize upd B9 q4 _=B10 at F ⊢;refine#[_,rfl,bA,_,rfl,.inr ((SE.trans F.1).tup hbA),q4,_,_,_,rfl,rfl,aK.of F.2.1,hiy,q3,_,_,rfl,rfl,F.2.2.1,by omega,by omega,cG (by rw[IH]; show 1 * sz<_; omega),λq5 k=>?_];have n_q5:=And.intro (dO (F.1 _ _ esA) k) (dO (F.1 _ _ eacc) k);rw[ou,IH];have F:=F.new (o:=.lst (List.replicate sz V.non)) k; generalize upd B10 q5 _=B11 at F ⊢;refine#[cN,λq6 k=>?_];have n_q6:=And.intro (dO (F.1 _ _ esA) k) (dO (F.1 _ _ eacc) k);have F:=F.new (o:=.lst [V.ref q5]) k; generalize upd B11 q6 _=B12 at F ⊢;refine#[aw,λq7 k=>?_];have n_q7:=And.intro (dO (F.1 _ _ esA) k) (dO (F.1 _ _ eacc) k);have F:=F.new (o:=.tup [V.ref q2,.ref q6]) k; generalize upd B12 q7 _=B13 at F ⊢;refine kk _ _ F.1 #[#[Fd,0,List.replicate sz none],#[hFm,hFr,by rw[Hj,hFl],by rw[hFl]; omega],λo ho=>by rw[(JD.mp ho).2]; exact cc.no,q7,.ref q2,q6,[.ref q5],rfl,jX n_q7 F.2.1,?_,jX n_q6 F.2.2.1,#[q5,_,rfl,jX n_q5 F.2.2.2.1,kN (show aX _ none .non from rfl) sz],trivial];refine#[q2,[.ref q1],rfl,aG.of (jX n_q2 F.2.2.2.2.2.2.1),#[q1,rfl,?_],trivial];rw[show(Lev.fr #[Fd,0,List.replicate sz none]).1=nd_ from hFn];exact aG.of (jX n_q1 F.2.2.2.2.2.2.2.1)
     . rintro G vs sG eG lG tG;obtain⟨es,v1,v2,v3⟩:=nR (P:=λ_ (e:Lev) v=>LevOk [F1,Fo] e/\bo e.vw/\dF K (ers sA (ers mA G)) (dE [e]) v) tG;have nm_:=dO e_sA hmA;have SM:aC (ers sA D5) (bY sA mA G):=g9 (aC.ers sG) (by rw[c9 nm_]; exact hmA);refine#[mA,vs,es.map λe=>[e],rfl,SD.trans SM,nsA,(SD.trans dH).free hmA,sG _ _ e_sA,eG,nm_.symm,Rk2.Ps.imp (λ_ _ z=>z.mono SM) hss,ks4,?_,by rw[HH]; omega,λL hL=>?_]
       . refine Ps.map (λe=>[e]) (λe _ v h=>?_) v3;obtain⟨_,_,_,h⟩:=h;unfold bY;rw[BY];exact h
       . obtain⟨e,he,rfl⟩:=Hq.mp hL;obtain⟨i,hi⟩:=Im he;obtain⟨_,_,h1,h2,_⟩:=v2 i e hi;exact#[by simp,λe2 h=>by cases HY.mp h; exact#[h1,h2]]
   rintro σ' D6 ⟨mA,mvs,Ms,rfl,tw⟩;refine#[λσ' G=>∃(cA:Addr) (cvs:List V),σ'=[some (.ref a),some (.ref cl),some (.ref ol),some (.ref nl),some (.ref ul),some (.ref bl),some (.ref rl),some (.int (at_:Nat)),some (.ref ep),some (.ref pr),some (.int cm),some (.int (kk:Int)),some (.ref po),some (.ref on),some (.ref bA),some (.ref aA),some (.ref vv),some (.ref kn),some (.ref sS),some (.ref nw),some (.ref ac),some (.ref sA),some (.ref mA),some (.ref cA),none,none,none]/\TwoL K H15 sA mA [F1,Fo] G svs ks mvs Ms/\bY sA mA G cA=some (.lst cvs)/\Rk2.Ps (cR K (bY sA mA G)) cvs (ex.map λe=>List.replicate m (n1,0)++[(n0,e)]),?_,?_]
   . have tw0:=tw; have SE:aC H15 D6:=tw.all
     refine#[_,rfl,ep,rfl,#[_,SE.tup hep],λcA hcA=>GJ (xs:=ex.map λe:Nat=>V.int e) (λi Gx v=>∃e,ex[i]?=some e/\cR K (bY sA mA Gx) (List.replicate m (n1,0)++[(n0,e)]) v) (λi v G G' s ⟨e,a,b⟩=>#[e,a,b.mono (de s)]) ?_ (SE.tup hep) hcA ?_ ?_]
     . rw[HH];have h1:=hRs.n1;have h2:=hRs.n2;rcases jV hRs.rg_ with⟨n,hg,_⟩|⟨ht,_⟩
       . rw[h1 n hg]; decide
       . rw[h2 ht]; decide
     . rintro i x G R_ hx sG ⟨acc,eacc⟩ kk;rw[HW,Ic] at hx;obtain⟨e,he,rfl⟩:=hx;have SF:=SE.trans sG;refine#[_,rfl,_,rfl,ol,_,_,_,rfl,rfl,aK.of (SF _ _ e_ol),ai,_,rfl,aw,λq1 k_q1=>#[cN,λq2 k_q2=>kr (((SF.trans (aC.new k_q1)).trans (aC.new k_q2)).tup hbA) aL (by simp) (cG (by show bs'.length+1<_; omega)) λp H' s' e'=>?_]];have s2:=((aC.new (o:=.tup [V.str n0,.int (e:Nat)]) k_q1).trans (aC.new (o:=.tup [V.ref q1]) k_q2)).trans s';have e1:=((aC.new (o:=.tup [V.ref q1]) k_q2).trans s') _ _ (show upd G q1 (.tup [V.str n0,.int (e:Nat)]) q1=_ from aL);have st:=(sG.trans s2)
       have SX:aC H15 (bY sA mA (ers cA H')):=C8 (g9 (SE.trans st) (SE.free hcA)) tw.c1 tw.c2;exact kk _ _ s2 #[e,he,p,_,rfl,aG.of (wS (st _ _ tw.s) (st _ _ tw.m) (s2 _ _ eacc) e'),Rk2.Ps.app (Rk2.Ps.imp (λ_ _ z=>z.mono SX) pbA) #[#[q1,rfl,aG.of (wS (st _ _ tw.s) (st _ _ tw.m) (s2 _ _ eacc) e1)],trivial]]
     . rintro G vs sG eG lG tG;have tw:=tw.mono sG;refine#[cA,vs,rfl,tw,?_,Ps.of_at (by rw[HH]; rw[HH] at lG; exact lG) λi v ch hv hc=>?_]
       . rw[lQ (λz=>by rw[z] at hcA; rw[tw0.s] at hcA; cases hcA) (λz=>by rw[z] at hcA; rw[tw0.m] at hcA; cases hcA)];exact eG
       . rw[HW,Ic] at hc;obtain⟨e,he,rfl⟩:=hc;obtain⟨e',he',h⟩:=tG i v hv;rw[he] at he';cases he';exact h.mono (de dH)
   rintro σ' D7 ⟨cA,cvs,rfl,tw,e_cA,hcs⟩;have fFs:=ga (s:=sA) (m:=mA) (H:=D7);have SX:=tw.all;have hex2:ex.length<=2:=(jV hRs.rg_).elim (λ⟨n,hg,_⟩=>by rw[hRs.n1 n hg]; decide) λ⟨ht,_⟩=>by rw[hRs.n2 ht]; decide
   refine#[_,rfl,ep,_,rfl,.inr (SX.tup hep),_,rfl,by omega,by rw[HH]; have:=hex2; omega,(let Jv2:Nat->St->Hp->Prop:=λi σ G=>∃(v24 v25:Option V) (svs:List V) (ks:List Str) (mvs:List V) (Ms:List (List Lev)),σ=[some (.ref a),some (.ref cl),some (.ref ol),some (.ref nl),some (.ref ul),some (.ref bl),some (.ref rl),some (.int (at_:Nat)),some (.ref ep),some (.ref pr),some (.int cm),some (.int (kk:Int)),some (.ref po),some (.ref on),some (.ref bA),some (.ref aA),some (.ref vv),some (.ref kn),some (.ref sS),some (.ref nw),some (.ref ac),some (.ref sA),some (.ref mA),some (.ref cA),v24,v25,none]/\TwoL K H15 sA mA [F1,Fo] G svs ks mvs Ms/\aC (bY sA mA D7) (bY sA mA G); gq (lo:=0) (n:=(ex.map λe:Nat=>V.int e).length) Jv2 #[_,_,svs,ks,mvs,Ms,rfl,tw,aC.refl _] ?_ ?_)]
   . rintro i σ G hi ⟨v24,v25,svs,ks,mvs,Ms,rfl,tw,sE⟩;rw[HH] at hi;obtain⟨e,he⟩:∃e,ex[i]?=some e:=#[_,HX hi]
     obtain⟨l_,hdue,hex⟩:=hRs.way;have heF:e<F1.rs.length:=by rw[rF1,HH]; exact(hex i e he).2
     have hatF:at_<F1.rs.length:=by rw[rF1,HH]; exact(HL.mp hxr).1
     have SX:=tw.all;obtain⟨cv,hcv,hch⟩:=Ps.get hcs (i:=i) (by rw[HW,he]; rfl);have hch:=hch.mono sE;have iz:(0+(i:Int))=(i:Int):=KM _;refine#[_,rfl,_,rfl,cA,_,_,_,rfl,rfl,aK.of ((sE.trans ga) _ _ e_cA),(by rw[iz]; exact bt hcv),?_];refine#[λσ' G'=>∃(cv:V) (r:Nat),σ'=[some (.ref a),some (.ref cl),some (.ref ol),some (.ref nl),some (.ref ul),some (.ref bl),some (.ref rl),some (.int (at_:Nat)),some (.ref ep),some (.ref pr),some (.int cm),some (.int (kk:Int)),some (.ref po),some (.ref on),some (.ref bA),some (.ref aA),some (.ref vv),some (.ref kn),some (.ref sS),some (.ref nw),some (.ref ac),some (.ref sA),some (.ref mA),some (.ref cA),some (.int (0+(i:Int))),some cv,none]/\r<F1.rs.length/\aC G G'/\cR K (bY sA mA G') (List.replicate m (n1,0)++[(n0,r)]) cv,?_,?_]
     . refine#[_,rfl,cl,_,_,_,rfl,rfl,aK.of (SX _ _ e_cl),hz9,_,_,rfl,rfl,(show(0:Int)<10 by decide),_,rfl,rfl,_,rfl,?_];by_cases h9:z9%10=0+(i:Int)
       . refine aU (HK (Hb V.int h9)) #[_,rfl,_,rfl,?_];by_cases hcm:cm=0
         . refine aU (by rw[hcm]; decide) ?_;refine#[_,rfl,_,rfl,ol,_,_,_,rfl,rfl,aK.of (SX _ _ e_ol),ai,_,rfl,aw,λq1 k_q1=>#[cN,λq2 k_q2=>kr (((SX.trans (aC.new k_q1)).trans (aC.new k_q2)).tup hbA) aL (by simp) (cG (by show bs'.length+1<_; omega)) λp H' s' e'=>?_]];have s2:=((aC.new (o:=.tup [V.str n0,.int (at_:Nat)]) k_q1).trans (aC.new (o:=.tup [V.ref q1]) k_q2)).trans s';have e1:=((aC.new (o:=.tup [V.ref q1]) k_q2).trans s') _ _ (show upd G q1 (.tup [V.str n0,.int (at_:Nat)]) q1=_ from aL);have tw2:=tw.mono s2;exact#[.ref p,at_,rfl,hatF,s2,p,_,rfl,aG.of (tw2.at_ e'),Rk2.Ps.app (Rk2.Ps.imp (λ_ _ z=>z.mono tw2.b) pbA) #[#[q1,rfl,aG.of (tw2.at_ e1)],trivial]]
         . exact ak (by simp [hcm]) #[cv,e,rfl,heF,aC.refl _,hch]
       . exact ak (λz=>h9 (V.int.inj (bM z))) (jN #[cv,e,rfl,heF,aC.refl _,hch])
     rintro σ' G1 ⟨cv,r,rfl,hrF,s1,hch⟩;have tw:=tw.mono s1;have sE:=sE.trans (de s1);have SX:=tw.all;obtain⟨kj,hkj,kj4⟩:∃kj:Nat,bQ [V.int (k0:Int),V.int (k1:Int)] (0+(i:Int))=some (.int (kj:Nat))/\kj<4:=by
       obtain rfl|rfl:i=0\/i=1:=by omega
       . exact#[k0,rfl,k04.1]
       . exact#[k1,rfl,k04.2]
     refine#[λσ' G'=>∃(svs:List V) (ks:List Str),σ'=[some (.ref a),some (.ref cl),some (.ref ol),some (.ref nl),some (.ref ul),some (.ref bl),some (.ref rl),some (.int (at_:Nat)),some (.ref ep),some (.ref pr),some (.int cm),some (.int (kk:Int)),some (.ref po),some (.ref on),some (.ref bA),some (.ref aA),some (.ref vv),some (.ref kn),some (.ref sS),some (.ref nw),some (.ref ac),some (.ref sA),some (.ref mA),some (.ref cA),some (.int (0+(i:Int))),some cv,none]/\TwoL K H15 sA mA [F1,Fo] G' svs ks mvs Ms/\aC (bY sA mA G1) (bY sA mA G'),?_,?_]
     . refine#[_,rfl,cl,_,_,_,rfl,rfl,aK.of (SX _ _ e_cl),hz9,_,_,rfl,rfl,(show(0:Int)<10 by decide),rfl,_,rfl,?_];have no:∃(svs_:List V) (ks_:List Str),[some (.ref a),some (.ref cl),some (.ref ol),some (.ref nl),some (.ref ul),some (.ref bl),some (.ref rl),some (.int (at_:Nat)),some (.ref ep),some (.ref pr),some (.int cm),some (.int (kk:Int)),some (.ref po),some (.ref on),some (.ref bA),some (.ref aA),some (.ref vv),some (.ref kn),some (.ref sS),some (.ref nw),some (.ref ac),some (.ref sA),some (.ref mA),some (.ref cA),some (.int (0+(i:Int))),some cv,none]=[some (.ref a),some (.ref cl),some (.ref ol),some (.ref nl),some (.ref ul),some (.ref bl),some (.ref rl),some (.int (at_:Nat)),some (.ref ep),some (.ref pr),some (.int cm),some (.int (kk:Int)),some (.ref po),some (.ref on),some (.ref bA),some (.ref aA),some (.ref vv),some (.ref kn),some (.ref sS),some (.ref nw),some (.ref ac),some (.ref sA),some (.ref mA),some (.ref cA),some (.int (0+(i:Int))),some cv,none]/\TwoL K H15 sA mA [F1,Fo] G1 svs_ ks_ mvs Ms/\aC (bY sA mA G1) (bY sA mA G1):=#[svs,ks,rfl,tw,aC.refl _]
       by_cases h9:z9%10=5
       . refine aU (HK (Hb V.int h9)) #[_,rfl,_,rfl,?_];by_cases hcm:cm=0
         . refine aU (by rw[hcm]; decide) ?_;obtain⟨xe,hxe⟩:∃x,rr[e]?=some x:=#[_,HX (hex i e he).2]
           obtain⟨rest,hke,_⟩:=((hRs.mono SX).ok xe (HP hxe)).1.1.2.1;refine#[_,rfl,_,rfl,_,rfl,ep,_,_,_,rfl,rfl,SX.tup hep,(by rw[iz]; exact bt (by rw[HW,he]; rfl)),rl,_,_,_,rfl,rfl,aK.of (SX _ _ e_rl),bt (by rw[HW,hxe]; rfl),xe.w.r,_,_,_,rfl,rfl,hke,ai,rfl,_,rfl,?_];by_cases hkc:xe.w.k="call"
           . refine aU (HK (Hb V.str hkc)) ?_;have F:=Al.nil (H:=G1); have tw1:=tw
             refine#[dh,λq1 k=>?_];have F:=F.new (o:=.lst []) k; generalize upd G1 q1 _=B7 at F ⊢;have k1_:=k;refine#[cU,λq2 k=>?_];have F:=F.new (o:=.tup [V.str "wait",.non,.int 0]) k; generalize upd B7 q2 _=B8 at F ⊢;refine#[aw,λq3 k=>?_];have F:=F.new (o:=.tup [V.ref q1,.ref q2]) k; generalize upd B8 q3 _=B9 at F ⊢;obtain⟨SQ,e_q3,e_q2,e_q1,-⟩:=F; have tw:=tw.mono SQ; have SX:=tw.all
             have n_q1:=tw.new tw1 k1_ e_q1;have hq:dg K (bY sA mA B9) "wait" (.ref q3):=#[#[q3,_,q2,_,rfl,aG.of (tw.at_ e_q3),aG.of (tw.at_ e_q2)],bN.tup (n:=12) (aG.of (tw.at_ e_q3)) (.cons (bN.lst (n:=11) (aK.of n_q1) .nil) (.cons (bN.tup (n:=11) (aG.of (tw.at_ e_q2)) (.cons (.str (by decide +kernel)) (.cons .non (.cons .int .nil)))) .nil))]
             have ls:=Rk2.Ps.len tw.ss;exact#[_,rfl,_,rfl,_,rfl,on,_,_,_,rfl,rfl,aK.of (SX _ _ e_on),hkj,sA,_,_,kj,rfl,rfl,tw.s,jA (by rw[ls,tw.sl]; exact kj4),_,_,rfl,tw.setS hq,by rw[ie]; exact de SQ]
           . exact ak (λz=>hkc (V.str.inj (bM z))) no
         . exact ak (by simp [hcm]) (jN no)
       . exact ak (λz=>h9 (V.int.inj (bM z))) (jN no)
     rintro σ' G2 ⟨svs,ks,rfl,tw,s2⟩;have sE:=sE.trans s2;have hch:=hch.mono s2;have SX:=tw.all;obtain⟨zj,hzj⟩:=dW (cs:=cs) (j:=10+i) (by omega);have hzj:bQ (cs.map V.int) (10+(0+(i:Int)))=some (.int zj):=by rw[iz]; exact hzj
     refine#[_,rfl,_,rfl,_,rfl,_,_,rfl,rfl,cl,_,_,_,rfl,rfl,aK.of (SX _ _ e_cl),hzj,_,rfl,_,rfl,_,rfl,_,rfl,zj,kn,nw,bl,_,_,cQ ps,bs,cm,rfl,aK.of (SX _ _ e_kn),Rk2.Ps.imp (λ_ _ z=>(z.mono SX).a) hKn,(λkn hk=>#[(hKo kn hk).1,by have:=(hKo kn hk).2; omega]),(by rw[HU,Hj]; show m+1<=10; omega),#[#[kw,SX _ _ e_nw,nv.mono SX],oy o_st],aK.of (SX _ _ e_bl),hbs,λlw wl Vs G3 s3 n3 e3 pV hVl hVo=>#[aw,λz k_z=>?_]];have s4:=aC.new (o:=.tup [cv,.ref lw]) k_z;have e4:upd G3 z (.tup [cv,.ref lw]) z=_:=aL;have tw4:=(tw.mono s3).mono s4;generalize upd G3 z (.tup [cv,.ref lw])=G4 at s4 e4 tw4 ⊢;obtain⟨L,hLf,hLv,hLl,hLo⟩:=AU (fns:=[F1,Fo]) (F1:=F1) (Fo:=Fo) (n:=ws.length) (r:=r) (m:=m) (Vs:=Vs) HS (HZ _ HS) m1 hrF rFo (by rw[mF1]) (by rw[mFo]; rfl) (by omega) (by rw[hVl,Hk,Ik,l_va]; show _++[_]=_; rw[oV,l_vv]) hVo;have hMk:dF K (bY sA mA G4) (dE L) (.ref z):=by
       refine#[z,cv,lw,wl,rfl,tw4.at_ e4,?_,tw4.new tw n3 (s4 _ _ e3),?_]
       . show cR K _ (L.map Lev.fr) cv;rw[hLf,nF1,nFo];exact hch.mono ((de s3).trans (de s4))
       . show Rk2.Ps _ wl (L.map Lev.vw);rw[hLv];refine Rk2.Ps.imp (λvw v h=>?_) pV;obtain⟨l,us,rfl,y1,y2,y3⟩:=h;exact#[l,us,rfl,tw4.new tw y1 (s4 _ _ y2),Rk2.Ps.imp (λ_ _ y=>C4 tw4.s tw4.m (aX.mono y s4)) y3]
     have SX:=tw4.all;have lm:=Rk2.Ps.len tw4.ms;exact#[_,rfl,_,rfl,_,rfl,on,_,_,_,rfl,rfl,aK.of (SX _ _ e_on),hkj,mA,_,_,kj,rfl,rfl,tw4.m,jA (by rw[lm,tw4.ml]; exact kj4),_,_,svs,ks,_,_,rfl,tw4.setM hMk #[hLl,hLo],by rw[iY]; exact sE.trans ((de s3).trans (de s4))]
   rintro σ' G ⟨v24,v25,svs,ks,mvs,Ms,rfl,tw,sE⟩;have F:=Al.nil (H:=G);obtain⟨⟨kd,rest,has⟩,hasD⟩:=Bq (K:=K) hAc;refine#[_,rfl,_,rfl,aw,λz1 k=>?_];have F:=F.new (o:=.tup [V.ref sS,.ref ac]) k; generalize upd G z1 _=B7 at F ⊢;obtain⟨sn,e_z1,-⟩:=F; have tw:=tw.mono sn; have sE:=sE.trans (de sn)
   have hz1:=aG.of (K:=K) (tw.at_ e_z1);have hq:dg K (bY sA mA B7) kd (.ref z1):=#[#[z1,_,ac,rest,rfl,hz1,has ▸ tw.b.tup hac],bN.tup (n:=12) hz1 (.cons (bN.lst (n:=11) (tw.b.seq (aK.of e_st)) (cB.mono tw.b (wD o_st p_st))) (.cons (bN.tup (n:=11) (tw.b.tup hac) (cB.mono tw.b hasD)) .nil))]
   have hSp:gB K (bY sA mA B7) ps ac (.ref z1):=#[z1,sS,xs,rfl,hz1,tw.b.seq (aK.of e_st),Rk2.Ps.imp (λ_ _ z=>z.mono tw.b) p_st]
   have ls:=Rk2.Ps.len tw.ss;have lm:=Rk2.Ps.len tw.ms;refine#[_,rfl,_,rfl,sA,_,_,kk,rfl,rfl,tw.s,jA (by rw[ls,tw.sl]; exact kk4),?_];have tw2:=tw.setS (i:=kk) hq;have sE:aC (bY sA mA D7) (bY sA mA (upd B7 sA (.lst (svs.set kk (.ref z1))))):=by rw[ie]; exact sE
   have hSp:gB K (bY sA mA (upd B7 sA (.lst (svs.set kk (.ref z1))))) ps ac (.ref z1):=by rw[ie]; exact hSp
   generalize upd B7 sA (.lst (svs.set kk (.ref z1)))=G2 at tw2 sE hSp ⊢;have SX:=tw2.all;refine#[_,rfl,_,rfl,ol,_,_,_,rfl,rfl,aK.of (SX _ _ e_ol),ai,_,rfl,aw,λq1 k_q1=>#[cN,λq2 k_q2=>kr (((SX.trans (aC.new k_q1)).trans (aC.new k_q2)).tup hbA) aL (by simp) (cG (by show bs'.length+1<_; omega)) λp2 H' s' e_p2=>?_]];have s2:=((aC.new (o:=.tup [V.str n0,.int (at_:Nat)]) k_q1).trans (aC.new (o:=.tup [V.ref q1]) k_q2)).trans s';have e_q1:=((aC.new (o:=.tup [V.ref q1]) k_q2).trans s') _ _ (show upd G2 q1 (.tup [V.str n0,.int (at_:Nat)]) q1=_ from aL);have tw3:=tw2.mono s2;have F:=Al.nil (H:=H');refine#[_,rfl,_,rfl,cN,λlv k=>?_];have F:=F.new (o:=.lst [V.ref vv]) k; generalize upd H' lv _=B8 at F ⊢;refine#[aA,lv,_,_,rfl,rfl,(tw3.all.trans F.1) _ _ e_aA,F.2.1,cG (by rw[Hj]; show m+1<_; omega),λwv k_wv=>?_];have n_wv:=(s2.trans F.1).free k_wv;have F:=F.new (o:=.lst (List.replicate m (V.ref va)++[V.ref vv])) k_wv; generalize upd B8 wv _=B9 at F ⊢;refine#[aw,λz2 k=>?_];have F:=F.new (o:=.tup [V.ref p2,.ref wv]) k; generalize upd B9 z2 _=B10 at F ⊢;obtain⟨sn,e_z2,e_wv,-,-⟩:=F; have tw3:=tw3.mono sn; have SQ:=s2.trans sn; have e_p2:=sn _ _ e_p2; have e_q1:=sn _ _ e_q1
   have hMk:dF K (bY sA mA B10) (dE (List.replicate m ⟨Fo,0,vA⟩++[⟨F1,at_,vw⟩])) (.ref z2):=by
     refine#[z2,.ref p2,wv,_,rfl,tw3.at_ e_z2,?_,tw3.new tw2 n_wv e_wv,?_]
     . show cR K _ (List.map Lev.fr _) _;rw[Hk,Ik];show cR K _ (List.replicate m (Fo.name,0)++[(F1.name,at_)]) _;rw[nFo,nF1];exact#[p2,_,rfl,aG.of (tw3.at_ e_p2),Rk2.Ps.app (Rk2.Ps.imp (λ_ _ z=>z.mono tw3.b) pbA) #[#[q1,rfl,aG.of (tw3.at_ e_q1)],trivial]]
     . show Rk2.Ps _ _ (List.map Lev.vw _);rw[Hk,Ik];exact Rk2.Ps.app (kN (R:=dB _) (dB.mono tw3.b #[va,ua,rfl,e_va,p_va]) m) #[dB.mono tw3.b #[vv,uv,rfl,e_vv,p_vv],trivial]
   have lvo:∀e∈List.replicate m (⟨Fo,0,vA⟩:Lev),LevOk [F1,Fo] e/\bo e.vw:=λe he=>by rw[(JD.mp he).2];exact#[#[HZ _ HS,rFo,by rw[mFo]; exact l_va,by rw[mFo]; show 2<=1000; decide],v9a.ok]
   have hatF:at_<F1.rs.length:=by rw[rF1,HH]; exact(HL.mp hxr).1
   have lv1:LevOk [F1,Fo] ⟨F1,at_,vw⟩/\bo vw:=#[#[HS,hatF,by rw[mF1]; exact l_vv,by rw[mF1]; omega],v9v.ok]
   refine#[_,rfl,_,rfl,mA,_,_,kk,rfl,rfl,tw3.m,jA (by rw[lm,tw3.ml]; exact kk4),?_];have tw4:=tw3.setM (i:=kk) hMk #[by rw[HU,Hj]; show m+1<=11; omega,λe he=>(Hg.mp he).elim (lvo e) λh=>by cases HY.mp h; exact lv1];have sE:aC (bY sA mA D7) (bY sA mA (upd B10 mA (.lst (mvs.set kk (.ref z2))))):=by rw[iY]; exact sE.trans (de SQ)
   have hSp:gB K (bY sA mA (upd B10 mA (.lst (mvs.set kk (.ref z2))))) ps ac (.ref z1):=by rw[iY]; exact hSp.mono (de SQ)
   generalize upd B10 mA (.lst (mvs.set kk (.ref z2)))=G5 at tw4 sE hSp ⊢;have SX:=tw4.all;have hAc5:=hAc.mono SX;have fnm:∀F∈[F1,Fo],PyData.strOk F.name=true:=λF hF=>by
     simp only[HV,Hm,or_false] at hF;rcases hF with rfl|rfl
     . rw[nF1]; exact on0.2
     . rw[nFo]; exact on1.2
   have fnd:([F1,Fo].map (·.name)).Nodup:=by show [F1.name,Fo.name].Nodup;rw[nF1,nFo];exact ond
   obtain⟨l_,hdue,hex⟩:=hRs.way;have dbh:DbH G5 ⟨⟨0,0,0,0,0,0,.non,.non⟩,[F1,Fo],svs.set kk (.ref z1),mvs.set kk (.ref z2),ks.set kk kd,Ms.set kk (List.replicate m ⟨Fo,0,vA⟩++[⟨F1,at_,vw⟩]),List.replicate m ⟨Fo,0,vA⟩,⟨F1,at_,vw⟩,ps,as⟩ ws rg ex k0 k1 (ex.map λe=>List.replicate m (n1,0)++[(n0,e)]) (List.replicate m vA++[dw ws vw rg]):=by
     refine#[fnd,fnm,HS,lvo,mF1,l_vv,v9v,hRs.rg_,#[l_,?_,λj e he=>(hex j e he).1],hRs.n1,hRs.n2,by rw[tw4.sl,tw4.ml],by rw[tw4.ml]; exact k04.1,by rw[tw4.ml]; exact k04.2,λL hL e he=>((tw4.ok L hL).2 e he).1,?_,?_]
     . show K13.Due (F1.rs.map (·.k)) at_ (some l_);rw[rF1,IS];exact hdue
     . show _=List.map Lev.vw (List.replicate m _)++_;rw[Ik]
     . refine Ju λe _=>?_;show _=List.map Lev.fr (List.replicate m _)++[(F1.name,e)];rw[Ik,nF1];show _=List.replicate m (Fo.name,0)++_;rw[nFo]
   obtain⟨b,hDb,hSb⟩:=A5 dbh hAc5;have hTb:Tb K G5 sA mA cA kn nw nl (svs.set kk (.ref z1)) (mvs.set kk (.ref z2)) cvs (List.replicate m (V.ref va)++[V.ref bh]) (ks.set kk kd) (Ms.set kk (List.replicate m ⟨Fo,0,vA⟩++[⟨F1,at_,vw⟩])) (ex.map λe=>List.replicate m (n1,0)++[(n0,e)]) (List.replicate m vA++[dw ws vw rg]) (cQ ps) ws:=by
     refine#[aK.of tw4.s,Rk2.Ps.imp (λ_ _ z=>z.1.mono ga) tw4.ss,aK.of tw4.m,Rk2.Ps.imp (λ_ _ z=>(z.mono ga).a) tw4.ms,aK.of ((sE.trans ga) _ _ e_cA),Rk2.Ps.imp (λ_ _ z=>z.mono (sE.trans ga)) hcs,aK.of (SX _ _ e_kn),Rk2.Ps.imp (λ_ _ z=>(z.mono SX).a) hKn,#[#[kw,SX _ _ e_nw,nv.mono SX],oy o_st],aK.of (SX _ _ e_nl),λL hL ch hc=>#[λe he=>fnm _ ((tw4.ok L hL).2 e he).1.m,λe he=>((tw4.ok L hL).2 e he).2,λc hcc=>?_,λkn hk=>(hKo kn hk).1],by omega];obtain⟨e,_,rfl⟩:=Hq.mp hc;rcases Hg.mp hcc with h|h
     . rw[(JD.mp h).2]; exact on1.2
     . cases HY.mp h; exact on0.2
   refine#[_,rfl,_,rfl,rl,_,_,_,rfl,rfl,aK.of (SX _ _ e_rl),hat,_,rfl,_,rfl,_,rfl,_,rfl,_,rfl,_,rfl,_,rfl,xr.w.r,ac,sA,mA,cA,kn,nw,nl,_,_,cvs,_,_,_,_,_,cQ ps,ws,rg,as,b,rfl,hTb,SX.tup hrow,SX.tup hac,hDb,λG6 s6=>?_];have tw6:=tw4.mono s6;have S6:=tw6.all;have e6:=ga (s:=sA) (m:=mA) (H:=G6);refine#[_,rfl,_,rfl,_,rfl,_,rfl,_,rfl,pr,sA,mA,ac,kk,#[#[0,0,0,0,0,0,.non,.non],[F1,Fo],svs.set kk (.ref z1),mvs.set kk (.ref z2),ks.set kk kd,Ms.set kk (List.replicate m #[Fo,0,vA]++[#[F1,at_,vw]]),List.replicate m #[Fo,0,vA],#[F1,at_,vw],ps,as],rg,.ref z1,xr.w,b,rfl,aK.of (S6 _ _ e_pr),by simp,by simp,λf hf=>?_,fnd,#[aK.of tw6.s,Rk2.Ps.imp (λ_ _ z=>z.1.mono e6) tw6.ss,aK.of tw6.m,Rk2.Ps.imp (λ_ _ z=>(z.mono e6).a) tw6.ms,λL hL=>#[(tw6.ok L hL).1,λe he=>((tw6.ok L hL).2 e he).1]],?_,?_,(hSp.mono (de s6)).mono e6,S6.tup hac,D0 hAc,by show ps.length<=1000; omega,#[by show(ks.set kk kd).length=(Ms.set kk _).length; rw[tw6.sl,tw6.ml],fnm,o_st,λL hL e he t ht=>((tw6.ok L hL).2 e he).2 _ ht t rfl],?_,S6.tup hrow,#[λx hx t ht=>?_,λx s y z he=>?_],hSb.mono s6,?_,cB.mono e6 (ug tw6.ss),Rk2.Ps.imp (λ_ _ z=>z.mono e6) tw6.ms,by show(Ms.set kk _).length<=100; rw[tw6.ml]; decide,λH9=>q H9]
   . simp only[HV,Hm,or_false] at hf;rcases hf with rfl|rfl
     . exact F2.FnAt.mono S6 fF1
     . exact F2.FnAt.mono S6 fFo
   . exact Iw (by have:=tw6.ml; rw[Ib] at this; omega)
   . exact Iw (by rw[ls]; have:=tw6.sl; rw[Ib] at this; omega)
   . show F1.rs[at_]?=some xr.w;rw[rF1,HW,hxr];rfl
   . have ht:cS (lk (F2.nms F1) vw) x=some (some t):=ht;rw[mF1] at ht;exact Ag v9v (FQ hRs.rg_ x hx) ht
   . have:=hRs.rg_;rw[he] at this;exact this.2.1
   . exact .cons ((bN.mono dF1 S6).up (by decide)) (.cons ((bN.mono dFo S6).up (by decide)) .nil)
end
end K43
namespace K43
open PySem L2
structure Fv where
 (oc kV dc pm cd ct:Value)
 (od an:Option Addr)
 sl:Array (Option Value)
abbrev Fv.fn (v:Fv) (n q:Str) (s:Stmt):=W.fnOf n q (cx s) (bU s) (bD s) .none v.kV v.dc v.pm v.an v.cd v.ct
section
variable {K:W.Frag} {h:Heap} {mg:Str->Option Value} {f C:Addr} {n m q:Str} {s:Stmt} {oc kV dc pm cd ct:Value} {od an:Option Addr} {sl:Array (Option Value)} {v:Fv} {ps:List Str}
def FL (K:W.Frag) (f:Addr) (v:Fv) (n q:Str) (s:Stmt):Prop:=K.lookup f=some #[v.oc,v.od,.func (v.fn n q s),v.sl]/\W.codeIn K v.cd q=true/\W.keepIn K (.ref f)=true
def NF (K:W.Frag) (f:Addr) (v:Fv) (n:Str) (s:Stmt):Prop:=W.nsIn K mainGlobals n=some (some (.ref f))/\FL K f v n n s
def MF (K:W.Frag) (C f:Addr) (v:Fv) (m q:Str) (s:Stmt):Prop:=W.findIn K (.ref C) m=some (some (.ref f))/\W.isFn K (.ref f)=true/\FL K f v m q s
def NL (f:Str->Option (Option Value)):List Str->Prop
 | []=>True
 | n :: r=>f n=some none/\NL f r
theorem nf_mk (a:W.nsIn K mainGlobals n=some (some (.ref f))) (l:K.lookup f=some #[oc,od,.func (W.fnOf n n (cx s) (bU s) (bD s) .none kV dc pm an cd ct),sl]) (c:W.codeIn K cd n=true) (k:W.keepIn K (.ref f)=true):NF K f #[oc,kV,dc,pm,cd,ct,od,an,sl] n s:=#[a,l,c,k]
theorem mf_mk (a:W.findIn K (.ref C) m=some (some (.ref f))) (i:W.isFn K (.ref f)=true) (l:K.lookup f=some #[oc,od,.func (W.fnOf m q (cx s) (bU s) (bD s) .none kV dc pm an cd ct),sl]) (c:W.codeIn K cd q=true) (k:W.keepIn K (.ref f)=true):MF K C f #[oc,kV,dc,pm,cd,ct,od,an,sl] m q s:=#[a,i,l,c,k]
theorem nl_c {f:Str->Option (Option Value)} {l:List Str} (a:f n=some none) (r:NL f l):NL f (n :: l):=#[a,r]
theorem bc (X:K.In h) (G:h.Ns mainGlobals mg) (e:NF K f v n s) (b:∀(kV doc pm:Value) (an:Option Addr) (cdv ct:Value) (us:List Value),us.length=ps.length->bindArgs (W.fnOf n n (cx s) (bU s) (bD s) .none kV doc pm an cdv ct) #[us,[]]=pure (ps.zip us)):DefOk K mg n s ps f (v.fn n n s):=BF X G e.1 e.2.1 e.2.2.1 e.2.2.2 b
theorem gH (e:MF K C f v m q s) (b:∀(kV doc pm:Value) (an:Option Addr) (cdv ct:Value) (us:List Value),us.length=ps.length->bindArgs (W.fnOf m q (cx s) (bU s) (bD s) .none kV doc pm an cdv ct) #[us,[]]=pure (ps.zip us)):MetOk K C m q s ps f (v.fn m q s):=GM e.1 e.2.1 e.2.2.1 e.2.2.2.1 e.2.2.2.2 b
theorem wX (mk:W.makesIn K C=true) (kc:W.keepIn K (.ref C)=true) (e:MF K C f v "__init__" q s) (b:∀(kV doc pm:Value) (an:Option Addr) (cdv ct:Value) (us:List Value),us.length=ps.length->bindArgs (W.fnOf "__init__" q (cx s) (bU s) (bD s) .none kV doc pm an cdv ct) #[us,[]]=pure (ps.zip us)):IniOk K C q s ps f (v.fn "__init__" q s):=Bu mk kc e.1 e.2.1 e.2.2.1 e.2.2.2.1 e.2.2.2.2 b
end
local macro_rules | `(tactic| walk_at "u") => `(tactic| first | (exact λ _ _ _ _ _ _ us hl => match us, hl with | [_], _ => rfl) | (exact λ _ _ _ _ _ _ us hl => match us, hl with | [_, _], _ => rfl) | (exact λ _ _ _ _ _ _ us hl => match us, hl with | [_, _, _], _ => rfl) | (exact λ _ _ _ _ _ _ us hl => match us, hl with | [_, _, _, _], _ => rfl) | (exact λ _ _ _ _ _ _ us hl => match us, hl with | [_, _, _, _, _], _ => rfl) | (exact λ _ _ _ _ _ _ us hl => match us, hl with | [_, _, _, _, _, _], _ => rfl) | (exact λ _ _ _ _ _ _ us hl => match us, hl with | [_, _, _, _, _, _, _, _], _ => rfl))
set_option maxHeartbeats 4000000 in
theorem txt_mk {K:W.Frag} {h:Heap} {mg:Str->Option Value} {C_Flows C_Step f0 f1 f2 f3 f4 f5 f6 f7 f8 f9 f10 f11 f12 f13 f14 f15 f16 f17 f18 f19 f20 f21 f22 f23 f24 f25 f26 f27 f28 f29 f30 f31 f32 f33 f34 f35 f36 f37 f38 f39 f40 f41 f42 f43 f44 f45 f46 f47 f48 f49 f50 f51 f52 f53 aT0 aT1 aD0 aD1:Addr} {y0 y1 y2 y3 y4 y5 y6 y7 y8 y9 y10 y11 y12 y13 y14 y15 y16 y17 y18 y19 y20 y21 y22 y23 y24 y25 y26 y27 y28 y29 y30 y31 y32 y33 y34 y35 y36 y37 y38 y39 y40 y41 y42 y43 y44 y45 y46 y47 y48 y49 y50 y51 y52 y53:Fv} (X:K.In h) (G:h.Ns mainGlobals mg)
   (aC_Flows:W.nsIn K mainGlobals "Flows"=some (some (.ref C_Flows))) (pg_Flows:W.plainGet K C_Flows Str.empty=true) (hd_Flows:W.hasDictIn K C_Flows=true) (po_Flows:W.plainOver K C_Flows=true) (sa_Flows:W.findIn K (.ref C_Flows) "__setattr__"=some (some (.builtin "object.__setattr__"))) (mk_Flows:W.makesIn K C_Flows=true) (kc_Flows:W.keepIn K (.ref C_Flows)=true)
   (n_Flows:NL (W.findIn K (.ref C_Flows)) ["last","number_of","folded_of","params_of","rows_of","names_in","ways_in"])
   (aC_Step:W.nsIn K mainGlobals "Step"=some (some (.ref C_Step))) (pg_Step:W.plainGet K C_Step Str.empty=true) (hd_Step:W.hasDictIn K C_Step=true) (po_Step:W.plainOver K C_Step=true) (sa_Step:W.findIn K (.ref C_Step) "__setattr__"=some (some (.builtin "object.__setattr__"))) (mk_Step:W.makesIn K C_Step=true) (kc_Step:W.keepIn K (.ref C_Step)=true)
   (n_Step:NL (W.findIn K (.ref C_Step)) ["flows","spots","marks","act","chain","ahead","row","news"])
   (e0:NF K f0 y0 "names_of" oG)
   (e1:NF K f1 y1 "reads" nG)
   (e2:NF K f2 y2 "gives" pe)
   (e3:NF K f3 y3 "atoms_of" me)
   (e4:NF K f4 y4 "each_once" oJ)
   (e5:NF K f5 y5 "ways" jI)
   (e6:NF K f6 y6 "begins_of" oz)
   (e7:NF K f7 y7 "firsts_behind" jC)
   (e8:MF K C_Flows f8 y8 "__init__" "Flows.__init__" m7)
   (e9:MF K C_Flows f9 y9 "row_at" "Flows.row_at" pd)
   (e10:MF K C_Flows f10 y10 "ways_at" "Flows.ways_at" nu)
   (e11:NF K f11 y11 "value" qJ)
   (e12:NF K f12 y12 "together" pq)
   (e13:NF K f13 y13 "put_through" nP)
   (e14:NF K f14 y14 "levels_of" nc)
   (e15:NF K f15 y15 "place_of" qQ)
   (e16:NF K f16 y16 "moved" pZ)
   (e17:NF K f17 y17 "with_given" qO)
   (e18:NF K f18 y18 "made_by" pz)
   (e19:NF K f19 y19 "entered" mr)
   (e20:NF K f20 y20 "left_behind" nT)
   (e21:NF K f21 y21 "asked_act" qG)
   (e22:NF K f22 y22 "boxes_behind" ph)
   (e23:MF K C_Step f23 y23 "__init__" "Step.__init__" jy)
   (e24:MF K C_Step f24 y24 "stands" "Step.stands" ib)
   (e25:MF K C_Step f25 y25 "goes" "Step.goes" jU)
   (e26:MF K C_Step f26 y26 "parts" "Step.parts" qB)
   (e27:MF K C_Step f27 y27 "comes_on" "Step.comes_on" oZ)
   (e28:MF K C_Step f28 y28 "arrives" "Step.arrives" nZ)
   (e29:MF K C_Step f29 y29 "is_wait" "Step.is_wait" pH)
   (e30:MF K C_Step f30 y30 "shows" "Step.shows" oI)
   (e31:NF K f31 y31 "spot_holds" pJ)
   (e32:NF K f32 y32 "_law_cell_at" pD)
   (e33:NF K f33 y33 "_law_value" pw)
   (e34:NF K f34 y34 "_law_names" qR)
   (e35:NF K f35 y35 "_law_some" nr)
   (e36:NF K f36 y36 "_law_through" nC)
   (e37:NF K f37 y37 "_law_view" na)
   (e38:NF K f38 y38 "_law_sets" mF)
   (e39:NF K f39 y39 "_law_news" nK)
   (e40:NF K f40 y40 "_law_landing" jW)
   (e41:NF K f41 y41 "_law_held" oW)
   (e42:NF K f42 y42 "_law_outer" mx)
   (e43:NF K f43 y43 "_law_turned" qP)
   (e44:NF K f44 y44 "_law_flat" pK)
   (e45:NF K f45 y45 "_law_atom" nE)
   (e46:NF K f46 y46 "_law_of" mo)
   (e47:NF K f47 y47 "_law_rows" gy)
   (e48:NF K f48 y48 "_law_behind" jM)
   (e49:NF K f49 y49 "_law_act" jx)
   (e50:NF K f50 y50 "_law_due" jg)
   (e51:NF K f51 y51 "_law_landings" qZ)
   (e52:NF K f52 y52 "_law_asked" lT)
   (e53:NF K f53 y53 "law" gZ)
   {tk0:Tok} (w0:W.nsIn K mainGlobals "WIDE"=some (some (.int 281474976710656 tk0)))
   {odT0:Option Addr} {itT0:Array Value} {nT0:Nat} {slT0:Array (Option Value)} (q0:W.nsIn K mainGlobals "GIVING_KINDS"=some (some (.ref aT0))) (m0:K.lookup aT0=some #[.type "tuple",odT0,.seq itT0 nT0,slT0]) (v0:ax (K12.giving.map V.str) itT0.toList) (s0:itT0.size<=sizeLine)
   {odT1:Option Addr} {itT1:Array Value} {nT1:Nat} {slT1:Array (Option Value)} (q1:W.nsIn K mainGlobals "BROUGHT"=some (some (.ref aT1))) (m1:K.lookup aT1=some #[.type "tuple",odT1,.seq itT1 nT1,slT1]) (v1:ax [V.str "brought"] itT1.toList) (s1:itT1.size<=sizeLine)
   (qD0:W.nsIn K mainGlobals "ATOM_PLACES"=some (some (.ref aD0))) (mD0:PyProof.Rows.KTD.tabLook (ly K) (λa=>K.lookup a) aD0 K12.tabl=true)
   (qD1:W.nsIn K mainGlobals "FILLED_PLACES"=some (some (.ref aD1))) (mD1:PyProof.Rows.KTD.tabLook (le K) (λa=>K.lookup a) aD1 [("get",3),("new",1),("wait",1)]=true)
   (zz:NL (W.nsIn K mainGlobals) ["len","list","tuple","isinstance","range","all","enumerate","dict","str","zip","bool","int","max"])
   : ∃t,Txt K mg t :=
 #[#[C_Flows,C_Step,f0,_,f1,_,f2,_,f3,_,f4,_,f5,_,f6,_,f7,_,f8,_,f9,_,f10,_,f11,_,f12,_,f13,_,f14,_,f15,_,f16,_,f17,_,f18,_,f19,_,f20,_,f21,_,f22,_,f23,_,f24,_,f25,_,f26,_,f27,_,f28,_,f29,_,f30,_,f31,_,f32,_,f33,_,f34,_,f35,_,f36,_,f37,_,f38,_,f39,_,f40,_,f41,_,f42,_,f43,_,f44,_,f45,_,f46,_,f47,_,f48,_,f49,_,f50,_,f51,_,f52,_,f53,_,aT0,aT1,aD0,aD1],#[bc X G e0 (by walk_at "u"),bc X G e1 (by walk_at "u"),bc X G e2 (by walk_at "u"),bc X G e3 (by walk_at "u"),bc X G e4 (by walk_at "u"),bc X G e5 (by walk_at "u"),bc X G e6 (by walk_at "u"),bc X G e7 (by walk_at "u"),wX mk_Flows kc_Flows e8 (by walk_at "u"),gH e9 (by walk_at "u"),gH e10 (by walk_at "u"),bc X G e11 (by walk_at "u"),bc X G e12 (by walk_at "u"),bc X G e13 (by walk_at "u"),bc X G e14 (by walk_at "u"),bc X G e15 (by walk_at "u"),bc X G e16 (by walk_at "u"),bc X G e17 (by walk_at "u"),bc X G e18 (by walk_at "u"),bc X G e19 (by walk_at "u"),bc X G e20 (by walk_at "u"),bc X G e21 (by walk_at "u"),bc X G e22 (by walk_at "u"),wX mk_Step kc_Step e23 (by walk_at "u"),gH e24 (by walk_at "u"),gH e25 (by walk_at "u"),gH e26 (by walk_at "u"),gH e27 (by walk_at "u"),gH e28 (by walk_at "u"),gH e29 (by walk_at "u"),gH e30 (by walk_at "u"),bc X G e31 (by walk_at "u"),bc X G e32 (by walk_at "u"),bc X G e33 (by walk_at "u"),bc X G e34 (by walk_at "u"),bc X G e35 (by walk_at "u"),bc X G e36 (by walk_at "u"),bc X G e37 (by walk_at "u"),bc X G e38 (by walk_at "u"),bc X G e39 (by walk_at "u"),bc X G e40 (by walk_at "u"),bc X G e41 (by walk_at "u"),bc X G e42 (by walk_at "u"),bc X G e43 (by walk_at "u"),bc X G e44 (by walk_at "u"),bc X G e45 (by walk_at "u"),bc X G e46 (by walk_at "u"),bc X G e47 (by walk_at "u"),bc X G e48 (by walk_at "u"),bc X G e49 (by walk_at "u"),bc X G e50 (by walk_at "u"),bc X G e51 (by walk_at "u"),bc X G e52 (by walk_at "u"),bc X G e53 (by walk_at "u"),#[#[pg_Flows,hd_Flows,po_Flows,sa_Flows],W.mg_of X G aC_Flows],#[#[pg_Step,hd_Step,po_Step,sa_Step],W.mg_of X G aC_Step],n_Flows.1,n_Flows.2.1,n_Flows.2.2.1,n_Flows.2.2.2.1,n_Flows.2.2.2.2.1,n_Flows.2.2.2.2.2.1,n_Flows.2.2.2.2.2.2.1,n_Step.1,n_Step.2.1,n_Step.2.2.1,n_Step.2.2.2.1,n_Step.2.2.2.2.1,n_Step.2.2.2.2.2.1,n_Step.2.2.2.2.2.2.1,n_Step.2.2.2.2.2.2.2.1,#[_,W.mg_of X G w0],W.mg_of X G q0,λH=>.inr #[_,itT0,nT0,m0,rfl,rfl,s0,v0],W.mg_of X G q1,λH=>.inr #[_,itT1,nT1,m1,rfl,rfl,s1,v1],W.mg_of X G qD0,zn mD0,W.mg_of X G qD1,BQ mD1,W.mg_none_of X G zz.1,W.mg_none_of X G zz.2.1,W.mg_none_of X G zz.2.2.1,W.mg_none_of X G zz.2.2.2.1,W.mg_none_of X G zz.2.2.2.2.1,W.mg_none_of X G zz.2.2.2.2.2.1,W.mg_none_of X G zz.2.2.2.2.2.2.1,W.mg_none_of X G zz.2.2.2.2.2.2.2.1,W.mg_none_of X G zz.2.2.2.2.2.2.2.2.1,W.mg_none_of X G zz.2.2.2.2.2.2.2.2.2.1,W.mg_none_of X G zz.2.2.2.2.2.2.2.2.2.2.1,W.mg_none_of X G zz.2.2.2.2.2.2.2.2.2.2.2.1,W.mg_none_of X G zz.2.2.2.2.2.2.2.2.2.2.2.2.1,λs u=>.of_eq rfl]]
end K43
end
open PySem PySem.W PyProof.Rows
set_option maxRecDepth 100000 in
set_option maxHeartbeats 0 in
theorem PySem.Challenge.cw_stopglass_k43_copies_and_choices_held_holds : PySem.Challenge.rw_stopglass_k43_copies_and_choices_held.Holds := by
 refine Hd.pk.2 ?_
 unfold Hd.pk
 dsimp only
 k_fill
 refine L2.walk_ofK (l:=PySem.Challenge.rw_stopglass_k43_copies_and_choices_held) (n:=63) (k:=21) (x:="_law_script") (CX:=L2.CX0) (sp:=K43.sp_law) rfl (by decide) rfl ⟨rfl,by decide,by decide⟩ (λw h Y=>PySem.W.kIn_of Y) ?F ?S ?C
 case F =>
   intro w mg fa h KX G hmg;have T:∃t,K43.Txt (L2.KOf KX) mg t:=by
     dsimp only[L2.KOf];apply K43.txt_mk KX G
     (iterate 71 (first|(apply K43.nf_mk <;> k_is)|(apply K43.mf_mk <;> k_is)|((repeat refine K43.nl_c (by k_is) ?_); exact trivial)|k_is))
     (iterate 2 k_is)
     . (repeat (first|exact .nil|refine .cons ⟨_,rfl⟩ ?_))
     . decide
     (iterate 2 k_is)
     . (repeat (first|exact .nil|refine .cons ⟨_,rfl⟩ ?_))
     . decide
     . k_is
     . kernel_rfl
     . k_is
     . kernel_rfl
     (repeat refine K43.nl_c (by k_is) ?_)
     exact trivial
   obtain⟨t,T⟩:=T;have e0:=hmg.symm.trans T.law.g;cases e0;exact⟨t.mZ,T.bl,λbase kb nb=>K43.ok_law T⟩
 case S=>exact λK H a ns hl hO hS=>⟨a,ns,rfl,hS,hl,λ_=>rfl⟩
 case C=>exact λ_ _ _ _ z=>z
