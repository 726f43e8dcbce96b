import PyProof.Rows.All
import Wide.All
import OpenK.AllK
import Wide.FinOn
import Lean
import PyProof.EqAt
import PyProof.EqKinds
import PyProof.TupleCall
import KE.KDictLaws
import KE.KDictOf
import KE.KEqDict
import KE.BitLaws
import PyProof.ZipIter
import PyProof.Rows.ZipGen
import PyProof.Rows.StrSplitAre
import PyProof.ExcInit
import PyProof.ExcBaseAll.ValueError
import PyProof.PassesOwn
import PyProof.StationsW
import PyProof.InstStoreFacts
import PyProof.ExcAttrAll.ValueError
import PyProof.NsDelKeeps
import KE.KListMore
import PyProof.P3Eq
import PyProof.Rows.TupDisplay
import PyProof.StrLawsReplace
import PyProof.StrCalls6
import PyProof.Rows.StrStrike
import KE.KIntText
import KE.IntTextText
import PySem.Challenge.RW_stopglass_k86_bits_refused
set_option Elab.async false
set_option linter.all false
set_option maxRecDepth 100000
section
namespace Hd
open PySem PySem.W PyProof.Rows
lay_quick PySem.W.topFrom
noncomputable abbrev TQ := PySem.W.Fast.tw370005188180407882 PySem.W.Fast.tw14364793385576792824
noncomputable abbrev OQ := PySem.W.Fast.tw4187177175401517315
noncomputable abbrev tp : Program := PySem.Challenge.pw_stopglass_k86_bits_refused
abbrev lo : List Str := [PySem.Str.ofString "ATOM_PLACES"]
def keeps : PySem.Stmt → Bool
 | .Assign [.Name x _] _ _ => !decide (x = "__name__")
 | _ => true
def viewOf (p : Program) : Program := { p with main := { p.main with body := p.main.body.filter keeps } }
abbrev Xf : Program → Shared → Bool := (fun p s => xlAt (viewOf p) [] s && recOk (RowW.records (OpenRow.toRowW (OpenLaw.row PySem.Challenge.rw_stopglass_k86_bits_refused))) s)
noncomputable def S0 (w : World) (os : OsState) : Shared := ⟨boot_heap w.params, Array.mk [], boot_drawn, boot_toks, os⟩
theorem ws : PySem.Challenge.rw_stopglass_k86_bits_refused.wellSaid = true := by kernel_rfl
section
local macro_rules | `(tactic| o_head $H) => `(tactic| (case Hk => exact $H))
noncomputable def hk : (H : Hook) ×' ((∀ P : Prop, P) → PySem.Challenge.rw_stopglass_k86_bits_refused.Holds) := by
 refine ⟨?Hk, fun h => ?m⟩
 rotate_left
 w_on; refine holds_law ws fun said => ?_; k_head; exact h _
end
theorem opt3 {σ α β γ : Type} {x : Option σ} {f : σ → α × β} {g : σ → γ} {a : α × β} {c : γ} (h1 : x.map (fun s => (f s).1) = some a.1) (h2 : x.map (fun s => (f s).2) = some a.2) (h3 : x.map g = some c) : x.map (fun s => (f s, g s)) = some (a, c) := by
 cases x with
 | none => cases h1
 | some s =>
  have e1 : (f s).1 = a.1 := Option.some.inj h1
  have e2 : (f s).2 = a.2 := Option.some.inj h2
  have e3 : g s = c := Option.some.inj h3
  show some (f s, g s) = some (a, c)
  rw [show f s = a from Prod.ext e1 e2, e3]
theorem r0a : ∀ (w : World) (os : OsState), (TQ tp (w.withFollow "special-get-raises" false) 20000 (S0 (w.withFollow "special-get-raises" false) os)).map (fun s => (OQ (viewOf tp) lo (importedModules tp.main.body) (Xf tp) true s).1) = some (openGood (viewOf tp) lo).1 := by
 intro w os; kernel_rfl
theorem r0b : ∀ (w : World) (os : OsState), (TQ tp (w.withFollow "special-get-raises" false) 20000 (S0 (w.withFollow "special-get-raises" false) os)).map (fun s => (OQ (viewOf tp) lo (importedModules tp.main.body) (Xf tp) true s).2) = some (openGood (viewOf tp) lo).2 := by
 intro w os; kernel_rfl
theorem r0c : ∀ (w : World) (os : OsState), (TQ tp (w.withFollow "special-get-raises" false) 20000 (S0 (w.withFollow "special-get-raises" false) os)).map (fun s => Hook.obs hk.1 s) = some (Hook.val hk.1 (w.withFollow "special-get-raises" false)) := by
 intro w os; kernel_rfl
theorem r0 : ∀ (w : World) (os : OsState), (TQ tp (w.withFollow "special-get-raises" false) 20000 (S0 (w.withFollow "special-get-raises" false) os)).map (fun s => (OQ (viewOf tp) lo (importedModules tp.main.body) (Xf tp) true s, Hook.obs hk.1 s)) = some (openGood (viewOf tp) lo, Hook.val hk.1 (w.withFollow "special-get-raises" false)) := fun w os => opt3 (r0a w os) (r0b w os) (r0c w os)
theorem r1a : ∀ (w : World) (os : OsState), (TQ tp (w.withFollow "special-get-raises" true) 20000 (S0 (w.withFollow "special-get-raises" true) os)).map (fun s => (OQ (viewOf tp) lo (importedModules tp.main.body) (Xf tp) true s).1) = some (openGood (viewOf tp) lo).1 := by
 intro w os; kernel_rfl
theorem r1b : ∀ (w : World) (os : OsState), (TQ tp (w.withFollow "special-get-raises" true) 20000 (S0 (w.withFollow "special-get-raises" true) os)).map (fun s => (OQ (viewOf tp) lo (importedModules tp.main.body) (Xf tp) true s).2) = some (openGood (viewOf tp) lo).2 := by
 intro w os; kernel_rfl
theorem r1c : ∀ (w : World) (os : OsState), (TQ tp (w.withFollow "special-get-raises" true) 20000 (S0 (w.withFollow "special-get-raises" true) os)).map (fun s => Hook.obs hk.1 s) = some (Hook.val hk.1 (w.withFollow "special-get-raises" true)) := by
 intro w os; kernel_rfl
theorem r1 : ∀ (w : World) (os : OsState), (TQ tp (w.withFollow "special-get-raises" true) 20000 (S0 (w.withFollow "special-get-raises" true) os)).map (fun s => (OQ (viewOf tp) lo (importedModules tp.main.body) (Xf tp) true s, Hook.obs hk.1 s)) = some (openGood (viewOf tp) lo, Hook.val hk.1 (w.withFollow "special-get-raises" true)) := fun w os => opt3 (r1a w os) (r1b w os) (r1c w os)
theorem left_twin {p p' : Program} {F : Program → Program} {X : Program → Shared → Bool} {loose : List Str} {α : Type} {Yf : Shared → α} {Ya : World → α} {N : Nat} {g0 : Bool} (row : String) (ep : p = p') (e : opening p = plainProg p.main.scope.names) (hN : Nat.ble 600 N = true) (f : ∀ s, fenceModules? p s = some s)
  (h0 : ∀ (w : World) (os : OsState), (TQ p' (w.withFollow row false) N (S0 (w.withFollow row false) os)).map (fun s => (OQ (F p') loose (importedModules p'.main.body) (X p') g0 s, Yf s)) = some (openGood (F p') loose, Ya (w.withFollow row false)))
  (h1 : ∀ (w : World) (os : OsState), (TQ p' (w.withFollow row true) N (S0 (w.withFollow row true) os)).map (fun s => (OQ (F p') loose (importedModules p'.main.body) (X p') g0 s, Yf s)) = some (openGood (F p') loose, Ya (w.withFollow row true))) : LeftO p (F p) loose (X p) Yf Ya N g0 := fun w => by
 subst ep
 have key : ∀ b, (openEnds treeTable p (w.withFollow row b) N).map (fun s => (openSeen (F p) loose (importedModules p.main.body) (X p) g0 s, Yf s)) = some (openGood (F p) loose, Ya (w.withFollow row b)) := by
  intro b
  obtain ⟨s, hs, hv⟩ := Option.map_eq_some_iff.mp (boot_open e hN f (w.withFollow row b))
  have es : s = S0 (w.withFollow row b) s.os := by
   cases s
   simp only [Prod.mk.injEq] at hv
   obtain ⟨a1, a2, a3, a4⟩ := hv
   subst a1 a2 a3 a4
   rfl
  unfold openEnds
  rw [hs, es, PySem.W.Fast.te370005188180407882, PySem.W.Fast.te14364793385576792824, PySem.W.Fast.te4187177175401517315]
  cases b
  . exact h0 w s.os
  . exact h1 w s.os
 have e0 := World.withFollow_self w row
 have := key (w.params.followText row)
 rwa [e0] at this
theorem left : LeftO PySem.Challenge.pw_stopglass_k86_bits_refused (viewOf PySem.Challenge.pw_stopglass_k86_bits_refused) lo (Xf PySem.Challenge.pw_stopglass_k86_bits_refused) (Hook.obs hk.1) (Hook.val hk.1) 20000 true :=
 left_twin (p := PySem.Challenge.pw_stopglass_k86_bits_refused) (p' := tp) (F := viewOf) (X := Xf) (loose := lo) (Yf := Hook.obs hk.1) (Ya := Hook.val hk.1) (N := 20000) (g0 := true) "special-get-raises" rfl (by kernel_rfl) (by decide) (fun s => by kernel_rfl) r0 r1
theorem left_of {H : Hook} (e : H = hk.1) : LeftO PySem.Challenge.pw_stopglass_k86_bits_refused (viewOf PySem.Challenge.pw_stopglass_k86_bits_refused) lo (Xf PySem.Challenge.pw_stopglass_k86_bits_refused) (Hook.obs H) (Hook.val H) 20000 true := by subst e; exact left
local macro_rules | `(tactic| o_head $H) => `(tactic| (
 refine holds_open (q := viewOf PySem.Challenge.pw_stopglass_k86_bits_refused) (loose := lo) (Xt := Xf PySem.Challenge.pw_stopglass_k86_bits_refused) (XP := XL (viewOf PySem.Challenge.pw_stopglass_k86_bits_refused) []) (Yf := Hook.obs $H) (Ya := Hook.val $H) (YP := Hook.says $H) (N := 20000) ?hl (Hook.of $H) (Hook.keeps $H) (fun s e => xl_of s (Bool.and_eq_true_iff.mp e).1) XL.keeps (by rfl) (by rfl) (by rfl) (fun s e => recFacts_of (Bool.and_eq_true_iff.mp e).2) (by rfl) (by assumption) (by decide +kernel) ⟨rfl, rfl, rfl, rfl, rfl, by decide +kernel⟩ ?hw ?hc
 (case hl => exact left_of (H := $H) (by kernel_rfl))))
set_option maxHeartbeats 0 in
noncomputable def pk : (G : Prop) ×' (G → PySem.Challenge.rw_stopglass_k86_bits_refused.Holds) := by
 refine' ⟨_, fun h => _⟩
 rotate_left
 w_on; refine holds_law ws fun said => ?_; k_head; (case hw => w_witness2)
 exact h
end Hd
end
abbrev JR:=@List.length_map
abbrev JS:=@List.length_append
abbrev JT:=@PySem.wpAny_bind
abbrev JU:=@List.getD_eq_getElem?_getD
abbrev JV:=@List.getElem?_eq_getElem
abbrev JW:=@List.mem_of_getElem?
abbrev JX:=@PySem.Heap.get?_push_of_some
abbrev JY:=@List.length_cons
abbrev JZ:=@Nat.le_refl
abbrev Ja:=@if_neg
abbrev Jb:=@List.getElem?_eq_some_iff
abbrev Jc:=@List.getElem?_map
abbrev Je:=@if_pos
abbrev Jf:=@List.map_append
abbrev Jg:=@decide_eq_true_eq
abbrev Jh:=@PySem.wpAny_pure
abbrev Ji:=@PySem.Heap.lt_size
abbrev Jj:=@Bool.false_ne_true
abbrev Jk:=@PySem.F.plainAttrs_list
abbrev Jl:=@List.mem_cons
abbrev Jm:=@List.append_assoc
abbrev Jn:=@PySem.Heap.get?_push_size
abbrev Jo:=@Nat.lt_of_lt_of_le
abbrev Jp:=@PySem.F.slot_list_append
abbrev Jq:=@PySem.F.type_list_append
abbrev Jr:=@List.size_toArray
abbrev Js:=@Int.eq_ofNat_of_zero_le
abbrev Jt:=@congrArg
abbrev Ju:=@List.length_take
abbrev Jv:=@List.append_nil
abbrev Jw:=@Nat.zero_le
abbrev Jx:=@Bool.and_eq_true
abbrev Jy:=@List.mem_map
abbrev Jz:=@List.mem_singleton
abbrev K0:=@Nat.le_trans
abbrev K1:=@List.mem_append
abbrev K2:=@List.take_length
abbrev K3:=@decide_eq_true
abbrev K4:=@Nat.ne_of_lt
abbrev K5:=@List.mem_cons_of_mem
abbrev K6:=@Int.toNat_natCast
abbrev K7:=@List.mem_append_right
abbrev K9:=@List.getElem?_append_right
abbrev KA:=@List.mem_cons_self
abbrev KB:=@List.getElem?_eq_none
abbrev KC:=@Int.zero_add
abbrev KD:=@List.length_drop
abbrev KE:=@List.flatten_cons
abbrev KF:=@decide_eq_false
abbrev KG:=@List.map_cons
abbrev KH:=@List.take_add_one
abbrev KI:=@List.length_range
abbrev KJ:=@List.map_map
abbrev KL:=@Nat.lt_irrefl
abbrev KM:=@PySem.wpAny_field
abbrev KN:=@List.getElem?_append_left
abbrev KO:=@Nat.lt_or_ge
abbrev KP:=@Bool.eq_iff_iff
abbrev KQ:=@List.replicate_succ
abbrev KR:=@PySem.Heap.get?_update_other
abbrev KS:=@List.map_congr_left
abbrev KU:=@List.length_replicate
abbrev KW:=@Nat.not_lt_zero
abbrev KY:=@List.flatten_append
abbrev KZ:=@List.foldl_append
abbrev Ka:=@List.mem_range
abbrev Kb:=@List.range_succ
abbrev Kc:=@PyProof.Rows.callWith_type1
abbrev Kd:=@List.getElem_mem
abbrev Ke:=@Array.getElem?_eq_some_iff
abbrev Kf:=@List.getElem?_set_self
abbrev Kg:=@PySem.Heap.size_push
abbrev Kh:=@List.take_of_length_le
abbrev Ki:=@PySem.F.plainAttrs_str
abbrev Kj:=@PySem.wpAny_loadPart_at
abbrev Kk:=@PySem.wpAny_mono
abbrev Kl:=@PySem.Heap.get?_update_self
abbrev Km:=@Nat.lt_succ_self
abbrev Kn:=@List.mem_flatten
abbrev Ko:=@List.mem_replicate
abbrev Kp:=@List.getElem?_of_mem
abbrev Kq:=@List.length_eq_zero_iff
abbrev Kr:=@PySem.wpAny_truthy_bool
abbrev Ks:=@List.drop_eq_nil_of_le
abbrev Kt:=@PySem.wpAny_holding
abbrev Ku:=@PySem.F.excBase_ValueError
abbrev Kv:=@List.lookup_cons
abbrev Kw:=@PySem.wpAny_pyIter_tuple
abbrev Kx:=@PySem.F.slot_str_join
abbrev Ky:=@PySem.F.type_str_join
abbrev Kz:=@Nat.le_succ
abbrev K':=@PySem.Heap.get?_none_of_le
abbrev L6:=@List.getElem?_set_ne
abbrev L7:=@List.length_nil
abbrev L8:=@PySem.wpAny_pyIter_list
abbrev L9:=@PySem.wpAny_seqItems
abbrev LA:=@Nat.ne_of_gt
abbrev LB:=@PySem.wpAny_Call_Name_kw
abbrev LC:=@PySem.wpAny_setField_rec
abbrev LD:=@PySem.wpAny_passesOwn
abbrev LF:=@List.length_set
abbrev LG:=@Nat.min_eq_left
abbrev LH:=@PySem.F.slot_tuple_iterator_next
abbrev LI:=@Option.isSome_iff_exists
abbrev LJ:=@PySem.wpAny_call_entry
abbrev LK:=@Option.bind_some
abbrev LM:=@List.filterMap_cons
abbrev LN:=@PySem.wpAny_isSubtype_exc
abbrev LO:=@PySem.wpAny_execs_nil
abbrev LP:=@List.foldl_cons
abbrev LQ:=@beq_iff_eq
abbrev LR:=@List.find?_cons
abbrev LS:=@List.map_replicate
abbrev LU:=@PySem.wpAny_newObj_type
abbrev LV:=@of_decide_eq_true
abbrev LW:=@PySem.wpAny_setField
abbrev LX:=@List.all_eq_true
abbrev LY:=@List.mem_of_mem_drop
abbrev LZ:=@List.mem_of_mem_take
abbrev La:=@Nat.mul_le_mul_right
abbrev Lb:=@PySem.wpAny_standAt
abbrev Lc:=@List.getElem?_range
abbrev Ld:=@List.flatMap_append
abbrev Le:=@List.getElem?_eq_none_iff
abbrev Lf:=@List.nil_append
abbrev Lg:=@List.getElem?_take_of_lt
abbrev Lh:=@Bool.false_eq_true
abbrev Lj:=@PySem.F.slot_list_getattribute
abbrev Lk:=@Nat.zero_add
abbrev Ll:=@Nat.pow_succ
abbrev Lm:=@Nat.sub_self
abbrev Ln:=@List.getElem?_take
abbrev Lo:=@Bool.and_false
abbrev Lp:=@PySem.wpAny_pyIter_enum
abbrev Lq:=@PyProof.noPylong_small
abbrev Lr:=@List.append_eq_nil_iff
abbrev Ls:=@List.any_cons
abbrev Lu:=@PySem.wpAny_execs_cons
abbrev Lv:=@List.not_mem_nil
abbrev Lw:=@Nat.min_eq_right
abbrev Lx:=@PySem.wpAny_isTrue_Compare1
abbrev Ly:=@List.mem_append_left
abbrev Lz:=@PySem.wpAny_call
abbrev L':=@PySem.codeAny_mono
abbrev M0:=@List.nodup_cons
abbrev M1:=@Nat.mul_comm
abbrev M3:=@List.forIn_cons
abbrev M6:=@Bool.or_eq_true
abbrev M7:=@Option.map_some
abbrev M8:=@PySem.wpAny_updateSeq_pair
abbrev M9:=@PySem.F.slot_zip_next
abbrev MB:=@Nat.zero_lt_one
abbrev MC:=@PySem.F.slot_dict_itemiterator_iter
abbrev MD:=@List.take_append_of_le_length
abbrev ME:=@PySem.F.args_tuple_iterator_next_1
abbrev MF:=@PySem.F.slot_dict_setdefault
abbrev MG:=@PySem.wpAny_ite_true
abbrev MH:=@PySem.F.entry_tuple_iterator_next
abbrev MI:=@PySem.F.attrBase_ValueError
abbrev MJ:=@Int.fdiv_eq_ediv_of_nonneg
abbrev MK:=@Int.fmod_eq_emod_of_nonneg
abbrev ML:=@Bool.or_false
abbrev MM:=@PySem.wpAny_letOwnedTupleGo_enum
abbrev MN:=@PySem.wpAny_onRaise
abbrev MO:=@Nat.lt_succ_of_lt
abbrev MP:=@List.ext_getElem?
abbrev MQ:=@List.mem_or_eq_of_mem_set
abbrev MR:=@Nat.le_of_lt
abbrev MS:=@List.map_nil
abbrev MT:=@PySem.wpAny_comprehension_free
abbrev MU:=@Nat.le_add_right
abbrev MV:=@List.cons_ne_nil
abbrev MW:=@List.flatten_nil
abbrev MX:=@List.Pairwise.imp_of_mem
abbrev MY:=@Nat.pow_zero
abbrev MZ:=@PySem.wpAny_Call_method0_late
abbrev Ma:=@PySem.wpAny_pyNext_enum_itemD
abbrev Mb:=@PySem.F.plainAttrs_dict
abbrev Mc:=@PySem.F.slot_dict_items
abbrev Md:=@Nat.add_sub_cancel_left
abbrev Me:=@List.getElem?_cons_succ
abbrev Mf:=@List.of_mem_zip
abbrev Mg:=@Nat.mul_one
abbrev Mh:=@PySem.wpAny_loadPart
abbrev Mi:=@List.forIn_nil
abbrev Mj:=@List.drop_drop
abbrev Ml:=@PySem.wpAny_rule
abbrev Mm:=@Nat.mod_lt
abbrev Mn:=@PySem.wpAny_attempt
abbrev Mo:=@Nat.add_assoc
abbrev Mp:=@List.map_take
abbrev Mq:=@List.map_drop
local macro_rules | `(tactic| walk_at "o") => `(tactic| (rw[Jg]; omega))
local macro_rules | `(tactic| walk_at "f") => `(tactic| (first|exact .inl rfl|exact .inr rfl|assumption))
local macro_rules | `(tactic| walk_at "s") => `(tactic| exact ⟨rfl, rfl, rfl, by decide +kernel, rfl, by decide +kernel, by decide +kernel⟩)
namespace K11
end K11
namespace L2
open PySem PySem.Spec PyProof.Rows
abbrev aM:=Sum Int Str
def ju:aM->Value->Bool
 | .inl k,v=>Value.isInt k v
 | .inr x,v=>Value.isStrOf x v
def DI (w:World):aM->Int
 | .inl k=>hashInt k
 | .inr x=>hashStr w x
theorem i4:∀{k:aM} {v:Value},ju k v=true->(∃i t,k=Sum.inl i/\v=Value.int i t)\/(∃x t,k=Sum.inr x/\v=Value.str x t)
 | .inl i,v,h=>by obtain⟨t,e⟩:=Value.isInt_shape (k:=i) (v:=v) h;exact .inl ⟨i,t,rfl,e⟩
 | .inr x,v,h=>by obtain⟨t,e⟩:=Value.isStrOf_shape (x:=x) (v:=v) h;exact .inr ⟨x,t,rfl,e⟩
def E2 (i:Int) (t:Tok):ju (.inl i) (.int i t)=true:=by simp [ju,Value.isInt]
def B4 (x:Str) (t:Tok):ju (.inr x) (.str x t)=true:=by simp [ju,Value.isStrOf]
def DR (a b:Int):decide ((Sum.inl a:aM)=Sum.inl b)=(a==b):=by
 by_cases e:a=b
 . subst e; simp
 . have h:¬ (Sum.inl a:aM)=Sum.inl b:=λq=>e (Sum.inl.inj q);rw[KF h];exact(beq_eq_false_iff_ne.mpr e).symm
def Bo (a b:Str):decide ((Sum.inr a:aM)=Sum.inr b)=decide (a=b):=by
 by_cases e:a=b
 . subst e; simp
 . have h:¬ (Sum.inr a:aM)=Sum.inr b:=λq=>e (Sum.inr.inj q);rw[KF h,KF e]
def Bp (a:Int) (b:Str):decide ((Sum.inl a:aM)=Sum.inr b)=false:=KF (λq=>nomatch q)
def He (a:Str) (b:Int):decide ((Sum.inr a:aM)=Sum.inl b)=false:=KF (λq=>nomatch q)
def cq (prog:Program) (w:World):PySem.KeyKind prog w aM where
 is:=ju
 hash:=DI w
 inj:=λv a b ha hb=>by
   rcases i4 ha with⟨i,t,rfl,rfl⟩|⟨x,t,rfl,rfl⟩
   . rcases i4 hb with⟨j,u,rfl,e⟩|⟨y,u,rfl,e⟩
     . injection e with e1 _; rw[e1]
     . exact nomatch e
   . rcases i4 hb with⟨j,u,rfl,e⟩|⟨y,u,rfl,e⟩
     . exact nomatch e
     . injection e with e1 _; rw[e1]
 byValue:=λk v h=>by rcases i4 h with⟨i,t,rfl,rfl⟩|⟨x,t,rfl,rfl⟩ <;> rfl
 pyHash:=λhv h=>by
   rcases i4 hv with⟨i,t,rfl,rfl⟩|⟨x,t,rfl,rfl⟩
   . exact wpAny_pyHash_int h
   . exact wpAny_pyHash_str h
 eqBool:=λhu hv h=>by
   rcases i4 hu with⟨i,t,rfl,rfl⟩|⟨x,t,rfl,rfl⟩
   . rcases i4 hv with⟨j,u,rfl,rfl⟩|⟨y,u,rfl,rfl⟩
     . rw[DR] at h; exact wpAny_eqBool_int h
     . rw[Bp] at h; exact SeqAt.EqAt.int_str i t y u _ _ _ _ h
   . rcases i4 hv with⟨j,u,rfl,rfl⟩|⟨y,u,rfl,rfl⟩
     . rw[He] at h; exact SeqAt.EqAt.str_int x t j u _ _ _ _ h
     . rw[Bo] at h; exact wpAny_eqBool_str h
 «strs»:=λk x t v h=>by
   rcases i4 h with⟨i,u,rfl,e⟩|⟨y,u,rfl,e⟩
   . exact nomatch e
   . injection e with e1 _
     subst e1;cases v <;> rfl
def Dz (prog:Program) (w:World) (i:Int) (t:Tok):(cq prog w).is (.inl i) (.int i t)=true:=E2 i t
def Fi (prog:Program) (w:World) (x:Str) (t:Tok):(cq prog w).is (.inr x) (.str x t)=true:=B4 x t
inductive V where
 | non|bl (b:Bool)|int (i:Int)|str (x:Str)|byt (b:Array UInt8)|flt (b:UInt64)|ref (a:Addr)|ty (n:String)
 deriving DecidableEq
def aX:V->Value->Prop
 | .non,u=>u=Value.none
 | .bl b,u=>u=Value.bool b
 | .int i,u=>∃t,u=Value.int i t
 | .str x,u=>∃t,u=Value.str x t
 | .byt b,u=>∃t,u=Value.bytes b t
 | .flt b,u=>∃t,u=Value.float b t
 | .ref a,u=>u=Value.ref a
 | .ty n,u=>u=Value.type n
abbrev aT:List V->List Value->Prop:=Paired aX
def aT.length {xs:List V} {us:List Value} (r:aT xs us):xs.length=us.length:=Paired.length r
theorem aT.get:∀{xs:List V} {us:List Value} {i:Nat} {x:V},aT xs us->xs[i]?=some x->∃u,us[i]?=some u/\aX x u
 | _,_,_,_,.nil,e=>by simp at e
 | _,_,0,_,.cons r _,e=>by simp at e; subst e; exact⟨_,rfl,r⟩
 | _,_,i+1,x,.cons _ t,e=>by obtain⟨u,h1,h2⟩:=aT.get (i:=i) (x:=x) t (by simpa using e);exact⟨u,by simpa using h1,h2⟩
theorem aT.set {x:V} {u:Value} (r:aX x u):∀{xs:List V} {us:List Value} (i:Nat),aT xs us->aT (xs.set i x) (us.set i u)
 | _,_,_,.nil=>.nil
 | _,_,0,.cons _ t=>.cons r t
 | _,_,i+1,.cons q t=>.cons q (aT.set r i t)
theorem aT.append:∀{xs ys:List V} {us ws:List Value},aT xs us->aT ys ws->aT (xs++ys) (us++ws)
 | _,_,_,_,.nil,s=>s
 | _,_,_,_,.cons r t,s=>.cons r (aT.append t s)
theorem aT.take:∀{xs:List V} {us:List Value} (n:Nat),aT xs us->aT (xs.take n) (us.take n)
 | _,_,0,_=>.nil
 | _,_,_+1,.nil=>.nil
 | _,_,n+1,.cons r t=>.cons r (aT.take n t)
theorem aT.drop:∀{xs:List V} {us:List Value} (n:Nat),aT xs us->aT (xs.drop n) (us.drop n)
 | _,_,0,r=>r
 | _,_,_+1,.nil=>.nil
 | _,_,n+1,.cons _ t=>aT.drop n t
def aT.none_of:∀{xs:List V} {us:List Value} {i:Nat},aT xs us->xs[i]?=none->us[i]?=none:=λ{xs us i} r e=>by have h1:=r.length;have h2:xs.length<=i:=Le.mp e;exact Le.mpr (by omega)
def eg:Option V->Option Value->Prop
 | some v,some u=>aX v u
 | none,none=>True
 | _,_=>False
def KV {κ:Type}:List (κ×V)->List (κ×Value)->Prop:=Paired λ(p:κ×V) (q:κ×Value)=>p.1=q.1/\aX p.2 q.2
def kV:aM->V
 | .inl i=>.int i
 | .inr x=>.str x
inductive HO where
 | lst (xs:List V)
 | tup (xs:List V)
 | dK (kvs:List (aM×V))|dT (kvs:List (List aM×V))
 | set (S:Int->Bool) (n:Nat)
 | ins (C dx:Addr) (fs:List (Str×V))
 | own (x:Addr)
 | xd (fs:List (Str×V))
 | met (f x:Addr)
 | rng (lo hi:Int)
 | frz (o:Obj) (u:HO)
 | tbl (ps:Array Value)
 | ext (φ:Heap->Prop)
abbrev Hp:=Addr->Option HO
def upd (H:Hp) (a:Addr) (o:HO):Hp:=λb=>if b=a then some o else H b
variable {H:Hp} {a:Addr} {o:HO}
def aF :upd H a o a=some o:=by unfold upd; rw[Je rfl]
variable {b:Addr}
def aQ (h:b≠a):upd H a o b=H b:=by unfold upd; rw[Ja h]
def rO {u:HO}:upd (upd H a o) a u=upd H a u:=by funext b; unfold upd; split <;> rfl
def jw {u:HO}(h:H a=some o) (h':H b=some u) (d:o≠u):a≠b:=by intro e; subst e; rw[h] at h'; exact d (Option.some.inj h')
def aV (h:H a=some o) (h':H b=none):a≠b:=by intro e; subst e; rw[h] at h'; cases h'
section
variable (P:Program) (w:World)
def c7 (H:Hp) (h:Heap) (a:Addr):HO->Prop
 | .lst xs=>xs.length<=sizeLine/\∃(its:List Value) (n:Nat),aT xs its/\h.get? a=some { cls:=.type "list",data:=.seq its.toArray n }
 | .tup xs=>xs.length<=sizeLine/\∃its:List Value,aT xs its/\IsTup h a its.toArray
 | .dK kvs=>kvs.length<=sizeLine/\(a==sysModules)=false/\∃vs,KV kvs vs/\h.DictOf (cq P w) a vs
 | .dT kvs=>kvs.length<=sizeLine/\(a==sysModules)=false/\∃xs:List (List aM×Addr×Value),
     Paired (λ(p:List aM×V) (q:List aM×Addr×Value)=>p.1=q.1/\H q.2.1=some (.tup (p.1.map kV))/\aX p.2 q.2.2) kvs xs /\
     ∃o es ep,h.get? a=some o/\o.ExactDict/\o.data=.dict es ep/\es.toList=xs.map (entryOfKey (tupleKind (cq P w)))/\(xs.map (·.1)).Nodup
 | .set S n=>h.SetOf (intKind P w) a S n
 | .ins C dx fs=>H dx=some (.own a)/\fs.length<=1000/\dx≠a/\h.get? a=some (PySem.W.instObj C dx) /\
     ∃mA,h.Ns1 dx mA/\(∀f,eg (fs.lookup f) (mA f))/\PySem.Within mA (fs.map (·.1))
 | .own _=>∃o,h.get? a=some o
 | .xd fs=>∃mA,h.Ns1 a mA/\∀f,eg (fs.lookup f) (mA f)
 | .rng lo hi=>∃t u v,h.get? a=some { cls:=.type "range",data:=.fields #[.int lo t,.int hi u,.int 1 v] }
 | .frz o u=>h.get? a=some o/\c7 H h a u
 | .tbl ps=>h.get? a=some { cls:=.none,data:=.fields ps }
 | .met f x=>h.get? a=some (PySem.W.methodObj (.ref f) (.ref x))
 | .ext φ=>φ h/\(∃o,h.get? a=some o)/\∀h1 h2:Heap,φ h1->(∀o,h1.get? a=some o->h2.get? a=some o)->φ h2
def bH (H:Hp) (h:Heap):Prop:=∀a o,H a=some o->c7 P w H h a o
end
section
variable {P:Program} {w:World} {H H':Hp} {h h':Heap} {a:Addr} {o:HO}
def c7.lt (x:c7 P w H h a o):a<h.objs.size:=by
 cases o with
 | lst xs=>obtain⟨_,_,_,_,e⟩:=x; exact Ji e
 | tup xs=>obtain⟨_,_,_,p⟩:=x; exact p.lt
 | dK kvs=>obtain⟨_,_,_,_,o,_,_,e,_⟩:=x; exact Ji e
 | dT kvs=>obtain⟨_,_,_,_,o,_,_,e,_⟩:=x; exact Ji e
 | set S n=>obtain⟨o,_,_,_,e,_⟩:=x; exact Ji e
 | ins C dx fs=>obtain⟨_,_,_,e,_⟩:=x; exact Ji e
 | own y=>obtain⟨_,e⟩:=x; exact Ji e
 | xd fs=>obtain⟨_,⟨_,_,_,e,_⟩,_⟩:=x; exact Ji e
 | rng lo hi=>obtain⟨_,_,_,e⟩:=x; exact Ji e
 | frz ob u=>obtain⟨e,_⟩:=x; exact Ji e
 | tbl ps=>exact Ji (show h.get? a=some _ from x)
 | met f y=>exact Ji (show h.get? a=some _ from x)
 | ext φ=>obtain⟨_,⟨_,e⟩,_⟩:=x; exact Ji e
theorem Paired.mapP {α β:Type} {F G:α->β->Prop}:∀{l₁:List α} {l₂:List β},Paired F l₁ l₂->(∀a b,F a b->G a b)->Paired G l₁ l₂
 | _,_,.nil,_=>.nil
 | _,_,.cons r t,f=>.cons (f _ _ r) (Paired.mapP t f)
theorem c7.stay (x:c7 P w H h a o) (k:∀b u,(b=a\/H b=some (.own a))->h.get? b=some u->h'.get? b=some u)
   (ho:∀b,H b=some (.own a)->H' b=some (.own a)) (ht:∀b xs,H b=some (.tup xs)->H' b=some (.tup xs)):c7 P w H' h' a o:=by
 induction o with
 | lst xs=>obtain⟨z,its,n,r,e⟩:=x; exact⟨z,its,n,r,k _ _ (.inl rfl) e⟩
 | tup xs=>obtain⟨z,its,r,ob,e,c⟩:=x; exact⟨z,its,r,ob,k _ _ (.inl rfl) e,c⟩
 | dK kvs=>obtain⟨z,y,vs,r,ob,es,ep,e,c⟩:=x; exact⟨z,y,vs,r,ob,es,ep,k _ _ (.inl rfl) e,c⟩
 | dT kvs =>
   obtain⟨z,y,xs,r,ob,es,ep,e,c⟩:=x;exact⟨z,y,xs,Paired.mapP r λp q z=>⟨z.1,ht _ _ z.2.1,z.2.2⟩,ob,es,ep,k _ _ (.inl rfl) e,c⟩
 | set S n=>obtain⟨ob,es,ep,t,e,c⟩:=x; exact⟨ob,es,ep,t,k _ _ (.inl rfl) e,c⟩
 | ins C dx fs =>
   obtain⟨d,z,ne,e,mA,⟨od,es,ep,e2,c⟩,r⟩:=x;exact⟨ho _ d,z,ne,k _ _ (.inl rfl) e,mA,⟨od,es,ep,k _ _ (.inr d) e2,c⟩,r⟩
 | own y=>obtain⟨ob,e⟩:=x; exact⟨ob,k _ _ (.inl rfl) e⟩
 | xd fs=>obtain⟨mA,⟨od,es,ep,e,c⟩,r⟩:=x; exact⟨mA,⟨od,es,ep,k _ _ (.inl rfl) e,c⟩,r⟩
 | rng lo hi=>obtain⟨t,u,v,e⟩:=x; exact⟨t,u,v,k _ _ (.inl rfl) e⟩
 | frz ob u ih=>obtain⟨e,q⟩:=x; exact⟨k _ _ (.inl rfl) e,ih q⟩
 | tbl ps =>
   have e:h.get? a=some { cls:=.none,data:=.fields ps }:=x;show h'.get? a=some { cls:=.none,data:=.fields ps };exact k a _ (.inl rfl) e
 | met f y =>
   have e:h.get? a=some (PySem.W.methodObj (.ref f) (.ref y)):=x;show h'.get? a=some (PySem.W.methodObj (.ref f) (.ref y));exact k a _ (.inl rfl) e
 | ext φ=>obtain⟨p,⟨o,e⟩,st⟩:=x; exact⟨st _ _ p λo q=>k _ _ (.inl rfl) q,⟨o,k _ _ (.inl rfl) e⟩,st⟩
def bH.lt (x:bH P w H h) (e:H a=some o):a<h.objs.size:=(x a o e).lt
def bH.fresh (x:bH P w H h) (e:h.objs.size<=a):H a=none:=by
 cases q:H a with
 | none=>rfl
 | some u=>exact absurd (Jo (x.lt q) e) (KL _)
def bH.kept (x:bH P w H h) (k:∀b u,h.get? b=some u->h'.get? b=some u):bH P w H h':=λa o e =>
 (x a o e).stay (λb u _ q=>k b u q) (λ_ q=>q) λ_ _ q=>q
def bH.laid (x:bH P w H h) (k:∀b u,h.get? b=some u->h'.get? b=some u) (hp:h.objs.size<=a) (new:c7 P w (upd H a o) h' a o):bH P w (upd H a o) h':=λb u e=>by
 have hn:=x.fresh hp;by_cases hb:b=a
 . subst hb; rw[aF] at e; cases e; exact new
 . rw[aQ hb] at e;exact(x b u e).stay (λc v _ q=>k c v q) (λc q=>by rw[aQ (aV q hn)]; exact q) λc xs q=>by rw[aQ (aV q hn)]; exact q
end
def Rd (H:Hp) (a:Addr) (u:HO):Prop:=H a=some u\/∃o,H a=some (.frz o u)
variable {P:Program} {w:World} {h:Heap}
def Rd.ok {u:HO} (r:Rd H a u) (x:bH P w H h):c7 P w H h a u:=by
 rcases r with r|⟨o,r⟩
 . exact x a u r
 . obtain⟨_,q⟩:=x a _ r;exact q
def mW:Option HO->Prop
 | some (.lst _)=>True
 | some (.dK _)=>True
 | some (.dT _)=>True
 | some (.set _ _)=>True
 | some (.ins _ _ _)=>True
 | some (.ext _)=>True
 | _=>False
section
variable {P:Program} {w:World} {H:Hp} {h h':Heap} {x e:Addr} {o':HO}
theorem bH.write (ok:bH P w H h) (mu:mW (H x)) (he:e=x\/H e=some (.own x)) (k:∀b u,b≠e->h.get? b=some u->h'.get? b=some u) (heo:∃u,h'.get? e=some u)
   (new:c7 P w (upd H x o') h' x o'):bH P w (upd H x o') h':=λb u q=>by
 have nown:∀c y,H c=some (.own y)->c≠x:=λc y r z=>by subst z; rw[r] at mu; exact mu
 have ntup:∀c xs,H c=some (.tup xs)->c≠x:=λc xs r z=>by subst z; rw[r] at mu; exact mu
 by_cases hb:b=x
 . subst hb; rw[aF] at q; cases q; exact new
 . rw[aQ hb] at q;by_cases hbe:b=e
   . have q':H b=some (.own x):=by
       rcases he with z|z
       . exact absurd (hbe.trans z) hb
       . rw[hbe]; exact z
     rw[q] at q'; cases q';obtain⟨v,hv⟩:=heo;exact⟨v,by rw[hbe]; exact hv⟩
   . refine(ok b u q).stay (λc v hc r=>k c v ?_ r) (λc r=>by rw[aQ (nown c b r)]; exact r) λc xs r=>by rw[aQ (ntup c xs r)]; exact r
     rcases hc with rfl|hc
     . exact hbe
     . rintro rfl;rcases he with z|z
       . exact nown c b hc z
       . rw[hc] at z; cases z; exact hb rfl
end
structure Un (fs ex:List Addr) (H H':Hp) (h h':Heap):Prop where
 keep:∀b o,h.get? b=some o->H b=none->b ∉ fs->b ∉ ex->h'.get? b=some o
 slot:∀b o,h.get? b=some o->H b=none->b∈fs->b ∉ ex->∃sl,h'.get? b=some { o with slots:=sl }
 free:∀b o,h.get? b=some o->H b=none->b ∉ ex->H' b=none
 there:∀b o,h.get? b=some o->b ∉ ex->∃o',h'.get? b=some o'
 tups:∀b xs,H b=some (.tup xs)->H' b=some (.tup xs)
 frzs:∀b o u,H b=some (.frz o u)->H' b=some (.frz o u)
 tbls:∀b ps,H b=some (.tbl ps)->∃more,H' b=some (.tbl (ps++more))
section
variable {fs fs' ex ex':List Addr} {H H1 H2:Hp} {h h1 h2 h':Heap} {a x e:Addr} {o:HO}
def Un.any (u:Un fs ex H H1 h h1) {ob:Obj} (q:h.get? b=some ob) (n:H b=none) (hx:b ∉ ex):∃sl,h1.get? b=some { ob with slots:=sl }:=by
 by_cases hb:b∈fs
 . exact u.slot b ob q n hb hx
 . exact⟨ob.slots,u.keep b ob q n hb hx⟩
def Un.kept (k:∀b u,h.get? b=some u->h'.get? b=some u):Un fs ex H H h h' :=
 ⟨λb ob q _ _ _=>k b ob q,λb ob q _ _ _=>⟨ob.slots,k b ob q⟩,λ_ _ _ n _=>n,λb ob q _=>⟨ob,k b ob q⟩,λ_ _ q=>q,λ_ _ _ q=>q,λ_ ps q=>⟨#[],by rw[q]; simp⟩⟩
def Un.refl:Un fs ex H H h h:=Un.kept λ_ _ q=>q
theorem Un.laid (k:∀b u,h.get? b=some u->h'.get? b=some u) (hp:h.objs.size<=a) (hn:H a=none):Un fs ex H (upd H a o) h h' where
 keep:=λb u q _ _ _=>k b u q
 slot:=λb u q _ _ _=>⟨u.slots,k b u q⟩
 free:=λb u q n _=>by rw[aQ (K4 (Jo (Ji q) hp))]; exact n
 there:=λb u q _=>⟨u,k b u q⟩
 tups:=λb xs q=>by rw[aQ (aV q hn)]; exact q
 frzs:=λb u xs q=>by rw[aQ (aV q hn)]; exact q
 tbls:=λb ps q=>⟨#[],by rw[aQ (aV q hn),q]; simp⟩
def Un.write (mu:mW (H x)) (he:e=x\/H e=some (.own x)) (k:∀b u,b≠e->h.get? b=some u->h'.get? b=some u) (heo:∃u,h'.get? e=some u):Un fs ex H (upd H x o) h h':=by
 have hx:∀b,H b=none->b≠x:=λb n z=>by subst z; rw[n] at mu; exact mu
 have hb:∀b,H b=none->b≠e:=λb n z=>by
   subst z;rcases he with r|r
   . exact hx b n r
   . rw[n] at r; cases r
 have hm:∀b u,H b=some u->¬ mW (some u)->b≠x:=λb u q nm z=>by subst z; rw[q] at mu; exact nm mu
 refine⟨λb u q n _ _=>k b u (hb b n) q,λb u q n _ _=>⟨u.slots,k b u (hb b n) q⟩,λb u q n _=>by rw[aQ (hx b n)]; exact n,λb u q _=>?_,
   λb xs q=>by rw[aQ (hm b _ q λz=>z)]; exact q,λb u xs q=>by rw[aQ (hm b _ q λz=>z)]; exact q,λb ps q=>⟨#[],by rw[aQ (hm b _ q λz=>z),q]; simp⟩⟩
 by_cases hbe:b=e
 . subst hbe; exact heo
 . exact⟨u,k b u hbe q⟩
end
def ng (h:Heap) (H:Hp):List Addr:=(List.range h.objs.size).filter λa=>(H a).isSome
def iT (h:Heap) (H:Hp):Heap:=PySem.W.hideAll h (ng h H)
def D9 (h:Heap) (H:Hp):(iT h H).objs.size=h.objs.size:=PySem.W.hideAll_size _ _
def GK {o:Obj} (e:h.get? b=some o) (n:H b=none):(iT h H).get? b=some o :=
 PySem.W.hideAll_get _ e λhm=>by have q:(H b).isSome=true:=(List.mem_filter.mp hm).2;rw[n] at q; simp at q
def FH {o:Obj} (e:(iT h H).get? b=some o):h.get? b=some o/\H b=none:=by
 have e':h.get? b=some o:=PySem.W.of_hideAll (ng h H) e;refine⟨e',?_⟩;cases q:H b with
 | none=>rfl
 | some x =>
   have hm:b∈ng h H:=List.mem_filter.mpr ⟨Ka.mpr (Ji e'),by simp [q]⟩;have z:(iT h H).get? b=none:=PySem.W.hideAll_none (ng h H) hm;rw[z] at e; cases e
structure Mod (K:W.Frag) (mg:Str->Option Value) (base:Heap):Prop where
 kin:K.In base
 glob:base.Ns mainGlobals mg
 blt:∃mb,base.Ns builtinsNs mb/\∀x:Str,x≠"__name__"->mb x=bootBuiltins x
 nolimit:base.NoLimit
structure Cx where
 prog:Program
 w:World
 K:W.Frag
 mg:Str->Option Value
 base:Heap
 A:Around
 N:List Str
 s₀:Shared
 H₀:Hp
 env:Env
 outer:List Env
 stack:List Env
 ex:List Addr
 fn:Str->Bool
 calm:Bool
 pn:List (Addr×Obj)
 xe:Value->Shared->Prop
def bq (l:List Env):List Addr:=l.filterMap (·.frame)
abbrev Cx.fs (X:Cx):List Addr:=bq X.outer
def lE (sc:Scope) (x:Str):Prop:=sc.names.lookup x=some .local\/sc.names.lookup x=some .cell\/sc.names.lookup x=some .free
def ko (sc:Scope) (x:Str):Prop:=sc.names.lookup x=some .local\/sc.names.lookup x=some .cell
def wU (env:Env) (h:Heap) (m:Str->Option Value) (x:Str) (u:Value):Prop :=
 (env.kindOf x=some .local/\m x=some u)\/((env.kindOf x=some .cell\/env.kindOf x=some .free)/\∃c,env.cells.lookup x=some c/\h.IsCell c (some u))
structure Cx.Ok (X:Cx):Prop where
 mod:Mod X.K X.mg X.base
 kind:X.env.scope.kind=.function
 glob:X.env.globals=mainGlobals
 blt:X.env.builtins=builtinsNs
 above:X.s₀.heap.objs.size<=X.env.locals
 inj:∀x y c,X.env.cells.lookup x=some c->X.env.cells.lookup y=some c->x=y
 has:∀x,(X.env.kindOf x=some .cell\/X.env.kindOf x=some .free)->∃c,X.env.cells.lookup x=some c
 cab:∀x c,X.fn x=true->X.env.cells.lookup x=some c->X.s₀.heap.objs.size<=c
 hd:X.calm=true->X.A.handled=none
 frames:X.A.frames=some X.stack
 stk:X.stack=X.outer\/(X.stack=X.env :: X.outer/\X.env.frame=some X.env.locals)
 exf:∀b∈X.ex,b≠X.env.locals/\∀x c,X.env.cells.lookup x=some c->c≠b
 bs:∀b o,X.base.get? b=some o->X.s₀.heap.get? b=some o/\X.H₀ b=none
 bsz:X.base.objs.size<=X.s₀.heap.objs.size
 noex:∀b o,X.base.get? b=some o->b ∉ X.ex
 exfs:∀b∈X.ex,b ∉ X.fs
 funs:X.s₀.heap.FunFrames X.base X.outer
 frf:∀b∈X.fs,X.H₀ b=none
structure Inv (X:Cx) (pins:List (Addr×Obj)) (σ:List (Option V)) (H:Hp) (s:Shared):Prop where
 ok:X.Ok
 os:s.os=X.s₀.os
 bare:AllBare s.gens
 base:Un X.fs X.ex X.H₀ H X.s₀.heap s.heap
 loc:∃m,s.heap.Ns X.env.locals m/\∀(i:Nat) (x:Str) (v:V),X.N[i]?=some x->σ[i]?=some (some v)->lE X.env.scope x->∃u,aX v u/\wU X.env s.heap m x u
 cell:∀x c,X.env.cells.lookup x=some c->∃v,s.heap.IsCell c v
 free:H X.env.locals=none
 freeC:∀x c,X.env.cells.lookup x=some c->H c=none
 pin:∀p∈X.pn++pins,s.heap.get? p.1=some p.2/\H p.1=none/\p.1≠X.env.locals/\p.1 ∉ X.fs/\∀v,p.2.data≠.cell v
 hok:bH X.prog X.w H s.heap
 len:σ.length=X.N.length
variable {u:Value} {t' i:Nat} {x:Str} {M:Model} {A:Around} {E:Value->Shared->Prop} {v:V}
section
variable {X:Cx} {pins:List (Addr×Obj)} {σ:List (Option V)} {H H':Hp} {s:Shared} {h':Heap}
def Cx.Ok.nofr (ok:X.Ok) {o:Obj} (e:X.base.get? b=some o):b ∉ X.fs:=λhb=>by have:=(ok.funs.mem hb).1;rw[e] at this; cases this
def Inv.bs (I:Inv X pins σ H s):∀b o,X.base.get? b=some o->s.heap.get? b=some o/\H b=none:=λb o e =>
 ⟨I.base.keep b o (I.ok.bs b o e).1 (I.ok.bs b o e).2 (I.ok.nofr e) (I.ok.noex b o e),I.base.free b o (I.ok.bs b o e).1 (I.ok.bs b o e).2 (I.ok.noex b o e)⟩
def Inv.bk (I:Inv X pins σ H s):∀b o,X.base.get? b=some o->s.heap.get? b=some o:=λb o e=>(I.bs b o e).1
def Inv.mod (I:Inv X pins σ H s):Mod X.K X.mg X.base:=I.ok.mod
def Inv.kIn (I:Inv X pins σ H s):X.K.In s.heap:=I.ok.mod.kin.keeps I.bk
def Inv.fr (I:Inv X pins σ H s):∃m,Fr X.base X.env.locals s.heap m :=
 let ⟨m,hn,_⟩:=I.loc
 ⟨m,hn,I.bk,K0 I.ok.bsz I.ok.above⟩
def Inv.lt (I:Inv X pins σ H s):X.env.locals<s.heap.objs.size:=let ⟨_,hn,_⟩:=I.loc; hn.lt
def Inv.sz (I:Inv X pins σ H s):X.s₀.heap.objs.size<=s.heap.objs.size:=K0 I.ok.above (MR I.lt)
def Inv.nofs (I:Inv X pins σ H s) (h:s.heap.objs.size<=a):a ∉ X.fs:=λhb=>by obtain⟨_,o,ho,_⟩:=I.ok.funs.mem hb;exact absurd (Jo (Ji ho) (K0 I.sz h)) (KL _)
def Inv.cne (I:Inv X pins σ H s):∀x c,X.env.cells.lookup x=some c->c≠X.env.locals:=λx c e z=>by obtain⟨v,o,ho,hd⟩:=I.cell x c e;obtain⟨m,⟨o',es,ep,ho',hd',_⟩,_⟩:=I.loc;rw[z,ho'] at ho; cases ho; rw[hd'] at hd; cases hd
def Inv.funs (I:Inv X pins σ H s):s.heap.FunFrames X.base X.outer:=by
 have all:∀(l:List Env),(∀b∈bq l,b∈X.fs)->X.s₀.heap.FunFrames X.base l->s.heap.FunFrames X.base l:=by
   intro l
   induction l with
   | nil=>intro _ _; trivial
   | cons env r ih =>
     intro hs hl;obtain⟨hk,⟨L,o,hf,hn,ho,hd⟩,hr⟩:=hl;have hL:L∈X.fs:=hs L (by unfold bq; rw[LM,hf]; exact KA);obtain⟨sl,e⟩:=I.base.slot L o ho (I.ok.frf L hL) hL λz=>I.ok.exfs L z hL;exact⟨hk,⟨L,_,hf,hn,e,hd⟩,ih (λb hb=>hs b (by unfold bq; rw[LM,hf]; exact K5 _ hb)) hr⟩
 exact all X.outer (λ_ hb=>hb) I.ok.funs
def Inv.stack (I:Inv X pins σ H s):s.heap.FunFrames X.base X.stack:=by
 rcases I.ok.stk with e|⟨e,hf⟩
 . rw[e]; exact I.funs
 . rw[e];obtain⟨m,hn,_⟩:=I.loc;refine .cons (by rw[I.ok.kind]; decide) hf hn ?_ I.funs;exact K' (K0 I.ok.bsz I.ok.above)
def Inv.stkSub (I:Inv X pins σ H s):∀b∈bq X.stack,b∈X.env.locals :: X.fs:=λb hb=>by
 rcases I.ok.stk with e|⟨e,hf⟩
 . rw[e] at hb; exact K5 _ hb
 . rw[e] at hb;unfold bq at hb;rw[LM,hf] at hb;exact hb
def Inv.stkFree (I:Inv X pins σ H s):∀b∈bq X.stack,H b=none:=λb hb=>by
 rcases Jl.mp (I.stkSub b hb) with e|hb
 . rw[e]; exact I.free
 . obtain⟨_,o,ho,_⟩:=I.ok.funs.mem hb;exact I.base.free b o ho (I.ok.frf b hb) λz=>I.ok.exfs b z hb
theorem Inv.step {g':Array GenState} {d':Drawn} {ch:List Addr} (I:Inv X pins σ H s)
   (hch:∀b∈ch,(b∈X.ex\/X.s₀.heap.objs.size<=b)/\b≠X.env.locals/\(∀x c,X.env.cells.lookup x=some c->c≠b)/\∀p∈X.pn++pins,p.1≠b)
   (keep:∀b o,b≠X.env.locals->b ∉ X.fs->b ∉ ch->s.heap.get? b=some o->H b=none->h'.get? b=some o)
   (slot:∀b o,b≠X.env.locals->b∈X.fs->b ∉ ch->s.heap.get? b=some o->H b=none->∃sl,h'.get? b=some { o with slots:=sl }) (free:∀b o,b ∉ ch->s.heap.get? b=some o->H b=none->H' b=none)
   (there:∀b o,b ∉ ch->s.heap.get? b=some o->∃o',h'.get? b=some o')
   (tups:∀b xs,H b=some (.tup xs)->H' b=some (.tup xs)) (frzs:∀b o u,H b=some (.frz o u)->H' b=some (.frz o u)) (tbls:∀b ps,H b=some (.tbl ps)->∃more,H' b=some (.tbl (ps++more)))
   (ns:∀m,s.heap.Ns X.env.locals m->h'.Ns X.env.locals m) (hok:bH X.prog X.w H' h') (hg:AllBare g') :
   Inv X pins σ H' { s with heap:=h',gens:=g',drawn:=d',toks:=t' }:=by
 have neL:∀b o,X.s₀.heap.get? b=some o->b≠X.env.locals:=λb o e=>K4 (Jo (Ji e) I.ok.above);have neC:∀b o,X.s₀.heap.get? b=some o->b ∉ X.ex->b ∉ ch:=λb o e hx hb=>by
   rcases (hch b hb).1 with z|z
   . exact hx z
   . exact absurd (Jo (Ji e) z) (KL _)
 have cellK:∀x c,X.env.cells.lookup x=some c->∀v,s.heap.IsCell c v->h'.IsCell c v:=λx c e v ⟨o,ho,hd⟩=>by
   have nch:c ∉ ch:=λz=>(hch c z).2.2.1 x c e rfl;by_cases hc:c∈X.fs
   . obtain⟨sl,q⟩:=slot c o (I.cne x c e) hc nch ho (I.freeC x c e);exact⟨_,q,hd⟩
   . exact⟨o,keep c o (I.cne x c e) hc nch ho (I.freeC x c e),hd⟩
 refine⟨I.ok,I.os,hg,⟨λb o e n hb hx=>?_,λb o e n hb hx=>?_,λb o e n hx=>?_,λb o e hx=>?_,λb xs e=>tups b xs (I.base.tups b xs e),λb o xs e=>frzs b o xs (I.base.frzs b o xs e),λb ps e=>?_⟩,?_,λx c e=>?_,?_,λx c e=>?_,λp hp=>?_,hok,I.len⟩
 . exact keep b o (neL b o e) hb (neC b o e hx) (I.base.keep b o e n hb hx) (I.base.free b o e n hx)
 . obtain⟨sl,e1⟩:=I.base.slot b o e n hb hx;obtain⟨sl',e2⟩:=slot b _ (neL b o e) hb (neC b o e hx) e1 (I.base.free b o e n hx);exact⟨sl',e2⟩
 . obtain⟨o',e1⟩:=I.base.there b o e hx;exact free b o' (neC b o e hx) e1 (I.base.free b o e n hx)
 . obtain⟨o',e1⟩:=I.base.there b o e hx;exact there b o' (neC b o e hx) e1
 . obtain⟨m1,e1⟩:=I.base.tbls b ps e;obtain⟨m2,e2⟩:=tbls b _ e1;exact⟨m1++m2,by rw[e2,Array.append_assoc]⟩
 . obtain⟨m,hn,hl⟩:=I.loc;refine⟨m,ns m hn,λi x v e1 e2 e3=>?_⟩;obtain⟨u,r,l⟩:=hl i x v e1 e2 e3;refine⟨u,r,?_⟩;rcases l with l|⟨k,c,e,z⟩
   . exact .inl l
   . exact .inr ⟨k,c,e,cellK x c e _ z⟩
 . obtain⟨v,z⟩:=I.cell x c e;exact⟨v,cellK x c e v z⟩
 . obtain⟨m,⟨o,_,_,ho,_⟩,_⟩:=I.loc;exact free _ o (λz=>(hch _ z).2.1 rfl) ho I.free
 . obtain⟨v,o,ho,hd⟩:=I.cell x c e;exact free c o (λz=>(hch c z).2.2.1 x c e rfl) ho (I.freeC x c e)
 . obtain⟨e,n,ne,nf,d⟩:=I.pin p hp;have nch:p.1 ∉ ch:=λz=>(hch p.1 z).2.2.2 p hp rfl;exact⟨keep p.1 p.2 ne nf nch e n,free p.1 p.2 nch e n,ne,nf,d⟩
def Inv.un (I:Inv X pins σ H s) (u:Un X.fs [] H H' s.heap h') (hok:bH X.prog X.w H' h'):Inv X pins σ H' { s with heap:=h',toks:=t' }:=by
 obtain⟨m,⟨o,es,ep,ho,r⟩,_⟩:=id I.loc;obtain⟨sl,hL⟩:=u.any ho I.free (by simp);exact I.step (g':=s.gens) (d':=s.drawn) (ch:=[]) (λ_ z=>nomatch z) (λb o _ hb _ e n=>u.keep b o e n hb (by simp)) (λb o _ hb _ e n=>u.slot b o e n hb (by simp)) (λb o _ e n=>u.free b o e n (by simp)) (λb o _ e=>u.there b o e (by simp)) u.tups u.frzs u.tbls (λm' hm=>by obtain⟨o',es',ep',ho',r'⟩:=hm;rw[ho] at ho'; cases ho';exact⟨_,es',ep',hL,r'⟩) hok I.bare
theorem Inv.call {g':Array GenState} {d':Drawn} {ch:List Addr} (I:Inv X pins σ H s) (u:Un (bq X.stack) ch H H' s.heap h') (hok:bH X.prog X.w H' h') (hg:AllBare g')
   (hch:∀b∈ch,(b∈X.ex\/X.s₀.heap.objs.size<=b)/\b≠X.env.locals/\(∀x c,X.env.cells.lookup x=some c->c≠b)/\∀p∈X.pn++pins,p.1≠b) :
   Inv X pins σ H' { s with heap:=h',gens:=g',drawn:=d',toks:=t' }:=by
 obtain⟨m,⟨o,es,ep,ho,r⟩,_⟩:=id I.loc;obtain⟨sl,hL⟩:=u.any ho I.free λz=>(hch _ z).2.1 rfl;exact I.step (ch:=ch) hch (λb o hL hb hc e n=>u.keep b o e n (λz=>(Jl.mp (I.stkSub b z)).elim hL hb) hc) (λb o _ _ hc e n=>u.any e n hc) (λb o hc e n=>u.free b o e n hc) (λb o hc e=>u.there b o e hc) u.tups u.frzs u.tbls (λm' hm=>by obtain⟨o',es',ep',ho',r'⟩:=hm;rw[ho] at ho'; cases ho';exact⟨_,es',ep',hL,r'⟩) hok hg
theorem Inv.turned {it:Addr} (I:Inv X pins σ H s) (k:∀b o,b≠it->s.heap.get? b=some o->h'.get? b=some o) (hn:H it=none) (hL:it≠X.env.locals)
   (h1:it∈X.ex\/X.s₀.heap.objs.size<=it) (h2:∀x c,X.env.cells.lookup x=some c->c≠it) (h3:∀p∈X.pn++pins,p.1≠it):Inv X pins σ H { s with heap:=h',toks:=t' }:=by
 have nit:∀b u,H b=some u->b≠it:=λb u e z=>by rw[z,hn] at e; cases e
 refine I.step (g':=s.gens) (d':=s.drawn) (ch:=[it]) (λb hb=>?_) (λb o _ _ hc e _=>k b o (λz=>hc (by simp [z])) e) (λb o _ _ hc e _=>⟨o.slots,k b o (λz=>hc (by simp [z])) e⟩) (λ_ _ _ _ n=>n)
   (λb o hc e=>⟨o,k b o (λz=>hc (by simp [z])) e⟩) (λ_ _ e=>e) (λ_ _ _ e=>e) (λb ps e=>⟨#[],by rw[e]; simp⟩) (λm hm=>?_) (λb u e=>?_) I.bare
 . have e:b=it:=by simpa using hb
   subst e;exact⟨h1,hL,h2,h3⟩
 . obtain⟨o,es,ep,ho,r⟩:=hm;exact⟨o,es,ep,k _ o (Ne.symm hL) ho,r⟩
 . refine(I.hok b u e).stay (λc v hc q=>k c v ?_ q) (λ_ q=>q) λ_ _ q=>q;rcases hc with z|z
   . rw[z]; exact nit b u e
   . exact nit c _ z
def Inv.tok (I:Inv X pins σ H s) (t:Nat):Inv X pins σ H { s with toks:=t }:=I.un (h':=s.heap) (t':=t) Un.refl I.hok
def Inv.kept {t':Nat} (I:Inv X pins σ H s) (k:∀b u,s.heap.get? b=some u->h'.get? b=some u):Inv X pins σ H { s with heap:=h',toks:=t' }:=I.un (Un.kept k) (I.hok.kept k)
theorem Inv.laid {a:Addr} {o:HO} {t':Nat} (I:Inv X pins σ H s) (k:∀b u,s.heap.get? b=some u->h'.get? b=some u) (hp:s.heap.objs.size<=a) (new:c7 X.prog X.w (upd H a o) h' a o) :
   Inv X pins σ (upd H a o) { s with heap:=h',toks:=t' }:=I.un (Un.laid k hp (I.hok.fresh hp)) (I.hok.laid k hp new)
theorem Inv.write {x e:Addr} {o:HO} {t':Nat} (I:Inv X pins σ H s) (mu:mW (H x)) (he:e=x\/H e=some (.own x)) (k:∀b u,b≠e->s.heap.get? b=some u->h'.get? b=some u) (heo:∃u,h'.get? e=some u)
   (new:c7 X.prog X.w (upd H x o) h' x o):Inv X pins σ (upd H x o) { s with heap:=h',toks:=t' }:=I.un (Un.write mu he k heo) (I.hok.write mu he k heo new)
def Inv.weak {σ':List (Option V)} (I:Inv X pins σ H s) (hl:σ'.length=σ.length) (w:∀(i:Nat) v,σ'[i]?=some (some v)->σ[i]?=some (some v)):Inv X pins σ' H s :=
 ⟨I.ok,I.os,I.bare,I.base,let ⟨m,hn,hl'⟩:=I.loc; ⟨m,hn,λi x v e1 e2 e3=>hl' i x v e1 (w i v e2) e3⟩,I.cell,I.free,I.freeC,I.pin,I.hok,hl.trans I.len⟩
def Inv.pins_of {pins':List (Addr×Obj)} (I:Inv X pins σ H s) (h:∀p∈pins',s.heap.get? p.1=some p.2/\H p.1=none/\p.1≠X.env.locals/\p.1 ∉ X.fs/\∀v,p.2.data≠.cell v):Inv X pins' σ H s :=
 ⟨I.ok,I.os,I.bare,I.base,I.loc,I.cell,I.free,I.freeC,λp hp=>(K1.mp hp).elim (λz=>I.pin p (Ly _ z)) (h p),I.hok,I.len⟩
def tm {N:List Str} (hN:N.Nodup) {j:Nat}(a:N[i]?=some x) (b:N[j]?=some x):i=j:=by obtain⟨h1,e1⟩:=Jb.mp a;obtain⟨h2,e2⟩:=Jb.mp b;exact(List.getElem_inj hN).mp (e1.trans e2.symm)
theorem uj {Q:Unit->Shared->Prop} (I:Inv X pins σ H s) (hN:X.N.Nodup) (hi:X.N[i]?=some x) (hx:ko X.env.scope x) (r:aX v u)
   (h:∀s',Inv X pins (σ.set i (some v)) H s'->(∃a,Heap.SameBut a s.heap s'.heap/\(a=X.env.locals\/X.env.cells.lookup x=some a))->Q () s') (hf:X.fn x=true\/X.env.scope.names.lookup x=some .local:=by first|exact .inl rfl|exact .inr rfl|assumption):wpAny M A (storeName X.env x u) Q E s:=by
 obtain⟨m,hn,hl⟩:=id I.loc;have hcls:(X.env.scope.kind==.class || (X.env.scope.kind==.module&&X.env.locals != X.env.globals))=false:=by rw[I.ok.kind]; rfl
 have hiσ:i<σ.length:=by rw[I.len]; exact(Jb.mp hi).1
 have cne:=I.cne;have tracked:∀{a:Addr} {h':Heap},(∃o,s.heap.get? a=some o/\H a=none)->Heap.SameBut a s.heap h'->bH X.prog X.w H h':=λ{a h'} ha hs b ob e=>by
   obtain⟨_,_,hfree⟩:=ha;refine(I.hok b ob e).stay (λc w' hc q=>(hs.2 c ?_).trans q) (λ_ q=>q) λ_ _ q=>q;rintro rfl;rcases hc with rfl|hc
   . rw[hfree] at e; cases e
   . rw[hfree] at hc; cases hc
 rcases hx with hk|hk
 . refine wpAny_storeName_local hk hn (λh' hn' hs=>?_) hcls;obtain⟨oL,_,_,hoL,_⟩:=id hn;refine h _ ⟨I.ok,I.os,I.bare,⟨λb o e n hb hx=>?_,λb o e n hb hx=>?_,I.base.free,λb o e hx=>?_,I.base.tups,I.base.frzs,I.base.tbls⟩,⟨_,hn',λj y v' e1 e2 e3=>?_⟩,λy c e=>?_,I.free,I.freeC,λp hp=>?_,tracked ⟨oL,hoL,I.free⟩ hs,by simpa using I.len⟩ ⟨_,hs,.inl rfl⟩
   . exact(hs.2 b (K4 (Jo (Ji e) I.ok.above))).trans (I.base.keep b o e n hb hx)
   . obtain⟨sl,e1⟩:=I.base.slot b o e n hb hx;exact⟨sl,(hs.2 b (K4 (Jo (Ji e) I.ok.above))).trans e1⟩
   . obtain⟨o',e1⟩:=I.base.there b o e hx;exact⟨o',(hs.2 b (K4 (Jo (Ji e) I.ok.above))).trans e1⟩
   . by_cases hj:j=i
     . subst hj;rw[hi] at e1; cases e1;rw[Kf hiσ] at e2;cases e2;exact⟨u,r,.inl ⟨hk,by simp⟩⟩
     . rw[L6 (Ne.symm hj)] at e2;obtain⟨u',r',q⟩:=hl j y v' e1 e2 e3;refine⟨u',r',?_⟩;rcases q with⟨k,e⟩|⟨k,c,e,z⟩
       . refine .inl ⟨k,?_⟩;have:y≠x:=λe=>hj (tm hN e1 (e ▸ hi));simp [this,e]
       . exact .inr ⟨k,c,e,z.sameBut hs (cne y c e)⟩
   . obtain⟨w',z⟩:=I.cell y c e;exact⟨w',z.sameBut hs (cne y c e)⟩
   . obtain⟨e,n,ne,nf,d⟩:=I.pin p hp;exact⟨(hs.2 p.1 ne).trans e,n,ne,nf,d⟩
 . have hfn:X.fn x=true:=by
     rcases hf with z|z
     . exact z
     . rw[z] at hk; cases hk
   obtain⟨c,hc⟩:=I.ok.has x (.inl hk);obtain⟨w',z⟩:=I.cell x c hc;refine wpAny_storeName_cell I.ok.kind hk hc z (λh' hc' hs=>?_);obtain⟨oc,hoc,hocd⟩:=id z;refine h { s with heap:=h' } ⟨I.ok,I.os,I.bare,⟨λb o e n hb hx=>?_,λb o e n hb hx=>?_,I.base.free,λb o e hx=>?_,I.base.tups,I.base.frzs,I.base.tbls⟩,⟨m,hn.sameBut hs (Ne.symm (cne x c hc)),λj y v' e1 e2 e3=>?_⟩,λy c' e=>?_,I.free,I.freeC,λp hp=>?_,tracked ⟨oc,hoc,I.freeC x c hc⟩ hs,by simpa using I.len⟩ ⟨c,hs,.inr hc⟩
   . exact(hs.2 b (K4 (Jo (Ji e) (I.ok.cab x c hfn hc)))).trans (I.base.keep b o e n hb hx)
   . obtain⟨sl,e1⟩:=I.base.slot b o e n hb hx;exact⟨sl,(hs.2 b (K4 (Jo (Ji e) (I.ok.cab x c hfn hc)))).trans e1⟩
   . obtain⟨o',e1⟩:=I.base.there b o e hx;exact⟨o',(hs.2 b (K4 (Jo (Ji e) (I.ok.cab x c hfn hc)))).trans e1⟩
   . by_cases hj:j=i
     . subst hj;rw[hi] at e1; cases e1;rw[Kf hiσ] at e2;cases e2;exact⟨u,r,.inr ⟨.inl hk,c,hc,hc'⟩⟩
     . rw[L6 (Ne.symm hj)] at e2;obtain⟨u',r',q⟩:=hl j y v' e1 e2 e3;refine⟨u',r',?_⟩;rcases q with q|⟨k,c',e,z'⟩
       . exact .inl q
       . refine .inr ⟨k,c',e,z'.sameBut hs ?_⟩;rintro rfl;exact hj (tm hN e1 (I.ok.inj _ _ _ e hc ▸ hi))
   . by_cases hcc:c'=c
     . subst hcc; exact⟨_,hc'⟩
     . obtain⟨w2,z2⟩:=I.cell y c' e;exact⟨w2,z2.sameBut hs hcc⟩
   . obtain⟨e,n,ne,nf,d⟩:=I.pin p hp;refine⟨(hs.2 p.1 ?_).trans e,n,ne,nf,d⟩;intro q;rw[q,hoc] at e;have q':oc=p.2:=Option.some.inj e;exact d w' (by rw[<- q']; exact hocd)
theorem nL {Q:Unit->Shared->Prop} (I:Inv X pins σ H s) (hN:X.N.Nodup) (hi:X.N[i]?=some x) (hx:ko X.env.scope x) (r:aX v u)
   (h:∀s',Inv X pins (σ.set i (some v)) H s'->Q () s') (hf:X.fn x=true\/X.env.scope.names.lookup x=some .local:=by first|exact .inl rfl|exact .inr rfl|assumption):wpAny M A (storeName X.env x u) Q E s :=
 uj I hN hi hx r (λs' I' _=>h s' I') hf
theorem Inv.call' {s':Shared} {ch:List Addr} (I:Inv X pins σ H s) (ho:s'.os=s.os) (u:Un (bq X.stack) ch H H' s.heap s'.heap) (hok:bH X.prog X.w H' s'.heap) (hg:AllBare s'.gens)
   (hch:∀b∈ch,(b∈X.ex\/X.s₀.heap.objs.size<=b)/\b≠X.env.locals/\(∀x c,X.env.cells.lookup x=some c->c≠b)/\∀p∈X.pn++pins,p.1≠b):Inv X pins σ H' s':=by
 obtain⟨h',g',d',t',o'⟩:=s';have e:o'=s.os:=ho;subst e;exact I.call (g':=g') (t':=t') (d':=d') u hok hg hch
end
abbrev XK:=Value->Option Addr->Hp->Prop
abbrev St:=List (Option V)
abbrev VK:=V->Hp->Prop
abbrev TE:=St->Hp->VK->Prop
abbrev TT:=St->Hp->(Bool->Hp->Prop)->Prop
abbrev TA:=St->Hp->(List V->Hp->Prop)->Prop
structure cS where
 nx:St->Hp->Prop
 rt:VK
 bk:St->Hp->Prop:=λ_ _=>False
 ct:St->Hp->Prop:=λ_ _=>False
abbrev TS:=cS->St->Hp->Prop
def EP (X:Cx) (pins:List (Addr×Obj)) (σ:St) (Q:VK) (u:Value) (s':Shared):Prop:=∃v H',Inv X pins σ H' s'/\aX v u/\Q v H'
def TP (X:Cx) (pins:List (Addr×Obj)) (σ:St) (Q:Bool->Hp->Prop) (b:Bool) (s':Shared):Prop:=∃H',Inv X pins σ H' s'/\Q b H'
def AP (X:Cx) (pins:List (Addr×Obj)) (σ:St) (Q:List V->Hp->Prop) (us:List Value) (s':Shared):Prop:=∃vs H',Inv X pins σ H' s'/\aT vs us/\Q vs H'
def SP (X:Cx) (pins:List (Addr×Obj)) (D:cS) (f:Flow) (s':Shared):Prop :=
 match f with
 | .next=>∃σ' H',Inv X pins σ' H' s'/\D.nx σ' H'
 | .brk=>∃σ' H',Inv X pins σ' H' s'/\D.bk σ' H'
 | .cont=>∃σ' H',Inv X pins σ' H' s'/\D.ct σ' H'
 | .ret u=>∃v σ' H',Inv X pins σ' H' s'/\aX v u/\D.rt v H'
def PE (X:Cx) (e:Expr) (t:TE):Prop :=
 ∀(pins:List (Addr×Obj)) (s:Shared) (σ:St) (H:Hp) (Q:VK),Inv X pins σ H s->t σ H Q->wpAny (model X.prog X.w) X.A (eval e X.env) (EP X pins σ Q) X.xe s
def PT (X:Cx) (e:Expr) (t:TT):Prop :=
 ∀(pins:List (Addr×Obj)) (s:Shared) (σ:St) (H:Hp) (Q:Bool->Hp->Prop),Inv X pins σ H s->t σ H Q->wpAny (model X.prog X.w) X.A (isTrue e X.env (eval e X.env)) (TP X pins σ Q) X.xe s
def PW (X:Cx) (e:Expr) (t:TT):Prop :=
 ∀(whole:Sem Value) (pins:List (Addr×Obj)) (s:Shared) (σ:St) (H:Hp) (Q:Bool->Hp->Prop),Inv X pins σ H s->t σ H Q->wpAny (model X.prog X.w) X.A (isTrue e X.env whole) (TP X pins σ Q) X.xe s
def PW.pt {X:Cx} {e:Expr} {t:TT} (h:PW X e t):PT X e t:=h _
def PA (X:Cx) (es:List Expr) (t:TA):Prop :=
 ∀(pos:Pos) (pins:List (Addr×Obj)) (s:Shared) (σ:St) (H:Hp) (Q:List V->Hp->Prop),Inv X pins σ H s->t σ H Q->wpAny (model X.prog X.w) X.A (spliced (backTo pos (starEach es X.env))) (AP X pins σ Q) X.xe s
def PS (X:Cx) (st:Stmt) (t:TS):Prop :=
 ∀(pins:List (Addr×Obj)) (s:Shared) (σ:St) (H:Hp) (D:cS),Inv X pins σ H s->t D σ H->wpAny (model X.prog X.w) X.A (exec st X.env) (SP X pins D) X.xe s
def bD (X:Cx) (st:List Stmt) (t:TS):Prop :=
 ∀(pins:List (Addr×Obj)) (s:Shared) (σ:St) (H:Hp) (D:cS),Inv X pins σ H s->t D σ H->wpAny (model X.prog X.w) X.A (execs st X.env) (SP X pins D) X.xe s
variable {s:Shared}
def aO {α:Type} {t:Sem α} {Q Q':α->Shared->Prop} (h:wpAny M A t Q E s) (hQ:∀a s,Q a s->Q' a s):wpAny M A t Q' E s:=Kk h hQ λ_ _ x=>x
variable {pos:Pos} {pins:List (Addr×Obj)} {σ:St} {op:CmpOp}
section
variable {X:Cx}
def xz (i:Nat):TE:=λσ H Q=>∃v,σ[i]?=some (some v)/\Q v H
def tC (v:V):TE:=λ_ H Q=>Q v H
def Ik (hN:X.N[i]?=some x) (hv:lE X.env.scope x) (hd:(x==("__debug__":Str))=false:=by decide) (hcd:(x==("__classdict__":Str))=false:=by decide):PE X (.Name x pos) (xz i):=by
 intro pins s σ H Q I h;obtain⟨v,e,h⟩:=h;obtain⟨m,hn,hl⟩:=I.loc;obtain⟨u,r,l⟩:=hl i x v hN e hv;have fin:EP X pins σ Q u s:=⟨v,H,I,r,h⟩
 rcases l with⟨hk,hm⟩|⟨hk,c,hc,hcell⟩
 . exact wpAny_Name (wpAny_loadName_local I.ok.kind hk hn hm fin) hd
 . rcases hk with hk|hk
   . exact wpAny_Name (wpAny_loadName_cell I.ok.kind hk hc hcell fin) hd
   . exact wpAny_Name (wpAny_loadName_free I.ok.kind hk hc hcell fin hcd) hd
def aE {i j pos}:PE X (.Constant (.int i) j pos) (tC (.int i)):=λ_ _ _ H _ I h=>wpAny_Constant_int ⟨.int i,H,I.tok _,⟨_,rfl⟩,h⟩
def mz {b j pos}:PE X (.Constant (.bool b) j pos) (tC (.bl b)):=λ_ _ _ H _ I h=>Constant_bool ⟨.bl b,H,I,rfl,h⟩
def j3 {j pos}:PE X (.Constant .none j pos) (tC .non):=λ_ _ _ H _ I h=>Constant_none ⟨.non,H,I,rfl,h⟩
def aP {x j pos}:PE X (.Constant (.str x) j pos) (tC (.str x)):=λ_ _ _ H _ I h=>Calls.Constant_str ⟨.str x,H,I.tok _,⟨_,rfl⟩,h⟩
def Gl (X:Cx) (x:Str):Prop:=X.env.kindOf x=some .globalImplicit
theorem kH {Q:Value->Shared->Prop} (I:Inv X pins σ H s) (hg:Gl X x) (hm:X.mg x=some u) (h:Q u s)
   (hd:(x==("__debug__":Str))=false:=by decide):wpAny (model X.prog X.w) X.A (eval (.Name x pos) X.env) Q E s :=
 Calls.Name_function_global I.ok.kind hg (Calls.loadGlobal_global (by rw[I.ok.glob]; exact I.mod.glob.keeps I.bk) hm h) hd
theorem j2 {Q:Value->Shared->Prop} (I:Inv X pins σ H s) (hg:Gl X x) (hm:X.mg x=none) (hv:bootBuiltins x=some u) (h:Q u s)
   (hn:x≠"__name__":=by decide) (hd:(x==("__debug__":Str))=false:=by decide):wpAny (model X.prog X.w) X.A (eval (.Name x pos) X.env) Q E s:=by
 obtain⟨mb,h1,h2⟩:=I.mod.blt;exact Calls.Name_function_global I.ok.kind hg (Calls.loadGlobal_builtin (by rw[I.ok.glob]; exact I.mod.glob.keeps I.bk) hm (by rw[I.ok.blt]; exact h1.keeps I.bk) ((h2 x hn).trans hv) h) hd
def wx (hg:Gl X x) (hm:X.mg x=some u) (r:aX v u) (hd:(x==("__debug__":Str))=false:=by decide):PE X (.Name x pos) (tC v) :=
 λ_ _ _ H _ I h=>kH I hg hm ⟨v,H,I,r,h⟩ hd
def vD (hg:Gl X x) (hm:X.mg x=none) (hv:bootBuiltins x=some u) (r:aX v u) (hn:x≠"__name__":=by decide) (hd:(x==("__debug__":Str))=false:=by decide):PE X (.Name x pos) (tC v) :=
 λ_ _ _ H _ I h=>j2 I hg hm hv ⟨v,H,I,r,h⟩ hn hd
variable {a b:Expr} {ta tb:TE} {pos:Pos}
def PC (X:Cx) (op:CmpOp) (a b:Expr) (t:TE):Prop :=
 ∀(pins:List (Addr×Obj)) (s:Shared) (σ:St) (H:Hp) (Q:VK),Inv X pins σ H s->t σ H Q ->
   wpAny (model X.prog X.w) X.A (eval a X.env) (λv s₁=>wpAny (model X.prog X.w) X.A (eval b X.env) (λu s₂=>wpAny (model X.prog X.w) X.A (compareOp op v u) (EP X pins σ Q) X.xe s₂) X.xe s₁) X.xe s
def C9 (b:Expr) (h:op≠.In) (h2:op≠.NotIn):behindInMarks op b=false:=by
 have e1:(op==CmpOp.In)=false:=by cases op <;> first|rfl|exact absurd rfl h
 have e2:(op==CmpOp.NotIn)=false:=by cases op <;> first|rfl|exact absurd rfl h2
 cases b <;> simp [behindInMarks,e1,e2]
def Ba (ta:TE):TE:=λσ H Q=>ta σ H λx H1=>Q (.bl (decide (x=.non))) H1
def Dr (ta:TE):TE:=λσ H Q=>ta σ H λx H1=>Q (.bl (!decide (x=.non))) H1
def aX.none_iff {x:V} {v:Value} (r:aX x v):(v==Value.none)=decide (x=.non):=by
 cases x with
 | non=>cases r; rfl
 | bl _=>cases r; rfl
 | int _=>obtain⟨t,rfl⟩:=r; rfl
 | str _=>obtain⟨t,rfl⟩:=r; rfl
 | byt _=>obtain⟨t,rfl⟩:=r; rfl
 | flt _=>obtain⟨t,rfl⟩:=r; rfl
 | ref _=>cases r; rfl
 | ty _=>cases r; rfl
def Ch {j pos'} (ha:PE X a ta):PC X .Is a (.Constant .none j pos') (Ba ta):=by intro pins s σ H Q I h;refine aO (ha pins s σ H _ I h) λv s1 ⟨x,H1,I1,r1,q1⟩=>?_;exact Constant_none (is_none_gen ⟨.bl _,H1,I1,by rw[r1.none_iff]; rfl,q1⟩)
def wr {j pos'} (ha:PE X a ta):PC X .IsNot a (.Constant .none j pos') (Dr ta):=by intro pins s σ H Q I h;refine aO (ha pins s σ H _ I h) λv s1 ⟨x,H1,I1,r1,q1⟩=>?_;exact Constant_none (isnot_none_gen ⟨.bl _,H1,I1,by rw[r1.none_iff]; rfl,q1⟩)
def tB (t:TE):TT:=λσ H Q=>t σ H λx H1=>∃c,x=.bl c/\Q c H1
def oV {t:TE} (h:PC X op a b t) (h1:behindInMarks op b=false:=by first|exact C9 _ (by decide) (by decide)|rfl):PT X (.Compare a [op] [b] pos) (tB t):=by intro pins s σ H Q I hw;refine Lx (aO (h pins s σ H _ I hw) λv s1 h1=>aO h1 λu s2 h2=>aO h2 λc s3 ⟨x,H1,I1,r1,q1⟩=>?_) h1;obtain⟨d,rfl,q⟩:=q1;cases r1;exact Kr ⟨H1,I1,q⟩
variable {tA tB':TT} {rest:List Expr}
def GV (t u:TT):TT:=λσ H Q=>t σ H λc H1=>if c=true then u σ H1 Q else Q false H1
def tOr (t u:TT):TT:=λσ H Q=>t σ H λc H1=>if c=true then Q true H1 else u σ H1 Q
def Bc (t:TT):TT:=λσ H Q=>t σ H λc H1=>Q (!c) H1
def gI (ha:PT X a tA):PW X (.BoolOp .And [a] pos) tA:=by
 intro wh pins s σ H Q I h;refine isTrue_and (aO (ha pins s σ H Q I h) λc s1 e=>?_);cases c with
 | true=>exact isTrue_and_nil e
 | false=>exact e
def qh (ha:PT X a tA):PW X (.BoolOp .Or [a] pos) tA:=by
 intro wh pins s σ H Q I h;refine isTrue_or (aO (ha pins s σ H Q I h) λc s1 e=>?_);cases c with
 | false=>exact isTrue_or_nil e
 | true=>exact e
def fi (ha:PT X a tA) (hb:PW X (.BoolOp .And (b :: rest) pos) tB'):PW X (.BoolOp .And (a :: b :: rest) pos) (GV tA tB'):=by
 intro wh pins s σ H Q I h;refine isTrue_and (aO (ha pins s σ H _ I h) λc s1 ⟨H1,I1,q1⟩=>?_);cases c with
 | true=>exact hb wh pins s1 σ H1 Q I1 q1
 | false=>exact⟨H1,I1,q1⟩
def qY (ha:PT X a tA) (hb:PW X (.BoolOp .Or (b :: rest) pos) tB'):PW X (.BoolOp .Or (a :: b :: rest) pos) (tOr tA tB'):=by
 intro wh pins s σ H Q I h;refine isTrue_or (aO (ha pins s σ H _ I h) λc s1 ⟨H1,I1,q1⟩=>?_);cases c with
 | true=>exact⟨H1,I1,q1⟩
 | false=>exact hb wh pins s1 σ H1 Q I1 q1
def r9 (ha:PT X a tA):PT X (.UnaryOp .Not a pos) (Bc tA):=by intro pins s σ H Q I h;exact isTrue_not (ha pins s σ H (λc H1=>Q (!c) H1) I h)
def Ix (ta tb:TE):TE:=λσ H Q=>ta σ H λx H1=>∃c,x=.bl c/\if c=true then tb σ H1 Q else Q (.bl false) H1
def Dv (ta:TE):TE:=λσ H Q=>ta σ H λx H1=>∃c,x=.bl c/\Q (.bl (!c)) H1
def pU {op} {t:TE} (h:PE X a t):PE X (.BoolOp op [a] pos) t:=λpins s σ H Q I hw=>BoolOp_one (h pins s σ H Q I hw)
def oR (ha:PE X a ta) (hb:PE X (.BoolOp .And (b :: rest) pos) tb):PE X (.BoolOp .And (a :: b :: rest) pos) (Ix ta tb):=by
 intro pins s σ H Q I h;refine BoolOp_and (aO (ha pins s σ H _ I h) λv s1 ⟨x,H1,I1,r1,q1⟩=>?_);obtain⟨c,rfl,q1⟩:=q1;cases r1;refine Kr ?_;cases c with
 | true=>exact hb pins s1 σ H1 Q I1 q1
 | false=>exact⟨.bl false,H1,I1,rfl,q1⟩
def D7 (ha:PE X a ta):PE X (.UnaryOp .Not a pos) (Dv ta):=by intro pins s σ H Q I h;refine UnaryOp_ (aO (ha pins s σ H _ I h) λv s1 ⟨x,H1,I1,r1,q1⟩=>?_);obtain⟨c,rfl,q1⟩:=q1;cases r1;exact not_of (Kr ⟨.bl (!c),H1,I1,rfl,q1⟩)
def tIf (t:TT) (ta tb:TE):TE:=λσ H Q=>t σ H λc H1=>if c=true then ta σ H1 Q else tb σ H1 Q
def xY {c:Expr} (hc:PT X c tA) (ha:PE X a ta) (hb:PE X b tb):PE X (.IfExp c a b pos) (tIf tA ta tb):=by
 intro pins s σ H Q I h;refine wpAny_IfExp (aO (hc pins s σ H _ I h) λd s1 ⟨H1,I1,q1⟩=>?_);cases d with
 | true=>exact ha pins s1 σ H1 Q I1 q1
 | false=>exact hb pins s1 σ H1 Q I1 q1
end
def aG (K:W.Frag) (H:Hp) (a:Addr) (xs:List V):Prop :=
 Rd H a (.lst xs) \/
   ∃(o:Obj) (its:Array Value) (n:Nat),K.lookup a=some o/\o.cls=.type "list"/\o.dict=none/\o.data=.seq its n/\its.size<=sizeLine/\aT xs its.toList
def aI (K:W.Frag) (H:Hp) (a:Addr) (xs:List V):Prop :=
 Rd H a (.tup xs) \/
   ∃(o:Obj) (its:Array Value) (n:Nat),K.lookup a=some o/\o.cls=.type "tuple"/\o.data=.seq its n/\its.size<=sizeLine/\aT xs its.toList
def DS:Value->Option V
 | .none=>some .non
 | .bool b=>some (.bl b)
 | .int i _=>some (.int i)
 | .str x _=>some (.str x)
 | .bytes b _=>some (.byt b)
 | .float b _=>some (.flt b)
 | .ref a=>some (.ref a)
 | .type n=>some (.ty n)
 | _=>none
def aX.abs {x:V} (r:aX x u):DS u=some x:=by
 cases x with
 | non=>cases r; rfl
 | bl _=>cases r; rfl
 | int _=>obtain⟨t,rfl⟩:=r; rfl
 | str _=>obtain⟨t,rfl⟩:=r; rfl
 | byt _=>obtain⟨t,rfl⟩:=r; rfl
 | flt _=>obtain⟨t,rfl⟩:=r; rfl
 | ref _=>cases r; rfl
 | ty _=>cases r; rfl
def aX.inj {x y:V} {u:Value} (r:aX x u) (q:aX y u):x=y:=Option.some.inj (r.abs.symm.trans q.abs)
theorem aT.inj:∀{xs ys:List V} {us:List Value},aT xs us->aT ys us->xs=ys
 | _,_,_,.nil,.nil=>rfl
 | _,_,_,.cons r t,.cons r' t'=>by rw[r.inj r',aT.inj t t']
variable {K:W.Frag}
section
variable {X:Cx} {pins:List (Addr×Obj)} {σ:St} {H:Hp} {s:Shared} {a:Addr} {xs ys:List V}
def aG.of (h:H a=some (.lst xs)):aG K H a xs:=.inl (.inl h)
def aI.of (h:H a=some (.tup xs)):aI K H a xs:=.inl (.inl h)
def Inv.list (I:Inv X pins σ H s) (h:aG X.K H a xs):∃its:List Value,aT xs its/\PlainL s.heap a its.toArray/\xs.length<=sizeLine:=by
 rcases h with h|⟨o,its,n,hk,hc,hd,hs,hz,r⟩
 . obtain⟨z,its,n,r,e⟩:=h.ok I.hok;exact⟨its,r,⟨_,n,e,rfl,rfl,rfl⟩,z⟩
 . refine⟨its.toList,r,⟨o,n,I.kIn a o hk,hc,hd,by simpa using hs⟩,?_⟩;have e:=r.length;simp only[Array.length_toList] at e;omega
def Inv.tuple (I:Inv X pins σ H s) (h:aI X.K H a xs):∃its:List Value,aT xs its/\IsTup s.heap a its.toArray/\xs.length<=sizeLine:=by
 rcases h with h|⟨o,its,n,hk,hc,hs,hz,r⟩
 . obtain⟨z,its,r,p⟩:=h.ok I.hok;exact⟨its,r,p,z⟩
 . refine⟨its.toList,r,⟨o,I.kIn a o hk,hc,n,by simpa using hs⟩,?_⟩;have e:=r.length;simp only[Array.length_toList] at e;omega
def Inv.list_inj (I:Inv X pins σ H s) (h:aG X.K H a xs) (h':aG X.K H a ys):xs=ys:=by
 obtain⟨its,r,⟨o,n,e,_,_,d⟩,_⟩:=I.list h;obtain⟨its',r',⟨o',n',e',_,_,d'⟩,_⟩:=I.list h';rw[e] at e'; cases e';rw[d] at d';injection d' with d1 _
 have:its=its':=by simpa using Jt Array.toList d1
 subst this;exact r.inj r'
def Inv.tuple_inj (I:Inv X pins σ H s) (h:aI X.K H a xs) (h':aI X.K H a ys):xs=ys:=by
 obtain⟨its,r,⟨o,e,_,n,d⟩,_⟩:=I.tuple h;obtain⟨its',r',⟨o',e',_,n',d'⟩,_⟩:=I.tuple h';rw[e] at e'; cases e';rw[d] at d';injection d' with d1 _
 have:its=its':=by simpa using Jt Array.toList d1
 subst this;exact r.inj r'
end
abbrev Cx.wish (X:Cx) (E:Value->Shared->Prop):Cx:={ X with xe:=E }
abbrev Cx.nox (X:Cx):Cx:=X.wish λ_ _=>False
variable {X:Cx}
def Cx.Ok.wish (ok:X.Ok) (E:Value->Shared->Prop):(X.wish E).Ok :=
 ⟨ok.mod,ok.kind,ok.glob,ok.blt,ok.above,ok.inj,ok.has,ok.cab,ok.hd,ok.frames,ok.stk,ok.exf,ok.bs,ok.bsz,ok.noex,ok.exfs,ok.funs,ok.frf⟩
def Cx.Ok.unwish (ok:(X.wish E).Ok):X.Ok :=
 ⟨ok.mod,ok.kind,ok.glob,ok.blt,ok.above,ok.inj,ok.has,ok.cab,ok.hd,ok.frames,ok.stk,ok.exf,ok.bs,ok.bsz,ok.noex,ok.exfs,ok.funs,ok.frf⟩
section
variable {X:Cx} {pins:List (Addr×Obj)} {σ:St} {H:Hp} {s:Shared} {E:Value->Shared->Prop}
def Inv.wish (I:Inv X pins σ H s) (E:Value->Shared->Prop):Inv (X.wish E) pins σ H s:=⟨I.ok.wish E,I.os,I.bare,I.base,I.loc,I.cell,I.free,I.freeC,I.pin,I.hok,I.len⟩
def Inv.unwish (I:Inv (X.wish E) pins σ H s):Inv X pins σ H s:=⟨I.ok.unwish,I.os,I.bare,I.base,I.loc,I.cell,I.free,I.freeC,I.pin,I.hok,I.len⟩
def SP.unwish {D:cS} {f:Flow} {s':Shared} (h:SP (X.wish E) pins D f s'):SP X pins D f s':=by
 cases f with
 | next=>obtain⟨σ',H',I,q⟩:=h; exact⟨σ',H',I.unwish,q⟩
 | brk=>obtain⟨σ',H',I,q⟩:=h; exact⟨σ',H',I.unwish,q⟩
 | cont=>obtain⟨σ',H',I,q⟩:=h; exact⟨σ',H',I.unwish,q⟩
 | ret u=>obtain⟨v,σ',H',I,r,q⟩:=h; exact⟨v,σ',H',I.unwish,r,q⟩
def bD.nox {st:List Stmt} {t:TS} (h:bD X.nox st t):bD X st t:=λpins s σ H D I hw =>
 Kk (h pins s σ H D (I.wish _) hw) (λ_ _ q=>q.unwish) λ_ _ z=>False.elim z
end
section
variable {X:Cx} {st:Stmt} {rest:List Stmt} {t u:TS} {e:Expr} {te:TE} {pos:Pos}
def vV:TS:=λD σ H=>D.nx σ H
def rf (t u:TS):TS:=λD σ H=>t { D with nx:=u D } σ H
def au:bD X [] vV:=λ_ _ σ H _ I h=>LO ⟨σ,H,I,h⟩
def aH (h1:PS X st t) (h2:bD X rest u):bD X (st :: rest) (rf t u):=by
 intro pins s σ H D I h;refine Lu (aO (h1 pins s σ H { D with nx:=u D } I h) λf s1 q=>?_);cases f with
 | next =>
   obtain⟨σ',H',I',q⟩:=q;exact h2 pins s1 σ' H' D I' q
 | ret v=>exact q
 | brk=>exact q
 | cont=>exact q
def aJ (h1:PS X st t):bD X [st] t:=by
 intro pins s σ H D I h;refine Lu (aO (h1 pins s σ H D I h) λf s1 q=>?_);cases f with
 | next=>exact LO q
 | ret v=>exact q
 | brk=>exact q
 | cont=>exact q
def Inv.quiet (I:Inv X pins σ H s):interactive X.env=false:=by simp [interactive,I.ok.kind]
def Ic (te:TE):TS:=λD σ H=>te σ H λ_ H1=>D.nx σ H1
def cj (he:PE X e te) (hs:swapsWith e none pos.line X.env=pure false:=by rfl):PS X (.Expr e pos) (Ic te):=by intro pins s σ H D I h;exact wpAny_Expr_any (aO (he pins s σ H _ I h) λv s1 ⟨x,H1,I1,r1,q1⟩=>⟨σ,H1,I1,q1⟩) I.quiet hs
def wL (te:TE):TS:=λD σ H=>te σ H D.rt
def aZ (he:PE X e te):PS X (.Return (some e) pos) (wL te):=by intro pins s σ H D I h;exact wpAny_Return_some (aO (he pins s σ H _ I h) λv s1 ⟨x,H1,I1,r1,q1⟩=>⟨x,σ,H1,I1,r1,q1⟩)
def wj (c:TT) (t u:TS):TS:=λD σ H=>c σ H λb H1=>if b=true then t D σ H1 else u D σ H1
def ae {c:Expr} {a b:List Stmt} {tc:TT} (hc:PT X c tc) (ha:bD X a t) (hb:bD X b u):PS X (.If c a b pos) (wj tc t u):=by
 intro pins s σ H D I h;refine wpAny_If (aO (hc pins s σ H _ I h) λd s1 ⟨H1,I1,q1⟩=>?_);cases d with
 | true=>exact ha pins s1 σ H1 D I1 q1
 | false=>exact hb pins s1 σ H1 D I1 q1
end
abbrev TG:=V->St->Hp->(St->Hp->Prop)->Prop
abbrev iA:=List V->St->Hp->(St->Hp->Prop)->Prop
def PG (X:Cx) (target:Expr) (t:TG):Prop :=
 ∀(pins:List (Addr×Obj)) (s:Shared) (σ:St) (H:Hp) (v:V) (u:Value) (Q:St->Hp->Prop),Inv X pins σ H s->aX v u->t v σ H Q ->
   wpAny (model X.prog X.w) X.A (assign target X.env u) (λ_ s'=>∃σ' H',Inv X pins σ' H' s'/\Q σ' H') X.xe s
def oS (X:Cx) (ts:List Expr) (t:iA):Prop :=
 ∀(pins:List (Addr×Obj)) (s:Shared) (σ:St) (H:Hp) (vs:List V) (us:List Value) (Q:St->Hp->Prop),Inv X pins σ H s->aT vs us->t vs σ H Q ->
   wpAny (model X.prog X.w) X.A (assignInOrder ((assignEach ts X.env).map (·.2)) us) (λ_ s'=>∃σ' H',Inv X pins σ' H' s'/\Q σ' H') X.xe s
abbrev qq:=V->V->V->Hp->(Hp->Prop)->Prop
def uU (X:Cx) (t:qq):Prop :=
 ∀(pins:List (Addr×Obj)) (s:Shared) (σ:St) (H:Hp) (o i v:V) (ov iv u:Value) (Q:Hp->Prop),Inv X pins σ H s->aX o ov->aX i iv->aX v u->t o i v H Q ->
   wpAny (model X.prog X.w) X.A (setItem ov iv u) (λ_ s'=>∃H',Inv X pins σ H' s'/\Q H') X.xe s
abbrev pX:=V->V->Hp->VK->Prop
def PIp (X:Cx) (op:Operator) (t:pX):Prop :=
 ∀(pins:List (Addr×Obj)) (s:Shared) (σ:St) (H:Hp) (x y:V) (v u:Value) (Q:VK),Inv X pins σ H s->aX x v->aX y u->t x y H Q ->
   wpAny (model X.prog X.w) X.A (inplaceOp op v u) (EP X pins σ Q) X.xe s
variable {e tg:Expr} {te:TE} {g:TG}
section
variable {X:Cx} {pos:Pos}
def jY (i:Nat):TG:=λv σ H Q=>Q (σ.set i (some v)) H
def ag (hN:X.N.Nodup) (hi:X.N[i]?=some x) (hx:ko X.env.scope x) (hf:X.fn x=true\/X.env.scope.names.lookup x=some .local:=by first|exact .inl rfl|exact .inr rfl|assumption):PG X (.Name x pos) (jY i):=by intro pins s σ H v u Q I r h;exact wpAny_assign_Name (nL I hN hi hx r (λs' I'=>⟨_,H,I',h⟩) hf)
def yJ:iA:=λvs σ H Q=>vs=[]/\Q σ H
def uk (t:TG) (u:iA):iA:=λvs σ H Q=>∃v r,vs=v :: r/\t v σ H λσ' H'=>u r σ' H' Q
def fH:oS X [] yJ:=by intro pins s σ H vs us Q I r h;obtain⟨e,h⟩:=h;subst e;cases r;exact assignInOrder_nil ⟨σ,H,I,h⟩
theorem cC {es:List Expr} {t:TG} {u:iA} (h1:PG X e t) (h2:oS X es u)
   (hs:(assignEach (e :: es) X.env).map (·.2)=assign e X.env :: (assignEach es X.env).map (·.2):=by rfl):oS X (e :: es) (uk t u):=by
 intro pins s σ H vs us Q I r h;obtain⟨v,vr,e1,h⟩:=h;subst e1;cases r with
 | cons r rr =>
   rw[hs];refine assignInOrder_cons (aO (h1 pins s σ H _ _ _ I r h) λ_ s1 ⟨σ1,H1,I1,q1⟩=>?_);exact h2 pins s1 σ1 H1 _ _ Q I1 rr q1
def pJ (K:W.Frag) (n:Nat) (t:iA):TG:=λv σ H Q=>∃a xs,v=.ref a/\aI K H a xs/\xs.length=n/\t xs σ H Q
theorem fL {es:List Expr} {k:Nat} {t:iA} {n:Nat} (hc:X.calm=true) (h:oS X es t)
   (hn:(assignEach es X.env).length=n:=by rfl) (hst:(assignEach es X.env).findIdx? (·.1)=none:=by rfl):PG X (.Tuple es k pos) (pJ X.K n t):=by
 intro pins s σ H v u Q I r hw;obtain⟨a,xs,e1,hq,hl,hw⟩:=hw;subst e1;cases r;obtain⟨its,rv,ht,hz⟩:=I.tuple hq;refine assign_Tuple_tuple (I.ok.hd hc) ht (by simp [hn,<- hl,rv.length]) hst λh' hx=>?_;have I1:Inv X pins σ H { s with heap:=h' }:=I.kept (t':=s.toks) λb o e=>hx b o (K4 (Ji e)) e;exact h pins _ σ H xs _ Q I1 (by simpa using rv) hw
def IH (to ti:TE) (t:qq):TG:=λv σ H Q=>to σ H λo H1=>ti σ H1 λi H2=>t o i v H2 λH3=>Q σ H3
theorem j1 {o i:Expr} {to ti:TE} {t:qq} (ho:PE X o to) (hi:PE X i ti) (hs:uU X t)
   (ha:∀v,assign (.Subscript o i pos) X.env v=(do
     let ov <- holding [v] (eval o X.env)
     let iv <- holding [v,ov] (eval i X.env)
     standAt pos
     holding [v,ov,iv] (setItem ov iv v)
     release [v,ov,iv] []):=by intro _; rfl):PG X (.Subscript o i pos) (IH to ti t):=by
 intro pins s σ H v u Q I r h;rw[ha];refine JT (Kt (aO (ho pins s σ H _ I h) λov s1 ⟨x,H1,I1,r1,q1⟩=>?_));refine JT (Kt (aO (hi pins s1 σ H1 _ I1 q1) λiv s2 ⟨y,H2,I2,r2,q2⟩=>?_));refine JT (Lb (JT (Kt (aO (hs pins s2 σ H2 x y v ov iv u _ I2 r1 r2 r q2) λ_ s3 ⟨H3,I3,q3⟩=>?_))));exact wpAny_release ⟨σ,H3,I3,q3⟩
def tL (te:TE) (g:TG):TS:=λD σ H=>te σ H λx H1=>g x σ H1 D.nx
def gX (he:PE X e te) (hg:PG X tg g) (hs:swapsWithSole [tg] e pos.line X.env=pure false:=by rfl) (hw:swappedStores [tg] e X.env=pure none:=by rfl)
   (h1:(assignEach [tg] X.env).map (·.2)=[assign tg X.env]:=by rfl):PS X (.Assign [tg] e pos) (tL te g):=by
 intro pins s σ H D I h;refine wpAny_Assign_stores (aO (he pins s σ H _ I h) λv s1 ⟨x,H1,I1,r1,q1⟩=>?_) hs hw;rw[h1];exact aO (hg pins s1 σ H1 x v _ I1 r1 q1) λ_ s2 q=>q
def aR {i:Nat} {x:Str} {e:Expr} {te:TE} {pos':Pos} (hN:X.N.Nodup) (hi:X.N[i]?=some x) (hx:ko X.env.scope x) (he:PE X e te) (hs:swapsWith e (some (.Name x pos')) pos.line X.env=pure false:=by rfl) (hf:X.fn x=true\/X.env.scope.names.lookup x=some .local:=by first|exact .inl rfl|exact .inr rfl|assumption) :
   PS X (.Assign [.Name x pos'] e pos) (tL te (jY i)):=by
 intro pins s σ H D I h;refine wpAny_Assign_Name (aO (he pins s σ H _ I h) λv s1 ⟨y,H1,I1,r1,q1⟩=>?_) hs;exact nL I1 hN hi hx r1 (λs2 I2=>⟨_,H1,I2,q1⟩) hf
def EH (i:Nat) (te:TE) (ti:pX):TS:=λD σ H=>∃x,σ[i]?=some (some x)/\te σ H λy H1=>ti x y H1 λz H2=>D.nx (σ.set i (some z)) H2
def F5 {op:Operator} {ti:pX} {pos':Pos} (hN:X.N.Nodup) (hi:X.N[i]?=some x) (hx:ko X.env.scope x) (he:PE X e te) (ho:PIp X op ti) (hf:X.fn x=true\/X.env.scope.names.lookup x=some .local:=by first|exact .inl rfl|exact .inr rfl|assumption) :
   PS X (.AugAssign (.Name x pos') op e pos) (EH i te ti):=by
 intro pins s σ H D I h;obtain⟨v,e1,h⟩:=h;obtain⟨m,hn,hl⟩:=I.loc;have vis:lE X.env.scope x:=by rcases hx with k|k; exact .inl k; exact .inr (.inl k)
 obtain⟨u,r,l⟩:=hl i x v hi e1 vis;refine wpAny_AugAssign_Name ?_;have go:wpAny (model X.prog X.w) X.A (eval e X.env) (λw s₂=>wpAny (model X.prog X.w) X.A (inplaceOp op u w) (λr s₃=>wpAny (model X.prog X.w) X.A (storeName X.env x r) (λ_=>SP X pins D .next) X.xe s₃) X.xe s₂) X.xe s:=by refine aO (he pins s σ H _ I h) λw s1 ⟨y,H1,I1,r1,q1⟩=>?_;refine aO (ho pins s1 σ H1 v y u w _ I1 r r1 q1) λz s2 ⟨zv,H2,I2,r2,q2⟩=>?_;exact nL I2 hN hi hx r2 (λs3 I3=>⟨_,H2,I3,q2⟩) hf
 rcases l with⟨hk,hm⟩|⟨hk,c,hc,hcell⟩
 . exact wpAny_loadName_local I.ok.kind hk hn hm go
 . rcases hk with hk|hk
   . exact wpAny_loadName_cell I.ok.kind hk hc hcell go
   . rcases hx with k|k
     . have:X.env.scope.names.lookup x=some .free:=hk;rw[k] at this; cases this
     . have:X.env.scope.names.lookup x=some .free:=hk;rw[k] at this; cases this
def ipI (f:Int->Int->Int):pX:=λx y H Q=>∃i j,x=.int i/\y=.int j/\Q (.int (f i j)) H
def wN:PIp X .Add (ipI λi j=>i+j):=by intro pins s σ H x y v u Q I r1 r2 h;obtain⟨i,j,e1,e2,q⟩:=h;subst e1; subst e2;obtain⟨t,rfl⟩:=r1;obtain⟨t',rfl⟩:=r2;exact iadd_int ⟨.int _,H,I.tok _,⟨_,rfl⟩,q⟩
end
variable {tb:TS}
section
variable {X:Cx} {pos:Pos}
def uM (c:TT) (tb:TS):TS:=λD σ H=>∃W:Nat->St->Hp->Prop,(∃m,W m σ H)/\∀m σ H,W m σ H ->
 c σ H λb H1=>if b=true then ∃N:St->Hp->Prop,(∀σ' H',N σ' H'->∃m',m'<m/\W m' σ' H')/\tb { D with nx:=N,ct:=N,bk:=D.nx } σ H1 else D.nx σ H1
def sw {c:Expr} {body:List Stmt} {tc:TT} (hp:PassesOwn (model X.prog X.w) X.A X.env X.xe) (hc:PT X c tc) (hb:bD X body tb):PS X (.While c body [] pos) (uM tc tb):=by
 intro pins s σ H D I h;obtain⟨W,⟨m0,w0⟩,turn⟩:=h;refine wpAny_While (codeAny_whileLoop (λn s'=>∃σ' H',Inv X pins σ' H' s'/\W n σ' H') ?_ m0 ⟨σ,H,I,w0⟩);rintro n s1 ⟨σ1,H1,I1,w1⟩;refine LD hp (aO (hc pins s1 σ1 H1 _ I1 (turn n σ1 H1 w1)) λb s2 ⟨H2,I2,q2⟩=>?_);cases b with
 | true =>
   obtain⟨N,hN,q2⟩:=q2;rw[Je rfl];refine LD hp (aO (hb pins s2 σ1 H2 _ I2 q2) λf s3 q3=>?_);cases f with
   | next =>
     obtain⟨σ3,H3,I3,n3⟩:=q3;obtain⟨m',hm,w3⟩:=hN σ3 H3 n3;exact⟨m',hm,σ3,H3,I3,w3⟩
   | cont =>
     obtain⟨σ3,H3,I3,n3⟩:=q3;obtain⟨m',hm,w3⟩:=hN σ3 H3 n3;exact⟨m',hm,σ3,H3,I3,w3⟩
   | brk=>exact q3
   | ret v=>exact q3
 | false =>
   rw[Ja Jj];exact LO ⟨σ1,H2,I2,q2⟩
end
structure It where
 go:Nat->Hp->Prop
 yld:Nat->Hp->V->Hp->Prop
 stop:Nat->Hp->Prop
def eW (X:Cx) (pins:List (Addr×Obj)) (H:Hp) (b:Addr):Prop :=
 H b=none/\b≠X.env.locals/\b ∉ X.fs/\(b∈X.ex\/X.s₀.heap.objs.size<=b)/\(∀x c,X.env.cells.lookup x=some c->c≠b)/\∀p∈X.pn++pins,p.1≠b
def Inv.fpOk {H':Hp}(I:Inv X pins σ H s) (hb:s.heap.objs.size<=b) (hn:H' b=none):eW X pins H' b:=by
 refine⟨hn,LA (Jo I.lt hb),I.nofs hb,.inr (K0 I.sz hb),λx c e z=>?_,λp hp z=>?_⟩
 . obtain⟨v,q⟩:=I.cell x c e;exact absurd (Jo q.lt (by rw[z]; exact hb)) (KL _)
 . exact absurd (Jo (Ji (I.pin p hp).1) (by rw[z]; exact hb)) (KL _)
structure Turn (P:Program) (w:World) (K:W.Frag) (tg:Expr) (J:It) (fp:List Addr) (it:Addr) (tn:Nat->Heap->Prop):Prop where
 mem:it∈fp
 obj:∀i h,tn i h->∀b∈fp,∃o,h.get? b=some o/\∀v,o.data≠.cell v
 keep:∀i h h',tn i h->(∀b∈fp,∀o,h.get? b=some o->h'.get? b=some o)->tn i h'
 item:∀(X:Cx),X.prog=P->X.w=w->X.K=K->X.calm=true->∀(i:Nat) (pins:List (Addr×Obj)) (s:Shared) (σ:St) (H:Hp) (E:Value->Shared->Prop),Inv X pins σ H s->(∀b∈fp,eW X pins H b)->tn i s.heap->J.go i H ->
   wpAny (model P w) X.A (pyNext (.ref it)) (λr s1=>∃u,r=some u /\
     wpAny (model P w) X.A (letOwnedTupleGo tg (.ref it) u) (λ_ s2=>∃x H',Inv X pins σ H' s2/\aX x u/\J.yld i H x H'/\tn (i+1) s2.heap/\∀b∈fp,H' b=none) E s1) E s
 done:∀(X:Cx),X.prog=P->X.w=w->X.K=K->X.calm=true->∀(i:Nat) (pins:List (Addr×Obj)) (s:Shared) (σ:St) (H:Hp) (E:Value->Shared->Prop),Inv X pins σ H s->(∀b∈fp,eW X pins H b)->tn i s.heap->J.stop i H ->
   wpAny (model P w) X.A (pyNext (.ref it)) (λr s1=>r=none/\Inv X pins σ H s1) E s
 self:∀(A:Around) (i:Nat) (s:Shared) (Q:Value->Shared->Prop) (E:Value->Shared->Prop),tn i s.heap->Q (.ref it) s->wpAny (model P w) A (pyIter (.ref it)) Q E s
abbrev TI:=St->Hp->(It->Hp->Prop)->Prop
def PIE (X:Cx) (pins:List (Addr×Obj)) (σ:St) (tg:Expr) (R:It->Hp->Prop) (itv:Value) (s2:Shared):Prop :=
 ∃(it:Addr) (fp:List Addr) (tn:Nat->Heap->Prop) (J:It) (H':Hp),itv=.ref it/\Inv X pins σ H' s2/\Turn X.prog X.w X.K tg J fp it tn/\tn 0 s2.heap/\(∀b∈fp,eW X pins H' b)/\R J H'
def PI (X:Cx) (tg iter:Expr) (wi:TI):Prop :=
 ∀(pins:List (Addr×Obj)) (s:Shared) (σ:St) (H:Hp) (R:It->Hp->Prop),Inv X pins σ H s->wi σ H R ->
   wpAny (model X.prog X.w) X.A (eval iter X.env) (λv s1=>wpAny (model X.prog X.w) X.A (pyIter v) (PIE X pins σ tg R) X.xe s1) X.xe s
theorem mh {it:Addr} {o:Obj} {n:String} {vs:Array Value} {Q:Unit->Shared->Prop} (ho:s.heap.get? it=some o) (hc:o.cls=.type n) (hd:o.data=.fields vs)
   (hn:["enumerate","zip","dict_itemiterator","dict_reverseitemiterator","odict_iterator","itertools.zip_longest","itertools.pairwise"].contains n=false) (hQ:Q () s):wpAny M A (letOwnedTupleGo tg (.ref it) u) Q E s:=by
 unfold letOwnedTupleGo;cases tg <;> first
   | exact Jh hQ
   | (cases u <;> first
       | exact Jh hQ
       | (refine JT (wpAny_load ho ?_)
          rw[hc,hd];show wpAny M A (if(["enumerate","zip","dict_itemiterator","dict_reverseitemiterator","odict_iterator","itertools.zip_longest","itertools.pairwise"].contains n&&vs[0]?==some (rawInt _))=true then _ else _) Q E s;rw[Ja (by intro h; rw[hn,Bool.false_and] at h; cases h)];exact Jh hQ))
def jj (K:W.Frag) (a:Addr):It :=
 ⟨λi H=>∃xs x,aG K H a xs/\xs[i]?=some x,λi H x H'=>H'=H/\∀xs,aG K H a xs->xs[i]?=some x,λi H=>∃xs,aG K H a xs/\xs.length<=i⟩
def km (K:W.Frag) (a:Addr):It :=
 ⟨λi H=>∃xs x,aI K H a xs/\xs[i]?=some x,λi H x H'=>H'=H/\∀xs,aI K H a xs->xs[i]?=some x,λi H=>∃xs,aI K H a xs/\xs.length<=i⟩
def jp (lo:Int) (n:Nat):It:=⟨λi _=>i<n,λi H x H'=>H'=H/\x=.int (lo+i),λi _=>n<=i⟩
theorem Eh (a it:Addr):Turn P w K tg (jj K a) [it] it (λi h=>h.IsListIter it a i) where
 mem:=by simp
 obj:=λi h st b hb=>by
   have e:b=it:=by simpa using hb
   subst e;obtain⟨o,e,c,d⟩:=st;exact⟨o,e,λv z=>by rw[d] at z; cases z⟩
 keep:=λi h h' st k=>st.at λo e=>k it (by simp) o e
 item:=by intro X hP hw hK hc i pins s σ H E I hf st hg;subst hP hw hK;obtain⟨xs,x,hq,hx⟩:=hg;obtain⟨its,rv,p,hz⟩:=I.list hq;obtain⟨u,hu,ru⟩:=rv.get hx;obtain⟨f0,f1,f2,f3,f4,f5⟩:=hf it (by simp);refine wpAny_pyNext_list_item st p.isList (x:=u) (by simpa using hu) λh' st' sb=>?_;have I1:Inv X pins σ H { s with heap:=h' }:=I.turned (t':=s.toks) (λb o hb e=>(sb.2 b hb).trans e) f0 f1 f3 f4 f5;obtain⟨o,e,c,d⟩:=id st';exact⟨u,rfl,mh (s:={ s with heap:=h' }) e c d (by decide) ⟨x,H,I1,ru,⟨rfl,λys hy=>by rw[I.list_inj hy hq]; exact hx⟩,st',λb hb=>(hf b hb).1⟩⟩
 done:=by intro X hP hw hK hc i pins s σ H E I hf st hg;subst hP hw hK;obtain⟨xs,hq,hx⟩:=hg;obtain⟨its,rv,p,hz⟩:=I.list hq;obtain⟨f0,f1,f2,f3,f4,f5⟩:=hf it (by simp);have hl:=rv.length;exact wpAny_pyNext_list_end (I.ok.hd hc) st p.isList (by simp; omega) λh' eb=>⟨rfl,I.turned (t':=s.toks) (λb o hb e=>eb b o hb e) f0 f1 f3 f4 f5⟩
 self:=λ_ _ _ _ _ st h=>wpAny_pyIter_listiter st h
theorem CN (a it:Addr):Turn P w K tg (km K a) [it] it (λi h=>h.IsTupleIter it a i) where
 mem:=by simp
 obj:=λi h st b hb=>by
   have e:b=it:=by simpa using hb
   subst e;obtain⟨o,e,c,d⟩:=st;exact⟨o,e,λv z=>by rw[d] at z; cases z⟩
 keep:=λi h h' st k=>st.at λo e=>k it (by simp) o e
 item:=by intro X hP hw hK hc i pins s σ H E I hf st hg;subst hP hw hK;obtain⟨xs,x,hq,hx⟩:=hg;obtain⟨its,rv,p,hz⟩:=I.tuple hq;obtain⟨u,hu,ru⟩:=rv.get hx;obtain⟨f0,f1,f2,f3,f4,f5⟩:=hf it (by simp);refine wpAny_pyNext_tuple_item st (show s.heap.IsTuple a its.toArray from p) (x:=u) (by simpa using hu) λh' st' sb=>?_;have I1:Inv X pins σ H { s with heap:=h' }:=I.turned (t':=s.toks) (λb o hb e=>(sb.2 b hb).trans e) f0 f1 f3 f4 f5;obtain⟨o,e,c,d⟩:=id st';exact⟨u,rfl,mh (s:={ s with heap:=h' }) e c d (by decide) ⟨x,H,I1,ru,⟨rfl,λys hy=>by rw[I.tuple_inj hy hq]; exact hx⟩,st',λb hb=>(hf b hb).1⟩⟩
 done:=by intro X hP hw hK hc i pins s σ H E I hf st hg;subst hP hw hK;obtain⟨xs,hq,hx⟩:=hg;obtain⟨its,rv,p,hz⟩:=I.tuple hq;obtain⟨f0,f1,f2,f3,f4,f5⟩:=hf it (by simp);have hl:=rv.length;exact wpAny_pyNext_tuple_end (I.ok.hd hc) st (show s.heap.IsTuple a its.toArray from p) (by simp; omega) λh' eb=>⟨rfl,I.turned (t':=s.toks) (λb o hb e=>eb b o hb e) f0 f1 f3 f4 f5⟩
 self:=λ_ _ _ _ _ st h=>wpAny_pyIter_tupleiter st h
theorem Bj (it:Addr) (lo:Int) (n:Nat):Turn P w K tg (jp lo n) [it] it (λi h=>IsRangeIter h it (lo+(i:Nat) * 1) ((n:Int) - (i:Nat)) 1) where
 mem:=by simp
 obj:=λi h st b hb=>by
   have e:b=it:=by simpa using hb
   subst e;exact⟨_,st,λv z=>by have z':Data.fields _=Data.cell v:=z;cases z'⟩
 keep:=λi h h' st k=>k it (by simp) _ st
 item:=by intro X hP hw hK hc i pins s σ H E I hf st hg;subst hP hw hK;obtain⟨f0,f1,f2,f3,f4,f5⟩:=hf it (by simp);have W:=Walks.range (prog:=X.prog) (w:=X.w) (I.ok.hd hc) it lo 1 n;refine W.item i s _ _ hg st λv h' tk hv st' kk=>?_;obtain⟨t,rfl⟩:=hv;have I1:Inv X pins σ H { s with heap:=h',toks:=tk }:=I.turned (λb o hb e=>kk b o (by simpa using hb) e) f0 f1 f3 f4 f5;refine⟨_,rfl,mh (s:={ s with heap:=h',toks:=tk }) (n:="range_iterator") st' rfl rfl (by decide) ⟨.int (lo+i),H,I1,⟨t,?_⟩,⟨rfl,rfl⟩,st',λb hb=>(hf b hb).1⟩⟩;rw[Int.mul_one]
 done:=by intro X hP hw hK hc i pins s σ H E I hf st hg;subst hP hw hK;obtain⟨f0,f1,f2,f3,f4,f5⟩:=hf it (by simp);exact wpAny_pyNext_range_end (I.ok.hd hc) st (by have:n<=i:=hg; omega) λh' eb=>⟨rfl,I.turned (t':=s.toks) (λb o hb e=>eb b o hb e) f0 f1 f3 f4 f5⟩
 self:=λ_ _ _ _ _ st h=>wpAny_pyIter_rangeiter st h
section
variable {X:Cx} {tg:Expr}
def um (K:W.Frag) (tl:TE):TI:=λσ H R=>tl σ H λx H1=>∃a,x=.ref a/\(∃xs,aG K H1 a xs)/\R (jj K a) H1
def Ig (K:W.Frag) (tl:TE):TI:=λσ H R=>tl σ H λx H1=>∃a,x=.ref a/\(∃xs,aI K H1 a xs)/\R (km K a) H1
def g8 {l:Expr} {tl:TE} (hl:PE X l tl):PI X tg l (um X.K tl):=by
 intro pins s σ H R I h;refine aO (hl pins s σ H _ I h) λv s1 ⟨x,H1,I1,r1,q1⟩=>?_;obtain⟨a,e,⟨xs,hq⟩,q⟩:=q1;subst e;cases r1;obtain⟨its,rv,p,hz⟩:=I1.list hq;refine L8 p.isList ?_;refine⟨s1.heap.objs.size,[s1.heap.objs.size],_,_,H1,rfl,I1.kept (t':=s1.toks) λb o e=>JX _ e,Eh a _,⟨_,Jn _ rfl,rfl,rfl⟩,λb hb=>?_,q⟩;have e:b=s1.heap.objs.size:=by simpa using hb
 subst e;exact I1.fpOk (JZ _) (I1.hok.fresh (JZ _))
def xD {l:Expr} {tl:TE} (hl:PE X l tl):PI X tg l (Ig X.K tl):=by
 intro pins s σ H R I h;refine aO (hl pins s σ H _ I h) λv s1 ⟨x,H1,I1,r1,q1⟩=>?_;obtain⟨a,e,⟨xs,hq⟩,q⟩:=q1;subst e;cases r1;obtain⟨its,rv,p,hz⟩:=I1.tuple hq;refine Kw (show s1.heap.IsTuple a its.toArray from p) ?_;refine⟨s1.heap.objs.size,[s1.heap.objs.size],_,_,H1,rfl,I1.kept (t':=s1.toks) λb o e=>JX _ e,CN a _,⟨_,Jn _ rfl,rfl,rfl⟩,λb hb=>?_,q⟩;have e:b=s1.heap.objs.size:=by simpa using hb
 subst e;exact I1.fpOk (JZ _) (I1.hok.fresh (JZ _))
theorem Ct {R:It->Hp->Prop} {lo hi:Int} {t u v:Tok} {tk:Nat} (I:Inv X pins σ H s) (h1:-(2 ^ 62)<=lo) (h2:lo<2 ^ 62) (h3:-(2 ^ 62)<=hi) (h4:hi<2 ^ 62)
   (q:R (jp lo (hi - lo).toNat) H):wpAny (model X.prog X.w) X.A (pyIter (.ref s.heap.objs.size)) (PIE X pins σ tg R) E { s with heap:=s.heap.push { cls:=.type "range",data:=.fields #[.int lo t,.int hi u,.int 1 v] },toks:=tk }:=by
 refine wpAny_pyIter_range (IsRange.new ..) (small_one h1 h2 h3 h4) ?_;have I1:Inv X pins σ H { s with heap:=s.heap.push { cls:=.type "range",data:=.fields #[.int lo t,.int hi u,.int 1 v] },toks:=tk }:=I.kept λb o e=>JX _ e;refine⟨(s.heap.push { cls:=.type "range",data:=.fields #[.int lo t,.int hi u,.int 1 v] }).objs.size,[(s.heap.push { cls:=.type "range",data:=.fields #[.int lo t,.int hi u,.int 1 v] }).objs.size],_,_,H,rfl,
   I1.kept (t':=tk) λb o e=>JX _ e,Bj _ lo (hi - lo).toNat,?_,λb hb=>?_,q⟩
 . have e1:lo+((0:Nat):Int) * 1=lo:=by simp
   have e2:(((hi - lo).toNat:Nat):Int) - ((0:Nat):Int)=Builtin.Range.rangeSize lo hi 1:=by rw[rangeSize_one]; split <;> omega
   show IsRangeIter _ _ (lo+((0:Nat):Int) * 1) ((((hi - lo).toNat:Nat):Int) - ((0:Nat):Int)) 1;rw[e1,e2];exact Jn _ rfl
 . have e:b=(s.heap.push { cls:=.type "range",data:=.fields #[.int lo t,.int hi u,.int 1 v] }).objs.size:=by simpa using hb
   subst e;exact I1.fpOk (JZ _) (I1.hok.fresh (JZ _))
def GY (ta:TA):TI:=λσ H R=>ta σ H λvs H1=>∃j:Int,vs=[.int j]/\-(2 ^ 62)<=j/\j<2 ^ 62/\R (jp 0 j.toNat) H1
def eZ {a:Expr} {ta:TA} {p:Pos}(hg:Gl X "range") (hm:X.mg "range"=none) (ha:PA X [a] ta) (hs:starEach [a] X.env=[(false,eval a X.env)]:=by rfl):PI X tg (.Call (.Name "range" p) [a] [] pos) (GY ta):=by
 intro pins s σ H R I h;refine Call_ (j2 I hg hm boot_range (Kc (aO (ha pos pins s σ H _ I h) λus s1 ⟨vs,H1,I1,r1,q1⟩=>?_) hs rfl));obtain⟨j,e,q1,q2,q⟩:=q1;subst e;cases r1 with
 | cons r rr =>
   cases rr;obtain⟨t,rfl⟩:=r;exact call_range_1 (Ct I1 (by omega) (by omega) q1 q2 (by simpa using q))
def IK (wi:TI) (g:TG) (tb:TS):TS:=λD σ H=>wi σ H λJ H1=>∃W:Nat->Nat->St->Hp->Prop,(∃m,W 0 m σ H1)/\∀i m σ H,W i m σ H ->
 (J.stop i H/\D.nx σ H)\/(J.go i H/\∃N:St->Hp->Prop,(∀σ' H',N σ' H'->∃m',m'<m/\W (i+1) m' σ' H')/\∀x H',J.yld i H x H'->g x σ H' λσ2 H2=>tb { D with nx:=N,ct:=N,bk:=D.nx } σ2 H2)
def kX (fp:List Addr) (h:Heap):List (Addr×Obj):=fp.filterMap λb=>(h.get? b).map λo=>(b,o)
def kr {fp:List Addr} {o:Obj} (hb:b∈fp) (e:h.get? b=some o):(b,o)∈kX fp h:=List.mem_filterMap.mpr ⟨b,hb,by rw[e]; rfl⟩
def D6 {fp:List Addr} {p:Addr×Obj} (hp:p∈kX fp h):p.1∈fp/\h.get? p.1=some p.2:=by
 obtain⟨b,hb,e⟩:=List.mem_filterMap.mp hp;cases q:h.get? b with
 | none=>rw[q] at e; cases e
 | some o =>
   rw[q] at e;have e':(b,o)=p:=Option.some.inj e;subst e';exact⟨hb,q⟩
def Inv.pinned {fp:List Addr} (I:Inv X pins σ H s) (hf:∀b∈fp,eW X pins H b) (ho:∀b∈fp,∃o,s.heap.get? b=some o/\∀v,o.data≠.cell v):Inv X (pins++kX fp s.heap) σ H s :=
 I.pins_of λp hp=>(K1.mp hp).elim (λz=>I.pin p (K7 _ z)) λz=>by obtain⟨hb,e⟩:=D6 z;obtain⟨f0,f1,f2,_⟩:=hf p.1 hb;obtain⟨o,e',d⟩:=ho p.1 hb;rw[e] at e'; cases e';exact⟨e,f0,f1,f2,d⟩
def Inv.unpinned {pl:List (Addr×Obj)}(I:Inv X (pins++pl) σ H s):Inv X pins σ H s:=I.pins_of λp hp=>I.pin p (K7 _ (Ly _ hp))
theorem dI {iter:Expr} {body:List Stmt} {wi:TI} (hp:PassesOwn (model X.prog X.w) X.A X.env X.xe) (hc:X.calm=true) (hi:PI X tg iter wi) (hg:PG X tg g) (hb:bD X body tb)
   (hs:∀x,foldedSetIterable iter X.env x=pure x:=by intro _; rfl):PS X (.For tg iter body [] pos) (IK wi g tb):=by
 intro pins s σ H D I h;refine wpAny_For (aO (hi pins s σ H _ I h) λv s1 h1=>aO h1 λitv s2 h2=>?_) hs;obtain⟨it,fp,tn,J,H2,e,I2,T,st2,f2,W,⟨m0,w0⟩,turn⟩:=h2;subst e
 -- what stays true of the iterator's objects through the loop
 have stat:∀{H':Hp},(∀b∈fp,H' b=none)->∀b∈fp,eW X pins H' b:=λhn b hb=>⟨hn b hb,(f2 b hb).2⟩
 refine codeAny_forLoop_any (λn s'=>∃i σ' H',Inv X pins σ' H' s'/\tn i s'.heap/\(∀b∈fp,H' b=none)/\W i n σ' H') ?_ m0 ⟨0,σ,H2,I2,st2,λb hb=>(f2 b hb).1,w0⟩;rintro n s3 ⟨i,σ3,H3,I3,st3,fr3,w3⟩;rcases turn i n σ3 H3 w3 with⟨stop,qn⟩|⟨go,N,hN,step⟩
 . refine LD hp (aO (T.done X rfl rfl rfl hc i pins s3 σ3 H3 X.xe I3 (stat fr3) st3 stop) λr s4 ⟨hr,I4⟩=>?_);subst hr;exact LO ⟨σ3,H3,I4,qn⟩
 . refine LD hp (aO (T.item X rfl rfl rfl hc i pins s3 σ3 H3 X.xe I3 (stat fr3) st3 go) λr s4 ⟨u,hr,h4⟩=>?_);subst hr;refine LD hp (aO h4 λ_ s5 ⟨x,H5,I5,r5,y5,st5,fr5⟩=>?_);have I5':=I5.pinned (stat fr5) (T.obj _ _ st5);refine LD hp (aO (hg _ s5 σ3 H5 x u _ I5' r5 (step x H5 y5)) λ_ s6 ⟨σ6,H6,I6,q6⟩=>?_);refine LD hp (aO (hb _ s6 σ6 H6 _ I6 q6) λf s7 q7=>?_);have again:∀{σ7:St} {H7:Hp},Inv X (pins++kX fp s5.heap) σ7 H7 s7->N σ7 H7->∃m,m<n/\∃i σ' H',Inv X pins σ' H' s7/\tn i s7.heap/\(∀b∈fp,H' b=none)/\W i m σ' H':=λ{σ7 H7} I7 n7=>by obtain⟨m',hm,w7⟩:=hN σ7 H7 n7;refine⟨m',hm,i+1,σ7,H7,I7.unpinned,T.keep _ _ _ st5 λb hb o e=>(I7.pin (b,o) (K7 _ (K7 _ (kr hb e)))).1,λb hb=>?_,w7⟩;obtain⟨o,e,d⟩:=T.obj _ _ st5 b hb;exact(I7.pin (b,o) (K7 _ (K7 _ (kr hb e)))).2.1
   cases f with
   | next=>obtain⟨σ7,H7,I7,n7⟩:=q7; exact again I7 n7
   | cont=>obtain⟨σ7,H7,I7,n7⟩:=q7; exact again I7 n7
   | brk=>obtain⟨σ7,H7,I7,q7⟩:=q7; exact⟨σ7,H7,I7.unpinned,q7⟩
   | ret v=>obtain⟨x7,σ7,H7,I7,r7,q7⟩:=q7; exact⟨x7,σ7,H7,I7.unpinned,r7,q7⟩
end
theorem rV {xs:List V} {D:cS} (Pv:Nat->St->Hp->Prop) (h0:Pv 0 σ H) (hl:∀i σ H,i<=xs.length->Pv i σ H->aG K H a xs)
   (hs:∀i x σ H,xs[i]?=some x->Pv i σ H->g x σ H λσ2 H2=>tb { D with nx:=Pv (i+1),ct:=Pv (i+1),bk:=D.nx } σ2 H2) (hd:∀σ H,Pv xs.length σ H->D.nx σ H) :
   ∃W:Nat->Nat->St->Hp->Prop,(∃m,W 0 m σ H)/\∀i m σ H,W i m σ H ->
     ((jj K a).stop i H/\D.nx σ H)\/((jj K a).go i H/\∃N:St->Hp->Prop,(∀σ' H',N σ' H'->∃m',m'<m/\W (i+1) m' σ' H')/\∀x H',(jj K a).yld i H x H'->g x σ H' λσ2 H2=>tb { D with nx:=N,ct:=N,bk:=D.nx } σ2 H2):=by
 refine⟨λi m σ H=>m=xs.length - i/\i<=xs.length/\Pv i σ H,⟨xs.length,by simp,Jw _,h0⟩,?_⟩;rintro i m σ H ⟨rfl,hi,p⟩;have q:=hl i σ H hi p;by_cases hlt:i<xs.length
 . refine .inr ⟨⟨xs,xs[i],q,by simp [hlt]⟩,Pv (i+1),λσ' H' p'=>⟨xs.length - (i+1),by omega,rfl,hlt,p'⟩,λx H' y=>?_⟩;obtain⟨e,y⟩:=y;subst e;exact hs i x σ _ (y xs q) p
 . have e:i=xs.length:=by omega
   subst e;exact .inl ⟨⟨xs,q,JZ _⟩,hd σ H p⟩
theorem BU {xs:List V} {D:cS} (Pv:Nat->St->Hp->Prop) (h0:Pv 0 σ H) (hl:∀i σ H,i<=xs.length->Pv i σ H->aI K H a xs)
   (hs:∀i x σ H,xs[i]?=some x->Pv i σ H->g x σ H λσ2 H2=>tb { D with nx:=Pv (i+1),ct:=Pv (i+1),bk:=D.nx } σ2 H2) (hd:∀σ H,Pv xs.length σ H->D.nx σ H) :
   ∃W:Nat->Nat->St->Hp->Prop,(∃m,W 0 m σ H)/\∀i m σ H,W i m σ H ->
     ((km K a).stop i H/\D.nx σ H)\/((km K a).go i H/\∃N:St->Hp->Prop,(∀σ' H',N σ' H'->∃m',m'<m/\W (i+1) m' σ' H')/\∀x H',(km K a).yld i H x H'->g x σ H' λσ2 H2=>tb { D with nx:=N,ct:=N,bk:=D.nx } σ2 H2):=by
 refine⟨λi m σ H=>m=xs.length - i/\i<=xs.length/\Pv i σ H,⟨xs.length,by simp,Jw _,h0⟩,?_⟩;rintro i m σ H ⟨rfl,hi,p⟩;have q:=hl i σ H hi p;by_cases hlt:i<xs.length
 . refine .inr ⟨⟨xs,xs[i],q,by simp [hlt]⟩,Pv (i+1),λσ' H' p'=>⟨xs.length - (i+1),by omega,rfl,hlt,p'⟩,λx H' y=>?_⟩;obtain⟨e,y⟩:=y;subst e;exact hs i x σ _ (y xs q) p
 . have e:i=xs.length:=by omega
   subst e;exact .inl ⟨⟨xs,q,JZ _⟩,hd σ H p⟩
theorem i6 {lo:Int} {n:Nat} {D:cS} (Pv:Nat->St->Hp->Prop) (h0:Pv 0 σ H)
   (hs:∀i σ H,i<n->Pv i σ H->g (.int (lo+i)) σ H λσ2 H2=>tb { D with nx:=Pv (i+1),ct:=Pv (i+1),bk:=D.nx } σ2 H2) (hd:∀σ H,Pv n σ H->D.nx σ H) :
   ∃W:Nat->Nat->St->Hp->Prop,(∃m,W 0 m σ H)/\∀i m σ H,W i m σ H ->
     ((jp lo n).stop i H/\D.nx σ H)\/((jp lo n).go i H/\∃N:St->Hp->Prop,(∀σ' H',N σ' H'->∃m',m'<m/\W (i+1) m' σ' H')/\∀x H',(jp lo n).yld i H x H'->g x σ H' λσ2 H2=>tb { D with nx:=N,ct:=N,bk:=D.nx } σ2 H2):=by
 refine⟨λi m σ H=>m=n - i/\i<=n/\Pv i σ H,⟨n,by simp,Jw _,h0⟩,?_⟩;rintro i m σ H ⟨rfl,hi,p⟩;by_cases hlt:i<n
 . refine .inr ⟨hlt,Pv (i+1),λσ' H' p'=>⟨n - (i+1),by omega,rfl,hlt,p'⟩,λx H' y=>?_⟩;obtain⟨e,y⟩:=y;subst e y;exact hs i σ _ hlt p
 . have e:i=n:=by omega
   subst e;exact .inl ⟨JZ _,hd σ H p⟩
theorem qp {c:TT} {D:cS} (Pv:St->Hp->Prop) (μ:St->Hp->Nat) (h0:Pv σ H)
   (hs:∀σ H,Pv σ H->c σ H λb H1=>if b=true then tb { D with nx:=λσ' H'=>Pv σ' H'/\μ σ' H'<μ σ H,ct:=λσ' H'=>Pv σ' H'/\μ σ' H'<μ σ H,bk:=D.nx } σ H1 else D.nx σ H1)
   (mono:∀σ H Q Q',(∀b H1,Q b H1->Q' b H1)->c σ H Q->c σ H Q'):uM c tb D σ H:=by
 refine⟨λm σ H=>m=μ σ H/\Pv σ H,⟨_,rfl,h0⟩,?_⟩;rintro m σ H ⟨rfl,p⟩;refine mono σ H _ _ (λb H1 q=>?_) (hs σ H p);cases b with
 | true=>exact⟨_,λσ' H' ⟨p',l⟩=>⟨_,l,rfl,p'⟩,q⟩
 | false=>exact q
abbrev R2:=V->V->Hp->VK->Prop
def c6 (X:Cx) (f:Value->Value->Sem Value) (r:R2):Prop :=
 ∀(pins:List (Addr×Obj)) (s:Shared) (σ:St) (H:Hp) (x y:V) (v u:Value) (Q:VK),Inv X pins σ H s->aX x v->aX y u->r x y H Q ->
   wpAny (model X.prog X.w) X.A (f v u) (EP X pins σ Q) X.xe s
def qz (X:Cx) (f:Value->Sem Value) (r:V->Hp->VK->Prop):Prop :=
 ∀(pins:List (Addr×Obj)) (s:Shared) (σ:St) (H:Hp) (x:V) (v:Value) (Q:VK),Inv X pins σ H s->aX x v->r x H Q ->
   wpAny (model X.prog X.w) X.A (f v) (EP X pins σ Q) X.xe s
def aw (X:Cx) (f:Value) (r:List V->Hp->VK->Prop):Prop :=
 ∀(pins:List (Addr×Obj)) (s:Shared) (σ:St) (H:Hp) (xs:List V) (us:List Value) (Q:VK),Inv X pins σ H s->aT xs us->r xs H Q ->
   wpAny (model X.prog X.w) X.A (call f us) (EP X pins σ Q) X.xe s
def Bu (X:Cx) (r:V->Hp->(Bool->Hp->Prop)->Prop):Prop :=
 ∀(pins:List (Addr×Obj)) (s:Shared) (σ:St) (H:Hp) (x:V) (v:Value) (Q:Bool->Hp->Prop),Inv X pins σ H s->aX x v->r x H Q ->
   wpAny (model X.prog X.w) X.A (truthy v) (TP X pins σ Q) X.xe s
def ir (r:R2) (ta tb:TE):TE:=λσ H Q=>ta σ H λx H1=>tb σ H1 λy H2=>r x y H2 Q
def tUn (r:V->Hp->VK->Prop) (ta:TE):TE:=λσ H Q=>ta σ H λx H1=>r x H1 Q
def rI (C:Int->Int->Prop) (g:Int->Int->V):R2:=λx y H Q=>∃i j,x=.int i/\y=.int j/\C i j/\Q (g i j) H
def ip (g:Int->Int->V):R2:=λx y H Q=>∃i j,x=.int i/\y=.int j/\Q (g i j) H
def rU (g:Int->V):V->Hp->VK->Prop:=λx H Q=>∃i,x=.int i/\Q (g i) H
section
variable {X:Cx} {a b c:Expr} {ta tb tc:TE} {pos:Pos}
theorem sQ (ha:PE X a ta) (hb:PE X b tb) {R:V->V->Hp->Prop} (I:Inv X pins σ H s)
   (h:ta σ H λx H1=>tb σ H1 λy H2=>R x y H2) {Q:Value->Shared->Prop} {f:Value->Value->Sem Value}
   (hf:∀v u s2 x y H2,Inv X pins σ H2 s2->aX x v->aX y u->R x y H2->wpAny (model X.prog X.w) X.A (f v u) Q X.xe s2) :
   wpAny (model X.prog X.w) X.A (eval a X.env) (λv s₁=>wpAny (model X.prog X.w) X.A (eval b X.env) (λu s₂=>wpAny (model X.prog X.w) X.A (f v u) Q X.xe s₂) X.xe s₁) X.xe s:=by
 refine aO (ha pins s σ H _ I h) λv s1 ⟨x,H1,I1,r1,q1⟩=>?_;refine aO (hb pins s1 σ H1 _ I1 q1) λu s2 ⟨y,H2,I2,r2,q2⟩=>?_;exact hf v u s2 x y H2 I2 r1 r2 q2
def aK {op:Operator} {r:R2} (ho:c6 X (binaryOp op) r) (ha:PE X a ta) (hb:PE X b tb):PE X (.BinOp a op b pos) (ir r ta tb):=by intro pins s σ H Q I h;exact wpAny_BinOp (sQ ha hb I h λv u s2 x y H2 I2 rx ry q=>ho pins s2 σ H2 x y v u Q I2 rx ry q)
def kC {op:UnaryOp} {r:V->Hp->VK->Prop} (ho:qz X (unaryOp op) r) (ha:PE X a ta):PE X (.UnaryOp op a pos) (tUn r ta):=by intro pins s σ H Q I h;exact UnaryOp_ (aO (ha pins s σ H _ I h) λv s1 ⟨x,H1,I1,r1,q1⟩=>ho pins s1 σ H1 x v Q I1 r1 q1)
theorem md {f:Value->Value->Sem Value} {C:Int->Int->Prop} {g:Int->Int->Int}
   (rule:∀(i j:Int) (t u:Tok) (s:Shared) (Q:Value->Shared->Prop) (E:Value->Shared->Prop),C i j->Q (.int (g i j) s.toks) { s with toks:=s.toks+1 }->wpAny (model X.prog X.w) X.A (f (.int i t) (.int j u)) Q E s) :
   c6 X f (rI C λi j=>.int (g i j)):=by
 intro pins s σ H x y v u Q I rx ry h;obtain⟨i,j,rfl,rfl,hc,q⟩:=h;obtain⟨t,rfl⟩:=rx;obtain⟨t',rfl⟩:=ry;exact rule i j t t' s _ _ hc ⟨.int (g i j),H,I.tok _,⟨_,rfl⟩,q⟩
theorem xu {f:Value->Value->Sem Value} {g:Int->Int->Int}
   (rule:∀(i j:Int) (t u:Tok) (s:Shared) (Q:Value->Shared->Prop) (E:Value->Shared->Prop),Q (.int (g i j) s.toks) { s with toks:=s.toks+1 }->wpAny (model X.prog X.w) X.A (f (.int i t) (.int j u)) Q E s) :
   c6 X f (ip λi j=>.int (g i j)):=by
 intro pins s σ H x y v u Q I rx ry h;obtain⟨i,j,rfl,rfl,q⟩:=h;obtain⟨t,rfl⟩:=rx;obtain⟨t',rfl⟩:=ry;exact rule i j t t' s _ _ ⟨.int (g i j),H,I.tok _,⟨_,rfl⟩,q⟩
theorem qW {f:Value->Value->Sem Value} {g:Int->Int->Bool}
   (rule:∀(i j:Int) (t u:Tok) (s:Shared) (Q:Value->Shared->Prop) (E:Value->Shared->Prop),Q (.bool (g i j)) s->wpAny (model X.prog X.w) X.A (f (.int i t) (.int j u)) Q E s) :
   c6 X f (ip λi j=>.bl (g i j)):=by
 intro pins s σ H x y v u Q I rx ry h;obtain⟨i,j,rfl,rfl,q⟩:=h;obtain⟨t,rfl⟩:=rx;obtain⟨t',rfl⟩:=ry;exact rule i j t t' s _ _ ⟨.bl (g i j),H,I,rfl,q⟩
def yP (i j:Int):Prop:=0<j/\j<1073741824
def yV (i j:Int):Prop:=0<=j/\j<=1000000/\i.natAbs<2 ^ 64
def qf (i j:Int):Prop:=(-(2 ^ 64)<i/\i<2 ^ 64)\/(-(2 ^ 64)<j/\j<2 ^ 64)
def qf.ok {i j:Int} (h:qf i j):IntMulOk i j:=by
 rcases h with⟨h1,h2⟩|⟨h1,h2⟩
 . exact .of_left (intBits_le_64 h1 h2)
 . exact .of_right (intBits_le_64 h1 h2)
def bL:c6 X (binaryOp .Add) (ip λi j=>.int (i+j)):=xu λ_ _ _ _ _ _ _ q=>add_int q
def gn:c6 X (binaryOp .Sub) (ip λi j=>.int (i - j)):=xu λ_ _ _ _ _ _ _ q=>sub_int q
def gP:c6 X (binaryOp .Mult) (rI qf λi j=>.int (i * j)):=md λ_ _ _ _ _ _ _ hc q=>mul_int q hc.ok
def IF:c6 X (binaryOp .FloorDiv) (rI yP λi j=>.int (i / j)):=md λi j _ _ _ _ _ hc q=>by have h1:(0:Int)<j:=hc.1;have h2:j<1073741824:=hc.2;exact floordiv_int (by omega) (by rw[MJ i (by omega)]; exact q) (.inl (Lq (by omega)))
def cz:c6 X (binaryOp .Mod) (rI (λ_ j=>0<j) λi j=>.int (i%j)):=md λi j _ _ _ _ _ hc q=>by have h1:(0:Int)<j:=hc;exact mod_int' (by omega) (by rw[MK i (by omega)]; exact q)
def wR:c6 X (binaryOp .Pow) (rI yV λi j=>.int (i ^ j.toNat)):=md λ_ _ _ _ _ _ _ hc q=>pow_int_small hc.1 hc.2.1 hc.2.2 q
def Gc:c6 X (binaryOp .LShift) (rI yV λi j=>.int (i * 2 ^ j.toNat)):=md λ_ _ _ _ _ _ _ hc q=>lshift_int_small hc.1 hc.2.1 hc.2.2 q
theorem unI {f:Value->Sem Value} {g:Int->Int}
   (rule:∀(i:Int) (t:Tok) (s:Shared) (Q:Value->Shared->Prop) (E:Value->Shared->Prop),Q (.int (g i) s.toks) { s with toks:=s.toks+1 }->wpAny (model X.prog X.w) X.A (f (.int i t)) Q E s) :
   qz X f (rU λi=>.int (g i)):=by
 intro pins s σ H x v Q I rx h;obtain⟨i,rfl,q⟩:=h;obtain⟨t,rfl⟩:=rx;exact rule i t s _ _ ⟨.int (g i),H,I.tok _,⟨_,rfl⟩,q⟩
def lO:qz X (unaryOp .USub) (rU λi=>.int (-i)):=unI λ_ _ _ _ _ q=>neg_int q
end
def uy:V->V->Bool
 | .non,.non=>true | .non,.int _=>true | .int _,.non=>true | .non,.bl _=>true | .bl _,.non=>true | .non,.str _=>true | .str _,.non=>true
 | .int _,.int _=>true | .bl _,.bl _=>true | .str _,.str _=>true | .byt _,.byt _=>true
 | .int _,.str _=>true | .str _,.int _=>true | .bl _,.str _=>true | .str _,.bl _=>true
 | _,_=>false
def rEq:R2:=λx y H Q=>uy x y=true/\Q (.bl (decide (x=y))) H
def rNe:R2:=λx y H Q=>uy x y=true/\Q (.bl (!decide (x=y))) H
def ym {i j:Int}:decide (V.int i=V.int j)=(i==j):=by rw[KP];simp
def yD {i j:Bool}:decide (V.bl i=V.bl j)=(i==j):=by rw[KP];simp
def vM {i j:Str}:decide (V.str i=V.str j)=(i==j):=by rw[KP];simp
def vI {i j:Array UInt8}:decide (V.byt i=V.byt j)=(i.toList==j.toList):=by rw[KP];cases i;cases j;simp
variable {us:List Value}
section
variable {X:Cx} {a b c:Expr} {ta tb tc:TE} {pos:Pos}
def cM {Q:VK} {k k':Bool} (I:Inv X pins σ H s) (q:Q (.bl k) H) (e:k=k'):EP X pins σ Q (.bool k') s:=by subst e;exact⟨.bl k,H,I,rfl,q⟩
theorem az:c6 X (compareOp .Eq) rEq:=by
 intro pins s σ H x y v u Q I rx ry h;obtain⟨hs,q⟩:=h;cases x with
 | non =>
   cases rx;cases y with
   | non=>cases ry; exact PySem.EqNone.eq_none_none (cM I q (by simp))
   | bl j=>cases ry; exact PySem.EqNone.eq_none_bool (cM I q (by simp))
   | int j=>obtain⟨t',rfl⟩:=ry; exact PySem.EqNone.eq_none_int (cM I q (by simp))
   | str j=>obtain⟨t',rfl⟩:=ry; exact PySem.EqNone.eq_none_str (cM I q (by simp))
   | _=>exact absurd (show false=true from hs) Jj
 | bl i =>
   cases rx;cases y with
   | non=>cases ry; exact PySem.EqNone.eq_bool_none (cM I q (by simp))
   | bl j=>cases ry; exact eq_bool (cM I q yD)
   | str j=>obtain⟨t',rfl⟩:=ry; exact PySem.EqMixed.eq_bool_str (cM I q (by simp))
   | _=>exact absurd (show false=true from hs) Jj
 | int i =>
   obtain⟨t,rfl⟩:=rx;cases y with
   | non=>cases ry; exact PySem.EqNone.eq_int_none (cM I q (by simp))
   | int j=>obtain⟨t',rfl⟩:=ry; exact eq_int (cM I q ym)
   | str j=>obtain⟨t',rfl⟩:=ry; exact PySem.EqMixed.eq_int_str (cM I q (by simp))
   | _=>exact absurd (show false=true from hs) Jj
 | str i =>
   obtain⟨t,rfl⟩:=rx;cases y with
   | non=>cases ry; exact PySem.EqNone.eq_str_none (cM I q (by simp))
   | bl j=>cases ry; exact PySem.EqMixed.eq_str_bool (cM I q (by simp))
   | int j=>obtain⟨t',rfl⟩:=ry; exact PySem.EqMixed.eq_str_int (cM I q (by simp))
   | str j=>obtain⟨t',rfl⟩:=ry; exact eq_str (cM I q vM)
   | _=>exact absurd (show false=true from hs) Jj
 | byt i =>
   obtain⟨t,rfl⟩:=rx;cases y with
   | byt j=>obtain⟨t',rfl⟩:=ry; exact PySem.W.eq_bytes (cM I q vI)
   | _=>exact absurd (show false=true from hs) Jj
 | _=>cases y <;> exact absurd (show false=true from hs) Jj
theorem qm:c6 X (compareOp .NotEq) rNe:=by
 intro pins s σ H x y v u Q I rx ry h;obtain⟨hs,q⟩:=h;cases x with
 | non =>
   cases rx;cases y with
   | non=>cases ry; exact PySem.EqNone.ne_none_none (cM I q (by simp))
   | bl j=>cases ry; exact PySem.EqNone.ne_none_bool (cM I q (by simp))
   | int j=>obtain⟨t',rfl⟩:=ry; exact PySem.EqNone.ne_none_int (cM I q (by simp))
   | str j=>obtain⟨t',rfl⟩:=ry; exact PySem.EqNone.ne_none_str (cM I q (by simp))
   | _=>exact absurd (show false=true from hs) Jj
 | bl i =>
   cases rx;cases y with
   | non=>cases ry; exact PySem.EqNone.ne_bool_none (cM I q (by simp))
   | bl j=>cases ry; exact ne_bool (cM I q (Jt not yD))
   | str j=>obtain⟨t',rfl⟩:=ry; exact PySem.EqMixed.ne_bool_str (cM I q (by simp))
   | _=>exact absurd (show false=true from hs) Jj
 | int i =>
   obtain⟨t,rfl⟩:=rx;cases y with
   | non=>cases ry; exact PySem.EqNone.ne_int_none (cM I q (by simp))
   | int j=>obtain⟨t',rfl⟩:=ry; exact ne_int (cM I q (Jt not ym))
   | str j=>obtain⟨t',rfl⟩:=ry; exact PySem.EqMixed.ne_int_str (cM I q (by simp))
   | _=>exact absurd (show false=true from hs) Jj
 | str i =>
   obtain⟨t,rfl⟩:=rx;cases y with
   | non=>cases ry; exact PySem.EqNone.ne_str_none (cM I q (by simp))
   | bl j=>cases ry; exact PySem.EqMixed.ne_str_bool (cM I q (by simp))
   | int j=>obtain⟨t',rfl⟩:=ry; exact PySem.EqMixed.ne_str_int (cM I q (by simp))
   | str j=>obtain⟨t',rfl⟩:=ry; exact ne_str (cM I q (Jt not vM))
   | _=>exact absurd (show false=true from hs) Jj
 | byt i =>
   obtain⟨t,rfl⟩:=rx;cases y with
   | byt j=>obtain⟨t',rfl⟩:=ry; exact PySem.W.ne_bytes (cM I q (Jt not vI))
   | _=>exact absurd (show false=true from hs) Jj
 | _=>cases y <;> exact absurd (show false=true from hs) Jj
def ia:c6 X (compareOp .Lt) (ip λi j=>.bl (decide (i<j))):=qW λ_ _ _ _ _ _ _ q=>lt_int q
def kP:c6 X (compareOp .Gt) (ip λi j=>.bl (decide (j<i))):=qW λ_ _ _ _ _ _ _ q=>gt_int q
def FF:c6 X (compareOp .GtE) (ip λi j=>.bl (decide (j<=i))):=qW λ_ _ _ _ _ _ _ q=>ge_int q
def aW (b:Expr) (h:op≠.In:=by decide) (h2:op≠.NotIn:=by decide):behindInMarks op b=false:=by
 have e1:(op==CmpOp.In)=false:=by cases op <;> first|rfl|exact absurd rfl h
 have e2:(op==CmpOp.NotIn)=false:=by cases op <;> first|rfl|exact absurd rfl h2
 cases b <;> simp [behindInMarks,e1,e2]
def hW {r:R2} (ho:c6 X (compareOp op) r) (ha:PE X a ta) (hb:PE X b tb) (hm:behindInMarks op b=false):PE X (.Compare a [op] [b] pos) (ir r ta tb):=by intro pins s σ H Q I h;exact wpAny_Compare1 (sQ ha hb I h λv u s2 x y H2 I2 rx ry q=>ho pins s2 σ H2 x y v u Q I2 rx ry q) hm
def J0 (t:TE):TT:=λσ H Q=>t σ H λx H'=>∃k,x=.bl k/\Q k H'
def kx {r:R2} (ho:c6 X (compareOp op) r) (ha:PE X a ta) (hb:PE X b tb) (hm:behindInMarks op b=false):PT X (.Compare a [op] [b] pos) (J0 (ir r ta tb)):=by
 intro pins s σ H Q I h;refine Lx (aO (ha pins s σ H _ I h) λv s1 ⟨x,H1,I1,r1,q1⟩=>aO (hb pins s1 σ H1 _ I1 q1) λu s2 ⟨y,H2,I2,r2,q2⟩ =>
   aO (ho pins s2 σ H2 x y v u _ I2 r1 r2 q2) λc s3 ⟨z,H3,I3,r3,k,e,q3⟩=>?_) hm
 subst e;cases r3;exact Kr ⟨H3,I3,q3⟩
def rW (K:W.Frag) (x:V) (H:Hp) (k:Bool):Prop :=
 match x with
 | .non=>k=false
 | .bl b=>k=b
 | .int i=>k=(i != 0)
 | .str y=>y.length<=sizeLine/\k=((y.length:Int) != 0)
 | .byt y=>y.size<=sizeLine/\k=((y.size:Int) != 0)
 | .ref p=>(∃xs,aG K H p xs/\k=!xs.isEmpty)\/(∃xs,aI K H p xs/\k=!xs.isEmpty)\/∃kvs,H p=some (.dK kvs)/\k=!kvs.isEmpty
 | _=>False
def Db {κ:Type} {kvs:List (κ×V)} {vs:List (κ×Value)} (r:KV kvs vs):(!vs.isEmpty)=!kvs.isEmpty:=by cases r <;> rfl
def uP {xs:List V} {its:List Value} (r:aT xs its):(!its.toArray.isEmpty)=!xs.isEmpty:=by cases r <;> simp
def jl:(sizeLine:Nat)<2 ^ 63:=by rw[sizeLine_eq]; decide
def Bn:Bu X (λx H Q=>∃k,rW X.K x H k/\Q k H):=by
 intro pins s σ H x v Q I rx h;obtain⟨k,e,q⟩:=h;have hl:=jl;have hs:sizeLine=16777216:=sizeLine_eq;cases x with
 | non =>
   cases rx;have e':k=false:=e;subst e';exact truthy_none ⟨H,I,q⟩
 | bl b =>
   cases rx;have e':k=b:=e;subst e';exact Kr ⟨H,I,q⟩
 | int i =>
   obtain⟨t,rfl⟩:=rx;have e':k=(i != 0):=e;subst e';exact PySem.P.truthy_int ⟨H,I,q⟩
 | str y =>
   obtain⟨t,rfl⟩:=rx;obtain⟨hy,e'⟩:y.length<=sizeLine/\k=((y.length:Int) != 0):=e;subst e';exact PySem.P.truthy_str (by omega) ⟨H,I.tok _,q⟩
 | byt y =>
   obtain⟨t,rfl⟩:=rx;obtain⟨hy,e'⟩:y.size<=sizeLine/\k=((y.size:Int) != 0):=e;subst e';exact PySem.W.truthy_bytes (by omega) ⟨H,I.tok _,q⟩
 | ref p =>
   cases rx;have e':(∃xs,aG X.K H p xs/\k=!xs.isEmpty)\/(∃xs,aI X.K H p xs/\k=!xs.isEmpty)\/∃kvs,H p=some (.dK kvs)/\k=!kvs.isEmpty:=e;rcases e' with⟨xs,hx,e'⟩|⟨xs,hx,e'⟩|⟨kvs,hx,e'⟩
   . subst e';obtain⟨its,r,pl,hz⟩:=I.list hx;have hlen:=r.length;exact wpAny_truthy_list pl.isList (by simp only[Jr]; omega) ⟨H,I.tok _,by rw[uP r]; exact q⟩
   . subst e';obtain⟨its,r,pl,hz⟩:=I.tuple hx;have hlen:=r.length;exact truthy_tuple pl (by simp only[Jr]; omega) ⟨H,I.tok _,by rw[uP r]; exact q⟩
   . subst e';obtain⟨hz,hS,vs,r,m⟩:kvs.length<=sizeLine/\(p==sysModules)=false/\∃vs,KV kvs vs/\s.heap.DictOf (cq X.prog X.w) p vs:=I.hok p _ hx;have hlen:kvs.length=vs.length:=Paired.length r;exact wpAny_truthy_dict hS m (by omega) ⟨H,I.tok _,by rw[Db r]; exact q⟩
 | _=>exact(show False from e).elim
theorem JB (ha:PE X a ta) (he:∀whole,isTrue a X.env whole=(do let v <- whole; standAt a.pos; holding [v] (truthy v))) :
   PT X a (λσ H Q=>ta σ H λx H'=>∃k,rW X.K x H' k/\Q k H'):=by
 intro pins s σ H Q I h;exact isTrue_plain (aO (ha pins s σ H _ I h) λv s1 ⟨x,H1,I1,r1,q1⟩=>Bn pins s1 σ H1 x v Q I1 r1 q1) (he _)
def cZ:c6 X (binaryOp .Add) (λx y H Q=>∃i j,x=.str i/\y=.str j/\i.length+j.length<=sizeLine/\Q (.str (i++j)) H):=by intro pins s σ H x y v u Q I rx ry h;obtain⟨i,j,rfl,rfl,hz,q⟩:=h;obtain⟨t,rfl⟩:=rx;obtain⟨t',rfl⟩:=ry;exact add_str (λt' tk=>⟨.str (i++j),H,I.tok _,⟨_,rfl⟩,q⟩) hz
def hU {x:V} (r:aT [x] us):∃u,us=[u]/\aX x u:=by
 cases r with
 | cons r1 r2=>cases r2; exact⟨_,rfl,r1⟩
def kg {x y:V} (r:aT [x,y] us):∃u w',us=[u,w']/\aX x u/\aX y w':=by
 cases r with
 | cons r1 r2 =>
   cases r2 with
   | cons r3 r4=>cases r4; exact⟨_,_,rfl,r1,r3⟩
def Bf:aw X (.type "int") (λxs H Q=>(∃i,xs=[.int i]/\Q (.int i) H)\/∃k,xs=[.bl k]/\Q (.int (if k then 1 else 0)) H):=by
 intro pins s σ H xs us Q I r h;rcases h with⟨i,rfl,q⟩|⟨k,rfl,q⟩
 . obtain⟨u,rfl,t,rfl⟩:=hU r;exact call_int_int ⟨.int i,H,I,⟨_,rfl⟩,q⟩
 . obtain⟨u,rfl,r1⟩:=hU r;cases r1;exact call_int_bool ⟨.int (if k then 1 else 0),H,I.tok _,⟨_,rfl⟩,q⟩
def Ib:aw X (.builtin "divmod") (λxs H Q=>∃i j,xs=[.int i,.int j]/\yP i j/\∀p,H p=none->Q (.ref p) (upd H p (.tup [.int (i / j),.int (i%j)]))):=by intro pins s σ H xs us Q I r h;obtain⟨i,j,rfl,⟨h1,h2⟩,q⟩:=h;obtain⟨u,w',rfl,⟨t,rfl⟩,⟨t',rfl⟩⟩:=kg r;refine divmod_int (by omega) ?_ (.inl (Lq (by omega)));rw[MJ i (by omega),MK i (by omega)];have hn:H s.heap.objs.size=none:=I.hok.fresh (JZ _);refine⟨.ref s.heap.objs.size,_,?_,rfl,q _ hn⟩;refine I.laid (λb o e=>JX _ e) (JZ _) ⟨by simp only[JY,L7]; rw[sizeLine_eq]; decide,[.int (i / j) s.toks,.int (i%j) (s.toks+1)],.cons ⟨_,rfl⟩ (.cons ⟨_,rfl⟩ .nil),?_⟩;exact⟨_,Jn s.heap rfl,rfl,0,rfl⟩
end
structure ObjM (h:Heap) (x dx C:Addr) (mA:Str->Option Value):Prop where
 obj:h.get? x=some (PySem.W.instObj C dx)
 ns:h.Ns1 dx mA
 ne:dx≠x
def EW {dx:Addr} {mA:Str->Option Value} (n:h.Ns1 dx mA):∃od,h.get? dx=some od/\∀name,PySem.W.lookIn name od=some (mA name):=by
 obtain⟨o,es,ep,ho,hd,hk,_,hm⟩:=n;refine⟨o,ho,λname=>?_⟩;have e:=hm name;unfold nsFind findBy at e;rw[<- Array.find?_toList] at e;unfold PySem.W.lookIn;rw[hd];dsimp only;split
 . rename_i y q
   rw[q] at e;exact Jt some e
 . rename_i q
   rw[q] at e;have a:es.toList.any (·.refKey)=false:=by rw[List.any_eq_false];intro y hy;obtain⟨z,t,hkey⟩:=hk y (Array.mem_toList_iff.mp hy);simp [DictEntry.refKey,hkey]
   have a':¬ es.toList.any (·.refKey)=true:=by rw[a]; exact Jj
   rw[Ja a'];exact Jt some e
variable {C:Addr}
def ObjM.look {x dx:Addr}{mA:Str->Option Value} (I:ObjM h x dx C mA):∃od,PySem.W.InstAt h x (PySem.W.instObj C dx) C (some od)/\∀name,PySem.W.lookIn name od=some (mA name) :=
 let ⟨od,ho,hl⟩:=EW I.ns
 ⟨od,⟨I.obj,rfl,rfl,ho⟩,hl⟩
variable {pl:Sem Bool}
section
variable {prog:Program} {w:World} {A:Around} {E:Value->Shared->Prop} {s:Shared} {K:W.Frag} {x dx C f:Addr} {mA:Str->Option Value} {name:Str} {v:Value}
theorem BI {expr:Bool} {Q:Value->Shared->Prop} (X:K.In s.heap) (I:ObjM s.heap x dx C mA) (hg:PySem.W.plainGet K C name=true) (hh:PySem.W.hasDictIn K C=true)
   (ha:PySem.W.findIn K (.ref C) name=some none) (hv:mA name=some v) (hv':PySem.W.handedIn v=true) (h:Q v { s with toks:=s.toks+1 }) :
   wpAny (model prog w) A (getAttr (.ref x) name expr) Q E s:=by
 obtain⟨od,J,hl⟩:=I.look;exact PySem.W.get_value X J (PySem.W.plainGet_of hg).1 (PySem.W.findObj_own hh ha rfl (by rw[hl,hv])) hv' h
theorem GB {Q:Value×List Value->Shared->Prop} (X:K.In s.heap) (I:ObjM s.heap x dx C mA) (hg:PySem.W.plainGet K C name=true)
   (hf:PySem.W.findIn K (.ref C) name=some (some (.ref f))) (ht:PySem.W.isFn K (.ref f)=true) (hv:mA name=none) (h:Q (.ref f,[.ref x]) s) :
   wpAny (model prog w) A (getMethod (.ref x) name pl) Q E s:=by
 obtain⟨od,J,hl⟩:=I.look;exact PySem.W.method_fn X J (PySem.W.plainGet_of hg).1 (PySem.W.plainGet_of hg).2 hf (beq_iff_eq.mp ht) (by show(PySem.W.lookIn name od).map (·.isSome)=some false; rw[hl,hv]; rfl) h
theorem Az {ns:List Str} {Q:Unit->Shared->Prop} (X:K.In s.heap) (I:ObjM s.heap x dx C mA)
   (hs:PySem.W.findIn K (.ref C) "__setattr__"=some (some (.builtin "object.__setattr__"))) (hp:PySem.W.plainOver K C=true) (ht:PySem.W.takerIn K C name=some none) (hh:PySem.W.hasDictIn K C=true)
   (hw:PySem.Within mA ns) (hsz:ns.length<=sizeLine)
   (h:∀h',ObjM h' x dx C (λy=>if y=name then some v else mA y)->Heap.SameBut dx s.heap h'->Q () { s with heap:=h',toks:=s.toks+2 }) :
   wpAny (model prog w) A (setAttr (.ref x) name v) Q E s:=by
 obtain⟨od,J,hl⟩:=I.look;refine PySem.W.set_plain X J hs (PySem.W.osa_open (s:={ s with toks:=s.toks+1 }) (r:=none) X J hp ht λb=>?_);obtain⟨cd,hc,hd'⟩:=PySem.W.any_some hh;have hx:s.heap.get? x=some ⟨.ref C,some dx,.plain,#[]⟩:=I.obj;refine JT (Jh (JT (JT (Mh hx (JT (PySem.W.Looks.here (s:={ s with toks:=s.toks+1 }) (PySem.W.looks_clsIn X hc) ?_))))));rw[hd'];refine Jh (a:=some dx) (JT (Jh (JT ?_)));refine wpAny_nsSet1 (s:={ s with toks:=s.toks+1 }) I.ns λh' hn2 hs2=>?_;obtain⟨oD,esD,epD,hoD,hdD,hcD⟩:=hn2.count (PySem.Within.cons name v hw);refine JT (wpAny_lookBehind hoD (by rw[hdD]; exact pastItsLine_dict (K0 hcD (by rw[JY]; omega))) ?_);exact Jh (h _ ⟨(hs2.2 _ (Ne.symm I.ne)).trans I.obj,hn2,I.ne⟩ hs2)
theorem Hr {R:Result->Shared->Prop} {vs:List Value} {kw:List (Str×Value)} (X:K.In s.heap) (hm:PySem.W.makesIn K C=true)
   (hi:PySem.W.findIn K (.ref C) "__init__"=some (some (.ref f))) (hf:PySem.W.typeIn K (.ref f)=some (.type "function"))
   (h:codeAny (model prog w) (A.under (.builtin "type.__call__" ⟨.ref C :: vs,kw⟩)) (.call (.ref f) ⟨.ref (s.heap.objs.size+1) :: vs,kw⟩) (PySem.W.InitBack (s.heap.objs.size+1) R)
     { s with heap:=(s.heap.push PySem.W.emptyDict).push (PySem.W.instObj C s.heap.objs.size) }) :
   codeAny (model prog w) A (.call (.ref C) ⟨vs,kw⟩) R s:=by
 obtain⟨hh,g,d,t,os⟩:=s;exact PySem.W.make_core (PySem.W.makes_of X hm) (PySem.W.looks_findIn X hi) (λself=>PySem.W.bind_fn X self hf) (.inl rfl) h
end
def cP (f:Str) (v:V):List (Str×V)->List (Str×V)
 | []=>[(f,v)]
 | (g,x) :: r=>if g=f then(g,v) :: r else(g,x) :: cP f v r
theorem dH (f g:Str) (v:V):∀fs:List (Str×V),(cP f v fs).lookup g=if g=f then some v else fs.lookup g
 | []=>by
   show List.lookup g [(f,v)]=_;by_cases h:g=f
   . have hb:(g==f)=true:=beq_iff_eq.mpr h;simp only[List.lookup,hb,Je h]
   . have hb:(g==f)=false:=beq_eq_false_iff_ne.mpr h;simp only[List.lookup,hb,Ja h]
 | (k,x) :: r=>by
   have ih:=dH f g v r;rw[show cP f v ((k,x) :: r)=(if k=f then(k,v) :: r else(k,x) :: cP f v r) from rfl];by_cases hk:k=f
   . rw[Je hk];by_cases h:g=k
     . have hb:(g==k)=true:=beq_iff_eq.mpr h;simp only[List.lookup,hb,Je (h.trans hk)]
     . have hb:(g==k)=false:=beq_eq_false_iff_ne.mpr h;simp only[List.lookup,hb,Ja (λe:g=f=>h (e.trans hk.symm))]
   . rw[Ja hk];by_cases h:g=k
     . have hb:(g==k)=true:=beq_iff_eq.mpr h;simp only[List.lookup,hb,Ja (λe:g=f=>hk (h.symm.trans e))]
     . have hb:(g==k)=false:=beq_eq_false_iff_ne.mpr h;simp only[List.lookup,hb];exact ih
theorem qV (f:Str) (v:V):∀fs:List (Str×V),f∈(cP f v fs).map (·.1)/\∀g,g∈fs.map (·.1)->g∈(cP f v fs).map (·.1)
 | []=>⟨by simp [cP],λg h=>by simp at h⟩
 | (k,x) :: r=>by
   obtain⟨i1,i2⟩:=qV f v r;rw[show cP f v ((k,x) :: r)=(if k=f then(k,v) :: r else(k,x) :: cP f v r) from rfl];by_cases hk:k=f
   . rw[Je hk];subst hk;exact⟨by simp,λg h=>by simpa using h⟩
   . rw[Ja hk];refine⟨?_,λg h=>?_⟩
     . rw[KG];exact K5 _ i1
     . rw[KG] at h ⊢;rcases Jl.mp h with e|e
       . exact Jl.mpr (.inl e)
       . exact K5 _ (i2 g e)
theorem si (f:Str) (v:V):∀fs:List (Str×V),(cP f v fs).length<=fs.length+1
 | []=>by simp [cP]
 | (k,x) :: r=>by
   have ih:=si f v r;rw[show cP f v ((k,x) :: r)=(if k=f then(k,v) :: r else(k,x) :: cP f v r) from rfl];by_cases hk:k=f
   . rw[Je hk,JY,JY]; omega
   . rw[Ja hk,JY,JY]; omega
def eg.some_of {o:Option Value} (r:eg (some v) o):∃u,o=some u/\aX v u:=by
 cases o with
 | none=>exact(show False from r).elim
 | some u=>exact⟨u,rfl,r⟩
def eg.none_of {o:Option Value} (r:eg none o):o=none:=by
 cases o with
 | none=>rfl
 | some u=>exact(show False from r).elim
def F4 (r:aX v u):PySem.W.handedIn u=true:=by
 cases v with
 | non=>cases (show u=Value.none from r); rfl
 | bl b=>cases (show u=Value.bool b from r); rfl
 | int i=>obtain⟨t,e⟩:=(show ∃t,u=Value.int i t from r); cases e; rfl
 | str x=>obtain⟨t,e⟩:=(show ∃t,u=Value.str x t from r); cases e; rfl
 | byt b=>obtain⟨t,e⟩:=(show ∃t,u=Value.bytes b t from r); cases e; rfl
 | flt b=>obtain⟨t,e⟩:=(show ∃t,u=Value.float b t from r); cases e; rfl
 | ref a=>cases (show u=Value.ref a from r); rfl
 | ty n=>cases (show u=Value.type n from r); rfl
section
variable {P:Program} {w:World} {H H':Hp} {h h':Heap} {a C dx:Addr} {fs fs':List (Str×V)}
def nv (hok:bH P w H h) (e:H a=some (.ins C dx fs)):∃mA,ObjM h a dx C mA/\(∀f,eg (fs.lookup f) (mA f))/\PySem.Within mA (fs.map (·.1))/\fs.length<=1000/\H dx=some (.own a):=by
 obtain⟨d,z,ne,ob,mA,n,r,q⟩:=(show c7 P w H h a (.ins C dx fs) from hok a _ e)
 exact⟨mA,⟨ob,n,ne⟩,r,q,z,d⟩
end
structure Cls (K:W.Frag) (C:Addr):Prop where
 pg:PySem.W.plainGet K C Str.empty=true
 hd:PySem.W.hasDictIn K C=true
 po:PySem.W.plainOver K C=true
 sa:PySem.W.findIn K (.ref C) "__setattr__"=some (some (.builtin "object.__setattr__"))
def Cls.get {K:W.Frag} {C:Addr} (c:Cls K C) (f:Str):PySem.W.plainGet K C f=true:=c.pg
def dg (K:W.Frag) (C:Addr) (f:Str):Prop:=PySem.W.findIn K (.ref C) f=some none
def dg.taker {f:Str} (n:dg K C f):PySem.W.takerIn K C f=some none:=by unfold PySem.W.takerIn;rw[show PySem.W.findIn K (.ref C) f=some none from n];rfl
structure Meth (K:W.Frag) (C:Addr) (m:Str) (f:Addr):Prop where
 at_:PySem.W.findIn K (.ref C) m=some (some (.ref f))
 fn:PySem.W.isFn K (.ref f)=true
 kp:PySem.W.keepIn K (.ref f)=true
section
variable {X:Cx} {pins:List (Addr×Obj)} {σ:St} {H:Hp} {s:Shared} {a C dx:Addr} {fs:List (Str×V)} {f:Str} {v:V} {A:Around} {E:Value->Shared->Prop}
theorem yh {b:Bool} {Q:Value->Shared->Prop} (I:Inv X pins σ H s) (e:H a=some (.ins C dx fs)) (c:Cls X.K C) (n:dg X.K C f) (l:fs.lookup f=some v)
   (h:∀u s',Inv X pins σ H s'->aX v u->Q u s'):wpAny (model X.prog X.w) A (getAttr (.ref a) f b) Q E s:=by
 obtain⟨mA,O,r,_,_,_⟩:=nv I.hok e;obtain⟨u,hu,ru⟩:=eg.some_of (v:=v) (o:=mA f) (by rw[<- l]; exact r f);exact BI I.kIn O (c.get f) c.hd n hu (F4 ru) (h u _ (I.tok _) ru)
theorem yZ {m:Str} {g:Addr} {Q:Value×List Value->Shared->Prop} (I:Inv X pins σ H s) (e:H a=some (.ins C dx fs)) (c:Cls X.K C) (k:Meth X.K C m g) (l:fs.lookup m=none)
   (h:Q (.ref g,[.ref a]) s):wpAny (model X.prog X.w) A (getMethod (.ref a) m pl) Q E s:=by
 obtain⟨mA,O,r,_,_,_⟩:=nv I.hok e;have hn:mA m=none:=eg.none_of (by rw[<- l]; exact r m);exact GB I.kIn O (c.get m) k.at_ k.fn hn h
theorem zF {y:V} {Q:Unit->Shared->Prop} (I:Inv X pins σ H s) (e:H a=some (.ins C dx fs)) (c:Cls X.K C) (n:dg X.K C f) (hl:fs.length<1000) (ry:aX y u)
   (h:∀s',Inv X pins σ (upd H a (.ins C dx (cP f y fs))) s'->Q () s'):wpAny (model X.prog X.w) A (setAttr (.ref a) f u) Q E s:=by
 obtain⟨mA,O,r,wi,_,ho⟩:=nv I.hok e;have hz:(fs.map (·.1)).length<=sizeLine:=by rw[JR,sizeLine_eq]; omega
 refine Az I.kIn O c.sa c.po n.taker c.hd wi hz λh' O' sb=>h _ ?_;have hd:∃o,h'.get? dx=some o:=let ⟨o,_,_,e',_⟩:=O'.ns; ⟨o,e'⟩
 refine I.write (x:=a) (e:=dx) (by rw[e]; exact True.intro) (.inr ho) (λb q hb z=>(sb.2 b hb).trans z) hd ?_;refine⟨by rw[aQ O.ne]; exact ho,?_,O.ne,O'.obj,_,O'.ns,λg=>?_,λg hg=>?_⟩
 . have:=si f y fs; omega
 . show eg ((cP f y fs).lookup g) (if g=f then some u else mA g);rw[dH];by_cases q:g=f
   . rw[Je q,Je q]; exact ry
   . rw[Ja q,Ja q]; exact r g
 . by_cases q:g=f
   . rw[q]; exact(qV f y fs).1
   . refine(qV f y fs).2 g (wi g λz=>hg ?_);show(if g=f then some u else mA g)=none;rw[Ja q]; exact z
theorem Inv.made (I:Inv X pins σ H s):Inv X pins σ (upd (upd H s.heap.objs.size (.own (s.heap.objs.size+1))) (s.heap.objs.size+1) (.ins C s.heap.objs.size []))
   { s with heap:=(s.heap.push PySem.W.emptyDict).push (PySem.W.instObj C s.heap.objs.size) }:=by
 have e1:(s.heap.push PySem.W.emptyDict).get? s.heap.objs.size=some PySem.W.emptyDict:=Jn s.heap rfl;have e2:((s.heap.push PySem.W.emptyDict).push (PySem.W.instObj C s.heap.objs.size)).get? (s.heap.objs.size+1)=some (PySem.W.instObj C s.heap.objs.size):=by have:=Jn (s.heap.push PySem.W.emptyDict) (o:=PySem.W.instObj C s.heap.objs.size) rfl;rwa [Kg] at this
 have e3:(s.heap.push PySem.W.emptyDict).Ns s.heap.objs.size (λ_=>none):=⟨PySem.W.emptyDict,#[],_,e1,rfl,(λe he=>absurd he (by simp)),λ_=>rfl⟩
 have I1:=I.laid (a:=s.heap.objs.size) (o:=.own (s.heap.objs.size+1)) (h':=s.heap.push PySem.W.emptyDict) (t':=s.toks) (λb u q=>JX _ q) (JZ _) ⟨_,e1⟩;refine I1.laid (a:=s.heap.objs.size+1) (o:=.ins C s.heap.objs.size []) (t':=s.toks) (λb u q=>JX _ q) (Nat.le_of_eq (Kg _ _)) ?_;have ne:s.heap.objs.size≠s.heap.objs.size+1:=K4 (Km _);refine⟨by rw[aQ ne,aF],Jw _,ne,e2,λ_=>none,(Heap.Ns1.of_empty e3).at λo q=>JX _ q,λ_=>True.intro,λy hy=>absurd rfl hy⟩
theorem C7 {prog:Program} {env:Env} {f:Str} {Q:Value->Shared->Prop} (hb:attributeBase e f env (eval e env)=eval e env)
   (h:wpAny (model prog w) A (eval e env) (λo s₁=>wpAny (model prog w) A (getAttr o f true) Q E s₁) E s):wpAny (model prog w) A (eval (.Attribute e f pos) env) Q E s :=
 Attribute_any_ h (by rw[arm_eval_Attribute,hb])
end
def HV (K:W.Frag) (ta:TE) (f:Str):TE:=λσ H Q=>ta σ H λx H1=>∃a C dx fs v,x=.ref a/\H1 a=some (.ins C dx fs)/\Cls K C/\dg K C f/\fs.lookup f=some v/\Q v H1
def Bl (K:W.Frag) (ta tv:TE) (f:Str):TS:=λD σ H=>tv σ H λy H1=>ta σ H1 λx H2=>∃a C dx fs,x=.ref a/\H2 a=some (.ins C dx fs)/\Cls K C/\dg K C f/\fs.length<1000 /\
 D.nx σ (upd H2 a (.ins C dx (cP f y fs)))
def Di (X:Cx) (op:Operator) (rd:V->V->Hp->VK->Prop):Prop :=
 ∀(pins:List (Addr×Obj)) (s:Shared) (σ:St) (H:Hp) (x y:V) (u v:Value) (Q:VK),Inv X pins σ H s->aX x u->aX y v->rd x y H Q->wpAny (model X.prog X.w) X.A (inplaceOp op u v) (EP X pins σ Q) X.xe s
def B8 (K:W.Frag) (ta tv:TE) (rd:V->V->Hp->VK->Prop) (f:Str):TS:=λD σ H=>ta σ H λx H1=>∃a C dx fs v,x=.ref a/\H1 a=some (.ins C dx fs)/\Cls K C/\dg K C f/\fs.lookup f=some v /\
 tv σ H1 λy H2=>rd v y H2 λz H3=>∃dx' fs',H3 a=some (.ins C dx' fs')/\fs'.length<1000/\D.nx σ (upd H3 a (.ins C dx' (cP f z fs')))
section
variable {X:Cx} {o e value:Expr} {f:Str} {pos pos' tpos:Pos} {ta tv:TE}
def dk (he:PE X e ta) (hb:attributeBase e f X.env (eval e X.env)=eval e X.env):PE X (.Attribute e f pos) (HV X.K ta f):=by intro pins s σ H Q I h;refine C7 hb (aO (he pins s σ H _ I h) λu s1 ⟨x,H1,I1,rx,a,C,dx,fs,v,ex,ea,c,n,l,q⟩=>?_);subst ex;obtain rfl:u=Value.ref a:=rx;exact yh I1 ea c n l λu' s2 I2 ru=>⟨v,H1,I2,ru,q⟩
def gk (ha:PE X o ta) (hv:PE X value tv) (hs:swapsWith value (some (.Attribute o f pos')) pos.line X.env=pure false):PS X (.Assign [.Attribute o f pos'] value pos) (Bl X.K ta tv f):=by intro pins s σ H D I h;refine plainObj_wpAny_Assign_Attribute (aO (hv pins s σ H _ I h) λu s1 ⟨y,H1,I1,ry,q⟩=>aO (ha pins s1 σ H1 _ I1 q) λov s2 ⟨x,H2,I2,rx,a,C,dx,fs,ex,ea,c,n,l,q2⟩=>?_) hs;subst ex;obtain rfl:ov=Value.ref a:=rx;exact zF I2 ea c n l ry λs3 I3=>⟨σ,_,I3,q2⟩
def CQ {op:Operator} {rd:V->V->Hp->VK->Prop} (ha:PE X o ta) (hv:PE X value tv) (hop:Di X op rd):PS X (.AugAssign (.Attribute o f tpos) op value pos) (B8 X.K ta tv rd f):=by intro pins s σ H D I h;refine wpAny_AugAssign_AttributeAny (aO (ha pins s σ H _ I h) λov s1 ⟨x,H1,I1,rx,a,C,dx,fs,v,ex,ea,c,n,l,q⟩=>?_);subst ex;obtain rfl:ov=Value.ref a:=rx;refine yh I1 ea c n l λu s2 I2 ru=>aO (hv pins s2 σ H1 _ I2 q) λw3 s3 ⟨y,H2,I3,ry,q3⟩=>aO (hop pins s3 σ H2 v y u w3 _ I3 ru ry q3) λw4 s4 ⟨z,H3,I4,rz,dx',fs',ea',l',q4⟩=>?_;exact zF I4 ea' c n l' rz λs5 I5=>⟨σ,_,I5,q4⟩
end
section
variable {X:Cx} {pins:List (Addr×Obj)} {σ:St} {H:Hp} {s:Shared} {A:Around} {E:Value->Shared->Prop} {Q:Value->Shared->Prop} {c:Value} {b:Bool}
inductive TyOf (K:W.Frag) (H:Hp):V->Value->Prop where
 | non:TyOf K H .non (.type "NoneType")
 | bl (x:Bool):TyOf K H (.bl x) (.type "bool")
 | int (i:Int):TyOf K H (.int i) (.type "int")
 | str (x:Str):TyOf K H (.str x) (.type "str")
 | flt (x:UInt64):TyOf K H (.flt x) (.type "float")
 | lst {a:Addr} {xs:List V} (e:H a=some (.lst xs)):TyOf K H (.ref a) (.type "list")
 | frz {a:Addr} {o:Obj} {xs:List V} (e:H a=some (.frz o (.lst xs))):TyOf K H (.ref a) (.type "list")
 | tup {a:Addr} {xs:List V} (e:H a=some (.tup xs)):TyOf K H (.ref a) (.type "tuple")
 | dK {a:Addr} {kvs:List (aM×V)} (e:H a=some (.dK kvs)):TyOf K H (.ref a) (.type "dict")
 | dT {a:Addr} {kvs:List (List aM×V)} (e:H a=some (.dT kvs)):TyOf K H (.ref a) (.type "dict")
 | ins {a C dx:Addr} {fs:List (Str×V)} (e:H a=some (.ins C dx fs)) (cl:Cls K C) (ha:PySem.W.findIn K (.ref C) "__class__"=some (some (.builtin "object.__class__")))
     (hn:PySem.W.specialIn K (.builtin "object.__class__") "__get__"=some (some (.builtin "getset_descriptor.__get__"))) (htk:PySem.W.takesIn K (.builtin "object.__class__")=some true)
     (hm:PySem.W.mroIn K C (.type "object")=some true):TyOf K H (.ref a) (.ref C)
theorem Ft {x:V} {t:Value}(I:Inv X pins σ H s) (rx:aX x u) (ty:TyOf X.K H x t) (e:PySem.W.kitOne X.K t c=some b) (h:∀tk,Q (.bool b) { s with toks:=tk }) :
   wpAny (model X.prog X.w) A (call (.builtin "isinstance") [u,c]) Q E s:=by
 cases ty with
 | non=>cases (show u=Value.none from rx); exact PySem.W.kia_one PySem.W.kitx_none I.kIn True.intro e (λz=>nomatch z) h
 | bl y=>cases (show u=Value.bool y from rx); exact PySem.W.kia_one PySem.W.kitx_bool I.kIn True.intro e (λz=>nomatch z) h
 | int i=>obtain⟨t,q⟩:=(show ∃t,u=Value.int i t from rx); cases q; exact PySem.W.kia_one PySem.W.kitx_int I.kIn True.intro e (λz=>nomatch z) h
 | str y=>obtain⟨t,q⟩:=(show ∃t,u=Value.str y t from rx); cases q; exact PySem.W.kia_one PySem.W.kitx_str I.kIn True.intro e (λz=>nomatch z) h
 | flt y=>obtain⟨t,q⟩:=(show ∃t,u=Value.float y t from rx); cases q; exact PySem.W.kia_one PySem.W.kitx_float I.kIn True.intro e (λz=>nomatch z) h
 | @lst a xs ea =>
   cases (show u=Value.ref a from rx);obtain⟨_,_,n,_,h1⟩:=(show c7 X.prog X.w H s.heap a (.lst xs) from I.hok a _ ea)
   exact PySem.W.kia_one PySem.W.kitx_list I.kIn ⟨_,h1,rfl⟩ e (λz=>nomatch z) h
 | @frz a ob xs ea =>
   cases (show u=Value.ref a from rx);obtain⟨_,_,_,n,_,h1⟩:=(show c7 X.prog X.w H s.heap a (.frz ob (.lst xs)) from I.hok a _ ea)
   exact PySem.W.kia_one PySem.W.kitx_list I.kIn ⟨_,h1,rfl⟩ e (λz=>nomatch z) h
 | @tup a xs ea =>
   cases (show u=Value.ref a from rx);obtain⟨_,_,_,p⟩:=(show c7 X.prog X.w H s.heap a (.tup xs) from I.hok a _ ea)
   obtain⟨o,h1,h2,_⟩:=p;exact PySem.W.kia_one PySem.W.kitx_tuple I.kIn ⟨o,h1,h2⟩ e (λz=>nomatch z) h
 | @dK a kvs ea =>
   cases (show u=Value.ref a from rx);obtain⟨_,_,vs,_,p⟩:=(show c7 X.prog X.w H s.heap a (.dK kvs) from I.hok a _ ea)
   obtain⟨o,es,ep,h1,h2,_⟩:=p;exact PySem.W.kia_one PySem.W.kitx_dict I.kIn ⟨o,h1,h2.1⟩ e (λz=>nomatch z) h
 | @dT a kvs ea =>
   cases (show u=Value.ref a from rx);obtain⟨_,_,xs,_,o,es,ep,h1,h2,_⟩:=(show c7 X.prog X.w H s.heap a (.dT kvs) from I.hok a _ ea)
   exact PySem.W.kia_one PySem.W.kitx_dict I.kIn ⟨o,h1,h2.1⟩ e (λz=>nomatch z) h
 | @ins a C dx fs ea cl ha hn htk hm =>
   cases (show u=Value.ref a from rx);obtain⟨mA,O,_⟩:=nv I.hok ea;obtain⟨od,J,_⟩:=O.look;exact PySem.W.kia_one (PySem.W.kitx_own (cl.get _) cl.hd ha hn htk hm) I.kIn J e (λz=>nomatch z) h
end
structure Room (k:Nat) (A:Around):Prop where
 hd:A.handled=none
 dp:A.depth+3 * k+5<recursionLimit
 un:A.units+16 * k+200<cLine
def Room.mono {j k:Nat} (r:Room k A) (h:j<=k):Room j A:=⟨r.hd,by have:=r.dp; omega,by have:=r.un; omega⟩
def Room.deeper {k:Nat} (r:Room (k+1) A) (env:Env):Room k (A.deeper env) :=
 ⟨r.hd,by have:=r.dp; show A.depth+1+3 * k+5<_; omega,by have:=r.un; show A.units+3+16 * k+200<_; omega⟩
def GD {kw:List (Str×Value)}:(A.under (.builtin "type.__call__" ⟨.ref C :: us,kw⟩)).depth=A.depth+1:=by
 first|rfl|simp [Around.under,Code.weight,Code.isCreation,Code.isGuard,Code.isCaller,Code.frames,Code.isFrame,guardIds]
def Ff {kw:List (Str×Value)}:(A.under (.builtin "type.__call__" ⟨.ref C :: us,kw⟩)).units=A.units+1:=by
 first|rfl|simp [Around.under,Code.cUnits,Code.frames,Code.isFrame]
def Room.make {k:Nat} (r:Room (k+1) A) (C:Addr) (us:List Value) (kw:List (Str×Value)):Room k (A.under (.builtin "type.__call__" ⟨.ref C :: us,kw⟩)) :=
 ⟨r.hd,by have:=r.dp; rw[GD]; omega,by have:=r.un; rw[Ff]; omega⟩
def Room.depth {k:Nat} (r:Room k A):A.depth<recursionLimit:=by have:=r.dp; omega
def Room.units {k:Nat} (r:Room k A):A.units+64<cLine:=by have:=r.un; omega
def vW:TA:=λ_ H Q=>Q [] H
def uL (ta:TE) (tr:TA):TA:=λσ H Q=>ta σ H λx H1=>tr σ H1 λxs H2=>Q (x :: xs) H2
section
variable {X:Cx} {e:Expr} {es:List Expr} {te:TE} {t:TA} {pos:Pos}
def aD:PA X [] vW:=λ_ _ _ _ H Q I h=>Calls.spliced_nil ⟨[],H,I,.nil,h⟩
def yA (ha:PE X e te) (hr:PA X es t) (hs:starEach (e :: es) X.env=(false,eval e X.env) :: starEach es X.env:=by rfl):PA X (e :: es) (uL te t):=by intro pos pins s σ H Q I h;rw[hs];show wpAny _ _ (spliced ((false,eval e X.env) :: backTo pos (starEach es X.env))) _ _ s;refine Calls.spliced_cons (aO (ha pins s σ H _ I h) λu s1 ⟨x,H1,I1,r1,q1⟩=>?_);exact aO (hr pos pins s1 σ H1 _ I1 q1) λus s2 ⟨xs,H2,I2,r2,q2⟩=>⟨x :: xs,H2,I2,.cons r1 r2,q2⟩
def aC {es:List Expr} {t:TA} (ha:PE X e te) (hr:PA X es t) (hs:starEach (e :: es) X.env=(false,eval e X.env) :: starEach es X.env):PA X (e :: es) (uL te t):=yA ha hr hs
def wX (t:TA):TE:=λσ H Q=>t σ H λxs H1=>xs.length<=sizeLine/\∀p,H1 p=none->Q (.ref p) (upd H1 p (.tup xs))
def xM (t:TA):TE:=λσ H Q=>t σ H λxs H1=>xs.length<=sizeLine/\∀p,H1 p=none->Q (.ref p) (upd H1 p (.lst xs))
def bB {x1} (h:PA X es t):PE X (.Tuple es x1 pos) (wX t):=by intro pins s σ H Q I hq;refine wpAny_Tuple_spliced (aO (h pos pins s σ H _ I hq) λus s1 ⟨xs,H1,I1,r,z,q⟩=>⟨by rw[<- r.length]; exact z,?_⟩);have hf:H1 s1.heap.objs.size=none:=I1.hok.fresh (JZ _);refine⟨.ref s1.heap.objs.size,upd H1 s1.heap.objs.size (.tup xs),I1.laid (t':=s1.toks) (λb u e=>JX _ e) (JZ _) ?_,rfl,q _ hf⟩;exact⟨z,us,r,⟨_,Jn _ rfl,rfl,_,rfl⟩⟩
def bX (h:PA X es t):PE X (.List es pos) (xM t):=by intro pins s σ H Q I hq;refine wpAny_List_spliced (aO (h pos pins s σ H _ I hq) λus s1 ⟨xs,H1,I1,r,z,q⟩=>⟨by rw[<- r.length]; exact z,?_⟩);have hf:H1 s1.heap.objs.size=none:=I1.hok.fresh (JZ _);refine⟨.ref s1.heap.objs.size,upd H1 s1.heap.objs.size (.lst xs),I1.laid (t':=s1.toks) (λb u e=>JX _ e) (JZ _) ?_,rfl,q _ hf⟩;exact⟨z,us,0,r,Jn _ rfl⟩
end
abbrev Sp:=List V->Hp->VK->XK->Prop
abbrev gL:=List Env->Hp->Shared->XK->Value->Shared->Prop
structure Env0 (P:Program) (w:World) (K:W.Frag) (mg:Str->Option Value) (base:Heap) (A:Around) (outer:List Env) (s:Shared) (H:Hp):Prop where
 frames:A.frames=some outer
 mod:Mod K mg base
 bs:∀b o,base.get? b=some o->s.heap.get? b=some o/\H b=none
 bsz:base.objs.size<=s.heap.objs.size
 funs:s.heap.FunFrames base outer
 frf:∀b∈bq outer,H b=none
 hok:bH P w H s.heap
 bare:AllBare s.gens
def CE (outer:List Env) (P:Program) (w:World) (H:Hp) (s:Shared) (Q:VK) (u:Value) (s':Shared):Prop :=
 ∃v H',s'.os=s.os/\AllBare s'.gens/\Un (bq outer) [] H H' s.heap s'.heap/\bH P w H' s'.heap/\aX v u/\Q v H'
def CR (CX:gL) (outer:List Env) (P:Program) (w:World) (H:Hp) (s:Shared) (Q:VK) (E:XK) (r:Result) (s':Shared):Prop :=
 match r with
 | .ok (.ret u)=>CE outer P w H s Q u s'
 | .ok _=>False
 | .error e=>CX outer H s E e s'
structure FnOk (P:Program) (w:World) (K:W.Frag) (mg:Str->Option Value) (base:Heap) (CX:gL) (k:Nat) (f:Addr) (fd:FuncData) (ps:List Str) (sp:Sp):Prop where
 len:∀vs H Q E,sp vs H Q E->vs.length=ps.length
 run:∀(A:Around) (outer:List Env) (s:Shared) (H:Hp) (args:Args) (us:List Value) (vs:List V) (Q:VK) (E:XK),Room k A->Env0 P w K mg base A outer s H->BindsTo s fd args (ps.zip us)->aT vs us->sp vs H Q E ->
   codeAny (model P w) A (.call (.ref f) args) (CR CX outer P w H s Q E) s
variable {base:Heap}
theorem Env0.make {mg:Str->Option Value} {outer:List Env} (e:Env0 P w K mg base A outer s H) (C:Addr) (us:List Value) (kw:List (Str×Value)) :
   Env0 P w K mg base (A.under (.builtin "type.__call__" ⟨.ref C :: us,kw⟩)) outer s H:=⟨by first|exact e.frames|(simpa [Around.under,Code.envs,Code.isFrame,pushEnvs] using e.frames),e.mod,e.bs,e.bsz,e.funs,e.frf,e.hok,e.bare⟩
section
variable {X:Cx} {pins:List (Addr×Obj)} {σ:St} {H:Hp} {s s':Shared}
def Inv.env0 (I:Inv X pins σ H s):Env0 X.prog X.w X.K X.mg X.base X.A X.stack s H :=
 ⟨I.ok.frames,I.ok.mod,I.bs,K0 I.ok.bsz I.sz,I.stack,I.stkFree,I.hok,I.bare⟩
def Inv.after {Q:VK} (I:Inv X pins σ H s) (h:CE X.stack X.prog X.w H s Q u s'):EP X pins σ Q u s':=by obtain⟨v,H',os,bare,un,hok,r,q⟩:=h;obtain⟨hh,g,d,t,os'⟩:=s';obtain rfl:os'=s.os:=os;exact⟨v,H',I.call (h':=hh) (g':=g) (d':=d) (t':=t) (ch:=[]) un hok bare (λb z=>absurd z (by simp)),r,q⟩
end
def rC (sp:Sp) (dvs:List V) (E:XK) (t:TA):TE:=λσ H Q=>t σ H λvs H1=>sp (vs++dvs) H1 Q E
def zH (C:Addr) (m:Str) (sp:Sp) (dvs:List V) (E:XK) (ta:TE) (t:TA):TE:=λσ H Q=>ta σ H λx H1=>∃a dx fs,x=.ref a/\H1 a=some (.ins C dx fs)/\fs.lookup m=none /\
 t σ H1 λvs H2=>sp (x :: (vs++dvs)) H2 Q E
def sL (C:Addr) (sp:Sp) (dvs:List V) (E:XK) (t:TA):TE:=λσ H Q=>t σ H λvs H1=>∀x dx,H1 x=none->H1 dx=none->dx≠x ->
 sp (.ref x :: (vs++dvs)) (upd (upd H1 dx (.own x)) x (.ins C dx [])) (λv H2=>v=.non/\Q (.ref x) H2) E
def gc (K:W.Frag) (fd:FuncData) (ps:List Str) (ds:List Value):Prop :=
 ∀(s:Shared) (us:List Value),K.In s.heap->(us++ds).length=ps.length->BindsTo s fd ⟨us,[]⟩ (ps.zip (us++ds))
def gc.all {fd:FuncData} {ps:List Str} (h:∀us:List Value,us.length=ps.length->bindArgs fd ⟨us,[]⟩=pure (ps.zip us)):gc K fd ps []:=λs us _ hl=>by rw[Jv] at hl ⊢;exact .of_eq (h us hl)
def gN (CX:gL) (X:Cx) (E:XK):Prop:=∀(pins:List (Addr×Obj)) (σ:St) (H:Hp) (s:Shared) (e:Value) (s':Shared),Inv X pins σ H s->CX X.stack H s E e s'->X.xe e s'
section
variable {X:Cx} {CX:gL} {k:Nat} {f C:Addr} {fd:FuncData} {ps:List Str} {sp:Sp} {dvs:List V} {ds:List Value} {E:XK} {x m:Str} {p pos apos:Pos} {e o:Expr} {es:List Expr} {ta:TE} {t:TA}
theorem su {Q:VK} {vs:List V} (F:FnOk X.prog X.w X.K X.mg X.base CX k f fd ps sp) (hr:Room k X.A) (hb:gc X.K fd ps ds) (hd:aT dvs ds) (hx:gN CX X E)
   (I:Inv X pins σ H s) (r:aT vs us) (h:sp (vs++dvs) H Q E):wpAny (model X.prog X.w) X.A (call (.ref f) us) (EP X pins σ Q) X.xe s:=by
 have r2:aT (vs++dvs) (us++ds):=r.append hd;have hl:(us++ds).length=ps.length:=by rw[<- r2.length]; exact F.len _ _ _ _ h
 refine Lz (L' (F.run X.A X.stack s H ⟨us,[]⟩ (us++ds) (vs++dvs) Q E hr I.env0 (hb s us I.kIn hl) r2 h) λr s' hq=>?_);cases r with
 | error e=>exact hx pins σ H s e s' I hq
 | ok fl =>
   cases fl with
   | ret u=>exact I.after hq
   | next=>exact False.elim hq
   | brk=>exact False.elim hq
   | cont=>exact False.elim hq
theorem yi (F:FnOk X.prog X.w X.K X.mg X.base CX k f fd ps sp) (hr:Room k X.A) (hg:Gl X x) (hm:X.mg x=some (.ref f)) (hk:PySem.W.keepIn X.K (.ref f)=true) (hb:gc X.K fd ps ds) (hd:aT dvs ds) (hx:gN CX X E)
   (ha:PA X (e :: es) t) (hdb:(x==("__debug__":Str))=false:=by decide) (he:starEach (e :: es) X.env=(false,eval e X.env) :: starEach es X.env:=by rfl) (hpl:(backTo pos (starEach es X.env)).any (·.1)=false:=by rfl) :
   PE X (.Call (.Name x p) (e :: es) [] pos) (rC sp dvs E t):=by
 intro pins s σ H Q I h;refine LB (kH I hg hm ?_ hdb);refine PySem.W.callWith_K (h₀:=X.base) I.ok.mod.kin hk (aO (ha pos pins s σ H _ I h) λus s1 ⟨vs,H1,I1,r,q⟩=>⟨I1.kIn,?_⟩) he hpl;exact su F hr hb hd hx I1 r q
theorem eO (he:PE X o ta) (c:Cls X.K C) (hm:Meth X.K C m f) (F:FnOk X.prog X.w X.K X.mg X.base CX k f fd ps sp) (hr:Room k X.A) (hb:gc X.K fd ps ds) (hd:aT dvs ds) (hx:gN CX X E) (ha:PA X (e :: es) t)
   (hst:starEach (e :: es) X.env=(false,eval e X.env) :: starEach es X.env:=by rfl) (hpl:(backTo pos (starEach es X.env)).any (·.1)=false:=by rfl)
   (ht:eval (.Call (.Attribute o m apos) (e :: es) [] pos) X.env=(do
     let ov <- eval o X.env
     standAt apos.atName
     let (f,first) <- holding [ov] (getMethod ov m pl)
     callWith pos f first (backTo pos (starEach (e :: es) X.env)) (backToKw pos (keywordEach [] X.env))):=by rfl) :
   PE X (.Call (.Attribute o m apos) (e :: es) [] pos) (zH C m sp dvs E ta t):=by
 intro pins s σ H Q I h;refine PySem.W.methodCall_KW (pl:=pl) (aO (he pins s σ H _ I h) λu s1 ⟨x,H1,I1,rx,a,dx,fs,ex,ea,l,q⟩=>?_) ht;subst ex;obtain rfl:u=Value.ref a:=rx;refine yZ I1 ea c hm l ?_;refine PySem.W.callWith_K (first:=[.ref a]) (h₀:=X.base) I.ok.mod.kin hm.kp (aO (ha pos pins s1 σ H1 _ I1 q) λus s2 ⟨vs,H2,I2,r,q2⟩=>⟨I2.kIn,?_⟩) hst hpl;exact su (us:=.ref a :: us) (vs:=.ref a :: vs) F hr hb hd hx I2 (.cons rfl r) q2
theorem qL (he:PE X o ta) (c:Cls X.K C) (hm:Meth X.K C m f) (F:FnOk X.prog X.w X.K X.mg X.base CX k f fd ps sp) (hr:Room k X.A) (hb:gc X.K fd ps ds) (hd:aT dvs ds) (hx:gN CX X E)
   (ht:eval (.Call (.Attribute o m apos) [] [] pos) X.env=(do
     let ov <- eval o X.env
     standAt apos.atName
     let (f,first) <- holding [ov] (getMethod ov m pl)
     callWith pos f first (backTo pos (starEach [] X.env)) (backToKw pos (keywordEach [] X.env))):=by rfl) :
   PE X (.Call (.Attribute o m apos) [] [] pos) (zH C m sp dvs E ta vW):=by
 intro pins s σ H Q I h;refine PySem.W.methodCall_KW (pl:=pl) (aO (he pins s σ H _ I h) λu s1 ⟨x,H1,I1,rx,a,dx,fs,ex,ea,l,q⟩=>?_) ht;subst ex;obtain rfl:u=Value.ref a:=rx;refine yZ I1 ea c hm l ?_;exact PySem.W.callWith_K0 (first:=[.ref a]) I1.kIn hm.kp (su (us:=[.ref a]) (vs:=[.ref a]) F hr hb hd hx I1 (.cons rfl .nil) q)
structure Mk (K:W.Frag) (C f:Addr):Prop where
 makes:PySem.W.makesIn K C=true
 init:PySem.W.findIn K (.ref C) "__init__"=some (some (.ref f))
 fn:PySem.W.isFn K (.ref f)=true
 kp:PySem.W.keepIn K (.ref C)=true
theorem HK {Q:VK} {vs:List V} (M:Mk X.K C f) (F:FnOk X.prog X.w X.K X.mg X.base CX k f fd ps sp) (hr:Room (k+1) X.A) (hb:gc X.K fd ps ds) (hd:aT dvs ds)
   (hx:gN CX X E) (I:Inv X pins σ H s) (r:aT vs us)
   (h:∀x dx,H x=none->H dx=none->dx≠x->sp (.ref x :: (vs++dvs)) (upd (upd H dx (.own x)) x (.ins C dx [])) (λv H2=>v=.non/\Q (.ref x) H2) E) :
   wpAny (model X.prog X.w) X.A (call (.ref C) us) (EP X pins σ Q) X.xe s:=by
 have hq:=h (s.heap.objs.size+1) s.heap.objs.size (I.hok.fresh (Kz _)) (I.hok.fresh (JZ _)) (K4 (Km _));have I2:=Inv.made (C:=C) I;have r2:aT (V.ref (s.heap.objs.size+1) :: (vs++dvs)) (Value.ref (s.heap.objs.size+1) :: (us++ds)):=.cons rfl (r.append hd);have hl:(Value.ref (s.heap.objs.size+1) :: us++ds).length=ps.length:=by have e:=r2.length;rw[F.len _ _ _ _ hq] at e;exact e.symm
 refine Lz (Hr (f:=f) I.kIn M.makes M.init (beq_iff_eq.mp M.fn) (L' (F.run _ X.stack _ _ ⟨Value.ref (s.heap.objs.size+1) :: us,[]⟩ (Value.ref (s.heap.objs.size+1) :: (us++ds)) _ _ E (hr.make C us [])
   (I2.env0.make C us []) (hb _ (Value.ref (s.heap.objs.size+1) :: us) I2.kIn hl) r2 hq) λr s' hq'=>?_))
 cases r with
 | error e=>exact hx pins σ _ _ e s' I2 hq'
 | ok fl =>
   cases fl with
   | ret u =>
     obtain⟨v,H',I3,rv,ev,q3⟩:=I2.after hq';subst ev;exact⟨rv,⟨V.ref (s.heap.objs.size+1),H',I3,rfl,q3⟩⟩
   | next=>exact False.elim hq'
   | brk=>exact False.elim hq'
   | cont=>exact False.elim hq'
theorem vN (M:Mk X.K C f) (F:FnOk X.prog X.w X.K X.mg X.base CX k f fd ps sp) (hr:Room (k+1) X.A) (hg:Gl X x) (hm:X.mg x=some (.ref C)) (hb:gc X.K fd ps ds) (hd:aT dvs ds) (hx:gN CX X E)
   (ha:PA X (e :: es) t) (hdb:(x==("__debug__":Str))=false:=by decide) (he:starEach (e :: es) X.env=(false,eval e X.env) :: starEach es X.env:=by rfl) (hpl:(backTo pos (starEach es X.env)).any (·.1)=false:=by rfl) :
   PE X (.Call (.Name x p) (e :: es) [] pos) (sL C sp dvs E t):=by
 intro pins s σ H Q I h;refine LB (kH I hg hm ?_ hdb);refine PySem.W.callWith_K (h₀:=X.base) I.ok.mod.kin M.kp (aO (ha pos pins s σ H _ I h) λus s1 ⟨vs,H1,I1,r,q⟩=>⟨I1.kIn,?_⟩) he hpl;exact HK M F hr hb hd hx I1 r q
end
structure FnScope (N P:List Str) (sc:Scope):Prop where
 kind:sc.kind=.function
 co:sc.isCoroutine=false
 gen:sc.isGenerator=false
 nd:N.Nodup
 pre:N.take P.length=P
 par:∀x∈P,sc.names.lookup x=some .local\/sc.names.lookup x=some .cell
 nofree:∀y∈sc.names,y.2≠.free
theorem vy {kindOf:Str->Option NameKind} {x:Str}:∀{binds:List (Str×Value)} {m:Str->Option Value},(∀v,(x,v) ∉ binds)->bindL kindOf binds m x=m x
 | [],_,_=>rfl
 | (n,v) :: r,m,h=>by
   unfold bindL;rw[vy λw hw=>h w (K5 _ hw)];split
   . have:x≠n:=by rintro rfl; exact h v KA
     simp [this]
   . rfl
theorem xL {kindOf:Str->Option NameKind} {x:Str}:∀{binds:List (Str×Value)} {m:Str->Option Value},(∀v,(x,v) ∉ binds)->bindC kindOf binds m x=m x
 | [],_,_=>rfl
 | (n,v) :: r,m,h=>by
   unfold bindC;rw[xL λw hw=>h w (K5 _ hw)];split
   . rfl
   . have:x≠n:=by rintro rfl; exact h v KA
     simp [this]
theorem wQ {kindOf:Str->Option NameKind} {x:Str} {v:Value}:∀{P:List Str} {vs:List Value} {i:Nat} {m:Str->Option Value},P.Nodup->P[i]?=some x->vs[i]?=some v->kindOf x=some .local ->
   bindL kindOf (P.zip vs) m x=some v
 | [],_,_,_,_,h,_,_=>by simp at h
 | _ :: _,[],_,_,_,_,h,_=>by simp at h
 | p :: P,w :: vs,0,m,nd,h1,h2,hk=>by simp at h1 h2; subst h1; subst h2;show bindL kindOf ((p,w) :: P.zip vs) m p=_;unfold bindL;rw[vy λv hv=>(M0.mp nd).1 (Mf hv).1,Je hk];simp
 | p :: P,w :: vs,i+1,m,nd,h1,h2,hk=>by show bindL kindOf ((p,w) :: P.zip vs) m x=_;unfold bindL;exact wQ (i:=i) (M0.mp nd).2 (by simpa using h1) (by simpa using h2) hk
theorem uZ {kindOf:Str->Option NameKind} {x:Str} {v:Value}:∀{P:List Str} {vs:List Value} {i:Nat} {m:Str->Option Value},P.Nodup->P[i]?=some x->vs[i]?=some v->kindOf x≠some .local ->
   bindC kindOf (P.zip vs) m x=some v
 | [],_,_,_,_,h,_,_=>by simp at h
 | _ :: _,[],_,_,_,_,h,_=>by simp at h
 | p :: P,w :: vs,0,m,nd,h1,h2,hk=>by simp at h1 h2; subst h1; subst h2;show bindC kindOf ((p,w) :: P.zip vs) m p=_;unfold bindC;rw[xL λv hv=>(M0.mp nd).1 (Mf hv).1,Ja hk];simp
 | p :: P,w :: vs,i+1,m,nd,h1,h2,hk=>by show bindC kindOf ((p,w) :: P.zip vs) m x=_;unfold bindC;exact uZ (i:=i) (M0.mp nd).2 (by simpa using h1) (by simpa using h2) hk
def iU (N:List Str) (vs:List V):St:=vs.map some++List.replicate (N.length - vs.length) none
def bG (CX:gL) (P:Program) (w:World) (K:W.Frag) (mg:Str->Option Value) (base:Heap) (N:List Str) (qual:Str) (scope:Scope) (f:Addr) (cd:Value) (A:Around) (outer:List Env) (s:Shared) (H:Hp) (E:XK):Cx where
 prog:=P
 w:=w
 K:=K
 mg:=mg
 base:=base
 A:=A.deeper (envOfC qual scope s.heap.objs.size f cd)
 N:=N
 s₀:=s
 H₀:=H
 env:=envOfC qual scope s.heap.objs.size f cd
 outer:=outer
 stack:=envOfC qual scope s.heap.objs.size f cd :: outer
 ex:=[]
 calm:=true
 fn:=λ_=>true
 pn:=[]
 xe:=λe s'=>wpAny (model P w) (A.deeper (envOfC qual scope s.heap.objs.size f cd)) (leaving (envOfC qual scope s.heap.objs.size f cd) e) (λ_ s''=>CX outer H s E e s'') (λe' s''=>CX outer H s E e' s'') s'
def vh {sc:Scope} {n:Nat} (h:sc.names.lookup x=some .cell):∃c,(cellsFrom n sc.names []).lookup x=some c:=by have q:=PySem.W.cellsFrom_some sc.names n [] (.inl h);exact LI.mp q
theorem F7 {CX:gL} {mg:Str->Option Value} {N ps:List Str} {qual:Str} {scope:Scope} {f:Addr} {cd:Value} {outer:List Env} {s1:Shared}{E:XK} {vs:List V}
   (S:FnScope N ps scope) (hd:A.handled=none) (e0:Env0 P w K mg base A outer s H) (hl:vs.length=ps.length) (r:aT vs us)
   (x:InCallC s s.heap.objs.size (bindL (envOfC qual scope s.heap.objs.size f cd).kindOf (ps.zip us) λ_=>none) (cellsFrom (s.heap.objs.size+1) scope.names []) (bindC (envOfC qual scope s.heap.objs.size f cd).kindOf (ps.zip us) λ_=>none) s1) :
   Inv (bG CX P w K mg base N qual scope f cd A outer s H E) [] (iU N vs) H s1:=by
 have hpl:ps.length<=N.length:=by have:=Jt List.length S.pre; rw[Ju] at this; omega
 obtain⟨h1,tk,rfl,hk⟩:=x.done;have noA:∀b:Addr,b ∉ (bG CX P w K mg base N qual scope f cd A outer s H E).ex:=λb z=>absurd (show b∈([]:List Addr) from z) (by simp);refine⟨⟨e0.mod,S.kind,rfl,rfl,JZ _,λy z c h1 h2=>?_,λy hy=>?_,λy c _ h=>?_,λ_=>hd,Around.frames_deeper e0.frames,.inr ⟨rfl,rfl⟩,λb z=>absurd z (noA b),e0.bs,e0.bsz,λb _ _=>noA b,λb z=>absurd z (noA b),e0.funs,e0.frf⟩,
   rfl,e0.bare,Un.kept hk,⟨_,x.toInCall.ns,λi y v h1 h2 h3=>?_⟩,λy c h=>⟨_,x.cell y c h⟩,e0.hok.fresh (JZ _),λy c h=>?_,λp hp=>absurd (show p∈([]:List (Addr×Obj)) from hp) (by simp),e0.hok.kept hk,?_⟩
 . exact name_of_addr x.apart (PySem.mem_of_lookup h1) (PySem.mem_of_lookup h2)
 . have hy:scope.names.lookup y=some .cell\/scope.names.lookup y=some .free:=hy;rcases hy with hy|hy
   . exact vh hy
   . exact absurd rfl (S.nofree _ (PySem.mem_of_lookup hy))
 . exact MR (x.above y c (PySem.mem_of_lookup h))
 . have hi:i<vs.length:=by
     unfold iU at h2;by_cases hi:i<vs.length
     . exact hi
     . rw[K9 (by simpa using hi)] at h2;rw[List.getElem?_replicate] at h2;split at h2 <;> cases h2
   have ha:vs[i]?=some v:=by
     unfold iU at h2;rw[KN (by simpa using hi),Jc] at h2;cases e:vs[i]? with
     | none=>rw[e] at h2; cases h2
     | some a=>rw[e] at h2; cases h2; rfl
   obtain⟨u,hu,rv⟩:=r.get ha;have hp:ps[i]?=some y:=by rw[<- S.pre,Lg (by omega)]; exact h1
   have ndP:ps.Nodup:=by rw[<- S.pre]; exact S.nd.sublist (List.take_sublist _ _)
   refine⟨u,rv,?_⟩;rcases S.par y (JW hp) with k|k
   . exact .inl ⟨k,wQ ndP hp hu k⟩
   . obtain⟨c,e⟩:=vh (n:=s.heap.objs.size+1) k;refine .inr ⟨.inl k,c,e,?_⟩;have q:=x.cell y c e;rw[uZ ndP hp hu (by show scope.names.lookup y≠_; rw[k]; decide)] at q;exact q
 . exact e0.hok.fresh (MR (x.above y c (PySem.mem_of_lookup h)))
 . unfold iU;show _=N.length;rw[JS,JR,KU];omega
theorem yX {CX:gL} {mg:Str->Option Value} {k:Nat} {f:Addr} {name qual:Str} {params:Arguments} {body:List Stmt} {scope:Scope} {dV kV doc pm cdv ct oc:Value} {an od:Option Addr}
   {osl:Array (Option Value)} {N ps:List Str} {sp:Sp} (lk:K.lookup f=some ⟨oc,od,.func (PySem.W.fnOf name qual params body scope dV kV doc pm an cdv ct),osl⟩) (hcd:PySem.W.codeIn K cdv qual=true) (S:FnScope N ps scope)
   (len:∀vs H Q E,sp vs H Q E->vs.length=ps.length)
   (hbody:∀(A:Around) (outer:List Env) (s:Shared) (H:Hp) (vs:List V) (Q:VK) (E:XK),Room k (A.deeper (envOfC qual scope s.heap.objs.size f cdv))->sp vs H Q E ->
     ∃t,bD (bG CX P w K mg base N qual scope f cdv A outer s H E) body t/\t { nx:=λ_ H'=>Q .non H',rt:=Q } (iU N vs) H) :
   FnOk P w K mg base CX (k+1) f (PySem.W.fnOf name qual params body scope dV kV doc pm an cdv ct) ps sp:=by
 refine⟨len,λA outer s H args us vs Q E hr e0 hb r hsp=>?_⟩;have hl:=len _ _ _ _ hsp;have KX:K.In s.heap:=e0.mod.kin.keeps λb o e=>(e0.bs b o e).1;have lim:s.heap.NoLimit:=e0.mod.nolimit.keeps λb o e=>(e0.bs b o e).1;have hkind:∀y∈ps.zip us,scope.names.lookup y.1=some .local\/(scope.names.lookup y.1=some .cell/\((cellsFrom (s.heap.objs.size+1) scope.names []).lookup y.1).isSome=true):=λ⟨n,v⟩ hy=>by
   rcases S.par n (Mf hy).1 with q|q
   . exact .inl q
   . exact .inr ⟨q,PySem.W.cellsFrom_some _ _ _ (.inl q)⟩
 refine codeAny_call_function hr.depth (KX _ _ lk) rfl S.co S.gen rfl (PySem.W.codeRec_of KX hcd) (hb _ _ _ _ ?_);refine wpAny_newFunctionEnv_cells S.kind hkind λenv he s1 x=>?_;subst he;refine⟨lim.keeps x.toInCall.keep,codeAny_func ?_⟩;obtain⟨t,ht,hq⟩:=hbody A outer s H vs Q E (hr.deeper _) hsp;have I:Inv (bG CX P w K mg base N qual scope f cdv A outer s H E) [] (iU N vs) H s1:=F7 S hr.hd e0 hl r x;refine Kk (ht [] s1 (iU N vs) H _ I hq) (λfl s' hs=>?_) λe s' hs=>hs;have fin:∀{σ':St} {H':Hp} {v:V} {u:Value},Inv (bG CX P w K mg base N qual scope f cdv A outer s H E) [] σ' H' s'->aX v u->Q v H'->CE outer P w H s Q u s' :=
   λ{σ' H' v u} J rv q=>⟨v,H',J.os,J.bare,J.base,J.hok,rv,q⟩
 cases fl with
 | ret u =>
   obtain⟨v,σ',H',J,rv,q⟩:=hs;exact fin J rv q
 | next =>
   obtain⟨σ',H',J,q⟩:=hs;exact fin (v:=V.non) (u:=Value.none) J rfl q
 | brk =>
   obtain⟨_,_,_,q⟩:=hs;exact False.elim q
 | cont =>
   obtain⟨_,_,_,q⟩:=hs;exact False.elim q
section
variable {X:Cx} {x:Str} {p pos:Pos} {e:Expr} {es:List Expr} {t:TA} {id T:String} {r:List V->Hp->VK->Prop}
def tCB (r:List V->Hp->VK->Prop) (t:TA):TE:=λσ H Q=>t σ H λvs H1=>r vs H1 Q
def bU (hc:aw X (.builtin id) r) (hg:Gl X x) (hm:X.mg x=none) (hv:bootBuiltins x=some (.builtin id)) (ha:PA X (e :: es) t) (hn:x≠"__name__":=by decide) (hdb:(x==("__debug__":Str))=false:=by decide)
   (he:starEach (e :: es) X.env=(false,eval e X.env) :: starEach es X.env:=by rfl) (hpl:(backTo pos (starEach es X.env)).any (·.1)=false:=by rfl):PE X (.Call (.Name x p) (e :: es) [] pos) (tCB r t):=by
 intro pins s σ H Q I h;refine LB (j2 I hg hm hv ?_ hn hdb);exact PyProof.Rows.callWith_builtin1 (aO (ha pos pins s σ H _ I h) λus s1 ⟨vs,H1,I1,r1,q1⟩=>hc pins s1 σ H1 vs us Q I1 r1 q1) he hpl
def ez (hc:aw X (.type T) r) (hg:Gl X x) (hm:X.mg x=none) (hv:bootBuiltins x=some (.type T)) (ha:PA X (e :: es) t) (hn:x≠"__name__":=by decide) (hdb:(x==("__debug__":Str))=false:=by decide)
   (he:starEach (e :: es) X.env=(false,eval e X.env) :: starEach es X.env:=by rfl) (hpl:(backTo pos (starEach es X.env)).any (·.1)=false:=by rfl):PE X (.Call (.Name x p) (e :: es) [] pos) (tCB r t):=by
 intro pins s σ H Q I h;refine LB (j2 I hg hm hv ?_ hn hdb);exact Kc (aO (ha pos pins s σ H _ I h) λus s1 ⟨vs,H1,I1,r1,q1⟩=>hc pins s1 σ H1 vs us Q I1 r1 q1) he hpl
end
end L2
namespace HT
open PySem PyProof.Rows
section
variable {prog:Program} {w:World} {A:Around} {E:Value->Shared->Prop} {s:Shared}
def sIx (n d:Nat):Option Int->Nat
 | none=>d
 | some v=>if v<0 then(v+(n:Int)).toNat else min v.toNat n
def sIx_nat (n d k:Nat):sIx n d (some (k:Int))=min k n:=by show(if(k:Int)<0 then((k:Int)+(n:Int)).toNat else min (k:Int).toNat n)=min k n;rw[Ja (by omega),K6]
end
end HT
namespace L2
open PySem PySem.Spec PyProof.Rows
abbrev TO:=St->Hp->(Option Int->Hp->Prop)->Prop
def PO (X:Cx) (e:Option Expr) (t:TO):Prop :=
 ∀(pins:List (Addr×Obj)) (s:Shared) (σ:St) (H:Hp) (Q:Option Int->Hp->Prop),Inv X pins σ H s->t σ H Q ->
   wpAny (model X.prog X.w) X.A (evalPart e X.env) (λu s'=>∃o H',Inv X pins σ H' s'/\IsPart u o/\Q o H') X.xe s
def Ev:TO:=λ_ H Q=>Q none H
def HZ (t:TE):TO:=λσ H Q=>t σ H λx H1=>∃i,x=.int i/\Q (some i) H1
section
variable {X:Cx} {e:Expr} {te:TE} {lo hi:Option Expr} {tl th:TO} {pos p2:Pos}
def hJ:PO X none Ev:=by intro pins s σ H Q I h;rw[evalPart_none];exact Jh ⟨none,H,I,.none,h⟩
def db (h:PE X e te):PO X (some e) (HZ te):=by intro pins s σ H Q I hw;rw[evalPart_some];refine aO (h pins s σ H _ I hw) λu s1 ⟨x,H1,I1,r1,q1⟩=>?_;obtain⟨i,rfl,q⟩:=q1;obtain⟨t,rfl⟩:=r1;exact⟨some i,H1,I1,.int i t,q⟩
def oP (X:Cx) (r:V->Option Int->Option Int->Hp->VK->Prop):Prop :=
 ∀(pins:List (Addr×Obj)) (s:Shared) (σ:St) (H:Hp) (x:V) (v vl vu:Value) (lo hi:Option Int) (sl:Addr) (Q:VK),Inv X pins σ H s->aX x v->s.heap.IsSliceOf sl vl vu .none->IsPart vl lo->IsPart vu hi->r x lo hi H Q ->
   ∃T id,typeLookup (.type T) "__getitem__"=pure (some (.builtin id))/\s.TypeIs v T/\wpAny (model X.prog X.w) X.A (getItem v (.ref sl)) (EP X pins σ Q) X.xe s
def tSl (r:V->Option Int->Option Int->Hp->VK->Prop) (te:TE) (tl th:TO):TE:=λσ H Q=>te σ H λx H1=>tl σ H1 λl H2=>th σ H2 λu H3=>r x l u H3 Q
def fX {r:V->Option Int->Option Int->Hp->VK->Prop} (hr:oP X r) (he:PE X e te) (hl:PO X lo tl) (hu:PO X hi th):PE X (.Subscript e (.Slice lo hi none p2) pos) (tSl r te tl th):=by intro pins s σ H Q I h;refine Subscript_ (aO (he pins s σ H _ I h) λv s1 ⟨x,H1,I1,r1,q1⟩=>?_);refine wpAny_Slice (aO (hl pins s1 σ H1 _ I1 q1) λvl s2 ⟨l,H2,I2,pl,q2⟩=>aO (hu pins s2 σ H2 _ I2 q2) λvu s3 ⟨u,H3,I3,pu,q3⟩=>?_);rw[evalPart_none];refine Jh ?_;have I4:Inv X pins σ H3 { s3 with heap:=s3.heap.push { cls:=.type "slice",data:=.fields #[vl,vu,.none] } }:=I3.kept (t':=s3.toks) λb ob q=>JX _ q;obtain⟨T,id,hT,ht,hg⟩:=hr pins { s3 with heap:=s3.heap.push { cls:=.type "slice",data:=.fields #[vl,vu,.none] } } σ H3 x v vl vu l u s3.heap.objs.size Q I4 r1 (Heap.IsSliceOf.new ..) pl pu q3;show wpAny (model X.prog X.w) X.A (subscriptTail e (.Slice lo hi none p2) v (.ref s3.heap.objs.size)) (EP X pins σ Q) X.xe { s3 with heap:=s3.heap.push { cls:=.type "slice",data:=.fields #[vl,vu,.none] } };exact tail_any (ops:=[.ref s3.heap.objs.size,v]) ht hT hg (by with_unfolding_all rfl)
def gS (xs:List V) (lo hi:Option Int):List V:=(xs.drop (HT.sIx xs.length 0 lo)).take (HT.sIx xs.length xs.length hi - HT.sIx xs.length 0 lo)
def Be (xs:List V) (lo hi:Option Int):(gS xs lo hi).length<=xs.length:=by unfold gS;rw[Ju,KD];omega
end
def dQ (n:Nat) (i:Int):Option Nat:=if 0<=i then(if i<n then some i.toNat else none) else if -(n:Int)<=i then some (i+n).toNat else none
def bS {α:Type} (xs:List α) (i:Int):Option α:=(dQ xs.length i).bind λj=>xs[j]?
variable {n:Nat}
def xH {i:Int} {j:Nat} (h:dQ n i=some j):seqIndex? i n=some j/\j<n/\-(n:Int)<=i/\i<n:=by
 unfold dQ at h;by_cases h0:0<=i
 . rw[Je h0] at h;by_cases h1:i<n
   . rw[Je h1] at h;have e:i.toNat=j:=Option.some.inj h;exact⟨by rw[seqIndex_of h0 h1,e],by omega,by omega,h1⟩
   . rw[Ja h1] at h; cases h
 . rw[Ja h0] at h;by_cases h1:-(n:Int)<=i
   . rw[Je h1] at h;have e:(i+n).toNat=j:=Option.some.inj h;exact⟨by rw[seqIndex_neg (by omega) h1,e],by omega,h1,by omega⟩
   . rw[Ja h1] at h; cases h
def sk {α:Type} {xs:List α} {i:Int} {v:α} (h:bS xs i=some v):∃j,seqIndex? i xs.length=some j/\xs[j]?=some v/\j<xs.length/\-(xs.length:Int)<=i/\i<xs.length:=by
 unfold bS at h;cases e:dQ xs.length i with
 | none=>rw[e] at h; cases h
 | some j =>
   rw[e] at h;obtain⟨h1,h2,h3,h4⟩:=xH e;exact⟨j,h1,h,h2,h3,h4⟩
def bh {α:Type} {xs:List α} {j:Nat} {v:α} (h:xs[j]?=some v):bS xs (j:Int)=some v:=by
 have hj:j<xs.length:=(Jb.mp h).1;have e:dQ xs.length (j:Int)=some j:=by unfold dQ;rw[Je (by omega),Je (by omega)]; simp
 unfold bS; rw[e]; exact h
def HP (b:Expr):Prop:=∀o i,subscripted b false o i=operate [o,i] (getItem o i)
def aN (X:Cx) (r:R2):Prop :=
 ∀(value slice:Expr) (pins:List (Addr×Obj)) (s:Shared) (σ:St) (H:Hp) (x y:V) (v u:Value) (Q:VK),Inv X pins σ H s->aX x v->aX y u->r x y H Q ->
   subscripted slice false v u=operate [v,u] (getItem v u)->wpAny (model X.prog X.w) X.A (subscriptTail value slice v u) (EP X pins σ Q) X.xe s
def mB (X:Cx) (id:String) (r:V->List V->Hp->VK->Prop):Prop :=
 ∀(pins:List (Addr×Obj)) (s:Shared) (σ:St) (H:Hp) (x:V) (xs:List V) (v:Value) (us:List Value) (Q:VK),Inv X pins σ H s->aX x v->aT xs us->r x xs H Q ->
   wpAny (model X.prog X.w) X.A (call (.builtin id) (v :: us)) (EP X pins σ Q) X.xe s
section
variable {X:Cx} {a b:Expr} {ta tb:TE} {pos:Pos}
def aL {r:R2} (hr:aN X r) (ha:PE X a ta) (hb:PE X b tb) (hs:HP b):PE X (.Subscript a b pos) (ir r ta tb):=by intro pins s σ H Q I h;exact Subscript_ (sQ ha hb I h λv u s2 x y H2 I2 rx ry q=>hr a b pins s2 σ H2 x y v u Q I2 rx ry q (hs _ _))
def Da (K:W.Frag):R2:=λx y H Q=>∃p xs i v,x=.ref p/\y=.int i/\aG K H p xs/\bS xs i=some v/\Q v H
def tK (K:W.Frag):R2:=λx y H Q=>∃p xs i v,x=.ref p/\y=.int i/\aI K H p xs/\bS xs i=some v/\Q v H
def ES:R2:=λx y H Q=>∃z i c,x=.str z/\y=.int i/\z.length<=sizeLine/\bS z.cps.toList i=some c/\Q (.str ⟨#[c]⟩) H
def kM:aN X (Da X.K):=by
 intro value slice pins s σ H x y v u Q I rx ry h hs;obtain⟨p,xs,i,z,rfl,rfl,hq,he,q⟩:=h;cases rx;obtain⟨t,rfl⟩:=ry;obtain⟨its,r,pl,hz⟩:=I.list hq;obtain⟨j,h1,h2,h3,h4,h5⟩:=sk he;obtain⟨w,ew,rw'⟩:=r.get h2;have hl:=r.length;have hn:=jl;have fin:EP X pins σ Q w s:=⟨z,H,I,rw',q⟩
 by_cases h0:0<=i
 . have hj:i.toNat=j:=by rw[seqIndex_of h0 h5] at h1;exact Option.some.inj h1
   exact item_listR pl.isList h0 (by omega) (by rw[hj]; simpa using ew) fin hs
 . have hj:(i+(its.toArray.size:Int)).toNat=j:=by rw[seqIndex_neg (by omega) h4] at h1;rw[Jr,<- hl];exact Option.some.inj h1
   exact subscriptTail_builtinR (x:=w) pl.isList.typeIs slot_list_getitem.lookup
     (wpAny_getItem_list_neg (Q:=λr s'=>r=w/\EP X pins σ Q r s') pl.isList (by omega) (by rw[Jr] <;> omega) (by omega) (by rw[hj]; simpa using ew) ⟨rfl,fin⟩) hs
def jO:aN X (tK X.K):=by
 intro value slice pins s σ H x y v u Q I rx ry h hs;obtain⟨p,xs,i,z,rfl,rfl,hq,he,q⟩:=h;cases rx;obtain⟨t,rfl⟩:=ry;obtain⟨its,r,pl,hz⟩:=I.tuple hq;obtain⟨j,h1,h2,h3,h4,h5⟩:=sk he;obtain⟨w,ew,rw'⟩:=r.get h2;have hl:=r.length;have hn:=jl;have fin:EP X pins σ Q w s:=⟨z,H,I,rw',q⟩
 exact subscriptTail_builtinR (x:=w) pl.typeIs slot_tuple_getitem.lookup
   (getItem_tuple (j:=j) (Q:=λr s'=>r=w/\EP X pins σ Q r s') pl (by omega) (by omega) (by rw[Jr,<- hl]; exact h1) (by simpa using ew) ⟨rfl,fin⟩) hs
def ja:aN X ES:=by
 intro value slice pins s σ H x y v u Q I rx ry h hs;obtain⟨z,i,c,rfl,rfl,hz,he,q⟩:=h;obtain⟨t,rfl⟩:=rx;obtain⟨t',rfl⟩:=ry;obtain⟨j,h1,h2,h3,h4,h5⟩:=sk he;have hl:z.cps.toList.length=z.length:=by simp [Str.length]
 rw[hl] at h1 h4 h5;have hn:=jl;exact tail_any (typeIs_str s z t) slot_str_getitem.lookup (getItem_str (c:=c) (by have e1:decide (i < -(2 ^ 63:Int))=false:=KF (by omega);have e2:decide (i>=2 ^ 63)=false:=KF (by omega);rw[e1,e2,ML]) (by rw[h1]; simpa using h2) ⟨.str ⟨#[c]⟩,H,I.tok _,⟨_,rfl⟩,q⟩) hs
def HL (its:List Value) (n j:Nat) (u:Value):Obj.mapSeq (·.setIfInBounds j u) { cls:=.type "list",data:=.seq its.toArray n }={ cls:=.type "list",data:=.seq (its.set j u).toArray n }:=by simp [Obj.mapSeq]
theorem Inv.lst {pins:List (Addr×Obj)} {σ:St} {H:Hp} {s:Shared} {p:Addr} {xs:List V} (I:Inv X pins σ H s) (h:H p=some (.lst xs)) :
   ∃(its:List Value) (n:Nat),aT xs its/\s.heap.get? p=some { cls:=.type "list",data:=.seq its.toArray n }/\xs.length<=sizeLine:=by
 obtain⟨z,its,n,r,e⟩:=I.hok p _ h;exact⟨its,n,r,e,z⟩
theorem Inv.lstUpd {pins:List (Addr×Obj)} {σ:St} {H:Hp} {s:Shared} {p:Addr} {xs ys:List V} {its its':List Value} {n':Nat}{f:Obj->Obj} (I:Inv X pins σ H s) (h:H p=some (.lst xs))
   (ho:s.heap.get? p=some { cls:=.type "list",data:=.seq its.toArray n }) (hf:f { cls:=.type "list",data:=.seq its.toArray n }={ cls:=.type "list",data:=.seq its'.toArray n' }) (r:aT ys its') (hz:ys.length<=sizeLine) (t:Nat) :
   Inv X pins σ (upd H p (.lst ys)) { s with heap:=s.heap.update p f,toks:=t }:=by
 have e:(s.heap.update p f).get? p=some { cls:=.type "list",data:=.seq its'.toArray n' }:=by rw[Kl f ho (by rw[hf] <;> rfl),hf]
 refine I.write (x:=p) (e:=p) (by rw[h]; trivial) (.inl rfl) (λb u hb q=>(KR _ _ (Ne.symm hb)).trans q) ⟨_,e⟩ ?_;exact⟨hz,its',n',r,e⟩
def Hl:V->V->V->Hp->(Hp->Prop)->Prop:=λo i v H Q=>∃p xs k j,o=.ref p/\i=.int k/\H p=some (.lst xs)/\dQ xs.length k=some j/\Q (upd H p (.lst (xs.set j v)))
def jF:uU X Hl:=by
 intro pins s σ H o i v ov iv u Q I ro ri rv h;obtain⟨p,xs,k,j,rfl,rfl,hp,hj,q⟩:=h;cases ro;obtain⟨t,rfl⟩:=ri;obtain⟨its,n,r,ho,hz⟩:=I.lst hp;obtain⟨h1,h2,h3,h4⟩:=xH hj;have hl:=r.length;have hn:=jl;have I':Inv X pins σ (upd H p (.lst (xs.set j v))) { s with heap:=s.heap.update p (Obj.mapSeq (·.setIfInBounds j u)) } :=
   I.lstUpd hp ho (HL its n j u) (r.set rv j) (by rw[LF]; exact hz) s.toks
 by_cases h0:0<=k
 . have hk:k.toNat=j:=by rw[seqIndex_of h0 h4] at h1;exact Option.some.inj h1
   exact PySem.W.ki_setAt ho h0 (by omega) (by rw[Jr,<- hl]; exact h4) (by rw[hk]; exact⟨_,I',q⟩)
 . have hk:(k+(its.toArray.size:Int)).toNat=j:=by rw[seqIndex_neg (by omega) h3] at h1;rw[Jr,<- hl];exact Option.some.inj h1
   exact PySem.W.ki_setBack ho (by omega) (by rw[Jr,<- hl]; exact h3) (by omega) (by rw[hk]; exact⟨_,I',q⟩)
def ID (lo hi:Option Int) (n:Nat):(sliceBounds lo hi none n).1=((HT.sIx n 0 lo:Nat):Int)/\(sliceBounds lo hi none n).2.1=((HT.sIx n n hi:Nat):Int)/\(sliceBounds lo hi none n).2.2=1:=by
 refine⟨?_,?_,rfl⟩
 . cases lo with
   | none=>simp [sliceBounds,HT.sIx]
   | some i =>
     simp only[sliceBounds,HT.sIx,Option.getD_none,show(1:Int) > 0 by decide,if_true];by_cases h:i<0
     . simp only[h,if_true] <;> omega
     . simp only[h,if_false] <;> omega
 . cases hi with
   | none=>simp [sliceBounds,HT.sIx]
   | some i =>
     simp only[sliceBounds,HT.sIx,Option.getD_none,show(1:Int) > 0 by decide,if_true];by_cases h:i<0
     . simp only[h,if_true] <;> omega
     . simp only[h,if_false] <;> omega
def D3 (its:List Value) (lo hi:Option Int):slicePick its.toArray lo hi none=((its.drop (HT.sIx its.length 0 lo)).take (HT.sIx its.length its.length hi - HT.sIx its.length 0 lo)).toArray:=by obtain⟨h1,h2,h3⟩:=ID lo hi its.toArray.size;unfold slicePick;rw[h1,h2,h3];simp only[sliceRange_one,pick_run,Jr] <;> rfl
def xX (K:W.Frag):V->Option Int->Option Int->Hp->VK->Prop:=λx lo hi H Q=>∃a xs,x=.ref a/\aG K H a xs/\∀p,H p=none->Q (.ref p) (upd H p (.lst (gS xs lo hi)))
def kn:oP X (xX X.K):=by intro pins s σ H x v vl vu lo hi sl Q I rx hs pl pu h;obtain⟨a,xs,rfl,hx,q⟩:=h;cases rx;obtain⟨its,r,ht,hz⟩:=I.list hx;have hlen:=r.length;refine⟨"list",_,slot_list_getitem.lookup,ht.isList.typeIs,?_⟩;refine wpAny_getItem_list_slice ht.isList hs pl pu .none (by simp) ?_ (by rw[Jr] <;> omega);rw[D3,<- hlen];refine⟨.ref s.heap.objs.size,_,I.laid (t':=s.toks) (o:=.lst (gS xs lo hi)) (λb ob q=>JX _ q) (JZ _) ?_,rfl,q _ (I.hok.fresh (JZ _))⟩;exact⟨K0 (Be xs lo hi) hz,_,0,(r.drop (HT.sIx xs.length 0 lo)).take (HT.sIx xs.length xs.length hi - HT.sIx xs.length 0 lo),Jn _ rfl⟩
def iK:V->Bool
 | .non=>true
 | .bl _=>true
 | .int _=>true
 | .str _=>true
 | _=>false
def jC:V->V->Bool
 | .non,.non=>true
 | .bl a,.bl b=>a==b
 | .bl a,.int b=>(if a then 1 else 0)==b
 | .int a,.bl b=>a==(if b then 1 else 0)
 | .int a,.int b=>a==b
 | .str a,.str b=>a==b
 | _,_=>false
def Gz {A:Around} {s:Shared} {y x:V} {u v:Value} (ry:aX y u) (rx:aX x v) (fy:iK y=true) (fx:iK x=true):SeqAt.EqAt A s u v (jC y x):=by
 cases y with
 | non =>
   cases ry;cases x with
   | non=>cases rx; exact SeqAt.EqAt.same _
   | bl b=>cases rx; exact SeqAt.EqAt.none_bool b
   | int b=>obtain⟨t,rfl⟩:=rx; exact SeqAt.EqAt.none_int b t
   | str b=>obtain⟨t,rfl⟩:=rx; exact SeqAt.EqAt.none_str b t
   | _=>exact absurd (show false=true from fx) Jj
 | bl a =>
   cases ry;cases x with
   | non=>cases rx; exact SeqAt.EqAt.bool_none a
   | bl b=>cases rx; exact SeqAt.EqAt.bool_bool a b
   | int b=>obtain⟨t,rfl⟩:=rx; exact SeqAt.EqAt.bool_int a b t
   | str b=>obtain⟨t,rfl⟩:=rx; exact SeqAt.EqAt.bool_str a b t
   | _=>exact absurd (show false=true from fx) Jj
 | int a =>
   obtain⟨t',rfl⟩:=ry;cases x with
   | non=>cases rx; exact SeqAt.EqAt.int_none a t'
   | bl b=>cases rx; exact SeqAt.EqAt.int_bool a t' b
   | int b=>obtain⟨t,rfl⟩:=rx; exact SeqAt.EqAt.int_int a t' b t
   | str b=>obtain⟨t,rfl⟩:=rx; exact SeqAt.EqAt.int_str a t' b t
   | _=>exact absurd (show false=true from fx) Jj
 | str a =>
   obtain⟨t',rfl⟩:=ry;cases x with
   | non=>cases rx; exact SeqAt.EqAt.str_none a t'
   | bl b=>cases rx; exact SeqAt.EqAt.str_bool a t' b
   | int b=>obtain⟨t,rfl⟩:=rx; exact SeqAt.EqAt.str_int a t' b t
   | str b=>obtain⟨t,rfl⟩:=rx; exact SeqAt.EqAt.str_str a t' b t
   | _=>exact absurd (show false=true from fx) Jj
 | _=>exact absurd (show false=true from fy) Jj
def ii (x:V) (u:Value):Bool:=match u with
 | .none=>jC .non x
 | .bool b=>jC (.bl b) x
 | .int i _=>jC (.int i) x
 | .str z _=>jC (.str z) x
 | _=>false
def wK {x y:V} {u:Value} (r:aX y u) (f:iK y=true):ii x u=jC y x:=by
 cases y with
 | non=>cases r; rfl
 | bl b=>cases r; rfl
 | int i=>obtain⟨t,rfl⟩:=r; rfl
 | str z=>obtain⟨t,rfl⟩:=r; rfl
 | _=>exact absurd (show false=true from f) Jj
theorem tR {x:V}:∀{xs:List V} {us:List Value},aT xs us->xs.all iK=true->us.any (ii x)=xs.any λy=>jC y x
 | _,_,.nil,_=>rfl
 | y :: xs,u :: us,.cons r t,f=>by rw[List.all_cons,Jx] at f;rw[Ls,Ls,wK r f.1,tR t f.2]
theorem sX {A:Around} {s:Shared} {x:V} {v:Value} (rx:aX x v) (fx:iK x=true):∀{xs:List V} {us:List Value},aT xs us->xs.all iK=true->∀u∈us,SeqAt.EqAt A s u v (ii x u)
 | _,_,.nil,_=>λu hu=>by cases hu
 | y :: xs,u :: us,.cons r t,f=>λu' hu=>by
   rw[List.all_cons,Jx] at f;rcases Jl.mp hu with rfl|hu
   . rw[wK r f.1]; exact Gz r rx f.1 fx
   . exact sX rx fx t f.2 u' hu
def fS (x:V) (xs:List V):Bool:=xs.any λy=>jC y x
def rIn (K:W.Frag) (neg:Bool):R2:=λx y H Q=>∃p xs,y=.ref p/\(aG K H p xs\/aI K H p xs)/\iK x=true/\xs.all iK=true/\Q (.bl (if neg then !fS x xs else fS x xs)) H
def jx:c6 X (compareOp .In) (rIn X.K false):=by
 intro pins s σ H x y v u Q I rx ry h;obtain⟨p,xs,rfl,hq,fx,fs,q⟩:=h;cases ry;rcases hq with hq|hq
 . obtain⟨its,r,pl,hz⟩:=I.list hq;refine SeqAt.in_listAt (ii x) pl.isList (λw hw=>sX rx fx r fs w (by simpa using hw)) ⟨.bl _,H,I,rfl,?_⟩;rw[show its.toArray.any (ii x)=its.any (ii x) by simp,tR r fs];exact q
 . obtain⟨its,r,pl,hz⟩:=I.tuple hq;refine SeqAt.in_tupleAt (ii x) pl (λw hw=>sX rx fx r fs w (by simpa using hw)) ⟨.bl _,H,I,rfl,?_⟩;rw[show its.toArray.any (ii x)=its.any (ii x) by simp,tR r fs];exact q
def tS:aw X (.builtin "len") (λxs H Q=>∃p ys,xs=[.ref p]/\(aG X.K H p ys\/aI X.K H p ys)/\Q (.int ys.length) H):=by
 intro pins s σ H xs us Q I r h;obtain⟨p,ys,rfl,hq,q⟩:=h;obtain⟨u,rfl,rx⟩:=hU r;cases rx;have hn:=jl;rcases hq with hq|hq
 . obtain⟨its,r',pl,hz⟩:=I.list hq;have hlen:=r'.length;exact Calls.call_len_list pl.isList (by simp only[Jr] <;> omega) ⟨.int ys.length,H,I.tok _,⟨s.toks+1,by rw[Jr,hlen]⟩,q⟩
 . obtain⟨its,r',pl,hz⟩:=I.tuple hq;have hlen:=r'.length;exact len_tuple pl (by simp only[Jr] <;> omega) ⟨.int ys.length,H,I.tok _,⟨s.toks+1,by rw[Jr,hlen]⟩,q⟩
def pj:aw X (.builtin "len") (λxs H Q=>∃z,xs=[.str z]/\z.length<=sizeLine/\Q (.int z.length) H):=by intro pins s σ H xs us Q I r h;obtain⟨z,rfl,hz,q⟩:=h;obtain⟨u,rfl,t,rfl⟩:=hU r;have hn:=jl;exact len_str (by omega) ⟨.int z.length,H,I.tok _,⟨_,rfl⟩,q⟩
def kG:aw X (.type "list") (λxs H Q=>∃p ys,xs=[.ref p]/\(aG X.K H p ys\/aI X.K H p ys)/\∀l,H l=none->Q (.ref l) (upd H l (.lst ys))):=by
 intro pins s σ H xs us Q I r h;obtain⟨p,ys,rfl,hq,q⟩:=h;obtain⟨u,rfl,rx⟩:=hU r;cases rx;have fin:∀(its:List Value),aT ys its->ys.length<=sizeLine->∀(h':Heap) (c':Nat),(∀b o',s.heap.get? b=some o'->h'.get? b=some o') ->
     h'.get? s.heap.objs.size=some { cls:=.type "list",dict:=none,data:=.seq its.toArray c',slots:=#[] }->EP X pins σ Q (.ref s.heap.objs.size) { s with heap:=h' }:=λits r' hz h' c' kp e =>
   ⟨.ref s.heap.objs.size,_,I.laid (t':=s.toks) kp (JZ _) (show c7 X.prog X.w _ h' _ (.lst ys) from⟨hz,its,c',r',e⟩),rfl,q _ (I.hok.fresh (JZ _))⟩
 rcases hq with hq|hq
 . obtain⟨its,r',pl,hz⟩:=I.list hq;have hlen:=r'.length;obtain⟨o,ho,hc,n,hd⟩:=pl.isList;exact call_list_seq p (.inl rfl) ho hc hd (λh' c' kp e=>fin its r' hz h' c' kp e) (by simp only[Jr] <;> omega)
 . obtain⟨its,r',pl,hz⟩:=I.tuple hq;have hlen:=r'.length;obtain⟨o,ho,hc,n,hd⟩:=pl;exact call_list_seq p (.inr rfl) ho hc hd (λh' c' kp e=>fin its r' hz h' c' kp e) (by simp only[Jr] <;> omega)
def nr:aw X (.type "tuple") (λxs H Q=>∃p ys,xs=[.ref p]/\((aG X.K H p ys/\∀l,H l=none->Q (.ref l) (upd H l (.tup ys)))\/(aI X.K H p ys/\Q (.ref p) H))):=by
 intro pins s σ H xs us Q I r h;obtain⟨p,ys,rfl,h⟩:=h;obtain⟨u,rfl,rx⟩:=hU r;cases rx;rcases h with⟨hq,q⟩|⟨hq,q⟩
 . obtain⟨its,r',pl,hz⟩:=I.list hq;have hlen:=r'.length;refine call_tuple_list pl.isList (λh' kp=>?_) (by simp only[Jr] <;> omega);have I1:Inv X pins σ H { s with heap:=h' }:=I.kept (t':=s.toks) kp;have I2:Inv X pins σ (upd H h'.objs.size (.tup ys)) { s with heap:=h'.push { cls:=.type "tuple",data:=.seq its.toArray } } :=
     I1.laid (t':=s.toks) (λb o e=>JX _ e) (JZ _) (show c7 X.prog X.w _ _ _ (.tup ys) from⟨hz,its,r',IsTup.new _ _⟩)
   exact⟨.ref h'.objs.size,_,I2,rfl,q _ (I1.hok.fresh (JZ _))⟩
 . obtain⟨its,r',pl,hz⟩:=I.tuple hq;exact call_tuple_same pl ⟨.ref p,H,I,rfl,q⟩
def t7 (K:W.Frag) (T:String) (x:V) (H:Hp):Prop:=match x with
 | .str _=>T="str"
 | .int _=>T="int"
 | .ref p=>(T="list"/\∃xs,aG K H p xs)\/(T="tuple"/\∃o,K.lookup p=some o/\o.cls=.type "tuple"/\o.dict=none) \/
     (T="dict"/\((∃kvs,H p=some (.dK kvs))\/∃kvs,H p=some (.dT kvs)))\/(T="set"/\∃S n,H p=some (.set S n))
 | _=>False
theorem yL {pins:List (Addr×Obj)} {σ:St} {H:Hp} {s:Shared} {T:String} {x:V} {v:Value} (I:Inv X pins σ H s) (r:aX x v) (ty:t7 X.K T x H) :
   s.TypeIs v T/\∀a,v=.ref a->∃ob,s.heap.get? a=some ob/\ob.dict=none:=by
 cases x with
 | str z =>
   obtain⟨t,rfl⟩:=r;cases (show T="str" from ty);exact⟨typeIs_str s z t,λ_ e=>nomatch e⟩
 | int i =>
   obtain⟨t,rfl⟩:=r;cases (show T="int" from ty);exact⟨typeIs_int s i t,λ_ e=>nomatch e⟩
 | ref p =>
   cases r;rcases ty with⟨rfl,xs,hq⟩|⟨rfl,o,hk,hc,hd⟩|⟨rfl,hk⟩|⟨rfl,S,n,hk⟩
   . obtain⟨its,_,pl,_⟩:=I.list hq;refine⟨pl.isList.typeIs,λa e=>?_⟩;cases e;obtain⟨o,n,e,c,hd,_⟩:=pl;exact⟨o,e,hd⟩
   . refine⟨⟨o,I.kIn p o hk,hc⟩,λa e=>?_⟩;cases e;exact⟨o,I.kIn _ o hk,hd⟩
   . have z:∃o,s.heap.get? p=some o/\o.ExactDict:=by
       rcases hk with⟨kvs,hk⟩|⟨kvs,hk⟩
       . obtain⟨_,_,_,_,o,_,_,e,ex,_⟩:=I.hok p _ hk;exact⟨o,e,ex⟩
       . obtain⟨_,_,_,_,o,_,_,e,ex,_⟩:=I.hok p _ hk;exact⟨o,e,ex⟩
     obtain⟨o,e,ex⟩:=z;refine⟨⟨o,e,ex.1⟩,λa e2=>?_⟩;cases e2;exact⟨o,e,ex.2.1⟩
   . obtain⟨o,_,_,_,e,ex,_⟩:=I.hok p _ hk;refine⟨⟨o,e,ex.1⟩,λa e2=>?_⟩;cases e2;exact⟨o,e,ex.2.1⟩
 | _=>exact False.elim ty
def Fs (K:W.Frag) (T:String) (r:V->List V->Hp->VK->Prop) (to:TE):TE:=λσ H Q=>to σ H λx H1=>t7 K T x H1/\r x [] H1 Q
def tBM (K:W.Frag) (T:String) (r:V->List V->Hp->VK->Prop) (to:TE) (t:TA):TE:=λσ H Q=>to σ H λx H1=>t7 K T x H1/\t σ H1 λxs H2=>r x xs H2 Q
variable {o e:Expr} {es:List Expr} {to:TE} {t:TA} {name:Str} {apos cpos:Pos} {T id:String} {r:V->List V->Hp->VK->Prop}
theorem BV (pa:PlainAttrs T) (slot:Slot T name id) (hty:typeOf (.builtin id)=pure (.type "method_descriptor")) (hm:mB X id r) (ho:PE X o to)
   (hbase:attributeBase o name X.env (eval o X.env)=eval o X.env:=by rfl) (hline:(apos.endLine==cpos.line)=true:=by rfl):PE X (.Call (.Attribute o name apos) [] [] cpos) (Fs X.K T r to):=by
 intro pins s σ H Q I h;refine MZ hbase hline (aO (ho pins s σ H _ I h) λv s1 ⟨x,H1,I1,r1,ty,q1⟩=>?_);obtain⟨h1,h2⟩:=yL I1 r1 ty;exact⟨T,id,pa,slot,hty,h1,h2,Calls.callWith_builtin rfl (PySem.evalArgs_none (hm pins s1 σ H1 x [] v [] Q I1 r1 .nil q1))⟩
theorem cH (pa:PlainAttrs T) (slot:Slot T name id) (hty:typeOf (.builtin id)=pure (.type "method_descriptor")) (hm:mB X id r) (ho:PE X o to) (ha:PA X (e :: es) t)
   (hbase:attributeBase o name X.env (eval o X.env)=eval o X.env:=by rfl)
   (hfew:((backTo cpos (starEach (e :: es) X.env)).all (λx=>!x.1)&&(backToKw cpos (keywordEach [] X.env)).all (λx=>x.1.isSome)
     && decide ((e :: es).length+([]:List Keyword).length+(if([]:List Keyword).isEmpty then 0 else 1)<30))=true:=by rfl)
   (hline:(apos.endLine==cpos.line)=true:=by rfl) (hs:starEach (e :: es) X.env=(false,eval e X.env) :: starEach es X.env:=by rfl) (hplain:(backTo cpos (starEach es X.env)).any (·.1)=false:=by rfl) :
   PE X (.Call (.Attribute o name apos) (e :: es) [] cpos) (tBM X.K T r to t):=by
 intro pins s σ H Q I h;refine wpAny_Call_method_late hbase hfew hline rfl (aO (ho pins s σ H _ I h) λv s1 ⟨x,H1,I1,r1,ty,q1⟩=>?_);obtain⟨h1,h2⟩:=yL I1 r1 ty;refine⟨T,id,pa,slot,hty,h1,h2,?_⟩;have hA:=ha cpos pins s1 σ H1 _ I1 q1;rw[hs] at hA ⊢;refine Calls.callWith_builtin (by show(false || (backTo cpos (starEach es X.env)).any (·.1))=false; rw[hplain] <;> rfl) (Calls.evalArgs_plain ?_);exact aO hA λus s2 ⟨vs,H2,I2,r2,q2⟩=>hm pins s2 σ H2 x vs v us Q I2 r1 r2 q2
end
def ma (X:Cx) (id:String) (r:V->List V->Hp->VK->Prop):Prop :=
 ∀(pins:List (Addr×Obj)) (s:Shared) (σ:St) (H:Hp) (x:V) (xs:List V) (v:Value) (us:List Value) (Q:VK),Inv X pins σ H s->aX x v->aT xs us->r x xs H Q ->
   wpAny (model X.prog X.w) X.A (call (.builtin id) (v :: us)) (EP X pins σ Q) X.xe s
theorem aT.one:∀{x:V} {us:List Value},aT [x] us->∃u,us=[u]/\aX x u
 | _,_,.cons r .nil=>⟨_,rfl,r⟩
theorem aT.zero:∀{us:List Value},aT [] us->us=[]
 | _,.nil=>rfl
def aT.dropLast {xs:List V} {us:List Value} (h:aT xs us):aT xs.dropLast us.dropLast:=by
 induction h with
 | nil=>exact .nil
 | cons r t ih =>
   cases t with
   | nil=>exact .nil
   | cons q t'=>exact .cons r ih
theorem aT.rep {xs:List V} {us:List Value} (h:aT xs us):∀k:Nat,aT (List.replicate k xs).flatten (List.replicate k us).flatten
 | 0=>.nil
 | k+1=>by rw[KQ,KQ,KE,KE];exact aT.append h (aT.rep h k)
def Et {α:Type} (l:List α):l.eraseIdx (l.length - 1)=l.dropLast:=by
 induction l with
 | nil=>rfl
 | cons a r ih =>
   cases r with
   | nil=>rfl
   | cons b r =>
     have e:(a :: b :: r).length - 1=((b :: r).length - 1)+1:=by have h1:(a :: b :: r).length=r.length+2:=rfl;have h2:(b :: r).length=r.length+1:=rfl;omega
     rw[e,List.eraseIdx_cons_succ,ih]
     all_goals rfl
theorem vg (its:List Value):∀(k:Nat) (acc:List Value),
   List.foldl (λx1 x2=>x1++x2) acc.toArray (List.replicate k its.toArray)=(acc++(List.replicate k its).flatten).toArray
 | 0,acc=>by simp
 | k+1,acc=>by
   have e:acc.toArray++its.toArray=(acc++its).toArray:=by simp
   have e2:(acc++its)++(List.replicate k its).flatten=acc++(List.replicate (k+1) its).flatten:=by rw[KQ,KE,Jm]
   rw[<- e2,<- vg its k (acc++its),<- e,KQ,LP]
section
variable {X:Cx} {pins:List (Addr×Obj)} {σ:St} {H:Hp} {s:Shared} {l b:Addr} {xs ys zs:List V}
theorem Inv.lset {its its':List Value} {f:Array Value->Array Value} {t':Nat} (I:Inv X pins σ H s) (hH:H l=some (.lst xs))
   (e:s.heap.get? l=some { cls:=.type "list",data:=.seq its.toArray n }) (hf:f its.toArray=its'.toArray) (hv:aT ys its') (hz:ys.length<=sizeLine) :
   Inv X pins σ (upd H l (.lst ys)) { s with heap:=s.heap.update l (Obj.mapSeq f),toks:=t' }:=by
 have q:=PySem.IsL.update e f;rw[hf] at q;refine I.write (x:=l) (e:=l) (by rw[hH]; exact trivial) (.inl rfl) (λb' u hb hu=>(KR s.heap (Obj.mapSeq f) (Ne.symm hb)).trans hu) ⟨_,q⟩ ?_;exact⟨hz,its',_,hv,q⟩
theorem Inv.lnew {its:List Value} {t':Nat} (I:Inv X pins σ H s) (hv:aT ys its) (hz:ys.length<=sizeLine) :
   Inv X pins σ (upd H s.heap.objs.size (.lst ys)) { s with heap:=s.heap.push { cls:=.type "list",data:=.seq its.toArray },toks:=t' } :=
 I.laid (λ_ _ q=>JX _ q) (JZ _) ⟨hz,its,0,hv,Jn _ rfl⟩
def Inv.fresh (I:Inv X pins σ H s):H s.heap.objs.size=none:=I.hok.fresh (JZ _)
def Inv.lstM (I:Inv X pins σ H s) (hH:H l=some (.lst xs)):xs.length<=sizeLine/\∃(its:List Value) (n:Nat),aT xs its/\xs.length=its.length/\s.heap.get? l=some { cls:=.type "list",data:=.seq its.toArray n }:=by obtain⟨z,its,n,r,e⟩:=I.hok l _ hH;exact⟨z,its,n,r,r.length,e⟩
def yg (h:n<=sizeLine):Builtin.List.listTooLong n=false:=by unfold Builtin.List.listTooLong;exact KF (by omega)
end
section
variable {X:Cx}
def Cb:V->List V->Hp->VK->Prop:=λx vs H Q=>∃l xs y,x=.ref l/\vs=[y]/\H l=some (.lst xs)/\xs.length<sizeLine/\Q .non (upd H l (.lst (xs++[y])))
def jQ:ma X "list.append" Cb:=by intro pins s σ H x vs v us Q I rx rv h;obtain⟨l,xs,y,rfl,rfl,hH,hz,q⟩:=h;cases rx;obtain⟨u,rfl,ru⟩:=rv.one;obtain⟨z,its,n,r,hl,e⟩:=I.lstM hH;refine call_meets F.slot_list_append ⟨_,e,rfl⟩ F.entry_list_append (F.args_list_append_2 _ _) (PySem.list_append l its.toArray n u (by rw[Jr]; omega)) ⟨e,?_⟩;refine⟨.non,_,I.lset (its':=its++[u]) hH e (by simp) (r.append (.cons ru .nil)) ?_,rfl,q⟩;rw[JS,List.length_singleton];omega
def GO:V->List V->Hp->VK->Prop:=λx vs H Q=>∃l b xs zs,x=.ref l/\vs=[.ref b]/\H l=some (.lst xs)/\H b=some (.lst zs)/\xs.length+zs.length<=sizeLine/\Q .non (upd H l (.lst (xs++zs)))
def FX:ma X "list.extend" GO:=by
 intro pins s σ H x vs v us Q I rx rv h;obtain⟨l,b,xs,zs,rfl,rfl,hH,hB,hz,q⟩:=h;cases rx;obtain⟨u,rfl,ru⟩:=rv.one;cases ru;obtain⟨z,its,n,r,hl,e⟩:=I.lstM hH;obtain⟨z2,its2,n2,r2,hl2,e2⟩:=I.lstM hB;have hsz:its.toArray.size+its2.toArray.size<=sizeLine:=by rw[Jr,Jr]; omega
 have hlong:¬ (!its.toArray.isEmpty&&Builtin.List.listTooLong (its.toArray.size+its2.toArray.size))=true:=by rw[yg hsz,Lo];exact Jj
 refine call_meets F.slot_list_extend ⟨_,e,rfl⟩ F.entry_list_extend (F.args_list_extend_2 _ _)
   (AutoSeq1.list_extend_list_list_0 l its.toArray n b its2.toArray n2 hlong (by rw[Jr]; omega) (by omega)) ⟨e,e2,?_⟩
 refine⟨.non,_,I.lset (its':=its++its2) hH e (by simp) (r.append r2) ?_,rfl,q⟩;rw[JS];omega
def B5:V->List V->Hp->VK->Prop:=λx vs H Q=>∃l xs y,x=.ref l/\vs=[]/\H l=some (.lst xs)/\xs[xs.length - 1]?=some y/\Q y (upd H l (.lst xs.dropLast))
def BF:ma X "list.pop" B5:=by
 intro pins s σ H x vs v us Q I rx rv h;obtain⟨l,xs,y,rfl,rfl,hH,hy,q⟩:=h;cases rx;have hus:=rv.zero;subst hus;obtain⟨z,its,n,r,hl,e⟩:=I.lstM hH;obtain⟨u,hu,ru⟩:=r.get hy;have hy':its.toArray[its.toArray.size - 1]?=some u:=by show its.toArray[its.length - 1]?=some u;rw[<- Array.getElem?_toList,<- hl];exact hu
 refine call_meets F.slot_list_pop ⟨_,e,rfl⟩ F.entry_list_pop (F.args_list_pop_1 _) (MeetsSeq.list_pop_last l its.toArray n u hy' (by rw[Jr]; omega)) ⟨e,?_⟩;refine⟨y,_,I.lset (its':=its.dropLast) hH e ?_ r.dropLast ?_,ru,q⟩
 . show its.toArray.eraseIdxIfInBounds (its.toArray.size - 1)=its.dropLast.toArray;rw[Jr,List.eraseIdxIfInBounds_toArray,Et]
 . rw[List.length_dropLast];omega
def Cm:R2:=λx y H Q=>∃l b xs zs,x=.ref l/\y=.ref b/\H l=some (.lst xs)/\H b=some (.lst zs)/\xs.length+zs.length<=sizeLine/\∀p,H p=none->Q (.ref p) (upd H p (.lst (xs++zs)))
def kL:c6 X (binaryOp .Add) Cm:=by
 intro pins s σ H x y v u Q I rx ry h;obtain⟨l,b,xs,zs,rfl,rfl,hH,hB,hz,q⟩:=h;cases rx;cases ry;obtain⟨z,its,n,r,hl,e⟩:=I.lstM hH;obtain⟨z2,its2,n2,r2,hl2,e2⟩:=I.lstM hB;refine PySem.P.add_list e e2 ?_ (by rw[Jr,Jr]; omega);have ea:its.toArray++its2.toArray=(its++its2).toArray:=by simp
 rw[ea];exact⟨.ref _,_,I.lnew (t':=s.toks) (r.append r2) (by rw[JS]; omega),rfl,q _ I.fresh⟩
def BJ:R2:=λx y H Q=>∃l k xs,x=.ref l/\y=.int k/\H l=some (.lst xs)/\-(2 ^ 63)<=k/\k<2 ^ 63/\xs.length * k.toNat<=sizeLine /\
 ∀p,H p=none->Q (.ref p) (upd H p (.lst (List.replicate k.toNat xs).flatten))
def lU {α:Type} (xs:List α) (k:Nat):(List.replicate k xs).flatten.length=k * xs.length:=by
 induction k with
 | zero=>simp
 | succ k ih=>rw[KQ,KE,JS,ih,Nat.succ_mul,Nat.add_comm]
theorem ml:c6 X (binaryOp .Mult) BJ:=by
 intro pins s σ H x y v u Q I rx ry h;obtain⟨l,k,xs,rfl,rfl,hH,h1,h2,hz,q⟩:=h;cases rx;obtain⟨t,rfl⟩:=ry;obtain⟨z,its,n,r,hl,e⟩:=I.lstM hH;have hlen:its.toArray.size * k.toNat<=sizeLine:=by rw[Jr,<- hl]; exact hz
 have hcap:¬ its.toArray.size * k.toNat > (2 ^ 63 - 1) / 8:=by
   have:(sizeLine:Nat)<=(2 ^ 63 - 1) / 8:=by decide
   omega
 have hfit:¬ (!Builtin.List.listFitsIndex k)=true:=by rw[fitsIndex_both h1 h2];exact Jj
 have hlong:¬ Builtin.List.listTooLong (its.toArray.size * k.toNat)=true:=by rw[yg hlen];exact Jj
 have hnew:List.foldl (λx1 x2=>x1++x2) #[] (List.replicate (if its.toArray.isEmpty=true then 0 else k.toNat) its.toArray)=(List.replicate k.toNat its).flatten.toArray:=by
   have f0:∀m:Nat,List.foldl (λx1 x2=>x1++x2) #[] (List.replicate m its.toArray)=(List.replicate m its).flatten.toArray:=λm=>by have:=vg its m [];rw[Lf] at this;exact this
   rw[f0];cases its with
   | nil=>simp
   | cons a r'=>rw[Ja (by simp)]
 refine wpAny_binaryOp_repeat_ref (T:="list") (U:="int") (by decide) ⟨_,e,rfl⟩ (λs'=>typeIs_int s' k t) noFill_list_mul F.fills_int_mul F.slot_int_rmul repeat_list F.slot_int_index.lookup
   (call_meets F.slot_int_rmul (typeIs_int s k t) F.entry_int_rmul (F.args_int_rmul_2 _ _) (int___rmul___int_list k t l its.toArray n)
     ⟨e,rfl,⟨_,e,rfl⟩,call_meets F.slot_list_mul ⟨_,e,rfl⟩ F.entry_list_mul (F.args_list_mul_2 _ _) (AutoListH.list___mul___list_int_3 l its.toArray n k t hfit hcap hlong) ⟨e,?_⟩⟩)
 rw[hnew];exact⟨.ref _,_,I.lnew (t':=s.toks) (r.rep k.toNat) (by rw[lU,M1]; exact hz),rfl,q _ I.fresh⟩
end
end L2
namespace Att
open PySem PySem.W PySem.Calls PyProof.Rows
def J3 {P:Params} {h:Heap}:∀(ns:List Int) (vs:List Value),WellAll P h vs (ns.map WData.int)->IntsAre vs ns:=by
 intro ns
 induction ns with
 | nil =>
   intro vs w;rw[MS] at w;cases w;exact .nil
 | cons n ns ih =>
   intro vs w;rw[KG] at w;cases w with
   | cons a b =>
     cases a;exact .cons _ _ (ih _ b)
theorem FB {l:OpenLaw} {n:Nat} (hn:l.most=some n) {P:Params} {h:Heap} {args:List WData} {vals:List Value}
   (hpre:l.row.toRowW.claim.pre args=true) (hwl:WellAll P h vals args) :
   ∃a vs ns,vals=[Value.ref a]/\args=[WData.list (ns.map WData.int)]/\h.get? a=some { cls:=.type "list",data:=.seq vs.toArray }/\IntsAre vs ns/\ns.length<=n:=by
 have sV:WShape.hasAll [] args [.list .int]=true:=(pre_splitW hpre).1;have hc:l.pre.holds [] { args:=args }=true:=(pre_splitW hpre).2;obtain⟨d,r,rfl,h1,h2⟩:=hasAllW_cons sV;obtain rfl:=hasAllW_nil h2;obtain⟨xs,rfl,h3⟩:=hasW_list h1;obtain⟨ns,rfl⟩:=items_int h3;have hlen:ns.length<=n:=by
   unfold OpenLaw.pre at hc;have h4:(WTm.not (.lt (.lit (.int (n:Int))) (.len (.arg 0)))).holds [] { args:=[.list (ns.map .int)] }=true:=by have h4:=(holds_andW hc).1;rw[hn] at h4;exact h4
   have h5:=condW_of h4 (w_not (w_lt w_lit (w_len_list (w_arg rfl))));rw[JR] at h5;refine Nat.le_of_not_lt λq=>?_;have q':(n:Int)<((ns.length:Nat):Int):=by omega
   first
     | (rw[K3 q'] at h5; exact absurd h5 (by decide))
     | (simp at h5; omega)
 cases hwl with
 | cons w1 w2 =>
   cases w2;cases w1 with
   | list ho hall=>exact⟨_,_,ns,rfl,rfl,ho,J3 ns _ hall,hlen⟩
def Bh (l:OpenLaw) (args:List WData):l.row.toRowW.claim.post args (.bool true) args=true :=
 postW_of (r:=l.row.toRowW) (X:=(true==true))
   (show WShape.has [] (.bool true) .bool=true by first|rfl|decide|simp [WShape.has,WShape.arms,WShape.armsAll])
   (show(WTm.eq .res (.lit (.bool true))).value [] { args:=args,res:=some (.bool true),after:=args }=some (.bool (true==true)) from w_eq_bool (w_res rfl) w_lit) rfl
theorem attach_call {l:OpenLaw} {n:Nat} {q:Program} {loose:List Str} {XP:(Str->Option Value)->Heap->Prop} {YP:World->Heap->Prop} {d:DefRec}
   (hn:l.most=some n) (hdf:d.params.defaults=[])
   (call:∀(w:World) (s₀ s₁:Shared) (mg mb:Str->Option Value) (fa:Addr) (o:Obj) (pm cd doc:Value) (a:Addr) (vs:List Value) (ns:List Int),
     Ground q loose [] XP w s₀ mg mb s₁.heap->YP w s₁.heap ->
     s₁.heap.get? fa=some o->o.data=.func (docDef d.name d.params d.body d.scope pm cd doc)->s₁.heap.CodeRec cd d.name->mg d.name=some (.ref fa) ->
     s₁.heap.get? a=some { cls:=.type "list",data:=.seq vs.toArray }->IntsAre vs ns->ns.length<=n->s₁.gens=#[] ->
     codeAny (model l.prog w) callerA (.call (.ref fa) ⟨[.ref a],[]⟩) (λr s'=>r=.ok (.ret (.bool true))/\OldK s₁.heap s'.heap/\s'.os=s₁.os/\AllBare s'.gens) s₁) :
   WalkO q loose XP YP l.row.toRowW d [] (λf vs=>PySem.call f vs):=by
 intro w s₀ s₁ mg mb G Y fa o pm cd doc dV kV ho hd hcd hD hmg hg args vals as hpre hlay hrd hwl hlo;obtain rfl:dV=.none:=Dflts.none hD hdf;obtain rfl:kV=.none:=Dflts.noKw hD;obtain⟨a,vs,ns,rfl,rfl,hobj,hints,hlen⟩:=FB hn hpre hwl;refine enter_call (L' (call w s₀ s₁ mg mb fa o pm cd doc a vs ns G Y ho (fd_plain hd) hcd hmg hobj hints hlen hg) λr s' hq=>?_);obtain⟨rfl,h2,h3,h4⟩:=hq;exact⟨.inl ⟨.bool true,.bool true,[],rfl,λ_=>rfl,.bool true,Bh l _,λ_=>⟨List.Pairwise.nil,λ_ hm=>(nomatch hm)⟩⟩,h2,h3,h4⟩
end Att
namespace L2
open PySem PySem.Spec PyProof.Rows
theorem wn:∀{vs:List Value} {ns:List Int},IntsAre vs ns->aT (ns.map V.int) vs
 | _,_,.nil=>.nil
 | _,_,.cons n t h=>.cons ⟨t,rfl⟩ (wn h)
def pD (H:Hp):Prop:=∀b,H b=none\/∃o xs,H b=some (.frz o (.lst xs))
variable {x:Str}
theorem GG {P:Program} {w:World} {K:W.Frag} {mg mb:Str->Option Value} {CX:gL} {k:Nat} {fa a:Addr} {fd:FuncData} {sp:Sp} {s₁:Shared} {vs:List Value} {ns:List Int}
   (KX:K.In s₁.heap) (hns:s₁.heap.Ns mainGlobals mg) (hb:s₁.heap.Ns builtinsNs mb) (hbb:∀x:Str,x≠"__name__"->mb x=bootBuiltins x) (hlim:s₁.heap.NoLimit) (hg:s₁.gens=#[])
   (ha:s₁.heap.get? a=some { cls:=.type "list",data:=.seq vs.toArray }) (hi:IntsAre vs ns) (hl:ns.length<=sizeLine) (hr:Room k callerA)
   (F:∀base:Heap,K.In base->base.Ns mainGlobals mg->FnOk P w K mg base CX k fa fd [x] sp) (hbind:∀(s:Shared) (u:Value),BindsTo s fd ⟨[u],[]⟩ [(x,u)])
   (hsp:∀H:Hp,pD H->aG K H a (ns.map V.int)->sp [.ref a] H (λv _=>v=.bl true) λ_ _ _=>False)
   (hCX:∀H e s',CX [] H s₁ (λ_ _ _=>False) e s'->False) :
   codeAny (model P w) callerA (.call (.ref fa) ⟨[.ref a],[]⟩) (λr s'=>r=.ok (.ret (.bool true))/\OldK s₁.heap s'.heap/\s'.os=s₁.os/\AllBare s'.gens) s₁:=by
 have rv:=wn hi;have lenV:=hi.length
 -- from an abstract heap in which nothing but the script may be tracked
 have core:∀H:Hp,pD H->aG K H a (ns.map V.int)->bH P w H s₁.heap->(∀b,H b≠none->b=a)->(H a≠none->K.lookup a=none) ->
     codeAny (model P w) callerA (.call (.ref fa) ⟨[.ref a],[]⟩) (λr s'=>r=.ok (.ret (.bool true))/\OldK s₁.heap s'.heap/\s'.os=s₁.os/\AllBare s'.gens) s₁:=by
   intro H hO hS hok hA hK;have base_of:∀{b:Addr} {o:Obj},s₁.heap.get? b=some o->H b=none->(iT s₁.heap H).get? b=some o:=λe n=>GK e n;have noA:∀{b:Addr} {o:Obj} {es:Array DictEntry} {ep:Nat},s₁.heap.get? b=some o->o.data=.dict es ep->H b=none:=λ{b o es ep} e d=>by
     cases q:H b with
     | none=>rfl
     | some u =>
       have e':b=a:=hA b (by rw[q]; simp);subst e';rw[ha] at e; cases e;have d':Data.seq vs.toArray _=Data.dict es ep:=d;cases d'
   have nsK:∀{b:Addr} {m:Str->Option Value},s₁.heap.Ns b m->(iT s₁.heap H).Ns b m:=λ{b m} ⟨o,es,ep,e,d,r⟩=>⟨o,es,ep,base_of e (noA e d),d,r⟩
   have hKb:K.In (iT s₁.heap H):=λb o e=>base_of (KX b o e) (by
     cases q:H b with
     | none=>rfl
     | some u =>
       have e':b=a:=hA b (by rw[q]; simp);subst e';rw[hK (by rw[q]; simp)] at e; cases e)
   have hM:Mod K mg (iT s₁.heap H):=⟨hKb,nsK hns,⟨mb,nsK hb,hbb⟩,let ⟨mc,h1,h2⟩:=hlim; ⟨mc,nsK h1,h2⟩⟩
   have e0:Env0 P w K mg (iT s₁.heap H) callerA [] s₁ H:=⟨rfl,hM,λb o e=>FH e,Nat.le_of_eq (D9 _ _),trivial,λb hb=>absurd (show b∈([]:List Addr) from hb) (by simp),hok,.of_eq hg⟩
   refine L' ((F _ hKb (nsK hns)).run callerA [] s₁ H ⟨[.ref a],[]⟩ [.ref a] [.ref a] _ _ hr e0 (hbind s₁ (.ref a)) (.cons rfl .nil) (hsp H hO hS)) λr s' h=>?_;cases r with
   | error e=>exact(hCX H e s' h).elim
   | ok fl =>
     cases fl with
     | next=>exact False.elim h
     | brk=>exact False.elim h
     | cont=>exact False.elim h
     | ret u =>
       obtain⟨v,H',os,bare,un,hok',r',q⟩:=h;have q':v=.bl true:=q;subst q';obtain rfl:u=Value.bool true:=r';refine⟨rfl,OldK.of_keep λb o e=>?_,os,bare⟩;cases q:H b with
       | none=>exact un.keep b o e q (by intro z; exact absurd (show b∈([]:List Addr) from z) (by simp)) (by simp)
       | some u =>
         rcases hO b with z|⟨ob,xs,z⟩
         . rw[q] at z; cases z
         . have z2:=un.frzs b ob _ z;obtain⟨e1,_⟩:=hok b _ z;obtain⟨e2,_⟩:=hok' b _ z2;rw[e] at e1; cases e1;exact e2
 cases hk:K.lookup a with
 | some o =>
   -- the script is one of the module's own objects
   have e:=KX a o hk;rw[ha] at e;cases e;refine core (λ_=>none) (λ_=>.inl rfl) (.inr ⟨_,vs.toArray,_,hk,rfl,rfl,rfl,by rw[Jr,lenV]; exact hl,by simpa using rv⟩) (λb u z=>by have z':(none:Option HO)=some u:=z; cases z') (λb z=>absurd rfl z) λz=>absurd rfl z
 | none =>
   refine core (λb=>if b=a then some (.frz { cls:=.type "list",data:=.seq vs.toArray } (.lst (ns.map V.int))) else none) (λb=>?_) (.inl (.inr ⟨{ cls:=.type "list",data:=.seq vs.toArray },Je rfl⟩)) (λb u z=>?_) (λb z=>?_) λ_=>hk
   . by_cases hb:b=a
     . exact .inr ⟨_,_,Je hb⟩
     . exact .inl (Ja hb)
   . by_cases hb:b=a
     . have z':=(Je hb).symm.trans z;cases z';subst hb;exact⟨ha,by rw[JR]; exact hl,vs,_,rv,ha⟩
     . have z':=(Ja hb).symm.trans z;cases z'
   . by_cases hb:b=a
     . exact hb
     . exact absurd (Ja hb) z
abbrev KOf {K:W.Frag} {h:Heap} (_:K.In h):W.Frag:=K
theorem CA {l:PySem.W.OpenLaw} {n k:Nat} {q:Program} {loose:List Str} {XP:(Str->Option Value)->Heap->Prop} {YP:World->Heap->Prop} {d:DefRec} {K:Params->W.Frag} {CX:World->gL} {sp:World->Sp} 
   (hn:l.most=some n) (hn2:n<=sizeLine) (hdf:d.params.defaults=[]) (hr:Room k callerA)
   (hY:∀(w:World) (h:Heap),YP w h->(K w.params).In h)
   (F:∀(w:World) (mg:Str->Option Value) (fa:Addr) (h:Heap),(K w.params).In h->h.Ns mainGlobals mg->mg d.name=some (.ref fa) ->
     ∃fd:FuncData,(∀(s:Shared) (u:Value),BindsTo s fd ⟨[u],[]⟩ [(x,u)]) /\
       ∀base:Heap,(K w.params).In base->base.Ns mainGlobals mg->FnOk l.prog w (K w.params) mg base (CX w) k fa fd [x] (sp w))
   (hsp:∀(w:World) (H:Hp) (a:Addr) (ns:List Int),ns.length<=n->pD H->aG (K w.params) H a (ns.map V.int)->sp w [.ref a] H (λv _=>v=.bl true) λ_ _ _=>False)
   (hCX:∀(w:World) (H:Hp) (s:Shared) (e:Value) (s':Shared),CX w [] H s (λ_ _ _=>False) e s'->False) :
   PySem.W.WalkO q loose XP YP l.row.toRowW d [] (λf vs=>PySem.call f vs):=by
 refine Att.attach_call hn hdf λw s₀ s₁ mg mb fa o pm cd doc a vs ns G Y ho hd hcd hmg hobj hints hlen hg=>?_;have KX:=hY w _ Y;obtain⟨fd,hb,hF⟩:=F w mg fa _ KX G.T.g hmg;exact GG KX G.T.g G.T.b G.T.builtins G.T.nolimit hg hobj hints (K0 hlen hn2) hr hF hb (λH hO hS=>hsp w H a ns hlen hO hS) λH e s'=>hCX w H s₁ e s'
theorem walk_ofK {l:PySem.W.OpenLaw} {n k:Nat} {q:Program} {loose:List Str} {XP:(Str->Option Value)->Heap->Prop} {YP:World->Heap->Prop} {d:DefRec} {K:Params->W.Frag} {CX:gL} {sp:W.Frag->Sp} 
   (hn:l.most=some n) (hn2:n<=sizeLine) (hdf:d.params.defaults=[]) (hr:Room k callerA)
   (hY:∀(w:World) (h:Heap),YP w h->(K w.params).In h)
   (F:∀(w:World) (mg:Str->Option Value) (fa:Addr) (h:Heap),(K w.params).In h->h.Ns mainGlobals mg->mg d.name=some (.ref fa) ->
     ∃fd:FuncData,(∀(s:Shared) (u:Value),BindsTo s fd ⟨[u],[]⟩ [(x,u)]) /\
       ∀base:Heap,(K w.params).In base->base.Ns mainGlobals mg->FnOk l.prog w (K w.params) mg base CX k fa fd [x] (sp (K w.params)))
   (hsp:∀(K:W.Frag) (H:Hp) (a:Addr) (ns:List Int),ns.length<=n->pD H->aG K H a (ns.map V.int)->sp K [.ref a] H (λv _=>v=.bl true) λ_ _ _=>False)
   (hCX:∀(H:Hp) (s:Shared) (e:Value) (s':Shared),CX [] H s (λ_ _ _=>False) e s'->False) :
   PySem.W.WalkO q loose XP YP l.row.toRowW d [] (λf vs=>PySem.call f vs) :=
 CA (K:=K) (CX:=λ_=>CX) (sp:=λw=>sp (K w.params)) hn hn2 hdf hr hY F (λw H a ns h1 h2 h3=>hsp (K w.params) H a ns h1 h2 h3) λ_ H s e s'=>hCX H s e s'
def gg (s:Stmt) (j:Nat):Stmt:=match s with
 | .ClassDef _ _ _ body _ _ _ _ _ _ _=>body.getD j (.Pass ⟨0,0,0,0⟩)
 | _=>.Pass ⟨0,0,0,0⟩
def fe (s:Stmt):Arguments:=match s with
 | .FunctionDef _ a _ _ _ _ _ _ _ _=>a
 | _=>{ posonlyargs:=[],args:=[],vararg:=none,kwonlyargs:=[],kw_defaults:=[],kwarg:=none,defaults:=[] }
def bN (s:Stmt):List Stmt:=match s with
 | .FunctionDef _ _ b _ _ _ _ _ _ _=>b
 | _=>[]
def af (s:Stmt):Scope:=match s with
 | .FunctionDef _ _ _ _ _ _ sc _ _ _=>sc
 | _=>{ kind:=.function,names:=[],isGenerator:=false,isCoroutine:=false }
abbrev CX0:gL:=λ_ _ _ _ _ _=>False
abbrev E0:XK:=λ_ _ _=>False
def vz {X:Cx}:gN CX0 X E0:=λ_ _ _ _ _ _ _ h=>h.elim
structure Fun (K:W.Frag) (x qual:Str) (st:Stmt) (f:Addr) (fd:FuncData):Prop where
 ex:∃(oc:Value) (od:Option Addr) (kV doc pm:Value) (an:Option Addr) (cdv ct:Value) (osl:Array (Option Value)),
   fd=PySem.W.fnOf x qual (fe st) (bN st) (af st) .none kV doc pm an cdv ct/\K.lookup f=some ⟨oc,od,.func fd,osl⟩/\PySem.W.codeIn K cdv qual=true
 kp:PySem.W.keepIn K (.ref f)=true
variable {qual:Str}
section
variable {P:Program} {w:World} {K:W.Frag} {mg:Str->Option Value} {base:Heap}
theorem Fun.ok {st:Stmt} {f:Addr} {fd:FuncData} {N ps:List Str} {k:Nat} {sp:Sp} (F:Fun K x qual st f fd) (S:FnScope N ps (af st)) (len:∀vs H Q E,sp vs H Q E->vs.length=ps.length)
   (hbody:∀(cdv:Value) (A:Around) (outer:List Env) (s:Shared) (H:Hp) (vs:List V) (Q:VK) (E:XK),Room k (A.deeper (envOfC qual (af st) s.heap.objs.size f cdv))->sp vs H Q E ->
     ∃t,bD (bG CX0 P w K mg base N qual (af st) f cdv A outer s H E).nox (bN st) t/\t { nx:=λ_ H'=>Q .non H',rt:=Q } (iU N vs) H):FnOk P w K mg base CX0 (k+1) f fd ps sp:=by
 obtain⟨oc,od,kV,doc,pm,an,cdv,ct,osl,rfl,lk,hcd⟩:=F.ex;refine yX lk hcd S len λA outer s H vs Q E hr hsp=>?_;obtain⟨t,h,q⟩:=hbody cdv A outer s H vs Q E hr hsp;exact⟨t,h.nox,q⟩
theorem Fun.binds {st:Stmt} {f:Addr} {fd:FuncData} {ps:List Str} (F:Fun K x qual st f fd)
   (h:∀(kV doc pm:Value) (an:Option Addr) (cdv ct:Value) (us:List Value),us.length=ps.length->bindArgs (PySem.W.fnOf x qual (fe st) (bN st) (af st) .none kV doc pm an cdv ct) ⟨us,[]⟩=pure (ps.zip us)):gc K fd ps []:=by
 obtain⟨oc,od,kV,doc,pm,an,cdv,ct,osl,rfl,lk,hcd⟩:=F.ex;exact .all (h kV doc pm an cdv ct)
theorem kN {st:Stmt} {f:Addr} {oc:Value} {od an:Option Addr} {osl:Array (Option Value)} {kV doc pm cdv ct:Value} (l:K.lookup f=some ⟨oc,od,.func (PySem.W.fnOf x qual (fe st) (bN st) (af st) .none kV doc pm an cdv ct),osl⟩)
   (c:PySem.W.codeIn K cdv qual=true) (k:PySem.W.keepIn K (.ref f)=true):Fun K x qual st f (PySem.W.fnOf x qual (fe st) (bN st) (af st) .none kV doc pm an cdv ct):=⟨⟨oc,od,kV,doc,pm,an,cdv,ct,osl,rfl,l,c⟩,k⟩
end
def IN {n:Nat} (h:n<=1000):n<sizeLine:=Nat.lt_of_le_of_lt h (by decide)
section
variable {X:Cx}
def pv (i:Nat) {pos:Pos} (hN:X.N[i]?=some x:=by rfl) (hv:lE X.env.scope x:=by first|exact Or.inl rfl|exact Or.inr (Or.inl rfl)|exact Or.inr (Or.inr rfl)) (hd:(x==("__debug__":Str))=false:=by decide)
   (hcd:(x==("__classdict__":Str))=false:=by decide):PE X (.Name x pos) (xz i):=Ik hN hv hd hcd
end
def je {A B:Prop} (h:B):if false=true then A else B:=by rw[Ja Jj];exact h
def DH {A B:Prop} (h:A):if true=true then A else B:=by rw[Je rfl];exact h
def cx {c A B:Prop} [Decidable c] (h1:c->A) (h2:¬ c->B):if c then A else B:=by
 by_cases h:c
 . rw[Je h];exact h1 h
 . rw[Ja h];exact h2 h
def Same (H H':Hp):Prop:=∀b o,H b=some o->H' b=some o
def Same.refl (H:Hp):Same H H:=λ_ _ h=>h
def Same.trans {H H1 H2:Hp} (a:Same H H1) (b:Same H1 H2):Same H H2:=λc o h=>b c o (a c o h)
def Same.free {H H':Hp} (e:Same H H') {l:Addr} (h:H' l=Option.none):H l=Option.none:=by
 cases q:H l with
 | none=>rfl
 | some o =>
   rw[e l o q] at h;cases h
def Same.seq {K:W.Frag} {H H':Hp} {a:Addr} {xs:List V} (e:Same H H') (h:aG K H a xs):aG K H' a xs:=by
 rcases h with(h|⟨o,h⟩)|h
 . exact .inl (.inl (e _ _ h))
 . exact .inl (.inr ⟨o,e _ _ h⟩)
 . exact .inr h
end L2
set_option maxHeartbeats 4000000
namespace L2
open PySem PySem.Spec PyProof.Rows
def dP:List (Str×NameKind)->List (Str×Addr)->List (Str×Addr)->List (Str×Addr)
 | [],_,acc=>acc
 | (n,k) :: r,cells,acc=>if k==.free then dP r cells ((n,(cells.lookup n).getD 0) :: acc) else dP r cells acc
theorem wE {env:Env}:∀(names:List (Str×NameKind)) (acc:List (Str×Addr)),(∀y∈names,y.2=.free->∃c,env.cells.lookup y.1=some c) ->
   (forIn names acc λx r=>(match x with|(name,kind)=>if(kind==NameKind.free)=true then do let a <- cellOf env name; pure (ForInStep.yield ((name,a) :: r)) else pure (ForInStep.yield r):Sem (ForInStep (List (Str×Addr)))))=(pure (dP names env.cells acc):Sem (List (Str×Addr)))
 | [],acc,_=>rfl
 | (n,k) :: r,acc,h=>by
   have ih:=λacc=>wE (env:=env) r acc λy hy=>h y (K5 _ hy);rw[M3];unfold dP;cases hk:(k==NameKind.free) with
   | true =>
     obtain⟨c,hc⟩:=h (n,k) KA (by simpa using hk);have hc:env.cells.lookup n=some c:=hc;have e:cellOf env n=pure c:=by unfold cellOf; rw[hc]
     simp only[hk,if_true,e,pure_bind,hc,Option.getD_some];exact ih _
   | false =>
     simp only[hk,Lh,if_false,pure_bind];exact ih _
variable {scope:Scope}
def z7 {env:Env} (h:∀y∈scope.names,y.2=.free->∃c,env.cells.lookup y.1=some c):closureFor scope env=pure (dP scope.names env.cells []):=by
 have e:=wE (env:=env) scope.names [] h;unfold closureFor
 first
   | (rw[e]; rfl)
   | (simp only[e]; rfl)
   | exact(Jt (λt=>t >>= λr=>pure r) e)
theorem qD {cells:List (Str×Addr)}:∀(names:List (Str×NameKind)) (acc:List (Str×Addr)),(∀y∈names,y.2=.free->∃c,cells.lookup y.1=some c)->(∀x c,acc.lookup x=some c->cells.lookup x=some c) ->
   ∀x c,(dP names cells acc).lookup x=some c->cells.lookup x=some c
 | [],acc,_,h2=>h2
 | (n,k) :: r,acc,h,h2=>by
   unfold dP;cases hk:(k==NameKind.free) with
   | true =>
     rw[Je rfl];refine qD r _ (λy hy=>h y (K5 _ hy)) λx c e=>?_;obtain⟨c',hc⟩:=h (n,k) KA (by simpa using hk);have hc:cells.lookup n=some c':=hc;rw[Kv] at e;cases hx:x==n with
     | true =>
       have hx':x=n:=by simpa using hx
       rw[hx] at e;rw[hx',hc];simpa [hc] using e
     | false =>
       rw[hx] at e;exact h2 x c e
   | false =>
     rw[Ja (by simp)];exact qD r _ (λy hy=>h y (K5 _ hy)) h2
theorem qx {cells:List (Str×Addr)} {x:Str}:∀(names:List (Str×NameKind)) (acc:List (Str×Addr)),(acc.lookup x).isSome=true->((dP names cells acc).lookup x).isSome=true
 | [],_,h=>h
 | (n,k) :: r,acc,h=>by
   unfold dP;split
   . refine qx r _ ?_;rw[Kv];cases x==n <;> simp [h]
   . exact qx r _ h
theorem nY {cells:List (Str×Addr)} {x:Str}:∀(names:List (Str×NameKind)) (acc:List (Str×Addr)),(x,NameKind.free)∈names->((dP names cells acc).lookup x).isSome=true
 | (n,k) :: r,acc,h=>by
   unfold dP;rcases Jl.mp h with e|e
   . cases e;rw[Je (by rfl)];exact qx r _ (by rw[Kv]; simp)
   . split
     . exact nY r _ e
     . exact nY r _ e
def c8 (X:Cx) (N':List Str) (scope:Scope) (C:Addr) (s:Shared) (H:Hp) (fp:List Addr):Cx :=
 { X with N:=N',s₀:=s,H₀:=H,env:=compEnvC scope (dP scope.names X.env.cells []) C X.env,outer:=X.stack,stack:=X.stack,ex:=fp,fn:=λ_=>false,pn:=[],xe:=λ_ _=>False }
def cO (js:List (Option Nat)) (σ:St):St:=js.map λo=>o.bind λj=>(σ[j]?).join
def jZ (scope osc:Scope) (N' N:List Str) (js:List (Option Nat)):Bool :=
 (scope.kind==.function)&&(scope.names.all λy=>y.2 != .cell&&(if y.2==.local then scope.names.lookup y.1==some .local else true) &&
   (if y.2==.free then osc.names.lookup y.1==some .cell || osc.names.lookup y.1==some .free else true)) &&
 js.length==N'.length&&((js.zip N').all λq=>match q.1 with
   | none=>true
   | some j=>N[j]?==some q.2&&(osc.names.lookup q.2==some .cell || osc.names.lookup q.2==some .free)&&scope.names.lookup q.2==some .free)
structure CompOk (scope osc:Scope) (N' N:List Str) (js:List (Option Nat)):Prop where
 kind:scope.kind=.function
 nocell:∀y∈scope.names,y.2≠.cell
 names:∀y∈scope.names,y.2=.local->scope.names.lookup y.1=some .local
 free:∀y∈scope.names,y.2=.free->osc.names.lookup y.1=some .cell\/osc.names.lookup y.1=some .free
 len:js.length=N'.length
 slots:∀(i j:Nat) (x:Str),js[i]?=some (some j)->N'[i]?=some x->N[j]?=some x/\(osc.names.lookup x=some .cell\/osc.names.lookup x=some .free)/\scope.names.lookup x=some .free
variable {N':List Str} {js:List (Option Nat)}
def xK {osc:Scope}{N:List Str}(h:jZ scope osc N' N js=true):CompOk scope osc N' N js:=by
 unfold jZ at h;rw[Jx,Jx,Jx,LX,LX] at h;obtain⟨⟨⟨h1,h2⟩,h3⟩,h4⟩:=h;refine⟨by cases hk:scope.kind <;> first|rfl|(rw[hk] at h1; cases h1),λy hy e=>?_,λy hy e=>?_,λy hy e=>?_,by simpa using h3,λi j x e1 e2=>?_⟩
 . have q:=h2 y hy;rw[e] at q;simp at q
 . have q:=h2 y hy;rw[Jx,Jx] at q;have q2:=q.1.2;rw[e] at q2;simpa using q2
 . have q:=h2 y hy;rw[Jx,Jx] at q;have q2:=q.2;rw[e] at q2;simpa using q2
 . have hm:(some j,x)∈js.zip N':=by refine JW (i:=i) ?_;rw[List.getElem?_zip_eq_some];exact⟨e1,e2⟩
   have q:=h4 _ hm;simp only[Jx,M6,LQ] at q;exact⟨q.1.1,q.1.2,q.2⟩
theorem qo {env:Env}:∀(names:List (Str×NameKind)) (x:Str),names.lookup x=some .free ->
   ((names.map λ(n,k)=>if(k==NameKind.free&&env.scope.kind==.function&&env.kindOf n==some .cell) then(n,NameKind.cell) else(n,k)).lookup x=some .cell \/
     (names.map λ(n,k)=>if(k==NameKind.free&&env.scope.kind==.function&&env.kindOf n==some .cell) then(n,NameKind.cell) else(n,k)).lookup x=some .free)
 | [],x,h=>by simp at h
 | (n,k) :: r,x,h=>by
   have ih:=qo (env:=env) r x;rw[KG];rw[Kv] at h;by_cases hb:(k==NameKind.free&&env.scope.kind==.function&&env.kindOf n==some .cell)=true
   . have e1:(if(k==NameKind.free&&env.scope.kind==.function&&env.kindOf n==some .cell)=true then(n,NameKind.cell) else(n,k))=(n,NameKind.cell):=Je hb;simp only[e1,Kv];cases hx:x==n with
     | true=>exact .inl rfl
     | false =>
       rw[hx] at h;exact ih h
   . have e1:(if(k==NameKind.free&&env.scope.kind==.function&&env.kindOf n==some .cell)=true then(n,NameKind.cell) else(n,k))=(n,k):=Ja hb;simp only[e1,Kv];cases hx:x==n with
     | true =>
       rw[hx] at h;exact .inr h
     | false =>
       rw[hx] at h;exact ih h
theorem qb {scope:Scope} {env:Env}:∀(names:List (Str×NameKind)) (x:Str),(∀y∈names,y.2≠.cell) ->
   ((names.map λ(n,k)=>if(k==NameKind.free&&env.scope.kind==.function&&env.kindOf n==some .cell) then(n,NameKind.cell) else(n,k)).lookup x=some .cell \/
     (names.map λ(n,k)=>if(k==NameKind.free&&env.scope.kind==.function&&env.kindOf n==some .cell) then(n,NameKind.cell) else(n,k)).lookup x=some .free)->(x,NameKind.free)∈names
 | [],x,_,h=>by simp at h
 | (n,k) :: r,x,hc,h=>by
   have ih:=qb (scope:=scope) (env:=env) r x λy hy=>hc y (K5 _ hy);rw[KG] at h;by_cases hb:(k==NameKind.free&&env.scope.kind==.function&&env.kindOf n==some .cell)=true
   . have hkf:k=.free:=by rw[Jx,Jx] at hb;simpa using hb.1.1
     have e1:(if(k==NameKind.free&&env.scope.kind==.function&&env.kindOf n==some .cell)=true then(n,NameKind.cell) else(n,k))=(n,NameKind.cell):=Je hb;simp only[e1,Kv] at h;cases hx:x==n with
     | true =>
       have hx':x=n:=by simpa using hx
       rw[hx',hkf];exact KA
     | false =>
       rw[hx] at h;exact K5 _ (ih h)
   . have e1:(if(k==NameKind.free&&env.scope.kind==.function&&env.kindOf n==some .cell)=true then(n,NameKind.cell) else(n,k))=(n,k):=Ja hb;simp only[e1,Kv] at h;cases hx:x==n with
     | true =>
       have hx':x=n:=by simpa using hx
       rw[hx] at h;rcases h with h|h
       . exact absurd (Option.some.inj h) (hc (n,k) KA)
       . have hkf:k=.free:=Option.some.inj h;rw[hx',hkf];exact KA
     | false =>
       rw[hx] at h;exact K5 _ (ih h)
variable {H:Hp}
def Un.sameBut {fs ex:List Addr} {H':Hp}{h h1 h2:Heap} {C:Addr} (u:Un fs ex H H' h h1) (hs:Heap.SameBut C h1 h2) (hC:h.objs.size<=C):Un fs ex H H' h h2:=by
 have ne:∀b o,h.get? b=some o->b≠C:=λb o e=>K4 (Jo (Ji e) hC);refine⟨λb o e n hb hx=>(hs.2 b (ne b o e)).trans (u.keep b o e n hb hx),λb o e n hb hx=>?_,u.free,λb o e hx=>?_,u.tups,u.frzs,u.tbls⟩
 . obtain⟨sl,q⟩:=u.slot b o e n hb hx;exact⟨sl,(hs.2 b (ne b o e)).trans q⟩
 . obtain⟨o',q⟩:=u.there b o e hx;exact⟨o',(hs.2 b (ne b o e)).trans q⟩
def gq {α:Type} {t:Sem α} {Q Q':α->Shared->Prop} {M:Model} {A:Around} {E:Value->Shared->Prop} {s:Shared} (h:wpAny M A t Q (λ_ _=>False) s) (hQ:∀a s,Q a s->Q' a s):wpAny M A t Q' E s:=Kk h hQ λ_ _ f=>f.elim
variable {elt target iter:Expr} {ifs:List Expr} {pos:Pos}
theorem IB {prog:Program} {w:World} {A:Around} {R:Result->Shared->Prop} {s:Shared} {it acc:Value} {env:Env} (I:Nat->Shared->Prop)
   (turn:∀n s,I n s->wpAny (model prog w) A (pyNext it) (λr s₁=>match r with
     | none=>R (.ok .next) s₁
     | some v=>wpAny (model prog w) A (letOwnedTupleGo target it v) (λ_ s₂=>wpAny (model prog w) A (assign target env v) (λ_ s₃ =>
         wpAny (model prog w) A (forIn ifs true λc r=>if r=true then do let ok <- isTrue c env (eval c env); pure (ForInStep.yield ok) else pure (ForInStep.yield r)) (λok s₄ =>
           if ok=true then wpAny (model prog w) A (eval elt env) (λx s₅ =>
             wpAny (model prog w) A (call (.builtin "list.append") [acc,x]) (λ_ s₆=>∃m,m<n/\I m s₆) (λ_ _=>False) s₅) (λ_ _=>False) s₄
           else ∃m,m<n/\I m s₄) (λ_ _=>False) s₃) (λ_ _=>False) s₂) (λ_ _=>False) s₁) (λ_ _=>False) s)
   (n:Nat) (h:I n s):codeAny (model prog w) A (.compLoop (.ListComp elt [⟨target,iter,ifs,0⟩] scope pos) 0 it acc env) R s:=by
 refine codeAny_loop rfl I (λn s hI=>?_) n h;show wpAny _ A ((compTurn (.ListComp elt [⟨target,iter,ifs,0⟩] scope pos) 0 it acc env).onRaise (λx=>do noteFrame x env; theTreesLotGoes x)) _ _ s;refine wpAny_noted ?_;rw[compTurn_list];refine JT (Lb (JT (gq (turn n s hI) λr s₁ h₁=>?_)));cases r with
 | none=>exact Jh h₁
 | some v =>
   refine JT (gq h₁ λ_ s₂ h₂=>JT (gq h₂ λ_ s₃ h₃=>JT (gq h₃ λok s₄ h₄=>?_)));cases ok with
   | false=>exact Jh ⟨rfl,h₄⟩
   | true =>
     exact JT (JT (gq h₄ λx s₅ h₅=>JT (gq h₅ λ_ s₆ h₆=>Jh (Jh ⟨rfl,h₆⟩))))
def jh (X:Cx) (ifs:List Expr) (t:TT):Prop :=
 ∀(pins:List (Addr×Obj)) (s:Shared) (σ:St) (H:Hp) (Q:Bool->Hp->Prop),Inv X pins σ H s->t σ H Q ->
   wpAny (model X.prog X.w) X.A (forIn ifs true λc r=>if r=true then do let ok <- isTrue c X.env (eval c X.env); pure (ForInStep.yield ok) else pure (ForInStep.yield r)) (TP X pins σ Q) X.xe s
def uX:TT:=λ_ H Q=>Q true H
variable {X:Cx}
def dX :jh X [] uX:=λ_ _ _ H _ I h=>wpAny_tests_nil ⟨H,I,h⟩
def B9 {c:Expr} {t:TT} (h:PT X c t):jh X [c] t:=λpins s σ H Q I hq=>wpAny_tests_one (h pins s σ H Q I hq)
def jv (js:List (Option Nat)) (g:TG):Prop:=∀(x:V) (σ:St) (H:Hp) (Q:St->Hp->Prop),σ.length=js.length->g x σ H Q->g x σ H λσ' H'=>Q σ' H'/\σ'.length=js.length/\∀(i j:Nat),js[i]?=some (some j)->σ'[i]?=σ[i]?
def oK (js:List (Option Nat)) (g:iA):Prop:=∀(x:List V) (σ:St) (H:Hp) (Q:St->Hp->Prop),σ.length=js.length->g x σ H Q->∀Q':St->Hp->Prop,(∀σ' H',Q σ' H'->σ'.length=js.length->(∀(i j:Nat),js[i]?=some (some j)->σ'[i]?=σ[i]?)->Q' σ' H')->g x σ H Q'
def dn {i:Nat} (h:js[i]?=some none:=by rfl):jv js (jY i):=λx σ H Q hl q=>⟨q,by rw[LF]; exact hl,λk j e=>by rw[L6];intro z;subst z;rw[h] at e;cases e⟩
def xm :oK js yJ:=λx σ H Q hl ⟨e,q⟩ Q' k=>⟨e,k _ _ q hl λ_ _ _=>rfl⟩
def nO {i:Nat} {u:iA} (hu:oK js u) (h:js[i]?=some none:=by rfl):oK js (uk (jY i) u):=λx σ H Q hl ⟨v,r,e,q⟩ Q' k=>⟨v,r,e,by
 have hl':(σ.set i (some v)).length=js.length:=by rw[LF]; exact hl
 exact hu r (σ.set i (some v)) H Q hl' q _ λσ' H' z1 z2 z3=>k σ' H' z1 z2 λn j e=>(z3 n j e).trans (by rw[L6];intro z;subst z;rw[h] at e;cases e)⟩
variable {K:W.Frag}
def xl {n:Nat} {t:iA} (h:oK js t):jv js (pJ K n t):=λx σ H Q hl ⟨a,xs,e,sq,l,q⟩=>⟨a,xs,e,sq,l,h xs σ H Q hl q _ λσ' H' z1 z2 z3=>⟨z1,z2,z3⟩⟩
def jr (J:It) (g:TG) (tif:TT) (te:TE) (js:List (Option Nat)) (σ:St) (Q:VK) (p:Addr) (H1:Hp):Prop :=
 ∃W:Nat->Nat->List V->Hp->Prop,(∃m,W 0 m [] (upd H1 p (.lst [])))/\∀i m acc H2,W i m acc H2->H2 p=some (.lst acc) /\
   ((J.stop i H2/\Q (.ref p) H2)\/(J.go i H2/\acc.length<sizeLine/\∃N:List V->Hp->Prop,(∀acc' H',N acc' H'->∃m',m'<m/\W (i+1) m' acc' H') /\
     ∀x H',J.yld i H2 x H'->g x (cO js σ) H' λσ2 H3=>tif σ2 H3 λc H4 =>
       if c=true then te σ2 H4 λy H5=>H5 p=some (.lst acc)/\N (acc++[y]) (upd H5 p (.lst (acc++[y]))) else N acc H4))
def n9 (wi:TI) (g:TG) (tif:TT) (te:TE) (js:List (Option Nat)):TE:=λσ H Q=>wi σ H λJ H1=>∀p,H1 p=none->jr J g tif te js σ Q p H1
variable {wi:TI} {tif:TT} {te:TE}
theorem wq {use:Option (Value->Sem Unit)} {Q':Value->Shared->Prop} {Q:VK} {pins:List (Addr×Obj)} {s:Shared} {σ:St} {g:TG} (hok:jZ scope X.env.scope N' X.N js=true) (hc:X.calm=true)
   (hi:PI X target iter wi) (ho:jv js g) (hg:∀C s H fp,PG (c8 X N' scope C s H fp) target g) (hif:∀C s H fp,jh (c8 X N' scope C s H fp) ifs tif) (he:∀C s H fp,PE (c8 X N' scope C s H fp) elt te)
   (hs:∀x,foldedSetIterable iter X.env x=pure x) (I:Inv X pins σ H s) (h:n9 wi g tif te js σ H Q)
   (hfin:∀(s2:Shared) (H2:Hp) (fp:List Addr) (C:Addr),Inv X pins σ H2 s2->(∀b∈fp,eW X pins H2 b)->s2.heap.objs.size<=C->∀(σ':St) (H':Hp) (s':Shared),Inv (c8 X N' scope C s2 H2 fp) [] σ' H' s'->Q (.ref s2.heap.objs.size) H' ->
     compPost (model X.prog X.w) X.A X.xe use Q' (.ref s2.heap.objs.size) C (.ok .next) s') :
   wpAny (model X.prog X.w) X.A (comprehension (.ListComp elt [⟨target,iter,ifs,0⟩] scope pos) scope X.env (firstIterPos [⟨target,iter,ifs,0⟩] pos) (newList []) false (eval iter X.env) use) Q' X.xe s:=by
 have O:=xK hok;have hfr:∀y∈scope.names,y.2=.free->∃c,X.env.cells.lookup y.1=some c:=λy hy e=>I.ok.has y.1 (O.free y hy e);refine MT (use:=use) rfl hs (z7 hfr) O.kind O.names (aO (hi pins s σ H _ I h) λv s1 h1=>aO h1 λitv s2 h2=>?_);obtain⟨it,fp,tn,J,H2,e,I2,T,st2,f2,hq⟩:=h2;subst e;have hf0:H2 s2.heap.objs.size=none:=I2.hok.fresh (JZ _);obtain⟨W,⟨m0,w0⟩,turn⟩:=hq _ hf0;refine LU (wpAny_newFunctionEnv O.nocell (by intro y hy; simp at hy) (λh₁ hns₁ hsb₁=>?_) O.kind);dsimp only at hns₁ hsb₁ ⊢;generalize hH2:s2.heap.push { cls:=.type "list",dict:=none,data:=.seq ([]:List Value).toArray }=B at hns₁ hsb₁ ⊢;have hC:B.objs.size=s2.heap.objs.size+1:=by rw[<- hH2,Kg]
 have hCle:s2.heap.objs.size<=B.objs.size:=by rw[hC]; exact Kz _
 have old:∀b o,s2.heap.get? b=some o->h₁.get? b=some o:=λb o e=>hsb₁.extBut b o (by rw[hC]; exact K4 (MO (Ji e))) (JX _ (hH2 ▸ JX _ e));have hDC:s2.heap.objs.size≠B.objs.size:=by rw[hC]; exact K4 (Km _)
 have hacc:h₁.get? s2.heap.objs.size=some { cls:=.type "list",dict:=none,data:=.seq ([]:List Value).toArray }:=hsb₁.extBut _ _ hDC (JX _ (hH2 ▸ Jn _ rfl));have fpO:∀b∈fp,b<s2.heap.objs.size:=λb hb=>by obtain⟨o,e,_⟩:=T.obj 0 _ st2 b hb;exact Ji e
 have sub:∀x c,(dP scope.names X.env.cells []).lookup x=some c->X.env.cells.lookup x=some c:=qD scope.names [] hfr (λx c e=>by cases e);have hasC:∀x,((relabel scope X.env).names.lookup x=some .cell\/(relabel scope X.env).names.lookup x=some .free)->∃c,(dP scope.names X.env.cells []).lookup x=some c:=λx hx =>
   LI.mp (nY scope.names [] (qb (scope:=scope) (env:=X.env) scope.names x O.nocell hx))
 -- the block's context at its begin
 have IY:∀t,Inv (c8 X N' scope B.objs.size s2 H2 fp) [] (cO js σ) (upd H2 s2.heap.objs.size (.lst [])) { s2 with heap:=h₁,toks:=t }:=by
   intro t;refine⟨⟨I2.ok.mod,O.kind,I2.ok.glob,I2.ok.blt,hCle,λx y c h1 h2=>I2.ok.inj x y c (sub x c h1) (sub y c h2),λx hx=>hasC x hx,λx c h=>(by cases h),I2.ok.hd,I2.ok.frames,.inl rfl,λb hb=>⟨K4 (Jo (fpO b hb) hCle),λx c e=>(f2 b hb).2.2.2.2.1 x c (sub x c e)⟩,
     I2.bs,K0 I2.ok.bsz I2.sz,λb o e hb=>?_,λb hb z=>?_,I2.stack,I2.stkFree⟩,rfl,I2.bare,Un.laid old (JZ _) hf0,⟨_,hns₁,λi x v e1 e2 e3=>?_⟩,λx c e=>?_,?_,λx c e=>?_,λp hp=>absurd (show p∈([]:List (Addr×Obj)) from hp) (by simp),?_,?_⟩
   . rcases (f2 b hb).2.2.2.1 with z|z
     . exact I2.ok.noex b o e z
     . exact absurd (Jo (Jo (Ji e) I2.ok.bsz) z) (KL _)
   . rcases Jl.mp (I2.stkSub b z) with q|q
     . exact(f2 b hb).2.1 q
     . exact(f2 b hb).2.2.1 q
   . have e1:N'[i]?=some x:=e1;unfold cO at e2;rw[Jc] at e2;cases q:js[i]? with
     | none=>rw[q] at e2; cases e2
     | some o =>
       rw[q] at e2;cases o with
       | none=>cases e2
       | some j =>
         have e2:(σ[j]?).join=some v:=by simpa using e2
         have e2':σ[j]?=some (some v):=by
           cases z:σ[j]? with
           | none=>rw[z] at e2; cases e2
           | some a=>rw[z] at e2; cases a with
             | none=>cases e2
             | some a=>cases e2; rfl
         obtain⟨hN,hk,hsf⟩:=O.slots i j x q e1;obtain⟨m,hn,hl⟩:=I2.loc;obtain⟨u,r,l⟩:=hl j x v hN e2' (.inr hk);refine⟨u,r,?_⟩;have hkX:X.env.kindOf x=some .cell\/X.env.kindOf x=some .free:=hk;rcases l with⟨k,_⟩|⟨k,c,hc',hcell⟩
         . rcases hkX with z|z
           . rw[k] at z; cases z
           . rw[k] at z; cases z
         . have hky:(relabel scope X.env).names.lookup x=some .cell\/(relabel scope X.env).names.lookup x=some .free:=qo (env:=X.env) scope.names x hsf;obtain⟨c2,hc2⟩:=hasC x hky;have:c2=c:=by have:=sub x c2 hc2;rw[hc'] at this;exact(Option.some.inj this).symm
           subst this;obtain⟨ob,ho,hd⟩:=hcell;exact .inr ⟨hky,c2,hc2,ob,old _ _ ho,hd⟩
   . obtain⟨v,ob,ho,hd⟩:=I2.cell x c (sub x c e);exact⟨v,ob,old _ _ ho,hd⟩
   . show upd H2 s2.heap.objs.size (.lst []) B.objs.size=none;rw[aQ (Ne.symm hDC)];exact I2.hok.fresh hCle
   . obtain⟨v,ob,ho,hd⟩:=I2.cell x c (sub x c e);rw[aQ (K4 (Ji ho))];exact I2.freeC x c (sub x c e)
   . exact I2.hok.laid old (JZ _) ⟨Jw _,[],0,.nil,hacc⟩
   . unfold cO;rw[JR];exact O.len
 have hcl:(cO js σ).length=js.length:=by unfold cO; rw[JR]
 have fin:∀{σ':St} {H':Hp} {s':Shared},Inv (c8 X N' scope B.objs.size s2 H2 fp) [] σ' H' s'->Q (.ref s2.heap.objs.size) H'->compPost (model X.prog X.w) X.A X.xe use Q' (.ref s2.heap.objs.size) B.objs.size (.ok .next) s' :=
   λ{σ' H' s'} J q=>hfin s2 H2 fp B.objs.size I2 f2 hCle σ' H' s' J q
 have loop:∀t,codeAny (model X.prog X.w) X.A (.compLoop (.ListComp elt [⟨target,iter,ifs,0⟩] scope pos) 0 (.ref it) (.ref s2.heap.objs.size) (compEnvC scope (dP scope.names X.env.cells []) B.objs.size X.env))
     (compPost (model X.prog X.w) X.A X.xe use Q' (.ref s2.heap.objs.size) B.objs.size) { s2 with heap:=h₁,toks:=t }:=by
   intro t;have stat:∀{H':Hp},(∀b∈fp,H' b=none)->∀b∈fp,eW (c8 X N' scope B.objs.size s2 H2 fp) [] H' b:=λhn b hb =>
     ⟨hn b hb,K4 (Jo (fpO b hb) hCle),(IY t).ok.exfs b hb,.inl hb,λx c e=>((IY t).ok.exf b hb).2 x c e,λp hp=>absurd (show p∈([]:List (Addr×Obj)) from hp) (by simp)⟩
   refine IB (λn s'=>∃i acc H',Inv (c8 X N' scope B.objs.size s2 H2 fp) [] (cO js σ) H' s'/\tn i s'.heap/\(∀b∈fp,H' b=none)/\W i n acc H') ?_ m0
     ⟨0,[],_,IY t,T.keep 0 _ _ st2 (λb _ o e=>old b o e),λb hb=>by rw[aQ (K4 (fpO b hb))]; exact(f2 b hb).1,w0⟩
   rintro n s3 ⟨i,acc,H3,I3,st3,fr3,w3⟩;obtain⟨hD,turn⟩:=turn i n acc H3 w3;rcases turn with⟨stop,qn⟩|⟨go,hlen,N,hN,step⟩
   . refine aO (T.done (c8 X N' scope B.objs.size s2 H2 fp) rfl rfl rfl hc i [] s3 (cO js σ) H3 (λ_ _=>False) I3 (stat fr3) st3 stop) λr s4 ⟨hr,I4⟩=>?_;subst hr;exact fin I4 qn
   . refine aO (T.item (c8 X N' scope B.objs.size s2 H2 fp) rfl rfl rfl hc i [] s3 (cO js σ) H3 (λ_ _=>False) I3 (stat fr3) st3 go) λr s4 ⟨u,hr,h4⟩=>?_;subst hr;refine aO h4 λ_ s5 ⟨x,H5,I5,r5,y5,st5,fr5⟩=>?_;have I5':=I5.pinned (stat fr5) (T.obj _ _ st5);refine aO (hg _ _ _ _ _ s5 (cO js σ) H5 x u _ I5' r5 (ho x (cO js σ) H5 _ hcl (step x H5 y5))) λ_ s6 ⟨σ6,H6,I6,q6,hl6,hk6⟩=>?_;refine aO (hif _ _ _ _ _ s6 σ6 H6 _ I6 q6) λok s7 ⟨H7,I7,q7⟩=>?_;have again:∀{H8:Hp} {acc8:List V} {s8:Shared},Inv (c8 X N' scope B.objs.size s2 H2 fp) ([]++kX fp s5.heap) σ6 H8 s8->N acc8 H8 ->
         ∃m,m<n/\∃i acc H',Inv (c8 X N' scope B.objs.size s2 H2 fp) [] (cO js σ) H' s8/\tn i s8.heap/\(∀b∈fp,H' b=none)/\W i m acc H':=by
       intro H8 acc8 s8 I8 n8;obtain⟨m',hm,w8⟩:=hN acc8 H8 n8;refine⟨m',hm,i+1,acc8,H8,?_,T.keep _ _ _ st5 λb hb o e=>(I8.pin (b,o) (K7 _ (K7 _ (kr hb e)))).1,λb hb=>?_,w8⟩
       . refine Inv.weak I8.unpinned (by rw[hl6,hcl]) λk v e=>?_;have e':=e;unfold cO at e;rw[Jc] at e;cases q:js[k]? with
         | none=>rw[q] at e; cases e
         | some o =>
           cases o with
           | none=>rw[q] at e; cases e
           | some j=>rw[hk6 k j q]; exact e'
       . obtain⟨o,e,d⟩:=T.obj _ _ st5 b hb;exact(I8.pin (b,o) (K7 _ (K7 _ (kr hb e)))).2.1
     cases ok with
     | false=>exact again I7 q7
     | true =>
       refine aO (he _ _ _ _ _ s7 σ6 H7 _ I7 q7) λy s8 ⟨yv,H8,I8,r8,hD8,q8⟩=>?_;refine aO (jQ _ s8 σ6 H8 (.ref s2.heap.objs.size) [yv] (.ref s2.heap.objs.size) [y] (λ_ H9=>N (acc++[yv]) H9) I8 rfl (.cons r8 .nil) ⟨_,acc,yv,rfl,rfl,hD8,hlen,q8⟩) λ_ s9 ⟨_,H9,I9,_,q9⟩=>?_;exact again I9 q9
 exact codeAny_compStart_list (loop _) (T.self X.A 0 _ _ _ (T.keep 0 _ _ st2 (λb _ o e=>old b o e)) (loop _))
theorem gV {g:TG} (hok:jZ scope X.env.scope N' X.N js=true) (hc:X.calm=true)
   (hi:PI X target iter wi) (ho:jv js g) (hg:∀C s H fp,PG (c8 X N' scope C s H fp) target g) (hif:∀C s H fp,jh (c8 X N' scope C s H fp) ifs tif) (he:∀C s H fp,PE (c8 X N' scope C s H fp) elt te)
   (hs:∀x,foldedSetIterable iter X.env x=pure x:=by intro _; rfl):PE X (.ListComp elt [⟨target,iter,ifs,0⟩] scope pos) (n9 wi g tif te js):=by
 intro pins s σ H Q I h;rw[eval_ListComp];refine wq (use:=none) hok hc hi ho hg hif he hs I h λs2 H2 fp C I2 f2 hCle σ' H' s' J q=>?_;obtain⟨m,hn,_⟩:=J.loc;refine⟨m,hn,λh' hs'=>⟨.ref s2.heap.objs.size,H',?_,rfl,q⟩⟩;refine I2.call' (s':={ s' with heap:=h' }) (ch:=fp) J.os (J.base.sameBut hs' hCle) (λb ob e=>?_) J.bare λb hb=>⟨(f2 b hb).2.2.2.1,(f2 b hb).2.1,(f2 b hb).2.2.2.2.1,(f2 b hb).2.2.2.2.2⟩
 refine(J.hok b ob e).stay (λc w' hc q=>(hs'.2 c ?_).trans q) (λ_ q=>q) λ_ _ q=>q;have hfree:H' C=none:=J.free;intro hcC;rw[hcC] at hc;rcases hc with z|z
 . rw[<- z,hfree] at e; cases e
 . rw[hfree] at z; cases z
theorem mN {i:Nat} {y:Str} {py spos:Pos}{g:TG} (hN:X.N.Nodup) (hi':X.N[i]?=some y) (hx:ko X.env.scope y)
   (hok:jZ scope X.env.scope N' X.N js=true) (hc:X.calm=true)
   (hi:PI X target iter wi) (ho:jv js g) (hg:∀C s H fp,PG (c8 X N' scope C s H fp) target g) (hif:∀C s H fp,jh (c8 X N' scope C s H fp) ifs tif) (he:∀C s H fp,PE (c8 X N' scope C s H fp) elt te)
   (hsw:swapsWith (.ListComp elt [⟨target,iter,ifs,0⟩] scope pos) (some (.Name y py)) spos.line X.env=pure true)
   (hs:∀x,foldedSetIterable iter X.env x=pure x:=by intro _; rfl) (hf:X.fn y=true\/X.env.scope.names.lookup y=some .local:=by first|exact .inl rfl|exact .inr rfl|assumption) :
   PS X (.Assign [.Name y py] (.ListComp elt [⟨target,iter,ifs,0⟩] scope pos) spos) (tL (n9 wi g tif te js) (jY i)):=by
 intro pins s σ H D I h;rw[exec_Assign_Name_used _ _ _ _ hsw];refine JT (Lb (JT ?_));show wpAny _ X.A (do let _ <- comprehension (.ListComp elt [⟨target,iter,ifs,0⟩] scope pos) scope X.env _ (newList []) false (eval iter X.env) (some (assign (.Name y py) X.env))) _ _ s;refine JT (aO (wq (use:=some (assign (.Name y py) X.env)) (Q':=λ_ s'=>SP X pins D .next s') hok hc hi ho hg hif he hs I h λs2 H2 fp C I2 f2 hCle σ' H' s' J q=>?_) λ_ s' q=>?_)
 . obtain⟨m,hn,_⟩:=J.loc;have I3:Inv X pins σ H' s':=I2.call' (ch:=fp) J.os J.base J.hok J.bare λb hb=>⟨(f2 b hb).2.2.2.1,(f2 b hb).2.1,(f2 b hb).2.2.2.2.1,(f2 b hb).2.2.2.2.2⟩
   have hCL:C≠X.env.locals:=λz=>absurd (Jo I2.lt hCle) (by rw[z]; exact KL _);have hCc:∀x c,X.env.cells.lookup x=some c->c≠C:=λx c e z=>by obtain⟨v,ob,ho,_⟩:=I2.cell x c e;exact absurd (Jo (Ji ho) hCle) (by rw[z]; exact KL _)
   have hCp:∀p∈X.pn++pins,p.1≠C:=λp hp z=>by have e:=(I2.pin p hp).1;exact absurd (Jo (Ji e) hCle) (by rw[z]; exact KL _)
   show wpAny _ X.A (assign (.Name y py) X.env (.ref s2.heap.objs.size)) _ _ s';refine wpAny_assign_Name (uj I3 hN hi' hx (v:=.ref s2.heap.objs.size) rfl (λs'' I4 ⟨a,hsb,ha⟩=>?_) hf);have hna:C≠a:=by
     rcases ha with z|z
     . rw[z]; exact hCL
     . exact(hCc _ _ z).symm
   refine⟨m,hn.sameBut hsb hna,λh' hs'=>⟨_,H',?_,q⟩⟩;exact I4.turned (t':=s''.toks) (h':=h') (it:=C) (λb o hb e=>(hs'.2 b hb).trans e) J.free hCL (.inr (K0 I2.sz hCle)) hCc hCp
 . exact Jh (Jh q)
def sO (x:Str):It:=⟨λi _=>i<x.length,λi H v H'=>H'=H/\∃c,x.cps[i]?=some c/\v=.str ⟨#[c]⟩,λi _=>i=x.length⟩
theorem vB {P:Program} {w:World} {tg:Expr} {it:Addr} {x:Str} {t:Tok} {ty:String}
   (hty:["enumerate","zip","dict_itemiterator","dict_reverseitemiterator","odict_iterator","itertools.zip_longest","itertools.pairwise"].contains ty=false)
   (W:∀A:Around,A.handled=none->Walks P w A it [it] [it] x.cps.size (SignAt x) (λi h=>h.IsStrIter it ty x t i))
   (hs:∀(A:Around) (i:Nat) (s:Shared) (Q:Value->Shared->Prop) (E:Value->Shared->Prop),s.heap.IsStrIter it ty x t i->Q (.ref it) s->wpAny (model P w) A (pyIter (.ref it)) Q E s) :
   Turn P w K tg (sO x) [it] it (λi h=>h.IsStrIter it ty x t i) where
 mem:=by simp
 obj:=λi h st b hb=>by
   have e:b=it:=by simpa using hb
   subst e;obtain⟨o,e,c,d⟩:=st;exact⟨o,e,λv z=>by rw[d] at z; cases z⟩
 keep:=λi h h' st k=>by obtain⟨o,e,r⟩:=st;exact⟨o,k it (by simp) o e,r⟩
 item:=by intro X hP hw hK hc i pins s σ H E I hf st hg;subst hP hw hK;obtain⟨f0,f1,f2,f3,f4,f5⟩:=hf it (by simp);refine(W X.A (I.ok.hd hc)).item i s _ _ hg st λv h' tk hv st' kk=>?_;obtain⟨c,u,hx,rfl⟩:=hv;have I1:Inv X pins σ H { s with heap:=h',toks:=tk }:=I.turned (λb o hb e=>kk b o (by simpa using hb) e) f0 f1 f3 f4 f5;obtain⟨o,e,cc,d⟩:=id st';exact⟨_,rfl,mh (s:={ s with heap:=h',toks:=tk }) e cc d hty ⟨.str ⟨#[c]⟩,H,I1,⟨u,rfl⟩,⟨rfl,c,hx,rfl⟩,st',λb hb=>(hf b hb).1⟩⟩
 done:=by intro X hP hw hK hc i pins s σ H E I hf st hg;subst hP hw hK;obtain⟨f0,f1,f2,f3,f4,f5⟩:=hf it (by simp);have hi:i=x.cps.size:=hg;subst hi;refine(W X.A (I.ok.hd hc)).done s _ _ st λh' tk kk=>⟨rfl,I.turned (λb o hb e=>kk b o (by simpa using hb) e) f0 f1 f3 f4 f5⟩
 self:=λA i s Q E st h=>hs A i s Q E st h
section
variable {X:Cx} {tg:Expr}
def BQ (tl:TE):TI:=λσ H R=>tl σ H λx H1=>∃z,x=.str z/\R (sO z) H1
def Dk {l:Expr} {tl:TE} (hl:PE X l tl):PI X tg l (BQ tl):=by
 intro pins s σ H R I h;refine aO (hl pins s σ H _ I h) λv s1 ⟨x,H1,I1,r1,q1⟩=>?_;obtain⟨z,e,q⟩:=q1;subst e;obtain⟨t,rfl⟩:=r1;have fo:∀b∈[s1.heap.objs.size],eW X pins H1 b:=λb hb=>by
   have e:b=s1.heap.objs.size:=by simpa using hb
   subst e;exact I1.fpOk (JZ _) (I1.hok.fresh (JZ _))
 cases ha:z.cps.all (·<128)
 . refine wpAny_pyIter_wide ha ?_;exact⟨s1.heap.objs.size,[s1.heap.objs.size],_,_,H1,rfl,I1.kept (t':=s1.toks) λb o e=>JX _ e,vB (t:=t) (by decide) (λA hA=>Walks.strWide hA _ z t) (λA i s Q E st h=>wpAny_pyIter_striter_wide st h),⟨_,Jn _ rfl,rfl,rfl⟩,fo,q⟩
 . refine wpAny_pyIter_ascii ha ?_;exact⟨s1.heap.objs.size,[s1.heap.objs.size],_,_,H1,rfl,I1.kept (t':=s1.toks) λb o e=>JX _ e,vB (t:=t) (by decide) (λA hA=>Walks.strAscii hA _ z t) (λA i s Q E st h=>wpAny_pyIter_striter_ascii st h),⟨_,Jn _ rfl,rfl,rfl⟩,fo,q⟩
end
variable {p:Addr}
section
variable {g:TG} {tif:TT} {te:TE} {js:List (Option Nat)} {σ:St} {H:Hp} {Q:VK}
def mU (g:TG) (tif:TT) (te:TE) (σ:St) (p:Addr) (acc:List V) (N:List V->Hp->Prop) (x:V) (H:Hp):Prop :=
 g x σ H λσ2 H3=>tif σ2 H3 λc H4=>if c=true then te σ2 H4 λy H5=>H5 p=some (.lst acc)/\N (acc++[y]) (upd H5 p (.lst (acc++[y]))) else N acc H4
theorem lV {lo:Int} {n:Nat} (hn:n<=1000000) (Pv:Nat->List V->Hp->Prop) (h0:Pv 0 [] (upd H p (.lst [])))
   (hl:∀i acc H2,i<=n->Pv i acc H2->H2 p=some (.lst acc)/\acc.length<=i)
   (hs:∀i acc H2,i<n->Pv i acc H2->mU g tif te (cO js σ) p acc (Pv (i+1)) (.int (lo+i)) H2) (hd:∀acc H2,Pv n acc H2->Q (.ref p) H2) :
   jr (jp lo n) g tif te js σ Q p H:=by
 refine⟨λi m acc H=>m=n - i/\i<=n/\Pv i acc H,⟨n,by simp,Jw _,h0⟩,?_⟩;rintro i m acc H2 ⟨rfl,hi,q⟩;obtain⟨q1,q2⟩:=hl i acc H2 hi q;refine⟨q1,?_⟩;by_cases hlt:i<n
 . refine .inr ⟨hlt,?_,Pv (i+1),λacc' H' p'=>⟨n - (i+1),by omega,rfl,hlt,p'⟩,λx H' y=>?_⟩
   . have:(1000000:Nat)<sizeLine:=by decide
     omega
   . obtain⟨e,y⟩:=y;subst e y;exact hs i acc _ hlt q
 . have e:i=n:=by omega
   subst e;exact .inl ⟨JZ _,hd acc H2 q⟩
theorem Do {z:Str} (hn:z.length<=1000000) (Pv:Nat->List V->Hp->Prop) (h0:Pv 0 [] (upd H p (.lst [])))
   (hl:∀i acc H2,i<=z.length->Pv i acc H2->H2 p=some (.lst acc)/\acc.length<=i)
   (hs:∀i c acc H2,z.cps[i]?=some c->Pv i acc H2->mU g tif te (cO js σ) p acc (Pv (i+1)) (.str ⟨#[c]⟩) H2) (hd:∀acc H2,Pv z.length acc H2->Q (.ref p) H2) :
   jr (sO z) g tif te js σ Q p H:=by
 refine⟨λi m acc H=>m=z.length - i/\i<=z.length/\Pv i acc H,⟨z.length,by simp,Jw _,h0⟩,?_⟩;rintro i m acc H2 ⟨rfl,hi,q⟩;obtain⟨q1,q2⟩:=hl i acc H2 hi q;refine⟨q1,?_⟩;by_cases hlt:i<z.length
 . refine .inr ⟨hlt,?_,Pv (i+1),λacc' H' p'=>⟨z.length - (i+1),by omega,rfl,hlt,p'⟩,λx H' y=>?_⟩
   . have:(1000000:Nat)<sizeLine:=by decide
     omega
   . obtain⟨e,c,hc,y⟩:=y;subst e y;exact hs i c acc _ hc q
 . have e:i=z.length:=by omega
   subst e;exact .inl ⟨rfl,hd acc H2 q⟩
theorem jk {a:Addr} {xs:List V} (hn:xs.length<=1000000) (Pv:Nat->List V->Hp->Prop) (h0:Pv 0 [] (upd H p (.lst [])))
   (hl:∀i acc H2,i<=xs.length->Pv i acc H2->H2 p=some (.lst acc)/\acc.length<=i/\aG K H2 a xs)
   (hs:∀i x acc H2,xs[i]?=some x->Pv i acc H2->mU g tif te (cO js σ) p acc (Pv (i+1)) x H2) (hd:∀acc H2,Pv xs.length acc H2->Q (.ref p) H2) :
   jr (jj K a) g tif te js σ Q p H:=by
 refine⟨λi m acc H=>m=xs.length - i/\i<=xs.length/\Pv i acc H,⟨xs.length,by simp,Jw _,h0⟩,?_⟩;rintro i m acc H2 ⟨rfl,hi,q⟩;obtain⟨q1,q2,q3⟩:=hl i acc H2 hi q;refine⟨q1,?_⟩;by_cases hlt:i<xs.length
 . refine .inr ⟨⟨xs,xs[i],q3,by simp [hlt]⟩,?_,Pv (i+1),λacc' H' p'=>⟨xs.length - (i+1),by omega,rfl,hlt,p'⟩,λx H' y=>?_⟩
   . have:(1000000:Nat)<sizeLine:=by decide
     omega
   . obtain⟨e,y⟩:=y;subst e;exact hs i x acc _ (y xs q3) q
 . have e:i=xs.length:=by omega
   subst e;exact .inl ⟨⟨xs,q3,JZ _⟩,hd acc H2 q⟩
theorem E1 {a:Addr} {xs:List V} (hn:xs.length<=1000000) (Pv:Nat->List V->Hp->Prop) (h0:Pv 0 [] (upd H p (.lst [])))
   (hl:∀i acc H2,i<=xs.length->Pv i acc H2->H2 p=some (.lst acc)/\acc.length<=i/\aI K H2 a xs)
   (hs:∀i x acc H2,xs[i]?=some x->Pv i acc H2->mU g tif te (cO js σ) p acc (Pv (i+1)) x H2) (hd:∀acc H2,Pv xs.length acc H2->Q (.ref p) H2) :
   jr (km K a) g tif te js σ Q p H:=by
 refine⟨λi m acc H=>m=xs.length - i/\i<=xs.length/\Pv i acc H,⟨xs.length,by simp,Jw _,h0⟩,?_⟩;rintro i m acc H2 ⟨rfl,hi,q⟩;obtain⟨q1,q2,q3⟩:=hl i acc H2 hi q;refine⟨q1,?_⟩;by_cases hlt:i<xs.length
 . refine .inr ⟨⟨xs,xs[i],q3,by simp [hlt]⟩,?_,Pv (i+1),λacc' H' p'=>⟨xs.length - (i+1),by omega,rfl,hlt,p'⟩,λx H' y=>?_⟩
   . have:(1000000:Nat)<sizeLine:=by decide
     omega
   . obtain⟨e,y⟩:=y;subst e;exact hs i x acc _ (y xs q3) q
 . have e:i=xs.length:=by omega
   subst e;exact .inl ⟨⟨xs,q3,JZ _⟩,hd acc H2 q⟩
end
section
variable {X:Cx}
def Dj {h:Heap} {sl:Addr} {vl vu:Value} {lo hi:Option Int} (hs:h.IsSliceOf sl vl vu .none) (pl:IsPart vl lo) (pu:IsPart vu hi):∃l u:Option (Int×Tok),l.map (·.1)=lo/\u.map (·.1)=hi/\h.IsSlice sl l u none:=by
 obtain⟨o,ho,hc,hd⟩:=hs;cases pl with
 | none =>
   cases pu with
   | none=>exact⟨none,none,rfl,rfl,o,ho,hc,hd⟩
   | int j t=>exact⟨none,some (j,t),rfl,rfl,o,ho,hc,hd⟩
 | int i t =>
   cases pu with
   | none=>exact⟨some (i,t),none,rfl,rfl,o,ho,hc,hd⟩
   | int j t'=>exact⟨some (i,t),some (j,t'),rfl,rfl,o,ho,hc,hd⟩
def EZ:V->Option Int->Option Int->Hp->VK->Prop:=λx lo hi H Q=>∃z,x=.str z/\z.length<=sizeLine/\Q (.str (Txt.slice z lo hi)) H
def ie:oP X EZ:=by
 intro pins s σ H x v vl vu lo hi sl Q I rx hs pl pu h;obtain⟨z,rfl,hz,q⟩:=h;obtain⟨t,rfl⟩:=rx;obtain⟨l,u,rfl,rfl,hsl⟩:=Dj hs pl pu;refine⟨"str",_,F.slot_str_getitem.lookup,typeIs_str _ _ _,wpAny_getItem_str_slice (l:=l) (u:=u) (st:=none) hsl rfl
   (post_val_or_str ⟨K0 (Txt.slice_le z _ _) hz,λt' k=>⟨.str (Txt.slice z (l.map (·.1)) (u.map (·.1))),H,I.tok _,⟨_,rfl⟩,q⟩⟩)⟩
def Go {ys:List Str}:∀{us:List Value},aT (ys.map V.str) us->StrsAre us ys:=by
 induction ys with
 | nil=>intro us h; cases h; exact .nil
 | cons y r ih =>
   intro us h;cases h with
   | cons r1 h =>
     obtain⟨t,rfl⟩:=r1;exact .cons y t (ih h)
def ub (K:W.Frag):V->List V->Hp->VK->Prop:=λx xs H Q=>∃sep p ys,x=.str sep/\xs=[.ref p]/\aG K H p (ys.map V.str)/\(ys.map (·.length)).sum+ys.length * sep.length<=16777216/\Q (.str (Txt.join sep ys)) H
def kB:mB X "str.join" (ub X.K):=by intro pins s σ H x xs v us Q I rx r h;obtain⟨sep,p,ys,rfl,rfl,hp,hl,q⟩:=h;obtain⟨t,rfl⟩:=rx;obtain⟨u,rfl,ru⟩:=hU r;cases (show u=Value.ref p from ru);obtain⟨its,rv,pl,hz⟩:=I.list hp;exact join_list pl.isList (by simpa using Go rv) hl λt' k=>⟨.str (Txt.join sep ys),H,I.tok _,⟨_,rfl⟩,q⟩
def BZ:aw X (.builtin "isinstance") (λxs H Q=>∃x c t b,xs=[x,.ty c]/\TyOf X.K H x t/\PySem.W.kitOne X.K t (.type c)=some b/\Q (.bl b) H):=by intro pins s σ H xs us Q I r h;obtain⟨x,c,t,b,rfl,ty,hk,q⟩:=h;obtain⟨u,w',rfl,rx,rc⟩:=kg r;cases (show w'=Value.type c from rc);exact Ft I rx ty hk λtk=>⟨.bl b,H,I.tok _,rfl,q⟩
def Gq (bs:List Bool):(List.range bs.length).all (λi=>bs.getD i false)=bs.all id:=by
 rw[KP,LX,LX];constructor
 . intro h b hb;obtain⟨i,hi,rfl⟩:=List.mem_iff_getElem.mp hb;have:=h i (Ka.mpr hi);simpa [List.getD,hi] using this
 . intro h i hi;have hi':=Ka.mp hi;have:=h bs[i] (Kd hi');simpa [List.getD,hi'] using this
def Gd:X.calm=true->aw X (.builtin "all") (λxs H Q=>∃(p:Addr) (bs:List Bool),xs=[.ref p]/\aG X.K H p (bs.map V.bl)/\Q (.bl (bs.all id)) H):=by
 intro hc pins s σ H xs us Q I r h;obtain⟨p,bs,rfl,hp,q⟩:=h;obtain⟨u,rfl,ru⟩:=hU r;cases (show u=Value.ref p from ru);obtain⟨its,rv,pl,hz⟩:=I.list hp;have hlen:=rv.length;rw[JR] at hlen;have hne:p≠s.heap.objs.size:=K4 pl.lt;refine call_all_walk (L8 pl.isList ?_);have W:=Walks.list (prog:=X.prog) (w:=X.w) (A:=X.A.in1) (I.ok.hd hc) s.heap.objs.size p hne its.toArray;refine⟨s.heap.objs.size,_,_,_,_,_,λi=>bs.getD i false,rfl,W,⟨⟨_,Jn _ rfl,rfl,rfl⟩,pl.isList.push _⟩,?_,λh' tk hk=>?_⟩
 . intro i v s' Q' E' hv hq;have hv':its[i]?=some v:=by simpa using hv
   have hi:i<bs.length:=by rw[hlen]; exact(Jb.mp hv').1
   have hb:(bs.map V.bl)[i]?=some (.bl bs[i]):=by simp [hi]
   obtain⟨u',e1,r1⟩:=rv.get hb;rw[hv'] at e1;cases e1;cases (show v=Value.bool bs[i] from r1);have e2:bs.getD i false=bs[i]:=by simp [List.getD,hi]
   have hq:Q' (bs.getD i false) s':=hq;rw[e2] at hq;exact Kr hq
 . have e:(List.range its.toArray.size).all (λi=>bs.getD i false)=bs.all id:=by rw[Jr,<- hlen];exact Gq bs
   rw[e];exact⟨.bl (bs.all id),H,I.kept λb o q=>hk b o (λz=>by
     have z':b=s.heap.objs.size:=by simpa using z
     rw[z'] at q;exact absurd (Ji q) (KL _)) (JX _ q),rfl,q⟩
end
def mF:Expr->Option V
 | .Constant (.str x) _ _=>some (.str x)
 | .Constant (.int i) _ _=>some (.int i)
 | .Constant (.bool b) _ _=>some (.bl b)
 | .Constant .none _ _=>some .non
 | _=>none
def mS:List Expr->Option (List V)
 | []=>some []
 | e :: r=>match mF e,mS r with
   | some v,some vs=>some (v :: vs)
   | _,_=>none
def Ip {e:Expr} {v:V} (h:mF e=some v):PE X e (tC v):=by
 unfold mF at h;split at h
 . cases h; exact aP
 . cases h; exact aE
 . cases h; exact mz
 . cases h; exact j3
 . cases h
def E3 {e:Expr} {es:List Expr} {v:V} (h:mF e=some v):starEach (e :: es) X.env=(false,eval e X.env) :: starEach es X.env:=by unfold mF at h;split at h <;> first|rfl|cases h
theorem rh {X:Cx}:∀{es:List Expr} {vs:List V},mS es=some vs->PA X es (λ_ H Q=>Q vs H)
 | [],vs,h=>by cases h;exact aD
 | e :: r,vs,h=>by
   unfold mS at h;split at h
   . rename_i v vs' h1 h2
     cases h;exact yA (Ip h1) (rh h2) (E3 h1)
   . cases h
def Same.tup {K:W.Frag} {H H':Hp} {a:Addr} {xs:List V} (e:Same H H') (h:aI K H a xs):aI K H' a xs:=by
 rcases h with(h|⟨o,h⟩)|h
 . exact .inl (.inl (e _ _ h))
 . exact .inl (.inr ⟨o,e _ _ h⟩)
 . exact .inr h
def Same.new {o:HO} (h:H p=none):Same H (upd H p o):=λb u e=>by rw[aQ (aV e h)];exact e
def Same.upd {H':Hp}{o:HO} (e:Same H H') (h:H p=none):Same H (upd H' p o):=λb u q=>by rw[aQ (aV q h)];exact e b u q
structure DefOk (K:W.Frag) (mg:Str->Option Value) (name:Str) (st:Stmt) (ps:List Str) (f:Addr) (fd:FuncData):Prop where
 F:Fun K name name st f fd
 g:mg name=some (.ref f)
 b:gc K fd ps []
section
variable {X:Cx} {k:Nat} {f:Addr} {fd:FuncData} {ps:List Str} {sp:Sp} {x:Str} {st:Stmt} {p pos:Pos} {e:Expr} {es:List Expr} {t:TA}
def aU (D:DefOk X.K X.mg x st ps f fd) (G:FnOk X.prog X.w X.K X.mg X.base CX0 k f fd ps sp) (hr:Room k X.A) (ha:PA X (e :: es) t) (hg:Gl X x:=by rfl)
   (hdb:(x==("__debug__":Str))=false:=by decide) (he:starEach (e :: es) X.env=(false,eval e X.env) :: starEach es X.env:=by rfl) (hpl:(backTo pos (starEach es X.env)).any (·.1)=false:=by rfl) :
   PE X (.Call (.Name x p) (e :: es) [] pos) (rC sp [] E0 t):=yi G hr hg D.g D.F.kp D.b .nil vz ha hdb he hpl
def kK {z:Int} (h:∃t,X.mg x=some (.int z t)) (hg:Gl X x:=by rfl) (hd:(x==("__debug__":Str))=false:=by decide):PE X (.Name x pos) (tC (.int z)):=by obtain⟨t,h⟩:=h;exact wx hg h ⟨t,rfl⟩ hd
def j9 {a:Addr} (h:X.mg x=some (.ref a)) (hg:Gl X x:=by rfl) (hd:(x==("__debug__":Str))=false:=by decide):PE X (.Name x pos) (tC (.ref a)):=wx hg h rfl hd
end
theorem cL {mg:Str->Option Value} {h:Heap} {name:Str} {st:Stmt} {ps:List Str} {f:Addr} {oc:Value} {od an:Option Addr} {osl:Array (Option Value)} {kV doc pm cdv ct:Value} (X:K.In h) (G:h.Ns mainGlobals mg)
   (a:PySem.W.nsIn K mainGlobals name=some (some (.ref f))) (l:K.lookup f=some ⟨oc,od,.func (PySem.W.fnOf name name (fe st) (bN st) (af st) .none kV doc pm an cdv ct),osl⟩) (c:PySem.W.codeIn K cdv name=true) (k:PySem.W.keepIn K (.ref f)=true)
   (b:∀(kV doc pm:Value) (an:Option Addr) (cdv ct:Value) (us:List Value),us.length=ps.length->bindArgs (PySem.W.fnOf name name (fe st) (bN st) (af st) .none kV doc pm an cdv ct) ⟨us,[]⟩=pure (ps.zip us)) :
   DefOk K mg name st ps f (PySem.W.fnOf name name (fe st) (bN st) (af st) .none kV doc pm an cdv ct) :=
 ⟨kN l c k,PySem.W.mg_of X G a,(kN l c k).binds b⟩
def dG {p:Prop} [Decidable p] (h:decide p=true):p:=LV h
def bF {c A B:Prop} [Decidable c] (hc:c) (h:A):if c then A else B:=by rw[Je hc];exact h
def bC {c A B:Prop} [Decidable c] (hc:¬ c) (h:B):if c then A else B:=by rw[Ja hc];exact h
end L2
namespace L2
open PySem
def bV:bootBuiltins "len"=some (.builtin "len"):=by decide +kernel
def Eg:bootBuiltins "all"=some (.builtin "all"):=by decide +kernel
def p8:bootBuiltins "isinstance"=some (.builtin "isinstance"):=by decide +kernel
def Hm:bootBuiltins "str"=some (.type "str"):=by decide +kernel
def tZ:bootBuiltins "int"=some (.type "int"):=by decide +kernel
def j5:bootBuiltins "list"=some (.type "list"):=by decide +kernel
def oJ:bootBuiltins "tuple"=some (.type "tuple"):=by decide +kernel
def Hf:bootBuiltins "dict"=some (.type "dict"):=by decide +kernel
def BY:bootBuiltins "enumerate"=some (.type "enumerate"):=by decide +kernel
def Ej:bootBuiltins "zip"=some (.type "zip"):=by decide +kernel
def Fp {b:Bool} (h:b=false):¬ b=true:=by rw[h]; decide
end L2
namespace L2
open PySem PySem.Spec PyProof.Rows
mutual
def DatV (K:W.Frag) (H:Hp):PyData->V->Prop
 | .none,v=>v=.non
 | .bool b,v=>v=.bl b
 | .int i,v=>v=.int i
 | .str x,v=>v=.str x
 | .list ds,v=>∃a xs,v=.ref a/\aG K H a xs/\DatAll K H ds xs
 | .tuple ds,v=>∃a xs,v=.ref a/\aI K H a xs/\DatAll K H ds xs
 | .dict _,_=>False
def DatAll (K:W.Frag) (H:Hp):List PyData->List V->Prop
 | [],xs=>xs=[]
 | d :: ds,xs=>∃x r,xs=x :: r/\DatV K H d x/\DatAll K H ds r
end
section
variable {X:Cx} {pins:List (Addr×Obj)} {σ:St} {H:Hp} {s:Shared}
mutual
theorem mK (I:Inv X pins σ H s):∀(d:PyData) (v:V) (u:Value),DatV X.K H d v->aX v u->∃as,Reads s.heap u d as
 | .none,v,u,h,r=>by unfold DatV at h;subst h;cases (show u=Value.none from r);exact⟨_,.none⟩
 | .bool b,v,u,h,r=>by unfold DatV at h;subst h;cases (show u=Value.bool b from r);exact⟨_,.bool b⟩
 | .int i,v,u,h,r=>by
   unfold DatV at h;subst h;obtain⟨t,rfl⟩:=(show ∃t,u=Value.int i t from r)
   exact⟨_,.int i t⟩
 | .str x,v,u,h,r=>by
   unfold DatV at h;subst h;obtain⟨t,rfl⟩:=(show ∃t,u=Value.str x t from r)
   exact⟨_,.str x t⟩
 | .list ds,v,u,h,r=>by unfold DatV at h;obtain⟨a,xs,rfl,hq,hd⟩:=h;cases (show u=Value.ref a from r);obtain⟨its,rv,⟨o,n,ho,hc,_,hdt⟩,_⟩:=I.list hq;obtain⟨as,ra⟩:=sJ I ds xs its hd rv;exact⟨_,.list ho hc hdt (by simpa using ra)⟩
 | .tuple ds,v,u,h,r=>by unfold DatV at h;obtain⟨a,xs,rfl,hq,hd⟩:=h;cases (show u=Value.ref a from r);obtain⟨its,rv,⟨o,ho,hc,n,hdt⟩,_⟩:=I.tuple hq;obtain⟨as,ra⟩:=sJ I ds xs its hd rv;exact⟨_,.tuple ho hc hdt (by simpa using ra)⟩
 | .dict _,v,u,h,r=>by unfold DatV at h;exact h.elim
theorem sJ (I:Inv X pins σ H s):∀(ds:List PyData) (xs:List V) (us:List Value),DatAll X.K H ds xs->aT xs us->∃as,ReadsAll s.heap us ds as
 | [],xs,us,h,r=>by unfold DatAll at h;subst h;cases r;exact⟨_,.nil⟩
 | d :: ds,xs,us,h,r=>by
   unfold DatAll at h;obtain⟨x,rest,rfl,hd,hds⟩:=h;cases r with
   | cons r1 r2 =>
     obtain⟨as,ra⟩:=mK I d _ _ hd r1;obtain⟨bs,rb⟩:=sJ I ds _ _ hds r2;exact⟨_,.cons ra rb⟩
end
end
def uK (K:W.Frag):R2:=λx y H Q=>∃d e,DatV K H d x/\DatV K H e y/\SeqAt.shaped d=true/\SeqAt.shaped e=true/\Q (.bl (PyData.eqv d e)) H
def JD (K:W.Frag):R2:=λx y H Q=>∃d e,DatV K H d x/\DatV K H e y/\SeqAt.shaped d=true/\SeqAt.shaped e=true/\Q (.bl (!PyData.eqv d e)) H
variable {X:Cx}
def qc (hu:X.A.units+64<cLine):c6 X (compareOp .Eq) (uK X.K):=by intro pins s σ H x y v u Q I rx ry h;obtain⟨d,e,hd,he,sd,se,q⟩:=h;obtain⟨as,ra⟩:=mK I d x v hd rx;obtain⟨bs,rb⟩:=mK I e y u he ry;exact SeqAt.compareEq_shaped ra rb sd se hu ⟨.bl _,H,I,rfl,q⟩
def tU (hu:X.A.units+64<cLine):c6 X (compareOp .NotEq) (JD X.K):=by intro pins s σ H x y v u Q I rx ry h;obtain⟨d,e,hd,he,sd,se,q⟩:=h;obtain⟨as,ra⟩:=mK I d x v hd rx;obtain⟨bs,rb⟩:=mK I e y u he ry;exact SeqAt.compareNe_shaped ra rb sd se hu ⟨.bl _,H,I,rfl,q⟩
section
variable {κ:Type} [DecidableEq κ]
def bb (kvs:List (κ×V)) (k:κ):Option V:=(kvs.find? λkv=>decide (kv.1=k)).map (·.2)
def al (kvs:List (κ×V)) (k:κ) (v:V):List (κ×V) :=
 if(kvs.any λkv=>decide (kv.1=k))=true then kvs.map (λkv=>if kv.1=k then(kv.1,v) else kv) else kvs++[(k,v)]
def gy {p:κ×V} {r:List (κ×V)} {k:κ} (e:p.1=k):bb (p :: r) k=some p.2:=by simp [bb,LR,e]
def gs {p:κ×V} {r:List (κ×V)} {k:κ} (e:¬ p.1=k):bb (p :: r) k=bb r k:=by simp [bb,LR,e]
theorem lJ (k:κ):∀kvs:List (κ×V),(kvs.any λkv=>decide (kv.1=k))=(bb kvs k).isSome
 | []=>rfl
 | p :: r=>by
   rw[Ls];by_cases e:p.1=k
   . simp only[gy e,K3 e,Bool.true_or,Option.isSome_some]
   . rw[gs e,KF e,Bool.false_or]; exact lJ k r
theorem xF (k j:κ) (y:V):∀kvs:List (κ×V),bb (kvs.map λkv=>if kv.1=k then(kv.1,y) else kv) j=(bb kvs j).map λx=>if j=k then y else x
 | []=>rfl
 | p :: r=>by
   have ih:=xF k j y r;rw[KG];by_cases h:p.1=k
   . rw[Je h];by_cases e:p.1=j
     . rw[gy (p:=(p.1,y)) e,gy e,M7,Je (e.symm.trans h)]
     . rw[gs (p:=(p.1,y)) e,gs e,ih]
   . rw[Ja h];by_cases e:p.1=j
     . rw[gy (p:=p) e,gy e,M7,Ja (λz=>h (e.trans z))]
     . rw[gs (p:=p) e,gs e,ih]
theorem xG (k j:κ) (y:V):∀kvs:List (κ×V),bb kvs k=none->bb (kvs++[(k,y)]) j=if j=k then some y else bb kvs j
 | [],_=>by
   by_cases e:k=j
   . rw[Je e.symm]; exact gy (p:=(k,y)) e
   . rw[Ja (λz=>e z.symm)]; exact gs (p:=(k,y)) e
 | p :: r,hn=>by
   rw[List.cons_append];have hk:¬ p.1=k:=λz=>by rw[gy z] at hn; cases hn
   rw[gs hk] at hn;have ih:=xG k j y r hn;by_cases e:p.1=j
   . rw[gy e,gy e,Ja (λz=>hk (e.trans z))]
   . rw[gs e,gs e,ih]
def mi (kvs:List (κ×V)) (k j:κ) (y:V):bb (al kvs k y) j=if j=k then some y else bb kvs j:=by
 unfold al;by_cases a:(kvs.any λkv=>decide (kv.1=k))=true
 . rw[Je a,xF];rw[lJ] at a;by_cases e:j=k
   . obtain⟨x,hx⟩:=LI.mp a;rw[Je e,e,hx,M7,Je rfl]
   . rw[Ja e];cases bb kvs j with
     | none=>rfl
     | some x=>rw[M7,Ja e]
 . rw[Ja a];refine xG k j y kvs ?_;rw[lJ] at a;cases q:bb kvs k with
   | none=>rfl
   | some x=>rw[q] at a; exact(a rfl).elim
def gH (kvs:List (κ×V)) (k:κ) (v:V):(al kvs k v).length<=kvs.length+1:=by
 unfold al;split
 . rw[JR]; omega
 . rw[JS,JY,L7]; omega
def vx {kvs:List (κ×V)} {k:κ} (v:V) (h:bb kvs k=none):al kvs k v=kvs++[(k,v)]:=by unfold al;rw[lJ,h];exact Ja (by decide)
def eg.isSome_eq {o:Option V} {u:Option Value} (r:eg o u):o.isSome=u.isSome:=by
 cases o with
 | none=>cases u with
   | none=>rfl
   | some _=>exact(show False from r).elim
 | some _=>cases u with
   | none=>exact(show False from r).elim
   | some _=>rfl
def KV.val {kvs:List (κ×V)} {vs:List (κ×Value)} (r:KV kvs vs) (k:κ):eg (bb kvs k) (valueAt vs k):=by
 unfold KV at r
 induction r with
 | nil=>exact True.intro
 | @cons p q ps qs h t ih =>
   obtain⟨h1,h2⟩:=h;by_cases e:p.1=k
   . have e':q.1=k:=h1.symm.trans e;have b:valueAt (q :: qs) k=some q.2:=by simp [valueAt,LR,e']
     rw[gy e,b]; exact h2
   . have e':¬ q.1=k:=λz=>e (h1.trans z);have b:valueAt (q :: qs) k=valueAt qs k:=by simp [valueAt,LR,e']
     rw[gs e,b]; exact ih
def KV.any {kvs:List (κ×V)} {vs:List (κ×Value)} (r:KV kvs vs) (k:κ):(kvs.any λkv=>decide (kv.1=k))=vs.any λkv=>decide (kv.1=k):=by
 unfold KV at r
 induction r with
 | nil=>rfl
 | cons h t ih=>rw[Ls,Ls,ih,h.1]
variable {u:Value} {y:V}
theorem KV.repl {kvs:List (κ×V)} {vs:List (κ×Value)} (r:KV kvs vs) (k:κ) (ry:aX y u) :
   KV (kvs.map λkv=>if kv.1=k then(kv.1,y) else kv) (vs.map λkv=>if kv.1=k then(kv.1,u) else kv):=by
 unfold KV at r ⊢
 induction r with
 | nil=>exact .nil
 | @cons p q ps qs h t ih =>
   rw[KG,KG];refine .cons ?_ ih;obtain⟨h1,h2⟩:=h;by_cases e:p.1=k
   . rw[Je e,Je (h1.symm.trans e)]; exact⟨h1,ry⟩
   . rw[Ja e,Ja (λz=>e (h1.trans z))]; exact⟨h1,h2⟩
def KV.put {kvs:List (κ×V)} {vs:List (κ×Value)} (r:KV kvs vs) (k:κ) (ry:aX y u):KV (al kvs k y) (stored vs k u):=by
 unfold al stored;rw[r.any k];by_cases e:(vs.any λkv=>decide (kv.1=k))=true
 . rw[Je e,Je e]; exact r.repl k ry
 . rw[Ja e,Ja e]; exact Paired.snoc r ⟨rfl,ry⟩
def KV.length {kvs:List (κ×V)} {vs:List (κ×Value)} (r:KV kvs vs):kvs.length=vs.length:=Paired.length r
end
variable {w:World}
def ke {P:Program} {k:aM} (r:aX (kV k) u):(cq P w).is k u=true:=by
 cases k with
 | inl i=>obtain⟨t,e⟩:=(show ∃t,u=Value.int i t from r); subst e; exact Dz P w i t
 | inr x=>obtain⟨t,e⟩:=(show ∃t,u=Value.str x t from r); subst e; exact Fi P w x t
theorem vT {P:Program} {w:World}:∀{ks:List aM} {us:List Value},aT (ks.map kV) us->ItemsAre (cq P w) ks us
 | [],_,r=>by rw[MS] at r; cases r; exact .nil
 | k :: ks,_,r=>by
   rw[KG] at r;cases r with
   | cons h t=>exact .cons (ke h) (vT t)
abbrev KT (H:Hp):List (List aM×V)->List (List aM×Addr×Value)->Prop:=Paired λp q=>p.1=q.1/\H q.2.1=some (.tup (p.1.map kV))/\aX p.2 q.2.2
variable {H:Hp}
def KT.val {kvs:List (List aM×V)} {xs:List (List aM×Addr×Value)} (r:KT H kvs xs) (k:List aM):eg (bb kvs k) ((atKey xs k).map (·.2)):=by
 induction r with
 | nil=>exact True.intro
 | @cons p q ps qs h t ih =>
   obtain⟨h1,_,h2⟩:=h;by_cases e:p.1=k
   . have e':q.1=k:=h1.symm.trans e;have b:atKey (q :: qs) k=some q.2:=by simp [atKey,LR,e']
     rw[gy e,b]; exact h2
   . have e':¬ q.1=k:=λz=>e (h1.trans z);have b:atKey (q :: qs) k=atKey qs k:=by simp [atKey,LR,e']
     rw[gs e,b]; exact ih
theorem KT.repl {kvs:List (List aM×V)} {xs:List (List aM×Addr×Value)} (r:KT H kvs xs) (k:List aM) (ry:aX y u) :
   KT H (kvs.map λkv=>if kv.1=k then(kv.1,y) else kv) (xs.map (putAt k u)):=by
 induction r with
 | nil=>exact .nil
 | @cons p q ps qs h t ih =>
   rw[KG,KG];refine .cons ?_ ih;obtain⟨h1,h2,h3⟩:=h;unfold putAt;by_cases e:p.1=k
   . rw[Je e,Je (h1.symm.trans e)]; exact⟨h1,h2,ry⟩
   . rw[Ja e,Ja (λz=>e (h1.trans z))]; exact⟨h1,h2,h3⟩
theorem KT.put {kvs:List (List aM×V)} {xs:List (List aM×Addr×Value)} (r:KT H kvs xs) (k:List aM) {b:Addr} (hb:H b=some (.tup (k.map kV))) (ry:aX y u) :
   KT H (al kvs k y) (storedH xs k b u):=by
 have e:(kvs.any λkv=>decide (kv.1=k))=(atKey xs k).isSome:=by rw[lJ,(r.val k).isSome_eq,Option.isSome_map]
 unfold al storedH;rw[e];by_cases q:(atKey xs k).isSome=true
 . rw[Je q,Je q]; exact r.repl k ry
 . rw[Ja q,Ja q]; exact Paired.snoc r ⟨rfl,hb,ry⟩
variable {H':Hp}
def KT.keeps {kvs:List (List aM×V)} {xs:List (List aM×Addr×Value)} (r:KT H kvs xs) (ht:∀b ys,H b=some (.tup ys)->H' b=some (.tup ys)):KT H' kvs xs :=
 Paired.mapP r λ_ _ z=>⟨z.1,ht _ _ z.2.1,z.2.2⟩
section
variable {P:Program} {w:World} {H:Hp} {h:Heap} {a:Addr}
def vO {u:HO} (ok:bH P w H h) (e:Rd H a u):c7 P w H h a u:=e.ok ok
def mm {kvs:List (aM×V)} (ok:bH P w H h) (e:Rd H a (.dK kvs)):kvs.length<=sizeLine/\(a==sysModules)=false/\∃vs,KV kvs vs/\h.DictOf (cq P w) a vs :=
 show c7 P w H h a (.dK kvs) from vO ok e
def oh {kvs:List (aM×V)} (ok:bH P w H h) (e:H a=some (.dK kvs)):kvs.length<=sizeLine/\(a==sysModules)=false/\∃vs,KV kvs vs/\h.DictOf (cq P w) a vs:=mm ok (.inl e)
def qN {ks:List aM} (ok:bH P w H h) (e:H a=some (.tup (ks.map kV))):(tupleKind (cq P w)).is h ks a:=by
 obtain⟨_,its,r,o,h1,h2,n,h3⟩:=(show c7 P w H h a (.tup (ks.map kV)) from ok a _ e)
 exact⟨o,its.toArray,n,h1,h2,h3,by simpa using vT r⟩
theorem mR {kvs:List (List aM×V)} (ok:bH P w H h) (e:Rd H a (.dT kvs)):kvs.length<=sizeLine/\(a==sysModules)=false /\
   ∃xs,KT H kvs xs/\h.DictOfH (tupleKind (cq P w)) a xs:=by
 obtain⟨z,y,xs,r,o,es,ep,h1,h2,h3,h4,h5⟩:=(show c7 P w H h a (.dT kvs) from vO ok e)
 refine⟨z,y,xs,r,o,es,ep,h1,h2,h3,h4,λx hx=>?_,h5⟩;have all:∀{l:List (List aM×V)} {m:List (List aM×Addr×Value)},KT H l m->∀x∈m,(tupleKind (cq P w)).is h x.1 x.2.1:=by
   intro l m q
   induction q with
   | nil=>intro x hx; exact nomatch hx
   | @cons p q ps qs hq t ih =>
     intro x hx;rcases Jl.mp hx with e|hx
     . subst e;exact qN ok (by rw[<- hq.1]; exact hq.2.1)
     . exact ih x hx
 exact all r x hx
theorem Fm {kvs:List (List aM×V)} (ok:bH P w H h) (e:H a=some (.dT kvs)):kvs.length<=sizeLine/\(a==sysModules)=false /\
   ∃xs,KT H kvs xs/\h.DictOfH (tupleKind (cq P w)) a xs:=mR ok (.inl e)
end
def ff (H:Hp) (a:Addr) (y:V) (r:Option V):Prop :=
 (∃kvs k,Rd H a (.dK kvs)/\y=kV k/\r=bb kvs k)\/∃kvs k b,Rd H a (.dT kvs)/\y=.ref b/\H b=some (.tup (k.map kV))/\r=bb kvs k
def gF (H:Hp) (a:Addr) (y v:V) (H':Hp):Prop :=
 (∃kvs k,H a=some (.dK kvs)/\y=kV k/\kvs.length<sizeLine/\H'=upd H a (.dK (al kvs k v))) \/
 ∃kvs k b,H a=some (.dT kvs)/\y=.ref b/\H b=some (.tup (k.map kV))/\kvs.length<sizeLine/\H'=upd H a (.dT (al kvs k v))
def ff.k {H:Hp} {a:Addr} {kvs:List (aM×V)} {k:aM} (e:H a=some (.dK kvs)):ff H a (kV k) (bb kvs k):=.inl ⟨kvs,k,.inl e,rfl,rfl⟩
def gF.k {H:Hp} {a:Addr} {kvs:List (aM×V)} {k:aM} {v:V} (e:H a=some (.dK kvs)) (hl:kvs.length<sizeLine):gF H a (kV k) v (upd H a (.dK (al kvs k v))):=.inl ⟨kvs,k,e,rfl,hl,rfl⟩
section
variable {X:Cx} {pins:List (Addr×Obj)} {σ:St} {H:Hp} {s:Shared} {a:Addr} {y v:V} {u r:Value} {o:Option V} {A:Around} {E:Value->Shared->Prop}
def Inv.big (I:Inv X pins σ H s):sysModules<s.heap.objs.size:=by have h:mainGlobals<s.heap.objs.size:=(I.mod.glob.keeps I.bk).lt;exact Nat.lt_trans (by decide) h
theorem F9 {Q:Value->Shared->Prop} (hu:A.units+1<cLine) (I:Inv X pins σ H s) (g:ff H a y (some v)) (ry:aX y u) (h:∀w' s',Inv X pins σ H s'->aX v w'->Q w' s') :
   wpAny (model X.prog X.w) A (getItem (.ref a) u) Q E s:=by
 rcases g with⟨kvs,k,e,ey,l⟩|⟨kvs,k,b,e,ey,eb,l⟩
 . subst ey;obtain⟨z,hd,vs,rel,dd⟩:=mm I.hok e;obtain⟨w',hw,rw'⟩:=eg.some_of (v:=v) (o:=valueAt vs k) (by rw[l]; exact rel.val k);exact wpAny_getItem_of (ke ry) dd.mapOf hw (h w' _ (I.tok _) rw')
 . subst ey;cases (show u=Value.ref b from ry);obtain⟨z,hd,xs,rel,dd⟩:=mR I.hok e;obtain⟨w',hw,rw'⟩:=eg.some_of (v:=v) (o:=(atKey xs k).map (·.2)) (by rw[l]; exact rel.val k);obtain⟨p,hp,hp2⟩:=Option.map_eq_some_iff.mp hw;refine wpAny_getItem_heap (tupleKind_room_in1 hu) (qN I.hok eb) dd hp ?_;rw[hp2];exact h w' _ (I.tok _) rw'
theorem Bb {Q:Value->Shared->Prop} (hu:A.units+1<cLine) (I:Inv X pins σ H s) (g:ff H a y o) (ry:aX y u) (h:∀s',Inv X pins σ H s'->Q (.bool o.isSome) s') :
   wpAny (model X.prog X.w) A (compareOp .In u (.ref a)) Q E s:=by
 rcases g with⟨kvs,k,e,ey,l⟩|⟨kvs,k,b,e,ey,eb,l⟩
 . subst ey;obtain⟨z,hd,vs,rel,dd⟩:=mm I.hok e;refine wpAny_in_of (ke ry) hd dd.mapOf ?_;rw[<- (rel.val k).isSome_eq,<- l];exact h _ (I.tok _)
 . subst ey;cases (show u=Value.ref b from ry);obtain⟨z,hd,xs,rel,dd⟩:=mR I.hok e;refine wpAny_in_heap (tupleKind_room_in1 hu) (qN I.hok eb) hd dd ?_;have q:=(rel.val k).isSome_eq;rw[Option.isSome_map] at q;rw[<- q,<- l];exact h _ (I.tok _)
theorem oX {h':Heap} {t':Nat} {ob:HO} (I:Inv X pins σ H s) (mu:mW (H a)) (hs:Heap.SameBut a s.heap h') (he:∃q,h'.get? a=some q) (new:c7 X.prog X.w (upd H a ob) h' a ob) :
   Inv X pins σ (upd H a ob) { s with heap:=h',toks:=t' } :=
 I.write (x:=a) (e:=a) mu (.inl rfl) (λb q hb z=>(hs.2 b hb).trans z) he new
theorem rR {P:Program} {h':Heap} {kvs:List (aM×V)} {vs:List (aM×Value)} (z:kvs.length<=sizeLine) (hd:(a==sysModules)=false) (rel:KV kvs vs) (dd:h'.DictOf (cq P w) a vs) :
   c7 P w H' h' a (.dK kvs):=⟨z,hd,vs,rel,dd⟩
theorem Ec {Q:Unit->Shared->Prop} (hu:A.units+1<cLine) (I:Inv X pins σ H s) (g:gF H a y v H') (ry:aX y u) (rv:aX v r) (h:∀s',Inv X pins σ H' s'->Q () s') :
   wpAny (model X.prog X.w) A (setItem (.ref a) u r) Q E s:=by
 rcases g with⟨kvs,k,e,ey,l,eH⟩|⟨kvs,k,b,e,ey,eb,l,eH⟩
 . subst ey eH;obtain⟨z,hd,vs,rel,dd⟩:=oh I.hok e;have hz:vs.length<=sizeLine:=by rw[<- rel.length]; exact z
   have hl:(al kvs k v).length<=sizeLine:=by have:=gH kvs k v; omega
   refine wpAny_setItem_pairs (hsz:=hz) (ke ry) dd λh' dd' hs=>h _ ?_;have he:∃q,h'.get? a=some q:=let ⟨q,_,_,hq,_⟩:=dd'; ⟨q,hq⟩
   exact oX I (by rw[e]; exact True.intro) hs he (rR hl hd (rel.put k rv) dd')
 . subst ey eH;cases (show u=Value.ref b from ry);obtain⟨z,hd,xs,rel,dd⟩:=Fm I.hok e;have hz:xs.length<=sizeLine:=by rw[<- Paired.length rel]; exact z
   have hl:(al kvs k v).length<=sizeLine:=by have:=gH kvs k v; omega
   refine wpAny_setItem_heap (hsz:=hz) (tupleKind_room_in1 hu) (qN I.hok eb) dd λh' dd' hs=>h _ ?_;obtain⟨q,es,ep,hq,h2,h3,h4,_,h5⟩:=dd';refine oX I (by rw[e]; exact True.intro) hs ⟨q,hq⟩ ⟨hl,hd,_,(rel.put k eb rv).keeps λc ys ec=>?_,q,es,ep,hq,h2,h3,h4,h5⟩;rw[aQ (jw ec e (λz=>nomatch z))];exact ec
end
def yR (i:Expr):Prop:=∀ov iv,subscripted i false ov iv=operate [ov,iv] (getItem ov iv)
theorem Il {prog:Program} {A:Around} {E:Value->Shared->Prop} {s:Shared} {env:Env} {value slice:Expr} {pos:Pos} {T id:String} {Q:Value->Shared->Prop}
   (hl:typeLookup (.type T) "__getitem__"=pure (some (.builtin id))) (hs:yR slice)
   (h:wpAny (model prog w) A (eval value env) (λo s₁=>wpAny (model prog w) A (eval slice env) (λi s₂=>s₂.TypeIs o T/\wpAny (model prog w) A (getItem o i) Q E s₂) E s₁) E s) :
   wpAny (model prog w) A (eval (.Subscript value slice pos) env) Q E s:=by
 refine Subscript_ (Kk h (λo s₁ h₁=>Kk h₁ (λi s₂ h₂=>?_) λ_ _ x=>x) λ_ _ x=>x);obtain⟨hT,h₂⟩:=h₂;unfold subscriptTail;refine JT ?_;rw[getitemInPython_of_ne hT.not_modules];refine JT (wpAny_specialOf hT hl ?_);have fin:wpAny (model prog w) A (subscripted slice false o i) (λr s₃=>wpAny (model prog w) A (letTemporaryGo value o r >>= λ_=>pure r) Q E s₃) E s₂:=by rw[hs o i];exact wpAny_operating (Kk h₂ (λr s₃ h₃=>JT (wpAny_letTemporaryGo (Jh h₃))) λ_ _ x=>x)
 first
   | exact Jh (JT fin)
   | exact JT (Jh (JT fin))
   | exact JT fin
def DZ {pins:List (Addr×Obj)} {σ:St} {s:Shared} {a:Addr} {o:Option V} (I:Inv X pins σ H s) (g:ff H a y o):s.TypeIs (.ref a) "dict":=by
 rcases g with⟨kvs,k,e,_,_⟩|⟨kvs,k,b,e,_,_,_⟩
 . obtain⟨_,_,vs,_,dd⟩:=mm I.hok e;exact dd.typeIs
 . obtain⟨_,_,xs,_,dd⟩:=mR I.hok e;exact dd.typeIs
def Ek (td ty:TE):TE:=λσ H Q=>td σ H λx H1=>ty σ H1 λy H2=>∃a v,x=.ref a/\ff H2 a y (some v)/\Q v H2
def ET (ty td:TE):TE:=λσ H Q=>ty σ H λy H1=>td σ H1 λx H2=>∃a o,x=.ref a/\ff H2 a y o/\Q (.bl o.isSome) H2
def Ir (td ty tv:TE):TS:=λD σ H=>tv σ H λv H1=>td σ H1 λx H2=>ty σ H2 λy H3=>∃a H4,x=.ref a/\gF H3 a y v H4/\D.nx σ H4
section
variable {X:Cx} {o i e value:Expr} {pos pos' tpos:Pos} {td ty tv:TE}
def jM (hu:X.A.units+1<cLine) (ho:PE X o td) (hi:PE X i ty) (hs:yR i):PE X (.Subscript o i pos) (Ek td ty):=by intro pins s σ H Q I h;refine Il PySem.F.slot_dict_getitem.lookup hs (aO (ho pins s σ H _ I h) λu s1 ⟨x,H1,I1,rx,q1⟩=>aO (hi pins s1 σ H1 _ I1 q1) λiv s2 ⟨y,H2,I2,ry,a,v,ex,g,q2⟩=>?_);subst ex;obtain rfl:u=Value.ref a:=rx;exact⟨DZ I2 g,F9 hu I2 g ry λw' s3 I3 rw'=>⟨v,H2,I3,rw',q2⟩⟩
def De (hu:X.A.units+1<cLine) (hi:PE X i ty) (ho:PE X o td):PC X .In i o (ET ty td):=by intro pins s σ H Q I h;refine aO (hi pins s σ H _ I h) λiv s1 ⟨y,H1,I1,ry,q1⟩=>aO (ho pins s1 σ H1 _ I1 q1) λu s2 ⟨x,H2,I2,rx,a,ov,ex,g,q2⟩=>?_;subst ex;obtain rfl:u=Value.ref a:=rx;exact Bb hu I2 g ry λs3 I3=>⟨.bl ov.isSome,H2,I3,rfl,q2⟩
theorem iZ (hu:X.A.units+1<cLine) (ho:PE X o td) (hi:PE X i ty) (hv:PE X value tv) (hs:swapsWith value (some (.Subscript o i pos')) pos.line X.env=pure false) :
   PS X (.Assign [.Subscript o i pos'] value pos) (Ir td ty tv):=by
 intro pins s σ H D I h;refine wpAny_Assign_Subscript (aO (hv pins s σ H _ I h) λr s1 ⟨v,H1,I1,rv,q1⟩=>aO (ho pins s1 σ H1 _ I1 q1) λu s2 ⟨x,H2,I2,rx,q2⟩=>aO (hi pins s2 σ H2 _ I2 q2) λiv s3 ⟨y,H3,I3,ry,a,H4,ex,g,q3⟩=>?_) hs;subst ex;obtain rfl:u=Value.ref a:=rx;exact Ec hu I3 g ry rv λs4 I4=>⟨σ,H4,I4,q3⟩
end
def uS {P:Program} (h:Heap) (hb:sysModules<h.objs.size):c7 P w H (h.push { cls:=.type "dict",data:=.dict #[] }) h.objs.size (.dK []) :=
 ⟨Jw _,beq_eq_false_iff_ne.mpr (Ne.symm (K4 hb)),[],.nil,Heap.DictOf.new h⟩
def IU:TE:=λ_ H Q=>∀p,H p=none->Q (.ref p) (upd H p (.dK []))
section
variable {X:Cx} {pos:Pos}
def ig:PE X (.Dict [] [] pos) IU:=λpins s σ H Q I h =>
 wpAny_Dict_empty ⟨.ref s.heap.objs.size,_,I.laid (a:=s.heap.objs.size) (o:=.dK []) (t':=s.toks) (λ_ _ q=>JX _ q) (JZ _) (uS s.heap I.big),rfl,h _ (I.hok.fresh (JZ _))⟩
end
structure M2 (X:Cx) (o:Expr) (m:Str) (apos:Pos) (e f:Expr) (cpos:Pos):Prop where
 base:attributeBase o m X.env (eval o X.env)=eval o X.env
 few:((backTo cpos (starEach [e,f] X.env)).all (λx=>!x.1)&&(backToKw cpos (keywordEach [] X.env)).all (λx=>x.1.isSome)
   && decide (([e,f]:List Expr).length+([]:List Keyword).length+(if([]:List Keyword).isEmpty then 0 else 1)<30))=true
 line:(apos.endLine==cpos.line)=true
 trees:backTo cpos (starEach [e,f] X.env)=[(false,eval e X.env),(false,eval f X.env)]
def IsD (H:Hp) (a:Addr):Prop:=(∃kvs,Rd H a (.dK kvs))\/∃kvs,Rd H a (.dT kvs)
theorem Fb {pins:List (Addr×Obj)} {σ:St} {s:Shared} {a:Addr} (I:Inv X pins σ H s) (d:IsD H a) :
   s.TypeIs (.ref a) "dict"/\(∀b,Value.ref a=.ref b->∃ob,s.heap.get? b=some ob/\ob.dict=none)/\(a==sysModules)=false:=by
 rcases d with⟨kvs,e⟩|⟨kvs,e⟩
 . obtain⟨_,hd,vs,_,dd⟩:=mm I.hok e;refine⟨dd.typeIs,λb q=>?_,hd⟩;cases q;obtain⟨ob,_,_,h1,h2,_⟩:=dd;exact⟨ob,h1,h2.2.1⟩
 . obtain⟨_,hd,xs,_,dd⟩:=mR I.hok e;refine⟨dd.typeIs,λb q=>?_,hd⟩;cases q;obtain⟨ob,_,_,h1,h2,_⟩:=dd;exact⟨ob,h1,h2.2.1⟩
end L2
namespace PySem
def Ef:typeLookup (.type "list") "keys"=pure none:=by rw[typeLookup_type,builtinLookup_eq_fast]; kernel_rfl
def xw:entryFor table "dict.update.loop"=some Builtin.«dict.update.loop»:=entryFor_of_tree (by kernel_rfl)
def oN:plainId "dict.update.loop"=true:=by decide +kernel
theorem BK {prog:Program} {w:World} {A:Around} {E:Value->Shared->Prop} {s:Shared} {a:Addr} {o:Obj} {xs:Array Value} {k:Nat} {Q:Option Value->Shared->Prop}
   (hx:s.heap.get? a=some o) (hc:o.cls=.type "list") (hdat:o.data=.seq xs k) (hd:o.dict=none) (hA:A.handled=none)
   (h:∀h' tk,(∀b ob,s.heap.get? b=some ob->h'.get? b=some ob)->Q none { s with heap:=h',toks:=tk }) :
   wpAny (model prog w) A (getAttr? (.ref a) "keys") Q E s:=by
 obtain⟨c,dct,dat,sl⟩:=o;simp only at hc hdat hd;subst hc hdat hd;obtain⟨hp,g,d,tk,os⟩:=s;have hT:∀tk',(⟨hp,g,d,tk',os⟩:Shared).TypeIs (.ref a) "list":=λ_=>⟨_,hx,rfl⟩
 have f1:=sub_AttributeError;have f3:=Lj.lookup;have f4:=Lj.bind (.ref a);have f5:=am_list_getattr_none;unfold getAttr? getAttrBy? getAttrBy
 repeat (any_goals (first|assumption|exact hT _|((with_reducible show wpAny _ _ (call (Value.builtin "list.__getattribute__") _ _) _ _ _); refine call_meets Lj (hT _) am_entry_list_getattribute (F.args_list_getattribute_2 _ _) (meets_getattribute_miss_list a xs k sl "keys" _ Ef (by decide +kernel) (by decide +kernel)) ⟨hx,hA,λh' tk' e hx'=>?_⟩)|wp_step))
 obtain⟨t',u',he⟩:=hx'.there
 try (show wpAny _ _ (getattributeRaised _ _ _ _ _ _ _) _ _ _)
 try unfold getattributeRaised
 repeat (any_goals (first|assumption|wp_step))
 all_goals (first|exact h _ _ hx'.keeps|trace_state)
end PySem
namespace L2
open PySem PySem.Spec PyProof.Rows
section
variable {X:Cx} {pins:List (Addr×Obj)} {σ:St} {H:Hp}
theorem pI {α β:Type} {F:α->β->Prop}:∀{l:List α} {m:List β},Paired F l m->∀{i:Nat} (h1:i<l.length) (h2:i<m.length),F l[i] m[i]
 | _,_,.cons h _,0,_,_=>h
 | _,_,.cons _ t,i+1,h1,h2=>by have:=pI t (i:=i) (by simpa using h1) (by simpa using h2);simpa using this
theorem CL {A:Around} {R:Result->Shared->Prop} {p D it:Addr} {ps:List Addr} {kvs:List (aM×V)} (hA:A.handled=none) (hpD:p≠D) (hS:aG X.K H p (ps.map V.ref)) (hps:Paired (λa (kv:aM×V)=>aI X.K H a [kV kv.1,kv.2]) ps kvs)
   (hD:H D=none) (hz:kvs.length<=100000) (hit0:it≠D)
   (hR:∀s',Inv X pins σ (upd H D (.dK (kvs.foldl (λacc kv=>al acc kv.1 kv.2) []))) s'->R (.ok (.ret .none)) s') :
   ∀(k i:Nat) (t:Tok) (s:Shared),kvs.length - i=k->i<=kvs.length->Inv X pins σ (upd H D (.dK ((kvs.take i).foldl (λacc kv=>al acc kv.1 kv.2) []))) s->s.heap.IsListIter it p i ->
     (∀H',H' it=none->eW X pins H' it)->H it=none->codeAny (model X.prog X.w) A (.builtin "dict.update.loop" ⟨[.ref D,.ref it,.int (i:Nat) t,.none],[]⟩) R s:=by
 have sameD:∀o,Same H (upd H D o):=λo=>Same.new hD;have hlen:ps.length=kvs.length:=hps.length;have flen:∀(l:List (aM×V)) (acc:List (aM×V)),(l.foldl (λacc kv=>al acc kv.1 kv.2) acc).length<=acc.length+l.length:=by
   intro l
   induction l with
   | nil=>intro acc; simp
   | cons x r ih =>
     intro acc;rw[LP];have h1:=ih (al acc x.1 x.2);have h2:=gH acc x.1 x.2;simp only[JY];omega
 have big:(100000:Nat)<sizeLine:=by decide
 intro k
 induction k with
 | zero =>
   intro i t s hk hi I hit hfp hHit;have e:i=kvs.length:=by omega
   subst e;rw[K2] at I;obtain⟨its,rv,pl,hz'⟩:=I.list ((sameD _).seq hS);obtain⟨f0,f1,f2,f3,f4,f5⟩:=hfp (upd H D (.dK (kvs.foldl (λacc kv=>al acc kv.1 kv.2) []))) (by rw[aQ hit0]; exact hHit);refine codeAny_builtin xw ?_;rw[Around.under_plainId oN _];show wpAny _ A.in1 (pyNext (.ref it) >>= _) _ _ s;have hl:=rv.length;rw[JR] at hl;refine JT (wpAny_pyNext_list_end hA hit pl.isList (by simp; omega) λh' eb=>?_);have I1:Inv X pins σ (upd H D (.dK (kvs.foldl (λacc kv=>al acc kv.1 kv.2) []))) { s with heap:=h' }:=I.turned (t':=s.toks) (λb o hb e=>eb b o hb e) f0 f1 f3 f4 f5;show wpAny _ _ (Builtin.Dict.addKeywords D [] >>= _) _ _ _;exact JT (Jh (Jh (hR _ I1)))
 | succ k ih =>
   intro i t s hk hi I hit hfp hHit;have hlt:i<kvs.length:=by omega
   obtain⟨its,rv,pl,hz'⟩:=I.list ((sameD _).seq hS);have hpi:(ps.map V.ref)[i]?=some (.ref (ps[i]'(by omega))):=by simp [show i<ps.length by omega]
   obtain⟨u,hu,ru⟩:=rv.get hpi;cases (show u=Value.ref _ from ru);obtain⟨f0,f1,f2,f3,f4,f5⟩:=hfp (upd H D (.dK ((kvs.take i).foldl (λacc kv=>al acc kv.1 kv.2) []))) (by rw[aQ hit0]; exact hHit);refine codeAny_builtin xw ?_;rw[Around.under_plainId oN _];show wpAny _ A.in1 (pyNext (.ref it) >>= _) _ _ s;refine JT (wpAny_pyNext_list_item hit pl.isList (x:=.ref ps[i]) (by simpa using hu) λh' hit' sb=>?_);have I1:Inv X pins σ (upd H D (.dK ((kvs.take i).foldl (λacc kv=>al acc kv.1 kv.2) []))) { s with heap:=h' }:=I.turned (t':=s.toks) (λb o hb e=>(sb.2 b hb).trans e) f0 f1 f3 f4 f5;have hpair:aI X.K H ps[i] [kV (kvs[i]).1,(kvs[i]).2]:=pI hps (by omega) hlt;obtain⟨its2,rv2,⟨o2,ho2,hc2,n2,hd2⟩,_⟩:=I1.tuple ((sameD _).tup hpair);cases rv2 with
   | cons r1 rr =>
     cases rr with
     | cons r2 rr =>
       cases rr
       rename_i ku vu
       refine JT (Kt (JT (wpAny_tryCatch ?_)));show wpAny _ _ (Builtin.Dict.pairItems (.ref ps[i])) _ _ _;unfold Builtin.Dict.pairItems;refine JT (wpAny_typeOf (T:="tuple") ⟨o2,ho2,hc2⟩ ?_);rw[Je (by decide)];refine JT ?_;show wpAny _ _ (load ps[i] >>= _) _ _ _;refine JT (wpAny_load ho2 ?_);rw[hd2];refine Jh (Jh ?_);show wpAny _ _ (holding [ku,vu] (dictSet D ku vu)) _ _ _;refine Kt ?_;obtain⟨z,hd,vs,rel,dd⟩:=oh I1.hok aF;have hl1:=flen (kvs.take i) [];have hl2:(kvs.take i).length<=kvs.length:=by rw[Ju]; omega
       simp only[L7,Lk] at hl1;have hzv:vs.length<=sizeLine:=by rw[<- rel.length]; exact z
       refine wpAny_dictSet_pairs (hsz:=hzv) (ke r1) dd λh2 dd2 hs2=>?_;have he:∃q,h2.get? D=some q:=let ⟨q,_,_,hq,_⟩:=dd2; ⟨q,hq⟩
       have hl3:(al ((kvs.take i).foldl (λacc kv=>al acc kv.1 kv.2) []) (kvs[i]).1 (kvs[i]).2).length<=sizeLine:=by have:=gH ((kvs.take i).foldl (λacc kv=>al acc kv.1 kv.2) []) (kvs[i]).1 (kvs[i]).2;omega
       have I2:=oX (t':=({ s with heap:=h' }:Shared).toks+1) I1 (by rw[aF]; exact True.intro) hs2 he (rR hl3 hd (rel.put (kvs[i]).1 r2) dd2);rw[rO] at I2;have e3:(kvs.take (i+1)).foldl (λacc kv=>al acc kv.1 kv.2) []=al ((kvs.take i).foldl (λacc kv=>al acc kv.1 kv.2) []) (kvs[i]).1 (kvs[i]).2:=by rw[KH,KZ];simp [hlt]
       rw[<- e3] at I2;have hit2:h2.IsListIter it p (i+1):=by obtain⟨oi,hoi,ri⟩:=hit';exact⟨oi,(hs2.2 it hit0).trans hoi,ri⟩
       refine Jh ⟨plainId_quiet oN _,?_⟩;have:=ih (i+1) 0 _ (by omega) (by omega) I2 hit2 hfp hHit;exact this
end
section
variable {X:Cx}
def EF (K:W.Frag):List V->Hp->VK->Prop:=λxs H Q=>∃(p:Addr) (ps:List Addr) (kvs:List (aM×V)),xs=[.ref p]/\aG K H p (ps.map V.ref)/\Paired (λa (kv:aM×V)=>aI K H a [kV kv.1,kv.2]) ps kvs/\kvs.length<=100000 /\
 ∀d,H d=none->Q (.ref d) (upd H d (.dK (kvs.foldl (λacc kv=>al acc kv.1 kv.2) [])))
theorem Ck (hc:X.calm=true):aw X (.type "dict") (EF X.K):=by
 intro pins s σ H xs us Q I r h;obtain⟨p,ps,kvs,rfl,hS,hps,hz,q⟩:=h;obtain⟨u,rfl,ru⟩:=hU r;cases (show u=Value.ref p from ru);have hA:=I.ok.hd hc;have hD:H s.heap.objs.size=none:=I.hok.fresh (JZ _);obtain⟨its,rv,pl,_⟩:=I.list hS;have hplt:p<s.heap.objs.size:=pl.lt;have I0:Inv X pins σ (upd H s.heap.objs.size (.dK [])) { s with heap:=s.heap.push { cls:=.type "dict",data:=.dict #[] } } :=
   I.laid (a:=s.heap.objs.size) (o:=.dK []) (t':=s.toks) (λ_ _ q=>JX _ q) (JZ _) (uS s.heap I.big)
 refine callType_codes (Q₁:=λobj s₁=>obj=.ref s.heap.objs.size/\s₁={ s with heap:=s.heap.push { cls:=.type "dict",data:=.dict #[] } }) PySem.F.kt_called_dict (PySem.F.kt_typeCall_dict_1 _) PySem.F.entry_dict_init (kt_code_dict_new _ ⟨rfl,rfl⟩) ?_;rintro obj s₁ ⟨rfl,rfl⟩;have hnew:(s.heap.push { cls:=.type "dict",data:=.dict #[] }).DictOf (cq X.prog X.w) s.heap.objs.size []:=Heap.DictOf.new s.heap;refine⟨hnew.typeIs,PySem.F.args_dict_init_2 _ _,?_⟩;unfold Builtin.«dict.__init__»;refine JT ?_;unfold Builtin.Dict.selfAndRest;refine JT (wpAny_notOrdered_dict hnew.typeIs ?_);show wpAny _ _ (pure (s.heap.objs.size,[Value.ref p])) _ _ _;refine Jh ?_;show wpAny _ _ (Builtin.Dict.updateFrom "dict.__init__" s.heap.objs.size (.ref p) [] .none) _ _ _;unfold Builtin.Dict.updateFrom;obtain⟨o,n,ho,hcl,hdi,hda⟩:=pl;have ho1:(s.heap.push { cls:=.type "dict",data:=.dict #[] }).get? p=some o:=JX _ ho;refine JT (wpAny_typeOf (T:="list") ⟨o,ho1,hcl⟩ ?_);rw[Je (by decide)];refine JT (BK (s:={ s with heap:=s.heap.push { cls:=.type "dict",data:=.dict #[] } }) ho1 hcl hda hdi hA λh' tk hk=>?_);have I1:Inv X pins σ (upd H s.heap.objs.size (.dK [])) { s with heap:=h',toks:=tk }:=I0.kept hk;rw[Je (by rfl)];refine JT (Ml ?_);have ho2:h'.get? p=some o:=hk _ _ ho1;refine JT (L8 (s:={ s with heap:=h',toks:=tk }) (items:=its.toArray) ⟨o,ho2,hcl,n,hda⟩ ?_);have I2:Inv X pins σ (upd H s.heap.objs.size (.dK [])) { s with heap:=h'.push { cls:=.type "list_iterator",data:=.fields #[.ref p,.int 0 0] },toks:=tk }:=I1.kept (t':=tk) λb o e=>JX _ e;have hsz:s.heap.objs.size<h'.objs.size:=by have e:(s.heap.push { cls:=.type "dict",data:=.dict #[] }).get? s.heap.objs.size=some { cls:=.type "dict",data:=.dict #[] }:=Jn _ rfl;exact Ji (hk _ _ e)
 have hit0:h'.objs.size≠s.heap.objs.size:=LA hsz;have hHit:H h'.objs.size=none:=I.hok.fresh (MR hsz);refine Jh ⟨plainId_quiet oN _,?_⟩;refine CL (A:=X.A.in1) (it:=h'.objs.size) hA (K4 hplt) hS hps hD hz hit0 (λs' J=>⟨rfl,.ref s.heap.objs.size,_,J,rfl,q _ hD⟩) kvs.length 0 0 _ (by omega) (Jw _) (by simpa using I2) ⟨_,Jn _ rfl,rfl,rfl⟩ (λH' hn=>I1.fpOk (JZ _) hn) hHit
theorem xA:∀(xs:List V) (us:List Value),xs.length=us.length->(∀(i:Nat) (x:V) (u:Value),xs[i]?=some x->us[i]?=some u->aX x u)->aT xs us
 | [],[],_,_=>.nil
 | [],_ :: _,h,_=>by simp at h
 | _ :: _,[],h,_=>by simp at h
 | x :: xs,u :: us,h,k=>.cons (k 0 x u rfl rfl) (xA xs us (by simpa using h) λi y v e1 e2=>k (i+1) y v (by simpa using e1) (by simpa using e2))
def x9 {P:Program} {w:World} {k:aM} {v:Value} (h:(cq P w).is k v=true):aX (kV k) v:=by
 rcases i4 (show ju k v=true from h) with⟨i,t,rfl,rfl⟩|⟨x,t,rfl,rfl⟩
 . exact⟨t,rfl⟩
 . exact⟨t,rfl⟩
theorem C2 {P:Program} {w:World} {kvs:List (aM×V)} {vs:List (aM×Value)} {acc:Array Value} (rel:KV kvs vs) (h:ItemsOf (λi v=>∃k x,vs[i]?=some (k,x)/\(cq P w).is k v=true) acc vs.length) :
   aT (kvs.map λkv=>kV kv.1) acc.toList:=by
 have hl:=rel.length;have el:acc.toList.length=acc.size:=by simp
 have hlen:(kvs.map λkv=>kV kv.1).length=acc.toList.length:=by rw[JR,el,h.1]; exact hl
 refine xA _ _ hlen λi x u e1 e2=>?_;obtain⟨k,y,e3,e4⟩:=h.2 i u (by simpa using e2);rw[Jc] at e1;cases e5:kvs[i]? with
 | none=>rw[e5] at e1; cases e1
 | some kv =>
   rw[e5] at e1;have e1:kV kv.1=x:=by simpa using e1
   have e6:kv.1=k:=by
     have h1:i<kvs.length:=(Jb.mp e5).1;have h2:i<vs.length:=by omega
     have e7:=pI rel h1 h2;have e8:kvs[i]=kv:=by have:=Jb.mp e5; exact this.2
     have e9:vs[i]=(k,y):=by have:=Jb.mp e3; exact this.2
     rw[e8,e9] at e7;exact e7.1
   rw[<- e1,e6];exact x9 e4
def z9 (hc:X.calm=true):aw X (.type "list") (λxs H Q=>∃d kvs,xs=[.ref d]/\H d=some (.dK kvs)/\∀l,H l=none->Q (.ref l) (upd H l (.lst (kvs.map λkv=>kV kv.1)))):=by intro pins s σ H xs us Q I r h;obtain⟨d,kvs,rfl,hd,q⟩:=h;obtain⟨u,rfl,ru⟩:=hU r;cases (show u=Value.ref d from ru);obtain⟨z,lo,vs,rel,dd⟩:=oh I.hok hd;have hlen:=rel.length;obtain⟨ep,dat⟩:∃ep,s.heap.DictAt (cq X.prog X.w) d vs ep:=dd.dictAt;refine PySem.W.kdl_call (PySem.W.kdl_dict (knd:=cq X.prog X.w) (kvs:=vs) (ep:=ep) lo) (I.ok.hd hc) dat (by rw[<- hlen]; exact z) λh' tk acc' c' hk hS hit=>?_;have hv:aT (kvs.map λkv=>kV kv.1) acc'.toList:=C2 rel hit;refine⟨.ref s.heap.objs.size,_,I.laid (a:=s.heap.objs.size) (o:=.lst (kvs.map λkv=>kV kv.1)) hk (JZ _) ⟨by rw[JR]; exact z,acc'.toList,c',hv,by simpa using hS⟩,rfl,q _ (I.hok.fresh (JZ _))⟩
end
end L2
namespace L2
open PySem PySem.Spec PyProof.Rows PySem.W
section
variable {prog:Program} {w:World} {A:Around} {E:Value->Shared->Prop} {s:Shared} {δ:Type} {R:δ->Value->Prop} {a:Addr} {D:List (Str×δ)} {k:Str} {tk:Tok} {d:δ}
def wy (T:KTD.TabOf R s.heap a D):s.TypeIs (.ref a) "dict":=let ⟨_,o,_,_,ho,hc,_⟩:=T; ⟨o,ho,hc.1⟩
def Cg {Q:Value->Shared->Prop} (T:KTD.TabOf R s.heap a D) (hd:KTD.datumAt k D=some d) (h:∀v,R d v->Q v { s with toks:=s.toks+1 }) :
   wpAny (model prog w) A (getItem (.ref a) (.str k tk)) Q E s:=by
 have ty:=wy T;obtain⟨_,o,es,ep,ho,hc,hdt,hr⟩:=T;unfold getItem
 try with_reducible refine Kt ?_
 refine JT (wpAny_sequenceKey ty (by decide) ?_);refine JT (wpAny_callSpecial?_slot (name:=Str.ofString "__getitem__") ty slot_dict_getitem
   (LJ slot_dict_getitem ty entry_dict_getitem ?_ (args_dict_getitem _ _)))
 show wpAny _ _ (dictGet a (.str k tk) >>= _) _ _ s;refine JT ?_;unfold dictGet
 try with_reducible refine Kt ?_
 refine JT (wpAny_pyHash_str (JT (KTD.kt_dictFind_strs (s:={ s with toks:=s.toks+1 }) ho hdt (by obtain⟨l⟩:=es; simpa using hr.exact) ?_)));have hq:∃v,findBy (λk v=>v.isStr k) es k=some v/\R d v:=by
   have hf:findBy (λk v=>v.isStr k) es k=(es.toList.find? λe=>e.key.isStr k).map (·.val):=by obtain⟨l⟩:=es;simp [findBy]
   rw[hf];exact hr.find_some hd
 obtain⟨v,hv,hR⟩:=hq;rw[findBy_of_findIdx?] at hv;cases hi:es.findIdx? λe=>e.key.isStr k with
 | none=>rw[hi] at hv; cases hv
 | some i =>
   rw[hi] at hv;have hv:es[i]?.map (·.val)=some v:=hv;refine JT (wpAny_dictEntries (s:={ s with toks:=s.toks+1 }) ho hdt (Jh ?_));show wpAny _ _ _ _ _ _;rw[hv];exact Jh ⟨v,rfl,Jh (h v hR)⟩
end
def tE (K:W.Frag) (d:Addr) (rows:List (Str×List V)):Prop :=
 ∃(o:Obj) (es:Array DictEntry) (ep:Nat),K.lookup d=some o/\(d==sysModules)=false/\o.ExactDict/\o.data=.dict es ep/\KTD.Rows (λ(xs:List V) v=>∃a,v=.ref a/\∀H:Hp,aI K H a xs) es.toList rows
def FI (K:W.Frag):R2:=λx y H Q=>∃d rows k xs,x=.ref d/\y=.str k/\tE K d rows/\KTD.datumAt k rows=some xs/\∀a,aI K H a xs->Q (.ref a) H
def FC {X:Cx}:aN X (FI X.K):=by
 intro value slice pins s σ H x y v u Q I rx ry h hs;obtain⟨d,rows,k,xs,rfl,rfl,⟨o,es,ep,ho,lo,hc,hd,hr⟩,hk,q⟩:=h;cases (show v=Value.ref d from rx);obtain⟨t,rfl⟩:=(show ∃t,u=Value.str k t from ry)
 have T:KTD.TabOf (λ(xs:List V) v=>∃a,v=.ref a/\∀H:Hp,aI X.K H a xs) s.heap d rows:=⟨lo,o,es,ep,I.kIn d o ho,hc,hd,hr⟩
 refine tail_any (wy T) slot_dict_getitem.lookup (Cg T hk λv hv=>?_) hs;obtain⟨a,rfl,hsq⟩:=hv;exact⟨.ref a,H,I.tok _,rfl,q a (hsq H)⟩
end L2
namespace L2
open PySem PySem.Spec PyProof.Rows
def rQ:V->Value->Bool
 | .non,.none=>true
 | .bl b,.bool c=>b==c
 | .int i,.int j _=>i==j
 | .str x,.str y _=>x==y
 | _,_=>false
def Ci:∀{x:V} {v:Value},rQ x v=true->aX x v:=by
 intro x v h;unfold rQ at h;split at h
 . rfl
 . obtain rfl:=beq_iff_eq.mp h; rfl
 . obtain rfl:=beq_iff_eq.mp h; exact⟨_,rfl⟩
 . obtain rfl:=beq_iff_eq.mp h; exact⟨_,rfl⟩
 . cases h
def lN:List V->List Value->Bool
 | [],[]=>true
 | x :: xs,v :: vs=>rQ x v&&lN xs vs
 | _,_=>false
theorem ui:∀{xs:List V} {vs:List Value},lN xs vs=true->aT xs vs
 | [],[],_=>.nil
 | x :: xs,v :: vs,h=>by simp only[lN,Jx] at h;exact .cons (Ci h.1) (ui h.2)
 | [],_ :: _,h=>by simp [lN] at h
 | _ :: _,[],h=>by simp [lN] at h
def ow (K:W.Frag) (xs:List V) (v:Value):Bool:=match v with
 | .ref a=>match K.lookup a with
   | some o=>o.cls==.type "tuple"&&(match o.data with | .seq its _=>decide (its.size<=sizeLine)&&lN xs its.toList|_=>false)
   | none=>false
 | _=>false
def J2 {K:W.Frag} (xs:List V) (v:Value) (h:ow K xs v=true):∃a,v=.ref a/\∀H:Hp,aI K H a xs:=by
 unfold ow at h;split at h
 . rename_i a
   split at h
   . rename_i o ho
     rw[Jx] at h;obtain⟨h1,h2⟩:=h;split at h2
     . rename_i its n hd
       rw[Jx] at h2;exact⟨a,rfl,λH=>.inr ⟨o,its,n,ho,beq_iff_eq.mp h1,hd,LV h2.1,ui h2.2⟩⟩
     . cases h2
   . cases h
 . cases h
def FG {K:W.Frag} {d:Addr} {rows:List (Str×List V)} (h:KTD.tabLook (ow K) (λa=>K.lookup a) d rows=true):tE K d rows:=by
 simp only[KTD.tabLook,Jx] at h;obtain⟨h0,hl⟩:=h;split at hl
 . rename_i o ho
   simp only[Jx] at hl;obtain⟨⟨⟨e1,e2⟩,e3⟩,e4⟩:=hl;split at e4
   . rename_i es ep hd
     exact⟨o,es,ep,ho,by simpa using h0,⟨beq_iff_eq.mp e1,by simpa using e2,by simpa using e3⟩,hd,KTD.rows_of_look J2 e4⟩
   . cases e4
 . cases hl
end L2
namespace L2
open PySem
def w9:Expr->Option (List V)
 | .List es _=>mS es
 | _=>none
def yM:Expr->Option (List V)
 | .Tuple es _ _=>mS es
 | _=>none
def sr {X:Cx} {e:Expr} {vs:List V} (h:w9 e=some vs):PE X e (xM λ_ H Q=>Q vs H):=by
 unfold w9 at h;split at h
 . exact bX (rh h)
 . cases h
def uO {X:Cx} {e:Expr} {vs:List V} (h:yM e=some vs):PE X e (wX λ_ H Q=>Q vs H):=by
 unfold yM at h;split at h
 . exact bB (rh h)
 . cases h
end L2
namespace L2
open PySem PySem.Spec PyProof.Rows
section
variable {prog:Program} {w:World} {A:Around} {E:Value->Shared->Prop} {s:Shared}
theorem gx_nextOf_tup {it t:Addr} {i:Nat} {items:Array Value} {x:Value} {Q:Value->Shared->Prop} (hit:s.heap.IsTupleIter it t i) (ht:s.heap.IsTuple t items) (hx:items[i]?=some x)
   (hQ:∀h',h'.IsTupleIter it t (i+1)->Heap.SameBut it s.heap h'->Q x { s with heap:=h' }):wpAny (model prog w) A (Builtin.SmallTypes.nextOf (.ref it)) Q E s:=by
 obtain⟨⟨o,ho,hc,hd⟩,⟨ol,hol,_,nl,hdl⟩⟩:=(⟨id hit,ht⟩:_/\_)
 unfold Builtin.SmallTypes.nextOf; refine JT (wpAny_callSpecial?_slot (name:=Str.ofString "__next__") hit.typeIs LH (LJ LH hit.typeIs MH ?_ (ME _)));show wpAny (model prog w) _ (field (.ref it) 0 >>= _) _ _ s; refine JT (KM ho hd (x:=.ref t) rfl ?_);show wpAny (model prog w) _ (if(Value.ref t==Value.none)=true then _ else _) _ _ s; rw[Ja (by exact Jj)];show wpAny (model prog w) _ (field (.ref it) 1 >>= _) _ _ s; refine JT (KM ho hd (x:=.int i 0) rfl ?_);show wpAny (model prog w) _ (seqItems? (.ref t) >>= _) _ _ s; refine JT (L9 hol hdl ?_); simp only[K6,hx];refine JT (LW ho hd (by simp) (Jh ⟨x,rfl,Jh (hQ _ ⟨_,Kl _ ho (Obj.isFreed_of_fields (Obj.data_mapFields hd _)),(Obj.cls_mapFields ..).trans hc,by rw[Obj.data_mapFields hd]; simp [rawInt]⟩ (Heap.SameBut.update ..))⟩))
theorem gx_nextOf_tup_end {it t:Addr} {i:Nat} {items:Array Value} {Q:Value->Shared->Prop} (hh:A.handled=none) (hit:s.heap.IsTupleIter it t i) (ht:s.heap.IsTuple t items) (hx:items[i]?=none)
   (hE:∀h' e,Heap.ExtBut it s.heap h'->(∃o,h'.get? e=some o/\o.cls=.type "StopIteration")->E (.ref e) { s with heap:=h' }):wpAny (model prog w) A (Builtin.SmallTypes.nextOf (.ref it)) Q E s:=by
 obtain⟨⟨o,ho,hc,hd⟩,⟨ol,hol,_,nl,hdl⟩⟩:=(⟨id hit,ht⟩:_/\_)
 unfold Builtin.SmallTypes.nextOf; refine JT (wpAny_callSpecial?_slot (name:=Str.ofString "__next__") hit.typeIs LH (LJ LH hit.typeIs MH ?_ (ME _)));show wpAny (model prog w) _ (field (.ref it) 0 >>= _) _ _ s; refine JT (KM ho hd (x:=.ref t) rfl ?_);show wpAny (model prog w) _ (if(Value.ref t==Value.none)=true then _ else _) _ _ s; rw[Ja (by exact Jj)];show wpAny (model prog w) _ (field (.ref it) 1 >>= _) _ _ s; refine JT (KM ho hd (x:=.int i 0) rfl ?_);show wpAny (model prog w) _ (seqItems? (.ref t) >>= _) _ _ s; refine JT (L9 hol hdl ?_); simp only[K6,hx];refine JT (Ml (JT (LW ho hd (by simp) ?_))); show wpAny (model prog w) _ (newExc (.type "StopIteration") [] >>= _) _ _ _;refine JT ?_; simp only[newExc,newTuple]; refine JT (LU ?_ (by size_fits));refine JT (m:=firstArgMember _ _) (wpAny_of_eq (a:=Value.none) (by first|rfl|(simp only[firstArgMember]; rfl)) (LU ?_ (by size_fits)));simp only[raiseNew]; refine JT (wpAny_handled ?_); first|rw[show A.in1.handled=none from hh] | rw[hh]
 refine JT (Jh (wpAny_throw (hE _ _ (((Heap.SameBut.update ..).extBut.push _).push _) ⟨_,Jn _ rfl,rfl⟩)))
end
variable {w:World}
theorem uF {prog:Program} {A:Around} (hh:A.handled=none) (it t:Addr) (hne:t≠it) (items:Array Value) :
   Draws prog w A it [it,t] items.size (λi v=>items[i]?=some v) (λi h=>h.IsTupleIter it t i/\h.IsTuple t items) where
 live:=λ_ _ ⟨⟨o,ho,_⟩,_⟩=>⟨o,ho⟩
 frame:=λ_ _ _ ⟨⟨o,ho,r⟩,⟨o2,ho2,r2⟩⟩ hk=>⟨⟨o,hk it (by simp) o ho,r⟩,⟨o2,hk t (by simp) o2 ho2,r2⟩⟩
 item:=λi s Q E hi ⟨s1,s2⟩ hQ=>gx_nextOf_tup s1 s2 (x:=items[i]) (by simp [hi]) λh' hit' hs'=>hQ _ h' s.toks (by simp [hi]) ⟨hit',s2.extBut hs'.extBut hne⟩ hs'
 done:=λs Q E ⟨s1,s2⟩ hE=>gx_nextOf_tup_end hh s1 s2 (by simp) hE
variable {a:Addr}
section
variable {X:Cx} {pins:List (Addr×Obj)} {σ:St} {H:Hp} {s:Shared} {h':Heap}
def Inv.turnedL {t':Nat} {ch:List Addr} (I:Inv X pins σ H s) (k:∀b o,b ∉ ch->s.heap.get? b=some o->h'.get? b=some o) (hf:∀b∈ch,eW X pins H b):Inv X pins σ H { s with heap:=h',toks:=t' }:=by
 have nit:∀b u,H b=some u->b ∉ ch:=λb u e z=>by rw[(hf b z).1] at e; cases e
 refine I.step (g':=s.gens) (d':=s.drawn) (ch:=ch) (λb hb=>⟨(hf b hb).2.2.2.1,(hf b hb).2.1,(hf b hb).2.2.2.2.1,(hf b hb).2.2.2.2.2⟩) (λb o _ _ hc e _=>k b o hc e) (λb o _ _ hc e _=>⟨o.slots,k b o hc e⟩) (λ_ _ _ _ n=>n) (λb o hc e=>⟨o,k b o hc e⟩) (λ_ _ e=>e) (λ_ _ _ e=>e) (λb ps e=>⟨#[],by rw[e]; simp⟩) (λm hm=>?_) (λb u e=>?_) I.bare
 . obtain⟨o,es,ep,ho,r⟩:=hm;exact⟨o,es,ep,k _ _ (λz=>(hf _ z).2.1 rfl) ho,r⟩
 . have key:∀c,c=b\/H c=some (.own b)->c ∉ ch:=λc hc=>by
     rcases hc with z|z
     . subst z; exact nit _ u e
     . exact nit c _ z
   exact(I.hok b u e).stay (λc v hc q=>k c v (key c hc) q) (λ_ q=>q) λ_ _ q=>q
theorem Inv.turnLaid {t':Nat} {ch:List Addr} {o:HO} (I:Inv X pins σ H s) (k:∀b o,b ∉ ch->s.heap.get? b=some o->h'.get? b=some o) (hf:∀b∈ch,eW X pins H b) (hp:s.heap.objs.size<=a) (new:c7 X.prog X.w (upd H a o) h' a o) :
   Inv X pins σ (upd H a o) { s with heap:=h',toks:=t' }:=by
 have nit:∀b u,H b=some u->b ∉ ch:=λb u e z=>by rw[(hf b z).1] at e; cases e
 have hn:H a=none:=I.hok.fresh hp;refine I.step (g':=s.gens) (d':=s.drawn) (ch:=ch) (λb hb=>⟨(hf b hb).2.2.2.1,(hf b hb).2.1,(hf b hb).2.2.2.2.1,(hf b hb).2.2.2.2.2⟩) (λb o _ _ hc e _=>k b o hc e) (λb o _ _ hc e _=>⟨o.slots,k b o hc e⟩) (λb u _ q n=>by rw[aQ (λz=>by subst z; exact absurd (Jo (Ji q) hp) (KL _))]; exact n) (λb o hc e=>⟨o,k b o hc e⟩) (λb xs q=>by rw[aQ (aV q hn)]; exact q) (λb u xs q=>by rw[aQ (aV q hn)]; exact q) (λb ps q=>⟨#[],by rw[aQ (aV q hn),q]; simp⟩) (λm hm=>?_) (λb u e=>?_) I.bare
 . obtain⟨o,es,ep,ho,r⟩:=hm;exact⟨o,es,ep,k _ _ (λz=>(hf _ z).2.1 rfl) ho,r⟩
 . by_cases hb:b=a
   . subst hb;rw[aF] at e;cases e;exact new
   . rw[aQ hb] at e;have key:∀c,c=b\/H c=some (.own b)->c ∉ ch:=λc hc=>by
       rcases hc with z|z
       . subst z; exact nit _ u e
       . exact nit c _ z
     exact(I.hok b u e).stay (λc v hc q=>k c v (key c hc) q) (λc q=>(aQ (aV q hn)).trans q) λc xs q=>(aQ (aV q hn)).trans q
end
theorem Ho (l:Addr) (items:Array Value) (n:Nat) (dct:Option Addr) (sl:Array (Option Value)) :
   Meets (Builtin.«enumerate.__new__» ⟨[.type "enumerate",.ref l],[]⟩) (λ_ R s=>s.heap.get? l=some { cls:=.type "tuple",dict:=dct,data:=.seq items n,slots:=sl } /\
     R (.ok (.ret (.ref (s.heap.push { cls:=.type "tuple_iterator",data:=.fields #[.ref l,.int 0 0] }).objs.size)))
       { s with heap:=(s.heap.push { cls:=.type "tuple_iterator",data:=.fields #[.ref l,.int 0 0] }).push { cls:=.type "enumerate",data:=.fields #[.none,.bool false,.ref s.heap.objs.size,rawInt 0,.none,.none] } }) :=
 .of_wp λprog w A R s h=>by
   obtain⟨h0,g0,d0,t0,o0⟩:=s;obtain⟨hl,h⟩:=h;have hsub:=sub_enumerate;have hL:Heap.IsTuple (Shared.heap ⟨h0,g0,d0,t0,o0⟩) l items:=⟨_,hl,rfl,n,rfl⟩
   wp_walk using AutoSeq1.wpAny_loadPart' hl
   refine wpAny_stack_any λst=>Jh ?_;split
   . rename_i c _ _ _ _ _
     cases (c==Value.type "enumerate") <;> (wp_walk using AutoSeq1.wpAny_loadPart' hl,Kw hL; exact⟨_,rfl,h⟩)
   . wp_walk using AutoSeq1.wpAny_loadPart' hl,Kw hL; exact⟨_,rfl,h⟩
variable {l:Addr}
theorem Fw {prog:Program} {A:Around} {E:Value->Shared->Prop} {s:Shared} {items:Array Value} {Q:Value->Shared->Prop} (hL:s.heap.IsTuple l items)
   (h:∀h',IsEnum h' (s.heap.objs.size+1) s.heap.objs.size 0 .none->h'.IsTupleIter s.heap.objs.size l 0->(∀b o,s.heap.get? b=some o->h'.get? b=some o)->Q (.ref (s.heap.objs.size+1)) { s with heap:=h' }) :
   wpAny (model prog w) A (call (.type "enumerate") [.ref l]) Q E s:=by
 obtain⟨⟨c,dct,dt,sl⟩,hl,hc,n,hd⟩:=hL;cases (show c=.type "tuple" from hc); cases (show dt=.seq items n from hd);refine callType_new F.called_enumerate (by decide) (F.typeCall_enumerate_1 _) (F.newCall_enumerate_1 _) (λobj=>F.args_object_init_2 obj _) F.entry_enumerate_new (Ho l items n dct sl) ⟨hl,?_⟩;have hz:(s.heap.push { cls:=.type "tuple_iterator",data:=.fields #[.ref l,.int 0 0] }).objs.size=s.heap.objs.size+1:=Kg ..;have he:IsEnum ((s.heap.push { cls:=.type "tuple_iterator",data:=.fields #[.ref l,.int 0 0] }).push { cls:=.type "enumerate",data:=.fields #[.none,.bool false,.ref s.heap.objs.size,rawInt 0,.none,.none] }) (s.heap.objs.size+1) s.heap.objs.size 0 .none:=by have e:=Jn (s.heap.push { cls:=.type "tuple_iterator",data:=.fields #[.ref l,.int 0 0] }) (o:={ cls:=.type "enumerate",data:=.fields #[.none,.bool false,.ref s.heap.objs.size,rawInt 0,.none,.none] }) rfl;rw[hz] at e;exact e
 show _/\_;rw[hz];exact⟨⟨_,he,rfl⟩,h _ he ⟨_,JX _ (Jn _ rfl),rfl,rfl⟩ λb o x=>JX _ (JX _ x)⟩
def lp (K:W.Frag) (a:Addr):It :=
 ⟨λi H=>∃xs x,aI K H a xs/\xs[i]?=some x,λi H y H'=>∃b,y=.ref b/\H b=none/\∀xs x,aI K H a xs->xs[i]?=some x->H'=upd H b (.tup [.int i,x]),λi H=>∃xs,aI K H a xs/\xs.length=i⟩
variable {K:W.Frag} {elts:List Expr} {pos:Pos}
theorem Hw {P:Program} {k:Nat} (a e it:Addr) (hne:e≠it):Turn P w K (.Tuple elts k pos) (lp K a) [e,it] e (λi h=>(∃old,IsEnum h e it i old)/\h.IsTupleIter it a i) where
 mem:=by simp
 obj:=λi h st b hb=>by
   obtain⟨⟨old,he⟩,⟨o,ho,hc,hd⟩⟩:=st;rcases Jl.mp hb with z|z
   . subst z;exact⟨_,he,λv z=>by cases (show Data.fields _=Data.cell v from z)⟩
   . have z:b=it:=by simpa using z
     subst z;exact⟨o,ho,λv z=>by rw[hd] at z; cases z⟩
 keep:=λi h h' st kk=>by obtain⟨⟨old,he⟩,⟨o,ho,r⟩⟩:=st;exact⟨⟨old,kk e (by simp) _ he⟩,⟨o,kk it (by simp) o ho,r⟩⟩
 item:=by
   intro X hP hw hK hc i pins s σ H E I hf st hg;subst hP hw hK;obtain⟨⟨old,he⟩,hit⟩:=st;obtain⟨xs,x,hq,hx⟩:=hg;obtain⟨its,rv,p,hz⟩:=I.tuple hq;have pt:s.heap.IsTuple a its.toArray:=p;obtain⟨u,hu,ru⟩:=rv.get hx;have hia:a≠it:=λz=>by
     subst z;obtain⟨o1,h1,c1,_⟩:=hit;obtain⟨o2,h2,c2,_⟩:=pt;rw[h1] at h2;cases h2;rw[c1] at c2;injection c2 with c2
     exact absurd c2 (by decide)
   have hea:e ∉ [it,a]:=λz=>by
     rcases Jl.mp z with z|z
     . exact hne z
     . have z:e=a:=by simpa using z
       subst z;obtain⟨o2,h2,c2,_⟩:=pt;rw[he] at h2;cases h2;injection (show Value.type "enumerate"=Value.type "tuple" from c2) with c2
       exact absurd c2 (by decide)
   have hlt:i<its.toArray.size:=by have:=(Jb.mp hu).1;simpa using this
   refine Ma (uF (A:=X.A.in1) (I.ok.hd hc) it a hia its.toArray) he ⟨hit,pt⟩ hlt hne hea λy h' tk hy hout hst hT hsz hk=>?_;refine⟨_,rfl,MM hout λh2 he2 hs2=>?_⟩;have hs2:Heap.SameBut e h' h2:=hs2;have hyu:y=u:=by
     have hy:its.toArray[i]?=some y:=hy;have:its[i]?=some y:=by simpa using hy
     rw[hu] at this;exact(Option.some.inj this).symm
   subst hyu;have helt:e<s.heap.objs.size:=Ji he;have hfr:H s.heap.objs.size=none:=I.hok.fresh (JZ _);have hnS:s.heap.objs.size≠e:=LA helt;have hT2:h2.get? s.heap.objs.size=some { cls:=.type "tuple",data:=.seq #[.int i tk,y] }:=(hs2.2 _ hnS).trans hT;refine⟨.ref s.heap.objs.size,upd H s.heap.objs.size (.tup [.int i,x]),I.turnLaid (t':=tk+1) (ch:=[e,it]) (λb o hb q=>?_) hf (JZ _) ?_,rfl,⟨s.heap.objs.size,rfl,hfr,λxs' x' hq' hx'=>?_⟩,⟨⟨y,by exact_mod_cast he2⟩,?_⟩,λb hb=>?_⟩
   . have h1:b≠e:=λz=>hb (by simp [z]);have h3:b≠it:=λz=>hb (by simp [z]);exact(hs2.2 b h1).trans (hk b o h1 h3 q)
   . exact⟨by show 2<=sizeLine; decide,[.int i tk,y],.cons ⟨tk,rfl⟩ (.cons ru .nil),⟨_,hT2,rfl,_,rfl⟩⟩
   . have:=I.tuple_inj hq' hq;subst this;rw[hx] at hx';cases hx';rfl
   . obtain⟨⟨o,ho,r⟩,_⟩:=hst;exact⟨o,(hs2.2 it hne.symm).trans ho,r⟩
   . have hb0:=(hf b hb).1;rw[aQ]
     . exact hb0
     . intro z;subst z;obtain⟨o,ho,_⟩:=hit;rcases Jl.mp hb with z|z
       . exact hnS z
       . have z:s.heap.objs.size=it:=by simpa using z
         exact absurd (Ji ho) (by rw[<- z]; exact KL _)
 done:=by
   intro X hP hw hK hc i pins s σ H E I hf st hg;subst hP hw hK;obtain⟨⟨old,he⟩,hit⟩:=st;obtain⟨xs,hq,hx⟩:=hg;obtain⟨its,rv,p,hz⟩:=I.tuple hq;have pt:s.heap.IsTuple a its.toArray:=p;have hl:=rv.length;have hia:a≠it:=λz=>by
     subst z;obtain⟨o1,h1,c1,_⟩:=hit;obtain⟨o2,h2,c2,_⟩:=pt;rw[h1] at h2;cases h2;rw[c1] at c2;injection c2 with c2
     exact absurd c2 (by decide)
   have hi:i=its.toArray.size:=by simp; omega
   refine wpAny_pyNext_enum_endD (uF (A:=X.A.in1) (I.ok.hd hc) it a hia its.toArray) he (by rw[<- hi]; exact⟨hit,pt⟩) λh' eb=>⟨rfl,?_⟩
   exact I.turnedL (t':=s.toks) (ch:=[e,it]) (λb o hb q=>eb b o (λz=>hb (by simp [z])) q) hf
 self:=λ_ _ _ _ _ st h=>by obtain⟨⟨old,he⟩,_⟩:=st;exact Lp he h
variable {xs:List V} {tb:TS} {σ:St} {H:Hp}
section
variable {X:Cx}
def wY:bootBuiltins "enumerate"=some (.type "enumerate"):=BY
def FR (K:W.Frag) (ta:TA):TI:=λσ H R=>ta σ H λvs H1=>∃a,vs=[.ref a]/\(∃xs,aI K H1 a xs)/\R (lp K a) H1
def tJ {a:Expr} {ta:TA} {p tpos:Pos}{k:Nat} (hg:Gl X "enumerate") (hm:X.mg "enumerate"=none) (ha:PA X [a] ta) (hs:starEach [a] X.env=[(false,eval a X.env)]:=by rfl):PI X (.Tuple elts k tpos) (.Call (.Name "enumerate" p) [a] [] pos) (FR X.K ta):=by
 intro pins s σ H R I h;refine Call_ (j2 I hg hm wY (Kc (aO (ha pos pins s σ H _ I h) λus s1 ⟨vs,H1,I1,r1,q1⟩=>?_) hs rfl));obtain⟨a,e,⟨xs,hq⟩,q⟩:=q1;subst e;cases r1 with
 | cons r rr =>
   cases rr;cases r;obtain⟨its,rv,p,hz⟩:=I1.tuple hq;refine Fw (show s1.heap.IsTuple a its.toArray from p) λh' he hit hk=>?_;refine Lp he ?_;refine⟨s1.heap.objs.size+1,[s1.heap.objs.size+1,s1.heap.objs.size],_,_,H1,rfl,I1.kept (t':=s1.toks) hk,Hw a (s1.heap.objs.size+1) s1.heap.objs.size (Nat.succ_ne_self _),⟨⟨.none,he⟩,hit⟩,λb hb=>?_,q⟩;rcases Jl.mp hb with z|z
   . subst z;exact I1.fpOk (Kz _) (I1.hok.fresh (Kz _))
   . have z:b=s1.heap.objs.size:=by simpa using z
     subst z;exact I1.fpOk (JZ _) (I1.hok.fresh (JZ _))
theorem rG {g:TG} {D:cS} (Pv:Nat->St->Hp->Prop) (h0:Pv 0 σ H) (hl:∀i σ H,i<=xs.length->Pv i σ H->aI K H a xs)
   (hs:∀i x σ H b,xs[i]?=some x->Pv i σ H->H b=none->g (.ref b) σ (upd H b (.tup [.int i,x])) λσ2 H2=>tb { D with nx:=Pv (i+1),ct:=Pv (i+1),bk:=D.nx } σ2 H2) (hd:∀σ H,Pv xs.length σ H->D.nx σ H) :
   ∃W:Nat->Nat->St->Hp->Prop,(∃m,W 0 m σ H)/\∀i m σ H,W i m σ H->((lp K a).stop i H/\D.nx σ H)\/((lp K a).go i H/\∃N:St->Hp->Prop,(∀σ' H',N σ' H'->∃m',m'<m/\W (i+1) m' σ' H')/\∀x H',(lp K a).yld i H x H'->g x σ H' λσ2 H2=>tb { D with nx:=N,ct:=N,bk:=D.nx } σ2 H2):=by
 refine⟨λi m σ H=>m=xs.length - i/\i<=xs.length/\Pv i σ H,⟨xs.length,by simp,Jw _,h0⟩,?_⟩;rintro i m σ H ⟨rfl,hi,p⟩;have q:=hl i σ H hi p;by_cases hlt:i<xs.length
 . refine .inr ⟨⟨xs,xs[i],q,by simp [hlt]⟩,Pv (i+1),λσ' H' p'=>⟨xs.length - (i+1),by omega,rfl,hlt,p'⟩,λx H' y=>?_⟩;obtain⟨b,rfl,hb,y⟩:=y;rw[y xs xs[i] q (by simp [hlt])];exact hs i xs[i] σ H b (by simp [hlt]) p hb
 . have e:i=xs.length:=by omega
   subst e;exact .inl ⟨⟨xs,q,rfl⟩,hd σ H p⟩
end
section
variable {X:Cx} {pins:List (Addr×Obj)} {σ:St} {H:Hp} {s:Shared}
def Inv.freeze {d:Addr} {kvs:List (aM×V)} (I:Inv X pins σ H s) (e:H d=some (.dK kvs)):∃o,s.heap.get? d=some o/\Inv X pins σ (upd H d (.frz o (.dK kvs))) s:=by
 obtain⟨z,hd,vs,rel,⟨o,es,ep,ho,r⟩⟩:=I.hok d _ e;refine⟨o,ho,?_⟩;have nd:∀b u,H b=some u->u≠.dK kvs->b≠d:=λb u q n z=>by subst z;rw[e] at q;cases q;exact n rfl
 refine I.step (g':=s.gens) (t':=s.toks) (d':=s.drawn) (h':=s.heap) (ch:=[]) (λ_ z=>nomatch z) (λb o _ _ _ q _=>q) (λb o _ _ _ q _=>⟨o.slots,q⟩) (λb o _ _ n=>?_) (λb o _ q=>⟨o,q⟩) (λb xs q=>?_) (λb o u q=>?_) (λb ps q=>⟨#[],?_⟩) (λm hm=>hm) (λb u q=>?_) I.bare
 . rw[aQ (λz=>by subst z; rw[e] at n; cases n)];exact n
 . rw[aQ (nd b _ q (by intro z; cases z))];exact q
 . rw[aQ (nd b _ q (by intro z; cases z))];exact q
 . rw[aQ (nd b _ q (by intro z; cases z)),q];simp
 . have own:∀c b,H c=some (.own b)->(upd H d (.frz o (.dK kvs))) c=some (.own b):=λc b q=>(aQ (nd c _ q (by intro z; cases z))).trans q;have tup:∀c xs,H c=some (.tup xs)->(upd H d (.frz o (.dK kvs))) c=some (.tup xs):=λc xs q=>(aQ (nd c _ q (by intro z; cases z))).trans q;by_cases hb:b=d
   . subst hb;rw[aF] at q;cases q;exact⟨ho,(I.hok _ _ e).stay (λ_ _ _ q=>q) (λc q=>own c _ q) tup⟩
   . rw[aQ hb] at q;exact(I.hok b u q).stay (λ_ _ _ q=>q) (λc q=>own c _ q) tup
end
def F6:entryFor table "dict_itemiterator.__iter__"=some Builtin.«dict_keyiterator.__iter__»:=entryFor_alias (id':="dict_keyiterator.__iter__") (by kernel_rfl) (by first|rfl|decide +kernel|(unfold String.splitOn; simp +decide [String.splitOnAux])) (by decide +kernel) (by kernel_rfl)
def jX (o:Obj) (d:Addr) (kvs:List (aM×V)):It :=
 ⟨λi H=>H d=some (.frz o (.dK kvs))/\i<kvs.length,λi H y H'=>∃b,y=.ref b/\H b=none/\∀kv,kvs[i]?=some kv->H'=upd H b (.tup [kV kv.1,kv.2]),λi H=>H d=some (.frz o (.dK kvs))/\i=kvs.length⟩
theorem tO {X:Cx} {pins:List (Addr×Obj)} {s:Shared} {o:Obj} {d:Addr} {kvs:List (aM×V)} (I:Inv X pins σ H s) (e:H d=some (.frz o (.dK kvs))) {es0:Array DictEntry} {ep:Nat} (hep:o.data=.dict es0 ep) :
   ∃vs,KV kvs vs/\s.heap.DictAt (cq X.prog X.w) d vs ep:=by
 obtain⟨h1,z,hd,vs,rel,⟨o',es,ep',ho,hx,hdat,r⟩⟩:=I.hok d _ e;rw[h1] at ho;cases ho;rw[hep] at hdat;cases hdat;exact⟨vs,rel,o,es0,h1,hx,hep,r⟩
theorem Hb {P:Program} {k:Nat} (o:Obj) (d it:Addr) (kvs:List (aM×V)) (es0:Array DictEntry) (ep:Nat) (hep:o.data=.dict es0 ep) :
   Turn P w K (.Tuple elts k pos) (jX o d kvs) [it] it (λi h=>∃ok ov,IsItemIter h it d i kvs.length ep ok ov) where
 mem:=by simp
 obj:=λi h st b hb=>by
   obtain⟨ok,ov,he⟩:=st;have z:b=it:=by simpa using hb
   subst z;exact⟨_,he,λv z=>by cases (show Data.fields _=Data.cell v from z)⟩
 keep:=λi h h' st kk=>by obtain⟨ok,ov,he⟩:=st;exact⟨ok,ov,kk it (by simp) _ he⟩
 item:=by
   intro X hP hw hK hc i pins s σ H E I hf st hg;subst hP hw hK;obtain⟨ok,ov,he⟩:=st;obtain⟨hfz,hi⟩:=hg;obtain⟨vs,rel,hD⟩:=tO I hfz hep;have hlen:kvs.length=vs.length:=KV.length rel;have hi':i<vs.length:=by omega
   have rk:kvs[i].1=vs[i].1/\aX kvs[i].2 vs[i].2:=pI rel hi hi';refine wpAny_pyNext_items_item (knd:=cq X.prog X.w) (k:=vs[i].1) (v:=vs[i].2) (kvs:=vs) (by rw[<- hlen]; exact he) hD (by simp [hi']) λkey h' hkey hout hT hsz hk=>?_;refine⟨_,rfl,wpAny_letOwnedTupleGo_items hout λh2 he2 hs2=>?_⟩;have hs2:Heap.SameBut it h' h2:=hs2;have hilt:it<s.heap.objs.size:=Ji he;have hnS:s.heap.objs.size≠it:=LA hilt;have hfr:H s.heap.objs.size=none:=I.hok.fresh (JZ _);have hT2:h2.get? s.heap.objs.size=some { cls:=.type "tuple",data:=.seq #[key,vs[i].2] }:=(hs2.2 _ hnS).trans hT;refine⟨.ref s.heap.objs.size,upd H s.heap.objs.size (.tup [kV kvs[i].1,kvs[i].2]),I.turnLaid (t':=s.toks) (ch:=[it]) (λb o hb q=>?_) hf (JZ _) ?_,rfl,⟨s.heap.objs.size,rfl,hfr,λkv hkv=>?_⟩,⟨_,_,by rw[hlen]; exact he2⟩,λb hb=>?_⟩
   . have h1:b≠it:=λz=>hb (by simp [z]);exact(hs2.2 b h1).trans (hk b o h1 q)
   . exact⟨by show 2<=sizeLine; decide,[key,vs[i].2],.cons (by rw[rk.1]; exact x9 hkey) (.cons rk.2 .nil),⟨_,hT2,rfl,_,rfl⟩⟩
   . have:kvs[i]=kv:=by simpa [hi] using hkv
     rw[<- this]
   . have z:b=it:=by simpa using hb
     subst z;rw[aQ hnS.symm];exact(hf _ hb).1
 done:=by
   intro X hP hw hK hc i pins s σ H E I hf st hg;subst hP hw hK;obtain⟨ok,ov,he⟩:=st;obtain⟨hfz,hi⟩:=hg;obtain⟨vs,rel,hD⟩:=tO I hfz hep;have hlen:kvs.length=vs.length:=KV.length rel;refine wpAny_pyNext_items_end (knd:=cq X.prog X.w) (kvs:=vs) (I.ok.hd hc) (by rw[<- hlen]; exact he) hD (by simp; omega) λh' eb=>⟨rfl,?_⟩
   exact I.turnedL (t':=s.toks) (ch:=[it]) (λb o hb q=>eb b o (λz=>hb (by simp [z])) q) hf
 self:=λA i s Q E st h=>by
   obtain⟨ok,ov,he⟩:=st;have hT:s.TypeIs (.ref it) "dict_itemiterator":=⟨_,he,rfl⟩
   exact wpAny_pyIter_slot hT MC (LJ MC hT F6 (show wpAny _ _ (ret (.ref it)) _ _ s from Jh ⟨_,rfl,"dict_itemiterator",_,hT,F.slot_dict_itemiterator_next.lookup,h⟩) (F.args_dict_itemiterator_iter_1 _))
section
variable {X:Cx}
def FZ (td:TE):TI:=λσ H R=>td σ H λx H1=>∃d kvs,x=.ref d/\((H1 d=some (.dK kvs)/\∀o,R (jX o d kvs) (upd H1 d (.frz o (.dK kvs))))\/∃o,H1 d=some (.frz o (.dK kvs))/\R (jX o d kvs) H1)
theorem yx {l:Expr} {td:TE} {apos cpos tpos:Pos} {k:Nat} (hl:PE X l td) (hbase:attributeBase l "items" X.env (eval l X.env)=eval l X.env:=by rfl) (hline:(apos.endLine==cpos.line)=true:=by rfl) :
   PI X (.Tuple elts k tpos) (.Call (.Attribute l "items" apos) [] [] cpos) (FZ td):=by
 intro pins s σ H R I h;refine MZ hbase hline (aO (hl pins s σ H _ I h) λv s1 ⟨x,H1,I1,r1,q1⟩=>?_);obtain⟨d,kvs,rfl,q1⟩:=q1;cases r1;have key:∃o H2,Inv X pins σ H2 s1/\H2 d=some (.frz o (.dK kvs))/\R (jX o d kvs) H2:=by
   rcases q1 with⟨e,q⟩|⟨o,e,q⟩
   . obtain⟨o,ho,I2⟩:=I1.freeze e;exact⟨o,_,I2,aF,q o⟩
   . exact⟨o,H1,I1,e,q⟩
 obtain⟨o,H2,I2,e2,q⟩:=key;obtain⟨ho,z,hd,vs,rel,dd⟩:=I2.hok d _ e2;obtain⟨o',es,ep,ho',hx,hdat,r⟩:=id dd;rw[ho] at ho';cases ho';refine⟨"dict","dict.items",Mb,Mc,PySem.F.type_dict_items,dd.typeIs,λb q=>?_,Calls.callWith_builtin rfl (PySem.evalArgs_none ?_)⟩
 . cases q;exact⟨o,ho,hx.2.1⟩
 refine call_meetsIn Mc dd.typeIs PySem.F.entry_dict_items (PySem.F.args_dict_items_1 _) (meets_dict_items (cq X.prog X.w) d hd) ⟨⟨vs,dd⟩,?_⟩;have I3:Inv X pins σ H2 { s1 with heap:=s1.heap.push { cls:=.type "dict_items",data:=.fields #[.ref d] } }:=I2.kept (t':=s1.toks) λb o e=>JX _ e;obtain⟨vs3,rel3,hD3⟩:=tO I3 e2 hdat;refine wpAny_pyIter_items (knd:=cq X.prog X.w) (kvs:=vs3) (ep:=ep) ⟨_,Jn _ rfl,rfl,rfl⟩ hD3 ?_;have hlen:kvs.length=vs3.length:=KV.length rel3;rw[<- hlen];generalize hh3:s1.heap.push { cls:=.type "dict_items",data:=.fields #[.ref d] }=h3 at I3 ⊢;refine⟨h3.objs.size,[h3.objs.size],_,_,H2,rfl,I3.kept (t':=s1.toks) λb o e=>JX _ e,Hb o d h3.objs.size kvs es ep hdat,⟨_,_,Jn _ rfl⟩,λb hb=>?_,q⟩;have z:b=h3.objs.size:=by simpa using hb
 subst z;exact I3.fpOk (JZ _) (I3.hok.fresh (JZ _))
theorem vR {o:Obj} {d:Addr} {kvs:List (aM×V)} {g:TG} {D:cS} (Pv:Nat->St->Hp->Prop) (h0:Pv 0 σ H) (hl:∀i σ H,i<=kvs.length->Pv i σ H->H d=some (.frz o (.dK kvs)))
   (hs:∀i kv σ H b,kvs[i]?=some kv->Pv i σ H->H b=none->g (.ref b) σ (upd H b (.tup [kV kv.1,kv.2])) λσ2 H2=>tb { D with nx:=Pv (i+1),ct:=Pv (i+1),bk:=D.nx } σ2 H2) (hd:∀σ H,Pv kvs.length σ H->D.nx σ H) :
   ∃W:Nat->Nat->St->Hp->Prop,(∃m,W 0 m σ H)/\∀i m σ H,W i m σ H->((jX o d kvs).stop i H/\D.nx σ H)\/((jX o d kvs).go i H/\∃N:St->Hp->Prop,(∀σ' H',N σ' H'->∃m',m'<m/\W (i+1) m' σ' H')/\∀x H',(jX o d kvs).yld i H x H'->g x σ H' λσ2 H2=>tb { D with nx:=N,ct:=N,bk:=D.nx } σ2 H2):=by
 refine⟨λi m σ H=>m=kvs.length - i/\i<=kvs.length/\Pv i σ H,⟨kvs.length,by simp,Jw _,h0⟩,?_⟩;rintro i m σ H ⟨rfl,hi,p⟩;have q:=hl i σ H hi p;by_cases hlt:i<kvs.length
 . refine .inr ⟨⟨q,hlt⟩,Pv (i+1),λσ' H' p'=>⟨kvs.length - (i+1),by omega,rfl,hlt,p'⟩,λx H' y=>?_⟩;obtain⟨b,rfl,hb,y⟩:=y;rw[y kvs[i] (by simp [hlt])];exact hs i kvs[i] σ H b (by simp [hlt]) p hb
 . have e:i=kvs.length:=by omega
   subst e;exact .inl ⟨⟨q,rfl⟩,hd σ H p⟩
end
section
variable {X:Cx} {o e f:Expr} {apos cpos:Pos} {td ty tx:TE}
def CT (td ty tx:TE):TE:=λσ H Q=>td σ H λx H1=>∃a,x=.ref a/\IsD H1 a/\ty σ H1 λy H2=>tx σ H2 λz H3=>∃kvs k,H3 a=some (.dK kvs)/\y=kV k/\kvs.length<sizeLine /\
 (∀v,bb kvs k=some v->Q v H3)/\(bb kvs k=none->Q z (upd H3 a (.dK (al kvs k z))))
theorem Hy (ho:PE X o td) (he:PE X e ty) (hf:PE X f tx) (m:M2 X o "setdefault" apos e f cpos):PE X (.Call (.Attribute o "setdefault" apos) [e,f] [] cpos) (CT td ty tx):=by
 intro pins s σ H Q I h;refine wpAny_Call_method m.base m.few m.line Mb MF PySem.F.type_dict_setdefault (aO (ho pins s σ H _ I h) λu s1 ⟨x,H1,I1,rx,a,ex,d,q1⟩=>?_);subst ex;obtain rfl:u=Value.ref a:=rx;obtain⟨t1,t2,_⟩:=Fb I1 d;refine⟨t1,t2,?_⟩;rw[m.trees];refine Calls.callWith_builtin rfl (Calls.evalArgs_plain (Calls.spliced_cons (aO (he pins s1 σ H1 _ I1 q1) λiv s2 ⟨y,H2,I2,ry,q2⟩=>Calls.spliced_cons (aO (hf pins s2 σ H2 _ I2 q2) λfv s3 ⟨z,H3,I3,rz,kvs,k,ea,ey,hl,q3,q4⟩=>Calls.spliced_nil ?_))));subst ey;obtain⟨hz,hd,vs,rel,dd⟩:=oh I3.hok ea;refine call_meetsIn MF dd.typeIs PySem.F.entry_dict_setdefault (PySem.F.args_dict_setdefault_3 _ _ _) (kt_meets_setdefault (cq X.prog X.w) a (ke ry) hd fv) ⟨vs,dd,by rw[<- rel.length]; exact hz,λv hv=>?_,λhn h' dd' hs=>?_⟩
 . have rv:=rel.val k;rw[hv] at rv;cases l:bb kvs k with
   | none=>rw[l] at rv; exact absurd rv (by intro z; cases z)
   | some v' =>
     rw[l] at rv;exact⟨v',H3,I3.tok _,rv,q3 v' l⟩
 . have rv:=rel.val k;rw[hn] at rv;have l:bb kvs k=none:=by
     cases l:bb kvs k with
     | none=>rfl
     | some v'=>rw[l] at rv; exact absurd rv (by intro z; cases z)
   have hex:∃q,h'.get? a=some q:=let ⟨q,_,_,hq,_⟩:=dd'; ⟨q,hq⟩
   have hlp:(al kvs k z).length<=sizeLine:=by have:=gH kvs k z; omega
   exact⟨z,_,oX I3 (by rw[ea]; exact True.intro) hs hex (rR hlp hd (rel.put k rz) dd'),rz,q4 l⟩
end
def mV (hi:Int) (n:Nat):It:=⟨λi _=>i<n,λi H x H'=>H'=H/\x=.int (hi - i),λi _=>n<=i⟩
theorem EO {P:Program} {tg:Expr} (it:Addr) (hi:Int) (n:Nat):Turn P w K tg (mV hi n) [it] it (λi h=>IsRangeIter h it (hi+(i:Nat) * (-1)) ((n:Int) - (i:Nat)) (-1)) where
 mem:=by simp
 obj:=λi h st b hb=>by
   have e:b=it:=by simpa using hb
   subst e;exact⟨_,st,λv z=>by cases (show Data.fields _=Data.cell v from z)⟩
 keep:=λi h h' st k=>k it (by simp) _ st
 item:=by
   intro X hP hw hK hc i pins s σ H E I hf st hg;subst hP hw hK;refine(Walks.range (prog:=X.prog) (w:=X.w) (I.ok.hd hc) it hi (-1) n).item i s _ _ hg st λv h' tk hv st' kk=>?_;obtain⟨t,rfl⟩:=hv;have I1:Inv X pins σ H { s with heap:=h',toks:=tk }:=I.turnedL (ch:=[it]) (λb o hb e=>kk b o hb e) hf;have e:hi+(i:Int) * (-1)=hi - (i:Int):=by omega
   exact⟨_,rfl,mh (s:={ s with heap:=h',toks:=tk }) (n:="range_iterator") st' rfl rfl (by decide) ⟨.int (hi - i),H,I1,⟨t,by rw[e]⟩,⟨rfl,rfl⟩,st',λb hb=>(hf b hb).1⟩⟩
 done:=by intro X hP hw hK hc i pins s σ H E I hf st hg;subst hP hw hK;exact wpAny_pyNext_range_end (I.ok.hd hc) st (by have:n<=i:=hg; omega) λh' eb=>⟨rfl,I.turnedL (t':=s.toks) (ch:=[it]) (λb o hb e=>eb b o (λz=>hb (by simp [z])) e) hf⟩
 self:=λ_ _ _ _ _ st h=>wpAny_pyIter_rangeiter st h
def wz (a b:Int):Builtin.Range.rangeSize a b (-1)=if b<a then a - b else 0:=by
 unfold Builtin.Range.rangeSize;rw[Ja (by decide)];have:(-(-1):Int)=1:=by decide
 rw[this];rw[Int.ediv_one];by_cases h:b<a
 . rw[Je h,Je h]; omega
 . rw[Ja h,Ja h]
def C6 {a b:Int} (ha:-(2 ^ 60)<=a) (ha':a<2 ^ 60) (hb:-(2 ^ 60)<=b) (hb':b<2 ^ 60):Builtin.Range.small a b (-1)=true:=by
 unfold Builtin.Range.small;rw[wz];simp only[Builtin.Range.rangeFitsLong,Jx,M6,Jg,LQ,show ¬ ((-1:Int) > 0) by decide,if_false];by_cases h:b<a
 . simp only[Je h]; omega
 . simp only[Ja h]; omega
variable {n:Nat}
section
variable {X:Cx} {tg:Expr}
def IZ (ta:TA):TI:=λσ H R=>ta σ H λvs H1=>∃i j:Int,vs=[.int i,.int j,.int (-1)]/\(-(2 ^ 60)<=i/\i<2 ^ 60/\-(2 ^ 60)<=j/\j<2 ^ 60)/\R (mV i (i - j).toNat) H1
theorem F' {a b c:Expr} {ta:TA} {p:Pos}(hg:Gl X "range") (hm:X.mg "range"=none) (ha:PA X [a,b,c] ta) (hs:starEach [a,b,c] X.env=(false,eval a X.env) :: starEach [b,c] X.env:=by rfl) (hs2:(backTo pos (starEach [b,c] X.env)).any (·.1)=false:=by rfl) :
   PI X tg (.Call (.Name "range" p) [a,b,c] [] pos) (IZ ta):=by
 intro pins s σ H R I h;refine Call_ (j2 I hg hm boot_range (Kc (aO (ha pos pins s σ H _ I h) λus s1 ⟨vs,H1,I1,r1,q1⟩=>?_) hs hs2));obtain⟨i,j,e,⟨q1,q2,q3,q4⟩,q⟩:=q1;subst e;cases r1 with
 | cons r rr =>
   cases rr with
   | cons r' rr =>
     cases rr with
     | cons r'' rr =>
       cases rr;obtain⟨t,rfl⟩:=r;obtain⟨t',rfl⟩:=r';obtain⟨t'',rfl⟩:=r'';refine call_range_3 (by decide) ?_ (.inl (Lq (by omega)));refine wpAny_pyIter_range (IsRange.new ..) (C6 q1 q2 q3 q4) ?_;have I2:Inv X pins σ H1 { s1 with heap:=s1.heap.push { cls:=.type "range",data:=.fields #[.int i t,.int j t',.int (-1) t''] },toks:=s1.toks }:=I1.kept λb o e=>JX _ e;refine⟨_,[(s1.heap.push { cls:=.type "range",data:=.fields #[.int i t,.int j t',.int (-1) t''] }).objs.size],_,_,H1,rfl,I2.kept (t':=s1.toks) λb o e=>JX _ e,EO _ i (i - j).toNat,?_,λb hb=>?_,q⟩
       . have e1:i+((0:Nat):Int) * (-1)=i:=by omega
         have e2:(((i - j).toNat:Nat):Int) - ((0:Nat):Int)=Builtin.Range.rangeSize i j (-1):=by rw[wz]; split <;> omega
         show IsRangeIter _ _ (i+((0:Nat):Int) * (-1)) ((((i - j).toNat:Nat):Int) - ((0:Nat):Int)) (-1);rw[e1,e2];exact Jn _ rfl
       . have e:b=(s1.heap.push { cls:=.type "range",data:=.fields #[.int i t,.int j t',.int (-1) t''] }).objs.size:=by simpa using hb
         subst e;exact I2.fpOk (JZ _) (I2.hok.fresh (JZ _))
def Fy {hi:Int} {g:TG} {D:cS} (Pv:Nat->St->Hp->Prop) (h0:Pv 0 σ H) (hs:∀i σ H,i<n->Pv i σ H->g (.int (hi - i)) σ H λσ2 H2=>tb { D with nx:=Pv (i+1),ct:=Pv (i+1),bk:=D.nx } σ2 H2) (hd:∀σ H,Pv n σ H->D.nx σ H) :
   ∃W:Nat->Nat->St->Hp->Prop,(∃m,W 0 m σ H)/\∀i m σ H,W i m σ H->((mV hi n).stop i H/\D.nx σ H)\/((mV hi n).go i H/\∃N:St->Hp->Prop,(∀σ' H',N σ' H'->∃m',m'<m/\W (i+1) m' σ' H')/\∀x H',(mV hi n).yld i H x H'->g x σ H' λσ2 H2=>tb { D with nx:=N,ct:=N,bk:=D.nx } σ2 H2):=by
 refine⟨λi m σ H=>m=n - i/\i<=n/\Pv i σ H,⟨n,by simp,Jw _,h0⟩,?_⟩;rintro i m σ H ⟨rfl,hi',p⟩;by_cases hlt:i<n
 . refine .inr ⟨hlt,Pv (i+1),λσ' H' p'=>⟨n - (i+1),by omega,rfl,hlt,p'⟩,λx H' y=>?_⟩;obtain⟨e,y⟩:=y;subst e y;exact hs i σ _ hlt p
 . have e:i=n:=by omega
   subst e;exact .inl ⟨JZ _,hd σ H p⟩
end
def JA {X:Cx} {st:Stmt} {rest:List Stmt} {t u:TS} (h1:PS X st t) (h2:bD X rest u):bD X (st :: rest) (λD σ H=>∃M:St->Hp->Prop,t { D with nx:=M } σ H/\∀σ' H',M σ' H'->u D σ' H'):=by
 intro pins s σ H D I h;obtain⟨M,h,hm⟩:=h;refine Lu (aO (h1 pins s σ H { D with nx:=M } I h) λf s1 q=>?_);cases f with
 | next =>
   obtain⟨σ',H',I',q⟩:=q;exact h2 pins s1 σ' H' D I' (hm _ _ q)
 | ret v=>exact q
 | brk=>exact q
 | cont=>exact q
def ao (n:Nat) (d:PyData):Prop:=PyData.canLay0 d=true/\PyData.depth d<=n
def ao.int (i:Int):ao n (.int i):=⟨by unfold PyData.canLay0; rfl,by unfold PyData.depth; exact Jw _⟩
def ao.bool (b:Bool):ao n (.bool b):=⟨by unfold PyData.canLay0; rfl,by unfold PyData.depth; exact Jw _⟩
def ao.none :ao n .none:=⟨by unfold PyData.canLay0; rfl,by unfold PyData.depth; exact Jw _⟩
def ao.str {x:Str} (h:PyData.strOk x=true):ao n (.str x):=⟨by unfold PyData.canLay0; exact h,by unfold PyData.depth; exact Jw _⟩
theorem rj {n:Nat}:∀{ds:List PyData},(∀d∈ds,ao n d)->PyData.canLayAll0 ds=true/\PyData.depthAll ds<=n
 | [],_=>⟨by unfold PyData.canLayAll0; rfl,by unfold PyData.depthAll; exact Jw _⟩
 | d :: ds,h=>by
   have h1:=h d KA;have h2:=rj (λx hx=>h x (K5 _ hx));constructor
   . unfold PyData.canLayAll0; rw[h1.1,h2.1]; rfl
   . unfold PyData.depthAll; exact Nat.max_le.mpr ⟨h1.2,h2.2⟩
variable {ds:List PyData}
def ao.list (h:∀d∈ds,ao n d):ao (n+1) (.list ds):=by have h2:=rj h;exact⟨by unfold PyData.canLay0; exact h2.1,by unfold PyData.depth; have:=h2.2; omega⟩
def ao.tuple (h:∀d∈ds,ao n d):ao (n+1) (.tuple ds):=by have h2:=rj h;exact⟨by unfold PyData.canLay0; exact h2.1,by unfold PyData.depth; have:=h2.2; omega⟩
def ao.shaped {n:Nat} {d:PyData} (h:ao n d) (hn:n<=64):SeqAt.shaped d=true:=by unfold SeqAt.shaped;rw[h.1,K3 (K0 h.2 hn)];rfl
def ao.refl {d:PyData} (h:ao n d):PyData.eqv d d=true:=SeqAt.eqv_refl d h.1
def ao.mono {m:Nat}{d:PyData} (h:ao n d) (hn:n<=m):ao m d:=⟨h.1,K0 h.2 hn⟩
def cf (h:aG K H a xs) (hd:DatAll K H ds xs):DatV K H (.list ds) (.ref a):=by unfold DatV; exact⟨a,xs,rfl,h,hd⟩
def iF (h:aI K H a xs) (hd:DatAll K H ds xs):DatV K H (.tuple ds) (.ref a):=by unfold DatV; exact⟨a,xs,rfl,h,hd⟩
def da (i:Int):DatV K H (.int i) (.int i):=by unfold DatV; rfl
def By (b:Bool):DatV K H (.bool b) (.bl b):=by unfold DatV; rfl
def de (x:Str):DatV K H (.str x) (.str x):=by unfold DatV; rfl
def vE :DatV K H .none .non:=by unfold DatV; rfl
def bo :DatAll K H [] []:=by unfold DatAll; rfl
def cy {d:PyData} {x:V} (h:DatV K H d x) (hs:DatAll K H ds xs):DatAll K H (d :: ds) (x :: xs):=by unfold DatAll; exact⟨x,xs,rfl,h,hs⟩
mutual
theorem DatV.mono {K:W.Frag} {H H':Hp} (e:Same H H'):∀(d:PyData) (v:V),DatV K H d v->DatV K H' d v
 | .none,v,h=>by unfold DatV at h ⊢; exact h
 | .bool b,v,h=>by unfold DatV at h ⊢; exact h
 | .int i,v,h=>by unfold DatV at h ⊢; exact h
 | .str x,v,h=>by unfold DatV at h ⊢; exact h
 | .list ds,v,h=>by unfold DatV at h ⊢;obtain⟨a,xs,rfl,hq,hd⟩:=h;exact⟨a,xs,rfl,e.seq hq,DatAll.mono e ds xs hd⟩
 | .tuple ds,v,h=>by unfold DatV at h ⊢;obtain⟨a,xs,rfl,hq,hd⟩:=h;exact⟨a,xs,rfl,e.tup hq,DatAll.mono e ds xs hd⟩
 | .dict _,v,h=>by unfold DatV at h; exact h.elim
theorem DatAll.mono {K:W.Frag} {H H':Hp} (e:Same H H'):∀(ds:List PyData) (xs:List V),DatAll K H ds xs->DatAll K H' ds xs
 | [],xs,h=>by unfold DatAll at h ⊢; exact h
 | d :: ds,xs,h=>by unfold DatAll at h ⊢;obtain⟨x,r,rfl,hd,hds⟩:=h;exact⟨x,r,rfl,DatV.mono e d x hd,DatAll.mono e ds r hds⟩
end
def ers (l:Addr) (H:Hp):Hp:=λb=>if b=l then none else H b
def aS {b:Addr}(h:b≠l):ers l H b=H b:=by unfold ers; rw[Ja h]
def bY :Same (ers l H) H:=λb o h=>by
 unfold ers at h;split at h
 . cases h
 . exact h
def eu {o:HO}:ers l (upd H l o)=ers l H:=by funext b;unfold ers upd;split <;> rfl
def Same.ers {l:Addr} {H H':Hp} (e:Same H H'):Same (ers l H) (ers l H'):=λb o h=>by
 unfold L2.ers at h ⊢;split at h
 . cases h
 . rename_i hb
   rw[Ja hb];exact e b o h
def ixI {i:Int} (h0:0<=i) (h:i<n):dQ n i=some i.toNat:=by unfold dQ;rw[Je h0,Je h]
def rg {cs:List Int} {i:Int} (h0:0<=i) (h:i<cs.length):bS (cs.map V.int) i=some (V.int (cs.getD i.toNat 0)):=by
 obtain⟨j,rfl⟩:=Js h0;have hj:j<cs.length:=by omega
 refine bh ?_;rw[Jc,JV hj,K6,JU,JV hj];rfl
end L2
namespace Gx
open PySem L2
def ci:0<=sizeLine:=by decide
def fJ:1<=sizeLine:=by decide
def cB:2<=sizeLine:=by decide
def gZ:3<=sizeLine:=by decide
def le4:4<=sizeLine:=by decide
def le6:6<=sizeLine:=by decide
def le8:8<=sizeLine:=by decide
def le9:9<=sizeLine:=by decide
def bT {n:Nat} (h:n<1000000):n<=sizeLine:=by
 have:(1000000:Nat)<sizeLine:=by decide
 omega
def bP {x:V} {r:List V}:bS (x :: r) 0=some x:=by unfold bS dQ;rw[Je (by decide),Je (by simp)];rfl
def vq {Q:VK} {H:Hp} {x y:V} (h:x=y) (q:Q y H):Q x H:=by subst h; exact q
def GH:((2:Int) ^ (48:Int).toNat)=281474976710656:=by decide
def zD:(0:Int)<(2:Int) ^ (48:Int).toNat:=by decide
def Hv:("+-*/<=&|^":Str).length<=sizeLine:=by decide +kernel
def eI (z n:Int) (h:0<n):0<=z%n/\z%n<n:=⟨Int.emod_nonneg _ (by omega),Int.emod_lt_of_pos _ h⟩
def Iu {α:Type} {es:List α} {f:α->V} {i:Nat} {x:V} (h:(es.map f)[i]?=some x):∃e,es[i]?=some e/\e∈es/\x=f e:=by
 rw[Jc] at h;cases he:es[i]? with
 | none=>rw[he] at h; cases h
 | some e=>rw[he] at h; cases h; exact⟨e,rfl,JW he,rfl⟩
end Gx
namespace L2
open PySem PySem.Spec PyProof.Rows
def Df (K:W.Frag) (ta:TE):TT:=λσ H Q=>ta σ H λx H'=>∃k,rW K x H' k/\Q k H'
def FT {X:Cx} {K:W.Frag} {a:Expr} {ta:TE} (hK:X.K=K) (ha:PE X a ta) (he:∀whole,isTrue a X.env whole=(do let v <- whole; standAt a.pos; holding [v] (truthy v))):PT X a (Df K ta):=by subst hK;exact JB ha he
end L2
namespace Gx
open PySem L2
def tx (l:List Nat):Str:=⟨l.toArray⟩
def nW (l:List Nat):(tx l).cps.toList=l:=by unfold tx; simp
def cX (l:List Nat):(tx l).length=l.length:=by unfold tx Str.length; simp
def dZ (a b:List Nat):tx a++tx b=tx (a++b):=by show(⟨_++_⟩:Str)=_;unfold tx;simp
def tx_inj {a b:List Nat} (h:tx a=tx b):a=b:=by rw[<- nW a,h,nW]
def Cz {l:List Nat} {i j:Int} (h0:0<=i) (h1:i<=j) (h2:j<=l.length):Txt.slice (tx l) (some i) (some j)=tx ((l.drop i.toNat).take (j - i).toNat):=by have:=PyProof.Rows.slice_closes (x:=tx l) (i:=i) (j:=j) ⟨h0,h1,by rw[nW]; exact h2⟩;rw[LQ,nW] at this;exact this
def HS (y:Str) (ys:List Str):PySem.Txt.join "" (y :: ys)=y++PySem.Txt.join "" ys:=by
 show PySem.Builtin.Str.glued ("":Str) (y :: ys)=y++PySem.Builtin.Str.glued ("":Str) ys;rw[PySem.StrLaws.glued_eq_join,PySem.StrLaws.glued_eq_join];cases ys with
 | nil =>
   show y=y++Str.empty;cases y;show _=(⟨_++#[]⟩:Str);simp
 | cons z zs =>
   show y++""++Str.join "" (z :: zs)=_;have:y++("":Str)=y:=by cases y;show(⟨_++#[]⟩:Str)=_;simp
   rw[this]
theorem jK:∀(ls:List (List Nat)),PySem.Txt.join "" (ls.map tx)=tx ls.flatten
 | []=>by show PySem.Builtin.Str.glued ("":Str) []=_;rw[PySem.StrLaws.glued_eq_join];rfl
 | l :: ls=>by rw[KG,HS,jK ls,dZ,KE]
end Gx
namespace L2
open PySem PySem.Spec PyProof.Rows
def GQ:V->List V->Hp->VK->Prop:=λx xs H Q=>∃z y i rest,x=.str z/\xs=[.str y]/\Builtin.Str.occurrences z y 0 z.length 1=i :: rest/\Q (.int (i:Nat)) H
def E7 {X:Cx}:mB X "str.index" GQ:=by intro pins s σ H x xs v us Q I rx r h;obtain⟨z,y,i,rest,rfl,rfl,ho,q⟩:=h;obtain⟨t,rfl⟩:=rx;obtain⟨u,rfl,t',rfl⟩:=hU r;exact SC.index ho ⟨.int i,H,I.tok _,⟨_,rfl⟩,q⟩
def mH (K:W.Frag) (a:Addr):It :=
 ⟨λi H=>∃xs x,aG K H a xs/\xs[i]?=some x,λi H y H'=>∃b,y=.ref b/\H b=none/\∀xs x,aG K H a xs->xs[i]?=some x->H'=upd H b (.tup [.int i,x]),λi H=>∃xs,aG K H a xs/\xs.length=i⟩
theorem DV {P:Program} {w:World} {K:W.Frag} {elts:List Expr} {k:Nat} {pos:Pos} (a e it:Addr) (hne:e≠it):Turn P w K (.Tuple elts k pos) (mH K a) [e,it] e (λi h=>(∃old,IsEnum h e it i old)/\h.IsListIter it a i) where
 mem:=by simp
 obj:=λi h st b hb=>by
   obtain⟨⟨old,he⟩,⟨o,ho,hc,hd⟩⟩:=st;rcases Jl.mp hb with z|z
   . subst z;exact⟨_,he,λv z=>by cases (show Data.fields _=Data.cell v from z)⟩
   . have z:b=it:=by simpa using z
     subst z;exact⟨o,ho,λv z=>by rw[hd] at z; cases z⟩
 keep:=λi h h' st kk=>by obtain⟨⟨old,he⟩,⟨o,ho,r⟩⟩:=st;exact⟨⟨old,kk e (by simp) _ he⟩,⟨o,kk it (by simp) o ho,r⟩⟩
 item:=by
   intro X hP hw hK hc i pins s σ H E I hf st hg;subst hP hw hK;obtain⟨⟨old,he⟩,hit⟩:=st;obtain⟨xs,x,hq,hx⟩:=hg;obtain⟨its,rv,p,hz⟩:=I.list hq;have pt:s.heap.IsList a its.toArray:=p.isList;obtain⟨u,hu,ru⟩:=rv.get hx;have hia:a≠it:=λz=>by
     subst z;obtain⟨o1,h1,c1,_⟩:=hit;obtain⟨o2,h2,c2,_⟩:=pt;rw[h1] at h2;cases h2;rw[c1] at c2;injection c2 with c2
     exact absurd c2 (by decide)
   have hea:e ∉ [it,a]:=λz=>by
     rcases Jl.mp z with z|z
     . exact hne z
     . have z:e=a:=by simpa using z
       subst z;obtain⟨o2,h2,c2,_⟩:=pt;rw[he] at h2;cases h2;injection (show Value.type "enumerate"=Value.type "list" from c2) with c2
       exact absurd c2 (by decide)
   have hlt:i<its.toArray.size:=by have:=(Jb.mp hu).1;simpa using this
   refine Ma (Draws.list (A:=X.A.in1) (I.ok.hd hc) it a hia its.toArray) he ⟨hit,pt⟩ hlt hne hea λy h' tk hy hout hst hT hsz hk=>?_;refine⟨_,rfl,MM hout λh2 he2 hs2=>?_⟩;have hs2:Heap.SameBut e h' h2:=hs2;have hyu:y=u:=by
     have hy:its.toArray[i]?=some y:=hy;have:its[i]?=some y:=by simpa using hy
     rw[hu] at this;exact(Option.some.inj this).symm
   subst hyu;have helt:e<s.heap.objs.size:=Ji he;have hfr:H s.heap.objs.size=none:=I.hok.fresh (JZ _);have hnS:s.heap.objs.size≠e:=LA helt;have hT2:h2.get? s.heap.objs.size=some { cls:=.type "tuple",data:=.seq #[.int i tk,y] }:=(hs2.2 _ hnS).trans hT;refine⟨.ref s.heap.objs.size,upd H s.heap.objs.size (.tup [.int i,x]),I.turnLaid (t':=tk+1) (ch:=[e,it]) (λb o hb q=>?_) hf (JZ _) ?_,rfl,⟨s.heap.objs.size,rfl,hfr,λxs' x' hq' hx'=>?_⟩,⟨⟨y,by exact_mod_cast he2⟩,?_⟩,λb hb=>?_⟩
   . have h1:b≠e:=λz=>hb (by simp [z]);have h3:b≠it:=λz=>hb (by simp [z]);exact(hs2.2 b h1).trans (hk b o h1 h3 q)
   . exact⟨by show 2<=sizeLine; decide,[.int i tk,y],.cons ⟨tk,rfl⟩ (.cons ru .nil),⟨_,hT2,rfl,_,rfl⟩⟩
   . have:=I.list_inj hq' hq;subst this;rw[hx] at hx';cases hx';rfl
   . obtain⟨⟨o,ho,r⟩,_⟩:=hst;exact⟨o,(hs2.2 it hne.symm).trans ho,r⟩
   . have hb0:=(hf b hb).1;rw[aQ]
     . exact hb0
     . intro z;subst z;obtain⟨o,ho,_⟩:=hit;rcases Jl.mp hb with z|z
       . exact hnS z
       . have z:s.heap.objs.size=it:=by simpa using z
         exact absurd (Ji ho) (by rw[<- z]; exact KL _)
 done:=by
   intro X hP hw hK hc i pins s σ H E I hf st hg;subst hP hw hK;obtain⟨⟨old,he⟩,hit⟩:=st;obtain⟨xs,hq,hx⟩:=hg;obtain⟨its,rv,p,hz⟩:=I.list hq;have pt:s.heap.IsList a its.toArray:=p.isList;have hl:=rv.length;have hia:a≠it:=λz=>by
     subst z;obtain⟨o1,h1,c1,_⟩:=hit;obtain⟨o2,h2,c2,_⟩:=pt;rw[h1] at h2;cases h2;rw[c1] at c2;injection c2 with c2
     exact absurd c2 (by decide)
   have hi:i=its.toArray.size:=by simp; omega
   refine wpAny_pyNext_enum_endD (Draws.list (A:=X.A.in1) (I.ok.hd hc) it a hia its.toArray) he (by rw[<- hi]; exact⟨hit,pt⟩) λh' eb=>⟨rfl,?_⟩
   exact I.turnedL (t':=s.toks) (ch:=[e,it]) (λb o hb q=>eb b o (λz=>hb (by simp [z])) q) hf
 self:=λ_ _ _ _ _ st h=>by obtain⟨⟨old,he⟩,_⟩:=st;exact Lp he h
section
variable {X:Cx}
def J7 (K:W.Frag) (ta:TA):TI:=λσ H R=>ta σ H λvs H1=>∃a,vs=[.ref a]/\(∃xs,aG K H1 a xs)/\R (mH K a) H1
def B0 {a:Expr} {ta:TA} {p pos tpos:Pos} {elts:List Expr} {k:Nat} (hg:Gl X "enumerate") (hm:X.mg "enumerate"=none) (ha:PA X [a] ta) (hs:starEach [a] X.env=[(false,eval a X.env)]:=by rfl):PI X (.Tuple elts k tpos) (.Call (.Name "enumerate" p) [a] [] pos) (J7 X.K ta):=by
 intro pins s σ H R I h;refine Call_ (j2 I hg hm wY (Kc (aO (ha pos pins s σ H _ I h) λus s1 ⟨vs,H1,I1,r1,q1⟩=>?_) hs rfl));obtain⟨a,e,⟨xs,hq⟩,q⟩:=q1;subst e;cases r1 with
 | cons r rr =>
   cases rr;cases r;obtain⟨its,rv,p,hz⟩:=I1.list hq;refine call_enumerate_list p.isList λh' he hit _ hk=>?_;refine Lp he ?_;refine⟨s1.heap.objs.size+1,[s1.heap.objs.size+1,s1.heap.objs.size],_,_,H1,rfl,I1.kept (t':=s1.toks) hk,DV a (s1.heap.objs.size+1) s1.heap.objs.size (Nat.succ_ne_self _),⟨⟨.none,he⟩,hit⟩,λb hb=>?_,q⟩;rcases Jl.mp hb with z|z
   . subst z;exact I1.fpOk (Kz _) (I1.hok.fresh (Kz _))
   . have z:b=s1.heap.objs.size:=by simpa using z
     subst z;exact I1.fpOk (JZ _) (I1.hok.fresh (JZ _))
theorem C0 {K:W.Frag} {a:Addr} {xs:List V} {g:TG} {tb:TS} {D:cS} {σ:St} {H:Hp} (Pv:Nat->St->Hp->Prop) (h0:Pv 0 σ H) (hl:∀i σ H,i<=xs.length->Pv i σ H->aG K H a xs)
   (hs:∀i x σ H b,xs[i]?=some x->Pv i σ H->H b=none->g (.ref b) σ (upd H b (.tup [.int i,x])) λσ2 H2=>tb { D with nx:=Pv (i+1),ct:=Pv (i+1),bk:=D.nx } σ2 H2) (hd:∀σ H,Pv xs.length σ H->D.nx σ H) :
   ∃W:Nat->Nat->St->Hp->Prop,(∃m,W 0 m σ H)/\∀i m σ H,W i m σ H->((mH K a).stop i H/\D.nx σ H)\/((mH K a).go i H/\∃N:St->Hp->Prop,(∀σ' H',N σ' H'->∃m',m'<m/\W (i+1) m' σ' H')/\∀x H',(mH K a).yld i H x H'->g x σ H' λσ2 H2=>tb { D with nx:=N,ct:=N,bk:=D.nx } σ2 H2):=by
 refine⟨λi m σ H=>m=xs.length - i/\i<=xs.length/\Pv i σ H,⟨xs.length,by simp,Jw _,h0⟩,?_⟩;rintro i m σ H ⟨rfl,hi,p⟩;have q:=hl i σ H hi p;by_cases hlt:i<xs.length
 . refine .inr ⟨⟨xs,xs[i],q,by simp [hlt]⟩,Pv (i+1),λσ' H' p'=>⟨xs.length - (i+1),by omega,rfl,hlt,p'⟩,λx H' y=>?_⟩;obtain⟨b,rfl,hb,y⟩:=y;rw[y xs xs[i] q (by simp [hlt])];exact hs i xs[i] σ H b (by simp [hlt]) p hb
 . have e:i=xs.length:=by omega
   subst e;exact .inl ⟨⟨xs,q,rfl⟩,hd σ H p⟩
end
end L2
namespace PySem
open Sem (wp)
def cE (b:Bool) (h:Heap) (it l:Addr) (k:Nat):Prop:=match b with|true=>h.IsTupleIter it l k|false=>h.IsListIter it l k
def cm (b:Bool) (h:Heap) (l:Addr) (xs:Array Value):Prop:=match b with|true=>h.IsTuple l xs|false=>h.IsList l xs
variable {b:Bool} {h h':Heap} {it l:Addr}
def cE.at {k:Nat} (p:cE b h it l k) (e:∀o,h.get? it=some o->h'.get? it=some o):cE b h' it l k:=by cases b <;> (obtain⟨o,ho,r⟩:=p; exact⟨o,e o ho,r⟩)
variable {xs:Array Value}
def cm.at (p:cm b h l xs) (e:∀o,h.get? l=some o->h'.get? l=some o):cm b h' l xs:=by cases b <;> (obtain⟨o,ho,r⟩:=p; exact⟨o,e o ho,r⟩)
def cE.extBut {c:Addr}{k:Nat} (p:cE b h it l k) (e:Heap.ExtBut c h h') (n:it≠c):cE b h' it l k:=p.at λo ho=>e _ _ n ho
def cm.extBut {c:Addr}(p:cm b h l xs) (e:Heap.ExtBut c h h') (n:l≠c):cm b h' l xs:=p.at λo ho=>e _ _ n ho
def cE.lt {k:Nat} (p:cE b h it l k):it<h.objs.size:=by cases b <;> (obtain⟨o,ho,r⟩:=p; exact Ji ho)
variable {b1 b2:Bool} {z i1 i2 l1 l2:Addr} {k1 k2:Nat} {ys:Array Value} {a:Value}
section
variable {prog:Program} {w:World} {A:Around} {E:Value->Shared->Prop} {s:Shared}
theorem qX {i:Nat} {items:Array Value} {x:Value} {Q:Value->Shared->Prop} (p:cE b s.heap it l i) (q:cm b s.heap l items) (hx:items[i]?=some x)
   (hQ:∀h',cE b h' it l (i+1)->Heap.SameBut it s.heap h'->Q x { s with heap:=h' }):wpAny (model prog w) A (Builtin.SmallTypes.nextOf (.ref it)) Q E s:=by
 cases b with
 | true=>exact L2.gx_nextOf_tup p q hx hQ
 | false=>exact wpAny_nextOf_list_item p q hx hQ
theorem wZ {i:Nat} {items:Array Value} {Q:Value->Shared->Prop} (hh:A.handled=none) (p:cE b s.heap it l i) (q:cm b s.heap l items) (hx:items[i]?=none)
   (hE:∀h' e,Heap.ExtBut it s.heap h'->(∃o,h'.get? e=some o/\o.cls=.type "StopIteration")->E (.ref e) { s with heap:=h' }):wpAny (model prog w) A (Builtin.SmallTypes.nextOf (.ref it)) Q E s:=by
 cases b with
 | true=>exact L2.gx_nextOf_tup_end hh p q hx hE
 | false=>exact wpAny_nextOf_list_end hh p q hx hE
theorem Fq {TI TO:Addr}{x y b:Value}{Q:Value->Shared->Prop} (D:ZipApart z TI TO i1 i2 l1 l2)
   (zZ:IsZip s.heap z TI TO .none) (zI:IsPair s.heap TI (.ref i1) (.ref i2)) (zO:IsPair s.heap TO a b)
   (p1:cE b1 s.heap i1 l1 k1) (p2:cE b2 s.heap i2 l2 k2) (q1:cm b1 s.heap l1 xs) (q2:cm b2 s.heap l2 ys) (hx:xs[k1]?=some x) (hy:ys[k2]?=some y)
   (hQ:∀h',IsZip h' z TI TO (rawInt s.heap.objs.size)->IsPair h' TO x y->cE b1 h' i1 l1 (k1+1)->cE b2 h' i2 l2 (k2+1)->IsPair h' s.heap.objs.size x y->h'.objs.size=s.heap.objs.size+1 ->
     (∀c o,c≠z->c≠TO->c≠i1->c≠i2->s.heap.get? c=some o->h'.get? c=some o)->Q (.ref s.heap.objs.size) { s with heap:=h' }) :
   wpAny (model prog w) A (Builtin.«zip.__next__» ⟨[.ref z],[]⟩) (λfin s'=>∃v,fin=.done (.ret v)/\Q v s') E s:=by
 show wpAny _ _ (field (.ref z) 2 >>= _) _ _ _; refine JT (KM zZ rfl (x:=.bool false) rfl ?_); show wpAny _ _ (field (.ref z) 3 >>= _) _ _ _; refine JT (KM zZ rfl (x:=.ref TI) rfl ?_); refine JT (L9 zI rfl ?_); show wpAny _ _ (Builtin.SmallTypes.ownedTupleIsFree (.ref z) >>= _) _ _ _; refine JT ?_; unfold Builtin.SmallTypes.ownedTupleIsFree; refine JT (KM zZ rfl (x:=.none) rfl (Jh ?_)); simp only[if_true]; refine JT (Ml ?_); refine JT (KM zZ rfl (x:=.ref TO) rfl ?_);refine JT (LC zZ (by simp) λh₁ zZ₁ hs₁=>?_); replace zZ₁:IsZip h₁ z TI TO .ellipsis:=zZ₁; refine JT ?_; simp only[List.zipIdx_cons,List.zipIdx_nil,M3,Mi];refine JT (JT (MN ?_)); show wpAny _ _ (Builtin.SmallTypes.nextOf (.ref i1) >>= _) _ _ _; refine JT (qX (p1.extBut hs₁.extBut D.i1z) (q1.extBut hs₁.extBut D.l1z) hx λh₂ h1₂ hs₂=>Jh ?_); have hTO₂:IsPair h₂ TO a b:=hs₂.extBut _ _ D.TOi1 (hs₁.extBut _ _ D.TOz zO); refine JT (L9 hTO₂ rfl ?_); refine JT (M8 hTO₂ λh₃ hTO₃ hs₃=>?_); replace hTO₃:IsPair h₃ TO x b:=hTO₃; refine JT (wpAny_letGo (Jh ?_))
 refine JT (JT (MN ?_)); show wpAny _ _ (Builtin.SmallTypes.nextOf (.ref i2) >>= _) _ _ _; refine JT (qX (((p2.extBut hs₁.extBut D.i2z).extBut hs₂.extBut D.i12.symm).extBut hs₃.extBut D.TOi2.symm)
   (((q2.extBut hs₁.extBut D.l2z).extBut hs₂.extBut D.l2i1).extBut hs₃.extBut D.l2TO) hy λh₄ h2₄ hs₄=>Jh ?_)
 have hTO₄:IsPair h₄ TO x b:=hs₄.extBut _ _ D.TOi2 hTO₃; refine JT (L9 hTO₄ rfl ?_); refine JT (M8 hTO₄ λh₅ hTO₅ hs₅=>?_); replace hTO₅:IsPair h₅ TO x y:=hTO₅; refine JT (wpAny_letGo (Jh (Jh ?_)));refine JT (L9 hTO₅ rfl ?_); refine JT (wpAny_newTuple ?_); have hsz:h₅.objs.size=s.heap.objs.size:=(by rw[hs₅.1,hs₄.1,hs₃.1,hs₂.1,hs₁.1]); have hz₅:IsZip h₅ z TI TO .ellipsis:=hs₅.extBut _ _ D.TOz.symm (hs₄.extBut _ _ D.i2z.symm (hs₃.extBut _ _ D.TOz.symm (hs₂.extBut _ _ D.i1z.symm zZ₁))); have hk₅:∀c o,c≠z->c≠TO->c≠i1->c≠i2->s.heap.get? c=some o->h₅.get? c=some o:=λc o c1 c2 c3 c4 e =>
   hs₅.extBut _ _ c2 (hs₄.extBut _ _ c4 (hs₃.extBut _ _ c2 (hs₂.extBut _ _ c3 (hs₁.extBut _ _ c1 e))))
 have h1₅:cE b1 h₅ i1 l1 (k1+1):=((h1₂.extBut hs₃.extBut D.TOi1.symm).extBut hs₄.extBut D.i12).extBut hs₅.extBut D.TOi1.symm; have h2₅:cE b2 h₅ i2 l2 (k2+1):=h2₄.extBut hs₅.extBut D.TOi2.symm; have hzlt:z<h₅.objs.size:=Ji hz₅; have hTOlt:TO<h₅.objs.size:=Ji hTO₅; have hi1lt:i1<h₅.objs.size:=cE.lt h1₅; have hi2lt:i2<h₅.objs.size:=cE.lt h2₅; show wpAny _ _ (Builtin.SmallTypes.ownedTupleHandOut (.ref z) (.ref h₅.objs.size) >>= _) _ _ _; refine JT ?_; unfold Builtin.SmallTypes.ownedTupleHandOut; have hz₆:IsZip (h₅.push { cls:=.type "tuple",data:=.seq #[x,y] }) z TI TO .ellipsis:=JX _ hz₅
 refine JT (LC hz₆ (by simp) λh₇ hz₇ hs₇=>?_); replace hz₇:IsZip h₇ z TI TO (rawInt h₅.objs.size):=hz₇; refine LC hz₇ (by simp) λh₈ hz₈ hs₈=>?_; replace hz₈:IsZip h₈ z TI TO (rawInt h₅.objs.size):=hz₈; have up:∀c o,c≠z->h₅.get? c=some o->h₈.get? c=some o:=λc o c1 e=>hs₈.extBut _ _ c1 (hs₇.extBut _ _ c1 (JX _ e)); have hT₈:IsPair h₈ h₅.objs.size x y:=hs₈.extBut _ _ (LA hzlt) (hs₇.extBut _ _ (LA hzlt) (Jn _ rfl)); have hz8:h₈.objs.size=h₅.objs.size+1:=(by rw[hs₈.1,hs₇.1,Kg])
 rw[hsz] at hz₈ hT₈ hz8;refine Jh ⟨_,rfl,?_⟩; show Q (.ref h₅.objs.size) _;rw[hsz];exact hQ h₈ hz₈ (up _ _ D.TOz hTO₅) (h1₅.at λo e=>up _ o D.i1z e) (h2₅.at λo e=>up _ o D.i2z e) hT₈ hz8 λc o c1 c2 c3 c4 e=>up c o c1 (hk₅ c o c1 c2 c3 c4 e)
theorem FU {TI TO:Addr}{b:Value}{Q:Fin->Shared->Prop} (hh:A.handled=none) (D:ZipApart z TI TO i1 i2 l1 l2)
   (zZ:IsZip s.heap z TI TO .none) (zI:IsPair s.heap TI (.ref i1) (.ref i2)) (zO:IsPair s.heap TO a b)
   (p1:cE b1 s.heap i1 l1 k1) (p2:cE b2 s.heap i2 l2 k2) (q1:cm b1 s.heap l1 xs) (q2:cm b2 s.heap l2 ys) (hend:xs[k1]?=none\/ys[k2]?=none)
   (hE:∀h' e,(∀c o,c≠z->c≠TO->c≠i1->c≠i2->s.heap.get? c=some o->h'.get? c=some o)->(∃o,h'.get? e=some o/\o.cls=.type "StopIteration")->E (.ref e) { s with heap:=h' }) :
   wpAny (model prog w) A (Builtin.«zip.__next__» ⟨[.ref z],[]⟩) Q E s:=by
 show wpAny _ _ (field (.ref z) 2 >>= _) _ _ _; refine JT (KM zZ rfl (x:=.bool false) rfl ?_); show wpAny _ _ (field (.ref z) 3 >>= _) _ _ _; refine JT (KM zZ rfl (x:=.ref TI) rfl ?_); refine JT (L9 zI rfl ?_); show wpAny _ _ (Builtin.SmallTypes.ownedTupleIsFree (.ref z) >>= _) _ _ _; refine JT ?_; unfold Builtin.SmallTypes.ownedTupleIsFree; refine JT (KM zZ rfl (x:=.none) rfl (Jh ?_)); simp only[if_true]; refine JT (Ml ?_); refine JT (KM zZ rfl (x:=.ref TO) rfl ?_);refine JT (LC zZ (by simp) λh₁ zZ₁ hs₁=>?_); replace zZ₁:IsZip h₁ z TI TO .ellipsis:=zZ₁; refine JT ?_; simp only[List.zipIdx_cons,List.zipIdx_nil,M3,Mi]; refine JT (JT (MN ?_)); show wpAny _ _ (Builtin.SmallTypes.nextOf (.ref i1) >>= _) _ _ _;cases hx:xs[k1]? with
 | none =>
   refine JT (wZ hh (p1.extBut hs₁.extBut D.i1z) (q1.extBut hs₁.extBut D.l1z) hx λh₂ e hs₂ he=>?_); obtain⟨oe,hoe,hce⟩:=he; have hz₂:IsZip h₂ z TI TO .ellipsis:=hs₂ _ _ D.i1z.symm zZ₁; have hez:e≠z:=(λx=>by subst x; rw[hz₂] at hoe; cases hoe; simp at hce); refine LC hz₂ (by simp) λh₃ _ hs₃=>hE h₃ e (λc o c1 _ c3 _ x=>hs₃.extBut _ _ c1 (hs₂ _ _ c3 (hs₁.extBut _ _ c1 x))) ⟨oe,hs₃.extBut _ _ hez hoe,hce⟩
 | some x =>
   have hy:ys[k2]?=none:=(by rcases hend with h|h; rw[hx] at h; cases h; exact h); refine JT (qX (p1.extBut hs₁.extBut D.i1z) (q1.extBut hs₁.extBut D.l1z) hx λh₂ h1₂ hs₂=>Jh ?_); have hTO₂:IsPair h₂ TO a b:=hs₂.extBut _ _ D.TOi1 (hs₁.extBut _ _ D.TOz zO); refine JT (L9 hTO₂ rfl ?_); refine JT (M8 hTO₂ λh₃ hTO₃ hs₃=>?_); refine JT (wpAny_letGo (Jh ?_)); refine JT (JT (MN ?_)); show wpAny _ _ (Builtin.SmallTypes.nextOf (.ref i2) >>= _) _ _ _; refine JT (wZ hh (((p2.extBut hs₁.extBut D.i2z).extBut hs₂.extBut D.i12.symm).extBut hs₃.extBut D.TOi2.symm)
     (((q2.extBut hs₁.extBut D.l2z).extBut hs₂.extBut D.l2i1).extBut hs₃.extBut D.l2TO) hy λh₄ e hs₄ he=>?_)
   obtain⟨oe,hoe,hce⟩:=he; have hz₄:IsZip h₄ z TI TO .ellipsis:=hs₄ _ _ D.i2z.symm (hs₃.extBut _ _ D.TOz.symm (hs₂.extBut _ _ D.i1z.symm zZ₁)); have hez:e≠z:=(λx=>by subst x; rw[hz₄] at hoe; cases hoe; simp at hce); refine LC hz₄ (by simp) λh₅ _ hs₅=>hE h₅ e (λc o c1 c2 c3 c4 x=>hs₅.extBut _ _ c1 (hs₄ _ _ c4 (hs₃.extBut _ _ c2 (hs₂.extBut _ _ c3 (hs₁.extBut _ _ c1 x))))) ⟨oe,hs₅.extBut _ _ hez hoe,hce⟩
theorem Dn {TI TO:Addr}{x y b:Value}{Q:Option Value->Shared->Prop} (D:ZipApart z TI TO i1 i2 l1 l2)
   (zZ:IsZip s.heap z TI TO .none) (zI:IsPair s.heap TI (.ref i1) (.ref i2)) (zO:IsPair s.heap TO a b)
   (p1:cE b1 s.heap i1 l1 k1) (p2:cE b2 s.heap i2 l2 k2) (q1:cm b1 s.heap l1 xs) (q2:cm b2 s.heap l2 ys) (hx:xs[k1]?=some x) (hy:ys[k2]?=some y)
   (hQ:∀h',IsZip h' z TI TO (rawInt s.heap.objs.size)->IsPair h' TO x y->cE b1 h' i1 l1 (k1+1)->cE b2 h' i2 l2 (k2+1)->IsPair h' s.heap.objs.size x y->h'.objs.size=s.heap.objs.size+1 ->
     (∀c o,c≠z->c≠TO->c≠i1->c≠i2->s.heap.get? c=some o->h'.get? c=some o)->Q (some (.ref s.heap.objs.size)) { s with heap:=h' }) :
   wpAny (model prog w) A (pyNext (.ref z)) Q E s:=by
 have hT:s.TypeIs (.ref z) "zip":=⟨_,zZ,rfl⟩; unfold pyNext;exact JT (Mn (wpAny_callSpecial?_slot (name:=Str.ofString "__next__") hT M9
   (LJ M9 hT F.entry_zip_next
     (Fq D zZ zI zO p1 p2 q1 q2 hx hy λh' a1 a2 a3 a4 a5 a6 a7=>Jh (hQ h' a1 a2 a3 a4 a5 a6 a7)) (F.args_zip_next_1 _))))
theorem EC {TI TO:Addr}{b:Value}{Q:Option Value->Shared->Prop} (hh:A.handled=none) (D:ZipApart z TI TO i1 i2 l1 l2)
   (zZ:IsZip s.heap z TI TO .none) (zI:IsPair s.heap TI (.ref i1) (.ref i2)) (zO:IsPair s.heap TO a b)
   (p1:cE b1 s.heap i1 l1 k1) (p2:cE b2 s.heap i2 l2 k2) (q1:cm b1 s.heap l1 xs) (q2:cm b2 s.heap l2 ys) (hend:xs[k1]?=none\/ys[k2]?=none)
   (hQ:∀h',(∀c o,c≠z->c≠TO->c≠i1->c≠i2->s.heap.get? c=some o->h'.get? c=some o)->Q none { s with heap:=h' }):wpAny (model prog w) A (pyNext (.ref z)) Q E s:=by
 have hT:s.TypeIs (.ref z) "zip":=⟨_,zZ,rfl⟩; unfold pyNext; refine JT (Mn (wpAny_callSpecial?_slot (name:=Str.ofString "__next__") hT M9
   (LJ M9 hT F.entry_zip_next (FU hh D zZ zI zO p1 p2 q1 q2 hend λh' e hk he=>?_) (F.args_zip_next_1 _))))
 obtain⟨o,ho,hc⟩:=he; refine JT (wpAny_isInstance (T:="StopIteration") (b:=true) ⟨o,ho,hc⟩ isSubtype_stop ?_);exact Jh (hQ _ hk)
end
def fV (b:Bool) (l:Addr):Obj:={ cls:=.type (match b with|true=>"tuple_iterator" | false=>"list_iterator"),data:=.fields #[.ref l,.int 0 0] }
theorem G8 (b1 b2:Bool) (l1 l2:Addr) (xs ys:Array Value) :
   Meets (Builtin.«zip.__new__» ⟨[.type "zip",.ref l1,.ref l2],[]⟩) (λ_ R s=>cm b1 s.heap l1 xs/\cm b2 s.heap l2 ys /\
     R (.ok (.ret (.ref ((((s.heap.push (fV b1 l1)).push (fV b2 l2)).push { cls:=.type "tuple",data:=.seq #[.ref s.heap.objs.size,.ref (s.heap.push (fV b1 l1)).objs.size] }).push { cls:=.type "tuple",data:=.seq #[.none,.none] }).objs.size)))
       { s with heap:=(((((s.heap.push (fV b1 l1)).push (fV b2 l2)).push { cls:=.type "tuple",data:=.seq #[.ref s.heap.objs.size,.ref (s.heap.push (fV b1 l1)).objs.size] }).push { cls:=.type "tuple",data:=.seq #[.none,.none] }).push
         { cls:=.type "zip",data:=.fields #[.none,.bool false,.bool false,.ref ((s.heap.push (fV b1 l1)).push (fV b2 l2)).objs.size,.ref (((s.heap.push (fV b1 l1)).push (fV b2 l2)).push { cls:=.type "tuple",data:=.seq #[.ref s.heap.objs.size,.ref (s.heap.push (fV b1 l1)).objs.size] }).objs.size] }) }) :=
 .of_wp λprog w A R s h=>by
   obtain⟨hp,g,d,tk,os⟩:=s; obtain⟨q1,q2,h⟩:=h;have hsub:=sub_zip;have q2':cm b2 (hp.push (fV b1 l1)) l2 ys:=q2.at λo e=>JX _ e;cases b1 with
   | true =>
     have hL1:Heap.IsTuple (Shared.heap ⟨hp,g,d,tk,os⟩) l1 xs:=q1;cases b2 with
     | true =>
       have hL2:Heap.IsTuple (Shared.heap ⟨hp.push { cls:=.type "tuple_iterator",data:=.fields #[.ref l1,.int 0 0] },g,d,tk,os⟩) l2 ys:=q2'
       wp_walk using Kw hL1,Kw hL2; exact⟨_,rfl,h⟩
     | false =>
       have hL2:Heap.IsList (Shared.heap ⟨hp.push { cls:=.type "tuple_iterator",data:=.fields #[.ref l1,.int 0 0] },g,d,tk,os⟩) l2 ys:=q2'
       wp_walk using Kw hL1,L8 hL2; exact⟨_,rfl,h⟩
   | false =>
     have hL1:Heap.IsList (Shared.heap ⟨hp,g,d,tk,os⟩) l1 xs:=q1;cases b2 with
     | true =>
       have hL2:Heap.IsTuple (Shared.heap ⟨hp.push { cls:=.type "list_iterator",data:=.fields #[.ref l1,.int 0 0] },g,d,tk,os⟩) l2 ys:=q2'
       wp_walk using L8 hL1,Kw hL2; exact⟨_,rfl,h⟩
     | false =>
       have hL2:Heap.IsList (Shared.heap ⟨hp.push { cls:=.type "list_iterator",data:=.fields #[.ref l1,.int 0 0] },g,d,tk,os⟩) l2 ys:=q2'
       wp_walk using L8 hL1,L8 hL2; exact⟨_,rfl,h⟩
section
variable {prog:Program} {w:World} {A:Around} {E:Value->Shared->Prop} {s:Shared}
def wF (e:h.get? it=some (fV b l)):cE b h it l 0:=by cases b <;> exact⟨_,e,rfl,rfl⟩
theorem Cj {Q:Value->Shared->Prop} (q1:cm b1 s.heap l1 xs) (q2:cm b2 s.heap l2 ys)
   (h:∀h' (n:Nat),n=s.heap.objs.size->IsZip h' (n+4) (n+2) (n+3) .none->IsPair h' (n+2) (.ref n) (.ref (n+1))->IsPair h' (n+3) .none .none->cE b1 h' n l1 0->cE b2 h' (n+1) l2 0 ->
     (∀c o,s.heap.get? c=some o->h'.get? c=some o)->Q (.ref (n+4)) { s with heap:=h' }) :
   wpAny (model prog w) A (call (.type "zip") [.ref l1,.ref l2]) Q E s:=by
 refine callType_new F.called_zip (by decide) (F.typeCall_zip_2 _ _) (F.newCall_zip_2 _ _) (λobj=>F.args_object_init_3 obj _ _) F.entry_zip_new (G8 b1 b2 l1 l2 xs ys) ⟨q1,q2,?_⟩;generalize ho1:fV b1 l1=o1;generalize ho2:fV b2 l2=o2;have z1:(s.heap.push o1).objs.size=s.heap.objs.size+1:=Kg ..;have z2:((s.heap.push o1).push o2).objs.size=s.heap.objs.size+2:=by rw[Kg,z1]
 rw[z1,z2];generalize hT1:({ cls:=.type "tuple",data:=.seq #[.ref s.heap.objs.size,.ref (s.heap.objs.size+1)] }:Obj)=t1;generalize hT2:({ cls:=.type "tuple",data:=.seq #[.none,.none] }:Obj)=t2;have z3:(((s.heap.push o1).push o2).push t1).objs.size=s.heap.objs.size+3:=by rw[Kg,z2]
 have z4:((((s.heap.push o1).push o2).push t1).push t2).objs.size=s.heap.objs.size+4:=by rw[Kg,z3]
 rw[z3,z4];generalize hZ:({ cls:=.type "zip",data:=.fields #[.none,.bool false,.bool false,.ref (s.heap.objs.size+2),.ref (s.heap.objs.size+3)] }:Obj)=tz;have g5:=Jn ((((s.heap.push o1).push o2).push t1).push t2) (o:=tz) (by rw[<- hZ]; rfl);have g4:=JX tz (Jn (((s.heap.push o1).push o2).push t1) (o:=t2) (by rw[<- hT2]; rfl));have g3:=JX tz (JX t2 (Jn ((s.heap.push o1).push o2) (o:=t1) (by rw[<- hT1]; rfl)));have g2:=JX tz (JX t2 (JX t1 (Jn (s.heap.push o1) (o:=o2) (by rw[<- ho2]; rfl))));have g1:=JX tz (JX t2 (JX t1 (JX o2 (Jn s.heap (o:=o1) (by rw[<- ho1]; rfl)))));rw[z4] at g5;rw[z3] at g4;rw[z2] at g3;rw[z1] at g2;subst hZ hT1 hT2 ho1 ho2;exact⟨⟨_,g5,rfl⟩,h _ s.heap.objs.size rfl g5 g3 g4 (wF g1) (wF g2) λc o x =>
   JX _ (JX _ (JX _ (JX _ (JX _ x))))⟩
end
end PySem
namespace L2
open PySem PySem.Spec PyProof.Rows
def fZ (b:Bool) (K:W.Frag) (H:Hp) (l:Addr) (xs:List V):Prop:=match b with|true=>aI K H l xs|false=>aG K H l xs
def Inv.sqv {X:Cx} {pins:List (Addr×Obj)} {σ:St} {H:Hp} {s:Shared} {b:Bool} {l:Addr} {xs:List V} (I:Inv X pins σ H s) (h:fZ b X.K H l xs):∃its:List Value,aT xs its/\cm b s.heap l its.toArray:=by
 cases b with
 | true=>obtain⟨its,r,p,_⟩:=I.tuple h; exact⟨its,r,p⟩
 | false=>obtain⟨its,r,p,_⟩:=I.list h; exact⟨its,r,p.isList⟩
def Inv.sqv_inj {X:Cx} {pins:List (Addr×Obj)} {σ:St} {H:Hp} {s:Shared} {b:Bool} {l:Addr} {xs ys:List V} (I:Inv X pins σ H s) (h:fZ b X.K H l xs) (h':fZ b X.K H l ys):xs=ys:=by
 cases b with
 | true=>exact I.tuple_inj h h'
 | false=>exact I.list_inj h h'
def cm.lt {b:Bool} {h:Heap} {l:Addr} {xs:Array Value} (p:cm b h l xs):l<h.objs.size:=by cases b <;> (obtain⟨o,ho,r⟩:=p; exact Ji ho)
def kW (K:W.Frag) (b1 b2:Bool) (l1 l2:Addr):It :=
 ⟨λi H=>∃xs ys x y,fZ b1 K H l1 xs/\fZ b2 K H l2 ys/\xs[i]?=some x/\ys[i]?=some y,
  λi H v H'=>∃b,v=.ref b/\H b=none/\∀xs ys x y,fZ b1 K H l1 xs->fZ b2 K H l2 ys->xs[i]?=some x->ys[i]?=some y->H'=upd H b (.tup [x,y]),
  λi H=>∃xs ys,fZ b1 K H l1 xs/\fZ b2 K H l2 ys/\(xs[i]?=none\/ys[i]?=none)⟩
theorem Ey {P:Program} {w:World} {K:W.Frag} {elts:List Expr} {k:Nat} {pos:Pos} (b1 b2:Bool) (z TI TO i1 i2 l1 l2:Addr) (D:ZipApart z TI TO i1 i2 l1 l2) :
   Turn P w K (.Tuple elts k pos) (kW K b1 b2 l1 l2) [z,TI,TO,i1,i2] z (λi h=>IsZip h z TI TO .none/\IsPair h TI (.ref i1) (.ref i2)/\(∃a b,IsPair h TO a b)/\cE b1 h i1 l1 i/\cE b2 h i2 l2 i) where
 mem:=by simp
 obj:=λi h st b hb=>by
   obtain⟨hz,hTI,⟨a,c,hTO⟩,h1,h2⟩:=st;simp only[Jl,Lv,or_false] at hb;rcases hb with rfl|rfl|rfl|rfl|rfl
   . exact⟨_,hz,λv z=>by cases (show Data.fields _=Data.cell v from z)⟩
   . exact⟨_,hTI,λv z=>by cases (show Data.seq _ _=Data.cell v from z)⟩
   . exact⟨_,hTO,λv z=>by cases (show Data.seq _ _=Data.cell v from z)⟩
   . cases b1 <;> (obtain⟨o,ho,hc,hd⟩:=h1; exact⟨o,ho,λv z=>by rw[hd] at z; cases z⟩)
   . cases b2 <;> (obtain⟨o,ho,hc,hd⟩:=h2; exact⟨o,ho,λv z=>by rw[hd] at z; cases z⟩)
 keep:=λi h h' st kk=>by obtain⟨hz,hTI,⟨a,c,hTO⟩,h1,h2⟩:=st;exact⟨kk _ (by simp) _ hz,kk _ (by simp) _ hTI,⟨a,c,kk _ (by simp) _ hTO⟩,h1.at λo e=>kk _ (by simp) o e,h2.at λo e=>kk _ (by simp) o e⟩
 item:=by
   intro X hP hw hK hc i pins s σ H E I hf st hg;subst hP hw hK;obtain⟨hz,hTI,⟨oa,ob,hTO⟩,h1,h2⟩:=st;obtain⟨xs,ys,x,y,e1,e2,hx,hy⟩:=hg;obtain⟨is1,r1,p1⟩:=I.sqv e1;obtain⟨is2,r2,p2⟩:=I.sqv e2;obtain⟨u,hu,ru⟩:=r1.get hx;obtain⟨v,hv,rv⟩:=r2.get hy;refine Dn D hz hTI hTO h1 h2 p1 p2 (by simpa using hu) (by simpa using hv) λh' a1 a2 a3 a4 a5 a6 hk=>?_;refine⟨_,rfl,wpAny_letOwnedTupleGo_zip a1 λh3 hz3 hs3=>?_⟩;have hs3:Heap.SameBut z h' h3:=hs3;have hzlt:z<s.heap.objs.size:=Ji hz;have hfr:H s.heap.objs.size=none:=I.hok.fresh (JZ _);have hnS:s.heap.objs.size≠z:=LA hzlt;have hT3:IsPair h3 s.heap.objs.size u v:=(hs3.2 _ hnS).trans a5;refine⟨.ref s.heap.objs.size,upd H s.heap.objs.size (.tup [x,y]),I.turnLaid (t':=s.toks) (ch:=[z,TI,TO,i1,i2]) (λb o hb q=>?_) hf (JZ _) ?_,rfl,⟨s.heap.objs.size,rfl,hfr,λxs' ys' x' y' q1 q2 hx' hy'=>?_⟩,⟨hz3,?_,⟨u,v,?_⟩,?_,?_⟩,λb hb=>?_⟩
   . have n1:b≠z:=λzz=>hb (by simp [zz]);have n3:b≠TO:=λzz=>hb (by simp [zz]);have n4:b≠i1:=λzz=>hb (by simp [zz]);have n5:b≠i2:=λzz=>hb (by simp [zz]);exact(hs3.2 b n1).trans (hk b o n1 n3 n4 n5 q)
   . exact⟨by show 2<=sizeLine; decide,[u,v],.cons ru (.cons rv .nil),⟨_,hT3,rfl,_,rfl⟩⟩
   . have t1:=I.sqv_inj q1 e1;have t2:=I.sqv_inj q2 e2;subst t1 t2;rw[hx] at hx';rw[hy] at hy';cases hx';cases hy';rfl
   . exact(hs3.2 _ D.TIz).trans (hk _ _ D.TIz D.TITO D.TIi1 D.TIi2 hTI)
   . exact(hs3.2 _ D.TOz).trans a2
   . exact a3.at λo e=>(hs3.2 _ D.i1z).trans e
   . exact a4.at λo e=>(hs3.2 _ D.i2z).trans e
   . have hb0:=(hf b hb).1;rw[aQ]
     . exact hb0
     . intro zz;subst zz;simp only[Jl,Lv,or_false] at hb;rcases hb with e|e|e|e|e
       . exact hnS e
       . exact absurd (Ji hTI) (by rw[<- e]; exact KL _)
       . exact absurd (Ji hTO) (by rw[<- e]; exact KL _)
       . exact absurd h1.lt (by rw[<- e]; exact KL _)
       . exact absurd h2.lt (by rw[<- e]; exact KL _)
 done:=by
   intro X hP hw hK hc i pins s σ H E I hf st hg;subst hP hw hK;obtain⟨hz,hTI,⟨oa,ob,hTO⟩,h1,h2⟩:=st;obtain⟨xs,ys,e1,e2,hend⟩:=hg;obtain⟨is1,r1,p1⟩:=I.sqv e1;obtain⟨is2,r2,p2⟩:=I.sqv e2;refine EC (I.ok.hd hc) D hz hTI hTO h1 h2 p1 p2 ?_ λh' hk=>⟨rfl,?_⟩
   . rcases hend with h|h
     . left; have:=r1.none_of h; simpa using this
     . right; have:=r2.none_of h; simpa using this
   . exact I.turnedL (t':=s.toks) (ch:=[z,TI,TO,i1,i2]) (λb o hb q=>hk b o (λzz=>hb (by simp [zz])) (λzz=>hb (by simp [zz])) (λzz=>hb (by simp [zz])) (λzz=>hb (by simp [zz])) q) hf
 self:=λ_ _ _ _ _ st h=>wpAny_pyIter_zip st.1 h
section
variable {X:Cx}
def Ce (b1 b2:Bool) (K:W.Frag) (ta:TA):TI:=λσ H R=>ta σ H λvs H1=>∃l1 l2,vs=[.ref l1,.ref l2]/\(∃xs,fZ b1 K H1 l1 xs)/\(∃ys,fZ b2 K H1 l2 ys)/\R (kW K b1 b2 l1 l2) H1
def yO (b1 b2:Bool) {a b:Expr} {ta:TA} {p pos tpos:Pos} {elts:List Expr} {k:Nat} (hg:Gl X "zip") (hm:X.mg "zip"=none) (ha:PA X [a,b] ta) (hs:starEach [a,b] X.env=(false,eval a X.env) :: starEach [b] X.env:=by rfl) (hs2:(backTo pos (starEach [b] X.env)).any (·.1)=false:=by rfl) :
   PI X (.Tuple elts k tpos) (.Call (.Name "zip" p) [a,b] [] pos) (Ce b1 b2 X.K ta):=by
 intro pins s σ H R I h;refine Call_ (j2 I hg hm Ej (Kc (aO (ha pos pins s σ H _ I h) λus s1 ⟨vs,H1,I1,r1,q1⟩=>?_) hs hs2));obtain⟨l1,l2,e,⟨xs,hx⟩,⟨ys,hy⟩,q⟩:=q1;subst e;cases r1 with
 | cons r rr =>
   cases rr with
   | cons r' rr =>
     cases rr;cases r;cases r';obtain⟨is1,v1,p1⟩:=I1.sqv hx;obtain⟨is2,v2,p2⟩:=I1.sqv hy;refine Cj p1 p2 λh' n hn hz hTI hTO h1 h2 hk=>?_;subst hn;refine wpAny_pyIter_zip hz ?_;refine⟨s1.heap.objs.size+4,[s1.heap.objs.size+4,s1.heap.objs.size+2,s1.heap.objs.size+3,s1.heap.objs.size,s1.heap.objs.size+1],_,_,H1,rfl,I1.kept (t':=s1.toks) hk,Ey b1 b2 _ _ _ _ _ l1 l2 (zipApart_new (cm.lt p1) (cm.lt p2)),⟨hz,hTI,⟨_,_,hTO⟩,h1,h2⟩,λb hb=>?_,q⟩;have hb':s1.heap.objs.size<=b:=by simp only[Jl,Lv,or_false] at hb;rcases hb with e|e|e|e|e <;> rw[e] <;> first|exact JZ _|exact MU _ _
     exact I1.fpOk hb' (I1.hok.fresh hb')
theorem Hi {b1 b2:Bool} {K:W.Frag} {l1 l2:Addr} {xs ys:List V} {g:TG} {tb:TS} {D:cS} {σ:St} {H:Hp} (Pv:Nat->St->Hp->Prop) (h0:Pv 0 σ H) (hl:∀i σ H,i<=min xs.length ys.length->Pv i σ H->fZ b1 K H l1 xs/\fZ b2 K H l2 ys)
   (hs:∀i x y σ H b,xs[i]?=some x->ys[i]?=some y->Pv i σ H->H b=none->g (.ref b) σ (upd H b (.tup [x,y])) λσ2 H2=>tb { D with nx:=Pv (i+1),ct:=Pv (i+1),bk:=D.nx } σ2 H2) (hd:∀σ H,Pv (min xs.length ys.length) σ H->D.nx σ H) :
   ∃W:Nat->Nat->St->Hp->Prop,(∃m,W 0 m σ H)/\∀i m σ H,W i m σ H->((kW K b1 b2 l1 l2).stop i H/\D.nx σ H)\/((kW K b1 b2 l1 l2).go i H/\∃N:St->Hp->Prop,(∀σ' H',N σ' H'->∃m',m'<m/\W (i+1) m' σ' H')/\∀x H',(kW K b1 b2 l1 l2).yld i H x H'->g x σ H' λσ2 H2=>tb { D with nx:=N,ct:=N,bk:=D.nx } σ2 H2):=by
 refine⟨λi m σ H=>m=min xs.length ys.length - i/\i<=min xs.length ys.length/\Pv i σ H,⟨min xs.length ys.length,by simp,Jw _,h0⟩,?_⟩;rintro i m σ H ⟨rfl,hi,p⟩;obtain⟨q1,q2⟩:=hl i σ H hi p;by_cases hlt:i<min xs.length ys.length
 . have l1':i<xs.length:=by omega
   have l2':i<ys.length:=by omega
   refine .inr ⟨⟨xs,ys,xs[i],ys[i],q1,q2,by simp [l1'],by simp [l2']⟩,Pv (i+1),λσ' H' p'=>⟨min xs.length ys.length - (i+1),by omega,rfl,hlt,p'⟩,λx H' y=>?_⟩;obtain⟨b,rfl,hb,y⟩:=y;rw[y xs ys xs[i] ys[i] q1 q2 (by simp [l1']) (by simp [l2'])];exact hs i xs[i] ys[i] σ H b (by simp [l1']) (by simp [l2']) p hb
 . have e:i=min xs.length ys.length:=by omega
   subst e;refine .inl ⟨⟨xs,ys,q1,q2,?_⟩,hd σ H p⟩;rcases Nat.le_total xs.length ys.length with h|h
   . left; rw[LG h]; exact KB (JZ _)
   . right; rw[Lw h]; exact KB (JZ _)
end
structure ClsOk (K:W.Frag) (mg:Str->Option Value) (name:Str) (C:Addr):Prop where
 cl:Cls K C
 g:mg name=some (.ref C)
structure MetOk (K:W.Frag) (C:Addr) (m qual:Str) (st:Stmt) (ps:List Str) (f:Addr) (fd:FuncData):Prop where
 F:Fun K m qual st f fd
 b:gc K fd ps []
 m:Meth K C m f
structure IniOk (K:W.Frag) (C:Addr) (qual:Str) (st:Stmt) (ps:List Str) (f:Addr) (fd:FuncData):Prop where
 F:Fun K "__init__" qual st f fd
 b:gc K fd ps []
 M:Mk K C f
section
variable {X:Cx} {k:Nat} {C f:Addr} {fd:FuncData} {ps:List Str} {sp:Sp} {x m qual:Str} {st:Stmt} {p pos apos:Pos} {o e:Expr} {es:List Expr} {ta:TE} {t:TA}
def DU (Cc:ClsOk X.K X.mg x C) (D:IniOk X.K C qual st ps f fd) (G:FnOk X.prog X.w X.K X.mg X.base CX0 k f fd ps sp) (hr:Room (k+1) X.A) (ha:PA X (e :: es) t) (hg:Gl X x:=by rfl)
   (hdb:(x==("__debug__":Str))=false:=by decide) (he:starEach (e :: es) X.env=(false,eval e X.env) :: starEach es X.env:=by rfl) (hpl:(backTo pos (starEach es X.env)).any (·.1)=false:=by rfl) :
   PE X (.Call (.Name x p) (e :: es) [] pos) (sL C sp [] E0 t):=vN D.M G hr hg Cc.g D.b .nil vz ha hdb he hpl
theorem iS {K:W.Frag} {C:Addr} {m qual:Str} {st:Stmt} {ps:List Str} {f:Addr} {oc:Value} {od an:Option Addr} {osl:Array (Option Value)} {kV doc pm cdv ct:Value}
   (a:PySem.W.findIn K (.ref C) m=some (some (.ref f))) (i:PySem.W.isFn K (.ref f)=true) (l:K.lookup f=some ⟨oc,od,.func (PySem.W.fnOf m qual (fe st) (bN st) (af st) .none kV doc pm an cdv ct),osl⟩) (c:PySem.W.codeIn K cdv qual=true) (k:PySem.W.keepIn K (.ref f)=true)
   (b:∀(kV doc pm:Value) (an:Option Addr) (cdv ct:Value) (us:List Value),us.length=ps.length->bindArgs (PySem.W.fnOf m qual (fe st) (bN st) (af st) .none kV doc pm an cdv ct) ⟨us,[]⟩=pure (ps.zip us)) :
   MetOk K C m qual st ps f (PySem.W.fnOf m qual (fe st) (bN st) (af st) .none kV doc pm an cdv ct) :=
 ⟨kN l c k,(kN l c k).binds b,⟨a,i,k⟩⟩
theorem vL {K:W.Frag} {C:Addr} {qual:Str} {st:Stmt} {ps:List Str} {f:Addr} {oc:Value} {od an:Option Addr} {osl:Array (Option Value)} {kV doc pm cdv ct:Value}
   (mk:PySem.W.makesIn K C=true) (kc:PySem.W.keepIn K (.ref C)=true) (a:PySem.W.findIn K (.ref C) "__init__"=some (some (.ref f))) (i:PySem.W.isFn K (.ref f)=true) (l:K.lookup f=some ⟨oc,od,.func (PySem.W.fnOf "__init__" qual (fe st) (bN st) (af st) .none kV doc pm an cdv ct),osl⟩) (c:PySem.W.codeIn K cdv qual=true) (k:PySem.W.keepIn K (.ref f)=true)
   (b:∀(kV doc pm:Value) (an:Option Addr) (cdv ct:Value) (us:List Value),us.length=ps.length->bindArgs (PySem.W.fnOf "__init__" qual (fe st) (bN st) (af st) .none kV doc pm an cdv ct) ⟨us,[]⟩=pure (ps.zip us)) :
   IniOk K C qual st ps f (PySem.W.fnOf "__init__" qual (fe st) (bN st) (af st) .none kV doc pm an cdv ct) :=
 ⟨kN l c k,(kN l c k).binds b,⟨mk,a,i,kc⟩⟩
end
def eG {A:Around} (h:A.units+64<cLine):A.units+1<cLine:=by omega
end L2
namespace K12
open PySem L2
def step (acc:List Str) (s:Str):List Str:=if s∈acc then acc else acc++[s]
def onceL (ss:List Str):List Str:=ss.foldl step []
def fU (as:List V):List Str:=as.filterMap λv=>match v with | .str s=>some s|_=>none
def Cw (a b:List V):fU (a++b)=fU a++fU b:=List.filterMap_append ..
def BA (i:Int):fU [.int i]=[]:=rfl
def FN (acc:List Str) (s:Str):∀x∈acc,x∈step acc s:=λx hx=>by
 unfold step;split
 . exact hx
 . exact Ly _ hx
def BR (acc:List Str) (s:Str):s∈step acc s:=by
 unfold step;split
 . assumption
 . exact K7 _ (by simp)
theorem yU:∀(ss acc:List Str),∀x∈acc,x∈ss.foldl step acc
 | [],acc,x,hx=>hx
 | s :: ss,acc,x,hx=>yU ss _ x (FN acc s x hx)
theorem zR:∀(ss acc:List Str),∀x∈ss,x∈ss.foldl step acc
 | s :: ss,acc,x,hx=>by
   rcases Jl.mp hx with e|e
   . subst e;exact yU ss _ _ (BR acc _)
   . exact zR ss _ x e
theorem vF:∀(B:List Str) (acc C:List Str),(B.foldl step C).foldl step acc=B.foldl step (C.foldl step acc)
 | [],acc,C=>rfl
 | s :: B,acc,C=>by
   rw[LP,vF B acc (step C s),LP];congr 1;unfold step;by_cases h:s∈C
   . rw[Je h];have h2:s∈C.foldl step acc:=zR C acc s h;have h2':s∈List.foldl (λacc s=>if s∈acc then acc else acc++[s]) acc C:=h2;rw[Je h2']
   . rw[Ja h,KZ];rfl
def F0 (A B C:List Str):onceL (A++onceL B++C)=onceL (A++B++C):=by unfold onceL;rw[KZ,KZ,KZ,KZ];have e:=vF B (A.foldl step []) [];rw[e];rfl
def En (acc:List Str) (s:Str):(step acc s).length<=acc.length+1:=by
 unfold step;split
 . omega
 . simp
def IS (ss:List Str):(onceL ss).length<=ss.length:=by
 have key:∀(ss acc:List Str),(ss.foldl step acc).length<=acc.length+ss.length:=by
   intro ss
   induction ss with
   | nil=>intro acc; simp
   | cons s ss ih =>
     intro acc;have h1:=ih (step acc s);have h2:=En acc s;rw[LP];simp only[JY];omega
 have:=key ss [];unfold onceL;simpa using this
def dE (ss:List Str):List (aM×V):=ss.map λs=>(Sum.inr s,V.bl true)
def J4 (acc:List Str) (s:Str):al (dE acc) (Sum.inr s) (.bl true)=dE (step acc s):=by
 unfold al step;have e:((dE acc).any λkv=>decide (kv.1=(Sum.inr s:aM)))=decide (s∈acc):=by
   unfold dE;rw[List.any_map];rw[KP,List.any_eq_true];simp only[Function.comp,Jg];constructor
   . rintro ⟨x,hx,h⟩;have:x=s:=Sum.inr.inj h;rw[<- this];exact hx
   . intro h;exact⟨s,h,rfl⟩
 rw[e];by_cases h:s∈acc
 . rw[K3 h,Je rfl,Je h];unfold dE;rw[KJ];apply KS;intro x _;show(if(Sum.inr x:aM)=Sum.inr s then((Sum.inr x:aM),V.bl true) else(Sum.inr x,V.bl true))=_;split <;> rfl
 . rw[KF h,Ja (by decide),Ja h];unfold dE;rw[Jf];rfl
theorem vZ:∀(ss acc:List Str),(dE ss).foldl (λacc kv=>al acc kv.1 kv.2) (dE acc)=dE (ss.foldl step acc)
 | [],acc=>rfl
 | s :: ss,acc=>by show(dE ss).foldl _ (al (dE acc) (Sum.inr s) (.bl true))=_;rw[J4];exact vZ ss (step acc s)
def D4 (ss:List Str):(dE ss).foldl (λacc kv=>al acc kv.1 kv.2) []=dE (onceL ss):=vZ ss []
def FP (ss:List Str):((dE ss).map λkv=>kV kv.1)=ss.map V.str:=by unfold dE;rw[KJ];rfl
def DY {K:W.Frag} {H:Hp} {a q:Addr} {xs l l':List V} (h:aI K H a xs) (hq:H q=some (.lst l)):aI K (upd H q (.lst l')) a xs:=by
 rcases h with(h|⟨o,h⟩)|h
 . exact .inl (.inl (by rw[aQ (jw h hq (by intro z; cases z))]; exact h))
 . exact .inl (.inr ⟨o,by rw[aQ (jw h hq (by intro z; cases z))]; exact h⟩)
 . exact .inr h
def Nm (s:Str):Prop:=s.length<=1000/\PyData.strOk s=true
end K12
namespace K12
open PySem L2 PySem.W PyProof.Rows
inductive RowS (K:W.Frag) (H:Hp):List V->Option Str->List V->Prop
 | copy (x:Str) (a:V):RowS K H [.str "copy",.str x,a] (some x) [a]
 | op (x s:Str) (a b:V):RowS K H [.str "op",.str x,.str s,a,b] (some x) [a,b]
 | new (x:Str):RowS K H [.str "new",.str x] (some x) []
 | get (x:Str) (a:V) (f:Str):RowS K H [.str "get",.str x,a,.str f] (some x) [a]
 | put (a:V) (f:Str) (b:V):RowS K H [.str "put",a,.str f,b] none [a,b]
 | call (x f:Str) (p:Addr) (as:List V):aI K H p as->RowS K H [.str "call",.str x,.str f,.ref p] (some x) as
 | out (a:V):RowS K H [.str "out",a] none [a]
 | back (a:V):RowS K H [.str "back",a] none [a]
 | ifs (a:V):RowS K H [.str "if",a] none [a]
 | whl (a:V):RowS K H [.str "while",a] none [a]
 | els:RowS K H [.str "else"] none []
 | fin:RowS K H [.str "end"] none []
def RowS.mono {K:W.Frag} {H H':Hp} {xs:List V} {g:Option Str} {as:List V} (h:RowS K H xs g as) (e:Same H H'):RowS K H' xs g as:=by
 cases h with
 | call x f p as hp=>exact .call x f p as (e.tup hp)
 | copy x a=>exact .copy x a
 | op x s a b=>exact .op x s a b
 | new x=>exact .new x
 | get x a f=>exact .get x a f
 | put a f b=>exact .put a f b
 | out a=>exact .out a
 | back a=>exact .back a
 | ifs a=>exact .ifs a
 | whl a=>exact .whl a
 | els=>exact .els
 | fin=>exact .fin
def tabl:List (Str×List V):=[("copy",[.int 2]),("op",[.int 3,.int 4]),("new",[]),("get",[.int 2]),("put",[.int 1,.int 3]),("out",[.int 1]),("back",[.int 1]),("if",[.int 1]),("while",[.int 1]),("else",[]),("end",[])]
def giving:List Str:=["copy","op","new","get","call"]
theorem C1 {K:W.Frag} {H:Hp} {xs:List V} {g:Option Str} {as:List V} (h:RowS K H xs g as):∃kd:Str,bS xs 0=some (.str kd) /\
   ((kd="call"/\∃p,bS xs 3=some (.ref p)/\aI K H p as)\/(kd≠"call"/\∃pl:List Int,KTD.datumAt kd tabl=some (pl.map V.int)/\pl.length=as.length/\∀(i:Nat) (a:V),as[i]?=some a->∃p,pl[i]?=some p/\bS xs p=some a)):=by
 cases h with
 | call x f p as hp=>exact⟨"call",rfl,.inl ⟨rfl,p,rfl,hp⟩⟩
 | copy x a=>exact⟨"copy",rfl,.inr ⟨by decide +kernel,[2],by decide +kernel,rfl,λi a' e=>by match i,e with|0,e=>exact⟨2,rfl,e⟩⟩⟩
 | op x s a b=>exact⟨"op",rfl,.inr ⟨by decide +kernel,[3,4],by decide +kernel,rfl,λi a' e=>by match i,e with|0,e=>exact⟨3,rfl,e⟩|1,e=>exact⟨4,rfl,e⟩⟩⟩
 | new x=>exact⟨"new",rfl,.inr ⟨by decide +kernel,[],by decide +kernel,rfl,λi a' e=>by simp at e⟩⟩
 | get x a f=>exact⟨"get",rfl,.inr ⟨by decide +kernel,[2],by decide +kernel,rfl,λi a' e=>by match i,e with|0,e=>exact⟨2,rfl,e⟩⟩⟩
 | put a f b=>exact⟨"put",rfl,.inr ⟨by decide +kernel,[1,3],by decide +kernel,rfl,λi a' e=>by match i,e with|0,e=>exact⟨1,rfl,e⟩|1,e=>exact⟨3,rfl,e⟩⟩⟩
 | out a=>exact⟨"out",rfl,.inr ⟨by decide +kernel,[1],by decide +kernel,rfl,λi a' e=>by match i,e with|0,e=>exact⟨1,rfl,e⟩⟩⟩
 | back a=>exact⟨"back",rfl,.inr ⟨by decide +kernel,[1],by decide +kernel,rfl,λi a' e=>by match i,e with|0,e=>exact⟨1,rfl,e⟩⟩⟩
 | ifs a=>exact⟨"if",rfl,.inr ⟨by decide +kernel,[1],by decide +kernel,rfl,λi a' e=>by match i,e with|0,e=>exact⟨1,rfl,e⟩⟩⟩
 | whl a=>exact⟨"while",rfl,.inr ⟨by decide +kernel,[1],by decide +kernel,rfl,λi a' e=>by match i,e with|0,e=>exact⟨1,rfl,e⟩⟩⟩
 | els=>exact⟨"else",rfl,.inr ⟨by decide +kernel,[],by decide +kernel,rfl,λi a' e=>by simp at e⟩⟩
 | fin=>exact⟨"end",rfl,.inr ⟨by decide +kernel,[],by decide +kernel,rfl,λi a' e=>by simp at e⟩⟩
def xv:Option Str->V
 | some x=>.str x
 | none=>.non
theorem Dw {K:W.Frag} {H:Hp} {xs:List V} {g:Option Str} {as:List V} (h:RowS K H xs g as):∃kd:Str,bS xs 0=some (.str kd) /\
   ((∃x,g=some x/\fS (.str kd) (giving.map V.str)=true/\bS xs 1=some (.str x))\/(g=none/\fS (.str kd) (giving.map V.str)=false)):=by
 cases h with
 | call x f p as hp=>exact⟨"call",rfl,.inl ⟨x,rfl,by decide +kernel,rfl⟩⟩
 | copy x a=>exact⟨"copy",rfl,.inl ⟨x,rfl,by decide +kernel,rfl⟩⟩
 | op x s a b=>exact⟨"op",rfl,.inl ⟨x,rfl,by decide +kernel,rfl⟩⟩
 | new x=>exact⟨"new",rfl,.inl ⟨x,rfl,by decide +kernel,rfl⟩⟩
 | get x a f=>exact⟨"get",rfl,.inl ⟨x,rfl,by decide +kernel,rfl⟩⟩
 | put a f b=>exact⟨"put",rfl,.inr ⟨rfl,by decide +kernel⟩⟩
 | out a=>exact⟨"out",rfl,.inr ⟨rfl,by decide +kernel⟩⟩
 | back a=>exact⟨"back",rfl,.inr ⟨rfl,by decide +kernel⟩⟩
 | ifs a=>exact⟨"if",rfl,.inr ⟨rfl,by decide +kernel⟩⟩
 | whl a=>exact⟨"while",rfl,.inr ⟨rfl,by decide +kernel⟩⟩
 | els=>exact⟨"else",rfl,.inr ⟨rfl,by decide +kernel⟩⟩
 | fin=>exact⟨"end",rfl,.inr ⟨rfl,by decide +kernel⟩⟩
def BC:(giving.map V.str).all iK=true:=by decide +kernel
def Atom (v:V):Prop:=(∃s,v=.str s/\Nm s)\/∃i,v=.int i
structure RowD where
 r:Addr
 e:Addr
 a:Addr
 gx:Option Str
 as:List V
structure RowAt (K:W.Frag) (H:Hp) (d:RowD):Prop where
 row:∃xs,aI K H d.r xs/\RowS K H xs d.gx d.as
 ats:∀v∈d.as,Atom v
 len:d.as.length<=10
 nm:∀x,d.gx=some x->Nm x
def RowAt.mono {K:W.Frag} {H H':Hp} {d:RowD} (h:RowAt K H d) (e:Same H H'):RowAt K H' d :=
 ⟨let ⟨xs,h1,h2⟩:=h.row; ⟨xs,e.tup h1,h2.mono e⟩,h.ats,h.len,h.nm⟩
structure FunAt (K:W.Frag) (H:Hp) (f:Addr) (ps:List Str) (ds:List RowD):Prop where
 fn:∃n b p r,aI K H f [n,b,.ref p,.ref r]/\aI K H p (ps.map V.str)/\aI K H r (ds.map λd=>V.ref d.r)
 rows:∀d∈ds,RowAt K H d
 pn:∀s∈ps,Nm s
 pl:ps.length<=100
 dl:ds.length<=100
def FunAt.mono {K:W.Frag} {H H':Hp} {f:Addr} {ps:List Str} {ds:List RowD} (h:FunAt K H f ps ds) (e:Same H H'):FunAt K H' f ps ds :=
 ⟨let ⟨n,b,p,r,h1,h2,h3⟩:=h.fn; ⟨n,b,p,r,e.tup h1,e.tup h2,e.tup h3⟩,λd hd=>(h.rows d hd).mono e,h.pn,h.pl,h.dl⟩
def rowStrs (d:RowD):List Str:=d.gx.toList++fU d.as
def allOf (ps:List Str) (ds:List RowD):List Str:=ps++ds.flatMap rowStrs
def sW (as:List V):(fU as).length<=as.length:=List.length_filterMap_le _ _
end K12
namespace K12
open PySem L2
section
variable {P:Program} {w:World} {K:W.Frag} {mg:Str->Option Value} {base:Heap}
def Gives (H:Hp) (Q:VK) (vs:List V):Prop:=∀l H',Same H H'->H l=none->H' l=some (.lst vs)->Q (.ref l) H'
def sp_gives (K:W.Frag):Sp:=λvs H Q _=>∃(r:Addr) (xs:List V) (g:Option Str) (as:List V),vs=[.ref r]/\aI K H r xs/\RowS K H xs g as/\Q (xv g) H
def sp_atoms_of (K:W.Frag):Sp:=λvs H Q _=>∃(r:Addr) (xs:List V) (g:Option Str) (as:List V),vs=[.ref r]/\aI K H r xs/\RowS K H xs g as/\as.length<=10/\Gives H Q as
def sp_each_once (K:W.Frag):Sp:=λvs H Q _=>∃(p:Addr) (ss:List Str),vs=[.ref p]/\aG K H p (ss.map V.str)/\ss.length<=5000/\Gives H Q ((onceL ss).map V.str)
def sp_reads (K:W.Frag):Sp:=λvs H Q _=>∃(r:Addr) (xs:List V) (g:Option Str) (as:List V),vs=[.ref r]/\aI K H r xs/\RowS K H xs g as/\as.length<=10/\(∀v∈as,Atom v)/\Gives H Q ((onceL (fU as)).map V.str)
def sp_names_of (K:W.Frag):Sp:=λvs H Q _=>∃(f:Addr) (ps:List Str) (ds:List RowD),vs=[.ref f]/\FunAt K H f ps ds/\Gives H Q ((onceL (allOf ps ds)).map V.str)
def bT {n:Nat} (h:n<1000000):n<=sizeLine:=by
 have:(1000000:Nat)<sizeLine:=by decide
 omega
def gu {n:Nat} (h:n<1000000):n<sizeLine:=by
 have:(1000000:Nat)<sizeLine:=by decide
 omega
def ut {fs P G B:List Str} (h:onceL fs=onceL P):onceL (fs++G++onceL B)=onceL (P++(G++B)):=by have e:=F0 (fs++G) B [];rw[Jv,Jv] at e;rw[e,Jm];unfold onceL at h ⊢;rw[KZ,h,<- KZ]
def lets:Str:="abcdefghijklmnopqrstuvwxyz"
def lets_ok:PyData.strOk lets=true:=by decide +kernel
end
end K12
namespace K13
open PySem L2
def isO (s:Str):Bool:=decide (s="if") || decide (s="while")
def isE (s:Str):Bool:=decide (s="else") || decide (s="end")
def push (st:List Nat) (i:Nat) (s:Str):List Nat:=if isO s=true then i :: st else if s="end" then st.tail else st
def kd (ks:List Str) (i:Nat):Str:=ks.getD i ""
def stk (ks:List Str):Nat->List Nat
 | 0=>[]
 | i+1=>push (stk ks i) i (kd ks i)
def fW (ks:List Str) (i:Nat):stk ks (i+1)=push (stk ks i) i (kd ks i):=rfl
theorem iw (ks:List Str):∀i,∀x∈stk ks i,x<i/\isO (kd ks x)=true
 | 0,x,h=>by cases h
 | i+1,x,h=>by
   rw[fW] at h;unfold push at h;split at h
   . rcases Jl.mp h with e|e
     . subst e;exact⟨Km _,by assumption⟩
     . have:=iw ks i x e;exact⟨by omega,this.2⟩
   . split at h
     . have:=iw ks i x (List.mem_of_mem_tail h);exact⟨by omega,this.2⟩
     . have:=iw ks i x h;exact⟨by omega,this.2⟩
variable {s:Str}
def DK (h:isO s=true):¬ s="end":=by intro e;subst e;revert h;decide +kernel
def uH (h:isO s=true):¬ s="else":=by intro e;subst e;revert h;decide +kernel
def wT:isO ("end":Str)=false:=by decide +kernel
structure Wf (ks:List Str):Prop where
 open_:∀i,i<ks.length->isE (kd ks i)=true->stk ks i≠[]
 els:∀i b r,i<ks.length->kd ks i="else"->stk ks i=b :: r->kd ks b="if"
 shut:stk ks ks.length=[]
 last:∀i,i+1=ks.length->kd ks i="back"
 pos:0<ks.length
def At (ks:List Str) (b j d:Nat):Prop:=∃pre,stk ks j=pre++b :: stk ks b/\pre.length+1=d
variable {ks:List Str} {b:Nat}
def xb (h:isO (kd ks b)=true):At ks b (b+1) 1:=⟨[],by rw[fW]; unfold push; rw[Je h]; rfl,rfl⟩
variable {j d:Nat}
def GL (h:At ks b j d) (ho:isO (kd ks j)=true):At ks b (j+1) (d+1):=by obtain⟨pre,e,l⟩:=h;exact⟨j :: pre,by rw[fW]; unfold push; rw[Je ho,e]; rfl,by simp [l]⟩
def F1 (h:At ks b j (d+1)) (hd:0<d) (he:kd ks j="end"):At ks b (j+1) d:=by
 obtain⟨pre,e,l⟩:=h;cases pre with
 | nil=>simp at l; omega
 | cons p pre =>
   refine⟨pre,?_,by simpa using l⟩;rw[fW];unfold push;rw[he,Ja (by rw[wT]; decide),Je rfl,e];rfl
def DJ (h:At ks b j d) (ho:¬ isO (kd ks j)=true) (he:¬ kd ks j="end"):At ks b (j+1) d:=by obtain⟨pre,e,l⟩:=h;exact⟨pre,by rw[fW]; unfold push; rw[Ja ho,Ja he,e],l⟩
def FY (h:At ks b j 1):stk ks j=b :: stk ks b:=by
 obtain⟨pre,e,l⟩:=h;cases pre with
 | nil=>exact e
 | cons p pre=>simp at l
def ur (w:Wf ks) (h:At ks b j d) (hj:j<=ks.length):j<ks.length:=by
 rcases KO j ks.length with q|q
 . exact q
 . have e:j=ks.length:=by omega
   subst e;obtain⟨pre,e,_⟩:=h;rw[w.shut] at e;simp at e
def Fc (h:At ks b j d):0<d:=by obtain⟨pre,_,l⟩:=h;omega
def cS (ks:List Str) (b e:Nat):Prop:=b<e/\e<ks.length/\kd ks e="end"/\stk ks e=b :: stk ks b/\∀j,b<j->j<=e->∃d,At ks b j d
theorem uc {ks:List Str} (w:Wf ks) {b:Nat}:∀(m j d:Nat),m=ks.length - j->j<=ks.length->b<j->(∀i,b<i->i<=j->∃d,At ks b i d)->At ks b j d->∃e,j<=e/\cS ks b e
 | 0,j,d,hm,hj,hb,hall,h=>absurd (ur w h hj) (by omega)
 | m+1,j,d,hm,hj,hb,hall,h=>by
   have hlt:=ur w h hj;have go:∀d',At ks b (j+1) d'->∃e,j<=e/\cS ks b e:=λd' h'=>by
     obtain⟨e,he,q⟩:=uc w m (j+1) d' (by omega) (by omega) (by omega) (λi h1 h2=>by
       rcases KO j i with z|z
       . have:i=j+1:=by omega
         subst this;exact⟨d',h'⟩
       . exact hall i h1 z) h'
     exact⟨e,by omega,q⟩
   by_cases ho:isO (kd ks j)=true
   . exact go _ (GL h ho)
   by_cases he:kd ks j="end"
   . have hp:=Fc h;by_cases hd:d=1
     . subst hd;exact⟨j,JZ _,hb,hlt,he,FY h,hall⟩
     . obtain⟨d',rfl⟩:∃d',d=d'+1:=⟨d - 1,by omega⟩
       exact go _ (F1 h (by omega) he)
   . exact go _ (DJ h ho he)
def yH (w:Wf ks) (hb:b<ks.length) (ho:isO (kd ks b)=true):∃e,cS ks b e:=by
 obtain⟨e,_,h⟩:=uc w (ks.length - (b+1)) (b+1) 1 rfl (by omega) (by omega) (λi h1 h2=>by
   have:i=b+1:=by omega
   subst this;exact⟨1,xb ho⟩) (xb ho)
 exact⟨e,h⟩
def dR (ks:List Str) (b k:Nat):Prop:=isE (kd ks k)=true/\(stk ks k).head?=some b
def sP {k:Nat}(h:dR ks b k):b<k/\isO (kd ks b)=true:=iw ks k b (List.mem_of_mem_head? h.2)
variable {e:Nat}
def tN (h:cS ks b e):dR ks b e:=by
 refine⟨?_,?_⟩
 . rw[h.2.2.1]; decide +kernel
 . rw[h.2.2.2.1]; rfl
theorem yS {ks:List Str} {b e:Nat} (h:cS ks b e):∀j,e<j->b ∉ stk ks j
 | 0,hj,_=>by omega
 | j+1,hj,hm=>by
   rcases KO e j with q|q
   . have ih:=yS h j q;rw[fW] at hm;unfold push at hm;split at hm
     . rcases Jl.mp hm with z|z
       . have:=h.1;omega
       . exact ih z
     . split at hm
       . exact ih (List.mem_of_mem_tail hm)
       . exact ih hm
   . have e1:j=e:=by omega
     subst e1;rw[fW] at hm;unfold push at hm;rw[h.2.2.1,Ja (by rw[wT]; decide),Je rfl,h.2.2.2.1] at hm;have:=(iw ks b b hm).1;omega
def yf {k:Nat}(h:cS ks b e) (hk:dR ks b k):k<=e:=by
 rcases KO e k with q|q
 . exact absurd (List.mem_of_mem_head? hk.2) (yS h k q)
 . exact q
def one (ks:List Str) (i:Nat):List (Nat×Nat):=if isE (kd ks i)=true then(match stk ks i with | []=>[] | b :: _=>[(i,b)]) else []
def bZ (ks:List Str):Nat->List (Nat×Nat)
 | 0=>[]
 | i+1=>bZ ks i++one ks i
def gb (L:List (Nat×Nat)) (b:Nat):Option Nat:=L.foldl (λacc p=>if p.2=b then some p.1 else acc) none
def dD (L:List (Nat×Nat)) (b:Nat):Option Nat:=L.foldl (λacc p=>if acc.isSome=true then acc else if p.2=b then some p.1 else none) none
def jy (ks:List Str) (i:Nat):(∃b,one ks i=[(i,b)]/\dR ks b i)\/(one ks i=[]/\∀b,¬ dR ks b i):=by
 unfold one dR;by_cases h:isE (kd ks i)=true
 . rw[Je h];cases q:stk ks i with
   | nil=>exact .inr ⟨rfl,λb z=>by simp at z⟩
   | cons b r=>exact .inl ⟨b,rfl,h,rfl⟩
 . rw[Ja h];exact .inr ⟨rfl,λb z=>h z.1⟩
def yF (L:List (Nat×Nat)) (p:Nat×Nat) (b:Nat):gb (L++[p]) b=if p.2=b then some p.1 else gb L b:=by unfold gb; rw[KZ]; rfl
def xk (L:List (Nat×Nat)) (p:Nat×Nat) (b:Nat):dD (L++[p]) b=if(dD L b).isSome=true then dD L b else if p.2=b then some p.1 else none:=by unfold dD; rw[KZ]; rfl
def pZ {b' k:Nat}(h:dR ks b k) (h':dR ks b' k):b=b':=by have:=h.2.symm.trans h'.2;simpa using this
theorem yz (ks:List Str) (b:Nat):∀i,(∀m,gb (bZ ks i) b=some m->m<i/\dR ks b m/\∀k,m<k->k<i->¬ dR ks b k)/\(gb (bZ ks i) b=none->∀k,k<i->¬ dR ks b k)
 | 0=>⟨λm h=>(by cases h),λ_ k hk=>(by omega)⟩
 | i+1=>by
   obtain⟨ih1,ih2⟩:=yz ks b i;show(∀m,gb (bZ ks i++one ks i) b=some m->_)/\(gb (bZ ks i++one ks i) b=none->_)
   rcases jy ks i with⟨b',e,hh⟩|⟨e,hn⟩
   . rw[e,yF];by_cases hb:b'=b
     . rw[Je hb];subst hb;exact⟨λm h=>by cases h; exact⟨Km _,hh,λk h1 h2=>by omega⟩,λh=>by cases h⟩
     . rw[Ja hb];refine⟨λm h=>?_,λh k hk=>?_⟩
       . obtain⟨h1,h2,h3⟩:=ih1 m h;refine⟨by omega,h2,λk q1 q2 hk=>?_⟩;rcases KO k i with z|z
         . exact h3 k q1 z hk
         . have:k=i:=by omega
           subst this;exact hb (pZ hh hk)
       . intro hk';rcases KO k i with z|z
         . exact ih2 h k z hk'
         . have:k=i:=by omega
           subst this;exact hb (pZ hh hk')
   . rw[e,Jv];refine⟨λm h=>?_,λh k hk hk'=>?_⟩
     . obtain⟨h1,h2,h3⟩:=ih1 m h;refine⟨by omega,h2,λk q1 q2 hk=>?_⟩;rcases KO k i with z|z
       . exact h3 k q1 z hk
       . have:k=i:=by omega
         subst this;exact hn b hk
     . rcases KO k i with z|z
       . exact ih2 h k z hk'
       . have:k=i:=by omega
         subst this;exact hn b hk'
theorem oq (ks:List Str) (b:Nat):∀i,(∀m,dD (bZ ks i) b=some m->m<i/\dR ks b m/\∀k,k<m->¬ dR ks b k)/\(dD (bZ ks i) b=none->∀k,k<i->¬ dR ks b k)
 | 0=>⟨λm h=>(by cases h),λ_ k hk=>(by omega)⟩
 | i+1=>by
   obtain⟨ih1,ih2⟩:=oq ks b i;show(∀m,dD (bZ ks i++one ks i) b=some m->_)/\(dD (bZ ks i++one ks i) b=none->_)
   rcases jy ks i with⟨b',e,hh⟩|⟨e,hn⟩
   . rw[e,xk];cases hf:dD (bZ ks i) b with
     | some m0 =>
       rw[Je (show(some m0).isSome=true from rfl)];obtain⟨h1,h2,h3⟩:=ih1 m0 hf;exact⟨λm h=>by cases h; exact⟨by omega,h2,h3⟩,λh=>by cases h⟩
     | none =>
       rw[Ja (show ¬ (none:Option Nat).isSome=true by decide)];have hno:=ih2 hf;by_cases hb:b'=b
       . rw[Je hb];subst hb;exact⟨λm h=>by cases h; exact⟨Km _,hh,λk hk=>hno k hk⟩,λh=>by cases h⟩
       . rw[Ja hb];refine⟨λm h=>(by cases h),λ_ k hk hk'=>?_⟩;rcases KO k i with z|z
         . exact hno k z hk'
         . have:k=i:=by omega
           subst this;exact hb (pZ hh hk')
   . rw[e,Jv];refine⟨λm h=>?_,λh k hk hk'=>?_⟩
     . obtain⟨h1,h2,h3⟩:=ih1 m h;exact⟨by omega,h2,h3⟩
     . rcases KO k i with z|z
       . exact ih2 h k z hk'
       . have:k=i:=by omega
         subst this;exact hn b hk'
def Dh (h:cS ks b e):gb (bZ ks ks.length) b=some e:=by
 obtain⟨h1,h2⟩:=yz ks b ks.length;cases q:gb (bZ ks ks.length) b with
 | none=>exact absurd (tN h) (h2 q e h.2.1)
 | some m =>
   obtain⟨q1,q2,q3⟩:=h1 m q;have:=yf h q2;rcases KO m e with z|z
   . exact absurd (tN h) (q3 e z h.2.1)
   . have:m=e:=by omega
     rw[this]
def jm (ks:List Str) (b f:Nat):Prop:=f<ks.length/\dR ks b f/\∀k,k<f->¬ dR ks b k
def B3 {f f':Nat}(h:jm ks b f) (h':jm ks b f'):f=f':=by
 rcases Nat.lt_trichotomy f f' with z|z|z
 . exact absurd h.2.1 (h'.2.2 f z)
 . exact z
 . exact absurd h'.2.1 (h.2.2 f' z)
def BD {f:Nat}(h:jm ks b f):dD (bZ ks ks.length) b=some f:=by
 obtain⟨h1,h2⟩:=oq ks b ks.length;cases q:dD (bZ ks ks.length) b with
 | none=>exact absurd h.2.1 (h2 q f h.1)
 | some m =>
   obtain⟨q1,q2,q3⟩:=h1 m q;rw[B3 (⟨q1,q2,q3⟩:jm ks b m) h]
def Iq (h:¬ isO (kd ks b)=true):dD (bZ ks ks.length) b=none:=by
 obtain⟨h1,h2⟩:=oq ks b ks.length;cases q:dD (bZ ks ks.length) b with
 | none=>rfl
 | some m=>exact absurd (sP (h1 m q).2.1).2 h
inductive Beh (ks:List Str):Nat->Nat->Prop
 | els {k b e r:Nat}:kd ks (k+1)="else"->(stk ks (k+1)).head?=some b->cS ks b e->Beh ks e r->Beh ks k r
 | whl {k b:Nat}:kd ks (k+1)="end"->(stk ks (k+1)).head?=some b->kd ks b="while"->Beh ks k b
 | fin {k b r:Nat}:kd ks (k+1)="end"->(stk ks (k+1)).head?=some b->¬ kd ks b="while"->Beh ks (k+1) r->Beh ks k r
 | oth {k:Nat}:¬ kd ks (k+1)="else"->¬ kd ks (k+1)="end"->Beh ks k (k+1)
def sY:¬ (("else":Str)="end"):=by decide +kernel
def xJ:¬ (("back":Str)="else")/\¬ (("back":Str)="end"):=by decide +kernel
def xi (h:isO s=true):¬ isE s=true:=by unfold isE;rw[KF (uH h),KF (DK h)];decide
def CJ (h1:¬ s="else") (h2:¬ s="end"):¬ isE s=true:=by unfold isE;rw[KF h1,KF h2];decide
inductive Due (ks:List Str):Nat->Option (List Nat)->Prop
 | no {k:Nat}:isE (kd ks k)=true->Due ks k none
 | back {k:Nat}:kd ks k="back"->Due ks k (some [])
 | two {k f r1 r2:Nat}:isO (kd ks k)=true->jm ks k f->Beh ks k r1->Beh ks f r2->Due ks k (some [r1,r2])
 | one {k r:Nat}:¬ isE (kd ks k)=true->¬ kd ks k="back"->¬ isO (kd ks k)=true->Beh ks k r->Due ks k (some [r])
def yn:¬ isE ("back":Str)=true:=by decide +kernel
def Eu:¬ isO ("back":Str)=true:=by decide +kernel
def HC (h:cS ks b e):∃f,jm ks b f:=by
 obtain⟨h1,h2⟩:=oq ks b ks.length;cases q:dD (bZ ks ks.length) b with
 | none=>exact absurd (tN h) (h2 q e h.2.1)
 | some m =>
   obtain⟨q1,q2,q3⟩:=h1 m q;exact⟨m,q1,q2,q3⟩
def uq (w:Wf ks) {k:Nat} (hk:k<ks.length) (h:¬ kd ks k="back"):k+1<ks.length:=by
 rcases KO (k+1) ks.length with z|z
 . exact z
 . exact absurd (w.last k (by omega)) h
def IV (w:Wf ks) {f:Nat}(h:jm ks b f):f+1<ks.length:=by refine uq w h.1 λz=>?_;have:=h.2.1.1;rw[z] at this;exact yn this
variable {i:Nat}
def kJ {ys:List Str}(h:i<ks.length):kd (ks++ys) i=kd ks i:=by unfold kd;rw[JU,JU,KN h]
def Ht (ks ys:List Str) (i:Nat):kd (ks++ys) (ks.length+i)=kd ys i:=by unfold kd;rw[JU,JU,K9 (MU _ _),Md]
def mx (ks:List Str) (x:Str):kd (ks++[x]) ks.length=x:=by have:=Ht ks [x] 0;rw[Nat.add_zero] at this;rw[this];rfl
theorem pq (ks ys:List Str):∀i,i<=ks.length->stk (ks++ys) i=stk ks i
 | 0,_=>rfl
 | i+1,h=>by rw[fW,fW,pq ks ys i (by omega),kJ (by omega)]
structure Good (ks os:List Str):Prop where
 open_:∀i,i<ks.length->isE (kd ks i)=true->stk ks i≠[]
 els:∀i b r,i<ks.length->kd ks i="else"->stk ks i=b :: r->kd ks b="if"
 len:(stk ks ks.length).length=os.length
 mt:∀(i b:Nat),(stk ks ks.length)[i]?=some b->os[i]?=some "if"->kd ks b="if"
def good_nil:Good [] []:=⟨λi h=>absurd h (KW i),λi _ _ h=>absurd h (KW i),rfl,λi b h=>by cases h⟩
def zQ (ks:List Str) (x:Str):stk (ks++[x]) (ks++[x]).length=push (stk ks ks.length) ks.length x:=by rw[JS];show stk (ks++[x]) (ks.length+1)=_;rw[fW,pq _ _ _ (JZ _),mx]
variable {os:List Str}
theorem Good.snoc {os':List Str}{x:Str} (g:Good ks os) (ho:isE x=true->os≠[]) (he:x="else"->∃r,os=("if":Str) :: r)
   (hl:(push (stk ks ks.length) ks.length x).length=os'.length) (hm:∀(i b:Nat),(push (stk ks ks.length) ks.length x)[i]?=some b->os'[i]?=some "if"->kd (ks++[x]) b="if"):Good (ks++[x]) os':=by
 have hn:(ks++[x]).length=ks.length+1:=by rw[JS]; rfl
 refine⟨λi h hE=>?_,λi b r h hE hs=>?_,by rw[zQ]; exact hl,by rw[zQ]; exact hm⟩
 . rw[pq _ _ _ (by omega)];rcases KO i ks.length with z|z
   . rw[kJ z] at hE;exact g.open_ i z hE
   . have:i=ks.length:=by omega
     subst this;rw[mx] at hE;intro e;have:=g.len;rw[e] at this;exact ho hE (Kq.mp this.symm)
 . rw[pq _ _ _ (by omega)] at hs;rcases KO i ks.length with z|z
   . rw[kJ z] at hE;have hb:=(iw ks i b (by rw[hs]; exact KA)).1;rw[kJ (by omega)];exact g.els i b r z hE hs
   . have:i=ks.length:=by omega
     subst this;rw[mx] at hE;obtain⟨r',e⟩:=he hE;have hb:=(iw ks ks.length b (by rw[hs]; exact KA)).1;rw[kJ hb];exact g.mt 0 b (by rw[hs]; rfl) (by rw[e]; rfl)
def Good.keep (g:Good ks os) (x:Str) (h:(stk ks ks.length)[i]?=some b) (h':os[i]?=some "if"):kd (ks++[x]) b="if":=by have hb:=(iw ks ks.length b (JW h)).1;rw[kJ hb];exact g.mt i b h h'
def Good.opn {x:Str} (g:Good ks os) (ho:isO x=true):Good (ks++[x]) (x :: os):=by
 have e:push (stk ks ks.length) ks.length x=ks.length :: stk ks ks.length:=by unfold push; rw[Je ho]
 refine g.snoc (λz=>absurd z (xi ho)) (λz=>absurd z (uH ho)) (by rw[e,JY,JY,g.len]) ?_;rw[e];intro i b h h';cases i with
 | zero =>
   have h1:ks.length=b:=by simpa using h
   have h2:x="if":=by simpa using h'
   rw[<- h1,mx];exact h2
 | succ i=>exact g.keep x (by simpa using h) (by simpa using h')
def Good.plain {x:Str} (g:Good ks os) (h1:¬ isO x=true) (h2:¬ isE x=true) (h3:¬ x="end"):Good (ks++[x]) os:=by
 have e:push (stk ks ks.length) ks.length x=stk ks ks.length:=by unfold push; rw[Ja h1,Ja h3]
 refine g.snoc (λz=>absurd z h2) (λz=>absurd (by rw[z]; decide +kernel) h2) (by rw[e,g.len]) ?_;rw[e];intro i b h h';exact g.keep x h h'
def Good.els' {r:List Str}(g:Good ks (("if":Str) :: r)):Good (ks++[("else":Str)]) (("else":Str) :: r):=by
 have e:push (stk ks ks.length) ks.length "else"=stk ks ks.length:=by unfold push; rw[Ja (by decide +kernel),Ja sY]
 refine g.snoc (λ_=>MV _ _) (λ_=>⟨r,rfl⟩) (by rw[e,g.len]; rfl) ?_;rw[e];intro i b h h';cases i with
 | zero =>
   have:("else":Str)="if":=by simpa using h'
   exact absurd this (by decide +kernel)
 | succ i=>exact g.keep _ h (by simpa using h')
def Good.fin {r:List Str}{o:Str} (g:Good ks (o :: r)):Good (ks++[("end":Str)]) r:=by
 have e:push (stk ks ks.length) ks.length "end"=(stk ks ks.length).tail:=by unfold push; rw[Ja (by decide +kernel),Je rfl]
 have l:=g.len;rw[JY] at l;refine g.snoc (λ_=>MV _ _) (λz=>absurd z.symm sY) (by rw[e,List.length_tail]; omega) ?_;rw[e];intro i b h h';rw[List.getElem?_tail] at h;exact g.keep _ h (by simpa using h')
def Good.back (g:Good ks []):Wf (ks++[("back":Str)]):=by
 have hs:stk ks ks.length=[]:=Kq.mp g.len;have g':=g.plain Eu yn (by decide +kernel);refine⟨g'.open_,g'.els,Kq.mp g'.len,λi h=>?_,by rw[JS]; exact Nat.succ_pos _⟩;have:i=ks.length:=by rw[JS] at h; simpa using h
 rw[this,mx]
structure RowsAt (K:W.Frag) (H:Hp) (a:Addr) (ks:List Str):Prop where
 ex:∃rs:List Addr,aI K H a (rs.map V.ref)/\rs.length=ks.length/\∀i r,rs[i]?=some r->∃rest,aI K H r (V.str (kd ks i) :: rest)
variable {H:Hp}
def RowsAt.mono {K:W.Frag} {H':Hp}{a:Addr} (h:RowsAt K H a ks) (e:Same H H'):RowsAt K H' a ks :=
 ⟨let ⟨rs,h1,h2,h3⟩:=h.ex; ⟨rs,e.tup h1,h2,λi r q=>let ⟨rest,z⟩:=h3 i r q; ⟨rest,e.tup z⟩⟩⟩
def bP {x:V} {r:List V}:bS (x :: r) 0=some x:=by unfold bS dQ;rw[Je (by decide),Je (by simp)];rfl
def ixk {K:W.Frag} {Q:VK} {a:Addr} {i:Int} (h:RowsAt K H a ks) (h0:0<=i) (h1:i<ks.length) (q:Q (.str (kd ks i.toNat)) H):tK K (.ref a) (.int i) H λx H1=>tK K x (.int 0) H1 Q:=by
 obtain⟨rs,e1,e2,e3⟩:=h.ex;have hi:i.toNat<rs.length:=by omega
 obtain⟨rest,hr⟩:=e3 i.toNat rs[i.toNat] (by simp [hi]);refine⟨a,_,i,.ref rs[i.toNat],rfl,rfl,e1,?_,rs[i.toNat],_,0,_,rfl,rfl,hr,bP,q⟩;have e:bS (rs.map V.ref) i=some (V.ref rs[i.toNat]):=by unfold bS dQ;rw[Je h0,Je (by rw[JR]; omega),LK,Jc];simp [hi]
 exact e
def iH (L:List (Nat×Nat)):List (aM×V):=L.map λp=>(Sum.inl (p.1:Int),V.int (p.2:Int))
def bg (ks:List Str) (i:Nat):List (aM×V):=iH (bZ ks i)
theorem xW (ks:List Str):∀i,∀p∈bZ ks i,p.1<i
 | 0,p,h=>by cases h
 | i+1,p,h=>by
   rcases K1.mp h with h|h
   . have:=xW ks i p h;omega
   . rcases jy ks i with⟨b,e,_⟩|⟨e,_⟩
     . rw[e] at h;have:p=(i,b):=by simpa using h
       rw[this];exact Km _
     . rw[e] at h;cases h
def Fx (ks:List Str) (i:Nat):bb (bg ks i) (Sum.inl (i:Int):aM)=none:=by
 have h:=lJ (Sum.inl (i:Int):aM) (bg ks i);cases q:bb (bg ks i) (Sum.inl (i:Int):aM) with
 | none=>rfl
 | some v =>
   rw[q] at h;obtain⟨kv,hm,e⟩:=List.any_eq_true.mp h;obtain⟨p,hp,rfl⟩:=Jy.mp hm;have e:=LV e;have:(p.1:Int)=(i:Int):=Sum.inl.inj e;have:=xW ks i p hp;omega
def ny (h:dR ks b i):al (bg ks i) (Sum.inl (i:Int):aM) (V.int (b:Int))=bg ks (i+1):=by
 rw[vx _ (Fx ks i)];rcases jy ks i with⟨b',e,h'⟩|⟨e,h'⟩
 . show iH (bZ ks i)++_=iH (bZ ks i++one ks i);rw[e,pZ h h'];unfold iH;rw[Jf];rfl
 . exact absurd h (h' b)
def vY (h:¬ isE (kd ks i)=true):bg ks (i+1)=bg ks i:=by
 rcases jy ks i with⟨b',e,h'⟩|⟨e,h'⟩
 . exact absurd h'.1 h
 . show iH (bZ ks i++one ks i)=_;rw[e,Jv];rfl
theorem sj (ks:List Str):∀i,(bZ ks i).length<=i
 | 0=>JZ _
 | i+1=>by have:=sj ks i;show(bZ ks i++one ks i).length<=i+1;rw[JS];rcases jy ks i with⟨b',e,h'⟩|⟨e,h'⟩ <;> rw[e] <;> simp <;> omega
def tX (ks:List Str) (i:Nat):(bg ks i).length<=i:=by unfold bg iH; rw[JR]; exact sj ks i
def gE (ks:List Str) (i:Nat):List V:=(stk ks i).reverse.map λ(n:Nat)=>V.int (n:Int)
def Dt (ks:List Str):∀i,(gE ks i).length<=i:=by
 intro i;unfold gE;rw[JR,List.length_reverse]
 induction i with
 | zero=>exact JZ _
 | succ i ih =>
   rw[fW];unfold push;split
   . simp; omega
   . split
     . simp; omega
     . omega
def inO (s:Str):fS (.str s) [V.str "if",V.str "while"]=isO s:=by show((("if":Str)==s) || ((("while":Str)==s) || false))=isO s;unfold isO;rw[ML];congr 1 <;> (rw[KP,LQ,Jg]; exact eq_comm)
def inE (s:Str):fS (.str s) [V.str "else",V.str "end"]=isE s:=by show((("else":Str)==s) || ((("end":Str)==s) || false))=isE s;unfold isE;rw[ML];congr 1 <;> (rw[KP,LQ,Jg]; exact eq_comm)
def ci:0<=sizeLine:=by decide
def fJ:1<=sizeLine:=by decide
def cB:2<=sizeLine:=by decide
def gu {n:Nat} (h:n<1000000):n<sizeLine:=by
 have:(1000000:Nat)<sizeLine:=by decide
 omega
def vk {r:List Nat} (h:stk ks i=b :: r):bS (gE ks i) (-1)=some (.int (b:Int))/\(gE ks i)[(gE ks i).length - 1]?=some (.int (b:Int))/\(gE ks i).dropLast=r.reverse.map λ(n:Nat)=>V.int (n:Int):=by
 have e:gE ks i=(r.reverse.map λ(n:Nat)=>V.int (n:Int))++[V.int (b:Int)]:=by unfold gE;rw[h,List.reverse_cons,Jf];rfl
 rw[e];refine⟨?_,by simp,by simp⟩;unfold bS dQ;rw[Ja (by decide),Je (by simp; omega),LK];have:((-1:Int)+(((r.reverse.map λ(n:Nat)=>V.int (n:Int))++[V.int (b:Int)]).length:Int)).toNat=(r.reverse.map λ(n:Nat)=>V.int (n:Int)).length:=by rw[JS];simp;omega
 rw[this];simp
def z6 {K:W.Frag} {a q:Addr} {xs:List V} {kvs:List (aM×V)} {o:HO} (h:aI K H a xs) (hq:H q=some (.dK kvs)):aI K (upd H q o) a xs:=by
 rcases h with(h|⟨o,h⟩)|h
 . exact .inl (.inl (by rw[aQ (jw h hq (by intro z; cases z))]; exact h))
 . exact .inl (.inr ⟨o,by rw[aQ (jw h hq (by intro z; cases z))]; exact h⟩)
 . exact .inr h
def RowsAt.frz {K:W.Frag} {H:Hp} {a q:Addr} {ks:List Str} {kvs:List (aM×V)} {o:HO} (h:RowsAt K H a ks) (hq:H q=some (.dK kvs)):RowsAt K (upd H q o) a ks :=
 ⟨let ⟨rs,h1,h2,h3⟩:=h.ex; ⟨rs,z6 h1 hq,h2,λi r z=>let ⟨rest,y⟩:=h3 i r z; ⟨rest,z6 y hq⟩⟩⟩
def yu (H:Hp) (l:Addr) (ks:List Str):Prop:=∃bs,H l=some (.lst bs)/\bs.length=ks.length/\∀k,k+1<ks.length->∃r:Nat,Beh ks k r/\bs[k]?=some (.int (r:Int))
def ua (n:Nat):List V:=(List.replicate n [V.non]).flatten
def HJ (n:Nat):(ua n).length=n:=by unfold ua; rw[lU]; simp
def wJ {k:Nat}(n:Nat) (hk:k<n) (h:dR ks b k):bb (bg ks n) (Sum.inl (k:Int):aM)=some (.int (b:Int)):=by
 induction n with
 | zero=>omega
 | succ n ih =>
   rcases KO k n with z|z
   . rcases jy ks n with⟨b',e,h'⟩|⟨e,h'⟩
     . rw[<- ny h',mi,Ja (λz'=>by have:(k:Int)=(n:Int):=Sum.inl.inj z'; omega)];exact ih z
     . have:bg ks (n+1)=bg ks n:=by show iH (bZ ks n++one ks n)=_;rw[e,Jv];rfl
       rw[this];exact ih z
   . have:k=n:=by omega
     subst this;rw[<- ny h,mi,Je rfl]
def uW {n:Nat}{kv:aM×V} (h:(bg ks n)[i]?=some kv):∃p:Nat×Nat,(bZ ks n)[i]?=some p/\kv=(Sum.inl (p.1:Int),V.int (p.2:Int)):=by
 unfold bg iH at h;rw[Jc] at h;cases q:(bZ ks n)[i]? with
 | none=>rw[q] at h; cases h
 | some p=>rw[q] at h; exact⟨p,rfl,by simpa using h.symm⟩
def Cq (l:List Nat):List V:=l.map λ(n:Nat)=>V.int (n:Int)
def iI (H:Hp) (v:V):Option (List Nat)->Prop
 | none=>v=.non
 | some l=>∃p,v=.ref p/\H p=some (.tup (Cq l))
def iI.mono {H':Hp}{v:V} {o:Option (List Nat)} (h:iI H v o) (e:Same H H'):iI H' v o:=by
 cases o with
 | none=>exact h
 | some l=>obtain⟨p,h1,h2⟩:=h; exact⟨p,h1,e _ _ h2⟩
def iI.lst {H:Hp} {q:Addr} {l l':List V} {v:V} {o:Option (List Nat)} (h:iI H v o) (hq:H q=some (.lst l)):iI (upd H q (.lst l')) v o:=by
 cases o with
 | none=>exact h
 | some l=>obtain⟨p,h1,h2⟩:=h; exact⟨p,h1,by rw[aQ (jw h2 hq (by intro z; cases z))]; exact h2⟩
def FoundN (H:Hp) (l:Addr) (ks:List Str) (i:Nat):Prop:=∃vs:List V,H l=some (.lst vs)/\vs.length=i/\∀k v,vs[k]?=some v->∃o,Due ks k o/\iI H v o
def FoundN.mono {H H':Hp} {l:Addr} {ks:List Str} {i:Nat} (h:FoundN H l ks i) (e:Same H H'):FoundN H' l ks i :=
 let ⟨vs,h1,h2,h3⟩:=h; ⟨vs,e _ _ h1,h2,λk v q=>let ⟨o,d,z⟩:=h3 k v q; ⟨o,d,z.mono e⟩⟩
def FoundN.push {l:Addr} {vs:List V} {v:V} {o:Option (List Nat)} (h1:H l=some (.lst vs)) (h2:vs.length=i) (h3:∀k v,vs[k]?=some v->∃o,Due ks k o/\iI H v o) (hd:Due ks i o) (hv:iI H v o):FoundN (upd H l (.lst (vs++[v]))) l ks (i+1):=by
 refine⟨_,aF,by rw[JS,h2]; rfl,λk v' q=>?_⟩;rcases KO k vs.length with z|z
 . rw[KN z] at q;obtain⟨o',d,y⟩:=h3 k v' q;exact⟨o',d,y.lst h1⟩
 . rw[K9 z] at q;have hk:k - vs.length=0:=by
     rcases Nat.eq_zero_or_pos (k - vs.length) with y|y
     . exact y
     . rw[KB (by simp; omega)] at q;cases q
   rw[hk] at q;have hv':v=v':=by simpa using q
   subst hv';have:k=i:=by omega
   subst this;exact⟨o,hd,hv.lst h1⟩
section
variable {P:Program} {w:World} {K:W.Frag} {mg:Str->Option Value} {base:Heap}
def sp_begins_of (K:W.Frag):Sp:=λvs H Q _=>∃(a:Addr) (ks:List Str),vs=[.ref a]/\RowsAt K H a ks/\Wf ks/\ks.length<=1000/\∀d H',Same H H'->H d=none->H' d=some (.dK (bg ks ks.length))->Q (.ref d) H'
def sp_firsts_behind (K:W.Frag):Sp:=λvs H Q _=>∃(a d:Addr) (ks:List Str),vs=[.ref a,.ref d]/\RowsAt K H a ks/\Wf ks/\ks.length<=1000/\H d=some (.dK (bg ks ks.length))/\∀l o H',Same (upd H d (.frz o (.dK (bg ks ks.length)))) H'->H l=none->yu H' l ks->Q (.ref l) H'
def sp_ways (K:W.Frag):Sp:=λvs H Q _=>∃(a:Addr) (ks:List Str),vs=[.ref a]/\RowsAt K H a ks/\Wf ks/\ks.length<=1000/\∀l H',Same H H'->H l=none->FoundN H' l ks ks.length->Q (.ref l) H'
def bT {n:Nat} (h:n<1000000):n<=sizeLine:=by
 have:(1000000:Nat)<sizeLine:=by decide
 omega
end
end K13
namespace Fl
open PySem L2 Gx
structure Rw where
 r:Addr
 k:Str
 c:Str
structure Fd where
 name:Str
 fa:Addr
 ra:Addr
 rs:List Rw
def kt (K:W.Frag) (H:Hp) (w:Rw):Prop:=∃rest,aI K H w.r (V.str w.k :: rest)/\(w.k="call"->∃x y,rest=[x,.str w.c,y])
variable {H:Hp}
def kt.mono {K:W.Frag} {H':Hp}{w:Rw} (e:Same H H') (h:kt K H w):kt K H' w:=let ⟨rest,h1,h2⟩:=h; ⟨rest,e.tup h1,h2⟩
structure FnAt (K:W.Frag) (H:Hp) (f:Fd):Prop where
 fn:∃fo pa,aI K H f.fa [.str f.name,fo,.ref pa,.ref f.ra]
 rw_:aI K H f.ra (f.rs.map λw=>V.ref w.r)
 rk:∀w∈f.rs,kt K H w
 fu:∃ps ds,K12.FunAt K H f.fa ps ds
 wf:K13.Wf (f.rs.map (·.k))
 len:f.rs.length<=100
def FnAt.mono {K:W.Frag} {H H':Hp} {f:Fd} (e:Same H H') (h:FnAt K H f):FnAt K H' f :=
 ⟨let ⟨a,b,z⟩:=h.fn; ⟨a,b,e.tup z⟩,e.tup h.rw_,λw hw=>(h.rk w hw).mono e,let ⟨a,b,z⟩:=h.fu; ⟨a,b,z.mono e⟩,h.wf,h.len⟩
def FnAt.rows {K:W.Frag} {f:Fd} (h:FnAt K H f):K13.RowsAt K H f.ra (f.rs.map (·.k)):=by
 refine⟨f.rs.map (·.r),by rw[KJ]; exact h.rw_,by rw[JR,JR],λi r hr=>?_⟩;rw[Jc] at hr;cases e:f.rs[i]? with
 | none=>rw[e] at hr; cases hr
 | some w =>
   rw[e] at hr;cases hr;obtain⟨rest,h1,_⟩:=h.rk w (JW e);refine⟨rest,?_⟩;have:K13.kd (f.rs.map (·.k)) i=w.k:=by unfold K13.kd;rw[JU,Jc,e];rfl
   rw[this];exact h1
structure FS (C:Addr) (H:Hp) (x dx:Addr) (fs:List (Str×V)) (d:Nat->Addr) (kv:Nat->List (aM×V)):Prop where
 ob:H x=some (.ins C dx fs)
 dc:∀j,j<6->H (d j)=some (.dK (kv j))
def FS.mono {C:Addr} {H':Hp}{x dx:Addr} {fs:List (Str×V)} {d:Nat->Addr} {kv:Nat->List (aM×V)} (e:Same H H') (h:FS C H x dx fs d kv):FS C H' x dx fs d kv:=⟨e _ _ h.ob,λj hj=>e _ _ (h.dc j hj)⟩
def FS.put {C:Addr} {x dx:Addr} {fs:List (Str×V)} {d:Nat->Addr} {kv:Nat->List (aM×V)} (h:FS C H x dx fs d kv) (inj:∀i j,i<6->j<6->d i=d j->i=j) (j:Nat) (hj:j<6) (k':List (aM×V)):FS C (upd H (d j) (.dK k')) x dx fs d (λi=>if i=j then k' else kv i):=by
 refine⟨?_,λi hi=>?_⟩
 . rw[aQ (jw h.ob (h.dc j hj) (by intro z; cases z))]; exact h.ob
 . by_cases e:i=j
   . subst e;rw[aF,Je rfl]
   . rw[aQ (λz=>e (inj i j hi hj z)),Ja e];exact h.dc i hi
def fc (v:V) (d:Nat->Addr):List (Str×V):=cP "ways_in" (.ref (d 5)) (cP "names_in" (.ref (d 4)) (cP "rows_of" (.ref (d 3)) (cP "params_of" (.ref (d 2)) (cP "folded_of" (.ref (d 1)) (cP "number_of" (.ref (d 0)) (cP "last" v []))))))
def lk_number (v:V) (d:Nat->Addr):(fc v d).lookup ("number_of":Str)=some (.ref (d 0)):=by unfold fc;rw[dH,Ja (by decide +kernel),dH,Ja (by decide +kernel),dH,Ja (by decide +kernel),dH,Ja (by decide +kernel),dH,Ja (by decide +kernel),dH,Je rfl]
def Hn (v:V) (d:Nat->Addr):(fc v d).lookup ("folded_of":Str)=some (.ref (d 1)):=by unfold fc;rw[dH,Ja (by decide +kernel),dH,Ja (by decide +kernel),dH,Ja (by decide +kernel),dH,Ja (by decide +kernel),dH,Je rfl]
def Em (v:V) (d:Nat->Addr):(fc v d).lookup ("params_of":Str)=some (.ref (d 2)):=by unfold fc;rw[dH,Ja (by decide +kernel),dH,Ja (by decide +kernel),dH,Ja (by decide +kernel),dH,Je rfl]
def lk_rows (v:V) (d:Nat->Addr):(fc v d).lookup ("rows_of":Str)=some (.ref (d 3)):=by unfold fc;rw[dH,Ja (by decide +kernel),dH,Ja (by decide +kernel),dH,Je rfl]
def lk_names (v:V) (d:Nat->Addr):(fc v d).lookup ("names_in":Str)=some (.ref (d 4)):=by unfold fc;rw[dH,Ja (by decide +kernel),dH,Je rfl]
def Ge (v:V) (d:Nat->Addr):(fc v d).lookup ("ways_in":Str)=some (.ref (d 5)):=by unfold fc;rw[dH,Je rfl]
def dd (d0 d1 d2 d3 d4 d5:Addr):Nat->Addr
 | 0=>d0
 | 1=>d1
 | 2=>d2
 | 3=>d3
 | 4=>d4
 | _=>d5
def bR {a b:Addr} {o:HO} (h:upd H a o b=none):b≠a/\H b=none:=by
 have hn:b≠a:=λz=>by rw[z,aF] at h; cases h
 rw[aQ hn] at h;exact⟨hn,h⟩
def aq {a b:Addr} {o o':HO} (h:H b=some o) (hn:b≠a):upd H a o' b=some o:=by rw[aQ hn]; exact h
def kZ (f:Str) (v:V) (l:List (Str×V)) (k:Nat) (h:l.length<=k):(cP f v l).length<=k+1:=K0 (si f v l) (by omega)
end Fl
namespace L2
open PySem
def hl (H:Hp):Hp:=λb=>match H b with
 | some (.lst xs)=>some (.lst xs)
 | some (.tup xs)=>some (.tup xs)
 | _=>none
variable {H:Hp}
def so :Same (hl H) H:=λb o h=>by
 unfold hl at h;split at h
 . rename_i e; rw[e]; exact h
 . rename_i e; rw[e]; exact h
 . cases h
def xI {b:Addr} {xs:List V} (h:H b=some (.lst xs)):hl H b=some (.lst xs):=by unfold hl; rw[h]
def JE {b:Addr} {xs:List V} (h:H b=some (.tup xs)):hl H b=some (.tup xs):=by unfold hl; rw[h]
def Same.hl {H H':Hp} (e:Same H H'):Same (hl H) (hl H'):=λb o h=>by have h1:=so _ _ h;have h2:=e _ _ h1;unfold L2.hl at h ⊢;rw[h1] at h;rw[h2];exact h
def JC {a:Addr} {o:HO} (h:∀xs,H a≠some (.lst xs)/\H a≠some (.tup xs)) (ho:∀xs,o≠.lst xs/\o≠.tup xs):hl (upd H a o)=hl H:=by
 funext b;unfold hl upd;by_cases hb:b=a
 . subst hb;rw[Je rfl];cases o with
   | lst xs=>exact absurd rfl (ho xs).1
   | tup xs=>exact absurd rfl (ho xs).2
   | _ =>
     cases e:H b with
     | none=>rfl
     | some u=>cases u with
       | lst xs=>exact absurd e (h xs).1
       | tup xs=>exact absurd e (h xs).2
       | _=>rfl
 . rw[Ja hb]
def lK {a:Addr} {kvs kvs':List (aM×V)} (h:H a=some (.dK kvs)):hl (upd H a (.dK kvs'))=hl H :=
 JC (λxs=>⟨(by rw[h]; intro z; cases z),(by rw[h]; intro z; cases z)⟩) λxs=>⟨(by intro z; cases z),(by intro z; cases z)⟩
end L2
namespace K13
open PySem L2
def FoundN.hl {H:Hp} {l:Addr} {ks:List Str} {i:Nat} (h:FoundN H l ks i):FoundN (L2.hl H) l ks i:=by
 obtain⟨vs,h1,h2,h3⟩:=h;refine⟨vs,xI h1,h2,λk v q=>?_⟩;obtain⟨o,d,z⟩:=h3 k v q;refine⟨o,d,?_⟩;cases o with
 | none=>exact z
 | some l=>obtain⟨p,z1,z2⟩:=z; exact⟨p,z1,JE z2⟩
end K13
namespace F2
open PySem L2 Gx Fl
structure Fd where
 name:Str
 fo:V
 fa:Addr
 pa:Addr
 ra:Addr
 ps:List Str
 rs:List Rw
 ds:List K12.RowD
structure FnAt (K:W.Frag) (H:Hp) (f:Fd):Prop where
 fn:aI K H f.fa [.str f.name,f.fo,.ref f.pa,.ref f.ra]
 pr:aI K H f.pa (f.ps.map V.str)
 rw_:aI K H f.ra (f.rs.map λw=>V.ref w.r)
 rk:∀w∈f.rs,kt K H w
 fu:K12.FunAt K H f.fa f.ps f.ds
 wf:K13.Wf (f.rs.map (·.k))
 len:f.rs.length<=100
def FnAt.mono {K:W.Frag} {H H':Hp} {f:Fd} (e:Same H H') (h:FnAt K H f):FnAt K H' f :=
 ⟨e.tup h.fn,e.tup h.pr,e.tup h.rw_,λw hw=>(h.rk w hw).mono e,h.fu.mono e,h.wf,h.len⟩
def toF (f:Fd):Fl.Fd:=⟨f.name,f.fa,f.ra,f.rs⟩
def FnAt.old {K:W.Frag} {H:Hp} {f:Fd} (h:FnAt K H f):Fl.FnAt K H (toF f):=⟨⟨_,_,h.fn⟩,h.rw_,h.rk,⟨_,_,h.fu⟩,h.wf,h.len⟩
def nms (f:Fd):List Str:=K12.onceL (K12.allOf f.ps f.ds)
def lH (f:Fd):List Str:=f.rs.map (·.k)
def kD (g:Nat->Fd->V) (fns:List Fd):List (aM×V):=fns.mapIdx λi f=>(Sum.inr f.name,g i f)
def IJ (g:Nat->Fd->V) (fns:List Fd) (f:Fd):kD g (fns++[f])=kD g fns++[(Sum.inr f.name,g fns.length f)]:=by unfold kD;rw[List.mapIdx_append];simp
variable {fns:List Fd}
def Gi {g g':Nat->Fd->V} (h:∀i f,i<fns.length->g i f=g' i f):kD g fns=kD g' fns:=by unfold kD;refine List.ext_getElem (by simp) λi h1 h2=>?_;simp only[List.getElem_mapIdx];rw[h i _ (by simpa using h1)]
def FK (g:Nat->Fd->V) {s:Str} (h:s ∉ fns.map (·.name)):bb (kD g fns) (Sum.inr s:aM)=none:=by
 unfold bb;rw[Option.map_eq_none_iff,List.find?_eq_none];intro kv hkv z;unfold kD at hkv;obtain⟨i,hi,e⟩:=List.mem_mapIdx.mp hkv;subst e;have z:(Sum.inr fns[i].name:aM)=Sum.inr s:=by simpa using z
 exact h (Jy.mpr ⟨fns[i],Kd hi,Sum.inr.inj z⟩)
def yE {f:Fd} {i:Nat} (h:fns[i]?=some f) (nd:(fns.map (·.name)).Nodup):f.name ∉ (fns.take i).map (·.name):=by
 intro z;obtain⟨g,hg,e⟩:=Jy.mp z;obtain⟨j,hj⟩:=Kp hg;have hji:j<i:=by have:=(Jb.mp hj).1;rw[Ju] at this;omega
 rw[Lg hji] at hj;have h1:(fns.map (·.name))[i]?=some f.name:=by rw[Jc,h]; rfl
 have h2:(fns.map (·.name))[j]?=some f.name:=by rw[Jc,hj]; exact Jt some e
 have:=(List.getElem?_inj (Jb.mp h2).1 nd).mp (h2.trans h1.symm);omega
def jR {g g':Nat->Fd->V} {f:Fd} {i:Nat} {v:V} (h:fns[i]?=some f) (nd:(fns.map (·.name)).Nodup) (hg:∀j f,j<i->g j f=g' j f) (hv:v=g' i f):al (kD g (fns.take i)) (Sum.inr f.name:aM) v=kD g' (fns.take (i+1)):=by
 have hi:i<fns.length:=(Jb.mp h).1;have hl:(fns.take i).length=i:=by rw[Ju]; omega
 rw[vx _ (FK g (yE h nd)),KH,h];show _=kD g' (fns.take i++[f]);rw[IJ,hl,<- hv,Gi (g:=g) (g':=g') λj f hj=>hg j f (by omega)]
def kD_at (g:Nat->Fd->V):∀{fns:List Fd} {i:Nat} {f:Fd},(fns.map (·.name)).Nodup->fns[i]?=some f->bb (kD g fns) (Sum.inr f.name:aM)=some (g i f):=by
 intro fns i f nd h;have hi:i<fns.length:=(Jb.mp h).1;have key:∀k,i<k->k<=fns.length->bb (kD g (fns.take k)) (Sum.inr f.name:aM)=some (g i f):=by
   intro k
   induction k with
   | zero=>intro h0; exact absurd h0 (KW _)
   | succ k ih =>
     intro hk hk';obtain⟨f',hf'⟩:∃f',fns[k]?=some f':=⟨fns[k],JV (by omega)⟩
     rw[<- jR (g:=g) (g':=g) hf' nd (λ_ _ _=>rfl) rfl,mi];by_cases e:i=k
     . subst e;rw[h] at hf';cases hf';rw[Je rfl]
     . have hn:¬ (Sum.inr f.name:aM)=Sum.inr f'.name:=λz=>yE hf' nd (Jy.mpr ⟨f,JW (by rw[Lg (show i<k by omega)]; exact h),Sum.inr.inj z⟩);rw[Ja hn];exact ih (by omega) (by omega)
 have:=key fns.length hi (JZ _);rw[K2] at this;exact this
structure FlowsAt (K:W.Frag) (C:Addr) (H:Hp) (x:Addr) (fns:List Fd):Prop where
 all:∀f∈fns,FnAt K H f
 nd:(fns.map (·.name)).Nodup
 ob:∃dx fz d kv,∃nl wl:Nat->Addr,fns[fns.length - 1]?=some fz/\FS C H x dx (fc (V.str fz.name) d) d kv/\kv 0=kD (λi _=>.int i) fns/\kv 1=kD (λ_ f=>f.fo) fns/\kv 2=kD (λ_ f=>.ref f.pa) fns/\kv 3=kD (λ_ f=>.ref f.ra) fns /\
   kv 4=kD (λi _=>.ref (nl i)) fns/\kv 5=kD (λi _=>.ref (wl i)) fns/\∀i f,fns[i]?=some f->H (nl i)=some (.lst ((nms f).map V.str))/\K13.FoundN H (wl i) (lH f) (lH f).length
def FlowsAt.mono {K:W.Frag} {C:Addr} {H H':Hp} {x:Addr} {fns:List Fd} (e:Same H H') (h:FlowsAt K C H x fns):FlowsAt K C H' x fns:=by obtain⟨dx,fz,d,kv,nl,wl,h0,h1,h2,h3,h4,h5,h6,h7,h8⟩:=h.ob;exact⟨λf hf=>(h.all f hf).mono e,h.nd,⟨dx,fz,d,kv,nl,wl,h0,h1.mono e,h2,h3,h4,h5,h6,h7,λi f hi=>⟨e _ _ (h8 i f hi).1,(h8 i f hi).2.mono e⟩⟩⟩
end F2
namespace K41
open PySem L2 Gx Fl
structure RR where
 w:Rw
 d:K12.RowD
def RRok (K:W.Frag) (H:Hp) (x:RR):Prop:=x.w.r=x.d.r/\kt K H x.w/\K12.RowAt K H x.d
def at_i (i:Int):K12.Atom (.int i):=.inr ⟨i,rfl⟩
def t8 {p:V->Prop} {a:V} (h:p a):∀v∈[a],p v:=λv hv=>by rw[Jz.mp hv]; exact h
def rone (k:Str) (r:Addr) (a:V):RR:=⟨⟨r,k,""⟩,⟨r,0,0,none,[a]⟩⟩
def rnone (k:Str) (r:Addr):RR:=⟨⟨r,k,""⟩,⟨r,0,0,none,[]⟩⟩
variable {H:Hp} {r:Addr}
def ok_if {K:W.Frag} {a:V} (h:aI K H r [.str "if",a]) (ha:K12.Atom a):RRok K H (rone "if" r a) :=
 ⟨rfl,⟨_,h,λz=>absurd z (by show ¬ (("if":Str)="call"); decide +kernel)⟩,⟨⟨_,h,.ifs a⟩,t8 ha,by show 1<=10; decide,λx hx=>by cases hx⟩⟩
def ok_back {K:W.Frag} {a:V} (h:aI K H r [.str "back",a]) (ha:K12.Atom a):RRok K H (rone "back" r a) :=
 ⟨rfl,⟨_,h,λz=>absurd z (by show ¬ (("back":Str)="call"); decide +kernel)⟩,⟨⟨_,h,.back a⟩,t8 ha,by show 1<=10; decide,λx hx=>by cases hx⟩⟩
def ok_else {K:W.Frag} (h:aI K H r [.str "else"]):RRok K H (rnone "else" r) :=
 ⟨rfl,⟨_,h,λz=>absurd z (by show ¬ (("else":Str)="call"); decide +kernel)⟩,⟨⟨_,h,.els⟩,(λv hv=>by cases hv),Jw _,λx hx=>by cases hx⟩⟩
def ok_end {K:W.Frag} (h:aI K H r [.str "end"]):RRok K H (rnone "end" r) :=
 ⟨rfl,⟨_,h,λz=>absurd z (by show ¬ (("end":Str)="call"); decide +kernel)⟩,⟨⟨_,h,.fin⟩,(λv hv=>by cases hv),Jw _,λx hx=>by cases hx⟩⟩
theorem xa {ks os:List Str} {x:Str} (g:K13.Good ks os) (h1:¬ K13.isO x=true) (h2:¬ K13.isE x=true) (h3:¬ x="end"):∀n,K13.Good (ks++List.replicate n x) os
 | 0=>by rw[List.replicate_zero,Jv]; exact g
 | n+1=>by rw[List.replicate_succ',<- Jm]; exact(xa g h1 h2 h3 n).plain h1 h2 h3
def lc (z:Int):Nat:=K12.lets.cps.toList.getD z.toNat 0
def wW:K12.lets.cps.toList.length=26:=by decide +kernel
def lc_at {z:Int} (h0:0<=z) (h1:z<26):bS K12.lets.cps.toList z=some (lc z):=by
 obtain⟨j,rfl⟩:=Js h0;have hj:j<K12.lets.cps.toList.length:=by rw[wW]; omega
 refine bh ?_;unfold lc;rw[K6,JU,JV hj];rfl
def vj {z:Int} (h0:0<=z) (h1:z<26):lc z∈K12.lets.cps.toList:=by
 have hj:z.toNat<K12.lets.cps.toList.length:=by rw[wW]; omega
 unfold lc;rw[JU,JV hj];exact Kd hj
def GJ {x y:Int} (x0:0<=x) (x1:x<26) (y0:0<=y) (y1:y<26) (h:lc x=lc y):x=y:=by
 have key:∀i<26,∀j<26,K12.lets.cps.toList.getD i 0=K12.lets.cps.toList.getD j 0->i=j:=by decide +kernel
 have:=key x.toNat (by omega) y.toNat (by omega) h;omega
def wO {l:List Nat} (h:∀c∈l,c∈K12.lets.cps.toList):PyData.strOk (tx l)=true:=by
 have hz:=K12.lets_ok;unfold PyData.strOk at hz ⊢;rw[Array.all_eq_true'] at hz ⊢;intro x hx;have hx:x∈l:=by simpa [tx] using hx
 exact hz x (by simpa using h x hx)
def tkV:List V:=[V.str "fn",V.str "in",V.str "new",V.str "get",V.str "put",V.str "call",V.str "out",V.str "if",V.str "while",V.str "else",V.str "end",V.str "back"]
end K41
namespace L2
open PySem PySem.Spec PyProof.Rows
def sB:Stmt->List Stmt
 | .For _ _ b _ _=>b
 | .While _ b _ _=>b
 | .If _ b _ _=>b
 | _=>[]
def GX:bootBuiltins "divmod"=some (.builtin "divmod"):=by decide +kernel
inductive WVar (i:Nat) (σ:St) (H:Hp) (Q:VK):Prop
 | mk (v:V) (h:σ[i]?=some (some v)) (q:Q v H):WVar i σ H Q
def mq (i:Nat):TE:=λσ H Q=>WVar i σ H Q
variable {X:Cx}
def aB (i:Nat) {x:Str} {pos:Pos} (hN:X.N[i]?=some x:=by rfl) (hv:lE X.env.scope x:=by first|exact Or.inl rfl|exact Or.inr (Or.inl rfl)|exact Or.inr (Or.inr rfl)) (hd:(x==("__debug__":Str))=false:=by decide)
   (hcd:(x==("__classdict__":Str))=false:=by decide):PE X (.Name x pos) (mq i):=λpins s σ H Q I h=>pv i hN hv hd hcd pins s σ H Q I (let ⟨v,e,q⟩:=h; ⟨v,e,q⟩)
inductive WIxL (K:W.Frag) (x y:V) (H:Hp) (Q:VK):Prop
 | mk (p:Addr) (xs:List V) (i:Int) (v:V) (h1:x=.ref p) (h2:y=.int i) (h3:aG K H p xs) (h4:bS xs i=some v) (q:Q v H):WIxL K x y H Q
inductive WIxT (K:W.Frag) (x y:V) (H:Hp) (Q:VK):Prop
 | mk (p:Addr) (xs:List V) (i:Int) (v:V) (h1:x=.ref p) (h2:y=.int i) (h3:aI K H p xs) (h4:bS xs i=some v) (q:Q v H):WIxT K x y H Q
def b6 (K:W.Frag):R2:=λx y H Q=>WIxL K x y H Q
def ai (K:W.Frag):R2:=λx y H Q=>WIxT K x y H Q
def aN.imp {r r':R2} (h:aN X r) (f:∀x y H Q,r' x y H Q->r x y H Q):aN X r':=λa b pins s σ H x y v u Q I r1 r2 q z=>h a b pins s σ H x y v u Q I r1 r2 (f x y H Q q) z
def c6.imp {g:Value->Value->Sem Value} {r r':R2} (h:c6 X g r) (f:∀x y H Q,r' x y H Q->r x y H Q):c6 X g r':=λpins s σ H x y v u Q I r1 r2 q=>h pins s σ H x y v u Q I r1 r2 (f x y H Q q)
def aw.imp {g:Value} {r r':List V->Hp->VK->Prop} (h:aw X g r) (f:∀xs H Q,r' xs H Q->r xs H Q):aw X g r':=λpins s σ H xs us Q I r1 q=>h pins s σ H xs us Q I r1 (f xs H Q q)
def bE :aN X (b6 X.K):=kM.imp λx y H Q h=>let ⟨p,xs,i,v,h1,h2,h3,h4,q⟩:=h; ⟨p,xs,i,v,h1,h2,h3,h4,q⟩
def ak :aN X (ai X.K):=jO.imp λx y H Q h=>let ⟨p,xs,i,v,h1,h2,h3,h4,q⟩:=h; ⟨p,xs,i,v,h1,h2,h3,h4,q⟩
inductive WI (C:Int->Int->Prop) (g:Int->Int->V) (x y:V) (H:Hp) (Q:VK):Prop
 | mk (i j:Int) (h1:x=.int i) (h2:y=.int j) (h3:C i j) (q:Q (g i j) H):WI C g x y H Q
inductive WI0 (g:Int->Int->V) (x y:V) (H:Hp) (Q:VK):Prop
 | mk (i j:Int) (h1:x=.int i) (h2:y=.int j) (q:Q (g i j) H):WI0 g x y H Q
def cI (C:Int->Int->Prop) (g:Int->Int->V):R2:=λx y H Q=>WI C g x y H Q
def cI0 (g:Int->Int->V):R2:=λx y H Q=>WI0 g x y H Q
def bj {f:Value->Value->Sem Value} {C:Int->Int->Prop} {g:Int->Int->V} (h:c6 X f (rI C g)):c6 X f (cI C g):=h.imp λx y H Q h=>let ⟨i,j,h1,h2,h3,q⟩:=h; ⟨i,j,h1,h2,h3,q⟩
def aY {f:Value->Value->Sem Value} {g:Int->Int->V} (h:c6 X f (ip g)):c6 X f (cI0 g):=h.imp λx y H Q h=>let ⟨i,j,h1,h2,q⟩:=h; ⟨i,j,h1,h2,q⟩
inductive WLen (K:W.Frag) (xs:List V) (H:Hp) (Q:VK):Prop
 | mk (p:Addr) (ys:List V) (h1:xs=[.ref p]) (h2:aG K H p ys\/aI K H p ys) (q:Q (.int ys.length) H):WLen K xs H Q
def cU (K:W.Frag):List V->Hp->VK->Prop:=λxs H Q=>WLen K xs H Q
def cb :aw X (.builtin "len") (cU X.K):=tS.imp λxs H Q h=>let ⟨p,ys,h1,h2,q⟩:=h; ⟨p,ys,h1,h2,q⟩
inductive WApp (x:V) (vs:List V) (H:Hp) (Q:VK):Prop
 | mk (l:Addr) (xs:List V) (y:V) (h1:x=.ref l) (h2:vs=[y]) (h3:H l=some (.lst xs)) (h4:xs.length<sizeLine) (q:Q .non (upd H l (.lst (xs++[y])))):WApp x vs H Q
def JF:V->List V->Hp->VK->Prop:=λx vs H Q=>WApp x vs H Q
def dY :ma X "list.append" JF:=λpins s σ H x xs v us Q I r1 r2 q=>jQ pins s σ H x xs v us Q I r1 r2 (let ⟨l,xs,y,h1,h2,h3,h4,q⟩:=q; ⟨l,xs,y,h1,h2,h3,h4,q⟩)
inductive WBl (x:V) (H:Hp) (Q:Bool->Hp->Prop):Prop
 | mk (k:Bool) (h:x=.bl k) (q:Q k H):WBl x H Q
def ql (t:TE):TT:=λσ H Q=>t σ H λx H'=>WBl x H' Q
section
variable {X:Cx} {a b:Expr} {ta tb:TE} {pos:Pos}
def ac {op:CmpOp} {r:R2} (ho:c6 X (compareOp op) r) (ha:PE X a ta) (hb:PE X b tb) (hm:behindInMarks op b=false):PT X (.Compare a [op] [b] pos) (ql (ir r ta tb)):=by
 intro pins s σ H Q I h;refine Lx (aO (ha pins s σ H _ I h) λv s1 ⟨x,H1,I1,r1,q1⟩=>aO (hb pins s1 σ H1 _ I1 q1) λu s2 ⟨y,H2,I2,r2,q2⟩ =>
   aO (ho pins s2 σ H2 x y v u _ I2 r1 r2 q2) λc s3 ⟨z,H3,I3,r3,w⟩=>?_) hm
 obtain⟨k,e,q3⟩:=w;subst e;cases r3;exact Kr ⟨H3,I3,q3⟩
def ij {e:Expr} {t:TE} (h:PE X e t) (he:∀whole,isTrue e X.env whole=(do let v <- whole; standAt e.pos; holding [v] (truthy v)):=by intro _; rfl):PT X e (ql t):=by intro pins s σ H Q I hw;refine isTrue_plain (aO (h pins s σ H _ I hw) λv s1 ⟨x,H1,I1,r1,q1⟩=>?_) (he _);obtain⟨d,rfl,q⟩:=q1;cases r1;exact Kr ⟨H1,I1,q⟩
end
def EL (t u:TS):TS:=λD σ H=>∃M:St->Hp->Prop,t { D with nx:=M } σ H/\∀σ' H',M σ' H'->u D σ' H'
def mZ {st:Stmt} {rest:List Stmt} {t u:TS} (h1:PS X st t) (h2:bD X rest u):bD X (st :: rest) (EL t u):=JA h1 h2
end L2
namespace Bg
open PySem L2 Gx K41
def RRok.mono {K:W.Frag} {H H':Hp} {x:RR} (h:RRok K H x) (e:Same H H'):RRok K H' x:=⟨h.1,h.2.1.mono e,h.2.2.mono e⟩
theorem fn_mk2 {K:W.Frag} {H:Hp} {nk:Str} {fa tr qC:Addr} {fo:V} {ps:List Str} (rr:List RR) (h1:aI K H fa [.str nk,fo,.ref qC,.ref tr]) (h2:aI K H tr (rr.map λx=>V.ref x.w.r)) (h3:∀x∈rr,RRok K H x) (h4:aI K H qC (ps.map V.str)) (h5:∀s∈ps,K12.Nm s) (h6:ps.length<=100) (h7:rr.length<=100) (wf:K13.Wf (rr.map λx=>x.w.k)) :
   F2.FnAt K H ⟨nk,fo,fa,qC,tr,ps,rr.map (·.w),rr.map (·.d)⟩:=by
 refine⟨h1,h4,by show aI K H tr ((rr.map (·.w)).map λw=>V.ref w.r); rw[KJ]; exact h2,λw hw=>?_,⟨⟨_,_,_,_,h1,h4,?_⟩,λd hd=>?_,h5,h6,by show(rr.map (·.d)).length<=100; rw[JR]; exact h7⟩,by show K13.Wf ((rr.map (·.w)).map (·.k)); rw[KJ]; exact wf,by show(rr.map (·.w)).length<=100; rw[JR]; exact h7⟩
 . obtain⟨x,hx,rfl⟩:=Jy.mp hw;exact(h3 x hx).2.1
 . show aI K H tr ((rr.map (·.d)).map λd=>V.ref d.r);rw[KJ];have:(rr.map λx=>V.ref x.w.r)=rr.map ((λd=>V.ref d.r) ∘ (·.d)):=KS λx hx=>by show V.ref x.w.r=V.ref x.d.r;rw[(h3 x hx).1]
   rw[<- this];exact h2
 . obtain⟨x,hx,rfl⟩:=Jy.mp hd;exact(h3 x hx).2.2
def rcopyV (r:Addr) (nm:Str) (i:Int):RR:=⟨⟨r,"copy",""⟩,⟨r,0,0,some nm,[.int i]⟩⟩
def ok_copyV {K:W.Frag} {H:Hp} {r:Addr} {nm:Str} {i:Int} (h:aI K H r [.str "copy",.str nm,.int i]) (hn:K12.Nm nm):RRok K H (rcopyV r nm i) :=
 ⟨rfl,⟨_,h,λz=>absurd z (by show ¬ (("copy":Str)="call"); decide +kernel)⟩,⟨⟨_,h,.copy nm _⟩,t8 (at_i i),by show 1<=10; decide,λx hx=>by cases hx; exact hn⟩⟩
end Bg
namespace Bt
open PySem L2 Gx
def pb (n c:Nat):List Nat:=(List.range c).map λi=>if n / 2 ^ (c - 1 - i)%2=1 then 49 else 48
def fD (n c:Nat):(pb n c).length=c:=by unfold pb; rw[JR,KI]
def Ed {n c x:Nat} (h:x∈pb n c):x=48\/x=49:=by
 unfold pb at h;obtain⟨i,_,rfl⟩:=Jy.mp h;split
 . exact .inr rfl
 . exact .inl rfl
def nb (n:Nat):List Nat:=if n<8 then 48 :: pb n 3 else 49 :: pb (n%8) 3++nb (n / 8)
termination_by n
decreasing_by omega
def fQ {n:Nat} (h:n<8):nb n=48 :: pb n 3:=by rw[nb,Je h]
def gB {n:Nat} (h:¬ n<8):nb n=49 :: pb (n%8) 3++nb (n / 8):=by rw[nb,Ja h]
theorem iq:∀(k n:Nat),n<8 ^ (k+1)->(nb n).length<=4 * (k+1)
 | 0,n,h=>by rw[fQ (by simpa using h),JY,fD];exact JZ _
 | k+1,n,h=>by
   by_cases c:n<8
   . rw[fQ c,JY,fD]; omega
   . have h':n / 8<8 ^ (k+1):=by
       have:8 ^ (k+1+1)=8 * 8 ^ (k+1):=by rw[Ll]; omega
       omega
     have ih:=iq k (n / 8) h';rw[gB c,JS,JY,fD];omega
def m9 (n:Nat):4<=(nb n).length:=by
 by_cases c:n<8
 . rw[fQ c,JY,fD]; exact JZ _
 . rw[gB c,JS,JY,fD]; omega
def EK (l:List Nat):("1":Str)++tx l=tx (49 :: l):=dZ [49] l
def uu:("0":Str)=tx [48]:=rfl
inductive BTr where
 | box (k:Nat):BTr
 | num (v:Nat):BTr
 | op (i:Nat) (l r:BTr):BTr
def qd:List Nat:=[43,45,42,47,60,61,38,124,94]
def gT (i:Nat):Str:=tx [qd.getD i 0]
def rb:BTr->List Nat
 | .box k=>48 :: nb k
 | .num v=>49 :: 48 :: nb v
 | .op i l r=>49 :: 49 :: pb i 4++rb l++rb r
def lv:BTr->Nat
 | .box _=>1
 | .num _=>1
 | .op _ l r=>lv l+lv r
def cu:BTr->Nat
 | .box _=>0
 | .num _=>0
 | .op _ l r=>max (cu l) (cu r)+1
theorem kQ:∀t:BTr,cu t<lv t
 | .box _=>MB
 | .num _=>MB
 | .op _ l r=>by have h1:=kQ l;have h2:=kQ r;show max (cu l) (cu r)+1<lv l+lv r;omega
def pe:BTr->Prop
 | .box k=>k<8 ^ 16
 | .num v=>v<8 ^ 16
 | .op _ l r=>pe l/\pe r
theorem j8:∀{t:BTr},pe t->(rb t).length+6<=72 * lv t
 | .box k,h=>by have:=iq 15 k h;show(48 :: nb k).length+6<=72 * 1;rw[JY]; omega
 | .num k,h=>by have:=iq 15 k h;show(49 :: 48 :: nb k).length+6<=72 * 1;rw[JY,JY]; omega
 | .op i l r,h=>by have h1:=j8 h.1;have h2:=j8 h.2;show(49 :: 49 :: pb i 4++rb l++rb r).length+6<=72 * (lv l+lv r);rw[JS,JS,JY,JY,fD];omega
def vU:∀i<9,¬ gT i="box"/\¬ gT i="num":=by decide +kernel
def sgTup:List V:=[V.str "+",V.str "-",V.str "*",V.str "/",V.str "<",V.str "=",V.str "&",V.str "|",V.str "^"]
def ug:List V:=[V.str "0000",V.str "0001",V.str "0010",V.str "0011",V.str "0100",V.str "0101",V.str "0110",V.str "0111",V.str "1000"]
def Fu:∀d<9,bS ug (d:Nat)=some (V.str (tx (pb d 4))):=by decide +kernel
def BL:∀i<9,(Builtin.Str.occurrences ("+-*/<=&|^":Str) (gT i) 0 ("+-*/<=&|^":Str).length 1).head?=some i:=by decide +kernel
def BX:∀i<9,bS ("+-*/<=&|^":Str).cps.toList (i:Nat)=some (qd.getD i 0):=by decide +kernel
def EV (l:List Nat):("0":Str)++tx l=tx (48 :: l):=dZ [48] l
def DW (l:List Nat):("10":Str)++tx l=tx (49 :: 48 :: l):=dZ [49,48] l
def qr (l:List Nat):("11":Str)++tx l=tx (49 :: 49 :: l):=dZ [49,49] l
def iQ (a b:List Nat) (h:a.length+b.length<1000000):(tx a).length+(tx b).length<=sizeLine:=by rw[cX,cX]; exact bT h
def cD:(8:Nat) ^ 16=281474976710656:=by decide
end Bt
namespace Pk
open PySem L2 Gx Bt Bg
variable {xs:List V} {i:Nat} {x v:V}
section
variable {K:W.Frag} {H H':Hp}
theorem cQ:∀{ds:List PyData} {xs:List V},DatAll K H ds xs->xs.length=ds.length
 | [],xs,h=>by unfold DatAll at h; rw[h]; rfl
 | d :: ds,xs,h=>by unfold DatAll at h;obtain⟨x,r,rfl,_,h2⟩:=h;rw[JY,JY,cQ h2]
theorem qw:∀{ds:List PyData} {xs:List V} {i:Nat} {d:PyData},DatAll K H ds xs->ds[i]?=some d->∃x,xs[i]?=some x/\DatV K H d x
 | [],xs,i,d,h,e=>by cases i <;> cases e
 | d' :: ds,xs,i,d,h,e=>by
   unfold DatAll at h;obtain⟨x,r,rfl,h1,h2⟩:=h;cases i with
   | zero=>cases e; exact⟨x,rfl,h1⟩
   | succ i =>
     obtain⟨y,e2,hy⟩:=qw (i:=i) h2 (by simpa using e);exact⟨y,by simpa using e2,hy⟩
def nP {ds:List PyData} (h:DatAll K H ds xs) (e:xs[i]?=some x):∃d,ds[i]?=some d/\DatV K H d x:=by
 have hi:i<ds.length:=by rw[<- cQ h]; exact(Jb.mp e).1
 obtain⟨y,e2,hy⟩:=qw h (JV hi);rw[e] at e2;cases e2;exact⟨_,JV hi,hy⟩
theorem gG:∀{ds:List PyData} {xs:List V} {d:PyData} {x:V},DatAll K H ds xs->DatV K H d x->DatAll K H (ds++[d]) (xs++[x])
 | [],xs,d,x,h,hx=>by unfold DatAll at h; subst h; exact cy hx bo
 | d' :: ds,xs,d,x,h,hx=>by unfold DatAll at h;obtain⟨y,r,rfl,h1,h2⟩:=h;exact cy h1 (gG h2 hx)
theorem lC:∀{ds:List PyData} {xs:List V},xs.length=ds.length->(∀(i:Nat) d x,ds[i]?=some d->xs[i]?=some x->DatV K H d x)->DatAll K H ds xs
 | [],[],_,_=>bo
 | d :: ds,x :: xs,e,h=>cy (h 0 d x rfl rfl) (lC (by simpa using e) λi d' x' h1 h2=>h (i+1) d' x' (by simpa using h1) (by simpa using h2))
 | [],_ :: _,e,_=>by cases e
 | _ :: _,[],e,_=>by cases e
def jU {α:Type} {f:α->PyData} {l:List α} (h:DatAll K H (l.map f) xs) (e:xs[i]?=some x):∃a,l[i]?=some a/\DatV K H (f a) x:=by
 obtain⟨d,hd,hx⟩:=nP h e;rw[Jc] at hd;cases ha:l[i]? with
 | none=>rw[ha] at hd; cases hd
 | some a=>rw[ha] at hd; cases hd; exact⟨a,rfl,hx⟩
def fg {α:Type} {f:α->PyData} {l:List α} {a:α} (h:DatAll K H (l.map f) xs) (e:l[i]?=some a):∃x,xs[i]?=some x/\DatV K H (f a) x:=qw h (by rw[Jc,e]; rfl)
def qe {α:Type} {f:α->PyData} {l:List α} {a:α} (h:DatAll K H ((l.take i).map f) xs) (e:l[i]?=some a) (hx:DatV K H (f a) x):DatAll K H ((l.take (i+1)).map f) (xs++[x]):=by rw[KH,e,Jf];exact gG h hx
def fh {ds:List PyData} (h:DatV K H (.list ds) v):∃a xs,v=.ref a/\aG K H a xs/\DatAll K H ds xs:=by unfold DatV at h; exact h
def iY {ds:List PyData} (h:DatV K H (.tuple ds) v):∃a xs,v=.ref a/\aI K H a xs/\DatAll K H ds xs:=by unfold DatV at h; exact h
def z8 {d e:PyData} (h:DatAll K H [d,e] xs):∃x y,xs=[x,y]/\DatV K H d x/\DatV K H e y:=by unfold DatAll at h;obtain⟨x,r,rfl,h1,h2⟩:=h;unfold DatAll at h2;obtain⟨y,r,rfl,h2,h3⟩:=h2;unfold DatAll at h3;subst h3;exact⟨x,y,rfl,h1,h2⟩
def mI {d e f:PyData} (h:DatAll K H [d,e,f] xs):∃x y z,xs=[x,y,z]/\DatV K H d x/\DatV K H e y/\DatV K H f z:=by unfold DatAll at h;obtain⟨x,r,rfl,h1,h2⟩:=h;obtain⟨y,z,rfl,h3,h4⟩:=z8 h2;exact⟨x,y,z,rfl,h1,h3,h4⟩
def fk {s:Str} (h:DatV K H (.str s) v):v=.str s:=by unfold DatV at h; exact h
def gU {s:Int} (h:DatV K H (.int s) v):v=.int s:=by unfold DatV at h; exact h
def GC (h:DatV K H .none v):v=.non:=by unfold DatV at h; exact h
def eK {d e:PyData} (h:DatV K H (.tuple [d,e]) v):∃a x y,v=.ref a/\aI K H a [x,y]/\DatV K H d x/\DatV K H e y:=by obtain⟨a,xs,rfl,h1,h2⟩:=iY h;obtain⟨x,y,rfl,h3,h4⟩:=z8 h2;exact⟨a,x,y,rfl,h1,h3,h4⟩
def dU {d e:PyData} {a:Addr} {y:V}(h:aI K H a [x,y]) (h1:DatV K H d x) (h2:DatV K H e y):DatV K H (.tuple [d,e]) (.ref a):=iF h (cy h1 (cy h2 bo))
mutual
def bQ:PyData->Bool
 | .tuple ds=>bc ds
 | .list _=>false
 | .dict _=>false
 | _=>true
def bc:List PyData->Bool
 | []=>true
 | d :: ds=>bQ d&&bc ds
end
def eS (H:Hp) (z:Addr):Prop:=H z=none\/∃ys,H z=some (.lst ys)
def eS.lst {z:Addr} {ys:List V} (h:H z=some (.lst ys)):eS H z:=.inr ⟨ys,h⟩
def eS.ers {z y:Addr} (h:eS H z):eS (ers y H) z:=by
 by_cases e:z=y
 . left; unfold L2.ers; rw[Je e]
 . unfold eS; rw[aS e]; exact h
variable {z:Addr}
def om {a:Addr}(h:aI K H a xs) (hz:eS H z):aI K (ers z H) a xs:=by
 have key:∀o:HO,H a=some o->(∀ys,o≠.lst ys)->a≠z:=λo ho hn e=>by
   subst e;rcases hz with hz|⟨ys,hz⟩
   . rw[ho] at hz; cases hz
   . rw[ho] at hz; exact hn ys (Option.some.inj hz)
 rcases h with(h|⟨o,h⟩)|h
 . exact .inl (.inl (by rw[aS (key _ h (by intro ys z; cases z))]; exact h))
 . exact .inl (.inr ⟨o,by rw[aS (key _ h (by intro ys z; cases z))]; exact h⟩)
 . exact .inr h
mutual
theorem DatV.ersT {z:Addr} (hz:eS H z):∀(d:PyData) (v:V),bQ d=true->DatV K H d v->DatV K (ers z H) d v
 | .none,v,t,h=>by unfold DatV at h ⊢; exact h
 | .bool b,v,t,h=>by unfold DatV at h ⊢; exact h
 | .int i,v,t,h=>by unfold DatV at h ⊢; exact h
 | .str x,v,t,h=>by unfold DatV at h ⊢; exact h
 | .list ds,v,t,h=>by unfold bQ at t; cases t
 | .tuple ds,v,t,h=>by unfold DatV at h ⊢;unfold bQ at t;obtain⟨a,xs,rfl,hq,hd⟩:=h;exact⟨a,xs,rfl,om hq hz,DatAll.ersT hz ds xs t hd⟩
 | .dict _,v,t,h=>by unfold bQ at t; cases t
theorem DatAll.ersT {z:Addr} (hz:eS H z):∀(ds:List PyData) (xs:List V),bc ds=true->DatAll K H ds xs->DatAll K (ers z H) ds xs
 | [],xs,t,h=>by unfold DatAll at h ⊢; exact h
 | d :: ds,xs,t,h=>by unfold DatAll at h ⊢;unfold bc at t;rw[Jx] at t;obtain⟨x,r,rfl,hd,hds⟩:=h;exact⟨x,r,rfl,DatV.ersT hz d x t.1 hd,DatAll.ersT hz ds r t.2 hds⟩
end
def DE {a:Addr}(h:H a=some (.lst xs)) (hz:a≠z):aG K (ers z H) a xs:=aG.of (by rw[aS hz]; exact h)
def gY (e:Same H H') (h:H z=none):Same H (ers z H'):=λb o hb=>by rw[aS (aV hb h)]; exact e _ _ hb
def oG {o:HO}:Same (ers z H) (upd H z o):=by rw[<- eu (o:=o)]; exact bY
end
def dw:BTr->PyData
 | .box k=>.tuple [.str "box",.int k]
 | .num k=>.tuple [.str "num",.int k]
 | .op i l r=>.tuple [.str (gT i),dw l,dw r]
def bI:Option BTr->PyData
 | none=>.none
 | some t=>dw t
def tok:BTr->Prop
 | .box k=>k<8 ^ 16
 | .num k=>k<8 ^ 16
 | .op i l r=>i<9/\tok l/\tok r
def cr:Option BTr->Prop
 | none=>True
 | some t=>tok t/\lv t<=8
theorem rB:∀t:BTr,bQ (dw t)=true
 | .box k=>by unfold dw bQ bc bc bc; unfold bQ; rfl
 | .num k=>by unfold dw bQ bc bc bc; unfold bQ; rfl
 | .op i l r=>by unfold dw bQ bc bc bc; rw[rB l,rB r]; unfold bc bQ; rfl
theorem Hx:∀o:Option BTr,bQ (bI o)=true
 | none=>by unfold bI bQ; rfl
 | some t=>rB t
theorem j0:∀{t:BTr},tok t->pe t
 | .box k,h=>h
 | .num k,h=>h
 | .op i l r,h=>⟨j0 h.2.1,j0 h.2.2⟩
def BE:∀i<9,PyData.strOk (gT i)=true:=by decide +kernel
theorem tY:∀{t:BTr},tok t->ao (cu t+1) (dw t)
 | .box k,h=>ao.tuple (n:=0) λd hd=>by
   rcases Jl.mp hd with e|hd
   . rw[e]; exact .str (by decide +kernel)
   . rw[Jz.mp hd]; exact .int _
 | .num k,h=>ao.tuple (n:=0) λd hd=>by
   rcases Jl.mp hd with e|hd
   . rw[e]; exact .str (by decide +kernel)
   . rw[Jz.mp hd]; exact .int _
 | .op i l r,h=>ao.tuple (n:=max (cu l) (cu r)+1) λd hd=>by
   rcases Jl.mp hd with e|hd
   . rw[e]; exact .str (BE i h.1)
   . rcases Jl.mp hd with e|hd
     . rw[e]; exact(tY h.2.1).mono (by omega)
     . rw[Jz.mp hd]; exact(tY h.2.2).mono (by omega)
def kA {o:Option BTr} (h:cr o):ao 8 (bI o):=by
 cases o with
 | none=>exact .none
 | some t=>exact(tY h.1).mono (by have:=kQ t; have:=h.2; omega)
def yG {o:Option BTr} (h:cr o):SeqAt.shaped (bI o)=true:=(kA h).shaped (by decide)
def ob:Option BTr->List Nat
 | none=>[48,48]
 | some tr=>49 :: rb tr
def xc {o:Option BTr} (h:cr o):(ob o).length<=600:=by
 cases o with
 | none=>show 2<=600; decide
 | some t =>
   have:=j8 (j0 h.1);have:=h.2;show(49 :: rb t).length<=600;rw[JY];omega
def Gh {K:W.Frag} {H:Hp} {o:Option BTr} (h:DatV K H (bI o) v):v=.non <-> o=none:=by
 cases o with
 | none=>exact⟨λ_=>rfl,λ_=>GC h⟩
 | some t =>
   refine⟨λe=>?_,λe=>by cases e⟩;subst e;cases t <;> (obtain⟨a,xs,h1,_⟩:=iY h; cases h1)
def lk (ah:List (Option BTr)) (o:Option BTr) (i:Nat):Bool:=match ah[i]? with
 | some a=>PyData.eqv (bI a) (bI o)
 | none=>false
def mY (ah pl:List (Option BTr)) (i:Nat):List Nat:=if lk ah (pl.getD i none) i=true then [48,49] else ob (pl.getD i none)
def vbL (ah pl:List (Option BTr)) (n:Nat):List (List Nat):=(List.range n).map (mY ah pl)
def vb (ah pl:List (Option BTr)):List Nat:=(vbL ah pl pl.length).flatten
def IG {l:List (List Nat)} {c:Nat} (h:∀x∈l,x.length<=c):(l.map (·.length)).sum<=l.length * c:=by
 induction l with
 | nil=>simp
 | cons x l ih =>
   have h1:=h x KA;have h2:=ih λy hy=>h y (K5 _ hy);rw[KG,List.sum_cons,JY,Nat.succ_mul];omega
def FJ (l:List (List Nat)):((l.map tx).map (·.length)).sum=(l.map (·.length)).sum:=by have e:(l.map ((λx:Str=>x.length) ∘ tx))=l.map (·.length):=KS λx _=>cX x;rw[KJ,e]
def Bz {l:List (List Nat)} {c:Nat} (h:∀x∈l,x.length<=c):l.flatten.length<=l.length * c:=by rw[List.length_flatten];exact IG h
def IE {k:Nat}:gS xs (some (k:Int)) (some ((k:Int)+1))=(xs[k]?).toList:=by
 have e:((k:Int)+1)=((k+1:Nat):Int):=by omega
 rw[e];unfold gS;rw[HT.sIx_nat,HT.sIx_nat];by_cases h:k<xs.length
 . rw[LG (by omega),LG (by omega),JV h,Md,<- List.getElem_cons_drop (h:=h)];rfl
 . rw[Ks (by omega),KB (by omega)];simp
end Pk
namespace Pk
open PySem L2 Gx Bt Bg K41
def pB:List Int:=[10007,10009,10037,10039,10061,10067,10069,10079]
def ni (j:Int):Int:=pB.getD (j%8).toNat 1
def EG (j:Int):bS (pB.map V.int) (j%8)=some (V.int (ni j)):=by
 have b:=eI j 8 (by decide);exact rg b.1 (by show j%8<8; exact b.2) |>.trans (by
   unfold ni;have:(j%8).toNat<pB.length:=by show(j%8).toNat<8; omega
   rw[JU,JU,JV this];rfl)
def FD (j:Int):0<ni j:=by
 have b:=eI j 8 (by decide);have key:∀i<8,0<pB.getD i 1:=by decide
 exact key _ (by omega)
def ap (c j m:Int):Int:=(c * 48271+7919 * j)%ni j%m
def dq (c j m:Int) (h:0<m):0<=ap c j m/\ap c j m<m:=eI _ m h
def ft (b:Int):Nat:=(1+ap b 8 8).toNat
def tG (b:Int):1<=ft b/\ft b<=8/\(ft b:Int)=1+ap b 8 8:=by have h:=dq b 8 8 (by decide);unfold ft;omega
def wd (b:Int):List Nat:=(List.range (ft b)).map λj:Nat=>lc (ap b j 26)
def iX (b:Int):Nat:=(ap b 9 (1+ap b 8 8)).toNat
def vQ (b:Int):iX b<ft b/\(iX b:Int)=ap b 9 (1+ap b 8 8):=by have h1:=tG b;have h2:=dq b 9 (1+ap b 8 8) (by omega);unfold iX;omega
def wk (b k:Int):List Nat:=(wd b).set (iX b) (lc ((ap b 10 26+k)%26))
def bx (b k:Int):Str:=if fS (.str (tx (wk b k))) tkV=true then tx (wk b k++[122]) else tx (wk b k)
def vC (b:Int):(wd b).length=ft b:=by unfold wd; rw[JR,KI]
def nt (b k:Int):(wk b k).length=ft b:=by unfold wk; rw[LF,vC]
variable {b:Int}
def yy {k k':Int}(h:wk b k=wk b k'):(ap b 10 26+k)%26=(ap b 10 26+k')%26:=by
 have hl:iX b<(wd b).length:=by rw[vC]; exact(vQ b).1
 have h1:(wk b k)[iX b]?=some (lc ((ap b 10 26+k)%26)):=by unfold wk; rw[Kf hl]
 have h2:(wk b k')[iX b]?=some (lc ((ap b 10 26+k')%26)):=by unfold wk; rw[Kf hl]
 rw[h,h2] at h1;have b1:=eI (ap b 10 26+k) 26 (by decide);have b2:=eI (ap b 10 26+k') 26 (by decide);exact GJ b1.1 b1.2 b2.1 b2.2 (Option.some.inj h1).symm
def yY {k k':Int}(h:bx b k=bx b k'):(ap b 10 26+k)%26=(ap b 10 26+k')%26:=by
 have l1:=nt b k;have l2:=nt b k';unfold bx at h;split at h
 . split at h
   . exact yy (List.append_cancel_right (tx_inj h))
   . have:=Jt List.length (tx_inj h);rw[JS] at this;simp at this;omega
 . split at h
   . have:=Jt List.length (tx_inj h);rw[JS] at this;simp at this;omega
   . exact yy (tx_inj h)
def wS {k:Int}:∀c∈wk b k,c∈K12.lets.cps.toList:=λc hc=>by
 unfold wk at hc;rcases MQ hc with h|h
 . unfold wd at h;obtain⟨j,_,rfl⟩:=Jy.mp h;have b1:=dq b j 26 (by decide);exact vj b1.1 b1.2
 . rw[h];have b1:=eI (ap b 10 26+k) 26 (by decide);exact vj b1.1 b1.2
def sh (b k:Int):K12.Nm (bx b k):=by
 have l1:=nt b k;have l2:=tG b;unfold bx;split
 . refine⟨by rw[cX,JS,l1]; simp; omega,wO λc hc=>?_⟩;rcases K1.mp hc with h|h
   . exact wS c h
   . rw[Jz.mp h]; decide +kernel
 . exact⟨by rw[cX,l1]; omega,wO wS⟩
def cR (K:W.Frag) (H:Hp) (n:Nat) (v:V):Prop:=∃d,bQ d=true/\ao n d/\DatV K H d v
def dh (K:W.Frag) (H:Hp) (n:Nat) (xs:List V):Prop:=∃ds,bc ds=true/\(∀d∈ds,ao n d)/\DatAll K H ds xs
variable {z:Addr} {xs:List V}
section
variable {K:W.Frag} {H H':Hp} {n m:Nat}
def cR.mono {v:V} (h:cR K H n v) (e:Same H H'):cR K H' n v:=let ⟨d,t,l,z⟩:=h; ⟨d,t,l,DatV.mono e d v z⟩
def cR.up {v:V} (h:cR K H n v) (e:n<=m):cR K H m v:=let ⟨d,t,l,z⟩:=h; ⟨d,t,l.mono e,z⟩
def cR.str {s:Str} (h:PyData.strOk s=true):cR K H n (.str s):=⟨.str s,by unfold bQ; rfl,ao.str h,de s⟩
def cR.int {i:Int}:cR K H n (.int i):=⟨.int i,by unfold bQ; rfl,ao.int i,da i⟩
def cR.bl {b:Bool}:cR K H n (.bl b):=⟨.bool b,by unfold bQ; rfl,ao.bool b,By b⟩
def dh.mono {xs:List V} (h:dh K H n xs) (e:Same H H'):dh K H' n xs:=let ⟨d,t,l,z⟩:=h; ⟨d,t,l,DatAll.mono e d xs z⟩
def dh.ers (h:dh K H n xs) (hz:eS H z):dh K (ers z H) n xs:=let ⟨d,t,l,y⟩:=h; ⟨d,t,l,DatAll.ersT hz d xs t y⟩
def dh.nil:dh K H n []:=⟨[],by unfold bc; rfl,λd h=>(by cases h),bo⟩
def dh.cons {x:V} {xs:List V} (h:cR K H n x) (t:dh K H n xs):dh K H n (x :: xs):=by obtain⟨d,u,l,z⟩:=h;obtain⟨ds,us,ls,zs⟩:=t;exact⟨d :: ds,by unfold bc; rw[u,us]; rfl,λe he=>(Jl.mp he).elim (λz=>z ▸ l) (ls e),cy z zs⟩
theorem dh.of:∀{xs:List V},(∀x∈xs,cR K H n x)->dh K H n xs
 | [],_=>.nil
 | x :: xs,h=>.cons (h x KA) (dh.of λy hy=>h y (K5 _ hy))
def cR.tup {a:Addr} {xs:List V} (h:aI K H a xs) (t:dh K H n xs):cR K H (n+1) (.ref a):=by obtain⟨ds,us,ls,zs⟩:=t;exact⟨.tuple ds,by unfold bQ; exact us,ao.tuple ls,iF h zs⟩
def kR (K:W.Frag) (H:Hp) (x:RR):Prop:=RRok K H x/\cR K H 3 (.ref x.w.r)
def kR.mono {x:RR} (h:kR K H x) (e:Same H H'):kR K H' x:=⟨Bg.RRok.mono h.1 e,h.2.mono e⟩
def Eb {g:Option Str} {as:List V} (h:K12.RowS K H xs g as) (hz:eS H z):K12.RowS K (ers z H) xs g as:=by
 cases h with
 | call x f p as hp=>exact .call x f p as (om hp hz)
 | copy x a=>exact .copy x a
 | op x s a b=>exact .op x s a b
 | new x=>exact .new x
 | get x a f=>exact .get x a f
 | put a f b=>exact .put a f b
 | out a=>exact .out a
 | back a=>exact .back a
 | ifs a=>exact .ifs a
 | whl a=>exact .whl a
 | els=>exact .els
 | fin=>exact .fin
def Ds {f:F2.Fd} (h:F2.FnAt K H f) (hz:eS H z):F2.FnAt K (ers z H) f:=by
 have tt:∀{a:Addr} {xs:List V},aI K H a xs->aI K (ers z H) a xs:=λh=>om h hz;refine⟨tt h.fn,tt h.pr,tt h.rw_,λw hw=>?_,?_,h.wf,h.len⟩
 . obtain⟨rest,h1,h2⟩:=h.rk w hw;exact⟨rest,tt h1,h2⟩
 . obtain⟨n,b,pp,r,z1,z2,z3⟩:=h.fu.fn;refine⟨⟨n,b,pp,r,tt z1,tt z2,tt z3⟩,λd hd=>?_,h.fu.pn,h.fu.pl,h.fu.dl⟩;have hr:=h.fu.rows d hd;exact⟨let ⟨xs,h1,h2⟩:=hr.row; ⟨xs,tt h1,Eb h2 hz⟩,hr.ats,hr.len,hr.nm⟩
end
theorem uE {ks:List Str} (g:K13.Good ks []):∀n,K13.Good (ks++(List.replicate n [("if":Str),"else","end"]).flatten) []
 | 0=>by rw[List.replicate_zero,MW,Jv]; exact g
 | n+1=>by
   have g0:=uE g n;have g1:=((g0.opn (x:="if") (by decide +kernel)).els').fin;rw[List.replicate_succ',KY];have e:ks++((List.replicate n [("if":Str),"else","end"]).flatten++[[("if":Str),"else","end"]].flatten)=ks++(List.replicate n [("if":Str),"else","end"]).flatten++[("if":Str)]++[("else":Str)]++[("end":Str)]:=by simp
   rw[e];exact g1
def vJ (a n:Nat):K13.Wf (List.replicate a ("copy":Str)++(List.replicate n [("if":Str),"else","end"]).flatten++[("back":Str)]):=by have g0:=xa K13.good_nil (x:="copy") (by decide +kernel) (by decide +kernel) (by decide +kernel) a;rw[Lf] at g0;exact(uE g0 n).back
structure Bd where
 f:F2.Fd
 cnt:Nat
 e:Addr
structure EntAt (K:W.Frag) (H:Hp) (x:Bd):Prop where
 en:aG K H x.e [.ref x.f.fa,.int x.cnt]
 fn:F2.FnAt K H x.f
 hd:dh K H 4 [x.f.fo,.ref x.f.pa,.ref x.f.ra]
 ne:x.f.rs≠[]
 cn:x.cnt<=24
 ok:PyData.strOk x.f.name=true
 dr:aI K H x.f.ra (x.f.ds.map λd=>V.ref d.r)
def EntAt.mono {K:W.Frag} {H H':Hp} {x:Bd} (h:EntAt K H x) (e:Same H H'):EntAt K H' x:=⟨e.seq h.en,h.fn.mono e,h.hd.mono e,h.ne,h.cn,h.ok,e.tup h.dr⟩
structure BuiltAt (K:W.Frag) (H:Hp) (b:Addr) (bs:List Bd):Prop where
 ls:aG K H b (bs.map λx=>V.ref x.e)
 all:∀x∈bs,EntAt K H x
 n0:bs≠[]
 n12:bs.length<=12
 nd:(bs.map λx=>x.f.name).Nodup
def BuiltAt.mono {K:W.Frag} {H H':Hp} {b:Addr} {bs:List Bd} (h:BuiltAt K H b bs) (e:Same H H'):BuiltAt K H' b bs:=⟨e.seq h.ls,λx hx=>(h.all x hx).mono e,h.n0,h.n12,h.nd⟩
def dS (fns:List F2.Fd) (k:Nat):Str:=(fns[k]?.map (·.name)).getD ""
def jf {fns:List F2.Fd} {k:Nat} {f:F2.Fd} (h:fns[k]?=some f):dS fns k=f.name:=by unfold dS; rw[h]; rfl
def HR {fns:List F2.Fd} (nd:(fns.map (·.name)).Nodup) {i j:Nat} (hi:i<fns.length) (hj:j<fns.length) (h:dS fns i=dS fns j):i=j:=by
 rw[jf (JV hi),jf (JV hj)] at h;have h1:(fns.map (·.name))[i]?=some fns[i].name:=by rw[Jc,JV hi]; rfl
 have h2:(fns.map (·.name))[j]?=some fns[j].name:=by rw[Jc,JV hj]; rfl
 rw[h] at h1;exact(List.getElem?_inj (Jb.mp h1).1 nd).mp (h1.trans h2.symm)
structure Mk where
 ch:List (Nat×Nat)
 vs:List (List (Option BTr))
def c9:Mk:=⟨[],[]⟩
structure MOk (n:Nat) (m:Mk):Prop where
 l3:m.ch.length<=3
 ix:∀c∈m.ch,c.1<n/\c.2<100
 vl:m.vs.length=m.ch.length
 c24:∀v∈m.vs,v.length<=24
 ok:∀v∈m.vs,∀o∈v,cr o
def nZ (cn:Nat->Nat) (m:Mk):Prop:=∀(l:Nat) c v,m.ch[l]?=some c->m.vs[l]?=some v->v.length=cn c.1
def C5 (n:Nat):MOk n c9:=⟨Jw _,(λc h=>by cases h),rfl,(λv h=>by cases h),(λv h=>by cases h)⟩
theorem zJ (cn:Nat->Nat):nZ cn c9:=λl c v h=>by cases h
def gJ (m0:Mk) (l k:Nat):Bool:=match m0.ch[l]? with
 | some c=>decide (c.1=k)
 | none=>false
def cF (m0:Mk) (l k:Nat):List (Option BTr):=if gJ m0 l k=true then m0.vs.getD l [] else []
def fB (c:Nat×Nat):List Nat:=nb c.1++nb c.2
def jJ (m:Mk) (l:Nat):Nat:=(m.ch.getD l (0,0)).1
def du (m:Mk) (l:Nat):List (Option BTr):=m.vs.getD l []
def wB (m0 m:Mk) (l:Nat):List Nat:=vb (cF m0 l (jJ m l)) (du m l)
def mb (m0 m:Mk):List Nat:=nb m.ch.length++(m.ch.map fB).flatten++((List.range m.ch.length).map (wB m0 m)).flatten
def cN (ms:List Mk):Nat->Mk
 | 0=>c9
 | j+1=>ms.getD j c9
def eY (ms:List Mk) (n:Nat):List (List Nat):=(List.range n).map λj=>mb (cN ms j) (ms.getD j c9)
def aj (ms:List Mk):List Nat:=nb ms.length++(eY ms ms.length).flatten
variable {n:Nat}
theorem GR (h:n<8 ^ 16):(nb n).length<=64:=iq 15 n h
theorem iR (h:n<1000):(nb n).length<=64:=GR (by rw[cD]; omega)
variable {m:Mk}
theorem FE (h:MOk n m) (l:Nat):(du m l).length<=24/\∀o∈du m l,cr o:=by
 unfold du;rw[JU];cases e:m.vs[l]? with
 | none=>exact⟨Jw _,λo h=>by cases h⟩
 | some v=>exact⟨h.c24 v (JW e),h.ok v (JW e)⟩
theorem G9 (h:MOk n m) (l k:Nat):(cF m l k).length<=24/\∀o∈cF m l k,cr o:=by
 unfold cF;split
 . exact FE h l
 . exact⟨Jw _,λo h=>by cases h⟩
def dj (v:List (Option BTr)):PyData:=.list (v.map bI)
def io (c:Nat×Nat):PyData:=.tuple [.int c.1,.int c.2]
def iO (m:Mk):PyData:=.tuple [.list (m.ch.map io),.list (m.vs.map dj)]
def gw (nm:Nat->Str) (c:Nat×Nat):PyData:=.tuple [.str (nm c.1),.int c.2]
def iB (nm:Nat->Str) (m:Mk):PyData:=.tuple [.tuple (m.ch.map (gw nm)),.list (m.vs.map dj)]
def iG (nm:Nat->Str) (e:Str×List Mk):PyData:=.tuple [.str e.1,.list (e.2.map (iB nm))]
theorem jH {α:Type} {f:α->PyData} {l:List α} (h:∀a∈l,ao n (f a)):∀d∈l.map f,ao n d:=λd hd=>by obtain⟨a,ha,rfl⟩:=Jy.mp hd;exact h a ha
theorem pY {a b:PyData} (h1:ao n a) (h2:ao n b):∀d∈[a,b],ao n d:=λd hd=>by
 rcases Jl.mp hd with e|hd
 . rw[e]; exact h1
 . rw[Jz.mp hd]; exact h2
theorem uV {v:List (Option BTr)} (h:∀o∈v,cr o):ao 9 (dj v):=ao.list (jH λo ho=>kA (h o ho))
theorem GM {nm:Nat->Str} (h:MOk n m) (hs:∀k<n,PyData.strOk (nm k)=true):ao 11 (iB nm m) :=
 ao.tuple (pY (ao.tuple (n:=9) (jH λc hc=>ao.tuple (n:=8) (pY (.str (hs _ (h.ix c hc).1)) (.int _)))) (ao.list (jH λv hv=>uV (h.ok v hv))))
theorem IX {nm:Nat->Str} {e:Str×List Mk} (h:∀m∈e.2,MOk n m) (hs:∀k<n,PyData.strOk (nm k)=true) (h1:PyData.strOk e.1=true):ao 13 (iG nm e) :=
 ao.tuple (pY (.str h1) (ao.list (jH λm hm=>GM (h m hm) hs)))
theorem pQ (nm:Nat->Str) (c:Nat×Nat):bQ (gw nm c)=true:=by unfold gw bQ bc bc bc; unfold bQ; rfl
theorem sK (c:Nat×Nat):bQ (io c)=true:=by unfold io bQ bc bc bc; unfold bQ; rfl
theorem gr {α:Type} {f:α->PyData} (h:∀a,bQ (f a)=true):∀l:List α,bc (l.map f)=true
 | []=>by show bc []=true; unfold bc; rfl
 | a :: l=>by rw[KG]; unfold bc; rw[h a,gr h l]; rfl
theorem rm (nm:Nat->Str) (ch:List (Nat×Nat)):bQ (.tuple (ch.map (gw nm)))=true:=by unfold bQ; exact gr (pQ nm) ch
variable {H:Hp}
theorem BW {K:W.Frag} {ah:List (Option BTr)} {ys:List V} (h:DatAll K H (ah.map bI) ys) (i:Nat):DatAll K H ((ah[i]?).toList.map bI) (ys[i]?).toList:=by
 cases e:ah[i]? with
 | none =>
   have:ys[i]?=none:=KB (by have:=Le.mp e;rw[cQ h,JR];exact this)
   rw[this];exact bo
 | some a =>
   obtain⟨x,hx,hd⟩:=fg h e;rw[hx];exact cy hd bo
theorem Fz (x y:PyData):PyData.eqv (.list [x]) (.list [y])=PyData.eqv x y:=by rw[show PyData.eqv (.list [x]) (.list [y])=PyData.eqvAll [x] [y] by rw[PyData.eqv],PyData.eqvAll,PyData.eqvAll,Bool.and_true]
theorem J5 (l:List (List Nat)) (x:List Nat):((l++[x]).map tx).map V.str=(l.map tx).map V.str++[V.str (tx x)]:=by rw[Jf,Jf]; rfl
theorem IC (l:List (List Nat)):((l.map tx).map V.str).length=l.length:=by rw[JR,JR]
theorem lB {l:List (List Nat)} (h:l.flatten.length<=16777216):((l.map tx).map (·.length)).sum+(l.map tx).length * ("":Str).length<=16777216:=by rw[FJ,<- List.length_flatten];show l.flatten.length+(l.map tx).length * 0<=16777216;omega
theorem mP {α:Type} {p:α->Prop} {a:α} (h:p a):∀b∈[a],p b:=λb hb=>by rw[Jz.mp hb]; exact h
theorem GU (b k:Int):(((List.range (ft b)).map λj:Nat=>V.str (tx [lc (ap b j 26)])).set (iX b) (V.str (tx [lc ((ap b 10 26+k)%26)])))=(((wk b k).map λc=>[c]).map tx).map V.str:=by
 have e:((List.range (ft b)).map λj:Nat=>V.str (tx [lc (ap b j 26)]))=(wd b).map λc=>V.str (tx [c]):=by unfold wd; rw[KJ]; rfl
 rw[e,KJ,KJ];unfold wk;rw[List.map_set];rfl
theorem xC:∀l:List Nat,(l.map λc=>[c]).flatten=l
 | []=>rfl
 | x :: l=>by rw[KG,KE,xC l]; rfl
def xr:List V:=[V.str "000",V.str "001",V.str "010",V.str "011",V.str "100",V.str "101",V.str "110",V.str "111"]
theorem uG:∀d<8,bS xr (d:Nat)=some (V.str (tx (pb d 3))):=by decide +kernel
def iJ (ns:List Int) (k:Int):Int:=if(0:Int)<(ns.length:Int) then ns.getD (k%(ns.length:Int)).toNat 0%999983 else 7
def gD (ns:List Int) (k:Int):Int:=if k<(ns.length:Int) then ns.getD k.toNat 0 else(iJ ns k+613 * k+29) * (iJ ns k+71 * k+5)%1000003
theorem DQ {K:W.Frag} {x:Bd} {ys:List V} (h:EntAt K H x) (hz:H z=some (.lst ys)) (he:H x.e=some (.lst [.ref x.f.fa,.int x.cnt])) (hn:x.e≠z):EntAt K (ers z H) x :=
 ⟨DE he hn,Ds h.fn (.lst hz),h.hd.ers (.lst hz),h.ne,h.cn,h.ok,om h.dr (.lst hz)⟩
theorem Cv (h:n<=12):((List.range n).map λj:Nat=>bx b ((j:Int)+3)).Nodup:=by refine List.pairwise_map.mpr (MX (λ{i j} hi hj hlt e=>?_) List.pairwise_lt_range);have h1:=Ka.mp hi;have h2:=Ka.mp hj;have:=yY e;omega
variable {o:HO}
theorem DatAll.putT {K:W.Frag} {ds:List PyData} {ys:List V}{p:Addr} (t:bc ds=true) (hp:H p=some (.lst ys)) (h:DatAll K H ds xs):DatAll K (upd H p o) ds xs:=L2.DatAll.mono oG _ _ (DatAll.ersT (.lst hp) _ _ t h)
theorem CW {y:Addr}:ers y (ers z (upd H y o))=ers y (ers z H):=by
 funext b;unfold ers upd;by_cases h:b=y
 . rw[Je h,Je h]
 . rw[Ja h,Ja h,Ja h]
theorem gC (l:List (Option BTr)):bc (l.map bI)=true:=gr Hx l
theorem rM (l:List PyData):PyData.eqv (.list l) (.list [])=l.isEmpty:=by
 rw[show PyData.eqv (.list l) (.list [])=PyData.eqvAll l [] by rw[PyData.eqv]];cases l with
 | nil=>rw[PyData.eqvAll]; rfl
 | cons a l=>rw[PyData.eqvAll]; rfl
theorem CM (xs:List V) (x y:V):(xs++[x]).set xs.length y=xs++[y]:=by simp
theorem J9 (n:Nat):dQ (n+1) (-1)=some n:=by unfold dQ;rw[Ja (by decide),Je (by omega)];congr 1;omega
theorem DO {K:W.Frag} {rr:List RR} {a:Addr} (h:aI K H a (rr.map λx=>V.ref x.w.r)) (h3:∀x∈rr,RRok K H x):aI K H a ((rr.map (·.d)).map λd=>V.ref d.r):=by
 rw[KJ];have:(rr.map λx=>V.ref x.w.r)=rr.map ((λd=>V.ref d.r) ∘ (·.d)):=KS λx hx=>by show V.ref x.w.r=V.ref x.d.r;rw[(h3 x hx).1]
 rw[<- this];exact h
def bf (l:List (List Nat)):List V:=(l.map tx).map V.str
theorem uJ (l:List (List Nat)) (x:List Nat):bf (l++[x])=bf l++[V.str (tx x)]:=J5 l x
theorem mD (l:List (List Nat)):(bf l).length=l.length:=IC l
theorem qv {l:Nat} {v:List (Option BTr)} (h:m.vs[l]?=some v):du m l=v:=by unfold du; rw[JU,h]; rfl
theorem D8 {l:Nat} {c:Nat×Nat} (h:m.ch[l]?=some c):jJ m l=c.1:=by unfold jJ; rw[JU,h]; rfl
def nwL (H0 H:Hp):Hp:=λb=>match H0 b with
 | some (.lst _)=>none
 | _=>H b
section
variable {K:W.Frag} {H0 H H':Hp}
theorem nM {b:Addr} (h:nwL H0 H b=some o):(∀ys,H0 b≠some (.lst ys))/\H b=some o:=by
 unfold nwL at h;split at h
 . cases h
 . rename_i e
   exact⟨λys z=>e ys z,h⟩
theorem lz {b:Addr} (h:∀ys,H0 b≠some (.lst ys)):nwL H0 H b=H b:=by
 unfold nwL;split
 . rename_i ys e
   exact absurd e (h ys)
 . rfl
theorem fY {b:Addr} (h:H0 b=none):nwL H0 H b=H b:=lz λys z=>by rw[h] at z; cases z
theorem rN:Same (nwL H0 H) H:=λb o h=>(nM h).2
theorem Same.nwL (e:Same H H'):Same (nwL H0 H) (nwL H0 H'):=λb o h=>by have:=nM h;rw[lz this.1];exact e b o this.2
theorem Iw {a:Addr} (e:Same H0 H) (h:aI K H a xs):aI K (nwL H0 H) a xs:=by
 have key:∀o:HO,H a=some o->(∀ys,o≠.lst ys)->nwL H0 H a=some o:=λo ho hn=>by
   rw[lz λys z=>?_]
   . exact ho
   . have:=e _ _ z;rw[ho] at this;exact hn ys (Option.some.inj this)
 rcases h with(h|⟨o,h⟩)|h
 . exact .inl (.inl (key _ h (by intro ys z; cases z)))
 . exact .inl (.inr ⟨o,key _ h (by intro ys z; cases z)⟩)
 . exact .inr h
mutual
theorem DatV.nwT (e:Same H0 H):∀(d:PyData) (v:V),bQ d=true->DatV K H d v->DatV K (nwL H0 H) d v
 | .none,v,t,h=>by unfold DatV at h ⊢; exact h
 | .bool b,v,t,h=>by unfold DatV at h ⊢; exact h
 | .int i,v,t,h=>by unfold DatV at h ⊢; exact h
 | .str x,v,t,h=>by unfold DatV at h ⊢; exact h
 | .list ds,v,t,h=>by unfold bQ at t; cases t
 | .tuple ds,v,t,h=>by unfold DatV at h ⊢;unfold bQ at t;obtain⟨a,xs,rfl,hq,hd⟩:=h;exact⟨a,xs,rfl,Iw e hq,DatAll.nwT e ds xs t hd⟩
 | .dict _,v,t,h=>by unfold bQ at t; cases t
theorem DatAll.nwT (e:Same H0 H):∀(ds:List PyData) (xs:List V),bc ds=true->DatAll K H ds xs->DatAll K (nwL H0 H) ds xs
 | [],xs,t,h=>by unfold DatAll at h ⊢; exact h
 | d :: ds,xs,t,h=>by unfold DatAll at h ⊢;unfold bc at t;rw[Jx] at t;obtain⟨x,r,rfl,hd,hds⟩:=h;exact⟨x,r,rfl,DatV.nwT e d x t.1 hd,DatAll.nwT e ds r t.2 hds⟩
end
theorem rn {l:Addr} :ers l (nwL H0 (upd H l o))=ers l (nwL H0 H):=by
 funext b;by_cases h:b=l
 . subst h; unfold ers; rw[Je rfl,Je rfl]
 . rw[aS h,aS h];unfold nwL;rw[aQ h]
end
def ax (l:List Nat):Prop:=∀x∈l,x=48\/x=49
theorem uf:ax []:=λx h=>by cases h
theorem cV {c:Nat} {l:List Nat} (h:c=48\/c=49) (t:ax l):ax (c :: l):=λx hx=>(Jl.mp hx).elim (λe=>e ▸ h) (t x)
theorem fR {a b:List Nat} (h:ax a) (t:ax b):ax (a++b):=λx hx=>(K1.mp hx).elim (h x) (t x)
theorem qI {l:List (List Nat)} (h:∀x∈l,ax x):ax l.flatten:=λc hc=>by obtain⟨x,hx,hc⟩:=Kn.mp hc;exact h x hx c hc
theorem ji (n c:Nat):ax (pb n c):=λx hx=>Ed hx
theorem i5 (n:Nat):ax (nb n):=by
 induction n using Nat.strongRecOn with
 | _ n ih =>
   by_cases h:n<8
   . rw[fQ h]; exact cV (.inl rfl) (ji _ _)
   . rw[gB h]; exact fR (cV (.inr rfl) (ji _ _)) (ih (n / 8) (by omega))
theorem lI:∀t:BTr,ax (rb t)
 | .box k=>cV (.inl rfl) (i5 k)
 | .num k=>cV (.inr rfl) (cV (.inl rfl) (i5 k))
 | .op i l r=>fR (fR (cV (.inr rfl) (cV (.inr rfl) (ji _ _))) (lI l)) (lI r)
theorem wa (o:Option BTr):ax (ob o):=by
 cases o with
 | none=>exact cV (.inl rfl) (cV (.inl rfl) uf)
 | some t=>exact cV (.inr rfl) (lI t)
theorem ED (ah pl:List (Option BTr)):ax (vb ah pl):=qI λx hx=>by
 obtain⟨i,_,rfl⟩:=Jy.mp hx;unfold mY;split
 . exact cV (.inl rfl) (cV (.inr rfl) uf)
 . exact wa _
theorem Bi (m0 m:Mk):ax (mb m0 m):=fR (fR (i5 _) (qI λx hx=>by
 obtain⟨c,_,rfl⟩:=Jy.mp hx;exact fR (i5 _) (i5 _))) (qI λx hx=>by
 obtain⟨l,_,rfl⟩:=Jy.mp hx;exact ED _ _)
theorem EJ (ms:List Mk):ax (aj ms):=fR (i5 _) (qI λx hx=>by obtain⟨j,_,rfl⟩:=Jy.mp hx;exact Bi _ _)
theorem B6 {l:List Nat} (h:ax l):PyData.strOk (tx l)=true:=by
 unfold PyData.strOk;rw[Array.all_eq_true'];intro x hx;have hx:x∈l:=by simpa [tx] using hx
 rcases h x hx with e|e <;> subst e <;> decide
end Pk
namespace Dc
open PySem L2 Gx Bt Pk
def bv (l:List Nat):Nat:=l.foldl (λp c=>2 * p+if c=49 then 1 else 0) 0
theorem gz:∀n<8,∃x y z,pb n 3=[x,y,z]/\bv [x,y,z]=n/\(n=0 <-> x=48/\y=48/\z=48):=by
 intro n h
 match n,h with
 | 0,_=>exact⟨48,48,48,by decide,by decide,by decide⟩
 | 1,_=>exact⟨48,48,49,by decide,by decide,by decide⟩
 | 2,_=>exact⟨48,49,48,by decide,by decide,by decide⟩
 | 3,_=>exact⟨48,49,49,by decide,by decide,by decide⟩
 | 4,_=>exact⟨49,48,48,by decide,by decide,by decide⟩
 | 5,_=>exact⟨49,48,49,by decide,by decide,by decide⟩
 | 6,_=>exact⟨49,49,48,by decide,by decide,by decide⟩
 | 7,_=>exact⟨49,49,49,by decide,by decide,by decide⟩
theorem bv3 {x y z:Nat} (hx:x=48\/x=49) (hy:y=48\/y=49) (hz:z=48\/z=49):bv [x,y,z]<8/\pb (bv [x,y,z]) 3=[x,y,z]:=by rcases hx with rfl|rfl <;> rcases hy with rfl|rfl <;> rcases hz with rfl|rfl <;> exact⟨by decide,by decide⟩
theorem bv4 {x y z u:Nat} (hx:x=48\/x=49) (hy:y=48\/y=49) (hz:z=48\/z=49) (hu:u=48\/u=49):bv [x,y,z,u]<16/\pb (bv [x,y,z,u]) 4=[x,y,z,u]:=by rcases hx with rfl|rfl <;> rcases hy with rfl|rfl <;> rcases hz with rfl|rfl <;> rcases hu with rfl|rfl <;> exact⟨by decide,by decide⟩
theorem pb4:∀n<9,∃x y z u,pb n 4=[x,y,z,u]/\bv [x,y,z,u]=n:=by
 intro n h
 match n,h with
 | 0,_=>exact⟨48,48,48,48,by decide,by decide⟩
 | 1,_=>exact⟨48,48,48,49,by decide,by decide⟩
 | 2,_=>exact⟨48,48,49,48,by decide,by decide⟩
 | 3,_=>exact⟨48,48,49,49,by decide,by decide⟩
 | 4,_=>exact⟨48,49,48,48,by decide,by decide⟩
 | 5,_=>exact⟨48,49,48,49,by decide,by decide⟩
 | 6,_=>exact⟨48,49,49,48,by decide,by decide⟩
 | 7,_=>exact⟨48,49,49,49,by decide,by decide⟩
 | 8,_=>exact⟨49,48,48,48,by decide,by decide⟩
def cG:Nat->Nat->Nat->List Nat->Option (Nat×List Nat)
 | f+1,k,acc,a :: b :: c :: d :: r=>if a=48 then(if(b=48/\c=48/\d=48)/\0<k then none else some (acc+bv [b,c,d] * 8 ^ k,r)) else cG f (k+1) (acc+bv [b,c,d] * 8 ^ k) r
 | _,_,_,_=>none
theorem uR:∀(f k acc n:Nat) (r:List Nat),n<8 ^ (f+1)->(0<k->0<n)->cG (f+1) k acc (nb n++r)=some (acc+n * 8 ^ k,r):=by
 intro f
 induction f with
 | zero =>
   intro k acc n r hn hk;have h8:n<8:=by simpa using hn
   obtain⟨x,y,z,e,v,nz⟩:=gz n h8;rw[fQ h8,e];show(if(48:Nat)=48 then(if(x=48/\y=48/\z=48)/\0<k then none else some (acc+bv [x,y,z] * 8 ^ k,r)) else _)=_;rw[Je rfl,Ja (λh=>by have:=hk h.2; have:=nz.mpr h.1; omega),v]
 | succ f ih =>
   intro k acc n r hn hk;by_cases h8:n<8
   . obtain⟨x,y,z,e,v,nz⟩:=gz n h8;rw[fQ h8,e];show(if(48:Nat)=48 then(if(x=48/\y=48/\z=48)/\0<k then none else some (acc+bv [x,y,z] * 8 ^ k,r)) else _)=_;rw[Je rfl,Ja (λh=>by have:=hk h.2; have:=nz.mpr h.1; omega),v]
   . obtain⟨x,y,z,e,v,nz⟩:=gz (n%8) (Mm _ (by decide));rw[gB h8,e];show(if(49:Nat)=48 then _ else cG (f+1) (k+1) (acc+bv [x,y,z] * 8 ^ k) (nb (n / 8)++r))=_;rw[Ja (by decide),v,ih (k+1) _ (n / 8) r (by rw[Ll] at hn; omega) (λ_=>by omega)];congr 2;rw[Ll];have e1:n / 8 * (8 ^ k * 8)=(n / 8 * 8) * 8 ^ k:=by rw[M1 (8 ^ k) 8,Nat.mul_assoc]
     have e2:n%8 * 8 ^ k+n / 8 * 8 * 8 ^ k=n * 8 ^ k:=by rw[<- Nat.add_mul]; congr 1; omega
     rw[e1,Mo,e2]
theorem xx:∀(f k acc:Nat) (l:List Nat) (m:Nat) (r:List Nat),ax l->cG f k acc l=some (m,r)->∃n,m=acc+n * 8 ^ k/\l=nb n++r/\n<8 ^ f/\(0<k->0<n):=by
 intro f
 induction f with
 | zero=>intro k acc l m r _ h; cases l <;> simp [cG] at h
 | succ f ih =>
   intro k acc l m r hb h
   match l,hb,h with
   | a :: b :: c :: d :: l',hb,h =>
     have ba:=hb a (by simp);have hp:=bv3 (hb b (by simp)) (hb c (by simp)) (hb d (by simp));have hl:ax l':=λx hx=>hb x (by simp [hx]);have h:(if a=48 then(if(b=48/\c=48/\d=48)/\0<k then none else some (acc+bv [b,c,d] * 8 ^ k,l')) else cG f (k+1) (acc+bv [b,c,d] * 8 ^ k) l')=some (m,r):=h;by_cases ha:a=48
     . rw[Je ha] at h;by_cases hz:(b=48/\c=48/\d=48)/\0<k
       . rw[Je hz] at h; cases h
       . rw[Ja hz] at h;cases h;refine⟨bv [b,c,d],rfl,?_,?_,λhk=>?_⟩
         . rw[fQ hp.1,hp.2,ha]; rfl
         . exact Jo hp.1 (by rw[Ll]; exact Nat.le_mul_of_pos_left 8 (Nat.pow_pos (by decide)))
         . refine Nat.pos_of_ne_zero λz=>hz ⟨?_,hk⟩;obtain⟨x,y,w,e,v,nz⟩:=gz _ hp.1;rw[hp.2] at e;cases e;exact nz.mp z
     . rw[Ja ha] at h;have ha:a=49:=ba.resolve_left ha;obtain⟨n,h1,h2,h3,h4⟩:=ih (k+1) _ l' m r hl h;have hn:=h4 (Nat.succ_pos k);have hd:(bv [b,c,d]+8 * n) / 8=n:=by omega
       have hm:(bv [b,c,d]+8 * n)%8=bv [b,c,d]:=by omega
       refine⟨bv [b,c,d]+8 * n,?_,?_,?_,λ_=>by omega⟩
       . rw[h1,Ll,Nat.add_mul,Mo];congr 2;rw[M1 (8 ^ k) 8,<- Nat.mul_assoc,M1 n 8]
       . rw[gB (by omega),hm,hd,hp.2,ha,h2]; rfl
       . rw[Ll]; omega
   | [],_,h=>cases h
   | [_],_,h=>cases h
   | [_,_],_,h=>cases h
   | [_,_,_],_,h=>cases h
def bJ (lo hi:Nat) (l:List Nat):Option (Nat×List Nat):=(cG 16 0 0 l).bind λx=>if lo<=x.1/\x.1<=hi then some x else none
variable {n:Nat}
theorem gf {lo hi:Nat}(r:List Nat) (h1:lo<=n) (h2:n<=hi) (h3:n<8 ^ 16):bJ lo hi (nb n++r)=some (n,r):=by unfold bJ;rw[uR 15 0 0 n r h3 (λz=>absurd z (by decide))];show(if lo<=0+n * 8 ^ 0/\0+n * 8 ^ 0<=hi then some (0+n * 8 ^ 0,r) else none)=_;rw[MY,Mg,Lk,Je ⟨h1,h2⟩]
variable {l r:List Nat}
theorem jA {lo hi:Nat} {m:Nat} (hb:ax l) (h:bJ lo hi l=some (m,r)):l=nb m++r/\lo<=m/\m<=hi/\m<8 ^ 16:=by
 unfold bJ at h;cases e:cG 16 0 0 l with
 | none=>rw[e] at h; cases h
 | some x =>
   rw[e] at h;have h:(if lo<=x.1/\x.1<=hi then some x else none)=some (m,r):=h;split at h
   . rename_i hx
     cases h;obtain⟨n,h1,h2,h3,_⟩:=xx 16 0 0 l m r hb e;rw[MY,Mg,Lk] at h1;subst h1;exact⟨h2,hx.1,hx.2,h3⟩
   . cases h
theorem ER {m:Nat} (hb:ax l) (h:cG 16 0 0 l=some (m,r)):l=nb m++r/\m<8 ^ 16:=by obtain⟨n,h1,h2,h3,_⟩:=xx 16 0 0 l m r hb h;rw[MY,Mg,Lk] at h1;subst h1;exact⟨h2,h3⟩
theorem tP (r:List Nat) (h:n<8 ^ 16):cG 16 0 0 (nb n++r)=some (n,r):=by rw[uR 15 0 0 n r h (λz=>absurd z (by decide)),MY,Mg,Lk]
def am:Nat->Nat->List Nat->Option (BTr×List Nat)
 | f+1,most,48 :: r=>if most<1 then none else(bJ 0 127 r).map λx=>(.box x.1,x.2)
 | f+1,most,49 :: 48 :: r=>if most<1 then none else(cG 16 0 0 r).map λx=>(.num x.1,x.2)
 | f+1,most,49 :: 49 :: a :: b :: c :: d :: r=>if most<1 then none else if bv [a,b,c,d]<9 then(am f (most - 1) r).bind λx=>(am f (most - lv x.1) x.2).map λy=>(.op (bv [a,b,c,d]) x.1 y.1,y.2) else none
 | _,_,_=>none
def iE:BTr->Prop
 | .box k=>k<=127
 | .num _=>True
 | .op _ l r=>iE l/\iE r
theorem iu:∀t:BTr,0<lv t
 | .box _=>MB
 | .num _=>MB
 | .op _ l r=>Jo (iu l) (MU _ _)
theorem kE:∀(t:BTr) (f most:Nat) (r:List Nat),tok t->iE t->lv t<=most->most<=f->am f most (rb t++r)=some (t,r)
 | .box k,f,most,r,ht,hs,hl,hf=>by
   have hl:1<=most:=hl;obtain⟨f,rfl⟩:∃g,f=g+1:=⟨f - 1,by omega⟩
   show(if most<1 then none else(bJ 0 127 (nb k++r)).map λx=>(BTr.box x.1,x.2))=_;rw[Ja (by omega),gf r (Jw _) hs ht];rfl
 | .num k,f,most,r,ht,hs,hl,hf=>by
   have hl:1<=most:=hl;obtain⟨f,rfl⟩:∃g,f=g+1:=⟨f - 1,by omega⟩
   show(if most<1 then none else(cG 16 0 0 (nb k++r)).map λx=>(BTr.num x.1,x.2))=_;rw[Ja (by omega),tP r ht];rfl
 | .op i u v,f,most,r,ht,hs,hl,hf=>by
   have hl:lv u+lv v<=most:=hl;have pu:=iu u;have pv:=iu v;obtain⟨f,rfl⟩:∃g,f=g+1:=⟨f - 1,by omega⟩
   obtain⟨x,y,z,w,e,q⟩:=pb4 i ht.1;have er:rb (.op i u v)++r=49 :: 49 :: x :: y :: z :: w :: (rb u++(rb v++r)):=by show(49 :: 49 :: pb i 4++rb u++rb v)++r=_;rw[e];simp
   rw[er];show(if most<1 then none else if bv [x,y,z,w]<9 then(am f (most - 1) (rb u++(rb v++r))).bind λa=>(am f (most - lv a.1) a.2).map λb=>(BTr.op (bv [x,y,z,w]) a.1 b.1,b.2) else none)=_;rw[Ja (by omega),q,Je ht.1,kE u f (most - 1) _ ht.2.1 hs.1 (by omega) (by omega)];show(am f (most - lv u) (rb v++r)).map (λb=>(BTr.op i u b.1,b.2))=_;rw[kE v f (most - lv u) r ht.2.2 hs.2 (by omega) (by omega)];rfl
theorem t6:∀(f most:Nat) (l:List Nat) (t:BTr) (r:List Nat),ax l->am f most l=some (t,r)->l=rb t++r/\tok t/\iE t/\lv t<=most:=by
 intro f
 induction f with
 | zero=>intro most l t r _ h; simp [am] at h
 | succ f ih =>
   intro most l t r hb h
   match l,hb,h with
   | [],_,h=>simp [am] at h
   | x :: l',hb,h =>
     rcases hb x (by simp) with rfl|rfl
     . have h:(if most<1 then none else(bJ 0 127 l').map λx=>(BTr.box x.1,x.2))=some (t,r):=h;split at h
       . cases h
       . cases e:bJ 0 127 l' with
         | none=>rw[e] at h; cases h
         | some x =>
           rw[e] at h;cases h;obtain⟨h1,_,h3,h4⟩:=jA (λc hc=>hb c (by simp [hc])) (show bJ 0 127 l'=some (x.1,x.2) from e);refine⟨?_,h4,h3,by show 1<=most; omega⟩;rw[h1]; rfl
     . match l',hb,h with
       | [],_,h=>simp [am] at h
       | x :: l',hb,h =>
         rcases hb x (by simp) with rfl|rfl
         . have h:(if most<1 then none else(cG 16 0 0 l').map λx=>(BTr.num x.1,x.2))=some (t,r):=h;split at h
           . cases h
           . cases e:cG 16 0 0 l' with
             | none=>rw[e] at h; cases h
             | some x =>
               rw[e] at h;cases h;obtain⟨h1,h4⟩:=ER (λc hc=>hb c (by simp [hc])) (show cG 16 0 0 l'=some (x.1,x.2) from e);refine⟨?_,h4,trivial,by show 1<=most; omega⟩;rw[h1]; rfl
         . match l',hb,h with
           | [],_,h=>simp [am] at h
           | [_],_,h=>simp [am] at h
           | [_,_],_,h=>simp [am] at h
           | [_,_,_],_,h=>simp [am] at h
           | a :: b :: c :: d :: l',hb,h =>
             have h:(if most<1 then none else if bv [a,b,c,d]<9 then(am f (most - 1) l').bind λx=>(am f (most - lv x.1) x.2).map λy=>(BTr.op (bv [a,b,c,d]) x.1 y.1,y.2) else none)=some (t,r):=h;split at h
             . cases h
             . split at h
               . rename_i hm h9
                 cases e:am f (most - 1) l' with
                 | none=>rw[e] at h; cases h
                 | some x =>
                   rw[e] at h;have h:(am f (most - lv x.1) x.2).map (λy=>(BTr.op (bv [a,b,c,d]) x.1 y.1,y.2))=some (t,r):=h;have hl:ax l':=λc hc=>hb c (by simp [hc]);obtain⟨u1,u2,u3,u4⟩:=ih (most - 1) l' x.1 x.2 hl e;cases e2:am f (most - lv x.1) x.2 with
                   | none=>rw[e2] at h; cases h
                   | some y =>
                     rw[e2] at h;cases h;obtain⟨v1,v2,v3,v4⟩:=ih _ x.2 y.1 y.2 (λc hc=>hl c (by rw[u1]; simp [hc])) e2;have hp:=bv4 (hb a (by simp)) (hb b (by simp)) (hb c (by simp)) (hb d (by simp));have:=iu y.1;refine⟨?_,⟨h9,u2,v2⟩,⟨u3,v3⟩,by show lv x.1+lv y.1<=most; omega⟩;show _=(49 :: 49 :: pb (bv [a,b,c,d]) 4++rb x.1++rb y.1)++y.2;rw[hp.2,u1,v1];simp
               . cases h
theorem CH:∀i<9,∀j<9,gT i=gT j->i=j:=by decide +kernel
theorem et (a b:List PyData):PyData.eqv (.tuple a) (.tuple b)=PyData.eqvAll a b:=by rw[PyData.eqv]
theorem ec (a b:PyData) (l m:List PyData):PyData.eqvAll (a :: l) (b :: m)=(PyData.eqv a b&&PyData.eqvAll l m):=by rw[PyData.eqvAll]
theorem es (a b:Str) (h:PyData.eqv (.str a) (.str b)=true):a=b:=by rw[PyData.eqv] at h; exact eq_of_beq h
theorem ei (a b:Nat) (h:PyData.eqv (.int a) (.int b)=true):a=b:=by rw[PyData.eqv] at h; exact Int.ofNat.inj (eq_of_beq h)
theorem e0 (a:PyData) (l:List PyData):PyData.eqvAll [] (a :: l)=false:=by rw[PyData.eqvAll]
theorem e0' (a:PyData) (l:List PyData):PyData.eqvAll (a :: l) []=false:=by rw[PyData.eqvAll]
theorem e2 {a b c d:PyData} (h:PyData.eqv (.tuple [a,b]) (.tuple [c,d])=true):PyData.eqv a c=true/\PyData.eqv b d=true:=by rw[et,ec,ec,Jx,Jx] at h;exact⟨h.1,h.2.1⟩
theorem e3 {a b c d e f:PyData} (h:PyData.eqv (.tuple [a,b,c]) (.tuple [d,e,f])=true):PyData.eqv a d=true/\PyData.eqv b e=true/\PyData.eqv c f=true:=by rw[et,ec,ec,ec,Jx,Jx,Jx] at h;exact⟨h.1,h.2.1,h.2.2.1⟩
theorem e23 {a b c d e:PyData} (h:PyData.eqv (.tuple [a,b]) (.tuple [c,d,e])=true):False:=by rw[et,ec,ec,e0,Lo,Lo] at h;cases h
theorem e32 {a b c d e:PyData} (h:PyData.eqv (.tuple [a,b,e]) (.tuple [c,d])=true):False:=by rw[et,ec,ec,e0',Lo,Lo] at h;cases h
theorem Cu {a:BTr}:∀{b:BTr},tok a->tok b->PyData.eqv (dw a) (dw b)=true->a=b:=by
 induction a with
 | box k =>
   intro b _ _ h;cases b with
   | box j=>rw[ei _ _ (e2 h).2]
   | num j=>exact absurd (es _ _ (e2 h).1) (by decide)
   | op i l r=>exact(e23 h).elim
 | num k =>
   intro b _ _ h;cases b with
   | num j=>rw[ei _ _ (e2 h).2]
   | box j=>exact absurd (es _ _ (e2 h).1) (by decide)
   | op i l r=>exact(e23 h).elim
 | op i l r hl hr =>
   intro b ha hb h;cases b with
   | num j=>exact(e32 h).elim
   | box j=>exact(e32 h).elim
   | op j u v =>
     have h:=e3 h;rw[CH i ha.1 j hb.1 (es _ _ h.1),hl ha.2.1 hb.2.1 h.2.1,hr ha.2.2 hb.2.2 h.2.2]
theorem qj {a b:Option BTr} (ha:cr a) (hb:cr b) (h:PyData.eqv (bI a) (bI b)=true):a=b:=by
 cases a with
 | none=>cases b with
   | none=>rfl
   | some t=>cases t <;> simp [bI,dw,PyData.eqv] at h
 | some t=>cases b with
   | none=>cases t <;> simp [bI,dw,PyData.eqv] at h
   | some u=>rw[Cu ha.1 hb.1 h]
def many {α:Type} (f:Nat->List α->List Nat->Option (α×List Nat)):Nat->List Nat->Option (List α×List Nat)
 | 0,l=>some ([],l)
 | n+1,l=>(many f n l).bind λx=>(f n x.1 x.2).map λy=>(x.1++[y.1],y.2)
theorem jg {α:Type} {f:Nat->List α->List Nat->Option (α×List Nat)} {m:Nat}(h:many f n l=none) (hm:n<=m):many f m l=none:=by
 induction m with
 | zero=>rw[Nat.le_zero.mp hm] at h; exact h
 | succ m ih =>
   by_cases e:n=m+1
   . rw[<- e]; exact h
   . show(many f m l).bind _=none;rw[ih (by omega)];rfl
theorem iz {α:Type} {f:Nat->List α->List Nat->Option (α×List Nat)} {xs:List α} (h:many f n l=some (xs,r)):many f (n+1) l=(f n xs r).map λy=>(xs++[y.1],y.2):=by show(many f n l).bind _=_;rw[h];rfl
theorem kU {α:Type} {f:Nat->List α->List Nat->Option (α×List Nat)} {xs:List α} {e:Nat->List Nat} (h:∀(k:Nat) x r,xs[k]?=some x->f k (xs.take k) (e k++r)=some (x,r)):∀(n:Nat) (r:List Nat),n<=xs.length->many f n (((List.range n).map e).flatten++r)=some (xs.take n,r)
 | 0,r,_=>rfl
 | n+1,r,hn=>by
   have ih:=kU h n (e n++r) (by omega);have e1:((List.range (n+1)).map e).flatten++r=((List.range n).map e).flatten++(e n++r):=by rw[Kb,Jf,KY];simp
   have hx:=JV (show n<xs.length by omega);rw[e1,iz ih,h n _ r hx,KH,hx];rfl
theorem mj {α:Type} (d:α) {f:Nat->List α->List Nat->Option (α×List Nat)} {e:Nat->List α->α->List Nat} {I:Nat->α->Prop}
   (h:∀(k:Nat) acc r x r',ax r->acc.length=k->(∀(j:Nat) a,acc[j]?=some a->I j a)->f k acc r=some (x,r')->r=e k acc x++r'/\I k x) :
   ∀(n:Nat) (l:List Nat) (xs:List α) (r:List Nat),ax l->many f n l=some (xs,r)->xs.length=n/\l=((List.range n).map λk=>e k (xs.take k) (xs.getD k d)).flatten++r/\∀(j:Nat) a,xs[j]?=some a->I j a
 | 0,l,xs,r,_,hm=>by cases hm; exact⟨rfl,rfl,λj a z=>by cases z⟩
 | n+1,l,xs,r,hb,hm=>by
   cases e1:many f n l with
   | none=>rw[jg e1 (Kz n)] at hm; cases hm
   | some x =>
     rw[iz (show many f n l=some (x.1,x.2) from e1)] at hm;cases e2:f n x.1 x.2 with
     | none=>rw[e2] at hm; cases hm
     | some y =>
       rw[e2] at hm;cases hm;obtain⟨h1,h2,h3⟩:=mj d h n l x.1 x.2 hb e1;obtain⟨g1,g2⟩:=h n x.1 x.2 y.1 y.2 (λc hc=>hb c (by rw[h2]; simp [hc])) h1 h3 e2;refine⟨by rw[JS,h1]; rfl,?_,λj a ha=>?_⟩
       . rw[Kb,Jf,KY,KG,MS,KE,MW,Jv];have e3:(List.range n).map (λk=>e k ((x.1++[y.1]).take k) ((x.1++[y.1]).getD k d))=(List.range n).map (λk=>e k (x.1.take k) (x.1.getD k d)):=KS λk hk=>by have hk:=Ka.mp hk;rw[MD (by omega),JU,JU,KN (by omega)]
         have e4:(x.1++[y.1]).take n=x.1:=by rw[<- h1]; simp
         have e5:(x.1++[y.1]).getD n d=y.1:=by rw[JU,<- h1,K9 (JZ _),Lm]; rfl
         rw[e3,e4,e5,Jm,<- g1,<- h2]
       . by_cases hj:j<n
         . rw[KN (by omega)] at ha;exact h3 j a ha
         . have:j=n:=by have:=(Jb.mp ha).1;rw[JS] at this;simp at this;omega
           subst this;rw[<- h1,K9 (JZ _),Lm] at ha;cases ha;exact g2
def cY (a:Option (Option BTr)) (o:Option BTr):Bool:=match a with
 | some a=>PyData.eqv (bI a) (bI o)
 | none=>false
theorem qi (ah:List (Option BTr)) (o:Option BTr) (i:Nat):cY ah[i]? o=lk ah o i:=rfl
def fG (a:Option (Option BTr)):List Nat->Option (Option BTr×List Nat)
 | 49 :: r=>(am 8 8 r).bind λx=>if cY a (some x.1)=true then none else some (some x.1,x.2)
 | 48 :: 48 :: r=>if cY a none=true then none else some (none,r)
 | 48 :: 49 :: r=>a.map λa=>(a,r)
 | _=>none
def smO:Option BTr->Prop
 | none=>True
 | some t=>iE t
def dO (o:Option BTr):Prop:=cr o/\smO o
theorem vi {ah:List (Option BTr)} {i:Nat} {o:Option BTr} (r:List Nat) (ha:∀a∈ah,cr a) (ho:dO o):fG ah[i]? ((if lk ah o i=true then [48,49] else Pk.ob o)++r)=some (o,r):=by
 by_cases h:lk ah o i=true
 . rw[Je h];show(ah[i]?).map (λa=>(a,r))=_;unfold lk at h;cases e:ah[i]? with
   | none=>rw[e] at h; cases h
   | some a =>
     rw[e] at h;rw[<- qj (ha a (JW e)) ho.1 h];rfl
 . rw[Ja h];rw[<- qi] at h;cases o with
   | none=>show(if cY ah[i]? none=true then none else some (none,r))=_; rw[Ja h]
   | some t =>
     show((am 8 8 (rb t++r)).bind λx=>if cY ah[i]? (some x.1)=true then none else some (some x.1,x.2))=_;rw[kE t 8 8 r ho.1.1 ho.2 ho.1.2 (JZ _)];show(if cY ah[i]? (some t)=true then none else some (some t,r))=_;rw[Ja h]
theorem GN {ah:List (Option BTr)} {i:Nat} {o:Option BTr} (hb:ax l) (ha:∀a∈ah,dO a) (h:fG ah[i]? l=some (o,r)):l=(if lk ah o i=true then [48,49] else Pk.ob o)++r/\dO o:=by
 match l,hb,h with
 | [],_,h=>simp [fG] at h
 | x :: l',hb,h =>
   rcases hb x (by simp) with rfl|rfl
   . match l',hb,h with
     | [],_,h=>simp [fG] at h
     | x :: l',hb,h =>
       rcases hb x (by simp) with rfl|rfl
       . have h:(if cY ah[i]? none=true then none else some (none,l'))=some (o,r):=h;split at h
         . cases h
         . rename_i hn
           cases h;rw[qi] at hn;rw[Ja hn];exact⟨rfl,trivial,trivial⟩
       . have h:(ah[i]?).map (λa=>(a,l'))=some (o,r):=h;cases e:ah[i]? with
         | none=>rw[e] at h; cases h
         | some a =>
           rw[e] at h;cases h;have hm:=ha o (JW e);have:lk ah o i=true:=by unfold lk;rw[e];exact(kA hm.1).refl
           rw[Je this];exact⟨rfl,hm⟩
   . have h:((am 8 8 l').bind λx=>if cY ah[i]? (some x.1)=true then none else some (some x.1,x.2))=some (o,r):=h;cases e:am 8 8 l' with
     | none=>rw[e] at h; cases h
     | some x =>
       rw[e] at h;have h:(if cY ah[i]? (some x.1)=true then none else some (some x.1,x.2))=some (o,r):=h;split at h
       . cases h
       . rename_i hn
         cases h;rw[qi] at hn;obtain⟨h1,h2,h3,h4⟩:=t6 8 8 l' x.1 x.2 (λc hc=>hb c (by simp [hc])) e;rw[Ja hn,h1];exact⟨rfl,⟨h2,h4⟩,h3⟩
def gM (ah:List (Option BTr)) (n:Nat) (l:List Nat):Option (List (Option BTr)×List Nat):=many (λi _ r=>fG ah[i]? r) n l
theorem xf {ah pl:List (Option BTr)} (r:List Nat) (ha:∀a∈ah,cr a) (hp:∀o∈pl,dO o):gM ah pl.length (vb ah pl++r)=some (pl,r):=by
 have:=kU (f:=λi _ r=>fG ah[i]? r) (xs:=pl) (e:=mY ah pl) (λk x r hx=>by
   have e:mY ah pl k=if lk ah x k=true then [48,49] else Pk.ob x:=by unfold mY; rw[JU,hx]; rfl
   rw[e];exact vi r ha (hp x (JW hx))) pl.length r (JZ _)
 rw[K2] at this;exact this
theorem B' {ah pl:List (Option BTr)} (hb:ax l) (ha:∀a∈ah,dO a) (h:gM ah n l=some (pl,r)):l=vb ah pl++r/\pl.length=n/\∀o∈pl,dO o:=by
 obtain⟨h1,h2,h3⟩:=mj none (e:=λi _ o=>if lk ah o i=true then [48,49] else Pk.ob o) (I:=λ_ o=>dO o) (λk acc r x r' hr _ _ hf=>GN hr ha hf) n l pl r hb h;refine⟨?_,h1,λo ho=>?_⟩
 . subst h1;exact h2
 . obtain⟨k,hk⟩:=Kp ho;exact h3 k o hk
def fj (rl:List Nat) (l:List Nat):Option ((Nat×Nat)×List Nat):=(bJ 0 (rl.length - 1) l).bind λx=>(bJ 0 (rl.getD x.1 0 - 1) x.2).map λy=>((x.1,y.1),y.2)
def kk (ch:List (Nat×Nat)) (k:Nat):Nat:=(ch.getD k (0,0)).1
def gW (rl:List Nat) (n:Nat) (l:List Nat):Option (List (Nat×Nat)×List Nat):=many (λ_ _ r=>fj rl r) n l
def g7 (cn:Nat->Nat) (m0:Mk) (ch:List (Nat×Nat)) (n:Nat) (l:List Nat):Option (List (List (Option BTr))×List Nat):=many (λk _ r=>gM (cF m0 k (kk ch k)) (cn (kk ch k)) r) n l
def dW (rl:List Nat) (cn:Nat->Nat) (m0:Mk) (l:List Nat):Option (Mk×List Nat):=(bJ 1 3 l).bind λx=>(gW rl x.1 x.2).bind λch=>(g7 cn m0 ch.1 ch.1.length ch.2).map λv=>(⟨ch.1,v.1⟩,v.2)
def dJ (rl:List Nat) (cn:Nat->Nat) (n:Nat) (l:List Nat):Option (List Mk×List Nat):=many (λk acc r=>dW rl cn (cN acc k) r) n l
instance (l:List Nat):Decidable (ax l):=by unfold ax; infer_instance
def ck (rl:List Nat) (cn:Nat->Nat) (l:List Nat):Option (List Mk):=if ax l then(bJ 1 200 l).bind λx=>(dJ rl cn x.1 x.2).bind λy=>if y.2=[] then some y.1 else none else none
structure MFit (rl:List Nat) (cn:Nat->Nat) (m:Mk):Prop where
 l1:1<=m.ch.length
 l3:m.ch.length<=3
 ix:∀c∈m.ch,c.1<rl.length/\c.2<rl.getD c.1 0
 vl:m.vs.length=m.ch.length
 cn:nZ cn m
 ok:∀v∈m.vs,∀o∈v,dO o
structure RlOk (rl:List Nat) (cn:Nat->Nat):Prop where
 n1:1<=rl.length
 n12:rl.length<=12
 pos:∀n∈rl,1<=n/\n<=100
 cn:∀k,cn k<=24
variable {rl:List Nat} {cn:Nat->Nat}
theorem RlOk.at (h:RlOk rl cn) {k:Nat} (hk:k<rl.length):1<=rl.getD k 0/\rl.getD k 0<=100:=by rw[JU,JV hk];exact h.pos _ (Kd hk)
variable {m:Mk}
theorem MFit.mok (h:MFit rl cn m) (hr:RlOk rl cn):MOk rl.length m :=
 ⟨h.l3,λc hc=>⟨(h.ix c hc).1,by have:=h.ix c hc; have:=hr.at this.1; omega⟩,h.vl,λv hv=>by
   obtain⟨k,hk⟩:=Kp hv;have hl:k<m.ch.length:=by rw[<- h.vl]; exact(Jb.mp hk).1
   rw[h.cn k _ v (JV hl) hk];exact hr.cn _,λv hv o ho=>(h.ok v hv o ho).1⟩
theorem yj (hr:RlOk rl cn) {c:Nat×Nat} (h:c.1<rl.length/\c.2<rl.getD c.1 0) (r:List Nat):fj rl (fB c++r)=some (c,r):=by have hk:=hr.at h.1;have h12:=hr.n12;unfold fj fB;rw[Jm,gf _ (Jw _) (by omega) (by rw[cD]; omega)];show(bJ 0 (rl.getD c.1 0 - 1) (nb c.2++r)).map _=_;rw[gf r (Jw _) (by omega) (by rw[cD]; omega)];rfl
theorem F3 (hr:RlOk rl cn) {c:Nat×Nat} (hb:ax l) (h:fj rl l=some (c,r)):l=fB c++r/\c.1<rl.length/\c.2<rl.getD c.1 0:=by
 unfold fj at h;cases e:bJ 0 (rl.length - 1) l with
 | none=>rw[e] at h; cases h
 | some x =>
   rw[e] at h;have h:(bJ 0 (rl.getD x.1 0 - 1) x.2).map (λy=>((x.1,y.1),y.2))=some (c,r):=h;obtain⟨h1,_,h2,_⟩:=jA hb (show _=some (x.1,x.2) from e);cases e2:bJ 0 (rl.getD x.1 0 - 1) x.2 with
   | none=>rw[e2] at h; cases h
   | some y =>
     rw[e2] at h;cases h;obtain⟨g1,_,g2,_⟩:=jA (λc hc=>hb c (by rw[h1]; simp [hc])) (show _=some (y.1,y.2) from e2);have hn:=hr.n1;have hx:x.1<rl.length:=by omega
     have:=hr.at hx;refine⟨?_,hx,by show y.1<rl.getD x.1 0; omega⟩;rw[h1,g1];show _=(nb x.1++nb y.1)++y.2;rw[Jm]
theorem uN (xs:List (Nat×Nat)):((List.range xs.length).map λk=>fB (xs.getD k (0,0))).flatten=(xs.map fB).flatten:=by
 congr 1;refine MP λk=>?_;rw[Jc,Jc];by_cases h:k<xs.length
 . rw[Lc h,JV h];show some (fB (xs.getD k (0,0)))=_;rw[JU,JV h];rfl
 . rw[KB (by rw[KI]; omega),KB (by omega)];rfl
theorem uv (hr:RlOk rl cn) {ch:List (Nat×Nat)} (h:∀c∈ch,c.1<rl.length/\c.2<rl.getD c.1 0) (r:List Nat):gW rl ch.length ((ch.map fB).flatten++r)=some (ch,r):=by
 have:=kU (f:=λ_ _ r=>fj rl r) (xs:=ch) (e:=λk=>fB (ch.getD k (0,0))) (λk x r hx=>by rw[JU,hx];exact yj hr (h x (JW hx)) r) ch.length r (JZ _)
 rw[K2,uN] at this;exact this
theorem zN (hr:RlOk rl cn) {ch:List (Nat×Nat)} (hb:ax l) (h:gW rl n l=some (ch,r)):l=(ch.map fB).flatten++r/\ch.length=n/\∀c∈ch,c.1<rl.length/\c.2<rl.getD c.1 0:=by obtain⟨h1,h2,h3⟩:=mj (0,0) (e:=λ_ _ c=>fB c) (I:=λ_ c=>c.1<rl.length/\c.2<rl.getD c.1 0) (λk acc r x r' hb _ _ hf=>F3 hr hb hf) n l ch r hb h;subst h1;rw[uN] at h2;refine⟨h2,rfl,λc hc=>?_⟩;obtain⟨k,hk⟩:=Kp hc;exact h3 k c hk
theorem qH {P:Option BTr->Prop} (h:∀v∈m.vs,∀o∈v,P o) (l k:Nat):∀o∈cF m l k,P o:=λo ho=>by
 unfold cF at ho;split at ho
 . rw[JU] at ho;cases e:m.vs[l]? with
   | none=>rw[e] at ho; cases ho
   | some v=>rw[e] at ho; exact h v (JW e) o ho
 . cases ho
theorem uQ (hr:RlOk rl cn) {m0:Mk}(h0:∀v∈m0.vs,∀o∈v,cr o) (h:MFit rl cn m) (r:List Nat):dW rl cn m0 (mb m0 m++r)=some (m,r):=by
 have h3:=h.l3;unfold dW mb;rw[Jm,Jm,gf _ h.l1 h3 (by rw[cD]; omega)];show((gW rl m.ch.length ((m.ch.map fB).flatten++(((List.range m.ch.length).map (wB m0 m)).flatten++r))).bind _)=_;rw[uv hr h.ix];show(g7 cn m0 m.ch m.ch.length (((List.range m.ch.length).map (wB m0 m)).flatten++r)).map _=_;have:=kU (f:=λk _ r=>gM (cF m0 k (kk m.ch k)) (cn (kk m.ch k)) r) (xs:=m.vs) (e:=wB m0 m) (λk v r hv=>by
   have hl:k<m.ch.length:=by rw[<- h.vl]; exact(Jb.mp hv).1
   have hc:=JV hl;have e1:cn (kk m.ch k)=v.length:=by rw[h.cn k _ v hc hv];unfold kk;rw[JU,hc];rfl
   have e2:wB m0 m k=vb (cF m0 k (kk m.ch k)) v:=by unfold wB;rw[qv hv];rfl
   rw[e1,e2];exact xf r (qH h0 _ _) (h.ok v (JW hv))) m.ch.length r (by rw[h.vl]; exact JZ _)
 unfold g7;rw[this,<- h.vl,K2];rfl
theorem DB (hr:RlOk rl cn) {m0:Mk}(h0:∀v∈m0.vs,∀o∈v,dO o) (hb:ax l) (h:dW rl cn m0 l=some (m,r)):l=mb m0 m++r/\MFit rl cn m:=by
 unfold dW at h;cases e:bJ 1 3 l with
 | none=>rw[e] at h; cases h
 | some x =>
   rw[e] at h;have h:(gW rl x.1 x.2).bind (λch=>(g7 cn m0 ch.1 ch.1.length ch.2).map λv=>((⟨ch.1,v.1⟩:Mk),v.2))=some (m,r):=h;obtain⟨h1,h2,h3,_⟩:=jA hb (show _=some (x.1,x.2) from e);have hb2:ax x.2:=λc hc=>hb c (by rw[h1]; simp [hc]);cases e2:gW rl x.1 x.2 with
   | none=>rw[e2] at h; cases h
   | some y =>
     rw[e2] at h;have h:(g7 cn m0 y.1 y.1.length y.2).map (λv=>((⟨y.1,v.1⟩:Mk),v.2))=some (m,r):=h;obtain⟨g1,g2,g3⟩:=zN hr hb2 (show _=some (y.1,y.2) from e2);have hb3:ax y.2:=λc hc=>hb2 c (by rw[g1]; simp [hc]);cases e3:g7 cn m0 y.1 y.1.length y.2 with
     | none=>rw[e3] at h; cases h
     | some z =>
       rw[e3] at h;cases h;obtain⟨k1,k2,k3⟩:=mj [] (e:=λk _ v=>vb (cF m0 k (kk y.1 k)) v) (I:=λk v=>v.length=cn (kk y.1 k)/\∀o∈v,dO o) (λk acc r x r' hb _ _ hf=>B' hb (qH h0 _ _) hf) _ y.2 z.1 z.2 hb3 e3;refine⟨?_,?_⟩
       . show _=(nb y.1.length++(y.1.map fB).flatten++((List.range y.1.length).map (wB m0 ⟨y.1,z.1⟩)).flatten)++z.2;rw[h1,g2,g1,k2,Jm,Jm];rw[show y.1.length=x.1 from g2];rfl
       . refine⟨by show 1<=y.1.length; omega,by show y.1.length<=3; omega,g3,k1,λj c v hc hv=>?_,λv hv o ho=>?_⟩
         . rw[(k3 j v hv).1];unfold kk;rw[JU,show y.1[j]?=some c from hc];rfl
         . obtain⟨k,hk⟩:=Kp hv;exact(k3 k v hk).2 o ho
theorem pw (ms:List Mk) (k:Nat):cN (ms.take k) k=cN ms k:=by
 cases k with
 | zero=>rfl
 | succ k =>
   show(ms.take (k+1)).getD k c9=ms.getD k c9;rw[JU,JU,Ln,Je (Km k)]
variable {ms:List Mk}
theorem rK {P:Option BTr->Prop} (h:∀m∈ms,∀v∈m.vs,∀o∈v,P o) (k:Nat):∀v∈(cN ms k).vs,∀o∈v,P o:=by
 cases k with
 | zero=>exact λv hv=>by cases hv
 | succ k =>
   show ∀v∈(ms.getD k c9).vs,_;rw[JU];cases e:ms[k]? with
   | none=>exact λv hv=>by cases hv
   | some m=>exact h m (JW e)
theorem qB (hr:RlOk rl cn) (h:∀m∈ms,MFit rl cn m) (r:List Nat):dJ rl cn ms.length ((eY ms ms.length).flatten++r)=some (ms,r):=by
 have:=kU (f:=λk acc r=>dW rl cn (cN acc k) r) (xs:=ms) (e:=λj=>mb (cN ms j) (ms.getD j c9)) (λk m r hm=>by rw[pw,JU,hm];exact uQ hr (rK (λm hm v hv o ho=>((h m hm).ok v hv o ho).1) k) (h m (JW hm)) r) ms.length r (JZ _)
 rw[K2] at this;exact this
theorem xZ (hr:RlOk rl cn) (hb:ax l) (h:dJ rl cn n l=some (ms,r)):l=(eY ms n).flatten++r/\ms.length=n/\∀m∈ms,MFit rl cn m:=by
 obtain⟨h1,h2,h3⟩:=mj c9 (e:=λk acc m=>mb (cN acc k) m) (I:=λ_ m=>MFit rl cn m) (λk acc r x r' hb hl ha hf=>DB hr (rK (λm hm v hv o ho=>by obtain⟨j,hj⟩:=Kp hm;exact(ha j m hj).ok v hv o ho) k) hb hf) n l ms r hb h
 refine⟨?_,h1,λm hm=>?_⟩
 . rw[h2];congr 2;exact KS λk _=>by rw[pw]
 . obtain⟨j,hj⟩:=Kp hm;exact h3 j m hj
theorem Iz (hr:RlOk rl cn) (h:∀m∈ms,MFit rl cn m) (h1:1<=ms.length) (h2:ms.length<=200):ck rl cn (aj ms)=some ms:=by unfold ck;rw[Je (EJ ms)];unfold aj;rw[gf _ h1 h2 (by rw[cD]; omega)];show((dJ rl cn ms.length (eY ms ms.length).flatten).bind _)=_;have:=qB hr h [];rw[Jv] at this;rw[this];rfl
theorem IQ (hr:RlOk rl cn) (h:ck rl cn l=some ms):l=aj ms/\1<=ms.length/\ms.length<=200/\∀m∈ms,MFit rl cn m:=by
 unfold ck at h;split at h
 . rename_i hb
   cases e:bJ 1 200 l with
   | none=>rw[e] at h; cases h
   | some x =>
     rw[e] at h;have h:(dJ rl cn x.1 x.2).bind (λy=>if y.2=[] then some y.1 else none)=some ms:=h;obtain⟨h1,h2,h3,_⟩:=jA hb (show _=some (x.1,x.2) from e);cases e2:dJ rl cn x.1 x.2 with
     | none=>rw[e2] at h; cases h
     | some y =>
       rw[e2] at h;have h:(if y.2=[] then some y.1 else none)=some ms:=h;split at h
       . rename_i hn
         cases h;obtain⟨g1,g2,g3⟩:=xZ hr (λc hc=>hb c (by rw[h1]; simp [hc])) (show _=some (y.1,y.2) from e2);refine⟨?_,by omega,by omega,g3⟩;unfold aj;rw[h1,g1,hn,Jv,g2]
       . cases h
 . cases h
end Dc
namespace Ex
open PySem PySem.W PyProof.Rows PySem.Spec
variable {rest:List Value}
section
variable {prog:Program} {w:World} {A:Around} {E:Value->Shared->Prop} {R:Result->Shared->Prop} {h:Heap} {g:Array GenState} {d:Drawn} {t:Nat} {os:OsState}
 {nm q:Str} {C N:Addr} {bs bm:List Value} {hdct:Bool} {sn:List Str} {sub:List Value} {ab:Bool} {col:Option Bool} {dd:Option Addr} {k0 k1 k2 k3 k5:Option Value}
structure VE (C:Addr) (bm:List Value):Prop where
 b:(Value.ref C :: bm).contains (.type "ValueError")=true
 e:(Value.ref C :: bm).contains (.type "BaseException")=true
 a:(Value.ref C :: bm).contains (.type "AttributeError")=false
 n:(Value.ref C :: bm).contains (.type "NameError")=false
theorem GZ {M:Model} (hC:h.get? C=some (excClassObj nm q C N bs bm hdct sn sub ab col dd k0 k1 k2 k3 k5 "ValueError.__new__")) (V:VE C bm) {Q:Unit->Shared->Prop}
   (hq:Q () ⟨h,g,d,t,os⟩):wpAny M A (checkBuiltinCall "ValueError.__new__" ⟨.ref C :: rest,[]⟩) Q E ⟨h,g,d,t,os⟩:=by
 have F:=Ku;have v:=V.b;have st:=F.noStar;simp only[checkBuiltinCall,F.newKind,F.newSplit,F.newRow]
 repeat (first|refine Kj hC ?_|(refine LN hC ?_; rw[v])|refine wpAny_staticBase_exc hC ?_|refine wpAny_madeBy_exc hC ?_|simp only[bne_self_eq_false,Lh,if_false] | wp_step)
 exact hq
def lM (h:Heap) (C:Addr) (rest:List Value):Heap:=(h.push { cls:=.type "tuple",data:=.seq rest.toArray }).push { cls:=.ref C,data:=.fields #[.ref h.objs.size,.none,.none,.none,.bool false,.none] }
theorem heapX_keeps :∀b o,h.get? b=some o->(lM h C rest).get? b=some o:=λ_ _ e=>JX _ (JX _ e)
theorem heapX_at :(lM h C rest).get? (h.objs.size+1)=some { cls:=.ref C,data:=.fields #[.ref h.objs.size,.none,.none,.none,.bool false,.none] }:=by unfold lM; heap_get
theorem DT (hC:h.get? C=some (excClassObj nm q C N bs bm hdct sn sub ab col dd k0 k1 k2 k3 k5 "ValueError.__new__")) (V:VE C bm) (hz:rest.length<=sizeLine)
   (hq:R (.ok (.ret (.ref (h.objs.size+1)))) ⟨lM h C rest,g,d,t,os⟩):codeAny (model prog w) A (.builtin "ValueError.__new__" ⟨.ref C :: rest,[]⟩) R ⟨h,g,d,t,os⟩:=by
 have F:=Ku;have en:=F.ends;have vb:=V.b;have va:=V.a;have vn:=V.n;refine codeAny_builtinAt F.entry ?_;unfold Builtin.«BaseException.__new__»;refine PySem.wpAt_bind ?_;show PySem.wpAt _ _ _ (stack >>= _) _ _ _;refine PySem.wpAt_bind (PySem.wpAt_stack λp below=>PySem.wpAt_of_wpAny ?_)
 wp_walk
 refine PySem.wpAt_of_wpAny ?_;rw[F.owner]
 repeat (first|with_reducible refine wpAny_madeHere_exc F.canon hC ?_|with_reducible refine Kj hC ?_|(with_reducible refine LN hC ?_; first|rw[vb] | rw[va] | rw[vn])|wp_step)
 show R _ _;rw[Kg];exact hq
theorem J8 (hC:h.get? C=some (excClassObj nm q C N bs bm hdct sn sub ab col dd k0 k1 k2 k3 k5 "ValueError.__new__")) (V:VE C bm) (hz:rest.length<=sizeLine) {fI:Value}
   (hi:Looks (model prog w) h (typeLookup (.ref C) "__init__") (some fI)) (hb:Looks (model prog w) h (bindSpecial fI (.ref (h.objs.size+1))) (fI,[.ref (h.objs.size+1)])) {Q:Fin->Shared->Prop}
   (hq:wpAny (model prog w) A (call fI (.ref (h.objs.size+1) :: rest)) (λr s'=>r=.none/\Q (.done (.ret (.ref (h.objs.size+1)))) s') E ⟨lM h C rest,g,d,t,os⟩) :
   wpAny (model prog w) A (Builtin.«type.__call__» ⟨.ref C :: rest,[]⟩) Q E ⟨h,g,d,t,os⟩:=by
 repeat (first|with_reducible refine Kj hC ?_|with_reducible refine wpAny_madeBy_exc hC ?_|wp_step)
 refine codeAny_call_builtin_code (Code.quiet_builtin _ Ku.quiet) (GZ hC V ?_);refine DT hC V hz ?_;show wpAny _ _ _ _ _ _;have hC1:=heapX_keeps (C:=C) (rest:=rest) _ _ hC;have hg:=heapX_at (h:=h) (C:=C) (rest:=rest);have hcC:(Value.ref C :: bm).contains (.ref C)=true:=by simp
 have i1:=hi.keeps (heapX_keeps (C:=C) (rest:=rest));have b1:=hb.keeps (heapX_keeps (C:=C) (rest:=rest));unfold isInstance
 repeat (first|with_reducible refine Kj hg ?_|(with_reducible refine LN hC1 ?_; rw[hcC])|wp_step)
 show wpAny _ _ (typeLookup (.ref C) _) _ _ _;refine i1.at ?_;refine Kt (JT ?_);refine b1.at ?_;refine JT (Kk hq (λr s' hr=>?_) λ_ _ x=>x);obtain⟨rfl,hQ⟩:=hr
 wp_walk
 exact hQ
theorem x_call (hC:h.get? C=some (excClassObj nm q C N bs bm hdct sn sub ab col dd k0 k1 k2 k3 k5 "ValueError.__new__")) (V:VE C bm) (hz:rest.length<=sizeLine) {fI:Value}
   (hi:Looks (model prog w) h (typeLookup (.ref C) "__init__") (some fI)) (hb:Looks (model prog w) h (bindSpecial fI (.ref (h.objs.size+1))) (fI,[.ref (h.objs.size+1)])) {Q:Value->Shared->Prop}
   (hq:wpAny (model prog w) (A.under (.builtin "type.__call__" ⟨.ref C :: rest,[]⟩)) (call fI (.ref (h.objs.size+1) :: rest)) (λr s'=>r=.none/\Q (.ref (h.objs.size+1)) s') E ⟨lM h C rest,g,d,t,os⟩) :
   wpAny (model prog w) A (call (.ref C) rest) Q E ⟨h,g,d,t,os⟩:=by
 have f1:=tc_lookup;have f2:=tc_bind (.ref C);have hT:(⟨h,g,d,t,os⟩:Shared).TypeIs (.ref C) "type":=⟨_,hC,rfl⟩
 refine Lz (codeAny_of_tree ?_);show wpAny _ _ (callAny (.ref C) _) _ _ _
 repeat (any_goals (first|assumption|with_reducible refine Kj hC ?_|wp_step))
 refine⟨rfl,?_⟩;exact codeAny_call_builtin_at (Code.quiet_builtin _ (by decide +kernel)) entry_typeCall (wpAny_check_type_call_sub hC (J8 hC V hz hi hb hq))
theorem x_raise {M:Model} {env:Env} {s:Shared} {x:Sem Value} {Q:Flow->Shared->Prop} (hh:A.handled=none)
   (hx:wpAny M A x (λv s₁=>∃e o vs,v=.ref e/\s₁.heap.get? C=some (excClassObj nm q C N bs bm hdct sn sub ab col dd k0 k1 k2 k3 k5 "ValueError.__new__")/\VE C bm /\
     s₁.heap.get? e=some o/\o.cls=.ref C/\o.data=.fields vs/\vs[1]?=some .none/\E (.ref e) s₁) E s):wpAny M A (raiseStmt env (some x) none) Q E s:=by
 unfold raiseStmt;refine JT (Kk hx (λv s₁ h₁=>?_) λ_ _ x=>x);obtain⟨e,o,vs,rfl,hC,V,he,hc,hd,h1,hE⟩:=h₁;obtain⟨hp,g,d,tk,os⟩:=s₁;obtain⟨oc,od,oda,osl⟩:=o;dsimp only at hc hd;subst hc hd;have ve:=V.e
 repeat (first|with_reducible refine Kj he ?_|with_reducible refine Kj hC ?_|(with_reducible refine LN hC ?_; rw[ve])|wp_step)
 rw[h1];refine Jh ?_;rw[Ja (by decide)];exact Jh (wpAny_raiseNew_none hh hE)
end
end Ex
namespace Ex
open PySem PySem.W PyProof.Rows PySem.Spec L2
structure Mvd (S:List Addr) (D:Addr->Prop) (h h':Heap):Prop where
 keep:∀b o,¬ D b->b ∉ S->h.get? b=some o->h'.get? b=some o
 slot:∀b o,¬ D b->h.get? b=some o->∃sl,h'.get? b=some { o with slots:=sl }
theorem Mvd.trans {S:List Addr} {D:Addr->Prop} {h h1 h2:Heap} (a:Mvd S D h h1) (b:Mvd S D h1 h2):Mvd S D h h2 :=
 ⟨λc o n m e=>b.keep c o n m (a.keep c o n m e),λc o n e=>by obtain⟨sl,e1⟩:=a.slot c o n e;obtain⟨sl2,e2⟩:=b.slot c _ n e1;exact⟨sl2,e2⟩⟩
theorem Mvd.mono {S:List Addr} {D D':Addr->Prop} {h h':Heap} (a:Mvd S D h h') (hd:∀b,D b->D' b):Mvd S D' h h':=⟨λb o n=>a.keep b o λz=>n (hd b z),λb o n=>a.slot b o λz=>n (hd b z)⟩
def Tr (h:Heap) (e:Addr) (cls:Value) (d:Option Addr) (T:Addr) (fl:Value):Prop :=
 ∃o vs oT ts,h.get? e=some o/\o.cls=cls/\o.dict=d/\o.data=.fields vs/\vs[1]?=some (.ref T)/\T≠e/\h.get? T=some oT/\oT.data=.fields ts/\ts[3]?=some fl
def Raw (h:Heap) (e:Addr) (cls:Value) (d:Option Addr):Prop:=∃o vs,h.get? e=some o/\o.cls=cls/\o.dict=d/\o.data=.fields vs/\vs[1]?=some .none
section
variable {M:Model} {A:Around} {E:Value->Shared->Prop} {s:Shared} {base:Heap} {env:Env} {outer:List Env} {L e:Addr} {cls:Value} {d:Option Addr}
theorem wc (f:Array Value->Array Value) {o:Obj} {vs:Array Value} (hd:o.data=.fields vs):Obj.mapFields f o={ o with data:=.fields (f vs) }:=by obtain⟨c,d,dt,sl⟩:=o;dsimp only at hd;subst hd;rfl
theorem sM {oe:Obj} {vs:Array Value} {head:Value} {hadNext:Bool} {Q:Unit->Shared->Prop} (hfr:A.frames=some (env :: outer)) (hl:s.heap.FunFrames base (env :: outer)) (hf:env.frame=some L)
   (he:s.heap.get? e=some oe) (hd:oe.data=.fields vs) (hsz:1<vs.size)
   (h:∀h' T,s.heap.get? T=none->Mvd (bq (env :: outer)) (λb=>b=e) s.heap h'->Tr h' e oe.cls oe.dict T (rawInt L)->Q () { s with heap:=h' }) :
   wpAny M A (do let a <- frameOf env; let pl <- entryPlaceOf L hadNext; let b <- EntryCells.newEntry head a .none (rawInt L) .none pl; setField (.ref e) 1 b) Q E s:=by
 have hene:e ∉ bq (env :: outer):=λhm=>by obtain⟨_,o,ho,hnf⟩:=hl.mem hm;rw[he] at ho; cases ho; exact hnf vs hd
 refine JT (wpAny_frameOf_fun hfr hl hf λh₁ hs₁=>?_);refine JT (wpAny_entryPlaceOf λpl hpl=>?_);unfold EntryCells.newEntry newFields;refine JT (LU ?_ (hpl.sizeOk5 _ _ _ _ _));have he₁:h₁.get? e=some oe:=(hs₁.2.1 e hene).trans he;have he₂:=JX (h:=h₁) { cls:=.type "traceback",dict:=none,data:=.fields ([head,.ref L,.none,rawInt L,.none]++(if pl.isEmpty then List.replicate 6 Value.none else pl)).toArray } he₁;refine LW he₂ hd hsz (h _ h₁.objs.size (K' (by rw[hs₁.1]; exact JZ _)) ?_ ?_)
 . refine⟨λb o hb hm hbo=>?_,λb o hb hbo=>?_⟩
   . rw[KR _ _ (Ne.symm hb)];exact JX _ ((hs₁.2.1 b hm).trans hbo)
   . obtain⟨sl,e1⟩:=hs₁.2.2 b o hbo;refine⟨sl,?_⟩;rw[KR _ _ (Ne.symm hb)];exact JX _ e1
 . have hTe:h₁.objs.size≠e:=LA (Ji he₁);have hd₃:=Obj.data_mapFields hd (·.setIfInBounds 1 (Value.ref h₁.objs.size));have he₃:=Kl (Obj.mapFields (·.setIfInBounds 1 (Value.ref h₁.objs.size))) he₂ (Obj.isFreed_of_fields hd₃);have hT₃:=(KR (h₁.push { cls:=.type "traceback",dict:=none,data:=.fields ([head,.ref L,.none,rawInt L,.none]++(if pl.isEmpty then List.replicate 6 Value.none else pl)).toArray })
     (Obj.mapFields (·.setIfInBounds 1 (Value.ref h₁.objs.size))) (Ne.symm hTe)).trans (Jn h₁ rfl)
   refine⟨_,_,_,_,he₃,?_,?_,hd₃,by simp [hsz],hTe,hT₃,rfl,by first|(simp; done)|(rcases hpl with rfl|⟨_,_,_,_,_,_,_,rfl⟩ <;> simp)⟩
   . rw[wc _ hd]
   . rw[wc _ hd]
theorem x_mark {T:Addr} {fl:Value} {fr:Option Addr} {Q:Unit->Shared->Prop} (ht:Tr s.heap e cls d T fl)
   (h:∀h',Mvd [] (λb=>b=T) s.heap h'->Tr h' e cls d T (fr.elim .none λf=>rawInt f)->Q () { s with heap:=h' }):wpAny M A (setFlight (.ref e) fr) Q E s:=by
 obtain⟨o,vs,oT,ts,he,hc,hdc,hd,h1,hTe,hT,hdT,h3⟩:=ht;have hsz:3<ts.size:=(Ke.mp h3).1;unfold setFlight;refine JT (KM he hd h1 ?_);rw[Je (show(Value.ref T != Value.none)=true from by simp)];have other:∀(g:Obj->Obj) (b:Addr),b≠T->(s.heap.update T g).get? b=s.heap.get? b:=λg b hb=>KR _ _ (Ne.symm hb);refine LW hT hdT hsz (h _ ⟨λb o hb _ hbo=>(other _ b hb).trans hbo,λb o hb hbo=>⟨o.slots,(other _ b hb).trans hbo⟩⟩ ?_);exact⟨o,vs,_,_,(other _ e (Ne.symm hTe)).trans he,hc,hdc,hd,h1,hTe,Kl _ hT (Obj.isFreed_of_fields (Obj.data_mapFields hdT _)),Obj.data_mapFields hdT _,by simp [hsz]⟩
theorem x_noteR {Q:Unit->Shared->Prop} (hfr:A.frames=some (env :: outer)) (hl:s.heap.FunFrames base (env :: outer)) (hf:env.frame=some L) (hr:Raw s.heap e cls d)
   (h:∀h' T,s.heap.get? T=none->Mvd (bq (env :: outer)) (λb=>b=e) s.heap h'->Tr h' e cls d T (rawInt L)->Q () { s with heap:=h' }):wpAny M A (noteFrame (.ref e) env) Q E s:=by
 obtain⟨o,vs,he,rfl,rfl,hd,h1⟩:=hr;unfold noteFrame;simp only[hf];refine JT (KM he hd h1 ?_);rw[Ja (by decide)];exact sM hfr hl hf he hd (Ke.mp h1).1 h
theorem x_noteT {T0:Addr} {Q:Unit->Shared->Prop} (hfr:A.frames=some (env :: outer)) (hl:s.heap.FunFrames base (env :: outer)) (hf:env.frame=some L) (hr:Tr s.heap e cls d T0 .none)
   (h:∀h' T,s.heap.get? T=none->Mvd (bq (env :: outer)) (λb=>b=e\/b=T0) s.heap h'->Tr h' e cls d T (rawInt L)->Q () { s with heap:=h' }):wpAny M A (noteFrame (.ref e) env) Q E s:=by
 obtain⟨o,vs,oT,ts,he,rfl,rfl,hd,h1,hTe,hT,hdT,h3⟩:=hr;unfold noteFrame;simp only[hf];refine JT (KM he hd h1 ?_);rw[Je (show(Value.ref T0 != Value.none)=true from by simp)];refine JT (KM hT hdT h3 ?_);rw[Ja (show ¬ ((Value.none==rawInt L)=true) from by simp [rawInt])];refine JT (LW hT hdT (Ke.mp h3).1 ?_);have other:∀(g:Obj->Obj) (b:Addr),b≠T0->(s.heap.update T0 g).get? b=s.heap.get? b:=λg b hb=>KR _ _ (Ne.symm hb);have noT:∀b o,s.heap.get? b=some o->(∀vs,o.data≠.fields vs)->b≠T0:=λb o hb hnf q=>by rw[q,hT] at hb; cases hb; exact hnf ts hdT
 have m1:Mvd (bq (env :: outer)) (λb=>b=e\/b=T0) s.heap (s.heap.update T0 (Obj.mapFields (·.setIfInBounds 3 Value.none))) :=
   ⟨λb o hb _ hbo=>(other _ b λz=>hb (.inr z)).trans hbo,λb o hb hbo=>⟨o.slots,(other _ b λz=>hb (.inr z)).trans hbo⟩⟩
 have hl2:(s.heap.update T0 (Obj.mapFields (·.setIfInBounds 3 Value.none))).FunFrames base (env :: outer):=hl.of_keeps λb o hb hnf=>⟨o,(other _ b (noT b o hb hnf)).trans hb,rfl⟩
 refine sM (s:={ s with heap:=s.heap.update T0 (Obj.mapFields (·.setIfInBounds 3 Value.none)) }) hfr hl2 hf ((other _ e (Ne.symm hTe)).trans he) hd (Ke.mp h1).1 λh' T hT' m2 tr=>h h' T ?_ (m1.trans (m2.mono λb z=>.inl z)) tr;by_cases z:T=T0
 . subst z;exfalso;have q:=Kl (Obj.mapFields (·.setIfInBounds 3 Value.none)) hT (Obj.isFreed_of_fields (Obj.data_mapFields hdT _));dsimp only at hT';rw[q] at hT'; cases hT'
 . dsimp only at hT';rwa [other _ T z] at hT'
end
end Ex
namespace L2
open PySem PySem.Spec PyProof.Rows
def XO (e C:Addr) (d:Option Addr):HO:=.ext λh=>∃t,h.get? e=some { cls:=.ref C,dict:=d,data:=.fields #[.ref t,.none,.none,.none,.bool false,.none] }
def XC (e C:Addr) (d:Option Addr):HO:=.ext λh=>∃o vs,h.get? e=some o/\o.cls=.ref C/\o.dict=d/\o.data=.fields vs
def wD (K:W.Frag) (C:Addr):Prop:=∃(nm q:Str) (N:Addr) (bs bm:List Value) (sn:List Str) (sub:List Value) (ab:Bool) (col:Option Bool) (dd:Option Addr) (k0 k1 k2 k3 k5:Option Value),
 K.lookup C=some (excClassObj nm q C N bs bm true sn sub ab col dd k0 k1 k2 k3 k5 "ValueError.__new__")/\Ex.VE C bm
def aa (P:Program) (w:World):gL:=λouter H s E e s'=>∃ea cls d T H',e=.ref ea/\s'.os=s.os/\AllBare s'.gens/\Un (bq outer) [] H H' s.heap s'.heap/\bH P w H' s'.heap /\
 s.heap.get? ea=none/\H' ea=none/\s.heap.get? T=none/\H' T=none/\Ex.Tr s'.heap ea cls d T .none/\E cls d H'
section
variable {P:Program} {w:World} {H H':Hp} {h h':Heap} {a:Addr} {o:HO} {fs S:List Addr} {D:Addr->Prop} {H0:Hp} {h0:Heap}
theorem c7.some_at (x:c7 P w H h a o):∃u,h.get? a=some u:=by
 cases o with
 | lst xs=>obtain⟨_,_,_,_,e⟩:=x; exact⟨_,e⟩
 | tup xs=>obtain⟨_,_,_,ob,e,_⟩:=x; exact⟨_,e⟩
 | dK kvs=>obtain⟨_,_,_,_,o,_,_,e,_⟩:=x; exact⟨_,e⟩
 | dT kvs=>obtain⟨_,_,_,_,o,_,_,e,_⟩:=x; exact⟨_,e⟩
 | set S n=>obtain⟨o,_,_,_,e,_⟩:=x; exact⟨_,e⟩
 | ins C dx fs=>obtain⟨_,_,_,e,_⟩:=x; exact⟨_,e⟩
 | own y=>exact x
 | xd fs=>obtain⟨_,⟨_,_,_,e,_⟩,_⟩:=x; exact⟨_,e⟩
 | rng lo hi=>obtain⟨_,_,_,e⟩:=x; exact⟨_,e⟩
 | frz ob u=>obtain⟨e,_⟩:=x; exact⟨_,e⟩
 | tbl ps=>exact⟨_,(show h.get? a=some _ from x)⟩
 | met f y=>exact⟨_,(show h.get? a=some _ from x)⟩
 | ext φ=>exact x.2.1
theorem bH.none_of (x:bH P w H h) (e:h.get? a=none):H a=none:=by
 cases q:H a with
 | none=>rfl
 | some u=>obtain⟨v,z⟩:=(x a u q).some_at; rw[e] at z; cases z
theorem Un.moved (u:Un fs [] H0 H h0 h) (m:Ex.Mvd S D h h') (hD:∀b,D b->h0.get? b=none) (hS:∀b∈S,b∈fs\/h0.get? b=none):Un fs [] H0 H h0 h' where
 keep:=λb o q n hb hx=>m.keep b o (λz=>by rw[hD b z] at q; cases q) (λz=>(hS b z).elim hb λr=>by rw[r] at q; cases q) (u.keep b o q n hb hx)
 slot:=λb o q n hb hx=>by obtain⟨sl,e⟩:=u.slot b o q n hb hx;obtain⟨sl2,e2⟩:=m.slot b _ (λz=>by rw[hD b z] at q; cases q) e;exact⟨sl2,e2⟩
 free:=u.free
 there:=λb o q hx=>by obtain⟨o',e⟩:=u.there b o q hx;obtain⟨sl2,e2⟩:=m.slot b _ (λz=>by rw[hD b z] at q; cases q) e;exact⟨_,e2⟩
 tups:=u.tups
 frzs:=u.frzs
 tbls:=u.tbls
theorem bH.moved (x:bH P w H h) (m:Ex.Mvd S D h h') (hD:∀b,D b->H b=none) (hS:∀b∈S,H b=none):bH P w H h':=λa o e =>
 (x a o e).stay (λb u hb q=>by
   have t:∃z,H b=some z:=by
     rcases hb with rfl|hb
     . exact⟨_,e⟩
     . exact⟨_,hb⟩
   obtain⟨z,t⟩:=t;exact m.keep b u (λy=>by rw[hD b y] at t; cases t) (λy=>by rw[hS b y] at t; cases t) q) (λ_ q=>q) λ_ _ q=>q
theorem Un.ers {φ:Heap->Prop} (u:Un fs [] H0 H h0 h) (e:H a=some (.ext φ)):Un fs [] H0 (ers a H) h0 h where
 keep:=u.keep
 slot:=u.slot
 free:=λb o q n hx=>by
   have r:=u.free b o q n hx;unfold L2.ers;split
   . rfl
   . exact r
 there:=u.there
 tups:=λb xs q=>by have r:=u.tups b xs q;rw[aS (λz=>by rw[z,e] at r; cases r)]; exact r
 frzs:=λb o xs q=>by have r:=u.frzs b o xs q;rw[aS (λz=>by rw[z,e] at r; cases r)]; exact r
 tbls:=λb ps q=>by obtain⟨m,r⟩:=u.tbls b ps q;exact⟨m,by rw[aS (λz=>by rw[z,e] at r; cases r)]; exact r⟩
theorem bH.ers {φ:Heap->Prop} (x:bH P w H h) (e:H a=some (.ext φ)):bH P w (ers a H) h:=λb o q=>by
 have hb:b≠a:=λz=>by subst z; unfold L2.ers at q; rw[Je rfl] at q; cases q
 rw[aS hb] at q;exact(x b o q).stay (λc u _ r=>r) (λc r=>by rw[aS (λz=>by rw[z,e] at r; cases r)]; exact r) λc xs r=>by rw[aS (λz=>by rw[z,e] at r; cases r)]; exact r
end
theorem kq {S S':List Addr} {D:Addr->Prop} {h h':Heap} (m:Ex.Mvd S D h h') (hs:∀b∈S,b∈S'):Ex.Mvd S' D h h':=⟨λb o n z=>m.keep b o n λq=>z (hs b q),m.slot⟩
section
variable {P:Program} {w:World} {K:W.Frag} {mg:Str->Option Value} {base:Heap} {N:List Str} {qual:Str} {sc:Scope} {f:Addr} {cd:Value} {A:Around} {outer:List Env} {s0 s:Shared} {H0 H:Hp} {E:XK}
 {pins:List (Addr×Obj)} {σ:St} {cls:Value} {d:Option Addr} {e:Addr}
theorem uz {h2:Heap} {T:Addr} {D:Addr->Prop} {S:List Addr} (I:Inv (bG (aa P w) P w K mg base N qual sc f cd A outer s0 H0 E) pins σ H s) {H1:Hp} (hn:s0.heap.get? e=none) (hT:s.heap.get? T=none)
   (u:Un (bq outer) [] H0 H1 s0.heap s.heap) (hok:bH P w H1 s.heap) (he1:H1 e=none) (hS:S=bq (bG (aa P w) P w K mg base N qual sc f cd A outer s0 H0 E).stack) (hS1:∀b∈S,H1 b=none)
   (m:Ex.Mvd S D s.heap h2) (hD0:∀b,D b->s0.heap.get? b=none) (hD1:∀b,D b->H1 b=none)
   (t:Ex.Tr h2 e cls d T .none) (hE:E cls d H1):aa P w outer H0 s0 E (.ref e) { s with heap:=h2 }:=by
 have fresh:∀b,s.heap.get? b=none->s0.heap.get? b=none:=λb q=>by
   cases r:s0.heap.get? b with
   | none=>rfl
   | some o=>obtain⟨o',z⟩:=u.there b o r (by simp); rw[q] at z; cases z
 refine⟨e,cls,d,T,H1,rfl,I.os,I.bare,u.moved m hD0 λb hb=>?_,hok.moved m hD1 hS1,hn,he1,fresh T hT,hok.none_of hT,t,hE⟩;subst hS;rcases Jl.mp (I.stkSub b hb) with z|z
 . exact .inr (by rw[z]; exact K' I.ok.above)
 . exact .inl z
theorem Gk (I:Inv (bG (aa P w) P w K mg base N qual sc f cd A outer s0 H0 E) pins σ H s) {φ:Heap->Prop} (he:H e=some (.ext φ)) (hn:s0.heap.get? e=none) (hr:Ex.Raw s.heap e cls d) (hE:E cls d (ers e H)) :
   (bG (aa P w) P w K mg base N qual sc f cd A outer s0 H0 E).xe (.ref e) s:=by
 show wpAny _ _ (leaving _ _) _ _ s;unfold leaving;refine JT (Ex.x_noteR I.ok.frames I.stack rfl hr λh1 T hT m1 t1=>?_);refine Ex.x_mark (fr:=none) t1 λh2 m2 t2=>?_;have hfr:=I.stkFree;have fresh:∀b,s.heap.get? b=none->s0.heap.get? b=none:=λb q=>by
   cases r:s0.heap.get? b with
   | none=>rfl
   | some o=>obtain⟨o',z⟩:=I.base.there b o r (λq=>nomatch q); rw[q] at z; cases z
 refine uz (s:=s) (D:=λb=>b=e\/b=T) (S:=bq (bG (aa P w) P w K mg base N qual sc f cd A outer s0 H0 E).stack) I hn hT (Un.ers I.base he) (bH.ers I.hok he) (Je rfl) rfl (λb hb=>?_) ((m1.mono λb z=>.inl z).trans (kq (m2.mono λb z=>.inr z) λb z=>nomatch z)) ?_ ?_ t2 hE
 . unfold L2.ers; split; rfl; exact hfr b hb
 . rintro b (rfl|rfl); exact hn; exact fresh _ hT
 . rintro b (rfl|rfl)
   . exact Je rfl
   . exact(bH.ers I.hok he).none_of hT
theorem df:gN (aa P w) (bG (aa P w) P w K mg base N qual sc f cd A outer s0 H0 E) E:=by
 intro pins σ H s ev s' I c;obtain⟨e,cls,d,T0,H1,rfl,os,bare,un,hok,hn,he1,hT0,hT1,tr,hE⟩:=c;have I1:Inv (bG (aa P w) P w K mg base N qual sc f cd A outer s0 H0 E) pins σ H1 s':=I.call' os un hok bare λb z=>nomatch z;show wpAny _ _ (leaving _ _) _ _ s';unfold leaving;refine JT (Ex.x_noteT I1.ok.frames I1.stack rfl tr λh1 T hT m1 t1=>?_);refine Ex.x_mark (fr:=none) t1 λh2 m2 t2=>?_;have fr0:∀b,s.heap.get? b=none->s0.heap.get? b=none:=λb q=>by
   cases r:s0.heap.get? b with
   | none=>rfl
   | some o=>obtain⟨o',z⟩:=I.base.there b o r (λq=>nomatch q); rw[q] at z; cases z
 have fr1:∀b,s'.heap.get? b=none->s0.heap.get? b=none:=λb q=>by
   cases r:s0.heap.get? b with
   | none=>rfl
   | some o=>obtain⟨o',z⟩:=I1.base.there b o r (λq=>nomatch q); rw[q] at z; cases z
 refine uz (s:=s') (D:=λb=>(b=e\/b=T0)\/b=T) (S:=bq (bG (aa P w) P w K mg base N qual sc f cd A outer s0 H0 E).stack) I1 (fr0 _ hn) hT I1.base I1.hok he1 rfl I1.stkFree ((m1.mono λb z=>.inl z).trans (kq (m2.mono λb z=>.inr z) λb z=>nomatch z)) ?_ ?_ t2 hE
 . rintro b ((rfl|rfl)|rfl)
   . exact fr0 _ hn
   . exact fr0 _ hT0
   . exact fr1 _ hT
 . rintro b ((rfl|rfl)|rfl)
   . exact he1
   . exact hT1
   . exact I1.hok.none_of hT
theorem qa:PassesOwn (model P w) (bG (aa P w) P w K mg base N qual sc f cd A outer s0 H0 E).A (bG (aa P w) P w K mg base N qual sc f cd A outer s0 H0 E).env (bG (aa P w) P w K mg base N qual sc f cd A outer s0 H0 E).xe:=PassesOwn.leaving
end
def tQ (X:Cx) (EX:XK):Prop:=∀(pins:List (Addr×Obj)) (σ:St) (H:Hp) (s:Shared) (e:Addr) (φ:Heap->Prop) (cls:Value) (d:Option Addr),
 Inv X pins σ H s->H e=some (.ext φ)->X.s₀.heap.get? e=none->Ex.Raw s.heap e cls d->EX cls d (ers e H)->X.xe (.ref e) s
theorem gv {P:Program} {w:World} {K:W.Frag} {mg:Str->Option Value} {base:Heap} {N:List Str} {qual:Str} {sc:Scope} {f:Addr} {cd:Value} {A:Around} {outer:List Env} {s0:Shared} {H0:Hp} {E:XK} :
   tQ (bG (aa P w) P w K mg base N qual sc f cd A outer s0 H0 E) E:=λ_ _ _ _ _ _ _ _ I he hn hr hE=>Gk I he hn hr hE
theorem Gf {P:Program} {w:World} {H:Hp} {h:Heap} {e C:Addr} {d:Option Addr} {t:Addr} (q:h.get? e=some { cls:=.ref C,dict:=d,data:=.fields #[.ref t,.none,.none,.none,.bool false,.none] }):c7 P w H h e (XO e C d) :=
 ⟨⟨t,q⟩,⟨_,q⟩,λh1 h2 ⟨u,z⟩ k=>⟨u,k _ z⟩⟩
theorem CO {P:Program} {w:World} {H:Hp} {h:Heap} {e C:Addr} {d:Option Addr} {o:Obj} {vs:Array Value} (q:h.get? e=some o) (hc:o.cls=.ref C) (hd:o.dict=d) (hf:o.data=.fields vs):c7 P w H h e (XC e C d) :=
 ⟨⟨o,vs,q,hc,hd,hf⟩,⟨_,q⟩,λh1 h2 ⟨o,vs,z,r⟩ k=>⟨o,vs,k _ z,r⟩⟩
end L2
namespace Ex
open PySem PySem.W PyProof.Rows PySem.Spec
section
variable {prog:Program} {w:World} {A:Around} {E:Value->Shared->Prop} {R:Result->Shared->Prop} {h:Heap} {g:Array GenState} {d:Drawn} {t:Nat} {os:OsState}
 {nm q:Str} {C N:Addr} {bs bm:List Value} {hdct:Bool} {sn:List Str} {sub:List Value} {ab:Bool} {col:Option Bool} {dd:Option Addr} {k0 k1 k2 k3 k5:Option Value}
theorem x_init0 {e t0:Addr} {Q:Value->Shared->Prop} (hC:h.get? C=some (excClassObj nm q C N bs bm hdct sn sub ab col dd k0 k1 k2 k3 k5 "ValueError.__new__")) (V:VE C bm)
   (he:h.get? e=some { cls:=.ref C,data:=.fields #[.ref t0,.none,.none,.none,.bool false,.none] })
   (hq:∀h' t',(∀b o,b≠e->h.get? b=some o->h'.get? b=some o)->h'.get? e=some { cls:=.ref C,data:=.fields #[.ref t',.none,.none,.none,.bool false,.none] }->Q .none ⟨h',g,d,t,os⟩) :
   wpAny (model prog w) A (call (.builtin "ValueError.__init__") [.ref e]) Q E ⟨h,g,d,t,os⟩:=by
 have F:=Ku;have vb:=V.b;have st:=F.noStar;refine Lz (codeAny_call_builtin F.init.plain F.initEntry ?_);simp only[checkBuiltinCall,F.initKind,F.initSplit,F.initRow]
 repeat (first|with_reducible refine Kj he ?_|with_reducible refine Kj hC ?_|(with_reducible refine LN hC ?_; rw[vb])|wp_step)
 show Q _ _;refine hq _ h.objs.size (λb o hb hbo=>?_) ?_
 . rw[KR _ _ (Ne.symm hb)];exact JX _ hbo
 . rw[Kl _ (JX _ he) rfl];rfl
end
end Ex
namespace L2
open PySem PySem.Spec PyProof.Rows
def tD (C:Addr) (EX:XK):TS:=λ_ _ H=>EX (.ref C) none H
section
variable {X:Cx} {C:Addr} {EX:XK} {x:Str} {p pos cpos:Pos}
theorem IP (hX:wD X.K C) (hm:X.mg x=some (.ref C)) (hi:PySem.W.findIn X.K (.ref C) "__init__"=some (some (.builtin "ValueError.__init__"))) (hk:PySem.W.keepIn X.K (.ref C)=true)
   (hc:X.calm=true) (hx:tQ X EX) (hg:Gl X x:=by rfl) (hdb:(x==("__debug__":Str))=false:=by decide) :
   PS X (.Raise (some (.Call (.Name x p) [] [] cpos)) none pos) (tD C EX):=by
 intro pins s σ H D I h;obtain⟨nm,q,N,bs,bm,sn,sub,ab,col,dd,k0,k1,k2,k3,k5,hl,VV⟩:=hX;rw[arm_exec_Raise];refine JT (Lb (Ex.x_raise (C:=C) (nm:=nm) (q:=q) (N:=N) (bs:=bs) (bm:=bm) (hdct:=true) (sn:=sn) (sub:=sub) (ab:=ab) (col:=col) (dd:=dd) (k0:=k0) (k1:=k1) (k2:=k2) (k3:=k3) (k5:=k5) (I.ok.hd hc) ?_));show wpAny _ _ (eval (.Call (.Name x p) [] [] cpos) X.env >>= λv=>standAt pos >>= λ_=>pure v) _ _ _;refine JT (Kk (Q:=λv s₁=>∃e o vs,v=.ref e/\s₁.heap.get? C=some (excClassObj nm q C N bs bm true sn sub ab col dd k0 k1 k2 k3 k5 "ValueError.__new__")/\Ex.VE C bm /\
     s₁.heap.get? e=some o/\o.cls=.ref C/\o.data=.fields vs/\vs[1]?=some .none/\X.xe (.ref e) s₁) ?_ (λv s3 h3=>JT (Lb (Jh h3))) λ_ _ z=>z)
 refine LB (kH I hg hm ?_ hdb);refine PySem.W.callWith_K0 I.kIn hk ?_;obtain⟨hp,g,dr,tk,os⟩:=s;refine Ex.x_call (fI:=.builtin "ValueError.__init__") (rest:=[]) (I.kIn _ _ hl) VV (by decide) (PySem.W.looks_findIn I.kIn hi) (PySem.W.Looks.of_pure (Ku.init.bind _)) ?_;have hC2:=Ex.heapX_keeps (C:=C) (rest:=[]) _ _ (I.kIn _ _ hl);refine Ex.x_init0 hC2 VV Ex.heapX_at λh' t' hk' he'=>⟨rfl,?_⟩
 have ne:∀b o,hp.get? b=some o->b≠hp.objs.size+1:=λb o z=>K4 (MO (Ji z));have I2:Inv X pins σ (upd H (hp.objs.size+1) (XO (hp.objs.size+1) C none)) ⟨h',g,dr,tk,os⟩ :=
   I.laid (h':=h') (t':=tk) (λb u z=>hk' b u (ne b u z) (Ex.heapX_keeps b u z)) (Kz _) (Gf he')
 have eH:ers (hp.objs.size+1) (upd H (hp.objs.size+1) (XO (hp.objs.size+1) C none))=H:=by
   funext b;unfold L2.ers upd;by_cases z:b=hp.objs.size+1
   . rw[Je z,z]; exact(I.hok.fresh (Kz _)).symm
   . rw[Ja z,Ja z]
 exact⟨_,_,_,rfl,I2.kIn _ _ hl,VV,he',rfl,rfl,rfl,hx pins σ _ ⟨h',g,dr,tk,os⟩ (hp.objs.size+1) _ (.ref C) none I2 aF (K' (K0 I.sz (Kz _))) ⟨_,_,he',rfl,rfl,rfl,rfl⟩ (by rw[eH]; exact h)⟩
end
end L2
namespace Ex
open PySem PySem.W PyProof.Rows PySem.Spec
def veTail:List Value->Bool
 | .ref _ :: r=>veTail r
 | l=>l==[.type "ValueError",.type "Exception",.type "BaseException",.type "object"]
theorem wg {p:List Value->Prop} (h0:p [.type "ValueError",.type "Exception",.type "BaseException",.type "object"]) (h1:∀a r,p r->p (.ref a :: r)):∀{l:List Value},veTail l=true->p l
 | [],e=>by cases e
 | c :: r,e=>by
   cases c with
   | ref a=>exact h1 a r (wg h0 h1 e)
   | _=>rw[show _ :: r=_ from beq_iff_eq.mp e]; exact h0
theorem veTail_has {l:List Value} (h:veTail l=true) {X:String} {b:Bool} (hb:([.type "ValueError",.type "Exception",.type "BaseException",.type "object"]:List Value).contains (.type X)=b):l.contains (.type X)=b :=
 wg (p:=λl=>l.contains (.type X)=b) hb (λa r z=>by rw[List.contains_cons,z]; rfl) h
theorem VE.of {C:Addr} {bm:List Value} (h:veTail bm=true):VE C bm:=by have h':veTail (.ref C :: bm)=true:=h;exact⟨veTail_has h' (by decide +kernel),veTail_has h' (by decide +kernel),veTail_has h' (by decide +kernel),veTail_has h' (by decide +kernel)⟩
end Ex
namespace L2
open PySem PySem.Spec PyProof.Rows
structure XClsOk (K:W.Frag) (mg:Str->Option Value) (name:Str) (C:Addr):Prop where
 g:mg name=some (.ref C)
 obj:∃(nm q:Str) (N:Addr) (bs bm:List Value) (sn:List Str) (sub:List Value) (ab:Bool) (col:Option Bool) (dd:Option Addr) (k0 k1 k2 k3 k5:Option Value),
   K.lookup C=some (excClassObj nm q C N bs bm true sn sub ab col dd k0 k1 k2 k3 k5 "ValueError.__new__")/\Ex.veTail bm=true
 kp:PySem.W.keepIn K (.ref C)=true
 sa:PySem.W.findIn K (.ref C) "__setattr__"=some (some (.builtin "object.__setattr__"))
 ga:PySem.W.findIn K (.ref C) "__getattribute__"=some (some (.builtin "BaseException.__getattribute__"))
 gt:PySem.W.findIn K (.ref C) "__getattr__"=some none
 cl:PySem.W.findIn K (.ref C) "__class__"=some (some (.builtin "object.__class__"))
 sg:PySem.W.specialIn K (.builtin "object.__class__") "__get__"=some (some (.builtin "getset_descriptor.__get__"))
 tk:PySem.W.takesIn K (.builtin "object.__class__")=some true
variable {name:Str}
theorem XClsOk.cls {K:W.Frag} {mg:Str->Option Value} {C:Addr} (c:XClsOk K mg name C):wD K C:=by obtain⟨nm,q,N,bs,bm,sn,sub,ab,col,dd,k0,k1,k2,k3,k5,l,v⟩:=c.obj;exact⟨nm,q,N,bs,bm,sn,sub,ab,col,dd,k0,k1,k2,k3,k5,l,Ex.VE.of v⟩
theorem XClsOk.cd {K:W.Frag} {mg:Str->Option Value} {C:Addr} (c:XClsOk K mg name C):∃cd,PySem.W.clsIn K C=some cd/\Ex.veTail cd.mro=true/\cd.hasDict=true/\∃bm,cd.mro=.ref C :: bm:=by obtain⟨nm,q,N,bs,bm,sn,sub,ab,col,dd,k0,k1,k2,k3,k5,l,v⟩:=c.obj;refine⟨_,by unfold PySem.W.clsIn; rw[l],v,rfl,_,rfl⟩
theorem XClsOk.mro {K:W.Frag} {mg:Str->Option Value} {C:Addr} (c:XClsOk K mg name C) {X:String} {b:Bool} (hb:([.type "ValueError",.type "Exception",.type "BaseException",.type "object"]:List Value).contains (.type X)=b):PySem.W.mroIn K C (.type X)=some b:=by obtain⟨cd,hcd,hv,_,bm,hm⟩:=c.cd;unfold PySem.W.mroIn;rw[hcd,LK,Ja (by rw[hm]; exact Jj),Ex.veTail_has hv hb]
end L2
namespace Ex
open PySem PySem.W PyProof.Rows PySem.Spec
section
variable {prog:Program} {w:World} {A:Around} {E:Value->Shared->Prop} {K:Frag} {x C:Addr} {ox:Obj} {od:Option Obj} {h:Heap} {g:Array GenState} {d:Drawn} {t:Nat} {os:OsState}
theorem HH {tk:Tok} {R:Result->Shared->Prop} (X:K.In h) (I:InstAt h x ox C od) (hb:mroIn K C (.type "BaseException")=some true) (ho:mroIn K C (.type "object")=some true)
   (hf:findObj K C od "__class__"=some (.bind (.builtin "getset_descriptor.__get__") (.builtin "object.__class__"))) (hq:R (.ok (.ret (.ref C))) ⟨h,g,d,t,os⟩) :
   codeAny (model prog w) A (.call (.builtin "BaseException.__getattribute__") ⟨[.ref x,.str "__class__" tk],[]⟩) R ⟨h,g,d,t,os⟩:=by
 have hk:builtinKind "BaseException.__getattribute__"=some .slot:=by decide +kernel
 have hsp:splitId "BaseException.__getattribute__"=some ("BaseException","__getattribute__"):=by decide +kernel
 have sub:Looks (model prog w) h (isInstance (.ref x) (.type "BaseException")) true:=I.type.andThen (looks_mroIn X hb);have L0:=I.type (M:=model prog w);have L1:=looks_find (M:=model prog w) X I hf;refine codeAny_call_builtin MI.ga.plain PySem.F.entry_bexc_ga (@check_slot (model prog w) _ _ ⟨h,g,d,t,os⟩ "BaseException.__getattribute__" "BaseException" "__getattribute__" (.ref x) [.str "__class__" tk] [] _ hk hsp sub (PySem.F.args_bexc_ga (.ref x) (.str "__class__" tk)) ?_);unfold Builtin.«object.__getattribute__»;refine JT (Jh ?_);refine JT (Jh ?_);refine JT (L0.at ?_);refine JT (L1.at ?_);show wpAny _ _ (holding [.builtin "object.__class__"] (call (.builtin "getset_descriptor.__get__") [.builtin "object.__class__",.ref x,.ref C]) >>= ret) _ _ _;exact JT (Kt (Lz (class_get (ox:=ox) (od:=od) X I ho (Jh hq))))
theorem xc_attr {Q:Option Value->Shared->Prop} (X:K.In h) (I:InstAt h x ox C od) (hb:mroIn K C (.type "BaseException")=some true) (ho:mroIn K C (.type "object")=some true)
   (hga:findIn K (.ref C) "__getattribute__"=some (some (.builtin "BaseException.__getattribute__"))) (hgt:findIn K (.ref C) "__getattr__"=some none)
   (hf:findObj K C od "__class__"=some (.bind (.builtin "getset_descriptor.__get__") (.builtin "object.__class__"))) (hq:Q (some (.ref C)) ⟨h,g,d,t+1,os⟩):wpAny (model prog w) A (getAttr? (.ref x) "__class__") Q E ⟨h,g,d,t,os⟩:=by
 have L0:=I.type (M:=model prog w);have L1:=looks_findIn (M:=model prog w) X hga;have L2:=looks_findIn (M:=model prog w) X hgt;have f3:=MI.ga.bind (.ref x);have hx0:(false&&onTheHeap (Value.builtin "BaseException.__getattribute__"))=false:=rfl;have hx2:(Value.builtin "BaseException.__getattribute__"==Value.builtin "object.__getattribute__")=false:=by decide +kernel
 have hx1:(onTheHeap (Value.ref C)&&Value.builtin "BaseException.__getattribute__"==Value.builtin "object.__getattribute__")=false:=by rw[hx2]; rfl
 unfold getAttr? getAttrBy? getAttrBy;refine JT (wpAny_mkText (JT (Mn (Kt (JT (L0.at (JT (L1.at ?_))))))))
 repeat (any_goals (first|assumption|with_reducible refine L0.at ?_|with_reducible refine L1.at ?_|with_reducible refine L2.at ?_|wp_step))
 refine HH X I hb ho hf ?_;show wpAny _ _ (handedOut (.ref C)) _ _ _;exact Jh (Jh hq)
end
end Ex
namespace L2
open PySem PySem.Spec PyProof.Rows
def nn (x C:Addr) (h:Heap):Prop:=∃o vs,h.get? x=some o/\o.cls=.ref C/\o.data=.fields vs/\(o.dict=none\/∃dx od,o.dict=some dx/\h.get? dx=some od)
theorem nn.inst {x C:Addr} {h:Heap} (p:nn x C h):∃ox od,PySem.W.InstAt h x ox C od:=by
 obtain⟨o,vs,ho,hc,hd,z|⟨dx,od,z,q⟩⟩:=p
 . exact⟨o,none,ho,hc,by unfold PySem.W.notCls; rw[hd],by rw[z]; trivial⟩
 . exact⟨o,some od,ho,hc,by unfold PySem.W.notCls; rw[hd],by rw[z]; exact q⟩
theorem ww {K:W.Frag} {mg:Str->Option Value} {nm:Str} {x C:Addr} (c:XClsOk K mg nm C):PySem.W.KitX K (.ref x) (.ref C) (nn x C) where
 ty:=λM h _ p=>by obtain⟨ox,od,I⟩:=p.inst; exact I.type
 it:=λM h X _=>by obtain⟨nm,q,N,bs,bm,sn,sub,ab,col,dd,k0,k1,k2,k3,k5,l,v⟩:=c.obj;intro A' Q' E' s' k q;unfold isType loadHead;exact JT (Mh (k _ _ (X _ _ l)) (Jh q))
 ne:=λh tp dd its n sl X htp=>by obtain⟨nm,q,N,bs,bm,sn,sub,ab,col,dd',k0,k1,k2,k3,k5,l,v⟩:=c.obj;refine Bool.eq_false_iff.mpr λq=>?_;have e:C=tp:=Value.ref.inj (beq_iff_eq.mp q);subst e;have z:=Jt Obj.cls (Option.some.inj ((X _ _ l).symm.trans htp));exact absurd (Value.type.inj z) (by decide)
 ca:=λ{prog w A E Q s} X p hq=>by
   obtain⟨ox,od,I⟩:=p.inst;obtain⟨cd,hcd,_⟩:=c.cd;have hf:PySem.W.findObj K C od "__class__"=some (.bind (.builtin "getset_descriptor.__get__") (.builtin "object.__class__")):=by unfold PySem.W.findObj;rw[hcd,LK,c.cl,LK];simp [c.sg,c.tk]
   obtain⟨hp,g,dr,tk,os⟩:=s;exact Ex.xc_attr X I (c.mro (by decide +kernel)) (c.mro (by decide +kernel)) c.ga c.gt hf hq
def sy (K:W.Frag) (mg:Str->Option Value):List V->Hp->VK->Prop:=λxs H Q=>∃a C d nm y u b,xs=[.ref a,y]/\H a=some (XC a C d)/\(∀dx,d=some dx->∃o,H dx=some o)/\XClsOk K mg nm C/\aX y u/\PySem.W.kitOne K (.ref C) u=some b/\Q (.bl b) H
def yk (K:W.Frag) (mg:Str->Option Value):List V->Hp->VK->Prop:=λxs H Q=>∃a C d nm p ys b,xs=[.ref a,.ref p]/\H a=some (XC a C d)/\(∀dx,d=some dx->∃o,H dx=some o)/\XClsOk K mg nm C/\H p=some (.tup ys) /\
 (∀us,aT ys us->PySem.W.kitAny K (.ref C) us=some b)/\Q (.bl b) H
section
variable {X:Cx}
theorem yW {pins:List (Addr×Obj)} {σ:St} {H:Hp} {s:Shared} {a C:Addr} {d:Option Addr} (I:Inv X pins σ H s) (e:H a=some (XC a C d)) (hd:∀dx,d=some dx->∃o,H dx=some o):nn a C s.heap:=by
 obtain⟨o,vs,ho,hc,hdd,hf⟩:=(I.hok _ _ e).1;refine⟨o,vs,ho,hc,hf,?_⟩;cases d with
 | none=>exact .inl hdd
 | some dx =>
   obtain⟨z,q⟩:=hd dx rfl;obtain⟨u,r⟩:=(I.hok _ _ q).some_at;exact .inr ⟨dx,u,hdd,r⟩
theorem vo:aw X (.builtin "isinstance") (sy X.K X.mg):=by
 intro pins s σ H xs us Q I r h;obtain⟨a,C,d,nm,y,u,b,rfl,e,hd,c,ry,hk,q⟩:=h;obtain⟨v,w',rfl,rx,rc⟩:=kg r;cases (show v=Value.ref a from rx);have hw:PySem.W.kitOne X.K (.ref C) w'=some b:=by
   cases y with
   | ref z=>cases (show w'=Value.ref z from rc); cases (show u=Value.ref z from ry); exact hk
   | ty z=>cases (show w'=Value.type z from rc); cases (show u=Value.type z from ry); exact hk
   | non=>cases (show w'=Value.none from rc); cases (show u=Value.none from ry); exact hk
   | bl z=>cases (show w'=Value.bool z from rc); cases (show u=Value.bool z from ry); exact hk
   | int z=>obtain⟨t,rfl⟩:=ry; cases hk
   | str z=>obtain⟨t,rfl⟩:=ry; cases hk
   | byt z=>obtain⟨t,rfl⟩:=ry; cases hk
   | flt z=>obtain⟨t,rfl⟩:=ry; cases hk
 exact PySem.W.kia_one (ww c) I.kIn (yW I e hd) hw (λz=>nomatch z) λtk=>⟨.bl b,H,I.tok _,rfl,q⟩
theorem HQ:aw X (.builtin "isinstance") (yk X.K X.mg):=by
 intro pins s σ H xs us Q I r h;obtain⟨a,C,d,nm,p,ys,b,rfl,e,hd,c,hp,hk,q⟩:=h;obtain⟨v,w',rfl,rx,rc⟩:=kg r;cases (show v=Value.ref a from rx);cases (show w'=Value.ref p from rc);obtain⟨_,its,rv,o,ho,hc,n,hdat⟩:=(show c7 X.prog X.w H s.heap p (.tup ys) from I.hok _ _ hp)
 obtain⟨oc,od,oda,osl⟩:=o;dsimp only at hc hdat;subst hc hdat;exact PySem.W.kia_tup (ww c) I.kIn (yW I e hd) ho (hk its rv) (λz=>nomatch z) λtk=>⟨.bl b,H,I.tok _,rfl,q⟩
end
end L2
namespace Ex
open PySem PySem.W PyProof.Rows PySem.Spec
theorem x_match {M:Model} {A:Around} {E:Value->Shared->Prop} {s:Shared} {K:Frag} {e C G:Addr} {Q:Bool->Shared->Prop} (X:K.In s.heap) (ht:Looks M s.heap (typeOf (.ref e)) (.ref C)) (hG:typeIn K (.ref G)=some (.type "type"))
   (hi:Looks M s.heap (isType (.ref G)) true) (hb:mroIn K G (.type "BaseException")=some true) (hs:mroIn K C (.ref G)=some true) (h:Q true s):wpAny M A (excMatches (.ref e) (.ref G)) Q E s:=by
 obtain⟨hp,g,d,tk,os⟩:=s;have L0:=looks_typeIn (M:=M) X hG;have L1:=looks_mroIn (M:=M) X hb;have L2:=looks_mroIn (M:=M) X hs;have f:=tc_notTuple;unfold excMatches isExcClass isInstance;refine JT (JT (L0.at ?_));rw[f];refine Jh ?_;simp only[Lh,if_false];refine JT (Jh ?_);simp only[M3,Mi];refine JT (JT (JT (JT (hi.at ?_))));simp only[if_true];refine L1.at ?_;simp only[Bool.not_true,Lh,if_false];refine Jh (Jh (JT (ht.at ?_)));refine JT (JT (JT (L2.at ?_)));simp only[if_true];exact Jh (Jh (Jh h))
end Ex
namespace L2
open PySem PySem.Spec PyProof.Rows
abbrev TX:=St->Hp->VK->XK->Prop
def PX (X:Cx) (e:Expr) (t:TX):Prop:=∀(pins:List (Addr×Obj)) (s:Shared) (σ:St) (H:Hp) (Q:VK) (E:XK),Inv X pins σ H s->t σ H Q E ->
 wpAny (model X.prog X.w) X.A (eval e X.env) (EP X pins σ Q) (λev s'=>∃H1 s1,Inv X pins σ H1 s1/\aa X.prog X.w X.stack H1 s1 E ev s') s
def PSx (X:Cx) (st:Stmt) (t:cS->XK->St->Hp->Prop):Prop:=∀(pins:List (Addr×Obj)) (s:Shared) (σ:St) (H:Hp) (D:cS) (E:XK),Inv X pins σ H s->t D E σ H ->
 wpAny (model X.prog X.w) X.A (exec st X.env) (SP X pins D) (λev s'=>∃H1 s1,Inv X pins σ H1 s1/\aa X.prog X.w X.stack H1 s1 E ev s') s
section
variable {X:Cx} {k:Nat} {f:Addr} {fd:FuncData} {ps:List Str} {sp:Sp} {x:Str} {st:Stmt} {p pos:Pos} {e:Expr} {es:List Expr} {t:TA} {tx:TX}
theorem EY (Dd:DefOk X.K X.mg x st ps f fd) (F:FnOk X.prog X.w X.K X.mg X.base (aa X.prog X.w) k f fd ps sp) (hr:Room k X.A) (ha:PA X.nox (e :: es) t) (hg:Gl X x:=by rfl)
   (hdb:(x==("__debug__":Str))=false:=by decide) (he:starEach (e :: es) X.env=(false,eval e X.env) :: starEach es X.env:=by rfl) (hpl:(backTo pos (starEach es X.env)).any (·.1)=false:=by rfl) :
   PX X (.Call (.Name x p) (e :: es) [] pos) (λσ H Q E=>t σ H λvs H1=>sp vs H1 Q E):=by
 intro pins s σ H Q E I h;refine LB (kH I hg Dd.g ?_ hdb);refine PySem.W.callWith_K (h₀:=X.base) I.ok.mod.kin Dd.F.kp (Kk (ha pos pins s σ H _ (I.wish _) h) (λus s1 ⟨vs,H1,I1,r,q⟩=>⟨I1.kIn,?_⟩) λ_ _ z=>z.elim) he hpl;have I1:=I1.unwish;have hl:us.length=ps.length:=by rw[<- r.length]; exact F.len _ _ _ _ q
 have hb:BindsTo s1 fd ⟨us,[]⟩ (ps.zip us):=by have:=Dd.b s1 us I1.kIn (by rw[Jv]; exact hl);rwa [Jv] at this
 refine Lz (L' (F.run X.A X.stack s1 H1 ⟨us,[]⟩ us vs Q E hr I1.env0 hb r q) λrr s' hq=>?_);cases rr with
 | error ev=>exact⟨H1,s1,I1,hq⟩
 | ok fl =>
   cases fl with
   | ret u=>exact I1.after hq
   | next=>exact False.elim hq
   | brk=>exact False.elim hq
   | cont=>exact False.elim hq
theorem B1 (he:PX X e tx) (hs:swapsWith e none pos.line X.env=pure false:=by rfl):PSx X (.Expr e pos) (λD E σ H=>tx σ H (λ_ H'=>D.nx σ H') E):=by intro pins s σ H D E I h;exact wpAny_Expr_any (Kk (he pins s σ H _ E I h) (λv s1 ⟨x,H1,I1,r1,q1⟩=>⟨σ,H1,I1,q1⟩) λ_ _ z=>z) I.quiet hs
end
abbrev Cx.hdl (X:Cx) (ea:Addr):Cx:={ X with A:=X.A.mark (some (.ref ea)),calm:=false }
variable {X:Cx} {H:Hp}
theorem Inv.hdl {pins:List (Addr×Obj)} {σ:St} {s:Shared} (I:Inv X pins σ H s) (ea:Addr):Inv (X.hdl ea) pins σ H s :=
 ⟨⟨I.ok.mod,I.ok.kind,I.ok.glob,I.ok.blt,I.ok.above,I.ok.inj,I.ok.has,I.ok.cab,λz=>Bool.noConfusion z,I.ok.frames,I.ok.stk,I.ok.exf,I.ok.bs,I.ok.bsz,I.ok.noex,I.ok.exfs,I.ok.funs,I.ok.frf⟩,I.os,I.bare,I.base,I.loc,I.cell,I.free,I.freeC,I.pin,I.hok,I.len⟩
theorem Inv.unhdl {pins:List (Addr×Obj)} {σ:St} {s:Shared} {ea:Addr} {E:Value->Shared->Prop} (ok:X.Ok) (I:Inv ((X.hdl ea).wish E) pins σ H s):Inv X pins σ H s :=
 ⟨ok,I.os,I.bare,I.base,I.loc,I.cell,I.free,I.freeC,I.pin,I.hok,I.len⟩
theorem Inv.dropped {pins:List (Addr×Obj)} {σ:St} {s:Shared} {j:Nat} {n:Str} {m:Str->Option Value} {h':Heap} {v:Option Value} {t':Nat} (I:Inv X pins σ H s) (hN:X.N.Nodup) (hj:X.N[j]?=some n) (hk:X.env.kindOf n=some .local)
   (hm:∀(i:Nat) (x:Str) (v:V),X.N[i]?=some x->σ[i]?=some (some v)->lE X.env.scope x->∃u,aX v u/\wU X.env s.heap m x u) (hn0:s.heap.Ns X.env.locals m)
   (hn:h'.Ns X.env.locals (λx=>if x=n then v else m x)) (hs:Heap.SameBut X.env.locals s.heap h'):Inv X pins (σ.set j none) H { s with heap:=h',toks:=t' }:=by
 have cne:=I.cne;have lt:∀b o,X.s₀.heap.get? b=some o->b≠X.env.locals:=λb o e=>K4 (Jo (Ji e) I.ok.above);obtain⟨oL,_,_,hoL,_⟩:=id hn0;refine⟨I.ok,I.os,I.bare,⟨λb o e n hb hx=>(hs.2 b (lt b o e)).trans (I.base.keep b o e n hb hx),λb o e n hb hx=>?_,I.base.free,λb o e hx=>?_,I.base.tups,I.base.frzs,I.base.tbls⟩,
   ⟨_,hn,λi y w e1 e2 e3=>?_⟩,λy c e=>?_,I.free,I.freeC,λp hp=>?_,λb ob e=>?_,by rw[LF]; exact I.len⟩
 . obtain⟨sl,e1⟩:=I.base.slot b o e n hb hx;exact⟨sl,(hs.2 b (lt b o e)).trans e1⟩
 . obtain⟨o',e1⟩:=I.base.there b o e hx;exact⟨o',(hs.2 b (lt b o e)).trans e1⟩
 . have hij:j≠i:=λz=>by
     subst z;by_cases q:j<σ.length
     . rw[Kf q] at e2; cases e2
     . rw[KB (by rw[LF]; omega)] at e2; cases e2
   rw[L6 hij] at e2;obtain⟨u,r,q⟩:=hm i y w e1 e2 e3;refine⟨u,r,?_⟩;rcases q with⟨k,e⟩|⟨k,c,e,z⟩
   . have:y≠n:=λz=>hij (tm hN hj (z ▸ e1));exact .inl ⟨k,by show(if y=n then v else m y)=some u; rw[Ja this]; exact e⟩
   . exact .inr ⟨k,c,e,z.sameBut hs (cne y c e)⟩
 . obtain⟨w',z⟩:=I.cell y c e;exact⟨w',z.sameBut hs (cne y c e)⟩
 . obtain⟨e,n,ne,nf,d⟩:=I.pin p hp;exact⟨(hs.2 p.1 ne).trans e,n,ne,nf,d⟩
 . refine(I.hok b ob e).stay (λc w' hc q=>(hs.2 c ?_).trans q) (λ_ q=>q) λ_ _ q=>q;rintro rfl;rcases hc with rfl|hc
   . rw[I.free] at e; cases e
   . rw[I.free] at hc; cases hc
theorem Un.track {fs:List Addr} {H0:Hp}{h0 h:Heap} {a:Addr} {o:HO} (u:Un fs [] H0 H h0 h) (n:h0.get? a=none) (e:H a=none):Un fs [] H0 (upd H a o) h0 h where
 keep:=u.keep
 slot:=u.slot
 free:=λb ob q z hx=>by rw[aQ (λy=>by rw[y,n] at q; cases q)]; exact u.free b ob q z hx
 there:=u.there
 tups:=λb xs q=>by have r:=u.tups b xs q;rw[aQ (aV r e)]; exact r
 frzs:=λb ob xs q=>by have r:=u.frzs b ob xs q;rw[aQ (aV r e)]; exact r
 tbls:=λb ps q=>by obtain⟨m,r⟩:=u.tbls b ps q;exact⟨m,by rw[aQ (aV r e)]; exact r⟩
theorem bH.track {P:Program} {w:World} {h:Heap} {a:Addr} {o:HO} (x:bH P w H h) (e:H a=none) (k:c7 P w (upd H a o) h a o):bH P w (upd H a o) h:=λb u q=>by
 by_cases hb:b=a
 . subst hb; rw[aF] at q; cases q; exact k
 . rw[aQ hb] at q;exact(x b u q).stay (λc v _ r=>r) (λc r=>by rw[aQ (aV r e)]; exact r) λc xs r=>by rw[aQ (aV r e)]; exact r
def CV (K:W.Frag) (mg:Str->Option Value) (G:Addr) (j:Nat) (tb:cS->XK->St->Hp->Prop) (th:TS):TS:=λD σ H=>tb D (λcls d H'=>∃C nm,cls=.ref C/\XClsOk K mg nm C/\PySem.W.mroIn K C (.ref G)=some true /\
 ∀ea,H' ea=none->th { nx:=λσ' H2=>D.nx (σ'.set j none) H2,rt:=D.rt,bk:=λσ' H2=>D.bk (σ'.set j none) H2,ct:=λσ' H2=>D.ct (σ'.set j none) H2 } (σ.set j (some (.ref ea))) (upd H' ea (XC ea C d))) σ H
section
variable {X:Cx} {st b0:Stmt} {suite:List Stmt} {tb:cS->XK->St->Hp->Prop} {th:TS} {G:Addr} {j:Nat} {c n:Str} {cp hp pos:Pos}
theorem Fh (hN:X.N.Nodup) (hj:X.N[j]?=some n) (hk:X.env.scope.names.lookup n=some .local) (hG:XClsOk X.K X.mg c G) (hst:X.stack=X.env :: X.outer) (hfr:X.env.frame=some X.env.locals)
   (hb:PSx X st tb) (hh:∀ea,bD (X.hdl ea).nox (b0 :: suite) th) (hg:Gl X c:=by rfl) (hdb:(c==("__debug__":Str))=false:=by decide) :
   PS X (.Try [st] [.ExceptHandler (some (.Name c cp)) (some n) (b0 :: suite) hp] [] [] pos) (CV X.K X.mg G j tb th):=by
 intro pins s σ H D I h;refine wpAny_Try_except (Lu (Kk (hb pins s σ H D _ I h) (λf s1 q=>?_) λev s1 q=>?_))
 . cases f with
   | next=>exact LO (LO q)
   | ret v=>exact q
   | brk=>exact q
   | cont=>exact q
 obtain⟨H1,s2,I1,ea,cls,d,T0,H',rfl,os,bare,un,hok,hn,he1,hT0,hT1,tr,C,nm,rfl,hC,hsub,hth⟩:=q;have I2:Inv X pins σ H' s1:=I1.call' os un hok bare λb z=>nomatch z;have hframes:X.A.frames=some (X.env :: X.outer):=by rw[<- hst]; exact I.ok.frames
 have hfun:s1.heap.FunFrames X.base (X.env :: X.outer):=by rw[<- hst]; exact I2.stack
 have hS1:∀b∈bq (X.env :: X.outer),H' b=none:=by rw[<- hst]; exact I2.stkFree
 -- the state with a heap that moved
 have mv:∀(h':Heap) (D':Addr->Prop) (g:Array GenState) (dr:Drawn) (tk:Nat),Ex.Mvd (bq (X.env :: X.outer)) D' s1.heap h'->(∀b,D' b->s2.heap.get? b=none)->(∀b,D' b->H' b=none)->AllBare g ->
     Inv X pins σ H' ⟨h',g,dr,tk,s1.os⟩:=λh' D' g dr tk m h1 h2 h3=>by
   refine I1.call' (s':=⟨h',g,dr,tk,s1.os⟩) os (Un.moved un m h1 λb hb=>.inl ?_) (bH.moved hok m h2 hS1) h3 λb z=>nomatch z;rw[hst]; exact hb
 refine Ex.x_noteT hframes hfun hfr tr λh3 T hT m3 t3=>?_;refine Ex.x_mark (fr:=none) t3 λh4 m4 t4=>?_;have fr2:∀b,s1.heap.get? b=none->s2.heap.get? b=none:=λb q=>by
   cases r:s2.heap.get? b with
   | none=>rfl
   | some o=>obtain⟨o',z⟩:=un.there b o r (by simp); rw[q] at z; cases z
 have D1:∀b,((b=ea\/b=T0)\/b=T)->s2.heap.get? b=none:=by
   rintro b ((rfl|rfl)|rfl)
   . exact hn
   . exact hT0
   . exact fr2 _ hT
 have D2:∀b,((b=ea\/b=T0)\/b=T)->H' b=none:=by
   rintro b ((rfl|rfl)|rfl)
   . exact he1
   . exact hT1
   . exact hok.none_of hT
 have M4:Ex.Mvd (bq (X.env :: X.outer)) (λb=>(b=ea\/b=T0)\/b=T) s1.heap h4:=(m3.mono λb z=>.inl z).trans (kq (m4.mono λb z=>.inr z) λb z=>nomatch z);have I4:Inv X pins σ H' { s1 with heap:=h4 }:=mv h4 _ s1.gens s1.drawn s1.toks M4 D1 D2 bare;have Ih:=I4.hdl ea;obtain⟨cdG,hcG,hvG,_,bmG,hmG⟩:=hG.cd;obtain⟨nmG,qG,NG,bsG,bm',snG,subG,abG,colG,ddG,k0,k1,k2,k3,k5,lG,vG⟩:=hG.obj;refine wpAny_handleBy_cons (codeAny_handlers_test (A:=X.A.mark (some (.ref ea))) (kH Ih hg hG.g ?_ hdb)) (by intro q; cases q);have ty:PySem.W.typeIn X.K (.ref G)=some (.type "type"):=by show(List.lookup G X.K).map (·.cls)=_; rw[lG]; rfl
 obtain⟨oe,vs,oT,ts,q1,q2,q3,q4,q5,q6,q7,q8,q9⟩:=id t4;have Lt:PySem.W.Looks (model X.prog X.w) h4 (typeOf (.ref ea)) (.ref C):=q2 ▸ (PySem.W.Looks.ld q1).andThen .now;have Li:PySem.W.Looks (model X.prog X.w) h4 (isType (.ref G)) true:=by intro A' Q' E' s' k q;unfold isType loadHead;exact JT (Mh (k _ _ (I4.kIn _ _ lG)) (Jh q))
 refine Ex.x_match (s:={ s1 with heap:=h4 }) I4.kIn Lt ty Li (hG.mro (by decide +kernel)) hsub ?_;dsimp only;refine codeAny_handlers_suite_as ?_;refine Ex.x_mark (s:={ s1 with heap:=h4 }) (fr:=none) t4 λh5 m5 t5=>?_;have M5:Ex.Mvd (bq (X.env :: X.outer)) (λb=>(b=ea\/b=T0)\/b=T) s1.heap h5:=M4.trans (kq (m5.mono λb z=>.inr z) λb z=>nomatch z);have I5:Inv X pins σ H' { s1 with heap:=h5 }:=mv h5 _ s1.gens s1.drawn s1.toks M5 D1 D2 bare;obtain⟨oe5,vs5,oT5,ts5,p1,p2,p3,p4,_⟩:=id t5;have I6:Inv X pins σ (upd H' ea (XC ea C d)) { s1 with heap:=h5 }:=by refine I1.call' (s':={ s1 with heap:=h5 }) os (Un.track (Un.moved un M5 D1 λb hb=>.inl (by rw[hst]; exact hb)) hn he1) (bH.track (bH.moved hok M5 D2 hS1) he1 (CO p1 p2 p3 p4)) bare λb z=>nomatch z
 refine nL I6 hN hj (.inl hk) (show aX (.ref ea) (.ref ea) from rfl) (λs6 I7=>?_) (.inr hk);refine Kk (hh ea pins s6 _ _ _ ((I7.hdl ea).wish _) (hth ea he1)) (λf s7 q=>?_) λ_ _ z=>z.elim;have go:∀{σ':St} {H2:Hp} {Q:Flow->Shared->Prop},Inv ((X.hdl ea).nox) pins σ' H2 s7->(∀s8,Inv X pins (σ'.set j none) H2 s8->Q f s8)->wpAny (model X.prog X.w) X.A (do bindName X.env n .none; unbindBehindTheSuite X.env n hp) (λ_ s8=>Q f s8) X.xe s7:=λ{σ' H2 Q} J k=>by have J':=J.unhdl I.ok;obtain⟨m,hm,hl⟩:=id J'.loc;exact wpAny_nameGoes_keeps hk hm (by rw[I.ok.kind]; rfl) λh' v hn' hs'=>k _ (J'.dropped hN hj hk hl hm hn' hs')
 cases f with
 | next =>
   obtain⟨σ',H2,J,z⟩:=q;exact go J λs8 K8=>⟨_,H2,K8,z⟩
 | ret u =>
   obtain⟨v,σ',H2,J,rv,z⟩:=q;exact go J λs8 K8=>⟨v,_,H2,K8,rv,z⟩
 | brk =>
   obtain⟨σ',H2,J,z⟩:=q;exact go J λs8 K8=>⟨_,H2,K8,z⟩
 | cont =>
   obtain⟨σ',H2,J,z⟩:=q;exact go J λs8 K8=>⟨_,H2,K8,z⟩
end
section
variable {P:Program} {w:World} {K:W.Frag} {mg:Str->Option Value} {base:Heap}
theorem Fun.okE {x qual:Str} {st:Stmt} {f:Addr} {fd:FuncData} {N ps:List Str} {k:Nat} {sp:Sp} (F:Fun K x qual st f fd) (S:FnScope N ps (af st)) (len:∀vs H Q E,sp vs H Q E->vs.length=ps.length)
   (hbody:∀(cdv:Value) (A:Around) (outer:List Env) (s:Shared) (H:Hp) (vs:List V) (Q:VK) (E:XK),Room k (A.deeper (envOfC qual (af st) s.heap.objs.size f cdv))->sp vs H Q E ->
     ∃t,bD (bG (aa P w) P w K mg base N qual (af st) f cdv A outer s H E) (bN st) t/\t { nx:=λ_ H'=>Q .non H',rt:=Q } (iU N vs) H):FnOk P w K mg base (aa P w) (k+1) f fd ps sp:=by
 obtain⟨oc,od,kV,doc,pm,an,cdv,ct,osl,rfl,lk,hcd⟩:=F.ex;exact yX lk hcd S len λA outer s H vs Q E hr hsp=>hbody cdv A outer s H vs Q E hr hsp
end
section
variable {X:Cx} {k:Nat} {f C:Addr} {fd:FuncData} {ps:List Str} {sp:Sp} {x qual:Str} {st:Stmt} {p pos cpos:Pos} {e:Expr} {es:List Expr} {t:TA} {E:XK}
theorem zL (D:DefOk X.K X.mg x st ps f fd) (G:FnOk X.prog X.w X.K X.mg X.base (aa X.prog X.w) k f fd ps sp) (hr:Room k X.A) (hx:gN (aa X.prog X.w) X E) (ha:PA X (e :: es) t) (hg:Gl X x:=by rfl)
   (hdb:(x==("__debug__":Str))=false:=by decide) (he:starEach (e :: es) X.env=(false,eval e X.env) :: starEach es X.env:=by rfl) (hpl:(backTo pos (starEach es X.env)).any (·.1)=false:=by rfl) :
   PE X (.Call (.Name x p) (e :: es) [] pos) (rC sp [] E t):=yi G hr hg D.g D.F.kp D.b .nil hx ha hdb he hpl
theorem gh (c:XClsOk X.K X.mg x C) (hi:PySem.W.findIn X.K (.ref C) "__init__"=some (some (.builtin "ValueError.__init__"))) (hc:X.calm=true) (hx:tQ X E) (hg:Gl X x:=by rfl)
   (hdb:(x==("__debug__":Str))=false:=by decide):PS X (.Raise (some (.Call (.Name x p) [] [] cpos)) none pos) (tD C E):=IP c.cls c.g hi c.kp hc hx hg hdb
end
theorem xy {K:W.Frag} {mg:Str->Option Value} {h:Heap} {name:Str} {C N:Addr} {nm q:Str} {bs bm:List Value} {sn:List Str} {sub:List Value} {ab:Bool} {col:Option Bool} {dd:Option Addr} {k0 k1 k2 k3 k5:Option Value} (X:K.In h) (G:h.Ns mainGlobals mg)
   (a:PySem.W.nsIn K mainGlobals name=some (some (.ref C))) (l:K.lookup C=some (excClassObj nm q C N bs bm true sn sub ab col dd k0 k1 k2 k3 k5 "ValueError.__new__")) (v:Ex.veTail bm=true) (kp:PySem.W.keepIn K (.ref C)=true)
   (sa:PySem.W.findIn K (.ref C) "__setattr__"=some (some (.builtin "object.__setattr__"))) (ga:PySem.W.findIn K (.ref C) "__getattribute__"=some (some (.builtin "BaseException.__getattribute__"))) (gt:PySem.W.findIn K (.ref C) "__getattr__"=some none)
   (cl:PySem.W.findIn K (.ref C) "__class__"=some (some (.builtin "object.__class__"))) (sg:PySem.W.specialIn K (.builtin "object.__class__") "__get__"=some (some (.builtin "getset_descriptor.__get__"))) (tk:PySem.W.takesIn K (.builtin "object.__class__")=some true):XClsOk K mg name C :=
 ⟨PySem.W.mg_of X G a,⟨nm,q,N,bs,bm,sn,sub,ab,col,dd,k0,k1,k2,k3,k5,l,v⟩,kp,sa,ga,gt,cl,sg,tk⟩
theorem CP:bootBuiltins "ValueError"=some (.type "ValueError"):=by decide +kernel
section
variable {X:Cx}
def Im:V->List V->Hp->VK->Prop:=λx vs H Q=>∃l xs i y,x=.ref l/\vs=[.int (i:Nat),y]/\H l=some (.lst xs)/\i<=xs.length/\xs.length<sizeLine/\Q .non (upd H l (.lst (xs.take i++y :: xs.drop i)))
theorem E6 {its:List Value} {u:Value} {x:Int} {i:Nat} (hx:x=(i:Int)) (hi:i<=its.length) :
   ((λxs:Array Value=>have k:=if x<0 then(x+(xs.size:Int)).toNat else min x.toNat xs.size; (xs.extract 0 k).push u++xs.extract k) its.toArray)=(its.take i++u :: its.drop i).toArray:=by
 subst hx;have hneg:¬ ((i:Int)<0):=Int.not_lt.mpr (Int.natCast_nonneg i);have hmin:min (Int.toNat (i:Int)) its.length=i:=by rw[K6]; omega
 simp only[hneg,if_false,Jr,hmin];apply Array.ext';simp;exact Kh (by rw[KD]; exact JZ _)
theorem EN:ma X "list.insert" Im:=by
 intro pins s σ H x vs v us Q I rx rv h;obtain⟨l,xs,i,y,rfl,rfl,hH,hi,hz,q⟩:=h;cases rx;obtain⟨u0,u,rfl,r0,ru⟩:=kg rv;obtain⟨t,rfl⟩:=r0;obtain⟨z,its,n,r,hl,e⟩:=I.lstM hH;have hb:(i:Int)<2 ^ 63:=by have:xs.length<sizeLine:=hz;rw[sizeLine_eq] at this;omega
 have ha:-(2 ^ 63)<=(i:Int):=Int.le_trans (by decide) (Int.natCast_nonneg i);have hf:¬ (!Builtin.List.listFitsIndex (i:Int))=true:=by rw[fitsIndex_both ha hb]; exact Jj
 have hs:its.toArray.size<=sizeLine:=by rw[Jr,<- hl]; exact z
 have hi':i<=its.length:=by rw[<- hl]; exact hi
 obtain⟨k,hk⟩:∃k:Int,k=(i:Int):=⟨_,rfl⟩
 rw[<- hk] at hf ⊢;refine call_meets F.slot_list_insert ⟨_,e,rfl⟩ F.entry_list_insert (F.args_list_insert_3 _ _ _) (AutoSeq1.list_insert_list_int_val_1 l its.toArray n k t u hf hs) ⟨e,?_⟩;refine⟨.non,_,I.lset (its':=its.take i++u :: its.drop i) hH e (E6 hk hi') ((r.take i).append (.cons ru (r.drop i))) ?_,rfl,q⟩;rw[JS,JY,Ju,KD]; omega
end
def noX:XK:=λ_ _ _=>False
theorem yl {P:Program} {w:World} :gN (aa P w) X noX:=by rintro pins σ H s e s' I ⟨ea,cls,d,T,H',_,_,_,_,_,_,_,_,_,_,h⟩;exact h.elim
end L2
namespace Sk
open PySem PySem.Spec PyProof.Rows
mutual
def sV (w:World):PyData->Int
 | .int i=>hashInt i
 | .str x=>hashStr w x
 | .bool b=>hashInt (if b then 1 else 0)
 | .tuple ds=>reduceHash (Builtin.Tuple.tupleHashOf (vX w ds))
 | _=>0
def vX (w:World):List PyData->List Int
 | []=>[]
 | d :: ds=>sV w d :: vX w ds
end
mutual
def drw:PyData->Nat
 | .tuple ds=>uY ds+1
 | _=>1
def uY:List PyData->Nat
 | []=>0
 | d :: ds=>drw d+uY ds
end
end Sk
namespace L2
open PySem PySem.Spec PyProof.Rows
theorem iN {c A B:Prop} [Decidable c] (h:B) (hc:¬ c:=by decide +kernel):if c then A else B:=bC hc h
theorem iP {c A B:Prop} [Decidable c] (h:A) (hc:c:=by decide +kernel):if c then A else B:=bF hc h
theorem jN {c A B:Prop} [Decidable c] (h:B) (hc:¬ c:=by decide):if c then A else B:=bC hc h
end L2
namespace Ex
open PySem PySem.Spec PyProof.Rows L2
section
variable {M:Model} {A:Around} {E:Value->Shared->Prop} {s:Shared} {base:Heap} {env:Env} {outer:List Env} {L e:Addr} {cls:Value} {d:Option Addr}
theorem note_same {x:Value} {env env':Env} (h:env.frame=env'.frame):noteFrame x env=noteFrame x env':=by unfold noteFrame PySem.frameOf;rw[h]
theorem x_noteA {T0:Addr} {fl:Value} {Q:Unit->Shared->Prop} (hfr:A.frames=some (env :: outer)) (hl:s.heap.FunFrames base (env :: outer)) (hf:env.frame=some L) (hr:Tr s.heap e cls d T0 fl)
   (h:∀h' T,(s.heap.get? T=none\/T=T0)->Mvd (bq (env :: outer)) (λb=>b=e\/b=T0) s.heap h'->Tr h' e cls d T (rawInt L)->Q () { s with heap:=h' }):wpAny M A (noteFrame (.ref e) env) Q E s:=by
 by_cases hz:(fl==rawInt L)=true
 . obtain⟨o,vs,oT,ts,he,hc,hdc,hd,h1,hTe,hT,hdT,h3⟩:=id hr;unfold noteFrame;simp only[hf];refine JT (KM he hd h1 ?_);rw[Je (show(Value.ref T0 != Value.none)=true from by simp)];refine JT (KM hT hdT h3 ?_);rw[Je hz];have e2:fl=rawInt L:=eq_of_beq hz;exact Jh (h s.heap T0 (.inr rfl) ⟨λ_ _ _ _ z=>z,λb o _ z=>⟨o.slots,z⟩⟩ (e2 ▸ hr))
 . obtain⟨o,vs,oT,ts,he,rfl,rfl,hd,h1,hTe,hT,hdT,h3⟩:=hr;unfold noteFrame;simp only[hf];refine JT (KM he hd h1 ?_);rw[Je (show(Value.ref T0 != Value.none)=true from by simp)];refine JT (KM hT hdT h3 ?_);rw[Ja hz];refine JT (LW hT hdT (Ke.mp h3).1 ?_);have other:∀(g:Obj->Obj) (b:Addr),b≠T0->(s.heap.update T0 g).get? b=s.heap.get? b:=λg b hb=>KR _ _ (Ne.symm hb);have noT:∀b o,s.heap.get? b=some o->(∀vs,o.data≠.fields vs)->b≠T0:=λb o hb hnf q=>by rw[q,hT] at hb; cases hb; exact hnf ts hdT
   have m1:Mvd (bq (env :: outer)) (λb=>b=e\/b=T0) s.heap (s.heap.update T0 (Obj.mapFields (·.setIfInBounds 3 Value.none))) :=
     ⟨λb o hb _ hbo=>(other _ b λz=>hb (.inr z)).trans hbo,λb o hb hbo=>⟨o.slots,(other _ b λz=>hb (.inr z)).trans hbo⟩⟩
   have hl2:(s.heap.update T0 (Obj.mapFields (·.setIfInBounds 3 Value.none))).FunFrames base (env :: outer):=hl.of_keeps λb o hb hnf=>⟨o,(other _ b (noT b o hb hnf)).trans hb,rfl⟩
   refine sM (s:={ s with heap:=s.heap.update T0 (Obj.mapFields (·.setIfInBounds 3 Value.none)) }) hfr hl2 hf ((other _ e (Ne.symm hTe)).trans he) hd (Ke.mp h1).1 λh' T hT' m2 tr=>h h' T (.inl ?_) (m1.trans (m2.mono λb z=>.inl z)) tr;by_cases z:T=T0
   . subst z;exfalso;have q:=Kl (Obj.mapFields (·.setIfInBounds 3 Value.none)) hT (Obj.isFreed_of_fields (Obj.data_mapFields hdT _));dsimp only at hT';rw[q] at hT'; cases hT'
   . dsimp only at hT';rwa [other _ T z] at hT'
theorem FunFrames.moved {S:List Addr} {D:Addr->Prop} {h h' base:Heap} (m:Mvd S D h h'):∀{l:List Env},h.FunFrames base l->(∀b∈bq l,¬ D b)->h'.FunFrames base l
 | [],_,_=>trivial
 | env :: rest,⟨hk,⟨L,o,hf,hn,ho,hd⟩,hr⟩,hD=>by
   have hL:L∈bq (env :: rest):=by unfold bq;rw[LM,hf];exact KA
   obtain⟨sl,e⟩:=m.slot L o (hD L hL) ho;refine⟨hk,⟨L,_,hf,hn,e,hd⟩,FunFrames.moved m hr λb hb=>hD b ?_⟩;unfold bq at hb ⊢;rw[LM,hf];exact K5 _ hb
end
end Ex
namespace L2
open PySem PySem.Spec PyProof.Rows
def oF (X:Cx) (N':List Str) (scope:Scope) (C:Addr) (s:Shared) (H:Hp) (fp:List Addr) (EX:XK) (x:Value) (s':Shared):Prop :=
 ∃pins σ H1 s1,Inv (c8 X N' scope C s H fp) pins σ H1 s1/\aa X.prog X.w X.stack H1 s1 EX x s'
abbrev rT (X:Cx) (N':List Str) (scope:Scope) (C:Addr) (s:Shared) (H:Hp) (fp:List Addr) (EX:XK):Cx:=(c8 X N' scope C s H fp).wish (oF X N' scope C s H fp EX)
variable {N':List Str} {scope:Scope}
theorem oU {X:Cx} {C:Addr} {s:Shared} {H:Hp} {fp:List Addr} {EX:XK}:gN (aa X.prog X.w) (rT X N' scope C s H fp EX) EX:=λpins σ H1 s1 e s' I c=>⟨pins,σ,H1,s1,I.unwish,c⟩
variable {elt target iter:Expr} {pos:Pos}
theorem GI {prog:Program} {w:World} {A:Around} {R:Result->Shared->Prop} {s:Shared} {ifs:List Expr} {it acc:Value} {env:Env} (Ei:Value->Shared->Prop)
   (hE:∀x s',Ei x s'->notedBy (model prog w) A env (λx s'=>R (.error x) s') x s') (I:Nat->Shared->Prop)
   (turn:∀n s,I n s->wpAny (model prog w) A (pyNext it) (λr s₁=>match r with
     | none=>R (.ok .next) s₁
     | some v=>wpAny (model prog w) A (letOwnedTupleGo target it v) (λ_ s₂=>wpAny (model prog w) A (assign target env v) (λ_ s₃ =>
         wpAny (model prog w) A (forIn ifs true λc r=>if r=true then do let ok <- isTrue c env (eval c env); pure (ForInStep.yield ok) else pure (ForInStep.yield r)) (λok s₄ =>
           if ok=true then wpAny (model prog w) A (eval elt env) (λx s₅ =>
             wpAny (model prog w) A (call (.builtin "list.append") [acc,x]) (λ_ s₆=>∃m,m<n/\I m s₆) (λ_ _=>False) s₅) Ei s₄
           else ∃m,m<n/\I m s₄) (λ_ _=>False) s₃) (λ_ _=>False) s₂) (λ_ _=>False) s₁) (λ_ _=>False) s)
   (n:Nat) (h:I n s):codeAny (model prog w) A (.compLoop (.ListComp elt [⟨target,iter,ifs,0⟩] scope pos) 0 it acc env) R s:=by
 refine codeAny_loop rfl I (λn s hI=>?_) n h;show wpAny _ A ((compTurn (.ListComp elt [⟨target,iter,ifs,0⟩] scope pos) 0 it acc env).onRaise (λx=>do noteFrame x env; theTreesLotGoes x)) _ _ s;refine wpAny_noted ?_;rw[compTurn_list];refine JT (Lb (JT (gq (turn n s hI) λr s₁ h₁=>?_)));cases r with
 | none=>exact Jh h₁
 | some v =>
   refine JT (gq h₁ λ_ s₂ h₂=>JT (gq h₂ λ_ s₃ h₃=>JT (gq h₃ λok s₄ h₄=>?_)));cases ok with
   | false=>exact Jh ⟨rfl,h₄⟩
   | true =>
     exact JT (JT (Kk h₄ (λx s₅ h₅=>JT (gq h₅ λ_ s₆ h₆=>Jh (Jh ⟨rfl,h₆⟩))) hE))
theorem Cn {X:Cx} {EX:XK} {use:Option (Value->Sem Unit)} {Q':Value->Shared->Prop} {Q:VK} {pins:List (Addr×Obj)} {s:Shared} {σ:St} {H:Hp} {ifs:List Expr} {wi:TI} {g:TG} {tif:TT} {te:TE} {js:List (Option Nat)} (hok:jZ scope X.env.scope N' X.N js=true) (hc:X.calm=true)
   (hi:PI X target iter wi) (ho:jv js g) (hg:∀C s H fp,PG (c8 X N' scope C s H fp) target g) (hif:∀C s H fp,jh (c8 X N' scope C s H fp) ifs tif) (he:∀C s H fp,PE (rT X N' scope C s H fp EX) elt te)
   (hs:∀x,foldedSetIterable iter X.env x=pure x) (I:Inv X pins σ H s) (h:n9 wi g tif te js σ H Q)
   (hfin:∀(s2:Shared) (H2:Hp) (fp:List Addr) (C:Addr),Inv X pins σ H2 s2->(∀b∈fp,eW X pins H2 b)->s2.heap.objs.size<=C->∀(σ':St) (H':Hp) (s':Shared),Inv (c8 X N' scope C s2 H2 fp) [] σ' H' s'->Q (.ref s2.heap.objs.size) H' ->
     compPost (model X.prog X.w) X.A X.xe use Q' (.ref s2.heap.objs.size) C (.ok .next) s')
   (herr:∀(s2:Shared) (H2:Hp) (fp:List Addr) (C:Addr),Inv X pins σ H2 s2->(∀b∈fp,eW X pins H2 b)->s2.heap.objs.size<=C->∀(x:Value) (s':Shared),oF X N' scope C s2 H2 fp EX x s' ->
     notedBy (model X.prog X.w) X.A (compEnvC scope (dP scope.names X.env.cells []) C X.env) (λx s'=>compPost (model X.prog X.w) X.A X.xe use Q' (.ref s2.heap.objs.size) C (.error x) s') x s') :
   wpAny (model X.prog X.w) X.A (comprehension (.ListComp elt [⟨target,iter,ifs,0⟩] scope pos) scope X.env (firstIterPos [⟨target,iter,ifs,0⟩] pos) (newList []) false (eval iter X.env) use) Q' X.xe s:=by
 have O:=xK hok;have hfr:∀y∈scope.names,y.2=.free->∃c,X.env.cells.lookup y.1=some c:=λy hy e=>I.ok.has y.1 (O.free y hy e);refine MT (use:=use) rfl hs (z7 hfr) O.kind O.names (aO (hi pins s σ H _ I h) λv s1 h1=>aO h1 λitv s2 h2=>?_);obtain⟨it,fp,tn,J,H2,e,I2,T,st2,f2,hq⟩:=h2;subst e;have hf0:H2 s2.heap.objs.size=none:=I2.hok.fresh (JZ _);obtain⟨W,⟨m0,w0⟩,turn⟩:=hq _ hf0;refine LU (wpAny_newFunctionEnv O.nocell (by intro y hy; simp at hy) (λh₁ hns₁ hsb₁=>?_) O.kind);dsimp only at hns₁ hsb₁ ⊢;generalize hH2:s2.heap.push { cls:=.type "list",dict:=none,data:=.seq ([]:List Value).toArray }=B at hns₁ hsb₁ ⊢;have hC:B.objs.size=s2.heap.objs.size+1:=by rw[<- hH2,Kg]
 have hCle:s2.heap.objs.size<=B.objs.size:=by rw[hC]; exact Kz _
 have old:∀b o,s2.heap.get? b=some o->h₁.get? b=some o:=λb o e=>hsb₁.extBut b o (by rw[hC]; exact K4 (MO (Ji e))) (JX _ (hH2 ▸ JX _ e));have hDC:s2.heap.objs.size≠B.objs.size:=by rw[hC]; exact K4 (Km _)
 have hacc:h₁.get? s2.heap.objs.size=some { cls:=.type "list",dict:=none,data:=.seq ([]:List Value).toArray }:=hsb₁.extBut _ _ hDC (JX _ (hH2 ▸ Jn _ rfl));have fpO:∀b∈fp,b<s2.heap.objs.size:=λb hb=>by obtain⟨o,e,_⟩:=T.obj 0 _ st2 b hb;exact Ji e
 have sub:∀x c,(dP scope.names X.env.cells []).lookup x=some c->X.env.cells.lookup x=some c:=qD scope.names [] hfr (λx c e=>by cases e);have hasC:∀x,((relabel scope X.env).names.lookup x=some .cell\/(relabel scope X.env).names.lookup x=some .free)->∃c,(dP scope.names X.env.cells []).lookup x=some c:=λx hx =>
   LI.mp (nY scope.names [] (qb (scope:=scope) (env:=X.env) scope.names x O.nocell hx))
 -- the block's context at its begin
 have IY:∀t,Inv (c8 X N' scope B.objs.size s2 H2 fp) [] (cO js σ) (upd H2 s2.heap.objs.size (.lst [])) { s2 with heap:=h₁,toks:=t }:=by
   intro t;refine⟨⟨I2.ok.mod,O.kind,I2.ok.glob,I2.ok.blt,hCle,λx y c h1 h2=>I2.ok.inj x y c (sub x c h1) (sub y c h2),λx hx=>hasC x hx,λx c h=>(by cases h),I2.ok.hd,I2.ok.frames,.inl rfl,λb hb=>⟨K4 (Jo (fpO b hb) hCle),λx c e=>(f2 b hb).2.2.2.2.1 x c (sub x c e)⟩,
     I2.bs,K0 I2.ok.bsz I2.sz,λb o e hb=>?_,λb hb z=>?_,I2.stack,I2.stkFree⟩,rfl,I2.bare,Un.laid old (JZ _) hf0,⟨_,hns₁,λi x v e1 e2 e3=>?_⟩,λx c e=>?_,?_,λx c e=>?_,λp hp=>absurd (show p∈([]:List (Addr×Obj)) from hp) (by simp),?_,?_⟩
   . rcases (f2 b hb).2.2.2.1 with z|z
     . exact I2.ok.noex b o e z
     . exact absurd (Jo (Jo (Ji e) I2.ok.bsz) z) (KL _)
   . rcases Jl.mp (I2.stkSub b z) with q|q
     . exact(f2 b hb).2.1 q
     . exact(f2 b hb).2.2.1 q
   . have e1:N'[i]?=some x:=e1;unfold cO at e2;rw[Jc] at e2;cases q:js[i]? with
     | none=>rw[q] at e2; cases e2
     | some o =>
       rw[q] at e2;cases o with
       | none=>cases e2
       | some j =>
         have e2:(σ[j]?).join=some v:=by simpa using e2
         have e2':σ[j]?=some (some v):=by
           cases z:σ[j]? with
           | none=>rw[z] at e2; cases e2
           | some a=>rw[z] at e2; cases a with
             | none=>cases e2
             | some a=>cases e2; rfl
         obtain⟨hN,hk,hsf⟩:=O.slots i j x q e1;obtain⟨m,hn,hl⟩:=I2.loc;obtain⟨u,r,l⟩:=hl j x v hN e2' (.inr hk);refine⟨u,r,?_⟩;have hkX:X.env.kindOf x=some .cell\/X.env.kindOf x=some .free:=hk;rcases l with⟨k,_⟩|⟨k,c,hc',hcell⟩
         . rcases hkX with z|z
           . rw[k] at z; cases z
           . rw[k] at z; cases z
         . have hky:(relabel scope X.env).names.lookup x=some .cell\/(relabel scope X.env).names.lookup x=some .free:=qo (env:=X.env) scope.names x hsf;obtain⟨c2,hc2⟩:=hasC x hky;have:c2=c:=by have:=sub x c2 hc2;rw[hc'] at this;exact(Option.some.inj this).symm
           subst this;obtain⟨ob,ho,hd⟩:=hcell;exact .inr ⟨hky,c2,hc2,ob,old _ _ ho,hd⟩
   . obtain⟨v,ob,ho,hd⟩:=I2.cell x c (sub x c e);exact⟨v,ob,old _ _ ho,hd⟩
   . show upd H2 s2.heap.objs.size (.lst []) B.objs.size=none;rw[aQ (Ne.symm hDC)];exact I2.hok.fresh hCle
   . obtain⟨v,ob,ho,hd⟩:=I2.cell x c (sub x c e);rw[aQ (K4 (Ji ho))];exact I2.freeC x c (sub x c e)
   . exact I2.hok.laid old (JZ _) ⟨Jw _,[],0,.nil,hacc⟩
   . unfold cO;rw[JR];exact O.len
 have hcl:(cO js σ).length=js.length:=by unfold cO; rw[JR]
 have fin:∀{σ':St} {H':Hp} {s':Shared},Inv (c8 X N' scope B.objs.size s2 H2 fp) [] σ' H' s'->Q (.ref s2.heap.objs.size) H'->compPost (model X.prog X.w) X.A X.xe use Q' (.ref s2.heap.objs.size) B.objs.size (.ok .next) s' :=
   λ{σ' H' s'} J q=>hfin s2 H2 fp B.objs.size I2 f2 hCle σ' H' s' J q
 have loop:∀t,codeAny (model X.prog X.w) X.A (.compLoop (.ListComp elt [⟨target,iter,ifs,0⟩] scope pos) 0 (.ref it) (.ref s2.heap.objs.size) (compEnvC scope (dP scope.names X.env.cells []) B.objs.size X.env))
     (compPost (model X.prog X.w) X.A X.xe use Q' (.ref s2.heap.objs.size) B.objs.size) { s2 with heap:=h₁,toks:=t }:=by
   intro t;have stat:∀{H':Hp},(∀b∈fp,H' b=none)->∀b∈fp,eW (c8 X N' scope B.objs.size s2 H2 fp) [] H' b:=λhn b hb =>
     ⟨hn b hb,K4 (Jo (fpO b hb) hCle),(IY t).ok.exfs b hb,.inl hb,λx c e=>((IY t).ok.exf b hb).2 x c e,λp hp=>absurd (show p∈([]:List (Addr×Obj)) from hp) (by simp)⟩
   refine GI (oF X N' scope B.objs.size s2 H2 fp EX) (λx s' z=>herr s2 H2 fp B.objs.size I2 f2 hCle x s' z) (λn s'=>∃i acc H',Inv (c8 X N' scope B.objs.size s2 H2 fp) [] (cO js σ) H' s'/\tn i s'.heap/\(∀b∈fp,H' b=none)/\W i n acc H') ?_ m0
     ⟨0,[],_,IY t,T.keep 0 _ _ st2 (λb _ o e=>old b o e),λb hb=>by rw[aQ (K4 (fpO b hb))]; exact(f2 b hb).1,w0⟩
   rintro n s3 ⟨i,acc,H3,I3,st3,fr3,w3⟩;obtain⟨hD,turn⟩:=turn i n acc H3 w3;rcases turn with⟨stop,qn⟩|⟨go,hlen,N,hN,step⟩
   . refine aO (T.done (c8 X N' scope B.objs.size s2 H2 fp) rfl rfl rfl hc i [] s3 (cO js σ) H3 (λ_ _=>False) I3 (stat fr3) st3 stop) λr s4 ⟨hr,I4⟩=>?_;subst hr;exact fin I4 qn
   . refine aO (T.item (c8 X N' scope B.objs.size s2 H2 fp) rfl rfl rfl hc i [] s3 (cO js σ) H3 (λ_ _=>False) I3 (stat fr3) st3 go) λr s4 ⟨u,hr,h4⟩=>?_;subst hr;refine aO h4 λ_ s5 ⟨x,H5,I5,r5,y5,st5,fr5⟩=>?_;have I5':=I5.pinned (stat fr5) (T.obj _ _ st5);refine aO (hg _ _ _ _ _ s5 (cO js σ) H5 x u _ I5' r5 (ho x (cO js σ) H5 _ hcl (step x H5 y5))) λ_ s6 ⟨σ6,H6,I6,q6,hl6,hk6⟩=>?_;refine aO (hif _ _ _ _ _ s6 σ6 H6 _ I6 q6) λok s7 ⟨H7,I7,q7⟩=>?_;have again:∀{H8:Hp} {acc8:List V} {s8:Shared},Inv (c8 X N' scope B.objs.size s2 H2 fp) ([]++kX fp s5.heap) σ6 H8 s8->N acc8 H8 ->
         ∃m,m<n/\∃i acc H',Inv (c8 X N' scope B.objs.size s2 H2 fp) [] (cO js σ) H' s8/\tn i s8.heap/\(∀b∈fp,H' b=none)/\W i m acc H':=by
       intro H8 acc8 s8 I8 n8;obtain⟨m',hm,w8⟩:=hN acc8 H8 n8;refine⟨m',hm,i+1,acc8,H8,?_,T.keep _ _ _ st5 λb hb o e=>(I8.pin (b,o) (K7 _ (K7 _ (kr hb e)))).1,λb hb=>?_,w8⟩
       . refine Inv.weak I8.unpinned (by rw[hl6,hcl]) λk v e=>?_;have e':=e;unfold cO at e;rw[Jc] at e;cases q:js[k]? with
         | none=>rw[q] at e; cases e
         | some o =>
           cases o with
           | none=>rw[q] at e; cases e
           | some j=>rw[hk6 k j q]; exact e'
       . obtain⟨o,e,d⟩:=T.obj _ _ st5 b hb;exact(I8.pin (b,o) (K7 _ (K7 _ (kr hb e)))).2.1
     cases ok with
     | false=>exact again I7 q7
     | true =>
       refine aO (he _ _ _ _ _ s7 σ6 H7 _ (I7.wish _) q7) λy s8 ⟨yv,H8,I8,r8,hD8,q8⟩=>?_;have I8:=I8.unwish;refine aO (jQ _ s8 σ6 H8 (.ref s2.heap.objs.size) [yv] (.ref s2.heap.objs.size) [y] (λ_ H9=>N (acc++[yv]) H9) I8 rfl (.cons r8 .nil) ⟨_,acc,yv,rfl,rfl,hD8,hlen,q8⟩) λ_ s9 ⟨_,H9,I9,_,q9⟩=>?_;exact again I9 q9
 exact codeAny_compStart_list (loop _) (T.self X.A 0 _ _ _ (T.keep 0 _ _ st2 (λb _ o e=>old b o e)) (loop _))
section
variable {P:Program} {w:World} {K:W.Frag} {mg:Str->Option Value} {base:Heap} {N:List Str} {qual:Str} {sc:Scope} {f:Addr} {cd:Value} {A:Around} {outer:List Env} {s0:Shared} {H0:Hp} {E:XK}
theorem CS {pins:List (Addr×Obj)} {σ:St} {C:Addr} {s2:Shared} {H2:Hp} {fp:List Addr} {use:Option (Value->Sem Unit)} {Q':Value->Shared->Prop} {acc x:Value} {s':Shared}
   (I2:Inv (bG (aa P w) P w K mg base N qual sc f cd A outer s0 H0 E) pins σ H2 s2) (f2:∀b∈fp,eW (bG (aa P w) P w K mg base N qual sc f cd A outer s0 H0 E) pins H2 b) (hCle:s2.heap.objs.size<=C)
   (h:oF (bG (aa P w) P w K mg base N qual sc f cd A outer s0 H0 E) N' scope C s2 H2 fp E x s') :
   notedBy (model P w) (bG (aa P w) P w K mg base N qual sc f cd A outer s0 H0 E).A (compEnvC scope (dP scope.names (bG (aa P w) P w K mg base N qual sc f cd A outer s0 H0 E).env.cells []) C (bG (aa P w) P w K mg base N qual sc f cd A outer s0 H0 E).env)
     (λx s'=>compPost (model P w) (bG (aa P w) P w K mg base N qual sc f cd A outer s0 H0 E).A (bG (aa P w) P w K mg base N qual sc f cd A outer s0 H0 E).xe use Q' acc C (.error x) s') x s':=by
 obtain⟨pins',σ',H1,s1,J1,e,cls,d,T0,H',rfl,os,bare,un,hok,hn,he1,hT0,hT1,tr,hE⟩:=h;have J:Inv (c8 (bG (aa P w) P w K mg base N qual sc f cd A outer s0 H0 E) N' scope C s2 H2 fp) pins' σ' H' s':=J1.call' os un hok bare λb z=>nomatch z;have I1:Inv (bG (aa P w) P w K mg base N qual sc f cd A outer s0 H0 E) pins σ H1 s1:=I2.call' (ch:=fp) J1.os J1.base J1.hok J1.bare λb hb=>⟨(f2 b hb).2.2.2.1,(f2 b hb).2.1,(f2 b hb).2.2.2.2.1,(f2 b hb).2.2.2.2.2⟩
 have I3:Inv (bG (aa P w) P w K mg base N qual sc f cd A outer s0 H0 E) pins σ H' s':=I2.call' (ch:=fp) J.os J.base J.hok J.bare λb hb=>⟨(f2 b hb).2.2.2.1,(f2 b hb).2.1,(f2 b hb).2.2.2.2.1,(f2 b hb).2.2.2.2.2⟩
 have fr0:∀b,s1.heap.get? b=none->s0.heap.get? b=none:=λb q=>by
   cases r:s0.heap.get? b with
   | none=>rfl
   | some o=>obtain⟨o',z⟩:=I1.base.there b o r (λq=>nomatch q); rw[q] at z; cases z
 have fr1:∀b,s'.heap.get? b=none->s0.heap.get? b=none:=λb q=>by
   cases r:s0.heap.get? b with
   | none=>rfl
   | some o=>obtain⟨o',z⟩:=I3.base.there b o r (λq=>nomatch q); rw[q] at z; cases z
 have hC0:s0.heap.get? C=none:=K' (K0 I2.sz hCle);obtain⟨m0,hns,_⟩:=J.loc;obtain⟨m1_,hns1,_⟩:=J1.loc;obtain⟨oC,hoC⟩:∃o,s1.heap.get? C=some o:=let ⟨o,_,_,ho,_⟩:=hns1; ⟨o,ho⟩
 have hCe:C≠e:=λz=>by rw[z,hn] at hoC; cases hoC
 have hCT:C≠T0:=λz=>by rw[z,hT0] at hoC; cases hoC
 have hCf:C ∉ bq (bG (aa P w) P w K mg base N qual sc f cd A outer s0 H0 E).stack:=λhb=>by obtain⟨_,o,ho,_⟩:=I2.stack.mem hb;exact absurd (Jo (Ji ho) hCle) (KL _)
 unfold notedBy;rw[Ex.note_same (show(compEnvC scope (dP scope.names (bG (aa P w) P w K mg base N qual sc f cd A outer s0 H0 E).env.cells []) C (bG (aa P w) P w K mg base N qual sc f cd A outer s0 H0 E).env).frame=(bG (aa P w) P w K mg base N qual sc f cd A outer s0 H0 E).env.frame from rfl)];refine Ex.x_noteT I3.ok.frames I3.stack rfl tr λh1 T hT m1 t1=>?_;have hCTn:T≠C:=λz=>by obtain⟨o,_,_,ho,_⟩:=hns;rw[z] at hT;exact absurd (hT.symm.trans ho) (by simp)
 refine⟨m0,?_,λh' hs cenv hcl=>?_⟩
 . obtain⟨o,a2,a3,ho,rest⟩:=hns;exact⟨o,a2,a3,m1.keep C o (λz=>z.elim hCe hCT) hCf ho,rest⟩
 obtain⟨o,vs,oT,ts,he,hc,hdc,hd,h1',hTe,hT',hdT,h3⟩:=t1;have t1':Ex.Tr h' e cls d T (rawInt (bG (aa P w) P w K mg base N qual sc f cd A outer s0 H0 E).env.locals):=⟨o,vs,oT,ts,(hs.2 e (Ne.symm hCe)).trans he,hc,hdc,hd,h1',hTe,(hs.2 T hCTn).trans hT',hdT,h3⟩
 unfold PySem.passOn;refine JT (KM ((hs.2 e (Ne.symm hCe)).trans he) hd h1' ?_);rw[Ja (show ¬ ((Value.ref T==Value.none)=true) from by simp)];have m12:Ex.Mvd (bq (bG (aa P w) P w K mg base N qual sc f cd A outer s0 H0 E).stack) (λb=>b=e\/b=T0\/b=C) s'.heap h':=(m1.mono λb z=>z.elim .inl λy=>.inr (.inl y)).trans ⟨λb o hb _ q=>(hs.2 b λz=>hb (.inr (.inr z))).trans q,λb o hb q=>⟨o.slots,(hs.2 b λz=>hb (.inr (.inr z))).trans q⟩⟩;refine JT (Ex.x_mark (fr:=cenv.frame) t1' λh2 m2 t2=>wpAny_throw ?_);have m13:Ex.Mvd (bq (bG (aa P w) P w K mg base N qual sc f cd A outer s0 H0 E).stack) (λb=>b=e\/b=T0\/b=C\/b=T) s'.heap h2:=(m12.mono λb z=>z.elim .inl λy=>.inr (y.elim .inl λy=>.inr (.inl y))).trans (kq (m2.mono λb z=>.inr (.inr (.inr z))) λb z=>nomatch z);have nfr:∀b∈bq (bG (aa P w) P w K mg base N qual sc f cd A outer s0 H0 E).stack,¬ (b=e\/b=T0\/b=C\/b=T):=λb hb z=>by
   obtain⟨_,ob,hob,_⟩:=I1.stack.mem hb;obtain⟨_,ob3,hob3,_⟩:=I3.stack.mem hb;rcases z with rfl|rfl|rfl|rfl
   . rw[hn] at hob; cases hob
   . rw[hT0] at hob; cases hob
   . exact hCf hb
   . rw[hT] at hob3; cases hob3
 show wpAny _ _ (leaving _ _) _ _ _;unfold leaving;refine JT (Ex.x_noteA (s:={ s' with heap:=h2 }) I3.ok.frames (Ex.FunFrames.moved m13 I3.stack nfr) rfl t2 λh3 T' hT2 m3 t3=>?_);refine Ex.x_mark (fr:=none) t3 λh4 m4 t4=>?_;have hH1:∀b,(b=e\/b=T0\/b=C\/b=T)->s0.heap.get? b=none/\H' b=none:=λb z=>by
   rcases z with rfl|rfl|rfl|rfl
   . exact⟨fr0 _ hn,he1⟩
   . exact⟨fr0 _ hT0,hT1⟩
   . exact⟨hC0,J.free⟩
   . exact⟨fr1 _ hT,I3.hok.none_of hT⟩
 have hT4:s0.heap.get? T'=none/\H' T'=none:=by
   rcases hT2 with z|z
   . by_cases y:T'=e\/T'=T0\/T'=C\/T'=T
     . exact hH1 T' y
     . have:s'.heap.get? T'=none:=by
         cases q:s'.heap.get? T' with
         | none=>rfl
         | some ob=>obtain⟨sl,r⟩:=m13.slot T' ob y q; rw[r] at z; cases z
       exact⟨fr1 _ this,I3.hok.none_of this⟩
   . rw[z]; exact hH1 T (.inr (.inr (.inr rfl)))
 have mT:Ex.Mvd (bq (bG (aa P w) P w K mg base N qual sc f cd A outer s0 H0 E).stack) (λb=>(b=e\/b=T0\/b=C\/b=T)\/b=T') s'.heap h4 :=
   ((m13.mono λb z=>.inl z).trans (m3.mono λb z=>.inl (z.elim .inl λy=>.inr (.inr (.inr y))))).trans (kq (m4.mono λb z=>.inr z) λb z=>nomatch z)
 refine⟨e,cls,d,T',H',rfl,I3.os,I3.bare,I3.base.moved mT ?_ λb hb=>?_,I3.hok.moved mT ?_ I3.stkFree,fr0 _ hn,he1,hT4.1,hT4.2,t4,hE⟩
 . rintro b (z|rfl)
   . exact(hH1 b z).1
   . exact hT4.1
 . rcases Jl.mp (I3.stkSub b hb) with z|z
   . exact .inr (by rw[z]; exact K' I3.ok.above)
   . exact .inl z
 . rintro b (z|rfl)
   . exact(hH1 b z).2
   . exact hT4.2
theorem rZ {ifs:List Expr} {wi:TI} {g:TG} {tif:TT} {te:TE} {js:List (Option Nat)} (hok:jZ scope (bG (aa P w) P w K mg base N qual sc f cd A outer s0 H0 E).env.scope N' (bG (aa P w) P w K mg base N qual sc f cd A outer s0 H0 E).N js=true) (hc:(bG (aa P w) P w K mg base N qual sc f cd A outer s0 H0 E).calm=true)
   (hi:PI (bG (aa P w) P w K mg base N qual sc f cd A outer s0 H0 E) target iter wi) (ho:jv js g) (hg:∀C s H fp,PG (c8 (bG (aa P w) P w K mg base N qual sc f cd A outer s0 H0 E) N' scope C s H fp) target g) (hif:∀C s H fp,jh (c8 (bG (aa P w) P w K mg base N qual sc f cd A outer s0 H0 E) N' scope C s H fp) ifs tif) (he:∀C s H fp,PE (rT (bG (aa P w) P w K mg base N qual sc f cd A outer s0 H0 E) N' scope C s H fp E) elt te)
   (hs:∀x,foldedSetIterable iter (bG (aa P w) P w K mg base N qual sc f cd A outer s0 H0 E).env x=pure x:=by intro _; rfl):PE (bG (aa P w) P w K mg base N qual sc f cd A outer s0 H0 E) (.ListComp elt [⟨target,iter,ifs,0⟩] scope pos) (n9 wi g tif te js):=by
 intro pins s σ H Q I h;rw[eval_ListComp];refine Cn (EX:=E) (use:=none) hok hc hi ho hg hif he hs I h (λs2 H2 fp C I2 f2 hCle σ' H' s' J q=>?_) (λs2 H2 fp C I2 f2 hCle x s' z=>CS I2 f2 hCle z);obtain⟨m,hn,_⟩:=J.loc;refine⟨m,hn,λh' hs'=>⟨.ref s2.heap.objs.size,H',?_,rfl,q⟩⟩;refine I2.call' (s':={ s' with heap:=h' }) (ch:=fp) J.os (J.base.sameBut hs' hCle) (λb ob e=>?_) J.bare λb hb=>⟨(f2 b hb).2.2.2.1,(f2 b hb).2.1,(f2 b hb).2.2.2.2.1,(f2 b hb).2.2.2.2.2⟩
 refine(J.hok b ob e).stay (λc w' hc q=>(hs'.2 c ?_).trans q) (λ_ q=>q) λ_ _ q=>q;have hfree:H' C=none:=J.free;intro hcC;rw[hcC] at hc;rcases hc with z|z
 . rw[<- z,hfree] at e; cases e
 . rw[hfree] at z; cases z
end
end L2
namespace PySem.W
open PySem PySem.Calls PySem.NumText PyProof.Rows
namespace KIN
theorem BM {M:Model} {A:Around} {E:Value->Shared->Prop} {s:Shared} {Q:Value->Shared->Prop} {v:Value} {text:List Nat} {n:Int}
   (hs:(text.takeWhile (· != 0)).length<=640) (hr:(int_private% "readNumeral") 0 2 (text.takeWhile (· != 0))=(int_private% "Numeral.value") n)
   (ha:((text.takeWhile (· != 0)).length==text.length)=true) (h:Q (.int n s.toks) { s with toks:=s.toks+1 }) :
   wpAny M A ((int_private% "intFromText") v text 2) Q E s:=by
 obtain⟨hp,g,d,tk,os⟩:=s
 repeat (any_goals (first
   | assumption
   | (with_reducible refine MG (K3 hs) ?_)
   | (with_reducible refine MG (K3 ha) ?_)
   | wp_step))
 all_goals (try rw[hr])
 all_goals (try dsimp only)
 repeat (any_goals (first
   | assumption
   | (with_reducible refine MG (K3 hs) ?_)
   | (with_reducible refine MG (K3 ha) ?_)
   | wp_step))
theorem EB {x:PySem.Str} {u t:Tok} {n:Int} (hs:(numSeenOf x).length<=640) (hr:(int_private% "readNumeral") 0 2 (numSeenOf x)=(int_private% "Numeral.value") n) (ha:((numSeenOf x).length==(numTextOf x).length)=true):PySem.Gives (Builtin.«int.__new__» ⟨[.type "int",.str x u,.int 2 t],[]⟩) (.int n) :=
 .of_wp λM A E s Q h=>by
   obtain⟨hp,g,d,tk,os⟩:=s;have f1:=F.conv_sub_int;have f2:=F.madeHere_int;have f3:=str_int;have f4:=str_idx;have f5:=str_trunc;have f6:typeOf (.str x u)=pure (.type "str"):=rfl;have hk:=Hid.mk (And.intro hs (And.intro hr ha));clear hs hr ha
   repeat (any_goals (first
     | assumption
     | ((with_reducible show wpAny _ _ ((int_private% "intFromText") _ _ _) _ _ _); refine BM hk.out.1 hk.out.2.1 hk.out.2.2 ?_)
     | wp_step))
   all_goals first|exact⟨_,rfl,h⟩|skip
theorem call_text2 {prog:Program} {w:World} {A:Around} {E:Value->Shared->Prop} {s:Shared} {Q:Value->Shared->Prop} {x:PySem.Str} {t u:Tok} {n:Int} (hs:(numSeenOf x).length<=640) (hr:(int_private% "readNumeral") 0 2 (numSeenOf x)=(int_private% "Numeral.value") n) (ha:((numSeenOf x).length==(numTextOf x).length)=true) (h:Q (.int n s.toks) { s with toks:=s.toks+1 }):wpAny (model prog w) A (call (.type "int") [.str x t,.int 2 u]) Q E s :=
 callType_new F.called_int F.newNe_int (by kernel_rfl) (by kernel_rfl) (λobj=>by kernel_rfl) F.entry_int_new (EB hs hr ha).meets (show(Made.int n).post _ s from⟨rfl,h⟩)
end KIN
end PySem.W
namespace L2
open PySem PySem.Spec PyProof.Rows
def m7:List (Str×Int):=[("000",0),("001",1),("010",2),("011",3),("100",4),("101",5),("110",6),("111",7),("0000",0),("0001",1),("0010",2),("0011",3),("0100",4),("0101",5),("0110",6),("0111",7),("1000",8),("1001",9),("1010",10),("1011",11),("1100",12),("1101",13),("1110",14),("1111",15)]
theorem xQ {X:Cx}:aw X (.type "int") (λxs H Q=>∃x n,xs=[.str x,.int 2]/\(x,n)∈m7/\Q (.int n) H):=by
 intro pins s σ H xs us Q I r h;obtain⟨x,n,rfl,hm,q⟩:=h;obtain⟨u,w',rfl,⟨t,rfl⟩,⟨t2,rfl⟩⟩:=kg r;have key:∀p∈m7,(PySem.numSeenOf p.1).length<=640/\(int_private% "readNumeral") 0 2 (PySem.numSeenOf p.1)=(int_private% "Numeral.value") p.2/\((PySem.numSeenOf p.1).length==(PySem.numTextOf p.1).length)=true:=by intro p hp;simp only[m7,Jl,Lv,or_false] at hp;rcases hp with rfl|rfl|rfl|rfl|rfl|rfl|rfl|rfl|rfl|rfl|rfl|rfl|rfl|rfl|rfl|rfl|rfl|rfl|rfl|rfl|rfl|rfl|rfl|rfl <;> exact⟨by decide +kernel,by kernel_rfl,by decide +kernel⟩
 obtain⟨h1,h2,h3⟩:=key _ hm;exact PySem.W.KIN.call_text2 h1 h2 h3 ⟨.int n,H,I.tok _,⟨_,rfl⟩,q⟩
section
variable {X:Cx} {x qual:Str} {C f:Addr} {fd:FuncData} {st:Stmt} {ps:List Str} {sp:Sp} {k:Nat} {p pos:Pos} {e:Expr} {es:List Expr} {t:TA} {E:XK}
theorem Gu (Cc:ClsOk X.K X.mg x C) (D:IniOk X.K C qual st ps f fd) (G:FnOk X.prog X.w X.K X.mg X.base (aa X.prog X.w) k f fd ps sp) (hr:Room (k+1) X.A) (hx:gN (aa X.prog X.w) X E) (ha:PA X (e :: es) t) (hg:Gl X x:=by rfl)
   (hdb:(x==("__debug__":Str))=false:=by decide) (he:starEach (e :: es) X.env=(false,eval e X.env) :: starEach es X.env:=by rfl) (hpl:(backTo pos (starEach es X.env)).any (·.1)=false:=by rfl) :
   PE X (.Call (.Name x p) (e :: es) [] pos) (sL C sp [] E t):=vN D.M G hr hg Cc.g D.b .nil hx ha hdb he hpl
end
section
variable {g:TG} {tif:TT} {te:TE} {js:List (Option Nat)} {σ:St} {H:Hp} {Q:VK}
theorem Fk {b1 b2:Bool} {K:W.Frag} {l1 l2:Addr} {xs ys:List V} {p:Addr} (hn:xs.length<=1000000) (Pv:Nat->List V->Hp->Prop) (h0:Pv 0 [] (upd H p (.lst [])))
   (hl:∀i acc H2,i<=min xs.length ys.length->Pv i acc H2->H2 p=some (.lst acc)/\acc.length<=i/\fZ b1 K H2 l1 xs/\fZ b2 K H2 l2 ys)
   (hs:∀i x y acc H2 b,xs[i]?=some x->ys[i]?=some y->Pv i acc H2->H2 b=none->mU g tif te (cO js σ) p acc (Pv (i+1)) (.ref b) (upd H2 b (.tup [x,y]))) (hd:∀acc H2,Pv (min xs.length ys.length) acc H2->Q (.ref p) H2) :
   jr (kW K b1 b2 l1 l2) g tif te js σ Q p H:=by
 refine⟨λi m acc H=>m=min xs.length ys.length - i/\i<=min xs.length ys.length/\Pv i acc H,⟨min xs.length ys.length,by simp,Jw _,h0⟩,?_⟩;rintro i m acc H2 ⟨rfl,hi,q⟩;obtain⟨q1,q2,q3,q4⟩:=hl i acc H2 hi q;refine⟨q1,?_⟩;by_cases hlt:i<min xs.length ys.length
 . have l1':i<xs.length:=by omega
   have l2':i<ys.length:=by omega
   refine .inr ⟨⟨xs,ys,xs[i],ys[i],q3,q4,by simp [l1'],by simp [l2']⟩,?_,Pv (i+1),λacc' H' p'=>⟨min xs.length ys.length - (i+1),by omega,rfl,hlt,p'⟩,λx H' y=>?_⟩
   . have:(1000000:Nat)<sizeLine:=by decide
     omega
   . obtain⟨b,rfl,hb,y⟩:=y;rw[y xs ys xs[i] ys[i] q3 q4 (by simp [l1']) (by simp [l2'])];exact hs i xs[i] ys[i] acc H2 b (by simp [l1']) (by simp [l2']) q hb
 . have e:i=min xs.length ys.length:=by omega
   subst e;refine .inl ⟨⟨xs,ys,q3,q4,?_⟩,hd acc H2 q⟩;rcases Nat.le_total xs.length ys.length with h|h
   . left; rw[LG h]; exact KB (JZ _)
   . right; rw[Lw h]; exact KB (JZ _)
end
end L2
namespace K14
open PySem PyProof.Rows L2 K11
theorem cut_drop (xs:List V) (k:Nat):gS xs (some (k:Int)) none=xs.drop k:=by
 unfold gS HT.sIx;simp only;rw[Ja (by omega)];by_cases h:k<=xs.length
 . rw[show min (k:Int).toNat xs.length=k by omega];rw[Kh (by rw[KD]; omega)]
 . rw[show min (k:Int).toNat xs.length=xs.length by omega];rw[Ks (JZ _),Ks (by omega)];simp
end K14
namespace K15
open PySem PySem.NumText L2 K11 K14 Gx
theorem qk (i j n:Nat):Builtin.Str.strSliceIndices (some (i:Int)) (some (j:Int)) 1 n=Builtin.Str.strSliceIndices (some ((min i n:Nat):Int)) (some ((min j n:Nat):Int)) 1 n:=by unfold Builtin.Str.strSliceIndices;simp only[show(1:Int) > 0 by decide,if_true];have h:∀k:Nat,(if(k:Int)<0 then(k:Int)+(n:Int) else(k:Int))=(k:Int):=λk=>Ja (by omega);rw[h,h,h,h];congr 1 <;> omega
theorem sl_mid (l:List Nat) {i j:Nat} (h:i<=j):Txt.slice (tx l) (some (i:Int)) (some (j:Int))=tx ((l.take j).drop i):=by
 have e:Txt.slice (tx l) (some (i:Int)) (some (j:Int))=Txt.slice (tx l) (some ((min i l.length:Nat):Int)) (some ((min j l.length:Nat):Int)):=by unfold Txt.slice;rw[cX,qk i j l.length]
 rw[e,Cz (by omega) (by omega) (by omega)];congr 1;rw[K6];by_cases hi:i<=l.length
 . rw[LG hi];by_cases hj:j<=l.length
   . rw[LG hj,List.drop_take];congr 1;omega
   . rw[Lw (by omega),Kh (l:=l) (by omega),Kh];rw[KD]; omega
 . rw[Ks (show l.length<=min i l.length by omega),Ks (by rw[Ju]; omega)];simp
theorem sl_to (l:List Nat) (j:Nat):Txt.slice (tx l) none (some (j:Int))=tx (l.take j):=by
 have e:Txt.slice (tx l) none (some (j:Int))=Txt.slice (tx l) (some ((0:Nat):Int)) (some (j:Int)):=by unfold Txt.slice;rw[StrLaws.sliceIdx_none_lo];rfl
 rw[e,sl_mid l (Jw _),List.drop_zero]
theorem sl_from (l:List Nat) (i:Nat):Txt.slice (tx l) (some (i:Int)) none=tx (l.drop i):=by
 have e:Txt.slice (tx l) (some (i:Int)) none=Txt.slice (tx l) (some (i:Int)) (some ((max i l.length:Nat):Int)):=by
   unfold Txt.slice;rw[StrLaws.sliceIdx_none_hi,cX,qk i l.length l.length,qk i (max i l.length) l.length];have:min (max i l.length) l.length=min l.length l.length:=by omega
   rw[this]
 rw[e,sl_mid l (by omega),Kh (by omega)]
end K15
namespace Dc
open PySem L2 Gx Bt Pk
def fF (rl:List Nat) (cn:Nat->Nat) (l:List Nat):Option (List Mk×List Nat):=(bJ 1 200 l).bind λx=>(dJ rl cn x.1 x.2).bind λy=>if y.2=[] then some (y.1,[]) else none
theorem kz (rl:List Nat) (cn:Nat->Nat) (l:List Nat):ck rl cn l=if ax l then(fF rl cn l).map (·.1) else none:=by
 unfold ck fF;split
 . cases bJ 1 200 l with
   | none=>rfl
   | some x =>
     show(dJ rl cn x.1 x.2).bind _=((dJ rl cn x.1 x.2).bind _).map _;cases dJ rl cn x.1 x.2 with
     | none=>rfl
     | some y =>
       show(if y.2=[] then some y.1 else none)=(if y.2=[] then some (y.1,[]) else none).map _;split <;> rfl
 . rfl
structure Rdr where
 x:Addr
 dx:Addr
 fl:Addr
 cl:Addr
def rF (R:Rdr) (l:List Nat) (p:Nat):List (Str×V):=[("flows",.ref R.fl),("called",.ref R.cl),("bits",.str (tx l)),("at",.int p)]
def ay (fns:List F2.Fd):List Nat:=fns.map λf=>f.rs.length
def cK (fns:List F2.Fd) (k:Nat):Nat:=(fns[k]?.map λf=>(F2.nms f).length).getD 0
structure RdAt (K:W.Frag) (CB CF:Addr) (H:Hp) (R:Rdr) (fns:List F2.Fd) (r:List Nat):Prop where
 ob:∃l p,H R.x=some (.ins CB R.dx (rF R l p))/\p<=l.length/\l.drop p=r/\l.length<=1000000
 fl:F2.FlowsAt K CF (ers R.x H) R.fl fns
 ls:aG K (ers R.x H) R.cl (fns.map λf=>V.str f.name)
 bt:ax r
 ok:RlOk (ay fns) (cK fns)
variable {l:List Nat}
theorem Gs (n:Nat) (h:ax l):ax (l.drop n):=λx hx=>h x (LY hx)
def jo (c:Nat) (r:List Nat):Option (List Nat×List Nat):=if c<=r.length then some (r.take c,r.drop c) else none
variable {x:Addr} {H:Hp}
theorem Ew :ers x (ers x H)=ers x H:=by
 funext b;by_cases h:b=x
 . subst h; unfold ers; rw[Je rfl,Je rfl]
 . rw[aS h]
theorem Same.ers2 {H':Hp}(e:Same (ers x H) H'):Same (ers x H) (ers x H'):=by have:=L2.Same.ers (l:=x) e;rw[Ew] at this;exact this
variable {c:Nat}
section
variable {K:W.Frag} {CB CF:Addr} {H H':Hp} {R:Rdr} {fns:List F2.Fd} {r r':List Nat}
theorem RdAt.grow (h:RdAt K CB CF H R fns r) (e:Same H H'):RdAt K CB CF H' R fns r :=
 let ⟨l,p,h1,h2,h3,h4⟩:=h.ob
 ⟨⟨l,p,e _ _ h1,h2,h3,h4⟩,h.fl.mono (Same.ers e),Same.seq (Same.ers e) h.ls,h.bt,h.ok⟩
theorem RdAt.mv {p:Nat}(h:RdAt K CB CF H R fns (l.drop p)) (hp:p<=l.length) (hl:l.length<=1000000) (hc:c<=(l.drop p).length):RdAt K CB CF (upd H R.x (.ins CB R.dx (rF R l (p+c)))) R fns ((l.drop p).drop c):=by
 refine⟨⟨l,p+c,aF,by rw[KD] at hc; omega,by rw[Mj],hl⟩,?_,?_,Gs _ h.bt,h.ok⟩
 . rw[eu]; exact h.fl
 . rw[eu]; exact h.ls
theorem wP (h:4<=l.length):∃a b c d r,l=a :: b :: c :: d :: r:=by
 match l,h with
 | a :: b :: c :: d :: r,_=>exact⟨a,b,c,d,r,rfl⟩
 | [],h=>cases h
 | [_],h=>simp at h
 | [_,_],h=>simp at h
 | [_,_,_],h=>simp at h
theorem Fg {f k acc:Nat} (h:l.length<4):cG f k acc l=none:=by
 match f,l,h with
 | 0,_,_=>unfold cG; rfl
 | f+1,[],_=>rfl
 | f+1,[_],_=>rfl
 | f+1,[_,_],_=>rfl
 | f+1,[_,_,_],_=>rfl
 | f+1,_ :: _ :: _ :: _ :: _,h=>simp at h; omega
theorem C3:∀a∈[48,49],∀b∈[48,49],∀c∈[48,49],(tx [a,b,c],(bv [a,b,c]:Int))∈m7:=by decide +kernel
theorem HW:∀a∈[48,49],∀b∈[48,49],∀c∈[48,49],∀d∈[48,49],(tx [a,b,c,d],(bv [a,b,c,d]:Int))∈m7:=by decide +kernel
theorem jn {a:Nat} (h:a=48\/a=49):a∈[48,49]:=by rcases h with rfl|rfl <;> simp
theorem re (l:List Nat) (i j:Nat):Txt.slice (tx l) (some (i:Int)) (some ((i:Int)+(j:Int)))=tx ((l.drop i).take j):=by
 have e:(i:Int)+(j:Int)=((i+j:Nat):Int):=by omega
 rw[e,K15.sl_mid l (by omega),List.drop_take];congr 2;omega
theorem DP (a:Nat) (l:List Nat):Txt.slice (tx (a :: l)) (some 1) none=tx l:=K15.sl_from (a :: l) 1
theorem sE {H1 H2 H3:Hp} (a:Same (ers x H1) H2) (b:Same (ers x H2) H3):Same (ers x H1) H3:=(Same.ers2 a).trans b
theorem Dl (acc v i:Nat):(acc:Int)+(v:Int) * 2 ^ ((3:Int) * (0+(i:Int))).toNat=((acc+v * 8 ^ i:Nat):Int):=by
 have e:((3:Int) * (0+(i:Int))).toNat=3 * i:=by omega
 rw[e,Int.natCast_add,Int.natCast_mul,Int.natCast_pow,show((2:Int)) ^ (3 * i)=((2:Int) ^ 3) ^ i from Int.pow_mul ..];rfl
theorem jt {a b:List Nat}:decide (V.str (tx a)=V.str (tx b))=decide (a=b):=by rw[KP,Jg,Jg];exact⟨λh=>Gx.tx_inj (V.str.inj h),λh=>by rw[h]⟩
theorem rS {r a r':List Nat} (h:jo c r=some (a,r')):c<=r.length/\a=r.take c/\r'=r.drop c:=by
 unfold jo at h;split at h
 . rename_i hc
   cases h;exact⟨hc,rfl,rfl⟩
 . cases h
theorem rL {r:List Nat} (h:jo c r=none):r.length<c:=by
 unfold jo at h;split at h
 . cases h
 . omega
theorem RdAt.newT {u:Addr} {xs:List V} (h:RdAt K CB CF H R fns r) (hu:H u=none):aI K (ers R.x (upd H u (.tup xs))) u xs:=by obtain⟨l,p,ho,-⟩:=h.ob;exact aI.of (by rw[aS (aV ho hu).symm]; exact aF)
theorem RdAt.newL {u:Addr} {xs:List V} (h:RdAt K CB CF H R fns r) (hu:H u=none):aG K (ers R.x (upd H u (.lst xs))) u xs:=by obtain⟨l,p,ho,-⟩:=h.ob;exact aG.of (by rw[aS (aV ho hu).symm]; exact aF)
end
section
variable {f most:Nat} {r:List Nat}
theorem tF (h:most<1):am f most r=none:=by unfold am;split <;> first|rfl|rw[Je h]
theorem IA:am f most []=none:=by unfold am; split <;> first|rfl|contradiction
theorem wM (h:¬ most<1):am (f+1) most (48 :: r)=(bJ 0 127 r).map λx=>(.box x.1,x.2):=Ja h
theorem Bs:am f most [49]=none:=by cases f <;> rfl
theorem vf (h:¬ most<1):am (f+1) most (49 :: 48 :: r)=(cG 16 0 0 r).map λx=>(.num x.1,x.2):=Ja h
theorem E4 (h:r.length<4):am f most (49 :: 49 :: r)=none:=by
 match f,r,h with
 | 0,_,_=>unfold am; rfl
 | f+1,[],_=>rfl
 | f+1,[_],_=>rfl
 | f+1,[_,_],_=>rfl
 | f+1,[_,_,_],_=>rfl
 | f+1,_ :: _ :: _ :: _ :: _,h=>simp at h; omega
theorem GP {a b d:Nat}(h:¬ most<1):am (f+1) most (49 :: 49 :: a :: b :: c :: d :: r)=if bv [a,b,c,d]<9 then(am f (most - 1) r).bind λx=>(am f (most - lv x.1) x.2).map λy=>(.op (bv [a,b,c,d]) x.1 y.1,y.2) else none:=Ja h
theorem El:∀i<9,sgTup[i]?=some (V.str (gT i)):=by decide +kernel
end
variable {o:HO}
section
variable {K:W.Frag} {CB CF:Addr} {H H' H4:Hp} {R:Rdr} {fns:List F2.Fd} {r r0:List Nat}
theorem RdAt.back (h0:RdAt K CB CF H R fns r0) (h4:RdAt K CB CF H4 R fns r) (s:Same (ers R.x H) H') (e:H' R.x=H4 R.x):RdAt K CB CF H' R fns r :=
 ⟨by rw[e]; exact h4.ob,h0.fl.mono (Same.ers2 s),Same.seq (Same.ers2 s) h0.ls,h4.bt,h4.ok⟩
theorem vv {p:Addr}(h:x≠p):ers x (upd H p o)=upd (ers x H) p o:=by
 funext b;by_cases hb:b=x
 . subst hb;rw[aQ h];unfold ers;rw[Je rfl,Je rfl]
 . rw[aS hb];by_cases hp:b=p
   . subst hp; rw[aF,aF]
   . rw[aQ hp,aQ hp,aS hb]
theorem uo {p:Addr}{ds:List PyData} {xs ys:List V} (t:bc ds=true) (hp:H p=some (.lst ys)) (hx:x≠p) (h:DatAll K (ers x H) ds xs):DatAll K (ers x (upd H p o)) ds xs:=by rw[vv hx];exact DatAll.putT t (by rw[aS hx.symm]; exact hp) h
end
theorem FW {y:Addr}:ers x (ers y H)=ers y (ers x H):=by
 funext b;unfold ers;by_cases h1:b=x
 . rw[Je h1,Je h1];by_cases h2:b=y
   . rw[Je h2]
   . rw[Ja h2]
 . rw[Ja h1,Ja h1]
theorem my :ers x H x=none:=by unfold ers; rw[Je rfl]
theorem pO {fns:List F2.Fd} {k:Nat} {f:F2.Fd} (h:fns[k]?=some f):cK fns k=(F2.nms f).length:=by unfold cK; rw[h]; rfl
theorem EI (c:Nat):fS (V.str { cps:=#[c] }) [V.str (Str.ofString "0"),V.str (Str.ofString "1")]=decide (c=48\/c=49):=by
 have h0:=jt (a:=[c]) (b:=[48]);have h1:=jt (a:=[c]) (b:=[49]);show(((Str.ofString "0")==({ cps:=#[c] }:Str)) || (((Str.ofString "1")==({ cps:=#[c] }:Str)) || false))=_;have k0:((Str.ofString "0")==({ cps:=#[c] }:Str))=decide (c=48):=by rw[KP,LQ,Jg];exact⟨λh=>by have:=Gx.tx_inj (a:=[c]) (b:=[48]) h.symm; simpa using this,λh=>by rw[h]; rfl⟩
 have k1:((Str.ofString "1")==({ cps:=#[c] }:Str))=decide (c=49):=by rw[KP,LQ,Jg];exact⟨λh=>by have:=Gx.tx_inj (a:=[c]) (b:=[49]) h.symm; simpa using this,λh=>by rw[h]; rfl⟩
 rw[k0,k1,ML,KP,M6,Jg,Jg,Jg]
def sU (c:Nat):Bool:=decide (c=48\/c=49)
theorem yC :(l.map sU).all id=true <-> ax l:=by rw[LX];refine⟨λh c hc=>LV (h _ (Jy.mpr ⟨c,hc,rfl⟩)),λh b hb=>?_⟩;obtain⟨c,hc,rfl⟩:=Jy.mp hb;exact K3 (h c hc)
theorem DL (g:Nat->F2.Fd->V) (fns:List F2.Fd):(F2.kD g fns).map (λkv=>kV kv.1)=fns.map λf=>V.str f.name:=by refine MP λk=>?_;unfold F2.kD;rw[Jc,List.getElem?_mapIdx,Jc];cases fns[k]? <;> rfl
theorem rE {P:Mk->Prop} {ms:List Mk} (h0:P c9) (h:∀m∈ms,P m) (i:Nat):P (cN ms i):=by
 cases i with
 | zero=>exact h0
 | succ i =>
   show P (ms.getD i c9);rw[JU];cases e:ms[i]? with
   | none=>exact h0
   | some m=>exact h m (JW e)
theorem xh {ms:List Mk} {m:Mk} {i:Nat} (h:ms.length=i):cN (ms++[m]) (i+1)=m:=by show(ms++[m]).getD i c9=m;rw[JU,<- h,K9 (JZ _),Lm];rfl
variable {G:Hp}
theorem sR {A B:Hp}{L:Addr} {us:List V} (s:Same A B) (hL:B L=some (.lst us)):Same (nwL B G) (ers L (nwL A G)):=λb o h=>by obtain⟨h1,h2⟩:=nM h;rw[aS (λe=>by subst e; exact h1 _ hL),lz λys z=>h1 ys (s _ _ z)];exact h2
theorem wV {L:Addr}{H0:Hp}(h:x≠L):ers L (nwL H0 (ers x (upd H L o)))=ers L (nwL H0 (ers x H)):=by rw[vv h,rn]
def jL {α β:Type} (f:α->Option β):List α->Option (List β)
 | []=>some []
 | a :: l=>(f a).bind λb=>(jL f l).map (b :: ·)
theorem qJ {α β:Type} {f:α->Option β}:∀{l:List α} {a:α},a∈l->f a=none->jL f l=none
 | x :: l,a,h,e=>by
   unfold jL;rcases Jl.mp h with rfl|h
   . rw[e]; rfl
   . rw[qJ h e]; cases f x <;> rfl
theorem sv {α β:Type} {f:α->Option β}:∀{l:List α} {m:List β},m.length=l.length->(∀(k:Nat) a b,l[k]?=some a->m[k]?=some b->f a=some b)->jL f l=some m
 | [],m,hl,_=>by rw[Kq.mp hl]; rfl
 | a :: l,[],hl,_=>by simp at hl
 | a :: l,b :: m,hl,h=>by unfold jL;rw[h 0 a b rfl rfl,sv (m:=m) (by simpa using hl) λk a b h1 h2=>h (k+1) a b h1 h2];rfl
def gO (fns:List F2.Fd) (ls:List (List Nat)):Option (List (List Mk)):=if ls.length=fns.length then jL (ck (ay fns) (cK fns)) ls else none
theorem g6 {α:Type} {xs:List α} {x y:α} {k:Nat} (h:(xs++[x])[k]?=some y):(k<xs.length/\xs[k]?=some y)\/(k=xs.length/\y=x):=by
 by_cases hk:k<xs.length
 . rw[KN hk] at h;exact .inl ⟨hk,h⟩
 . have:k=xs.length:=by have:=(Jb.mp h).1;rw[JS] at this;simp at this;omega
   subst this;rw[K9 (JZ _),Lm] at h;cases h;exact .inr ⟨rfl,rfl⟩
theorem t9 {B:Hp}{L:Addr} {us:List V} (hL:B L=some (.lst us)):Same (nwL B G) (ers L G):=(sR (Same.refl B) hL).trans (Same.ers rN)
theorem jV {P1:Prop} [Decidable P1] {X A B:Prop} (h:P1->B->X) (b:B):if decide P1=true then X else(if false=true then A else B):=by
 by_cases p:P1
 . exact bF (K3 p) (h p b)
 . exact bC (by rw[Jg]; exact p) (bC Jj b)
theorem Ia {l:List Str} (h:l.Nodup):K12.onceL l=l:=by
 have key:∀(l acc:List Str),(acc++l).Nodup->l.foldl K12.step acc=acc++l:=by
   intro l
   induction l with
   | nil=>intro acc _; rw[Jv]; rfl
   | cons s l ih =>
     intro acc h;have hs:s ∉ acc:=λhm=>(List.nodup_append.mp h).2.2 s hm s KA rfl;show l.foldl K12.step (K12.step acc s)=_;have e:K12.step acc s=acc++[s]:=by unfold K12.step; rw[Ja hs]
     rw[e,ih (acc++[s]) (by rw[Jm]; exact h),Jm];rfl
 exact(key l [] (by simpa using h)).trans (Lf l)
theorem C8 {b:Int} {n:Nat} (h:n<=12):((List.range n).map λj:Nat=>bx b (j:Int)).Nodup:=by refine List.pairwise_map.mpr (MX (λ{i j} hi hj hlt e=>?_) List.pairwise_lt_range);have h1:=Ka.mp hi;have h2:=Ka.mp hj;have:=yY e;omega
theorem J6 (b:Int) (p m:Nat):((List.range p).map λj:Nat=>bx b (j:Int))++((List.range m).map λj:Nat=>bx b ((p:Int)+(j:Int)))=(List.range (p+m)).map λj:Nat=>bx b (j:Int):=by rw[List.range_add,Jf,KJ];congr 1
def j4 (H:Hp) (cl vl:Addr) (G:Hp):Hp:=ers cl (ers vl (nwL H G))
variable {cl vl:Addr}
theorem BO {b:Addr}(h:j4 H cl vl G b=some o):b≠cl/\b≠vl/\(∀ys,H b≠some (.lst ys))/\G b=some o:=by
 unfold j4 at h;have n1:b≠cl:=λe=>by subst e; rw[my] at h; cases h
 rw[aS n1] at h;have n2:b≠vl:=λe=>by subst e; rw[my] at h; cases h
 rw[aS n2] at h;exact⟨n1,n2,nM h⟩
theorem xE {b:Addr}(h1:b≠cl) (h2:b≠vl) (h3:∀ys,H b≠some (.lst ys)):j4 H cl vl G b=G b:=by unfold j4;rw[aS h1,aS h2,lz h3]
theorem HX {G':Hp}(h:∀b o,b≠cl->b≠vl->G b=some o->G' b=some o):Same (j4 H cl vl G) (j4 H cl vl G'):=λb o hb=>by obtain⟨h1,h2,h3,h4⟩:=BO hb;rw[xE h1 h2 h3];exact h b o h1 h2 h4
theorem B2 :Same (j4 H cl vl G) (nwL H G):=bY.trans bY
theorem bes {a:Option (Option BTr)} {o:Option BTr} (ha:∀x∈a,cr x) (ho:cr o):PyData.eqv (.list [bI o]) (.list (a.toList.map bI))=cY a o:=by
 cases a with
 | none=>exact(rM _).trans rfl
 | some x =>
   have hx:=ha x rfl;refine(Fz _ _).trans ?_;show PyData.eqv (bI o) (bI x)=PyData.eqv (bI x) (bI o);rw[KP];exact⟨λh=>by rw[qj ho hx h]; exact(kA hx).refl,λh=>by rw[qj hx ho h]; exact(kA ho).refl⟩
theorem shp {l:List (Option BTr)} (h:∀o∈l,cr o):SeqAt.shaped (.list (l.map bI))=true:=(ao.list (jH λo ho=>kA (h o ho))).shaped (by decide:9<=64)
theorem sI {b:Nat}:decide (V.str (tx [b])=V.str (Str.ofString "0"))=decide (b=48):=by have:=jt (a:=[b]) (b:=[48]);rw[show decide ([b]=[48])=decide (b=48) by simp] at this;exact this
theorem tf {b:Nat}:decide (V.str (tx [b])=V.str (Str.ofString "1"))=decide (b=49):=by have:=jt (a:=[b]) (b:=[49]);rw[show decide ([b]=[49])=decide (b=49) by simp] at this;exact this
theorem pS {r a r':List Nat} (h:jo 1 r=some (a,r')):∃b,r=b :: r'/\a=[b]:=by
 obtain⟨h1,rfl,rfl⟩:=rS h;cases r with
 | nil=>simp at h1
 | cons b r=>exact⟨b,rfl,rfl⟩
theorem oI {r:List Nat} (h:jo 1 r=none):r=[]:=Kq.mp (by have:=rL h; omega)
end Dc
namespace L2
open PySem PySem.Spec PyProof.Rows Gx
def Gg:R2:=λx y H Q=>∃(l:List Nat) (k:Nat),x=.str (tx l)/\y=.int k/\2<=k/\k<=1000/\1<=l.length/\l.length<=100/\Q (.str (tx (List.replicate k l).flatten)) H
theorem wu (l:List Nat):∀(n:Nat) (a:Array Nat),(List.replicate n l.toArray).foldl (·++·) a=a++(List.replicate n l).flatten.toArray
 | 0,a=>by simp
 | n+1,a=>by rw[KQ,LP,wu l n,KQ,KE];apply Array.toList_inj.mp;simp
theorem zK {X:Cx}:c6 X (binaryOp .Mult) Gg:=by
 intro pins s σ H x y v u Q I rx ry h;obtain⟨l,k,rfl,rfl,k0,k1,l0,l1,q⟩:=h;obtain⟨t,rfl⟩:=rx;obtain⟨tu,rfl⟩:=ry;have hl:(tx l).length=l.length:=cX l;have hlen:l.length * k<=100000:=K0 (Nat.mul_le_mul l1 k1) (by decide);refine PySem.P.mul_str ?_ (λ_ _=>?_) (λ_ _=>?_) ?_
 . rw[KF (by omega),KF (by omega)]; rfl
 . rw[hl];have:(100:Int)<=(2 ^ 63 - 1) / (k:Int):=by rw[Int.le_ediv_iff_mul_le (by omega)];omega
   omega
 . rw[hl];show decide (l.length * (k:Int).toNat > sizeLine)=false;refine KF ?_;rw[K6];have:(100000:Nat)<sizeLine:=by decide
   omega
 . rw[Ja (by omega),Ja (by rw[hl,M6,LQ,LQ]; omega),show(tx l).cps=l.toArray from rfl,wu,K6];have ee:(#[]:Array Nat)++(List.replicate k l).flatten.toArray=(List.replicate k l).flatten.toArray:=by simp
   rw[ee];refine⟨?_,?_⟩
   . show _<=_;have e1:({ cps:=(List.replicate k l).flatten.toArray }:Str).length=(List.replicate k l).flatten.length:=cX _;rw[e1,lU,M1];have:(100000:Nat)<sizeLine:=by decide
     omega
   . exact⟨.str _,H,I.tok _,⟨_,rfl⟩,q⟩
end L2
namespace Dc
open PySem L2 Gx Bt Pk
inductive Pc where
 | count (n:Nat)
 | depth (n:Nat)
 | fn (k:Nat)
 | row (k r:Nat)
 | pl (a:Option (Option BTr)) (o:Option BTr)
def Pc.kd:Pc->Str
 | .count _=>"count"
 | .depth _=>"depth"
 | .fn _=>"function"
 | .row _ _=>"row"
 | .pl none _=>"first"
 | .pl (some a) o=>if cY (some a) o=true then "like" else "other"
def Pc.bt:Pc->List Nat
 | .count n=>nb n
 | .depth n=>nb n
 | .fn k=>nb k
 | .row _ r=>nb r
 | .pl a o=>if cY a o=true then [48,49] else Pk.ob o
def Pc.mo:Pc->PyData
 | .count n=>.int n
 | .depth _=>.int 0
 | .fn k=>.int k
 | .row k _=>.int k
 | .pl a o=>if cY a o=true then .str (tx (Pk.ob o)) else .int 0
def i0 (p:Pc):PyData:=.tuple [.str p.kd,.str (tx p.bt),p.mo]
theorem HU (p:Pc):bQ (i0 p)=true:=by
 have:bQ p.mo=true:=by
   cases p with
   | pl a o =>
     show bQ (if cY a o=true then .str (tx (Pk.ob o)) else .int 0)=true;split <;> (unfold bQ; rfl)
   | _=>unfold Pc.mo bQ; rfl
 unfold i0 bQ bc bc bc bc;rw[this];unfold bQ;rfl
def ce (ps:List Pc):List Nat:=(ps.map Pc.bt).flatten
theorem tj (a b:List Pc):ce (a++b)=ce a++ce b:=by unfold ce; rw[Jf,KY]
theorem me:∀(l:List (List Pc)),ce l.flatten=(l.map ce).flatten
 | []=>rfl
 | a :: l=>by rw[KE,tj,me l]; rfl
theorem pk (p:Pc):ce [p]=p.bt:=Jv _
def eD (ah v:List (Option BTr)) (n:Nat):List Pc:=(List.range n).map λi=>Pc.pl ah[i]? (v.getD i none)
def eX (m0 m:Mk) (n:Nat):List Pc:=((List.range n).map λl=>eD (cF m0 l (jJ m l)) (du m l) (du m l).length).flatten
def fP (c:Nat×Nat):List Pc:=[.fn c.1,.row c.1 c.2]
def gQ (m0 m:Mk):List Pc:=Pc.depth m.ch.length :: ((m.ch.map fP).flatten++eX m0 m m.ch.length)
def di (ms:List Mk) (n:Nat):List Pc:=((List.range n).map λj=>gQ (cN ms j) (ms.getD j c9)).flatten
def cW (ms:List Mk):List Pc:=Pc.count ms.length :: di ms ms.length
theorem rH (ah v:List (Option BTr)) (n:Nat):eD ah v (n+1)=eD ah v n++[Pc.pl ah[n]? (v.getD n none)]:=by unfold eD; rw[Kb,Jf]; rfl
theorem vH (ah v:List (Option BTr)) (n:Nat):(eD ah v n).length=n:=by unfold eD; rw[JR,KI]
theorem zG (m0 m:Mk) (n:Nat):eX m0 m (n+1)=eX m0 m n++eD (cF m0 n (jJ m n)) (du m n) (du m n).length:=by unfold eX;rw[Kb,Jf,KY];simp
theorem vc (ms:List Mk) (n:Nat):di ms (n+1)=di ms n++gQ (cN ms n) (ms.getD n c9):=by unfold di;rw[Kb,Jf,KY];simp
theorem xt (ah v:List (Option BTr)):ce (eD ah v v.length)=vb ah v:=by unfold ce eD vb vbL;rw[KJ];rfl
theorem Gm (m0 m:Mk) (n:Nat):ce (eX m0 m n)=((List.range n).map (wB m0 m)).flatten:=by unfold eX;rw[me,KJ];congr 1;refine KS λl _=>?_;exact xt _ _
theorem xP (ch:List (Nat×Nat)):ce (ch.map fP).flatten=(ch.map fB).flatten:=by rw[me,KJ];congr 1;refine KS λc _=>?_;show nb c.1++(nb c.2++[])=nb c.1++nb c.2;rw[Jv]
theorem ud (m0 m:Mk):ce (gQ m0 m)=mb m0 m:=by show nb m.ch.length++ce ((m.ch.map fP).flatten++eX m0 m m.ch.length)=_;rw[tj,xP,Gm];unfold mb;rw[Jm]
theorem xo (ms:List Mk) (n:Nat):ce (di ms n)=(eY ms n).flatten:=by unfold di eY;rw[me,KJ];congr 1;refine KS λj _=>?_;exact ud _ _
theorem jD (ms:List Mk):ce (cW ms)=aj ms:=by show nb ms.length++ce (di ms ms.length)=_;rw[xo];rfl
def Pc.bad (rl:List Nat):Pc->List Nat->Prop
 | .count _,r=>bJ 1 200 r=none
 | .depth _,r=>bJ 1 3 r=none
 | .fn _,r=>bJ 0 (rl.length - 1) r=none
 | .row k _,r=>bJ 0 (rl.getD k 0 - 1) r=none
 | .pl a _,r=>fG a r=none
variable {p:Pc}
section
variable {rl:List Nat} {α β:Type}
def bO (rl:List Nat) (f:List Nat->Option (α×List Nat)) (ps:List Pc):Prop:=∀(k:Nat) p r,ps[k]?=some p->p.bad rl r->f (ce (ps.take k)++r)=none
def lS (f:List Nat->Option (α×List Nat)) (ps:List Pc) (x:α):Prop:=∀r,f (ce ps++r)=some (x,r)
theorem bO.one {f:List Nat->Option (α×List Nat)} (h:∀r,p.bad rl r->f r=none):bO rl f [p]:=λk q r hk hb=>by
 cases k with
 | zero=>cases hk; exact h r hb
 | succ k=>cases hk
theorem bO.bind {f:List Nat->Option (α×List Nat)} {g:α×List Nat->Option (β×List Nat)} {ps:List Pc} (h:bO rl f ps):bO rl (λl=>(f l).bind g) ps:=λk p r hk hb=>by show(f _).bind g=none;rw[h k p r hk hb];rfl
theorem bO.map {f:List Nat->Option (α×List Nat)} {g:α×List Nat->β×List Nat} {ps:List Pc} (h:bO rl f ps):bO rl (λl=>(f l).map g) ps:=λk p r hk hb=>by show(f _).map g=none;rw[h k p r hk hb];rfl
theorem bO.app {f:List Nat->Option (α×List Nat)} {g:α×List Nat->Option (β×List Nat)} {ps qs:List Pc} {x:α} (h1:bO rl f ps) (h2:lS f ps x) (h3:bO rl (λl=>g (x,l)) qs):bO rl (λl=>(f l).bind g) (ps++qs):=λk p r hk hb=>by
 show(f _).bind g=none;by_cases hl:k<ps.length
 . rw[KN hl] at hk;rw[MD (by omega),h1 k p r hk hb];rfl
 . rw[K9 (by omega)] at hk;rw[List.take_append,Kh (by omega),tj,Jm,h2];exact h3 _ p r hk hb
theorem lS.many {f:Nat->List α->List Nat->Option (α×List Nat)} {xs:List α} {e:Nat->List Pc} (hr:∀(k:Nat) x,xs[k]?=some x->lS (f k (xs.take k)) (e k) x) (n:Nat) (hn:n<=xs.length):lS (many f n) ((List.range n).map e).flatten (xs.take n):=λr=>by have:=kU (f:=f) (xs:=xs) (e:=λk=>ce (e k)) (λk x r hx=>hr k x hx r) n r hn;rw[me,KJ];exact this
theorem bO.many {f:Nat->List α->List Nat->Option (α×List Nat)} {xs:List α} {e:Nat->List Pc} (hr:∀(k:Nat) x,xs[k]?=some x->lS (f k (xs.take k)) (e k) x) (hf:∀(k:Nat) x,xs[k]?=some x->bO rl (f k (xs.take k)) (e k)):∀n,n<=xs.length->bO rl (many f n) ((List.range n).map e).flatten
 | 0,_=>λk p r hk=>by cases hk
 | n+1,hn=>by
   have hx:=JV (show n<xs.length by omega);have:=bO.app (g:=λx=>(f n x.1 x.2).map λy=>(x.1++[y.1],y.2)) (bO.many hr hf n (by omega)) (lS.many hr n (by omega)) (show bO rl (λl=>(f n (xs.take n) l).map λy=>(xs.take n++[y.1],y.2)) (e n) from bO.map (hf n _ hx));have e1:((List.range (n+1)).map e).flatten=((List.range n).map e).flatten++e n:=by rw[Kb,Jf,KY];simp
   rw[e1];exact this
end
variable {m n:Nat} {ms:List Mk} {r:List Nat}
section
variable {rl:List Nat} {cn:Nat->Nat}
theorem FV {ah pl:List (Option BTr)} (ha:∀a∈ah,cr a) (hp:∀o∈pl,dO o):bO rl (gM ah pl.length) (eD ah pl pl.length):=by
 have:=bO.many (rl:=rl) (f:=λi _ r=>fG ah[i]? r) (xs:=pl) (e:=λi=>[Pc.pl ah[i]? (pl.getD i none)]) (λk x hx r=>by rw[pk];show fG ah[k]? ((if cY ah[k]? (pl.getD k none)=true then [48,49] else Pk.ob (pl.getD k none))++r)=_;rw[JU,hx];exact vi r ha (hp x (JW hx))) (λk x hx=>bO.one λr h=>h) pl.length (JZ _)
 have e:((List.range pl.length).map λi=>[Pc.pl ah[i]? (pl.getD i none)]).flatten=eD ah pl pl.length:=by
   unfold eD
   induction List.range pl.length with
   | nil=>rfl
   | cons a l ih=>rw[KG,KE,ih]; rfl
 rw[e] at this;exact this
theorem Ga (hr:RlOk rl cn) {c:Nat×Nat} (h:c.1<rl.length/\c.2<rl.getD c.1 0):bO rl (fj rl) (fP c):=by have h12:=hr.n12;refine bO.app (ps:=[Pc.fn c.1]) (qs:=[Pc.row c.1 c.2]) (x:=c.1) (f:=bJ 0 (rl.length - 1)) (g:=λx=>(bJ 0 (rl.getD x.1 0 - 1) x.2).map λy=>((x.1,y.1),y.2)) (bO.one λr h=>h) (λr=>?_) (show bO rl (λl=>(bJ 0 (rl.getD c.1 0 - 1) l).map λy=>((c.1,y.1),y.2)) [Pc.row c.1 c.2] from bO.map (bO.one λr h=>h));rw[pk];exact gf r (Jw _) (by omega) (by rw[cD]; omega)
theorem HM (hr:RlOk rl cn) {m0 m:Mk} (h0:∀v∈m0.vs,∀o∈v,cr o) (h:MFit rl cn m):bO rl (dW rl cn m0) (gQ m0 m):=by
 have h3:=h.l3;refine bO.app (ps:=[Pc.depth m.ch.length]) (x:=m.ch.length) (f:=bJ 1 3) (g:=λx=>(gW rl x.1 x.2).bind λch=>(g7 cn m0 ch.1 ch.1.length ch.2).map λv=>((⟨ch.1,v.1⟩:Mk),v.2)) (bO.one λr h=>h) (λr=>?_) ?_
 . rw[pk];exact gf r h.l1 h3 (by rw[cD]; omega)
 refine bO.app (x:=m.ch) (f:=gW rl m.ch.length) (g:=λch=>(g7 cn m0 ch.1 ch.1.length ch.2).map λv=>((⟨ch.1,v.1⟩:Mk),v.2)) ?_ (λr=>?_) (show bO rl (λl=>(g7 cn m0 m.ch m.ch.length l).map λv=>((⟨m.ch,v.1⟩:Mk),v.2)) _ from bO.map ?_)
 . have:=bO.many (rl:=rl) (f:=λ_ _ r=>fj rl r) (xs:=m.ch) (e:=λk=>fP (m.ch.getD k (0,0))) (λk x hx r=>by
     rw[JU,hx];have:ce (fP x)=fB x:=by show nb x.1++(nb x.2++[])=_; rw[Jv]; rfl
     show fj rl (ce (fP x)++r)=_;rw[this];exact yj hr (h.ix x (JW hx)) r) (λk x hx=>by
     rw[JU,hx];exact Ga hr (h.ix x (JW hx))) m.ch.length (JZ _)
   have e:((List.range m.ch.length).map λk=>fP (m.ch.getD k (0,0)))=m.ch.map fP:=by
     refine MP λk=>?_;rw[Jc,Jc];by_cases hk:k<m.ch.length
     . rw[Lc hk,JV hk];show some (fP (m.ch.getD k (0,0)))=_;rw[JU,JV hk];rfl
     . rw[KB (by rw[KI]; omega),KB (by omega)];rfl
   rw[e] at this;exact this
 . rw[xP];exact uv hr h.ix r
 . have hv:∀(k:Nat) v,m.vs[k]?=some v->cn (kk m.ch k)=v.length/\du m k=v/\jJ m k=kk m.ch k:=λk v hv=>by
     have hl:k<m.ch.length:=by rw[<- h.vl]; exact(Jb.mp hv).1
     have hc:=JV hl;refine⟨?_,qv hv,rfl⟩;rw[h.cn k _ v hc hv];unfold kk;rw[JU,hc];rfl
   have:=bO.many (rl:=rl) (f:=λk _ r=>gM (cF m0 k (kk m.ch k)) (cn (kk m.ch k)) r) (xs:=m.vs) (e:=λl=>eD (cF m0 l (jJ m l)) (du m l) (du m l).length) (λk v hk r=>by
     obtain⟨e1,e2,e3⟩:=hv k v hk;show gM _ _ _=_;rw[e1,e2,e3,xt];exact xf r (qH h0 _ _) (h.ok v (JW hk))) (λk v hk=>by
     obtain⟨e1,e2,e3⟩:=hv k v hk;show bO rl (λr=>gM _ _ r) _;rw[e1,e2,e3];exact FV (qH h0 _ _) (h.ok v (JW hk))) m.ch.length (by rw[h.vl]; exact JZ _)
   exact this
theorem Ee (hr:RlOk rl cn) (h:∀m∈ms,MFit rl cn m) (h1:1<=ms.length) (h2:ms.length<=200):bO rl (fF rl cn) (cW ms):=by
 refine bO.app (ps:=[Pc.count ms.length]) (x:=ms.length) (f:=bJ 1 200) (g:=λx=>(dJ rl cn x.1 x.2).bind λy=>if y.2=[] then some (y.1,[]) else none) (bO.one λr h=>h) (λr=>?_) (bO.bind ?_)
 . rw[pk];exact gf r h1 h2 (by rw[cD]; omega)
 . have hp:=λk=>rK (P:=cr) (λm hm v hv o ho=>((h m hm).ok v hv o ho).1) k;exact bO.many (rl:=rl) (f:=λk acc r=>dW rl cn (cN acc k) r) (xs:=ms) (e:=λj=>gQ (cN ms j) (ms.getD j c9)) (λk m hk r=>by
     show dW _ _ _ _=_;rw[pw,JU,hk,ud];exact uQ hr (hp k) (h m (JW hk)) r) (λk m hk=>by
     show bO rl (λr=>dW _ _ _ r) _;rw[pw,JU,hk];exact HM hr (hp k) (h m (JW hk))) ms.length (JZ _)
theorem D5 (hr:RlOk rl cn) (h:∀m∈ms,MFit rl cn m) (h1:1<=ms.length) (h2:ms.length<=200) {k:Nat} (hk:(cW ms)[k]?=some p) (hb:p.bad rl r):ck rl cn (ce ((cW ms).take k)++r)=none:=by rw[kz,Ee hr h h1 h2 k p r hk hb];split <;> rfl
theorem rD (hr:RlOk rl cn) (h:∀m∈ms,MFit rl cn m) (h1:1<=ms.length) (h2:ms.length<=200) (r:List Nat):fF rl cn (aj ms++r)=if r=[] then some (ms,[]) else none:=by unfold fF aj;rw[Jm,gf _ h1 h2 (by rw[cD]; omega)];show((dJ rl cn ms.length ((eY ms ms.length).flatten++r)).bind _)=_;rw[qB hr h r];rfl
theorem Ea (hr:RlOk rl cn) (h:∀m∈ms,MFit rl cn m) (h1:1<=ms.length) (h2:ms.length<=200) (hn:r≠[]):ck rl cn (aj ms++r)=none:=by rw[kz,rD hr h h1 h2,Ja hn];split <;> rfl
theorem DM (hr:RlOk rl cn) (h:∀m∈ms,MFit rl cn m) (h1:1<=ms.length) (h2:ms.length<=200) {s:Nat} (hs:s<(aj ms).length):ck rl cn ((aj ms).take s)=none:=by
 cases e:ck rl cn ((aj ms).take s) with
 | none=>rfl
 | some ms' =>
   obtain⟨g1,g2,g3,g4⟩:=IQ hr e;have k1:=rD hr h h1 h2 [];have k2:=rD hr g4 g2 g3 ((aj ms).drop s);rw[<- g1,List.take_append_drop,Ja (λz=>by have:=Jt List.length z; rw[KD] at this; simp at this; omega)] at k2;rw[Jv,k2,Je rfl] at k1;cases k1
theorem Io {l:List Nat} {c:Nat} (h:c∈l) (hc:¬ (c=48\/c=49)):ck rl cn l=none:=by unfold ck;rw[Ja λb=>hc (b c h)]
theorem kS {lo hi:Nat}(h1:hi<m) (h2:m<8 ^ 16):bJ lo hi (nb m++r)=none:=by unfold bJ;rw[tP r h2];show(if lo<=m/\m<=hi then some (m,r) else none)=none;rw[Ja (by omega)]
theorem vK {lo hi:Nat}(h1:m<lo) (h2:m<8 ^ 16):bJ lo hi (nb m++r)=none:=by unfold bJ;rw[tP r h2];show(if lo<=m/\m<=hi then some (m,r) else none)=none;rw[Ja (by omega)]
theorem EE (hr:RlOk rl cn) (h:∀m∈ms,MFit rl cn m) (hn:n≠ms.length) (h3:n<1000):ck rl cn (nb n++(eY ms ms.length).flatten)=none:=by
 have key:fF rl cn (nb n++(eY ms ms.length).flatten)=none:=by
   unfold fF;by_cases h1:1<=n/\n<=200
   . rw[gf _ h1.1 h1.2 (by rw[cD]; omega)];show((dJ rl cn n (eY ms ms.length).flatten).bind _)=none;by_cases hlt:n<ms.length
     . have e1:(eY ms ms.length).flatten=(eY (ms.take n) (ms.take n).length).flatten++((List.range (ms.length - n)).map λj=>mb (cN ms (n+j)) (ms.getD (n+j) c9)).flatten:=by
         have l1:(ms.take n).length=n:=by rw[Ju]; omega
         rw[l1,<- KY];congr 1;unfold eY;rw[show ms.length=n+(ms.length - n) by omega,List.range_add,Jf,KJ];congr 1
         . refine KS λj hj=>?_;have hj:=Ka.mp hj;have e2:(ms.take n).getD j c9=ms.getD j c9:=by rw[JU,JU,Ln,Je hj]
           have e3:cN (ms.take n) j=cN ms j:=by
             cases j with
             | zero=>rfl
             | succ j =>
               show(ms.take n).getD j c9=ms.getD j c9;rw[JU,JU,Ln,Je (by omega)]
           rw[e2,e3]
         . rw[show n+(ms.length - n) - n=ms.length - n by omega];rfl
       have l1:(ms.take n).length=n:=by rw[Ju]; omega
       have:=qB hr (ms:=ms.take n) (λm hm=>h m (LZ hm)) (((List.range (ms.length - n)).map λj=>mb (cN ms (n+j)) (ms.getD (n+j) c9)).flatten);rw[<- e1,l1] at this;rw[this];show(if _=[] then _ else _)=none;rw[Ja];intro z;obtain⟨d,hd⟩:∃d,ms.length - n=d+1:=⟨ms.length - n - 1,by omega⟩
       rw[hd,List.range_succ_eq_map,KG,KE] at z;have z:=(Lr.mp z).1;unfold mb at z;have np:=m9 (ms.getD (n+0) c9).ch.length;have z:=(Lr.mp (Lr.mp z).1).1;rw[z] at np;simp at np
     . have hgt:ms.length<n:=by omega
       have:=qB hr h [];rw[Jv] at this;have e:dJ rl cn (ms.length+1) (eY ms ms.length).flatten=none:=(iz this).trans rfl;rw[show dJ rl cn n (eY ms ms.length).flatten=none from jg e (by omega)];rfl
   . by_cases h0:n<1
     . rw[vK h0 (by rw[cD]; omega)]; rfl
     . rw[kS (by omega) (by rw[cD]; omega)]; rfl
 rw[kz,key];split <;> rfl
theorem Bv (h1:1<=n) (h2:n<=200):ck rl cn (nb n++(nb 4++r))=none:=by
 have key:fF rl cn (nb n++(nb 4++r))=none:=by
   unfold fF;rw[gf _ h1 h2 (by rw[cD]; omega)];show((dJ rl cn n (nb 4++r)).bind _)=none;have e:dJ rl cn (0+1) (nb 4++r)=none:=by refine(iz (f:=λk acc r=>dW rl cn (cN acc k) r) (n:=0) (xs:=[]) (r:=nb 4++r) rfl).trans ?_;show(dW rl cn c9 (nb 4++r)).map _=none;unfold dW;rw[kS (by decide) (by rw[cD]; omega)];rfl
   rw[show dJ rl cn n (nb 4++r)=none from jg e (by omega)];rfl
 rw[kz,key];split <;> rfl
theorem HY :ck rl cn (nb 201++r)=none:=by
 have key:fF rl cn (nb 201++r)=none:=by unfold fF;rw[kS (by decide) (by rw[cD]; omega)];rfl
 rw[kz,key];split <;> rfl
end
def nd (n:Nat):List Nat:=if n<8 then 49 :: pb n 3++[48,48,48,48] else 49 :: pb (n%8) 3++nd (n / 8)
termination_by n
theorem qt (h:n<8):nd n=49 :: pb n 3++[48,48,48,48]:=by rw[nd,Je h]
theorem ph (h:¬ n<8):nd n=49 :: pb (n%8) 3++nd (n / 8):=by rw[nd,Ja h]
theorem xR:∀(f n k acc:Nat) (r:List Nat),cG f k acc (nd n++r)=none:=by
 intro f
 induction f with
 | zero=>intro n k acc r; unfold cG; rfl
 | succ f ih =>
   intro n k acc r;by_cases h8:n<8
   . obtain⟨x,y,z,e,v,nz⟩:=gz n h8;rw[qt h8,e];show(if(49:Nat)=48 then _ else cG f (k+1) (acc+bv [x,y,z] * 8 ^ k) (48 :: 48 :: 48 :: 48 :: r))=none;rw[Ja (by decide)];cases f with
     | zero=>rfl
     | succ f =>
       show(if(48:Nat)=48 then(if((48:Nat)=48/\(48:Nat)=48/\(48:Nat)=48)/\0<k+1 then none else _) else _)=none;rw[Je rfl,Je ⟨⟨rfl,rfl,rfl⟩,Nat.succ_pos k⟩]
   . obtain⟨x,y,z,e,v,nz⟩:=gz (n%8) (Mm _ (by decide));rw[ph h8,e];show(if(49:Nat)=48 then _ else cG f (k+1) (acc+bv [x,y,z] * 8 ^ k) (nd (n / 8)++r))=none;rw[Ja (by decide)];exact ih _ _ _ _
theorem yK {lo hi:Nat}:bJ lo hi (nd n++r)=none:=by unfold bJ;rw[xR];rfl
theorem yB (n:Nat):∃g x y z,nb n=g++[48,x,y,z]/\nd n=g++[49,x,y,z,48,48,48,48]:=by
 induction n using Nat.strongRecOn with
 | _ n ih =>
   by_cases h8:n<8
   . obtain⟨x,y,z,e,v,nz⟩:=gz n h8;exact⟨[],x,y,z,by rw[fQ h8,e]; rfl,by rw[qt h8,e]; rfl⟩
   . obtain⟨g,x,y,z,h1,h2⟩:=ih (n / 8) (by omega);exact⟨49 :: pb (n%8) 3++g,x,y,z,by rw[gB h8,h1,Jm],by rw[ph h8,h2,Jm]⟩
def kf (l:List Nat) (a:Nat):List Nat:=l.take a++(49 :: (l.drop (a+1)).take 3++[48,48,48,48])++l.drop (a+4)
theorem Hd {p g q:List Nat} {x y z:Nat}:kf (p++(g++[48,x,y,z])++q) (p.length+g.length)=p++(g++[49,x,y,z,48,48,48,48])++q:=by
 unfold kf;have e:p++(g++[48,x,y,z])++q=(p++g)++(48 :: x :: y :: z :: q):=by simp
 have l:p.length+g.length=(p++g).length:=by rw[JS]
 rw[e,l,List.take_left,<- Mj,<- Mj,List.drop_left];simp
theorem nJ (p:List Nat) (n:Nat) (q:List Nat):kf (p++nb n++q) (p.length+(nb n).length - 4)=p++nd n++q:=by obtain⟨g,x,y,z,h1,h2⟩:=yB n;rw[h1,h2,show p.length+(g++[48,x,y,z]).length - 4=p.length+g.length by rw[JS]; show p.length+(g.length+4) - 4=_; omega];exact Hd
def eQ:BTr->List Nat
 | .box k=>48 :: nd k
 | .num k=>49 :: 48 :: nd k
 | .op i l r=>49 :: 49 :: pb i 4++rb l++eQ r
def fK:BTr->List Nat
 | .box k=>48 :: nd k
 | .num k=>49 :: 48 :: nd k
 | .op i l r=>49 :: 49 :: pb i 4++fK l++rb r
variable {most:Nat}
theorem wo {f k:Nat}:am f most (48 :: (nd k++r))=none:=by
 cases f with
 | zero=>rfl
 | succ f =>
   show(if most<1 then none else(bJ 0 127 (nd k++r)).map λx=>(BTr.box x.1,x.2))=none;rw[yK];split <;> rfl
theorem uT {f k:Nat}:am f most (49 :: 48 :: (nd k++r))=none:=by
 cases f with
 | zero=>rfl
 | succ f =>
   show(if most<1 then none else(cG 16 0 0 (nd k++r)).map λx=>(BTr.num x.1,x.2))=none;rw[xR];split <;> rfl
theorem sf {f i:Nat}(hi:i<9) :am (f+1) most (49 :: 49 :: pb i 4++r)=if most<1 then none else(am f (most - 1) r).bind λx=>(am f (most - lv x.1) x.2).map λy=>(.op i x.1 y.1,y.2):=by obtain⟨x,y,z,w,e,q⟩:=pb4 i hi;rw[e];show(if most<1 then none else if bv [x,y,z,w]<9 then(am f (most - 1) r).bind λa=>(am f (most - lv a.1) a.2).map λb=>(BTr.op (bv [x,y,z,w]) a.1 b.1,b.2) else none)=_;rw[q,Je hi]
theorem wt:∀(t:BTr) (f most:Nat) (r:List Nat),tok t->iE t->lv t<=most->most<=f->am f most (eQ t++r)=none
 | .box k,f,most,r,_,_,_,_=>wo
 | .num k,f,most,r,_,_,_,_=>uT
 | .op i u v,f,most,r,ht,hs,hl,hf=>by
   have hl:lv u+lv v<=most:=hl;have pu:=iu u;have pv:=iu v;obtain⟨f,rfl⟩:∃g,f=g+1:=⟨f - 1,by omega⟩
   have e:eQ (.op i u v)++r=49 :: 49 :: pb i 4++(rb u++(eQ v++r)):=by show(49 :: 49 :: pb i 4++rb u++eQ v)++r=_; simp
   rw[e,sf ht.1,Ja (by omega),kE u f (most - 1) _ ht.2.1 hs.1 (by omega) (by omega)];show(am f (most - lv u) (eQ v++r)).map _=none;rw[wt v f (most - lv u) r ht.2.2 hs.2 (by omega) (by omega)];rfl
theorem yQ:∀(t:BTr) (f most:Nat) (r:List Nat),tok t->am f most (fK t++r)=none
 | .box k,f,most,r,_=>wo
 | .num k,f,most,r,_=>uT
 | .op i u v,f,most,r,ht=>by
   have e:fK (.op i u v)++r=49 :: 49 :: pb i 4++(fK u++(rb v++r)):=by show(49 :: 49 :: pb i 4++fK u++rb v)++r=_; simp
   rw[e];cases f with
   | zero=>unfold am; rfl
   | succ f =>
     rw[sf ht.1,yQ u f (most - 1) _ ht.2.1];split <;> rfl
theorem qg:∀(t:BTr) (f most:Nat) (r:List Nat),tok t->iE t->most<lv t->most<=f->am f most (rb t++r)=none
 | .box k,f,most,r,_,_,hl,_=>tF hl
 | .num k,f,most,r,_,_,hl,_=>tF hl
 | .op i u v,f,most,r,ht,hs,hl,hf=>by
   have hl:most<lv u+lv v:=hl;have pu:=iu u;have e:rb (.op i u v)++r=49 :: 49 :: pb i 4++(rb u++(rb v++r)):=by show(49 :: 49 :: pb i 4++rb u++rb v)++r=_; simp
   rw[e];cases f with
   | zero=>unfold am; rfl
   | succ f =>
     rw[sf ht.1];split
     . rfl
     . rename_i h1
       by_cases hu:lv u<=most - 1
       . rw[kE u f (most - 1) _ ht.2.1 hs.1 hu (by omega)];show(am f (most - lv u) (rb v++r)).map _=none;rw[qg v f (most - lv u) r ht.2.2 hs.2 (by omega) (by omega)];rfl
       . rw[qg u f (most - 1) _ ht.2.1 hs.1 (by omega) (by omega)];rfl
theorem wC:∀(t:BTr) (p:List Nat),kf (p++rb t) (p.length+(rb t).length - 4)=p++eQ t
 | .box k,p=>by have:=nJ (p++[48]) k [];rw[Jv,Jv] at this;rw[show p++rb (.box k)=p++[48]++nb k by show p++(48 :: nb k)=_; simp,show p++eQ (.box k)=p++[48]++nd k by show p++(48 :: nd k)=_; simp,<- this];congr 1;show p.length+(48 :: nb k).length - 4=_;rw[JS,JY];simp;omega
 | .num k,p=>by have:=nJ (p++[49,48]) k [];rw[Jv,Jv] at this;rw[show p++rb (.num k)=p++[49,48]++nb k by show p++(49 :: 48 :: nb k)=_; simp,show p++eQ (.num k)=p++[49,48]++nd k by show p++(49 :: 48 :: nd k)=_; simp,<- this];congr 1;show p.length+(49 :: 48 :: nb k).length - 4=_;rw[JS,JY,JY];simp;omega
 | .op i l r,p=>by have:=wC r (p++(49 :: 49 :: pb i 4++rb l));rw[show p++rb (.op i l r)=p++(49 :: 49 :: pb i 4++rb l)++rb r by show p++(49 :: 49 :: pb i 4++rb l++rb r)=_; rw[Jm p],show p++eQ (.op i l r)=p++(49 :: 49 :: pb i 4++rb l)++eQ r by show p++(49 :: 49 :: pb i 4++rb l++eQ r)=_; rw[Jm p],<- this];congr 1;show p.length+(49 :: 49 :: pb i 4++rb l++rb r).length - 4=_;rw[JS,JS (as:=p),Mo]
theorem xV:∀(n k acc:Nat) (r:List Nat),cG n k acc ((List.replicate n [49,48,49,49]).flatten++r)=none
 | 0,k,acc,r=>by unfold cG; rfl
 | n+1,k,acc,r=>by rw[KQ,KE];show(if(49:Nat)=48 then _ else cG n (k+1) (acc+bv [48,49,49] * 8 ^ k) ((List.replicate n [49,48,49,49]).flatten++r))=none;rw[Ja (by decide)];exact xV n _ _ r
def fb (rl:List Nat) (p:Pc) (l:List Nat):Prop:=(∀r,p.bad rl (l++r))\/∃n n',p=.count n/\n'≠n/\n'<1000/\l=nb n'
variable {a:Option (Option BTr)}
theorem ki {l:List Nat} (h:am 8 8 l=none):fG a (49 :: l)=none:=by show(am 8 8 l).bind _=none;rw[h];rfl
variable {rl:List Nat} {o:Option BTr}
theorem BB (h1:128<=m) (h2:m<8 ^ 16):fb rl (.pl a o) (49 :: 48 :: nb m):=.inl λr=>ki (by show(if(8:Nat)<1 then none else(bJ 0 127 (nb m++r)).map λx=>(BTr.box x.1,x.2))=none;rw[kS (by omega) h2];rfl)
theorem Gb {t:BTr} (h1:tok t) (h2:iE t) (h3:8<lv t):fb rl (.pl a o) (49 :: rb t):=.inl λr=>ki (qg t 8 8 r h1 h2 h3 (JZ _))
theorem Hj (e:List Nat):fb rl (.pl a o) (49 :: 49 :: 48 :: ((List.replicate 16 [49,48,49,49]).flatten++e)):=.inl λr=>ki (by show(if(8:Nat)<1 then none else(cG 16 0 0 ((List.replicate 16 [49,48,49,49]).flatten++e++r)).map λx=>(BTr.num x.1,x.2))=none;rw[Jm,xV];rfl)
theorem Gy {x y z w:Nat} (e:List Nat) (h:9<=bv [x,y,z,w]):fb rl (.pl a o) (49 :: 49 :: 49 :: x :: y :: z :: w :: e):=.inl λr=>ki (by show(if(8:Nat)<1 then none else if bv [x,y,z,w]<9 then _ else none)=none;rw[Ja (by decide),Ja (by omega)])
theorem Dg (ho:dO o) (h:cY a o=true):fb rl (.pl a o) (Pk.ob o):=.inl λr=>by
 show fG a (Pk.ob o++r)=none;cases o with
 | none=>show(if cY a none=true then none else some (none,r))=none; rw[Je h]
 | some t =>
   show((am 8 8 (rb t++r)).bind λx=>if cY a (some x.1)=true then none else some (some x.1,x.2))=none;rw[kE t 8 8 r ho.1.1 ho.2 ho.1.2 (JZ _)];show(if cY a (some t)=true then none else some (some t,r))=none;rw[Je h]
theorem II :fb rl (.pl none o) [48,49]:=.inl λr=>rfl
theorem B7 :fb rl (.depth n) [48,48,48,48]:=.inl λr=>by
 have e:nb 0=[48,48,48,48]:=by rw[fQ (by decide)]; decide
 show bJ 1 3 ([48,48,48,48]++r)=none;rw[<- e];exact vK (by decide) (by rw[cD]; omega)
theorem DC {k:Nat}(h1:rl.length<=m) (h0:1<=rl.length) (h2:m<8 ^ 16):fb rl (.fn k) (nb m):=.inl λr=>kS (by omega) h2
theorem Gj {k j:Nat}(h1:rl.getD k 0<=m) (h0:1<=rl.getD k 0) (h2:m<8 ^ 16):fb rl (.row k j) (nb m):=.inl λr=>kS (by omega) h2
theorem FQ (hp:(∃n,p=.count n)\/(∃n,p=.depth n)\/(∃k,p=.fn k)\/∃k j,p=.row k j):fb rl p (nd n):=.inl λr=>by rcases hp with⟨_,rfl⟩|⟨_,rfl⟩|⟨_,rfl⟩|⟨_,_,rfl⟩ <;> exact yK
theorem Ij {t:BTr} (h1:tok t) (h2:iE t) (h3:lv t<=8):fb rl (.pl a o) (49 :: eQ t):=.inl λr=>ki (wt t 8 8 r h1 h2 h3 (JZ _))
theorem IL {t:BTr} (h1:tok t):fb rl (.pl a o) (49 :: fK t):=.inl λr=>ki (yQ t 8 8 r h1)
theorem Ep {cn:Nat->Nat} (hr:RlOk rl cn) (h:∀m∈ms,MFit rl cn m) (h1:1<=ms.length) (h2:ms.length<=200) {k:Nat} {l:List Nat} (hk:(cW ms)[k]?=some p) (hs:fb rl p l):ck rl cn (ce ((cW ms).take k)++l++ce ((cW ms).drop (k+1)))=none:=by
 rcases hs with hs|⟨n,n',rfl,hn,hn',rfl⟩
 . rw[Jm];exact D5 hr h h1 h2 hk (hs _)
 . have k0:k=0/\n=ms.length:=by
     cases k with
     | zero=>cases hk; exact⟨rfl,rfl⟩
     | succ k =>
       have hm:Pc.count n∈di ms ms.length:=JW hk;exfalso;unfold di at hm;obtain⟨x,hx,hm⟩:=Kn.mp hm;obtain⟨j,_,rfl⟩:=Jy.mp hx;unfold gQ at hm;rcases Jl.mp hm with e|hm
       . cases e
       . rcases K1.mp hm with hm|hm
         . obtain⟨x,hx,hm⟩:=Kn.mp hm;obtain⟨c,_,rfl⟩:=Jy.mp hx;unfold fP at hm;rcases Jl.mp hm with e|hm
           . cases e
           . cases Jz.mp hm
         . unfold eX at hm;obtain⟨x,hx,hm⟩:=Kn.mp hm;obtain⟨c,_,rfl⟩:=Jy.mp hx;unfold eD at hm;obtain⟨i,_,e⟩:=Jy.mp hm;cases e
   obtain⟨rfl,rfl⟩:=k0;show ck rl cn (nb n'++ce (di ms ms.length))=none;rw[xo];exact EE hr h hn hn'
theorem xq (h:p∈cW ms):p=.count ms.length\/∃m∈ms,p=.depth m.ch.length\/(∃c∈m.ch,p=.fn c.1\/p=.row c.1 c.2)\/∃a v o,v∈m.vs/\o∈v/\p=.pl a o:=by
 rcases Jl.mp h with e|hm
 . exact .inl e
 . refine .inr ?_;unfold di at hm;obtain⟨x,hx,hm⟩:=Kn.mp hm;obtain⟨j,hj,rfl⟩:=Jy.mp hx;have hj:=Ka.mp hj;have hmm:ms.getD j c9∈ms:=by rw[JU,JV hj];exact Kd hj
   refine⟨_,hmm,?_⟩;generalize ms.getD j c9=m at hm;unfold gQ at hm;rcases Jl.mp hm with e|hm
   . exact .inl e
   . rcases K1.mp hm with hm|hm
     . obtain⟨x,hx,hm⟩:=Kn.mp hm;obtain⟨c,hc,rfl⟩:=Jy.mp hx;refine .inr (.inl ⟨c,hc,?_⟩);unfold fP at hm;rcases Jl.mp hm with e|hm
       . exact .inl e
       . exact .inr (Jz.mp hm)
     . unfold eX at hm;obtain⟨x,hx,hm⟩:=Kn.mp hm;obtain⟨l,_,rfl⟩:=Jy.mp hx;unfold eD at hm;obtain⟨i,hi,rfl⟩:=Jy.mp hm;have hi:=Ka.mp hi;have hv:du m l∈m.vs:=by
         unfold du at hi ⊢;rw[JU] at hi ⊢;cases e:m.vs[l]? with
         | none=>rw[e] at hi; simp at hi
         | some v=>exact JW e
       refine .inr (.inr ⟨_,_,_,hv,?_,rfl⟩);rw[JU,JV hi];exact Kd hi
theorem bV (h:match p with | .count n=>n<1000 | .depth n=>n<1000 | .fn k=>k<1000 | .row _ j=>j<1000 | .pl _ o=>cr o):p.bt.length<=600:=by
 cases p with
 | count n=>have:=iR (n:=n) h; show(nb n).length<=600; omega
 | depth n=>have:=iR (n:=n) h; show(nb n).length<=600; omega
 | fn n=>have:=iR (n:=n) h; show(nb n).length<=600; omega
 | row k n=>have:=iR (n:=n) h; show(nb n).length<=600; omega
 | pl a o =>
   show(if cY a o=true then [48,49] else Pk.ob o).length<=600;split
   . show 2<=600; decide
   . exact xc h
theorem oH {ps:List Pc} (h:∀p∈ps,p.bt.length<=600):(ce ps).length<=ps.length * 600:=by
 have:=Bz (l:=ps.map Pc.bt) (c:=600) λx hx=>by obtain⟨p,hp,rfl⟩:=Jy.mp hx;exact h p hp
 rw[JR] at this;exact this
theorem j7 (p:Pc):(∃n,p=.count n/\p.kd="count")\/(∃n,p=.depth n/\p.kd="depth")\/(∃k,p=.fn k/\p.kd="function")\/(∃k j,p=.row k j/\p.kd="row")\/(∃o,p=.pl none o/\p.kd="first")\/(∃a o,p=.pl (some a) o/\cY (some a) o=true/\p.kd="like")\/(∃a o,p=.pl (some a) o/\¬ cY (some a) o=true/\p.kd="other"):=by
 cases p with
 | count n=>exact .inl ⟨n,rfl,rfl⟩
 | depth n=>exact .inr (.inl ⟨n,rfl,rfl⟩)
 | fn k=>exact .inr (.inr (.inl ⟨k,rfl,rfl⟩))
 | row k j=>exact .inr (.inr (.inr (.inl ⟨k,j,rfl,rfl⟩)))
 | pl a o =>
   cases a with
   | none=>exact .inr (.inr (.inr (.inr (.inl ⟨o,rfl,rfl⟩))))
   | some a =>
     by_cases h:cY (some a) o=true
     . exact .inr (.inr (.inr (.inr (.inr (.inl ⟨a,o,rfl,h,Je h⟩)))))
     . exact .inr (.inr (.inr (.inr (.inr (.inr ⟨a,o,rfl,h,Ja h⟩)))))
theorem D0 (h:V.str p.kd=V.str "count"):∃n,p=.count n:=by rcases j7 p with⟨n,e,k⟩|⟨n,e,k⟩|⟨n,e,k⟩|⟨n,j,e,k⟩|⟨n,e,k⟩|⟨n,j,e,_,k⟩|⟨n,j,e,_,k⟩ <;> first|exact⟨n,e⟩|(rw[k] at h; exact absurd (V.str.inj h) (by decide +kernel))
theorem EM (h:V.str p.kd=V.str "depth"):∃n,p=.depth n:=by rcases j7 p with⟨n,e,k⟩|⟨n,e,k⟩|⟨n,e,k⟩|⟨n,j,e,k⟩|⟨n,e,k⟩|⟨n,j,e,_,k⟩|⟨n,j,e,_,k⟩ <;> first|exact⟨n,e⟩|(rw[k] at h; exact absurd (V.str.inj h) (by decide +kernel))
theorem EU (h:V.str p.kd=V.str "function"):∃n,p=.fn n:=by rcases j7 p with⟨n,e,k⟩|⟨n,e,k⟩|⟨n,e,k⟩|⟨n,j,e,k⟩|⟨n,e,k⟩|⟨n,j,e,_,k⟩|⟨n,j,e,_,k⟩ <;> first|exact⟨n,e⟩|(rw[k] at h; exact absurd (V.str.inj h) (by decide +kernel))
theorem Hq (h:V.str p.kd=V.str "row"):∃n j,p=.row n j:=by rcases j7 p with⟨n,e,k⟩|⟨n,e,k⟩|⟨n,e,k⟩|⟨n,j,e,k⟩|⟨n,e,k⟩|⟨n,j,e,_,k⟩|⟨n,j,e,_,k⟩ <;> first|exact⟨n,j,e⟩|(rw[k] at h; exact absurd (V.str.inj h) (by decide +kernel))
theorem Bk (h:V.str p.kd=V.str "like"):∃a o,p=.pl a o/\cY a o=true:=by rcases j7 p with⟨n,e,k⟩|⟨n,e,k⟩|⟨n,e,k⟩|⟨n,j,e,k⟩|⟨n,e,k⟩|⟨n,j,e,q,k⟩|⟨n,j,e,_,k⟩ <;> first|exact⟨_,j,e,q⟩|(rw[k] at h; exact absurd (V.str.inj h) (by decide +kernel))
theorem yN (h:V.str p.kd=V.str "first"):∃o,p=.pl none o:=by rcases j7 p with⟨n,e,k⟩|⟨n,e,k⟩|⟨n,e,k⟩|⟨n,j,e,k⟩|⟨n,e,k⟩|⟨n,j,e,q,k⟩|⟨n,j,e,_,k⟩ <;> first|exact⟨n,e⟩|(rw[k] at h; exact absurd (V.str.inj h) (by decide +kernel))
theorem Fe (h:V.str p.kd=V.str "other"):∃a o,p=.pl a o:=by rcases j7 p with⟨n,e,k⟩|⟨n,e,k⟩|⟨n,e,k⟩|⟨n,j,e,k⟩|⟨n,e,k⟩|⟨n,j,e,q,k⟩|⟨n,j,e,_,k⟩ <;> first|exact⟨_,j,e⟩|(rw[k] at h; exact absurd (V.str.inj h) (by decide +kernel))
theorem Hh (p:Pc) (h1:p.bt≠[48,49]) (h2:p.bt≠[48,48]):(∃n,p.bt=nb n/\fS (V.str p.kd) [V.str "first",V.str "other"]=false/\((∃n,p=.count n)\/(∃n,p=.depth n)\/(∃k,p=.fn k)\/∃k j,p=.row k j))\/∃a t,p=.pl a (some t)/\p.bt=49 :: rb t/\fS (V.str p.kd) [V.str "first",V.str "other"]=true:=by
 rcases j7 p with⟨n,rfl,k⟩|⟨n,rfl,k⟩|⟨n,rfl,k⟩|⟨n,j,rfl,k⟩|⟨o,rfl,k⟩|⟨n,j,rfl,q,k⟩|⟨a,o,rfl,q,k⟩
 . exact .inl ⟨n,rfl,by rw[k]; decide +kernel,.inl ⟨n,rfl⟩⟩
 . exact .inl ⟨n,rfl,by rw[k]; decide +kernel,.inr (.inl ⟨n,rfl⟩)⟩
 . exact .inl ⟨n,rfl,by rw[k]; decide +kernel,.inr (.inr (.inl ⟨n,rfl⟩))⟩
 . exact .inl ⟨j,rfl,by rw[k]; decide +kernel,.inr (.inr (.inr ⟨n,j,rfl⟩))⟩
 . cases o with
   | none=>exact absurd rfl h2
   | some t=>exact .inr ⟨_,t,rfl,rfl,by rw[k]; decide +kernel⟩
 . exact absurd (show(if cY (some n) j=true then [48,49] else Pk.ob j)=[48,49] from Je q) h1
 . have e:Pc.bt (.pl (some a) o)=Pk.ob o:=Ja q;cases o with
   | none=>exact absurd e h2
   | some t=>exact .inr ⟨_,t,rfl,e,by rw[k]; decide +kernel⟩
theorem n6 (n:Nat):(nd n).length=(nb n).length+4:=by obtain⟨g,x,y,z,h1,h2⟩:=yB n;rw[h1,h2,JS,JS];rfl
theorem xj:∀t:BTr,(eQ t).length=(rb t).length+4
 | .box k=>by show(48 :: nd k).length=(48 :: nb k).length+4; rw[JY,JY,n6]
 | .num k=>by show(49 :: 48 :: nd k).length=(49 :: 48 :: nb k).length+4; rw[JY,JY,JY,JY,n6]
 | .op i l r=>by show(49 :: 49 :: pb i 4++rb l++eQ r).length=(49 :: 49 :: pb i 4++rb l++rb r).length+4; rw[JS,JS (bs:=rb r),xj r]; omega
theorem wH:∀t:BTr,(fK t).length=(rb t).length+4
 | .box k=>by show(48 :: nd k).length=(48 :: nb k).length+4; rw[JY,JY,n6]
 | .num k=>by show(49 :: 48 :: nd k).length=(49 :: 48 :: nb k).length+4; rw[JY,JY,JY,JY,n6]
 | .op i l r=>by show(49 :: 49 :: pb i 4++fK l++rb r).length=(49 :: 49 :: pb i 4++rb l++rb r).length+4; rw[JS,JS,JS (bs:=rb r),JS (bs:=rb l),wH l]; omega
theorem pd {a b:Nat} (h:nb a=nb b):a=b:=by
 have key:∀a b:Nat,nb a=nb b->a=b:=by
   intro a
   induction a using Nat.strongRecOn with
   | _ a ih =>
     intro b h;by_cases ha:a<8 <;> by_cases hb:b<8
     . obtain⟨x,y,z,e,v,_⟩:=gz a ha;obtain⟨x',y',z',e',v',_⟩:=gz b hb;rw[fQ ha,fQ hb,e,e'] at h;cases h;omega
     . rw[fQ ha,gB hb] at h;cases h
     . rw[gB ha,fQ hb] at h;cases h
     . obtain⟨x,y,z,e,v,_⟩:=gz (a%8) (Mm _ (by decide));obtain⟨x',y',z',e',v',_⟩:=gz (b%8) (Mm _ (by decide));rw[gB ha,gB hb,e,e'] at h;injection h with h1 h2
       injection h2 with h3 h4
       injection h4 with h5 h6
       injection h6 with h7 h8
       subst h3 h5 h7;have:=ih (a / 8) (by omega) (b / 8) h8;omega
 exact key a b h
theorem ux:∀t:BTr,4<=(rb t).length
 | .box k=>by have:=m9 k; show 4<=(48 :: nb k).length; rw[JY]; omega
 | .num k=>by have:=m9 k; show 4<=(49 :: 48 :: nb k).length; rw[JY,JY]; omega
 | .op i l r=>by have:=ux r; show 4<=(49 :: 49 :: pb i 4++rb l++rb r).length; rw[JS]; omega
theorem CZ {b1 b2:Bool} {A B X:Prop} (h:b1=true\/b2=true->A) (hb:B) (k:(if b2=true then A else B)->X):if b1=true then(if true=true then A else B) else X:=by
 by_cases h1:b1=true
 . rw[Je h1,Je rfl]; exact h (.inl h1)
 . rw[Ja h1];refine k ?_;by_cases h2:b2=true
   . rw[Je h2]; exact h (.inr h2)
   . rw[Ja h2]; exact hb
theorem m8 (n:Nat):ax (nd n):=by
 induction n using Nat.strongRecOn with
 | _ n ih =>
   by_cases h:n<8
   . rw[qt h]; exact cV (.inr rfl) (fR (ji _ _) (by decide))
   . rw[ph h]; exact cV (.inr rfl) (fR (ji _ _) (ih _ (by omega)))
theorem uh:∀t:BTr,ax (eQ t)
 | .box k=>cV (.inl rfl) (m8 k)
 | .num k=>cV (.inr rfl) (cV (.inl rfl) (m8 k))
 | .op i l r=>fR (fR (cV (.inr rfl) (cV (.inr rfl) (ji _ _))) (lI l)) (uh r)
theorem xO:∀t:BTr,ax (fK t)
 | .box k=>cV (.inl rfl) (m8 k)
 | .num k=>cV (.inr rfl) (cV (.inl rfl) (m8 k))
 | .op i l r=>fR (fR (cV (.inr rfl) (cV (.inr rfl) (ji _ _))) (xO l)) (lI r)
end Dc
namespace K86
open PySem L2 Gx Fl Bt Pk Dc
def bM (i:Nat):Stmt:=PySem.Challenge.pw_stopglass_k86_bits_refused.main.body.getD i (.Pass ⟨0,0,0,0⟩)
abbrev pK:Stmt:=bM 10
abbrev na:Stmt:=bM 11
abbrev px:Stmt:=bM 12
abbrev oQ:Stmt:=bM 13
abbrev oM:Stmt:=bM 14
abbrev ka:Stmt:=bM 15
abbrev pN:Stmt:=bM 16
abbrev kj:Stmt:=bM 17
abbrev mw:Stmt:=gg (bM 18) 0
abbrev oO:Stmt:=bM 22
abbrev qA:Stmt:=bM 23
abbrev qE:Stmt:=bM 30
abbrev nH:Stmt:=bM 31
abbrev nQ:Stmt:=gg (bM 32) 0
abbrev og:Stmt:=gg (bM 32) 1
abbrev pz:Stmt:=gg (bM 32) 2
abbrev nj:Stmt:=gg (bM 32) 3
abbrev oj:Stmt:=gg (bM 32) 4
abbrev nI:Stmt:=gg (bM 32) 5
abbrev oW:Stmt:=gg (bM 32) 6
abbrev oY:Stmt:=gg (bM 32) 7
abbrev nU:Stmt:=gg (bM 32) 8
abbrev nh:Stmt:=gg (bM 32) 9
abbrev nR:Stmt:=bM 34
abbrev p9:Stmt:=bM 35
abbrev qM:Stmt:=bM 36
abbrev kT:Stmt:=bM 37
abbrev ou:Stmt:=bM 38
abbrev oZ:Stmt:=bM 39
abbrev jq:Stmt:=bM 40
abbrev oE:Stmt:=bM 41
abbrev pV:Stmt:=bM 42
abbrev nV:Stmt:=bM 43
abbrev jP:Stmt:=bM 44
abbrev pM:Stmt:=bM 45
abbrev j6:Stmt:=bM 46
abbrev iy:Stmt:=bM 47
abbrev nK:Stmt:=bM 48
abbrev pH:Stmt:=bM 49
abbrev mL:Stmt:=bM 50
abbrev mX:Stmt:=bM 51
abbrev iD:Stmt:=bM 52
set_option genInjectivity false in
set_option genSizeOf false in
structure Adr where
 x_gE:Addr
 x_bB:Addr
 x_bW:Addr
 x_nN:Addr
 x_uT:Addr
 bK:Addr
 c_bR:Addr
 A6:Addr
 Aj:FuncData
 A7:Addr
 Ak:FuncData
 zj:Addr
 AR:FuncData
 zf:Addr
 AM:FuncData
 zh:Addr
 AO:FuncData
 AA:Addr
 An:FuncData
 zg:Addr
 AN:FuncData
 zi:Addr
 AQ:FuncData
 ze:Addr
 AL:FuncData
 zk:Addr
 AS:FuncData
 qP:Addr
 qS:FuncData
 A9:Addr
 Am:FuncData
 A8:Addr
 Al:FuncData
 zX:Addr
 AF:FuncData
 zc:Addr
 AJ:FuncData
 za:Addr
 AH:FuncData
 zV:Addr
 AD:FuncData
 zU:Addr
 AC:FuncData
 zY:Addr
 AG:FuncData
 zW:Addr
 AE:FuncData
 zd:Addr
 AK:FuncData
 zb:Addr
 AI:FuncData
 qO:Addr
 qQ:FuncData
 zo:Addr
 AW:FuncData
 zx:Addr
 Ac:FuncData
 zt:Addr
 AZ:FuncData
 zp:Addr
 AX:FuncData
 nD:Addr
 nF:FuncData
 A0:Addr
 Ae:FuncData
 zq:Addr
 AY:FuncData
 zw:Addr
 Ab:FuncData
 nC:Addr
 nE:FuncData
 A4:Addr
 Ai:FuncData
 zy:Addr
 Ad:FuncData
 zu:Addr
 Aa:FuncData
 A2:Addr
 Ag:FuncData
 zm:Addr
 AU:FuncData
 zn:Addr
 AV:FuncData
 A1:Addr
 Af:FuncData
 zl:Addr
 AT:FuncData
 A3:Addr
 Ah:FuncData
 A5:Addr
 qR:FuncData
 uB:Addr
 nB:Addr
 uC:Addr
structure Txt (K:W.Frag) (mg:Str->Option Value) (t:Adr):Prop where
 x_gE:XClsOk K mg "GlassError" t.x_gE
 x_bB:XClsOk K mg "BadBits" t.x_bB
 g_bW:mg "BadRow"=some (.ref t.x_bW)
 g_nN:mg "NoName"=some (.ref t.x_nN)
 g_uT:mg "Untrue"=some (.ref t.x_uT)
 i0_bB:W.findIn K (.ref t.x_bB) "__init__"=some (some (.builtin "ValueError.__init__"))
 e_bB:W.mroIn K t.x_bB (.ref t.x_gE)=some true
 k_BadBits_bB:W.kitOne K (.ref t.x_bB) (.ref t.x_bB)=some true
 v_bB:W.kitOne K (.ref t.x_bB) (.type "ValueError")=some true
 y_bB:W.kitAny K (.ref t.x_bB) [.ref t.x_bW,.ref t.x_nN,.ref t.x_uT]=some false
 names_of:DefOk K mg "names_of" pK ["function"] t.A6 t.Aj
 reads:DefOk K mg "reads" na ["row"] t.A7 t.Ak
 gives:DefOk K mg "gives" px ["row"] t.zj t.AR
 atoms_of:DefOk K mg "atoms_of" oQ ["row"] t.zf t.AM
 each_once:DefOk K mg "each_once" oM ["names"] t.zh t.AO
 ways:DefOk K mg "ways" ka ["rows"] t.AA t.An
 begins_of:DefOk K mg "begins_of" pN ["rows"] t.zg t.AN
 firsts_behind:DefOk K mg "firsts_behind" kj ["rows","begins"] t.zi t.AQ
 zT:IniOk K t.bK "Flows.__init__" mw ["self","program"] t.ze t.AL
 is_leaf:DefOk K mg "is_leaf" oO ["one"] t.zk t.AS
 leaves:DefOk K mg "leaves" qA ["one"] t.qP t.qS
 views_ahead:DefOk K mg "views_ahead" qE ["before","chain"] t.A9 t.Am
 unpack:DefOk K mg "unpack" nH ["program","rows"] t.A8 t.Al
 zS:IniOk K t.c_bR "BitReader.__init__" nQ ["self","flows","bits"] t.zX t.AF
 gK:MetOk K t.c_bR "take" "BitReader.take" og ["self","count"] t.zc t.AJ
 i3:MetOk K t.c_bR "number" "BitReader.number" pz ["self","least","most"] t.za t.AH
 nA:MetOk K t.c_bR "any_number" "BitReader.any_number" nj ["self"] t.zV t.AD
 tq:MetOk K t.c_bR "all_marks" "BitReader.all_marks" oj ["self"] t.zU t.AC
 u8:MetOk K t.c_bR "mark" "BitReader.mark" nI ["self","before"] t.zY t.AG
 u6:MetOk K t.c_bR "frame" "BitReader.frame" oW ["self"] t.zW t.AE
 uA:MetOk K t.c_bR "view" "BitReader.view" oY ["self","count","ahead"] t.zd t.AK
 u9:MetOk K t.c_bR "place_beside" "BitReader.place_beside" nU ["self","ahead"] t.zb t.AI
 jG:MetOk K t.c_bR "reckoning" "BitReader.reckoning" nh ["self","most"] t.qO t.qQ
 ik:DefOk K mg "_law_cell" nR ["_law_script","_law_k"] t.zo t.AW
 cw:DefOk K mg "_law_part" p9 ["_law_cell_here","_law_j","_law_many"] t.zx t.Ac
 qT:DefOk K mg "_law_name" qM ["_law_cell_here","_law_k"] t.zt t.AZ
 Ar:DefOk K mg "_law_function" kT ["_law_cell_here","_law_k","_law_base"] t.zp t.AX
 lY:DefOk K mg "_law_tree" ou ["_law_cell_here","_law_many"] t.nD t.nF
 Av:DefOk K mg "_law_place" oZ ["_law_cell_here"] t.A0 t.Ae
 As:DefOk K mg "_law_mark" jq ["_law_cell_here","_law_built","_law_last"] t.zq t.AY
 ge:DefOk K mg "_law_number" oE ["_law_number_here"] t.zw t.Ab
 lW:DefOk K mg "_law_bits" pV ["_law_one"] t.nC t.nE
 Ay:DefOk K mg "_law_written" nV ["_law_place_here"] t.A4 t.Ai
 qU:DefOk K mg "_law_pieces" jP ["_law_marks"] t.zy t.Ad
 Au:DefOk K mg "_law_needless" pM ["_law_bits_here","_law_first"] t.zu t.Aa
 Aw:DefOk K mg "_law_spoilt" j6 ["_law_piece","_law_sort","_law_cell_here","_law_built"] t.A2 t.Ag
 Ap:DefOk K mg "_law_bad_row" iy ["_law_pieces_here","_law_sort","_law_cell_here","_law_built"] t.zm t.AU
 Aq:DefOk K mg "_law_bad_rows" nK ["_law_rows","_law_all_marks_here","_law_spot","_law_sort","_law_cell_here","_law_built"] t.zn t.AV
 uD:DefOk K mg "_law_refused" pH ["_law_program","_law_rows"] t.A1 t.Af
 Ao:DefOk K mg "_law_all_marks" mL ["_law_script","_law_built"] t.zl t.AT
 Ax:DefOk K mg "_law_table" mX ["_law_built","_law_all_marks_here"] t.A3 t.Ah
 law:DefOk K mg "law" iD ["_law_script"] t.A5 t.qR
 eU:ClsOk K mg "Flows" t.bK
 bu:ClsOk K mg "BitReader" t.c_bR
 nG:dg K t.bK "last"
 k8:dg K t.bK "number_of"
 lZ:dg K t.bK "folded_of"
 la:dg K t.bK "params_of"
 k9:dg K t.bK "rows_of"
 k7:dg K t.bK "names_in"
 lg:dg K t.bK "ways_in"
 k6:dg K t.c_bR "flows"
 j':dg K t.c_bR "called"
 jz:dg K t.c_bR "bits"
 il:dg K t.c_bR "at"
 JN:∃tk,mg "SIGN_BITS"=some (.int 4 tk)
 JL:∃tk,mg "MOST_LEAVES"=some (.int 8 tk)
 JM:∃tk,mg "MOST_STATIONS"=some (.int 200 tk)
 JJ:∃tk,mg "MOST_FRAMES"=some (.int 3 tk)
 JK:∃tk,mg "MOST_GROUPS"=some (.int 16 tk)
 JI:∃tk,mg "MOST_BOX"=some (.int 127 tk)
 JH:mg "GIVING_KINDS"=some (.ref t.uB)
 JO:∀H:Hp,aI K H t.uB (K12.giving.map V.str)
 AB:mg "SIGNS"=some (.ref t.nB)
 t_SIGNS:∀H:Hp,aI K H t.nB sgTup
 JQ:∃o,K.lookup t.nB=some o/\o.cls=.type "tuple"/\o.dict=none
 JG:mg "ATOM_PLACES"=some (.ref t.uC)
 JP:tE K t.uC K12.tabl
 b_ValueError:mg "ValueError"=none
 b_len:mg "len"=none
 b_list:mg "list"=none
 b_tuple:mg "tuple"=none
 b_isinstance:mg "isinstance"=none
 b_range:mg "range"=none
 b_all:mg "all"=none
 b_enumerate:mg "enumerate"=none
 b_dict:mg "dict"=none
 b_str:mg "str"=none
 b_zip:mg "zip"=none
 b_int:mg "int"=none
 b_bool:mg "bool"=none
 b_divmod:mg "divmod"=none
 bl:∀(s:Shared) (u:Value),BindsTo s t.qR ⟨[u],[]⟩ [("_law_script",u)]
variable {ms:List Mk} {H:Hp} {xs:List V} {m:Mk} {cn:Nat->Nat}
section
variable {P:Program} {w:World} {K:W.Frag} {mg:Str->Option Value} {base:Heap} {t:Adr}
def GT (K:W.Frag) (t:Adr):Sp:=λvs H Q _=>∃(x dx p:Addr) (fns:List F2.Fd),vs=[.ref x,.ref p]/\H x=some (.ins t.bK dx [])/\aG K (ers x H) p (fns.map λf=>V.ref f.fa)/\fns≠[]/\fns.length<=12/\(∀f∈fns,F2.FnAt K (ers x H) f)/\(fns.map (·.name)).Nodup /\
 ∀H',Same (ers x H) H'->F2.FlowsAt K t.bK H' x fns->Q .non H'
def jI (m0:Mk) (ch:List (Nat×Nat)) (n:Nat):List PyData:=(List.range n).map λi=>dj (cF m0 i (ch.getD i (0,0)).1)
def Gv (K:W.Frag):Sp:=λvs H Q _=>∃(b0 c:V) (fns:List F2.Fd) (m0:Mk) (ch:List (Nat×Nat)) (z zz:Addr) (oz ozz:HO),vs=[b0,c]/\H z=some oz/\H zz=some ozz/\(fns.map (·.name)).Nodup/\DatV K (ers zz (ers z H)) (iB (dS fns) m0) b0/\MOk fns.length m0/\DatV K H (.tuple (ch.map (gw (dS fns)))) c/\(∀c∈ch,c.1<fns.length)/\ch.length<=3 /\
 ∀l xs H',Same H H'->H l=none->H' l=some (.lst xs)->DatAll K (ers zz (ers z H')) (jI m0 ch ch.length) xs->Q (.ref l) H'
def tbl (nm:Nat->Str) (mss:List (List Mk)):List (Str×List Mk):=(List.range mss.length).map λk=>(nm k,mss.getD k [])
theorem BN (nm:Nat->Str) (mss:List (List Mk)):(tbl nm mss).length=mss.length:=by unfold tbl; rw[JR,KI]
theorem IR {nm:Nat->Str} {mss:List (List Mk)} {k:Nat} (h:mss[k]?=some ms):(tbl nm mss)[k]?=some (nm k,ms):=by unfold tbl;rw[Jc,Lc (Jb.mp h).1];show some (nm k,mss.getD k [])=_;rw[JU,h];rfl
theorem Fn {nm:Nat->Str} {mss:List (List Mk)} {e:Str×List Mk} (h:e∈tbl nm mss):e.2∈mss/\∃k,k<mss.length/\e.1=nm k:=by unfold tbl at h;obtain⟨k,hk,rfl⟩:=Jy.mp h;have hk:=Ka.mp hk;refine⟨?_,k,hk,rfl⟩;show mss.getD k []∈mss;rw[JU,JV hk];exact Kd hk
theorem vd {T:Addr} {nm:Nat->Str} {mss:List (List Mk)} (h1:aG K H T xs) (hl:xs.length=mss.length) (h2:∀(k:Nat) ms x,mss[k]?=some ms->xs[k]?=some x->DatV K H (iG nm (nm k,ms)) x):DatV K H (.list ((tbl nm mss).map (iG nm))) (.ref T):=by
 refine cf h1 (lC (by rw[JR,BN,hl]) λk d x hd hx=>?_);have hk:k<mss.length:=by rw[<- hl]; exact(Jb.mp hx).1
 have hm:=JV hk;rw[Jc,IR hm] at hd;cases hd;exact h2 k _ x hm hx
def HD (K:W.Frag):Sp:=λvs H Q _=>∃(tr:BTr) (v:V),vs=[v]/\DatV K H (dw tr) v/\tok tr/\∀H',Same H H'->Q (.bl (decide (cu tr=0))) H'
def tW (K:W.Frag) (n:Nat):Sp:=λvs H Q _=>∃(tr:BTr) (v:V),vs=[v]/\cu tr<n/\DatV K H (dw tr) v/\tok tr/\∀H',Same H H'->Q (.int (lv tr)) H'
def iM {α:Type} (K:W.Frag) (t:Adr) (H:Hp) (R:Rdr) (fns:List F2.Fd) (o:Option (α×List Nat)) (res:α->V->Hp->Prop) (Q:VK) (E:XK):Prop :=
 (∀a r',o=some (a,r')->∀v H',Same (ers R.x H) H'->RdAt K t.c_bR t.bK H' R fns r'->res a v H'->Q v H')/\(o=none->∀H',Same (ers R.x H) H'->E (.ref t.x_bB) none H')
def isL (K:W.Frag) (R:Rdr) (H:Hp) (pl:List (Option BTr)) (v:V) (H':Hp):Prop:=∃lv xs,v=.ref lv/\H lv=none/\H' lv=some (.lst xs)/\DatAll K (ers R.x H') (pl.map bI) xs
def isM {α:Type} (K:W.Frag) (R:Rdr) (H:Hp) (d:α->PyData) (m:α) (v:V) (H':Hp):Prop:=DatV K (nwL (ers R.x H) (ers R.x H')) (d m) v
def isI (n:Nat) (v:V) (_:Hp):Prop:=v=.int n
def rJ {α:Type} (K:W.Frag) (R:Rdr) (f:α->PyData) (a:α) (v:V) (H:Hp):Prop:=DatV K (ers R.x H) (f a) v
def GW (K:W.Frag) (t:Adr):Sp:=λvs H Q E=>∃(x dx fl:Addr) (fns:List F2.Fd) (l:List Nat),vs=[.ref x,.ref fl,.str (tx l)]/\H x=some (.ins t.c_bR dx [])/\F2.FlowsAt K t.bK (ers x H) fl fns/\RlOk (ay fns) (cK fns)/\l.length<=1000000 /\
 (ax l->∀cl H',Same (ers x H) H'->RdAt K t.c_bR t.bK H' ⟨x,dx,fl,cl⟩ fns l->Q .non H')/\(¬ ax l->∀H',Same (ers x H) H'->E (.ref t.x_bB) none H')
def Cy (K:W.Frag) (t:Adr):Sp:=λvs H Q E=>∃(R:Rdr) (fns:List F2.Fd) (r:List Nat) (c:Nat),vs=[.ref R.x,.int c]/\c<=4/\RdAt K t.c_bR t.bK H R fns r/\iM K t H R fns (jo c r) (λa v _=>v=.str (tx a)) Q E
def Cp (K:W.Frag) (t:Adr):Sp:=λvs H Q E=>∃(R:Rdr) (fns:List F2.Fd) (r:List Nat),vs=[.ref R.x]/\RdAt K t.c_bR t.bK H R fns r/\iM K t H R fns (cG 16 0 0 r) isI Q E
def IW (K:W.Frag) (t:Adr):Sp:=λvs H Q E=>∃(R:Rdr) (fns:List F2.Fd) (r:List Nat) (lo hi:Nat),vs=[.ref R.x,.int lo,.int hi]/\RdAt K t.c_bR t.bK H R fns r/\iM K t H R fns (bJ lo hi r) isI Q E
def Dq (K:W.Frag) (t:Adr):Sp:=λvs H Q E=>∃(R:Rdr) (fns:List F2.Fd) (r:List Nat),vs=[.ref R.x]/\RdAt K t.c_bR t.bK H R fns r/\iM K t H R fns (fj (ay fns) r) (rJ K R (gw (dS fns))) Q E
def tM (K:W.Frag) (t:Adr) (n:Nat):Sp:=λvs H Q E=>∃(R:Rdr) (fns:List F2.Fd) (r:List Nat) (f most:Nat),vs=[.ref R.x,.int most]/\f<n/\most<=f/\most<=8/\RdAt K t.c_bR t.bK H R fns r/\iM K t H R fns (am f most r) (rJ K R dw) Q E
def Dy (K:W.Frag) (t:Adr):Sp:=λvs H Q E=>∃(R:Rdr) (fns:List F2.Fd) (r:List Nat) (a:Option (Option BTr)) (u:V),vs=[.ref R.x,u]/\DatV K (ers R.x H) (dj a.toList) u/\(∀o∈a,cr o)/\RdAt K t.c_bR t.bK H R fns r/\iM K t H R fns (fG a r) (rJ K R bI) Q E
def BP (K:W.Frag) (t:Adr):Sp:=λvs H Q E=>∃(R:Rdr) (fns:List F2.Fd) (r:List Nat) (n:Nat) (ah:List (Option BTr)) (u:V),vs=[.ref R.x,.int n,u]/\n<=24/\DatV K (ers R.x H) (dj ah) u/\(∀o∈ah,cr o)/\RdAt K t.c_bR t.bK H R fns r/\iM K t H R fns (gM ah n r) (isL K R H) Q E
def E5 (K:W.Frag) (t:Adr):Sp:=λvs H Q E=>∃(R:Rdr) (fns:List F2.Fd) (r:List Nat) (m0:Mk) (u:V),vs=[.ref R.x,u]/\DatV K (ers R.x H) (iB (dS fns) m0) u/\MOk fns.length m0/\RdAt K t.c_bR t.bK H R fns r/\iM K t H R fns (dW (ay fns) (cK fns) m0 r) (isM K R H (iB (dS fns))) Q E
def Iy (K:W.Frag) (t:Adr):Sp:=λvs H Q E=>∃(R:Rdr) (fns:List F2.Fd) (r:List Nat),vs=[.ref R.x]/\RdAt K t.c_bR t.bK H R fns r/\iM K t H R fns (fF (ay fns) (cK fns) r) (isM K R H λms=>.list (ms.map (iB (dS fns)))) Q E
def Fj (K:W.Frag) (t:Adr):Sp:=λvs H Q E=>∃(p rl:Addr) (fns:List F2.Fd) (ls:List (List Nat)),vs=[.ref p,.ref rl]/\aG K H p (fns.map λf=>V.ref f.fa)/\(∀f∈fns,F2.FnAt K H f)/\(fns.map (·.name)).Nodup/\RlOk (ay fns) (cK fns)/\aG K H rl (bf ls)/\(∀l∈ls,l.length<=1000000) /\
 (∀mss,gO fns ls=some mss->∀v H',Same H H'->DatV K H' (.list ((tbl (dS fns) mss).map (iG (dS fns)))) v->Q v H')/\(gO fns ls=none->∀H',Same H H'->E (.ref t.x_bB) none H')
def Ez (K:W.Frag):Sp:=λvs H Q _=>∃(a:Addr) (ns:List Int) (k:Int),vs=[.ref a,.int k]/\aG K H a (ns.map V.int)/\ns.length<=63/\0<=k/\k<1000/\Q (.int (gD ns k)) H
def Hu (K:W.Frag):Sp:=λvs H Q _=>∃(c j m:Int),vs=[.int c,.int j,.int m]/\0<=j/\0<m/\∀H',Same H H'->Q (.int (ap c j m)) H'
def F8 (K:W.Frag):Sp:=λvs H Q _=>∃(b k:Int),vs=[.int b,.int k]/\∀H',Same H H'->Q (.str (bx b k)) H'
def qK (K:W.Frag) (n:Nat):Sp:=λvs H Q _=>∃(c:Int) (m:Nat),vs=[.int c,.int m]/\m<n/\0<m/\∀tr v H',Same H H'->DatV K H' (dw tr) v->tok tr->iE tr->lv tr=m->Q v H'
def C' (K:W.Frag):Sp:=λvs H Q _=>∃(c:Int),vs=[.int c]/\∀o v H',Same H H'->DatV K H' (bI o) v->dO o->Q v H'
def HN (K:W.Frag):Sp:=λvs H Q _=>∃(c k b:Int),vs=[.int c,.int k,.int b]/\0<=k/\k<100/\∀(x:Bd) H',Same H H'->H x.e=none->EntAt K H' x->x.f.name=bx b (k+3)->H' x.e=some (.lst [.ref x.f.fa,.int x.cnt])->x.cnt=(F2.nms x.f).length->Q (.ref x.e) H'
structure Blt (K:W.Frag) (H:Hp) (b:Addr) (bs:List Bd):Prop where
 bt:BuiltAt K H b bs
 cn:∀x∈bs,x.cnt=(F2.nms x.f).length
theorem Blt.mono {H H':Hp} {b:Addr} {bs:List Bd} (h:Blt K H b bs) (e:Same H H'):Blt K H' b bs:=⟨h.bt.mono e,h.cn⟩
def bz (bs:List Bd):List Nat:=ay (bs.map (·.f))
def cJ (bs:List Bd):Nat->Nat:=cK (bs.map (·.f))
def fE (bs:List Bd):Nat->Str:=dS (bs.map (·.f))
theorem mO {b:Addr} {bs:List Bd} (h:Blt K H b bs):RlOk (bz bs) (cJ bs):=by
 have hl:(bz bs).length=bs.length:=by unfold bz ay; rw[JR,JR]
 refine⟨?_,by rw[hl]; exact h.bt.n12,λn hn=>?_,λk=>?_⟩
 . rw[hl];cases e:bs with
   | nil=>exact absurd e h.bt.n0
   | cons x l=>rw[JY]; omega
 . unfold bz ay at hn;rw[KJ] at hn;obtain⟨x,hx,rfl⟩:=Jy.mp hn;have hE:=h.bt.all x hx;refine⟨?_,hE.fn.len⟩;show 1<=x.f.rs.length;cases e:x.f.rs with
   | nil=>exact absurd e hE.ne
   | cons y l=>rw[JY]; omega
 . show((bs.map (·.f))[k]?.map λf=>(F2.nms f).length).getD 0<=24;rw[Jc];cases e:bs[k]? with
   | none=>exact Jw _
   | some x =>
     have hm:=JW e;show(F2.nms x.f).length<=24;rw[<- h.cn x hm];exact(h.bt.all x hm).cn
theorem lx {X:Cx} {L:List Stmt} {R:TS->Prop} (f:let XX:=X; ∃t,bD XX L t/\R t):∃t,bD X L t/\R t:=f
theorem IT {X:Cx} {K:W.Frag} {e:Expr} (f:W.Frag->TE) (h:X.K=K) (p:PE X e (f X.K)):PE X e (f K):=h ▸ p
theorem CD {X:Cx} {K:W.Frag} {tg l:Expr} (f:W.Frag->TI) (h:X.K=K) (p:PI X tg l (f X.K)):PI X tg l (f K):=h ▸ p
theorem DF {as:List Addr} {us:List Value} (h:aT (as.map V.ref) us):us=as.map Value.ref:=by
 induction as generalizing us with
 | nil=>cases h; rfl
 | cons a as ih =>
   cases h with
   | cons r rs=>cases r; rw[ih rs]; rfl
theorem Gp:∀s:BTr,(∃i u v,s=.op i u v)\/∃(pf:List Nat) (k:Nat),(pf=[48]\/pf=[49,48])/\rb s=pf++nb k/\fK s=pf++nd k
 | .box k=>.inr ⟨[48],k,.inl rfl,rfl,rfl⟩
 | .num k=>.inr ⟨[49,48],k,.inr rfl,rfl,rfl⟩
 | .op i u v=>.inl ⟨i,u,v,rfl⟩
theorem EA {ps:List Pc} {p:Pc}:(ps++[p]).map i0=ps.map i0++[i0 p]:=by rw[Jf]; rfl
def jE (K:W.Frag) (H:Hp) (m:Mk) (z:V):Prop:=∃(p c w:Addr) (cs ws:List V),z=.ref p/\aI K H p [.ref c,.ref w]/\H c=some (.lst cs)/\H w=some (.lst ws)/\DatAll K H (m.ch.map io) cs/\DatAll K H (m.vs.map dj) ws
def jW (K:W.Frag) (H:Hp) (ms:List Mk) (y:V):Prop:=∃(M:Addr) (zs:List V),y=.ref M/\aG K H M zs/\zs.length=ms.length/\∀(k:Nat) m z,ms[k]?=some m->zs[k]?=some z->jE K H m z
def jS (K:W.Frag) (H:Hp) (mss:List (List Mk)) (v:V):Prop:=∃(L:Addr) (ys:List V),v=.ref L/\aG K H L ys/\ys.length=mss.length/\∀(k:Nat) ms y,mss[k]?=some ms->ys[k]?=some y->jW K H ms y
theorem jE.mono {H H':Hp} {m:Mk} {z:V} (h:jE K H m z) (e:Same H H'):jE K H' m z :=
 let ⟨p,c,w,cs,ws,h0,h1,h2,h3,h4,h5⟩:=h
 ⟨p,c,w,cs,ws,h0,e.tup h1,e _ _ h2,e _ _ h3,DatAll.mono e _ _ h4,DatAll.mono e _ _ h5⟩
theorem jE.dat {z:V} (h:jE K H m z):DatV K H (iO m) z:=by obtain⟨p,c,w,cs,ws,rfl,h1,h2,h3,h4,h5⟩:=h;exact dU h1 (cf (aG.of h2) h4) (cf (aG.of h3) h5)
theorem jW.mono {H H':Hp} {ms:List Mk} {y:V} (h:jW K H ms y) (e:Same H H'):jW K H' ms y :=
 let ⟨M,zs,h0,h1,h2,h3⟩:=h
 ⟨M,zs,h0,e.seq h1,h2,λk m z a b=>(h3 k m z a b).mono e⟩
theorem jW.dat {H:Hp} {ms:List Mk} {y:V} (h:jW K H ms y):DatV K H (.list (ms.map iO)) y:=by
 obtain⟨M,zs,rfl,h1,h2,h3⟩:=h;refine cf h1 (lC (by rw[JR,h2]) λk d x hd hx=>?_);have hk:k<ms.length:=by rw[<- h2]; exact(Jb.mp hx).1
 have hm:=JV hk;rw[Jc,hm] at hd;cases hd;exact(h3 k _ x hm hx).dat
theorem jS.mono {H H':Hp} {mss:List (List Mk)} {v:V} (h:jS K H mss v) (e:Same H H'):jS K H' mss v :=
 let ⟨L,ys,h0,h1,h2,h3⟩:=h
 ⟨L,ys,h0,e.seq h1,h2,λk m z a b=>(h3 k m z a b).mono e⟩
def kI (bs:List Bd) (ms:List Mk):Prop:=1<=ms.length/\ms.length<=3/\∀m∈ms,MFit (bz bs) (cJ bs) m
def CI (K:W.Frag):Sp:=λvs H Q _=>∃(c:Int) (b:Addr) (bs:List Bd) (v:V) (m0:Mk),vs=[.int c,.ref b,v]/\Blt K H b bs/\DatV K H (iO m0) v/\(m0=c9\/MFit (bz bs) (cJ bs) m0) /\
 ∀m v' H',Same H H'->jE K (nwL H H') m v'->MFit (bz bs) (cJ bs) m->Q v' H'
def GF (K:W.Frag):Sp:=λvs H Q _=>∃(a:Addr) (ns:List Int) (b:Addr) (bs:List Bd),vs=[.ref a,.ref b]/\aG K H a (ns.map V.int)/\ns.length<=63/\Blt K H b bs /\
 ∀(mss:List (List Mk)) v H',Same H H'->jS K H' mss v->mss.length=bs.length->(∀ms∈mss,kI bs ms)->Q v H'
def Hk (K:W.Frag):Sp:=λvs H Q _=>∃(b:Addr) (bs:List Bd) (v:V) (mss:List (List Mk)),vs=[.ref b,v]/\Blt K H b bs/\jS K H mss v/\mss.length=bs.length/\(∀ms∈mss,kI bs ms) /\
 ∀v' H',Same H H'->DatV K H' (.list ((tbl (fE bs) mss).map (iG (fE bs)))) v'->Q v' H'
def Cs (K:W.Frag):Sp:=λvs H Q _=>∃(n:Nat),vs=[.int n]/\n<8 ^ 16/\∀H',Same H H'->Q (.str (tx (nb n))) H'
def nN (K:W.Frag) (n:Nat):Sp:=λvs H Q _=>∃(tr:BTr) (v:V),vs=[v]/\cu tr<n/\DatV K H (dw tr) v/\tok tr/\lv tr<=16/\∀H',Same H H'->Q (.str (tx (rb tr))) H'
def CC (K:W.Frag):Sp:=λvs H Q _=>∃(o:Option BTr) (v:V),vs=[v]/\DatV K H (bI o) v/\cr o/\∀H',Same H H'->Q (.str (tx (Pk.ob o))) H'
structure WOk (cn:Nat->Nat) (m:Mk):Prop where
 l4:m.ch.length<=4
 ix:∀c∈m.ch,c.1<1000/\c.2<1000
 vl:m.vs.length=m.ch.length
 c24:∀v∈m.vs,v.length<=24
 ok:∀v∈m.vs,∀o∈v,cr o
 cn:nZ cn m
theorem jT {rl:List Nat} (hr:RlOk rl cn) (h:MFit rl cn m):WOk cn m:=by have k:=h.mok hr;have:=hr.n12;exact⟨by have:=k.l3; omega,λc hc=>by have:=k.ix c hc; omega,k.vl,k.c24,k.ok,h.cn⟩
theorem sS {cn:Nat->Nat} {m0 m:Mk} (h:WOk cn m):∀n,(eX m0 m n).length<=24 * n
 | 0=>JZ _
 | n+1=>by
   have:=sS (m0:=m0) h n;have hv:(du m n).length<=24:=by
     unfold du;rw[JU];cases e:m.vs[n]? with
     | none=>exact Jw _
     | some v=>exact h.c24 v (JW e)
   rw[zG,JS,vH];omega
theorem pC:∀ch:List (Nat×Nat),(ch.map fP).flatten.length=2 * ch.length
 | []=>rfl
 | c :: ch=>by rw[KG,KE,JS,pC ch,JY]; show 2+_=_; omega
theorem Du {m0:Mk}(h:WOk cn m):(gQ m0 m).length<=105:=by have:=sS (m0:=m0) h m.ch.length;have:=h.l4;unfold gQ;rw[JY,JS,pC];omega
theorem rP {cn:Nat->Nat} {ms:List Mk} (h:∀m∈ms,WOk cn m):∀n,n<=ms.length->(di ms n).length<=105 * n
 | 0,_=>JZ _
 | n+1,hn=>by
   have:=rP h n (by omega);have hm:ms.getD n c9∈ms:=by rw[JU,JV (by omega)]; exact Kd _
   have:=Du (m0:=cN ms n) (h _ hm);rw[vc,JS];omega
theorem mn (h:∀m∈ms,WOk cn m) (h3:ms.length<=3):(cW ms).length<=316:=by have:=rP h ms.length (JZ _);unfold cW;rw[JY];omega
theorem nS (h:∀m∈ms,WOk cn m) (h3:ms.length<=3):∀p∈cW ms,p.bt.length<=600:=λp hp=>by
 rcases xq hp with rfl|⟨m,hm,rfl|⟨c,hc,rfl|rfl⟩|⟨a,v,o,hv,ho,rfl⟩⟩
 . exact bV (by show _<1000; omega)
 . exact bV (by have:=(h m hm).l4; show _<1000; omega)
 . exact bV ((h m hm).ix c hc).1
 . exact bV ((h m hm).ix c hc).2
 . exact bV ((h m hm).ok v hv o ho)
def iV (K:W.Frag) (H:Hp) (w:Addr) (ps:List Pc):Prop:=∃xs,H w=some (.lst xs)/\xs.length=ps.length/\DatAll K H (ps.map i0) xs
theorem kY {w t':Addr} {ps:List Pc} {vm:V} {kd:Str} {l:List Nat} (p:Pc) (ew:H w=some (.lst xs)) (lx:xs.length=ps.length) (d:DatAll K H (ps.map i0) xs) (ht:H t'=none) (hk:p.kd=kd) (hb:p.bt=l) (hm:∀H',DatV K H' p.mo vm) :
   iV K (upd (upd H t' (.tup [.str kd,.str (tx l),vm])) w (.lst (xs++[.ref t']))) w (ps++[p]):=by
 subst hk hb;refine⟨_,aF,by rw[JS,JS,lx]; rfl,DatAll.putT (gr HU _) (Same.new ht _ _ ew) ?_⟩;rw[EA];exact gG (DatAll.mono (Same.new ht) _ _ d) (iF (aI.of aF) (cy (de _) (cy (de _) (cy (hm _) bo))))
def CY (K:W.Frag):Sp:=λvs H Q _=>∃(v:V) (ms:List Mk) (cn:Nat->Nat),vs=[v]/\DatV K H (.list (ms.map iO)) v/\ms.length<=3/\(∀m∈ms,WOk cn m) /\
 ∀l xs H',Same H H'->H l=none->H' l=some (.lst xs)->DatAll K H' ((cW ms).map i0) xs->Q (.ref l) H'
def vS (rl:List Nat):Pc->Prop
 | .count n=>1<=n/\n<=3
 | .depth n=>n<=3
 | .fn k=>k<rl.length
 | .row k j=>k<rl.length/\j<1000
 | .pl _ o=>dO o
theorem li {a p:Addr} {ps:List Pc} {σ:St} {Q:VK} (hS:aG K H a xs) (hx:DatAll K H (ps.map i0) xs) (hn:ps.length<=1000) (hp:H p=none) (hd:∀H2,Same H H2->H2 p=some (.lst (bf (ps.map Pc.bt)))->Q (.ref p) H2):jr (jj K a) (jY 0) uX (ir (ai K) (mq 0) (tC (V.int 1))) [none] σ Q p H:=by
 have lx:xs.length=ps.length:=by rw[cQ hx,JR]
 refine jk (xs:=xs) (by omega) (λi acc H2=>Same H H2/\H2 p=some (.lst acc)/\acc=bf ((ps.take i).map Pc.bt)) ⟨Same.new hp,aF,rfl⟩ ?_ ?_ ?_
 . rintro i acc H2 hi ⟨s2,e2,rfl⟩;exact⟨e2,by rw[mD,JR,Ju]; omega,s2.seq hS⟩
 . rintro i x acc H2 hx' ⟨s2,e2,rfl⟩;obtain⟨pc,hpc,dpc⟩:=jU hx hx';obtain⟨pT,zs,rfl,hT,dz⟩:=iY dpc;obtain⟨u,y,z,rfl,g1,g2,g3⟩:=mI dz;cases fk g2;refine⟨_,rfl,pT,_,_,_,rfl,rfl,s2.tup hT,rfl,e2,s2.upd hp,aF,?_⟩;rw[KH,hpc,Jf,<- uJ];rfl
 . rintro acc H2 ⟨s2,e2,rfl⟩;rw[lx,K2] at e2;exact hd H2 s2 e2
theorem uI (xs:List V) (k:Nat):gS xs none (some (k:Int))=xs.take k:=by
 unfold gS;have e1:HT.sIx xs.length 0 none=0:=rfl;have e2:HT.sIx xs.length xs.length (some (k:Int))=min ((k:Int)).toNat xs.length:=by show(if(k:Int)<0 then((k:Int)+(xs.length:Int)).toNat else min ((k:Int)).toNat xs.length)=_;rw[Ja (by omega)]
 rw[e1,e2,List.drop_zero,Nat.sub_zero,K6];by_cases h:k<=xs.length
 . rw[LG h]
 . rw[Lw (by omega),K2,Kh (by omega)]
theorem xS (xs:List V) (k:Nat):gS xs (some ((k:Int)+1)) none=xs.drop (k+1):=by have:=K14.cut_drop xs (k+1);rw[show((k+1:Nat):Int)=(k:Int)+1 by omega] at this;exact this
theorem iC (ps:List Pc):(ps.map Pc.bt).flatten=ce ps:=rfl
def lq (f:Nat×List Nat):PyData:=.tuple [.int f.1,.str (tx f.2)]
theorem Dx (f:Nat×List Nat):bQ (lq f)=true:=by unfold lq bQ bc bc bc; unfold bQ; rfl
theorem Er {fs:List (Nat×List Nat)} (h:∀f∈fs,ax f.2):ao 2 (.list (fs.map lq)):=ao.list (jH λf hf=>ao.tuple (n:=0) (pY (.int _) (.str (B6 (h f hf)))))
theorem GE {bs:List Bd} (hr:RlOk (bz bs) (cJ bs)) (h:kI bs ms):∀p∈cW ms,vS (bz bs) p:=λp hp=>by
 rcases xq hp with rfl|⟨m,hm,rfl|⟨c,hc,rfl|rfl⟩|⟨a,v,o,hv,ho,rfl⟩⟩
 . exact⟨h.1,h.2.1⟩
 . exact(h.2.2 m hm).l3
 . exact((h.2.2 m hm).ix c hc).1
 . have:=(h.2.2 m hm).ix c hc;have:=(hr.at this.1).2;exact⟨((h.2.2 m hm).ix c hc).1,by omega⟩
 . exact(h.2.2 m hm).ok v hv o ho
def Bq (K:W.Frag):Sp:=λvs H Q _=>∃(l l':List Nat) (fs:Bool),vs=[.str (tx l),.bl fs]/\4<=l.length/\l.length<=2000/\((fs=false/\l'=kf l (l.length - 4))\/(fs=true/\∃t,l=49 :: rb t/\l'=49 :: fK t)) /\
 ∀H',Same H H'->Q (.str (tx l')) H'
def GA (K:W.Frag):Sp:=λvs H Q _=>∃(v:V) (p:Pc) (st c:Int) (b:Addr) (bs:List Bd),vs=[v,.int st,.int c,.ref b]/\DatV K H (i0 p) v/\vS (bz bs) p/\Blt K H b bs /\
 (∀H',Same H H'->Q .non H')/\∀l H',Same H H'->fb (bz bs) p l->ax l->l.length<=3000->Q (.str (tx l)) H'
def pW:Str:=Str.ofString " !\"#$&'()*+,-./23456789:;<=>?@ABCDEFGHIJKLMNOPQRSTUVWXYZ[\\]^_`abcdefghijklmnopqrstuvwxyz{|}~"
theorem Gn:pW.cps.toList.length=92:=by decide +kernel
theorem Ii:∀c∈pW.cps.toList,¬ (c=48\/c=49):=by decide +kernel
theorem Fo {ds:List PyData} (h:DatAll K H ds xs) (k:Nat):DatAll K H (ds.take k) (xs.take k) :=
 lC (by rw[Ju,Ju,cQ h]) λj d x hd hx=>by
   rw[Ln] at hd hx;split at hd
   . rename_i hj
     rw[Je hj] at hx;obtain⟨d',h1,h2⟩:=nP h hx;rw[hd] at h1;cases h1;exact h2
   . cases hd
theorem Bm {ds:List PyData} (h:DatAll K H ds xs) (k:Nat):DatAll K H (ds.drop k) (xs.drop k) :=
 lC (by rw[KD,KD,cQ h]) λj d x hd hx=>by rw[List.getElem?_drop] at hd hx;obtain⟨d',h1,h2⟩:=nP h hx;rw[hd] at h1;cases h1;exact h2
def DN (K:W.Frag):Sp:=λvs H Q _=>∃(pa:Addr) (xs:List V) (ms:List Mk) (st c:Int) (b:Addr) (bs:List Bd),vs=[.ref pa,.int st,.int c,.ref b]/\aG K H pa xs/\DatAll K H ((cW ms).map i0) xs/\kI bs ms/\Blt K H b bs /\
 ∀l H',Same H H'->ck (bz bs) (cJ bs) l=none->l.length<=1000000->Q (.str (tx l)) H'
theorem nX {G:Hp} {d:PyData} {v:V} (h:DatV K G d v):∀k,DatAll K G (List.replicate k d) (List.replicate k [v]).flatten
 | 0=>bo
 | k+1=>by rw[KQ,KQ,KE]; exact cy h (nX h k)
theorem qZ {α:Type} (v:α):∀k,(List.replicate k [v]).flatten.length=k
 | 0=>rfl
 | k+1=>by rw[KQ,KE,JS,qZ v k]; show 1+k=_; omega
theorem tH {G:Hp}:∀{ds es:List PyData} {xs ys:List V},DatAll K G ds xs->DatAll K G es ys->DatAll K G (ds++es) (xs++ys)
 | [],es,xs,ys,h,h'=>by unfold DatAll at h;subst h;exact h'
 | d :: ds,es,xs,ys,h,h'=>by unfold DatAll at h;obtain⟨x,r,rfl,h1,h2⟩:=h;exact cy h1 (tH h2 h')
theorem CG (h:m.ch.length=4):∃r,aj (m :: ms)=nb (ms.length+1)++(nb 4++r):=by unfold aj eY;rw[JY,List.range_succ_eq_map,KG,KE];show ∃r,_=_++(nb 4++r);have e:(m :: ms).getD 0 c9=m:=rfl;rw[e];unfold mb;rw[h];exact⟨_,by rw[Jm (nb 4),Jm (nb 4)]⟩
def im (m:Mk) (k cnt:Nat):Mk:=⟨m.ch++List.replicate k (0,0),m.vs++List.replicate k (List.replicate cnt (some (.num 5)))⟩
theorem DG {rl:List Nat} {k:Nat} (hr:RlOk rl cn) (h:MFit rl cn m) (hk:m.ch.length+k=4):WOk cn (im m k (cn 0)):=by
 have w:=jT hr h;refine⟨?_,λc hc=>?_,?_,λv hv=>?_,λv hv o ho=>?_,λl c v hc hv=>?_⟩
 . show(m.ch++List.replicate k (0,0)).length<=4;rw[JS,KU];omega
 . rcases K1.mp hc with hc|hc
   . exact w.ix c hc
   . rw[(Ko.mp hc).2];exact⟨by decide,by decide⟩
 . show(m.vs++List.replicate k _).length=(m.ch++List.replicate k (0,0)).length;rw[JS,JS,KU,KU,h.vl]
 . rcases K1.mp hv with hv|hv
   . exact w.c24 v hv
   . rw[(Ko.mp hv).2,KU];exact hr.cn 0
 . rcases K1.mp hv with hv|hv
   . exact w.ok v hv o ho
   . rw[(Ko.mp hv).2] at ho;rw[(Ko.mp ho).2];exact⟨by show 5<8 ^ 16; rw[cD]; decide,by show 1<=8; decide⟩
 . have hc:(m.ch++List.replicate k (0,0))[l]?=some c:=hc;have hv:(m.vs++List.replicate k (List.replicate (cn 0) (some (.num 5))))[l]?=some v:=hv;by_cases hl:l<m.ch.length
   . rw[KN hl] at hc;rw[KN (by rw[h.vl]; exact hl)] at hv;exact h.cn l c v hc hv
   . rw[K9 (by omega)] at hc;rw[K9 (by rw[h.vl]; omega)] at hv;rw[(Ko.mp (JW hc)).2,(Ko.mp (JW hv)).2,KU]
theorem xg (a b:List (List Nat)):bf (a++b)=bf a++bf b:=by unfold bf; rw[Jf,Jf]
theorem uw (a:List (List Nat)) (k:Nat):(bf a).take k=bf (a.take k):=by unfold bf; rw[Mp,Mp]
theorem yr (a:List (List Nat)) (k:Nat):(bf a).drop k=bf (a.drop k):=by unfold bf; rw[Mq,Mq]
theorem xn (a:List (List Nat)) (k:Nat) (l:List Nat):(bf a).set k (V.str (tx l))=bf (a.set k l):=by unfold bf; rw[List.map_set,List.map_set]
def Es (K:W.Frag):Sp:=λvs H Q _=>∃(ra:Addr) (v:V) (mss:List (List Mk)) (sp:Nat) (st c:Int) (b:Addr) (bs:List Bd),vs=[.ref ra,v,.int sp,.int st,.int c,.ref b]/\aG K H ra (bf (mss.map aj))/\jS K H mss v/\mss.length=bs.length/\(∀ms∈mss,kI bs ms)/\sp<mss.length/\Blt K H b bs /\
 ∀l ls H',Same H H'->H' l=some (.lst (bf ls))->gO (bs.map (·.f)) ls=none->(∀x∈ls,x.length<=1000000)->Q (.ref l) H'
def Ca (K:W.Frag) (t:Adr):Sp:=λvs H Q _=>∃(p rl:Addr) (fns:List F2.Fd) (ls:List (List Nat)),vs=[.ref p,.ref rl]/\aG K H p (fns.map λf=>V.ref f.fa)/\(∀f∈fns,F2.FnAt K H f)/\(fns.map (·.name)).Nodup/\RlOk (ay fns) (cK fns)/\aG K H rl (bf ls)/\(∀l∈ls,l.length<=1000000)/\gO fns ls=none/\∀H',Same H H'->Q (.bl true) H'
def sp_law (K:W.Frag):Sp:=λvs H Q _=>∃(a:Addr) (ns:List Int),vs=[.ref a]/\aG K H a (ns.map V.int)/\ns.length<=63/\∀H',Q (.bl true) H'
def Iv (K:W.Frag):List V->Hp->VK->Prop:=λxs H Q=>∃x c t b,xs=[x,.ty c]/\TyOf K H x t/\W.kitOne K t (.type c)=some b/\Q (.bl b) H
def Fa (K:W.Frag):List V->Hp->VK->Prop:=λxs H Q=>∃p ys,xs=[.ref p]/\(aG K H p ys\/aI K H p ys)/\∀l,H l=none->Q (.ref l) (upd H l (.lst ys))
end
end K86
namespace K86
open PySem L2 K12
section
variable {P:Program} {w:World} {K:W.Frag} {mg:Str->Option Value} {base:Heap} {t:Adr}
theorem BS:FnScope ["names"] ["names"] (af oM):=by walk_at "s"
theorem we (T:Txt K mg t):FnOk P w K mg base CX0 1 t.zh t.AO ["names"] (K12.sp_each_once K):=by
 refine T.each_once.F.ok BS (λvs H Q E h=>?_) (λcdv A outer s H vs Q E hr h=>?_)
 . obtain⟨p0,ss,rfl,hS,hl,q⟩:=h;rfl
 . obtain⟨p0,ss,rfl,hS,hl,q⟩:=h;refine⟨_,(aH (@aZ _ _ _ _ (ez (z9 rfl) (by rfl) T.b_list j5 (aC (ez (Ck rfl) (by rfl) T.b_dict Hf (aC (gV (N':=["name"]) (js:=[none]) (by kernel_rfl) rfl (g8 (aB 0)) dn (λ_ _ _ _=>(ag (i:=0) (show(["name"]:List Str).Nodup by decide +kernel) rfl (Or.inl rfl) (.inr rfl))) (λ_ _ _ _=>dX) (λ_ _ _ _=>(bB (aC (aB 0) (aC mz aD rfl) rfl)))) aD rfl)) aD rfl))) au),?_⟩;refine⟨_,rfl,p0,rfl,⟨_,hS⟩,λp hp=>jk (xs:=ss.map V.str) (by rw[JR]; omega) (λi acc H2=>i<=ss.length/\Same H H2/\H2 p=some (.lst acc)/\∃ps:List Addr,acc=ps.map V.ref/\Paired (λa (kv:aM×V)=>aI K H2 a [kV kv.1,kv.2]) ps (dE (ss.take i))) ⟨Jw _,Same.new hp,aF,[],rfl,.nil⟩ ?_ ?_ ?_⟩
   . rintro i acc H2 hi ⟨hi',s2,h2,ps,rfl,hps⟩;refine⟨h2,?_,s2.seq hS⟩;have:=Paired.length hps;rw[JR,this];unfold dE;rw[JR,Ju];omega
   . rintro i x acc H2 hx ⟨hi',s2,h2,ps,rfl,hps⟩;have hi:i<ss.length:=by have:=(Jb.mp hx).1;rw[JR] at this;exact this
     rw[Jc] at hx;have hx:V.str ss[i]=x:=by simpa [hi] using hx
     subst hx;refine⟨_,rfl,(by show 2<=sizeLine; decide),λa ha=>?_⟩;have hap:a≠p:=λz=>by rw[z,h2] at ha; cases ha
     have e:(upd H2 a (.tup [V.str ss[i],V.bl true])) p=some (.lst (ps.map V.ref)):=by rw[aQ hap.symm]; exact h2
     refine⟨e,hi,?_,aF,ps++[a],by rw[Jf]; rfl,?_⟩
     . exact(s2.trans (Same.new ha)).upd hp
     . have e2:dE (ss.take (i+1))=dE (ss.take i)++[(Sum.inr ss[i],V.bl true)]:=by unfold dE;rw[KH,Jf];simp [hi]
       rw[e2];refine Paired.snoc (Paired.mapP hps λb kv z=>DY ((Same.new ha).tup z) e) ?_;exact aI.of (by rw[aQ hap]; exact aF)
   . rintro acc H2 ⟨hi',s2,h2,ps,rfl,hps⟩;have e0:ss.take (ss.map V.str).length=ss:=by rw[JR]; exact K2
     rw[e0] at hps;refine⟨p,ps,dE ss,rfl,aG.of h2,hps,by unfold dE; rw[JR]; omega,λd hd=>?_⟩;rw[D4];refine⟨d,dE (onceL ss),rfl,aF,λl hl'=>?_⟩;rw[FP];exact q l _ ((s2.trans (Same.new hd)).trans (Same.new hl')) (s2.free ((Same.new hd).free hl')) aF
theorem BH:FnScope ["row"] ["row"] (af px):=by walk_at "s"
theorem Br (T:Txt K mg t):FnOk P w K mg base CX0 1 t.zj t.AR ["row"] (K12.sp_gives K):=by
 refine T.gives.F.ok BH (λvs H Q E h=>?_) (λcdv A outer s H vs Q E hr h=>?_)
 . obtain⟨r,xs,g,as,rfl,hr,hrow,q⟩:=h;rfl
 . obtain⟨r,xs,g,as,rfl,hr,hrow,q⟩:=h;refine⟨_,(aH (@aZ _ _ _ _ (@xY _ _ _ _ _ _ _ _ (ac jx (aL (show aN _ (ai K) from ak) (aB 0) aE (λ_ _=>rfl)) (j9 T.JH) (by with_unfolding_all rfl)) (aL (show aN _ (ai K) from ak) (aB 0) aE (λ_ _=>rfl)) j3)) au),?_⟩;obtain⟨kd,h0,hc⟩:=Dw hrow;refine⟨_,rfl,r,xs,_,_,rfl,rfl,hr,h0,t.uB,giving.map V.str,rfl,.inr (T.JO H),rfl,BC,_,rfl,?_⟩;rcases hc with⟨x,rfl,e,h1⟩|⟨rfl,e⟩
   . exact bF e ⟨_,rfl,r,xs,_,_,rfl,rfl,hr,h1,q⟩
   . exact bC (Fp e) q
theorem FO:FnScope ["row"] ["row"] (af oQ):=by walk_at "s"
theorem Ie (T:Txt K mg t):FnOk P w K mg base CX0 1 t.zf t.AM ["row"] (K12.sp_atoms_of K):=by
 refine T.atoms_of.F.ok FO (λvs H Q E h=>?_) (λcdv A outer s H vs Q E hr h=>?_)
 . obtain⟨r,xs,g,as,rfl,hr,hrow,hl,q⟩:=h;rfl
 . obtain⟨r,xs,g,as,rfl,hr,hrow,hl,q⟩:=h;refine⟨_,(aH (ae (ac az (aL (show aN _ (ai K) from ak) (aB 0) aE (λ_ _=>rfl)) aP (aW _)) (@aJ _ _ _ (@aZ _ _ _ _ (ez kG (by rfl) T.b_list j5 (aC (aL (show aN _ (ai K) from ak) (aB 0) aE (λ_ _=>rfl)) aD rfl)))) au) (@aJ _ _ _ (@aZ _ _ _ _ (gV (N':=["place","row"]) (js:=[none,some 0]) (by kernel_rfl) rfl (xD (aL FC (j9 T.JG) (aL (show aN _ (ai K) from ak) (aB 0) aE (λ_ _=>rfl)) (λ_ _=>rfl))) dn (λ_ _ _ _=>(ag (i:=0) (show(["place","row"]:List Str).Nodup by decide +kernel) rfl (Or.inl rfl) (.inr rfl))) (λ_ _ _ _=>dX) (λ_ _ _ _=>(aL (show aN _ (ai K) from ak) (aB 1) (aB 0) (λ_ _=>rfl))))))),?_⟩;obtain⟨kd,h0,hc⟩:=C1 hrow;refine⟨_,rfl,r,xs,_,_,rfl,rfl,hr,h0,rfl,_,rfl,?_⟩;rcases hc with⟨rfl,p,h3,hp⟩|⟨hne,pl,hk,hpl,hat⟩
   . exact bF (K3 rfl) ⟨_,rfl,r,xs,_,_,rfl,rfl,hr,h3,p,as,rfl,.inr hp,λl hl=>q l _ (Same.new hl) hl aF⟩
   . refine bC (λh=>hne (V.str.inj (dG h))) ?_;refine⟨_,rfl,r,xs,_,_,rfl,rfl,hr,h0,t.uC,tabl,_,_,rfl,rfl,T.JP,hk,λa ha=>?_⟩;refine⟨a,rfl,⟨_,ha⟩,λp hp=>E1 (xs:=pl.map V.int) (by rw[JR]; omega) (λi acc H2=>acc=as.take i/\H2=upd H p (.lst acc)) ⟨rfl,rfl⟩ ?_ ?_ ?_⟩
     . rintro i acc H2 hi ⟨rfl,rfl⟩;exact⟨aF,by rw[Ju]; omega,(Same.new hp).tup ha⟩
     . rintro i x acc H2 hx ⟨rfl,rfl⟩;have hi:i<as.length:=by have:=(Jb.mp hx).1;rw[JR] at this;omega
       obtain⟨p1,hp1,hp2⟩:=hat i as[i] (by simp [hi]);rw[Jc,hp1] at hx;have hx:V.int p1=x:=by simpa using hx
       subst hx;refine⟨_,rfl,_,rfl,r,xs,_,_,rfl,rfl,(Same.new hp).tup hr,hp2,aF,?_,rO⟩;rw[KH];simp [hi]
     . rintro acc H2 ⟨rfl,rfl⟩;have e:(as.take (pl.map V.int).length)=as:=by rw[JR,hpl]; exact K2
       exact q p _ (Same.new hp) hp (by rw[aF,e])
theorem GS:FnScope ["row"] ["row"] (af na):=by walk_at "s"
theorem BG (T:Txt K mg t):FnOk P w K mg base CX0 2 t.A7 t.Ak ["row"] (K12.sp_reads K):=by
 have G_each_once:=we (P:=P) (w:=w) (base:=base) T;have G_atoms_of:=Ie (P:=P) (w:=w) (base:=base) T;refine T.reads.F.ok GS (λvs H Q E h=>?_) (λcdv A outer s H vs Q E hr h=>?_)
 . obtain⟨r,xs,g,as,rfl,hrw,hrow,hl,hat,q⟩:=h;rfl
 . obtain⟨r,xs,g,as,rfl,hrw,hrow,hl,hat,q⟩:=h;refine⟨_,(aH (@aZ _ _ _ _ (aU T.each_once G_each_once (hr.mono (by decide)) (aC (gV (N':=["atom"]) (js:=[none]) (by kernel_rfl) rfl (g8 (aU T.atoms_of G_atoms_of (hr.mono (by decide)) (aC (aB 0) aD rfl))) dn (λ_ _ _ _=>(ag (i:=0) (show(["atom"]:List Str).Nodup by decide +kernel) rfl (Or.inl rfl) (.inr rfl))) (λ_ _ _ _=>(B9 (ij (bU (show aw _ (.builtin "isinstance") (Iv K) from BZ) (by rfl) T.b_isinstance p8 (aC (aB 0) (aC (vD (v:=V.ty "str") rfl T.b_str Hm rfl) aD rfl) rfl))))) (λ_ _ _ _=>(aB 0))) aD rfl))) au),?_⟩;refine⟨_,rfl,r,xs,g,as,rfl,hrw,hrow,hl,λl0 H1 s1 n1 e1=>?_⟩;refine⟨l0,rfl,⟨_,aG.of e1⟩,λp hp=>jk (xs:=as) (by omega) (λi acc H2=>acc=(fU (as.take i)).map V.str/\H2=upd H1 p (.lst acc)) ⟨rfl,rfl⟩ ?_ ?_ ?_⟩
   . rintro i acc H2 hi ⟨rfl,rfl⟩;refine⟨aF,?_,(Same.new hp).seq (aG.of e1)⟩;have:=sW (as.take i);rw[JR];rw[Ju] at this;omega
   . rintro i x acc H2 hx ⟨rfl,rfl⟩;have hi:i<as.length:=(Jb.mp hx).1;have e2:fU (as.take (i+1))=fU (as.take i)++fU [x]:=by rw[KH,hx,Cw];rfl
     rcases hat x (JW hx) with⟨s,rfl,hn⟩|⟨z,rfl⟩
     . refine⟨_,rfl,_,_,_,true,rfl,.str _,rfl,_,rfl,?_⟩;refine⟨_,rfl,aF,?_,rO⟩;rw[e2,Jf];rfl
     . refine⟨_,rfl,_,_,_,false,rfl,.int _,rfl,_,rfl,?_⟩;refine⟨?_,?_⟩
       . rw[e2,BA,Jv]
       . rfl
   . rintro acc H2 ⟨rfl,rfl⟩;rw[K2];have hle:=sW as;exact⟨p,fU as,rfl,aG.of aF,by omega,λl H3 s3 n3 e3=>q l H3 ((s1.trans (Same.new hp)).trans s3) (s1.free ((Same.new hp).free n3)) e3⟩
theorem pi:FnScope ["function","found","row","given"] ["function"] (af pK):=by walk_at "s"
theorem Bx (T:Txt K mg t):FnOk P w K mg base CX0 3 t.A6 t.Aj ["function"] (K12.sp_names_of K):=by
 have G_each_once:=we (P:=P) (w:=w) (base:=base) T;have G_gives:=Br (P:=P) (w:=w) (base:=base) T;have G_reads:=BG (P:=P) (w:=w) (base:=base) T;refine T.names_of.F.ok pi (λvs H Q E h=>?_) (λcdv A outer s H vs Q E hr h=>?_)
 . obtain⟨f,ps,ds,rfl,hf,q⟩:=h;rfl
 . obtain⟨f,ps,ds,rfl,hf,q⟩:=h;refine⟨_,(aH (@aR _ _ 1 _ _ _ _ pi.nd rfl (Or.inl rfl) (ez kG (by rfl) T.b_list j5 (aC (aL (show aN _ (ai K) from ak) (aB 0) aE (λ_ _=>rfl)) aD rfl)) (by rfl) (by walk_at "f")) (aH (dI PassesOwn.never rfl (xD (aL (show aN _ (ai K) from ak) (aB 0) aE (λ_ _=>rfl))) (ag (i:=2) pi.nd rfl (Or.inl rfl)) (aH (@aR _ _ 3 _ _ _ _ pi.nd rfl (Or.inl rfl) (aU T.gives G_gives (hr.mono (by decide)) (aC (aB 2) aD rfl)) (by rfl) (by walk_at "f")) (aH (ae (oV (wr (aB 3))) (@aJ _ _ _ (@cj _ _ _ _ (cH Jk Jp Jq dY (aB 1) (aC (aB 3) aD rfl)) (by rfl))) au) (@aJ _ _ _ (@cj _ _ _ _ (cH Jk PySem.F.slot_list_extend PySem.F.type_list_extend FX (aB 1) (aC (aU T.reads G_reads (hr.mono (by decide)) (aC (aB 2) aD rfl)) aD rfl)) (by rfl)))))) (@aJ _ _ _ (@aZ _ _ _ _ (aU T.each_once G_each_once (hr.mono (by decide)) (aC (aB 1) aD rfl)))))),?_⟩;obtain⟨n,b,pp,rr,hF,hP,hR⟩:=hf.fn;refine⟨_,rfl,f,_,_,_,rfl,rfl,hF,rfl,pp,_,rfl,.inr hP,λl hl=>?_⟩;refine⟨_,rfl,f,_,_,_,rfl,rfl,(Same.new hl).tup hF,rfl,?_⟩;refine⟨rr,rfl,⟨_,(Same.new hl).tup hR⟩,BU (xs:=ds.map λd=>V.ref d.r) (λi σ H2=>Same H H2/\∃v1 v2 fs,σ=[some (.ref f),some (.ref l),v1,v2]/\H2 l=some (.lst (List.map V.str fs))/\onceL fs=onceL (ps++(ds.take i).flatMap rowStrs)/\fs.length<=100+11 * i) ⟨Same.new hl,_,_,ps,rfl,aF,by simp,by have:=hf.pl; omega⟩ ?_ ?_ ?_⟩
   . rintro i σ H2 hi ⟨s2,_⟩;exact s2.tup hR
   . rintro i x σ H2 hx ⟨s2,v1,v2,fs,rfl,h2,ho,hlen⟩;have hi:i<ds.length:=by have:=(Jb.mp hx).1;rw[JR] at this;exact this
     rw[Jc] at hx;have hx:V.ref ds[i].r=x:=by simpa [hi] using hx
     subst hx;have hd:=hf.rows ds[i] (Kd hi);have hds:=hf.dl;have ef:(ds.take (i+1)).flatMap rowStrs=(ds.take i).flatMap rowStrs++rowStrs ds[i]:=by rw[KH,Ld];simp [hi]
     have hol:=IS (fU ds[i].as);have hsl:=sW ds[i].as;have hal:=hd.len;obtain⟨xs,hr1,hr2⟩:=(hd.mono s2).row;refine⟨_,rfl,ds[i].r,xs,_,_,rfl,hr1,hr2,?_⟩;refine⟨_,rfl,_,rfl,?_⟩;cases hg:ds[i].gx with
     | none =>
       refine je ⟨_,rfl,.inl ⟨rfl,_,aG.of h2⟩,_,rfl,ds[i].r,xs,_,_,rfl,hr1,hr2,hd.len,hd.ats,λl4 H4 s4 n4 e4=>?_⟩;refine⟨l,l4,_,_,rfl,rfl,s4 _ _ h2,e4,bT (by rw[JR,JR]; omega),?_⟩;refine⟨(s2.trans s4).upd hl,_,_,fs++[]++onceL (fU ds[i].as),rfl,(by rw[aF,Jv,Jf]),?_,(by simp only[JS,L7]; omega)⟩;rw[ut ho,ef,Jm];unfold rowStrs;rw[hg];rfl
     | some x =>
       refine DH ⟨_,rfl,.inl ⟨rfl,_,aG.of h2⟩,_,rfl,l,_,_,rfl,rfl,h2,gu (by rw[JR]; omega),?_⟩;have s3:Same H (upd H2 l (.lst (List.map V.str fs++[V.str x]))):=s2.upd hl;obtain⟨xs',hr1',hr2'⟩:=(hd.mono s3).row;refine⟨_,rfl,.inl ⟨rfl,_,aG.of aF⟩,_,rfl,ds[i].r,xs',_,_,rfl,hr1',hr2',hd.len,hd.ats,λl4 H4 s4 n4 e4=>?_⟩;refine⟨l,l4,_,_,rfl,rfl,s4 _ _ aF,e4,bT (by simp only[JS,JR,JY,L7]; omega),?_⟩;refine⟨(s3.trans s4).upd hl,_,_,fs++[x]++onceL (fU ds[i].as),rfl,(by rw[aF,Jf,Jf]; rfl),?_,(by simp only[JS,JY,L7]; omega)⟩;rw[ut ho,ef,Jm];unfold rowStrs;rw[hg];rfl
   . rintro σ H2 ⟨s2,v1,v2,fs,rfl,h2,ho,hlen⟩;rw[JR,K2] at ho;rw[JR] at hlen;have hds:=hf.dl;refine⟨_,rfl,l,fs,rfl,aG.of h2,by omega,λl3 H3 s3 n3 e3=>q l3 H3 (s2.trans s3) (s2.free n3) ?_⟩;rw[e3,ho];rfl
end
end K86
namespace K86
open PySem L2 K13
section
variable {P:Program} {w:World} {K:W.Frag} {mg:Str->Option Value} {base:Heap} {t:Adr}
theorem mC:FnScope ["rows","opened","begins","k","row"] ["rows"] (af pN):=by walk_at "s"
theorem Cr (T:Txt K mg t):FnOk P w K mg base CX0 1 t.zg t.AN ["rows"] (K13.sp_begins_of K):=by
 refine T.begins_of.F.ok mC (λvs H Q E h=>?_) (λcdv A outer s H vs Q E hr h=>?_)
 . obtain⟨a,ks,rfl,hR,w,hn,q⟩:=h;rfl
 . obtain⟨a,ks,rfl,hR,w,hn,q⟩:=h;refine⟨_,(aH (@aR _ _ 1 _ _ _ _ mC.nd rfl (Or.inl rfl) (bX aD) (by rfl) (by walk_at "f")) (aH (@aR _ _ 2 _ _ _ _ mC.nd rfl (Or.inl rfl) ig (by rfl) (by walk_at "f")) (aH (dI PassesOwn.never rfl (tJ rfl T.b_enumerate (aC (aB 0) aD rfl)) (fL rfl (cC (ag (i:=3) mC.nd rfl (Or.inl rfl)) (cC (ag (i:=4) mC.nd rfl (Or.inl rfl)) fH))) (@aJ _ _ _ (ae (ac jx (aL (show aN _ (ai K) from ak) (aB 4) aE (λ_ _=>rfl)) (bB (aC aP (aC aP aD rfl) rfl)) (by with_unfolding_all rfl)) (@aJ _ _ _ (@cj _ _ _ _ (cH Jk Jp Jq dY (aB 1) (aC (aB 3) aD rfl)) (by rfl))) (@aJ _ _ _ (ae (ac az (aL (show aN _ (ai K) from ak) (aB 4) aE (λ_ _=>rfl)) aP (aW _)) (@aJ _ _ _ (iZ (eG hr.units) (aB 2) (aB 3) (aL (show aN _ (b6 K) from bE) (aB 1) (kC lO aE) (λ_ _=>rfl)) (by rfl))) (@aJ _ _ _ (ae (ac az (aL (show aN _ (ai K) from ak) (aB 4) aE (λ_ _=>rfl)) aP (aW _)) (@aJ _ _ _ (iZ (eG hr.units) (aB 2) (aB 3) (BV Jk PySem.F.slot_list_pop PySem.F.type_list_pop BF (aB 1)) (by rfl))) au))))))) (@aJ _ _ _ (@aZ _ _ _ _ (aB 2)))))),?_⟩;refine⟨ci,λol hol=>λd hd=>?_⟩;obtain⟨rs,e1,e2,e3⟩:=hR.ex;have hdo:d≠ol:=λz=>by rw[z,aF] at hd; cases hd
   have s0:Same H (upd (upd H ol (.lst [])) d (.dK [])):=(Same.new hol).trans (Same.new hd);have hd0:H d=none:=(Same.new hol).free hd;refine⟨_,rfl,a,rfl,⟨_,s0.tup e1⟩,rG (xs:=rs.map V.ref) (λi σ H2=>i<=ks.length/\Same H H2/\∃v3 v4,σ=[some (.ref a),some (.ref ol),some (.ref d),v3,v4]/\H2 ol=some (.lst (gE ks i))/\H2 d=some (.dK (bg ks i))) ⟨Jw _,s0,_,_,rfl,by rw[aQ hdo.symm]; exact aF,aF⟩ ?_ ?_ ?_⟩
   . rintro i σ H2 hi ⟨_,s2,_⟩;exact s2.tup e1
   . rintro i x σ H2 b hx ⟨hi',s2,v3,v4,rfl,ho,hg⟩ hb;have hi:i<rs.length:=by have:=(Jb.mp hx).1;rw[JR] at this;exact this
     rw[Jc] at hx;have hx:V.ref rs[i]=x:=by simpa [hi] using hx
     subst hx;obtain⟨rest,hrow⟩:=e3 i rs[i] (by simp [hi]);have s3:Same H (upd H2 b (.tup [.int i,.ref rs[i]])):=s2.trans (Same.new hb);have ho3:=Same.new (o:=.tup [.int i,.ref rs[i]]) hb _ _ ho;have hg3:=Same.new (o:=.tup [.int i,.ref rs[i]]) hb _ _ hg;have sl:=Dt ks i;have bl:=tX ks i;refine⟨b,_,rfl,aI.of aF,rfl,_,_,rfl,_,_,rfl,rfl,?_⟩;refine⟨_,rfl,rs[i],_,_,_,rfl,rfl,s3.tup hrow,bP,cB,λtw htw=>⟨tw,[V.str "if",V.str "while"],rfl,.inr (aI.of aF),rfl,rfl,_,rfl,?_⟩⟩;have s4:=s3.trans (Same.new (o:=.tup [V.str "if",V.str "while"]) htw);have ho4:=Same.new (o:=.tup [V.str "if",V.str "while"]) htw _ _ ho3;have hg4:=Same.new (o:=.tup [V.str "if",V.str "while"]) htw _ _ hg3;by_cases hO:isO (kd ks i)=true
     . refine bF ((inO _).trans hO) ?_;refine⟨_,rfl,.inl ⟨rfl,_,aG.of ho4⟩,_,rfl,ol,_,_,rfl,rfl,ho4,gu (by omega),?_⟩;refine⟨by omega,s4.upd hol,_,_,rfl,?_,?_⟩
       . rw[aF];have:stk ks (i+1)=i :: stk ks i:=by rw[fW]; unfold push; rw[Je hO]
         unfold gE;rw[this,List.reverse_cons,Jf];rfl
       . rw[aQ hdo,vY (xi hO)];exact hg4
     refine bC (λz=>hO ((inO _).symm.trans z)) ?_;refine⟨_,rfl,rs[i],_,_,_,rfl,rfl,s4.tup hrow,bP,rfl,_,rfl,?_⟩;by_cases h1:kd ks i="else"
     . refine bF (K3 (Jt V.str h1)) ?_;have hE:isE (kd ks i)=true:=by rw[h1]; decide +kernel
       obtain⟨t,r,ht⟩:∃t r,stk ks i=t :: r:=by
         cases z:stk ks i with
         | nil=>exact absurd z (w.open_ i (by omega) hE)
         | cons t r=>exact⟨t,r,rfl⟩
       obtain⟨q1,q2,q3⟩:=vk ht;refine⟨_,rfl,_,rfl,ol,_,_,_,rfl,rfl,aG.of ho4,q1,_,rfl,_,rfl,d,_,rfl,gF.k (k:=Sum.inl (i:Int)) hg4 (gu (by omega)),?_⟩;refine⟨by omega,s4.upd hd0,_,_,rfl,?_,?_⟩
       . rw[aQ hdo.symm];have:stk ks (i+1)=stk ks i:=by rw[fW]; unfold push; rw[Ja hO,Ja (by rw[h1]; exact sY)]
         unfold gE;rw[this];exact ho4
       . rw[aF,ny ⟨hE,by rw[ht]; rfl⟩]
     refine bC (λz=>h1 (V.str.inj (dG z))) ?_;refine⟨_,rfl,rs[i],_,_,_,rfl,rfl,s4.tup hrow,bP,rfl,_,rfl,?_⟩;by_cases h2:kd ks i="end"
     . refine bF (K3 (Jt V.str h2)) ?_;have hE:isE (kd ks i)=true:=by rw[h2]; decide +kernel
       obtain⟨t,r,ht⟩:∃t r,stk ks i=t :: r:=by
         cases z:stk ks i with
         | nil=>exact absurd z (w.open_ i (by omega) hE)
         | cons t r=>exact⟨t,r,rfl⟩
       obtain⟨q1,q2,q3⟩:=vk ht;refine⟨_,rfl,.inl ⟨rfl,_,aG.of ho4⟩,ol,_,_,rfl,rfl,ho4,q2,_,rfl,_,rfl,d,_,rfl,gF.k (k:=Sum.inl (i:Int)) (by rw[aQ hdo]; exact hg4) (gu (by omega)),?_⟩;refine⟨by omega,(s4.upd hol).upd hd0,_,_,rfl,?_,?_⟩
       . rw[aQ hdo.symm,aF,q3];have:stk ks (i+1)=r:=by rw[fW]; unfold push; rw[Ja hO,Je h2,ht]; rfl
         unfold gE;rw[this]
       . rw[aF,ny ⟨hE,by rw[ht]; rfl⟩]
     refine bC (λz=>h2 (V.str.inj (dG z))) ?_;refine⟨by omega,s4,_,_,rfl,?_,?_⟩
     . have:stk ks (i+1)=stk ks i:=by rw[fW]; unfold push; rw[Ja hO,Ja h2]
       unfold gE;rw[this];exact ho4
     . rw[vY (CJ h1 h2)];exact hg4
   . rintro σ H2 ⟨_,s2,v3,v4,rfl,ho,hg⟩;rw[JR,e2] at hg;exact⟨_,rfl,q d H2 s2 hd0 hg⟩
theorem jB:FnScope ["rows","begins","ends","k","begin","behind","follower","kind"] ["rows","begins"] (af kj):=by walk_at "s"
theorem FM (T:Txt K mg t):FnOk P w K mg base CX0 1 t.zi t.AQ ["rows","begins"] (K13.sp_firsts_behind K):=by
 refine T.firsts_behind.F.ok jB (λvs H Q E h=>?_) (λcdv A outer s H vs Q E hr h=>?_)
 . obtain⟨a,d,ks,rfl,hR,w,hn,hd,q⟩:=h;rfl
 . skip
   refine lx ?_;intro XX;refine(let W3:TS:=_; have hW3:bD XX ((bN kj).drop 3) W3:=(aH (dI PassesOwn.never rfl (F' rfl T.b_range (aC (@aK _ _ _ _ _ _ _ _ gn (bU tS (by rfl) T.b_len bV (aC (pv 0) aD rfl)) aE) (aC (kC lO aE) (aC (kC lO aE) aD rfl) rfl) rfl)) (ag (i:=3) jB.nd rfl (Or.inl rfl)) (aH (@aR _ _ 6 _ _ _ _ jB.nd rfl (Or.inl rfl) (@aK _ _ _ _ _ _ _ _ bL (pv 3) aE) (by rfl) (by walk_at "f")) (aH (@aR _ _ 7 _ _ _ _ jB.nd rfl (Or.inl rfl) (aL jO (aL jO (pv 0) (pv 6) (λ_ _=>rfl)) aE (λ_ _=>rfl)) (by rfl) (by walk_at "f")) (@aJ _ _ _ (ae (kx az (pv 7) aP (aW _)) (@aJ _ _ _ (gX (aL kM (pv 5) (jM (eG hr.units) (pv 2) (jM (eG hr.units) (pv 1) (pv 6) (λ_ _=>rfl)) (λ_ _=>rfl)) (λ_ _=>rfl)) (j1 (pv 5) (pv 3) jF))) (@aJ _ _ _ (ae (@PW.pt _ _ _ (fi (kx az (pv 7) aP (aW _)) (gI (kx az (aL jO (aL jO (pv 0) (jM (eG hr.units) (pv 1) (pv 6) (λ_ _=>rfl)) (λ_ _=>rfl)) aE (λ_ _=>rfl)) aP (aW _))))) (@aJ _ _ _ (gX (jM (eG hr.units) (pv 1) (pv 6) (λ_ _=>rfl)) (j1 (pv 5) (pv 3) jF))) (@aJ _ _ _ (ae (kx az (pv 7) aP (aW _)) (@aJ _ _ _ (gX (aL kM (pv 5) (pv 6) (λ_ _=>rfl)) (j1 (pv 5) (pv 3) jF))) (@aJ _ _ _ (gX (pv 6) (j1 (pv 5) (pv 3) jF)))))))))))) (@aJ _ _ _ (@aZ _ _ _ _ (pv 5)))); ?_);refine(let W2:TS:=_; have hW2:bD XX ((bN kj).drop 2) W2:=(aH (@aR _ _ 5 _ _ _ _ jB.nd rfl (Or.inl rfl) (@aK _ _ _ _ _ _ _ _ ml (bX (aC j3 aD rfl)) (bU tS (by rfl) T.b_len bV (aC (pv 0) aD rfl))) (by rfl) (by walk_at "f")) hW3); ?_);obtain⟨a,d,ks,rfl,hR,w,hn,hd,q⟩:=h;refine⟨_,(aH (@aR _ _ 2 _ _ _ _ jB.nd rfl (Or.inl rfl) ig (by rfl) (by walk_at "f")) (aH (dI PassesOwn.never rfl (yx (pv 1)) (fL rfl (cC (ag (i:=3) jB.nd rfl (Or.inl rfl)) (cC (ag (i:=4) jB.nd rfl (Or.inl rfl)) fH))) (@aJ _ _ _ (iZ (eG hr.units) (pv 2) (pv 4) (pv 3) (by rfl)))) hW2)),?_⟩;refine λed hed=>?_;have hde:d≠ed:=λz=>by rw[<- z,hd] at hed; cases hed
   refine⟨_,rfl,d,bg ks ks.length,rfl,.inl ⟨Same.new hed _ _ hd,λo=>?_⟩⟩;have sF:Same (upd H d (.frz o (.dK (bg ks ks.length)))) (upd (upd H ed (.dK [])) d (.frz o (.dK (bg ks ks.length)))):=λb u h=>by
     by_cases hb:b=d
     . subst hb;rw[aF] at h ⊢;exact h
     . rw[aQ hb] at h ⊢;rw[aQ (λz=>by rw[z,hed] at h; cases h)];exact h
   have hF:(upd H d (.frz o (.dK (bg ks ks.length)))) d=some (.frz o (.dK (bg ks ks.length))):=aF;have hedF:(upd H d (.frz o (.dK (bg ks ks.length)))) ed=none:=by rw[aQ hde.symm]; exact hed
   have hRF:RowsAt K (upd H d (.frz o (.dK (bg ks ks.length)))) a ks:=hR.frz hd;have qF:∀l H',Same (upd H d (.frz o (.dK (bg ks ks.length)))) H'->(upd H d (.frz o (.dK (bg ks ks.length)))) l=none->yu H' l ks->Q (.ref l) H':=λl H' h1 h2 h3=>q l o H' h1 (by rw[aQ (λz=>by rw[z,hF] at h2; cases h2)] at h2; exact h2) h3;generalize upd H d (.frz o (.dK (bg ks ks.length)))=HF at sF hF hedF hRF qF;have bl:=tX ks ks.length;have pl:=sj ks ks.length;refine vR (λi σ H2=>i<=(bg ks ks.length).length/\Same HF H2/\∃v3 v4 eds,σ=[some (.ref a),some (.ref d),some (.ref ed),v3,v4,none,none,none]/\H2 ed=some (.dK eds)/\eds.length<=i/\∀b:Nat,bb eds (Sum.inl (b:Int):aM)=(gb ((bZ ks ks.length).take i) b).map λ(m:Nat)=>V.int (m:Int)) ⟨Jw _,sF,_,_,[],rfl,by rw[aQ hde.symm]; exact aF,JZ _,λb=>rfl⟩ ?_ ?_ ?_
   . rintro i σ H2 hi ⟨_,s2,_⟩;exact s2 _ _ hF
   . rintro i kv σ H2 b hkv ⟨hi,s2,v3,v4,eds,rfl,he,hel,hv⟩ hb;obtain⟨p,hp,rfl⟩:=uW hkv;have hlt:=(Jb.mp hkv).1;have he3:=Same.new (o:=.tup [V.int (p.1:Int),V.int (p.2:Int)]) hb _ _ he;refine⟨b,_,rfl,aI.of aF,rfl,_,_,rfl,_,_,rfl,rfl,?_⟩;refine⟨_,rfl,_,rfl,_,rfl,ed,_,rfl,gF.k (k:=Sum.inl (p.2:Int)) he3 (gu (by omega)),?_⟩;refine⟨hlt,(s2.trans (Same.new hb)).upd hedF,_,_,_,rfl,aF,?_,λb'=>?_⟩
     . exact K0 (gH _ _ _) (by omega)
     . rw[mi,KH,hp];show _=(gb ((bZ ks ks.length).take i++[p]) b').map _;rw[yF,hv b'];by_cases h:p.2=b'
       . rw[Je h,Je (by rw[h])];rfl
       . rw[Ja h,Ja (λz=>h (by have:(b':Int)=(p.2:Int):=Sum.inl.inj z; omega))]
   . rintro σ H2 ⟨_,s2,v3,v4,eds,rfl,he,hel,hv⟩;have hv:∀b:Nat,bb eds (Sum.inl (b:Int):aM)=(gb (bZ ks ks.length) b).map λ(m:Nat)=>V.int (m:Int):=λb=>by rw[hv b];unfold bg iH;rw[JR,K2]
     obtain⟨rs,r1,r2,r3⟩:=hRF.ex;have rl:(rs.map V.ref).length=ks.length:=by rw[JR,r2]
     refine⟨fJ,λnl hnl=>⟨_,rfl,a,_,rfl,.inr ((s2.trans (Same.new hnl)).tup r1),nl,_,_,rfl,rfl,aF,by omega,by rw[rl]; omega,by rw[rl]; exact bT (by simp; omega),λbl hbl=>?_⟩⟩;have s3:=(s2.trans (Same.new (o:=.lst [V.non]) hnl)).trans (Same.new (o:=.lst (List.replicate (((rs.map V.ref).length:Int).toNat) [V.non]).flatten) hbl);have hbF:HF bl=none:=s2.free ((Same.new hnl).free hbl);have hbe:bl≠ed:=λz=>by have:=(Same.new hnl).free hbl;rw[z,he] at this;cases this
     have he3:=(Same.new (o:=.lst (List.replicate (((rs.map V.ref).length:Int).toNat) [V.non]).flatten) hbl) _ _ ((Same.new (o:=.lst [V.non]) hnl) _ _ he);refine⟨_,rfl,a,_,rfl,.inr (s3.tup r1),_,_,rfl,rfl,_,rfl,_,rfl,(ks.length:Int) - 2,-1,by rw[rl],⟨by omega,by omega,by omega,by omega⟩,?_⟩;have hnn:(((ks.length:Int) - 2) - -1).toNat=ks.length - 1:=by omega
     rw[hnn];refine Fy (λi σ H4=>Same HF H4/\∃v3 v4 v6 v7 bs,σ=[some (.ref a),some (.ref d),some (.ref ed),v3,v4,some (.ref bl),v6,v7]/\H4 ed=some (.dK eds)/\H4 bl=some (.lst bs)/\bs.length=ks.length/\∀k,k+1<ks.length->ks.length - 1 - i<=k->∃r:Nat,Beh ks k r/\bs[k]?=some (.int (r:Int))) ⟨s3,_,_,_,_,_,rfl,he3,aF,by rw[rl]; exact HJ _,λk h1 h2=>by omega⟩ ?_ ?_
     . rintro i σ H4 hi ⟨s4,v3,v4,v6,v7,bs,rfl,e4,b4,l4,hb4⟩;obtain⟨k,hk⟩:∃k:Nat,k+2+i=ks.length:=⟨ks.length - 2 - i,by omega⟩
       have ek:((ks.length:Int) - 2) - (i:Int)=(k:Int):=by omega
       rw[ek];have hR4:=hRF.mono s4;have old:∀j,j+1<ks.length->k<j->∃r:Nat,Beh ks j r/\bs[j]?=some (.int (r:Int)):=λj h1 h2=>hb4 j h1 (by omega);have fin:∀(r:Nat) (v3 v4 v6 v7:Option V),Beh ks k r->Same HF (upd H4 bl (.lst (bs.set k (.int (r:Int)))))/\∃v3' v4' v6' v7' bs',([some (.ref a),some (.ref d),some (.ref ed),v3,v4,some (.ref bl),v6,v7]:St)=[some (.ref a),some (.ref d),some (.ref ed),v3',v4',some (.ref bl),v6',v7']/\(upd H4 bl (.lst (bs.set k (.int (r:Int))))) ed=some (.dK eds)/\(upd H4 bl (.lst (bs.set k (.int (r:Int))))) bl=some (.lst bs')/\bs'.length=ks.length/\∀j,j+1<ks.length->ks.length - 1 - (i+1)<=j->∃r:Nat,Beh ks j r/\bs'[j]?=some (.int (r:Int)):=λr v3 v4 v6 v7 hr=>by
         refine⟨s4.upd hbF,_,_,_,_,_,rfl,by rw[aQ hbe.symm]; exact e4,aF,by rw[LF]; exact l4,λj h1 h2=>?_⟩;by_cases hj:j=k
         . subst hj;exact⟨r,hr,by rw[Kf (by omega)]⟩
         . obtain⟨r',q1,q2⟩:=old j h1 (by omega);exact⟨r',q1,by rw[L6 (λz=>hj z.symm)]; exact q2⟩
       have hix:dQ bs.length (k:Int)=some k:=by unfold dQ;rw[Je (by omega),Je (by omega),K6]
       have at_bs:∀j r:Nat,bs[j]?=some (.int (r:Int))->bS bs (j:Int)=some (.int (r:Int)):=λj r h=>bh h;refine⟨_,rfl,_,_,rfl,rfl,?_⟩;show jY 6 (V.int ((k:Int)+1)) _ _ _;rw[show((k:Int)+1)=((k+1:Nat):Int) by omega];refine⟨_,rfl,_,rfl,ixk hR4 (by omega) (by omega) ?_⟩;refine⟨_,rfl,rfl,_,rfl,?_⟩;have bM:isE (kd ks (k+1))=true->∃b,(stk ks (k+1)).head?=some b:=λh=>by
         cases z:stk ks (k+1) with
         | nil=>exact absurd z (w.open_ (k+1) (by omega) h)
         | cons b r=>exact⟨b,rfl⟩
       have fz:Rd H4 d (.dK (bg ks ks.length)):=.inr ⟨o,s4 _ _ hF⟩;by_cases h1:kd ks (k+1)="else"
       . refine bF (K3 (Jt V.str h1)) ?_;have hE:isE (kd ks (k+1))=true:=by rw[h1]; decide +kernel
         obtain⟨b,hb⟩:=bM hE;have hbo:=sP (⟨hE,hb⟩:dR ks b (k+1));obtain⟨e,hEn⟩:=yH w (by omega) hbo.2;have h5:k+1<=e:=yf hEn ⟨hE,hb⟩;have h6:e+1<ks.length:=by
           rcases KO (e+1) ks.length with z|z
           . exact z
           . have:=w.last e (by have:=hEn.2.1; omega);rw[hEn.2.2.1] at this;exact absurd this.symm xJ.2
         obtain⟨r,hr1,hr2⟩:=old e h6 (by omega);have g1:ff H4 d (.int ((k+1:Nat):Int)) (some (.int (b:Int))):=.inl ⟨_,Sum.inl ((k+1:Nat):Int),fz,rfl,(wJ ks.length (by omega) ⟨hE,hb⟩).symm⟩;have g2:ff H4 ed (.int (b:Int)) (some (.int (e:Int))):=.inl ⟨_,Sum.inl (b:Int),.inl e4,rfl,by rw[hv b,Dh hEn]; rfl⟩;exact⟨_,rfl,_,rfl,_,rfl,_,rfl,d,_,rfl,g1,ed,_,rfl,g2,bl,_,_,_,rfl,rfl,aG.of b4,at_bs e r hr2,_,rfl,_,rfl,bl,_,_,_,rfl,rfl,b4,hix,fin r _ _ _ _ (.els h1 hb hEn hr1)⟩
       refine bC (λz=>h1 (V.str.inj (dG z))) ?_;refine⟨_,rfl,rfl,_,rfl,?_⟩;by_cases h2:kd ks (k+1)="end"
       . have hE:isE (kd ks (k+1))=true:=by rw[h2]; decide +kernel
         obtain⟨b,hb⟩:=bM hE;have hbo:=sP (⟨hE,hb⟩:dR ks b (k+1));have g1:ff H4 d (.int ((k+1:Nat):Int)) (some (.int (b:Int))):=.inl ⟨_,Sum.inl ((k+1:Nat):Int),fz,rfl,(wJ ks.length (by omega) ⟨hE,hb⟩).symm⟩;refine bF (K3 (Jt V.str h2)) ?_;refine⟨_,rfl,_,rfl,_,rfl,d,_,rfl,g1,ixk hR4 (by omega) (by omega) ⟨rfl,_,rfl,?_⟩⟩;by_cases h3:kd ks b="while"
         . refine bF (K3 (Jt V.str h3)) ?_;exact⟨_,rfl,_,rfl,d,_,rfl,g1,_,rfl,_,rfl,bl,_,_,_,rfl,rfl,b4,hix,fin b _ _ _ _ (.whl h2 hb h3)⟩
         . refine bC (λz=>h3 (V.str.inj (dG z))) ?_;refine⟨_,rfl,rfl,_,rfl,bF (K3 (Jt V.str h2)) ?_⟩;have h6:k+1+1<ks.length:=by
             rcases KO (k+1+1) ks.length with z|z
             . exact z
             . have:=w.last (k+1) (by omega);rw[h2] at this;exact absurd this.symm xJ.2
           obtain⟨r,hr1,hr2⟩:=old (k+1) h6 (by omega);exact⟨_,rfl,_,rfl,bl,_,_,_,rfl,rfl,aG.of b4,at_bs (k+1) r hr2,_,rfl,_,rfl,bl,_,_,_,rfl,rfl,b4,hix,fin r _ _ _ _ (.fin h2 hb h3 hr1)⟩
       . refine bC (λz=>h2 (V.str.inj (dG z))) (je ?_);refine⟨_,rfl,rfl,_,rfl,bC (λz=>h2 (V.str.inj (dG z))) ?_⟩;exact⟨_,rfl,_,rfl,_,rfl,bl,_,_,_,rfl,rfl,b4,hix,fin (k+1) _ _ _ _ (.oth h1 h2)⟩
     . rintro σ H4 ⟨s4,v3,v4,v6,v7,bs,rfl,e4,b4,l4,hb4⟩;exact⟨_,rfl,qF bl H4 s4 hbF ⟨bs,b4,l4,λk h1=>hb4 k h1 (by omega)⟩⟩
theorem iW:FnScope ["rows","begins","behind","turns","k","begin","found","row"] ["rows"] (af ka):=by walk_at "s"
theorem DD (T:Txt K mg t):FnOk P w K mg base CX0 2 t.AA t.An ["rows"] (K13.sp_ways K):=by
 have G_begins_of:=Cr (P:=P) (w:=w) (base:=base) T;have G_firsts_behind:=FM (P:=P) (w:=w) (base:=base) T;refine T.ways.F.ok iW (λvs H Q E h=>?_) (λcdv A outer s H vs Q E hr h=>?_)
 . obtain⟨a,ks,rfl,hR,w,hn,q⟩:=h;rfl
 . skip
   refine lx ?_;intro XX;refine(let W5:TS:=_; have hW5:bD XX ((bN ka).drop 5) W5:=(aH (dI PassesOwn.never rfl (tJ rfl T.b_enumerate (aC (pv 0) aD rfl)) (fL rfl (cC (ag (i:=4) iW.nd rfl (Or.inl rfl)) (cC (ag (i:=7) iW.nd rfl (Or.inl rfl)) fH))) (@aJ _ _ _ (ae (kx jx (aL jO (pv 7) aE (λ_ _=>rfl)) (bB (aC aP (aC aP aD rfl) rfl)) (by with_unfolding_all rfl)) (@aJ _ _ _ (@cj _ _ _ _ (cH Jk Jp Jq jQ (pv 6) (aC j3 aD rfl)) (by rfl))) (@aJ _ _ _ (ae (kx az (aL jO (pv 7) aE (λ_ _=>rfl)) aP (aW _)) (@aJ _ _ _ (@cj _ _ _ _ (cH Jk Jp Jq jQ (pv 6) (aC (bB aD) aD rfl)) (by rfl))) (@aJ _ _ _ (ae (oV (De (eG hr.units) (pv 4) (pv 3))) (@aJ _ _ _ (@cj _ _ _ _ (cH Jk Jp Jq jQ (pv 6) (aC (bB (aC (aL kM (pv 2) (pv 4) (λ_ _=>rfl)) (aC (aL kM (pv 2) (jM (eG hr.units) (pv 3) (pv 4) (λ_ _=>rfl)) (λ_ _=>rfl)) aD rfl) rfl)) aD rfl)) (by rfl))) (@aJ _ _ _ (@cj _ _ _ _ (cH Jk Jp Jq jQ (pv 6) (aC (bB (aC (aL kM (pv 2) (pv 4) (λ_ _=>rfl)) aD rfl)) aD rfl)) (by rfl)))))))))) (@aJ _ _ _ (@aZ _ _ _ _ (pv 6)))); ?_);refine(let W3:TS:=_; have hW3:bD XX ((bN ka).drop 3) W3:=(aH (dI PassesOwn.never rfl (yx (pv 1)) (fL rfl (cC (ag (i:=4) iW.nd rfl (Or.inl rfl)) (cC (ag (i:=5) iW.nd rfl (Or.inl rfl)) fH))) (@aJ _ _ _ (@cj _ _ _ _ (Hy (pv 3) (pv 5) (pv 4) ⟨rfl,rfl,rfl,rfl⟩) (by rfl)))) (aH (@aR _ _ 6 _ _ _ _ iW.nd rfl (Or.inl rfl) (bX aD) (by rfl) (by walk_at "f")) hW5)); ?_);obtain⟨a,ks,rfl,hR,w,hn,q⟩:=h;refine⟨_,(aH (@aR _ _ 1 _ _ _ _ iW.nd rfl (Or.inl rfl) (aU T.begins_of G_begins_of (hr.mono (by decide)) (aC (pv 0) aD rfl)) (by rfl) (by walk_at "f")) (aH (@aR _ _ 2 _ _ _ _ iW.nd rfl (Or.inl rfl) (aU T.firsts_behind G_firsts_behind (hr.mono (by decide)) (aC (pv 0) (aC (pv 1) aD rfl) rfl)) (by rfl) (by walk_at "f")) (aH (@aR _ _ 3 _ _ _ _ iW.nd rfl (Or.inl rfl) ig (by rfl) (by walk_at "f")) hW3))),?_⟩;refine⟨_,rfl,a,ks,rfl,hR,w,hn,λd H1 s1 n1 e1=>?_⟩;refine⟨_,rfl,_,rfl,a,d,ks,rfl,hR.mono s1,w,hn,e1,λl o H2 s2 n2 hB=>?_⟩;have s02:Same H H2:=(s1.upd n1).trans s2;have hdF:H2 d=some (.frz o (.dK (bg ks ks.length))):=s2 _ _ aF;have hl0:H l=none:=s1.free n2;refine λtd htd=>?_;have bl:=tX ks ks.length;obtain⟨bs,hb1,hb2,hb3⟩:=hB;refine⟨_,rfl,d,bg ks ks.length,rfl,.inr ⟨o,Same.new htd _ _ hdF,?_⟩⟩;refine vR (λi σ H3=>i<=(bg ks ks.length).length/\Same H2 H3/\∃v4 v5 tds,σ=[some (.ref a),some (.ref d),some (.ref l),some (.ref td),v4,v5,none,none]/\H3 td=some (.dK tds)/\tds.length<=i/\∀b:Nat,bb tds (Sum.inl (b:Int):aM)=(dD ((bZ ks ks.length).take i) b).map λ(m:Nat)=>V.int (m:Int)) ⟨Jw _,Same.new htd,_,_,[],rfl,aF,JZ _,λb=>rfl⟩ ?_ ?_ ?_
   . rintro i σ H3 hi ⟨_,s3,_⟩;exact s3 _ _ hdF
   . rintro i kv σ H3 b hkv ⟨hi,s3,v4,v5,tds,rfl,he,hel,hv⟩ hb;obtain⟨p,hp,rfl⟩:=uW hkv;have hlt:=(Jb.mp hkv).1;have he3:=Same.new (o:=.tup [V.int (p.1:Int),V.int (p.2:Int)]) hb _ _ he;refine⟨b,_,rfl,aI.of aF,rfl,_,_,rfl,_,_,rfl,rfl,?_⟩;have tk:∀b',dD ((bZ ks ks.length).take (i+1)) b'=if(dD ((bZ ks ks.length).take i) b').isSome=true then dD ((bZ ks ks.length).take i) b' else if p.2=b' then some p.1 else none:=λb'=>by rw[KH,hp];exact xk _ p b'
     refine⟨_,rfl,td,rfl,.inl ⟨tds,.inl he3⟩,_,rfl,_,rfl,tds,Sum.inl (p.2:Int),he3,rfl,gu (by omega),λv hv'=>?_,λhv'=>?_⟩
     . refine⟨hlt,s3.trans (Same.new hb),_,_,tds,rfl,he3,by omega,λb'=>?_⟩;rw[hv b',tk b'];cases z:dD ((bZ ks ks.length).take i) b' with
       | some m=>rfl
       | none =>
         rw[Ja (show ¬ (none:Option Nat).isSome=true by decide),Ja];intro h;rw[h,hv b',z] at hv';cases hv'
     . refine⟨hlt,(s3.trans (Same.new hb)).upd htd,_,_,_,rfl,aF,K0 (gH _ _ _) (by omega),λb'=>?_⟩;rw[mi,tk b'];by_cases h:p.2=b'
       . subst h;have z:dD ((bZ ks ks.length).take i) p.2=none:=by
           rw[hv p.2] at hv';cases y:dD ((bZ ks ks.length).take i) p.2 with
           | none=>rfl
           | some m=>rw[y] at hv'; cases hv'
         rw[Je rfl,z,Ja (show ¬ (none:Option Nat).isSome=true by decide),Je rfl];rfl
       . rw[Ja (λz=>h (by have:(b':Int)=(p.2:Int):=Sum.inl.inj z; omega)),hv b',Ja h];cases z:dD ((bZ ks ks.length).take i) b' with
         | some m=>rfl
         | none=>rfl
   . rintro σ H3 ⟨_,s3,v4,v5,tds,rfl,he,hel,hv⟩;have hv:∀b:Nat,bb tds (Sum.inl (b:Int):aM)=(dD (bZ ks ks.length) b).map λ(m:Nat)=>V.int (m:Int):=λb=>by rw[hv b];unfold bg iH;rw[JR,K2]
     obtain⟨rs,r1,r2,r3⟩:=hR.ex;refine⟨ci,λfl hfl=>?_⟩;have s03:=s02.trans s3;have hf2:H3 fl=none:=hfl;have htf:td≠fl:=λz=>by rw[<- z,he] at hfl; cases hfl
     have hf0:H fl=none:=s03.free hfl;refine⟨_,rfl,a,rfl,⟨_,(s03.trans (Same.new hfl)).tup r1⟩,rG (xs:=rs.map V.ref) (λi σ H4=>i<=ks.length/\Same H3 H4/\(∃v4 v5 v7,σ=[some (.ref a),some (.ref d),some (.ref l),some (.ref td),v4,v5,some (.ref fl),v7])/\FoundN H4 fl ks i) ⟨Jw _,Same.new hfl,⟨_,_,_,rfl⟩,⟨[],aF,rfl,λk v z=>by simp at z⟩⟩ ?_ ?_ ?_⟩
     . rintro i σ H4 hi ⟨_,s4,_⟩;exact(s03.trans s4).tup r1
     . rintro i x σ H4 b hx ⟨hi',s4,⟨v4,v5,v7,rfl⟩,hF⟩ hb;have hi:i<rs.length:=by have:=(Jb.mp hx).1;rw[JR] at this;exact this
       rw[Jc] at hx;have hx:V.ref rs[i]=x:=by simpa [hi] using hx
       subst hx;obtain⟨rest,hrow⟩:=r3 i rs[i] (by simp [hi]);have s5:=s4.trans (Same.new (o:=.tup [.int i,.ref rs[i]]) hb);have hF5:=hF.mono (Same.new (o:=.tup [.int i,.ref rs[i]]) hb);refine⟨b,_,rfl,aI.of aF,rfl,_,_,rfl,_,_,rfl,rfl,?_⟩;refine⟨_,rfl,rs[i],_,_,_,rfl,rfl,(s03.trans s5).tup hrow,bP,cB,λtw htw=>⟨tw,[V.str "else",V.str "end"],rfl,.inr (aI.of aF),rfl,rfl,_,rfl,?_⟩⟩;have s6:=s5.trans (Same.new (o:=.tup [V.str "else",V.str "end"]) htw);obtain⟨vs,f1,f2,f3⟩:=hF5.mono (Same.new (o:=.tup [V.str "else",V.str "end"]) htw);generalize upd (upd H4 b (.tup [.int i,.ref rs[i]])) tw (.tup [V.str "else",V.str "end"])=H6 at s6 f1 f3 ⊢;have s06:=s03.trans s6;have fin:∀{H7:Hp} {v:V} {oo:Option (List Nat)} (u4 u5 u7:Option V),Same H6 H7->Due ks i oo->iI H7 v oo->i+1<=ks.length/\Same H3 (upd H7 fl (.lst (vs++[v])))/\(∃v4 v5 v7,([some (.ref a),some (.ref d),some (.ref l),some (.ref td),u4,u5,some (.ref fl),u7]:St)=[some (.ref a),some (.ref d),some (.ref l),some (.ref td),v4,v5,some (.ref fl),v7])/\FoundN (upd H7 fl (.lst (vs++[v]))) fl ks (i+1):=λu4 u5 u7 s7 hd hv=>by refine⟨by omega,(s6.trans s7).upd hfl,⟨_,_,_,rfl⟩,FoundN.push (s7 _ _ f1) f2 (λk v z=>?_) hd hv⟩;obtain⟨o',d',y⟩:=f3 k v z;exact⟨o',d',y.mono s7⟩
       by_cases hE:isE (kd ks i)=true
       . refine bF ((inE _).trans hE) ?_;exact⟨_,rfl,.inl ⟨rfl,_,aG.of f1⟩,fl,_,_,rfl,rfl,f1,gu (by omega),fin _ _ _ (Same.refl _) (.no hE) rfl⟩
       refine bC (λz=>hE ((inE _).symm.trans z)) ?_;refine⟨_,rfl,rs[i],_,_,_,rfl,rfl,s06.tup hrow,bP,rfl,_,rfl,?_⟩;by_cases hbk:kd ks i="back"
       . refine bF (K3 (Jt V.str hbk)) ?_;exact⟨_,rfl,.inl ⟨rfl,_,aG.of f1⟩,ci,λp hp=>⟨fl,_,_,rfl,rfl,Same.new hp _ _ f1,gu (by omega),fin _ _ _ (Same.new hp) (.back hbk) ⟨p,rfl,aF⟩⟩⟩
       refine bC (λz=>hbk (V.str.inj (dG z))) ?_;have hlast:=uq w (by omega) hbk;obtain⟨r,hr1,hr2⟩:=hb3 i hlast;have hb6:=(s3.trans s6) _ _ hb1;have ht6:=s6 _ _ he;refine⟨_,rfl,_,rfl,td,_,rfl,ff.k (k:=Sum.inl (i:Int)) ht6,_,rfl,?_⟩;by_cases hO:isO (kd ks i)=true
       . obtain⟨e,hEn⟩:=yH w (by omega) hO;obtain⟨f,hf⟩:=HC hEn;obtain⟨r',hr3,hr4⟩:=hb3 f (IV w hf);have hvi:bb tds (Sum.inl (i:Int):aM)=some (V.int (f:Int)):=by rw[hv i,BD hf]; rfl
         refine bF (by rw[hvi]; rfl) ?_;have g:ff H6 td (.int (i:Int)) (some (V.int (f:Int))):=.inl ⟨_,Sum.inl (i:Int),.inl ht6,rfl,hvi.symm⟩;exact⟨_,rfl,.inl ⟨rfl,_,aG.of f1⟩,_,rfl,_,rfl,l,_,_,_,rfl,rfl,aG.of hb6,bh hr2,_,rfl,_,rfl,_,rfl,td,_,rfl,g,l,_,_,_,rfl,rfl,aG.of hb6,bh hr4,cB,λp hp=>⟨fl,_,_,rfl,rfl,Same.new hp _ _ f1,gu (by omega),fin _ _ _ (Same.new hp) (.two hO hf hr1 hr3) ⟨p,rfl,aF⟩⟩⟩
       . have hvi:bb tds (Sum.inl (i:Int):aM)=none:=by rw[hv i,Iq hO]; rfl
         refine bC (by rw[hvi]; decide) ?_;exact⟨_,rfl,.inl ⟨rfl,_,aG.of f1⟩,_,rfl,_,rfl,l,_,_,_,rfl,rfl,aG.of hb6,bh hr2,fJ,λp hp=>⟨fl,_,_,rfl,rfl,Same.new hp _ _ f1,gu (by omega),fin _ _ _ (Same.new hp) (.one hE hbk hO hr1) ⟨p,rfl,aF⟩⟩⟩
     . rintro σ H4 ⟨_,s4,⟨v4,v5,v7,rfl⟩,hF⟩;rw[JR,r2] at hF;exact⟨_,rfl,q fl H4 (s03.trans s4) hf0 hF⟩
end
end K86
namespace K86
open PySem L2 Gx Fl F2
section
variable {P:Program} {w:World} {K:W.Frag} {mg:Str->Option Value} {base:Heap} {t:Adr}
theorem qu:FnScope ["self","program","k","function"] ["self","program"] (af mw):=by walk_at "s"
theorem Eo (T:Txt K mg t):FnOk P w K mg base CX0 4 t.ze t.AL ["self","program"] (GT K t):=by
 have G_names_of:=Bx (P:=P) (w:=w) (base:=base) T;have G_ways:=DD (P:=P) (w:=w) (base:=base) T;refine T.zT.F.ok qu (λvs H Q E h=>?_) (λcdv A outer s H vs Q E hr h=>?_)
 . obtain⟨x,dx,p,fns,rfl,hx,hS,n0,n12,hE,nd,q⟩:=h;rfl
 . skip
   refine lx ?_;intro XX;refine(let W7:TS:=_; have hW7:bD XX ((bN mw).drop 7) W7:=(@aJ _ _ _ (dI PassesOwn.never rfl (B0 rfl T.b_enumerate (aC (aB 1) aD rfl)) (fL rfl (cC (ag (i:=2) qu.nd rfl (Or.inl rfl)) (cC (ag (i:=3) qu.nd rfl (Or.inl rfl)) fH))) (aH (iZ (eG hr.units) (dk (aB 0) (by rfl)) (aL (show aN _ (ai K) from ak) (aB 3) aE (λ_ _=>rfl)) (aB 2) (by rfl)) (aH (iZ (eG hr.units) (dk (aB 0) (by rfl)) (aL (show aN _ (ai K) from ak) (aB 3) aE (λ_ _=>rfl)) (aL (show aN _ (ai K) from ak) (aB 3) aE (λ_ _=>rfl)) (by rfl)) (aH (iZ (eG hr.units) (dk (aB 0) (by rfl)) (aL (show aN _ (ai K) from ak) (aB 3) aE (λ_ _=>rfl)) (aL (show aN _ (ai K) from ak) (aB 3) aE (λ_ _=>rfl)) (by rfl)) (aH (iZ (eG hr.units) (dk (aB 0) (by rfl)) (aL (show aN _ (ai K) from ak) (aB 3) aE (λ_ _=>rfl)) (aL (show aN _ (ai K) from ak) (aB 3) aE (λ_ _=>rfl)) (by rfl)) (aH (iZ (eG hr.units) (dk (aB 0) (by rfl)) (aL (show aN _ (ai K) from ak) (aB 3) aE (λ_ _=>rfl)) (aU T.names_of G_names_of (hr.mono (by decide)) (aC (aB 3) aD rfl)) (by rfl)) (@aJ _ _ _ (iZ (eG hr.units) (dk (aB 0) (by rfl)) (aL (show aN _ (ai K) from ak) (aB 3) aE (λ_ _=>rfl)) (aU T.ways G_ways (hr.mono (by decide)) (aC (aL (show aN _ (ai K) from ak) (aB 3) aE (λ_ _=>rfl)) aD rfl)) (by rfl)))))))))); ?_);obtain⟨x,dx,p,fns,rfl,hx,hS,n0,n12,hE,nd,q⟩:=h;refine⟨_,(aH (gk (aB 0) (aL (show aN _ (ai K) from ak) (aL (show aN _ (b6 K) from bE) (aB 1) (kC lO aE) (λ_ _=>rfl)) aE (λ_ _=>rfl)) (by rfl)) (aH (gk (aB 0) ig (by rfl)) (aH (gk (aB 0) ig (by rfl)) (aH (gk (aB 0) ig (by rfl)) (aH (gk (aB 0) ig (by rfl)) (aH (gk (aB 0) ig (by rfl)) (mZ (gk (aB 0) ig (by rfl)) hW7))))))),?_⟩;have fl:(fns.map λf=>V.ref f.fa).length=fns.length:=JR _;have np:0<fns.length:=List.length_pos_iff.mpr n0;obtain⟨fz,hz⟩:∃fz,fns[fns.length - 1]?=some fz:=⟨fns[fns.length - 1],JV (by omega)⟩
   have hzT:=(hE fz (JW hz)).fn;have eL:bS (fns.map λf=>V.ref f.fa) (-1)=some (V.ref fz.fa):=by
     unfold bS dQ;rw[Ja (by decide),Je (by rw[fl]; omega),LK];have:((-1:Int)+((fns.map λf=>V.ref f.fa).length:Int)).toNat=fns.length - 1:=by rw[fl]; omega
     rw[this,Jc,hz];rfl
   refine⟨_,rfl,_,rfl,p,_,_,_,rfl,rfl,bY.seq hS,eL,fz.fa,_,_,_,rfl,rfl,bY.tup hzT,bP,_,rfl,x,t.bK,dx,_,rfl,hx,T.eU.cl,T.nG,(by show 0<1000; decide),?_⟩;have sx:∀{b:Addr} {o:HO},ers x H b=some o->b≠x/\H b=some o:=λ{b o} e=>by
     have hb:b≠x:=λz=>by rw[z] at e; unfold ers at e; rw[Je rfl] at e; cases e
     rw[aS hb] at e;exact⟨hb,e⟩
   have l1:=kZ "last" (V.str fz.name) [] 0 (JZ _);intro d0 h0;refine⟨_,rfl,x,t.bK,dx,_,rfl,aq aF (Ne.symm (bR h0).1),T.eU.cl,T.k8,(by omega),?_⟩;have l2:=kZ "number_of" (.ref d0) _ 1 l1;intro d1 h1;refine⟨_,rfl,x,t.bK,dx,_,rfl,aq aF (Ne.symm (bR h1).1),T.eU.cl,T.lZ,(by omega),?_⟩;have l3:=kZ "folded_of" (.ref d1) _ 2 l2;intro d2 h2;refine⟨_,rfl,x,t.bK,dx,_,rfl,aq aF (Ne.symm (bR h2).1),T.eU.cl,T.la,(by omega),?_⟩;have l4:=kZ "params_of" (.ref d2) _ 3 l3;intro d3 h3;refine⟨_,rfl,x,t.bK,dx,_,rfl,aq aF (Ne.symm (bR h3).1),T.eU.cl,T.k9,(by omega),?_⟩;have l5:=kZ "rows_of" (.ref d3) _ 4 l4;intro d4 h4;refine⟨_,rfl,x,t.bK,dx,_,rfl,aq aF (Ne.symm (bR h4).1),T.eU.cl,T.k7,(by omega),?_⟩;have l6:=kZ "names_in" (.ref d4) _ 5 l5;refine⟨λσ' G=>∃d:Nat->Addr,σ'=[some (.ref x),some (.ref p),none,none]/\FS t.bK G x dx (fc (V.str fz.name) d) d (λ_=>[])/\(∀i j,i<6->j<6->d i=d j->i=j)/\Same (ers x H) G/\∀k,ers x H (d k)=none,?_,?_⟩
   . intro d5 h5;obtain⟨nx0,z0⟩:=bR h0;have q0:H d0=none:=z0;obtain⟨nx1,z1⟩:=bR h1;obtain⟨n10,w10⟩:=bR z1;obtain⟨_,y10⟩:=bR w10;have q1:H d1=none:=y10;obtain⟨nx2,z2⟩:=bR h2;obtain⟨n21,w21⟩:=bR z2;obtain⟨_,y21⟩:=bR w21;obtain⟨n20,w20⟩:=bR y21;obtain⟨_,y20⟩:=bR w20;have q2:H d2=none:=y20;obtain⟨nx3,z3⟩:=bR h3;obtain⟨n32,w32⟩:=bR z3;obtain⟨_,y32⟩:=bR w32;obtain⟨n31,w31⟩:=bR y32;obtain⟨_,y31⟩:=bR w31;obtain⟨n30,w30⟩:=bR y31;obtain⟨_,y30⟩:=bR w30;have q3:H d3=none:=y30;obtain⟨nx4,z4⟩:=bR h4;obtain⟨n43,w43⟩:=bR z4;obtain⟨_,y43⟩:=bR w43;obtain⟨n42,w42⟩:=bR y43;obtain⟨_,y42⟩:=bR w42;obtain⟨n41,w41⟩:=bR y42;obtain⟨_,y41⟩:=bR w41;obtain⟨n40,w40⟩:=bR y41;obtain⟨_,y40⟩:=bR w40;have q4:H d4=none:=y40;obtain⟨nx5,z5⟩:=bR h5;obtain⟨n54,w54⟩:=bR z5;obtain⟨_,y54⟩:=bR w54;obtain⟨n53,w53⟩:=bR y54;obtain⟨_,y53⟩:=bR w53;obtain⟨n52,w52⟩:=bR y53;obtain⟨_,y52⟩:=bR w52;obtain⟨n51,w51⟩:=bR y52;obtain⟨_,y51⟩:=bR w51;obtain⟨n50,w50⟩:=bR y51;obtain⟨_,y50⟩:=bR w50;have q5:H d5=none:=y50;have inj:∀i j,i<6->j<6->dd d0 d1 d2 d3 d4 d5 i=dd d0 d1 d2 d3 d4 d5 j->i=j:=λi j hi hj e=>by
       match i,j,hi,hj with
       | 0,0,_,_=>rfl
       | 0,1,_,_=>exact absurd e.symm n10
       | 0,2,_,_=>exact absurd e.symm n20
       | 0,3,_,_=>exact absurd e.symm n30
       | 0,4,_,_=>exact absurd e.symm n40
       | 0,5,_,_=>exact absurd e.symm n50
       | 1,0,_,_=>exact absurd e n10
       | 1,1,_,_=>rfl
       | 1,2,_,_=>exact absurd e.symm n21
       | 1,3,_,_=>exact absurd e.symm n31
       | 1,4,_,_=>exact absurd e.symm n41
       | 1,5,_,_=>exact absurd e.symm n51
       | 2,0,_,_=>exact absurd e n20
       | 2,1,_,_=>exact absurd e n21
       | 2,2,_,_=>rfl
       | 2,3,_,_=>exact absurd e.symm n32
       | 2,4,_,_=>exact absurd e.symm n42
       | 2,5,_,_=>exact absurd e.symm n52
       | 3,0,_,_=>exact absurd e n30
       | 3,1,_,_=>exact absurd e n31
       | 3,2,_,_=>exact absurd e n32
       | 3,3,_,_=>rfl
       | 3,4,_,_=>exact absurd e.symm n43
       | 3,5,_,_=>exact absurd e.symm n53
       | 4,0,_,_=>exact absurd e n40
       | 4,1,_,_=>exact absurd e n41
       | 4,2,_,_=>exact absurd e n42
       | 4,3,_,_=>exact absurd e n43
       | 4,4,_,_=>rfl
       | 4,5,_,_=>exact absurd e.symm n54
       | 5,0,_,_=>exact absurd e n50
       | 5,1,_,_=>exact absurd e n51
       | 5,2,_,_=>exact absurd e n52
       | 5,3,_,_=>exact absurd e n53
       | 5,4,_,_=>exact absurd e n54
       | 5,5,_,_=>rfl
       | n+6,_,h,_=>omega
       | _,n+6,_,h=>omega
     refine⟨_,rfl,x,t.bK,dx,_,rfl,aq aF (Ne.symm nx5),T.eU.cl,T.lg,(by omega),dd d0 d1 d2 d3 d4 d5,rfl,⟨aF,λj hj=>?_⟩,inj,λb o e=>aq (aq (aq (aq (aq (aq (aq (aq (aq (aq (aq (aq (aq (sx e).2 (sx e).1) (aV (sx e).2 q0)) (sx e).1) (aV (sx e).2 q1)) (sx e).1) (aV (sx e).2 q2)) (sx e).1) (aV (sx e).2 q3)) (sx e).1) (aV (sx e).2 q4)) (sx e).1) (aV (sx e).2 q5)) (sx e).1,λk=>?_⟩
     . match j,hj with
       | 0,_=>exact aq (aq (aq (aq (aq (aq (aq (aq (aq (aq (aq aF nx0) (Ne.symm n10)) nx0) (Ne.symm n20)) nx0) (Ne.symm n30)) nx0) (Ne.symm n40)) nx0) (Ne.symm n50)) nx0
       | 1,_=>exact aq (aq (aq (aq (aq (aq (aq (aq (aq aF nx1) (Ne.symm n21)) nx1) (Ne.symm n31)) nx1) (Ne.symm n41)) nx1) (Ne.symm n51)) nx1
       | 2,_=>exact aq (aq (aq (aq (aq (aq (aq aF nx2) (Ne.symm n32)) nx2) (Ne.symm n42)) nx2) (Ne.symm n52)) nx2
       | 3,_=>exact aq (aq (aq (aq (aq aF nx3) (Ne.symm n43)) nx3) (Ne.symm n53)) nx3
       | 4,_=>exact aq (aq (aq aF nx4) (Ne.symm n54)) nx4
       | 5,_=>exact aq aF nx5
       | n+6,h=>omega
     . match k with
       | 0=>exact(aS nx0).trans q0
       | 1=>exact(aS nx1).trans q1
       | 2=>exact(aS nx2).trans q2
       | 3=>exact(aS nx3).trans q3
       | 4=>exact(aS nx4).trans q4
       | n+5=>exact(aS nx5).trans q5
   rintro σ' G ⟨d,rfl,hFS,inj,hsm,hfd⟩;refine⟨_,rfl,p,rfl,⟨_,hsm.seq hS⟩,(let Jv1:Nat->St->Hp->Prop:=λi σ H2=>∃(v2 v3:Option V) (kv:Nat->List (aM×V)) (nl wl:Nat->Addr),σ=[some (.ref x),some (.ref p),v2,v3]/\Same (ers x H) H2/\FS t.bK H2 x dx (fc (V.str fz.name) d) d kv/\kv 0=kD (λi _=>.int i) (fns.take i)/\kv 1=kD (λ_ f=>f.fo) (fns.take i)/\kv 2=kD (λ_ f=>.ref f.pa) (fns.take i)/\kv 3=kD (λ_ f=>.ref f.ra) (fns.take i)/\kv 4=kD (λi _=>.ref (nl i)) (fns.take i)/\kv 5=kD (λi _=>.ref (wl i)) (fns.take i)/\(∀j g,j<i->fns[j]?=some g->hl H2 (nl j)=some (.lst ((nms g).map V.str))/\K13.FoundN (hl H2) (wl j) (lH g) (lH g).length)/\∀j,j<6->(kv j).length<=i; C0 (xs:=fns.map λf=>V.ref f.fa) Jv1 ⟨_,_,_,λ_=>0,λ_=>0,rfl,hsm,hFS,rfl,rfl,rfl,rfl,rfl,rfl,λj g h=>absurd h (KW _),λj hj=>JZ _⟩ ?_ ?_ ?_)⟩
   . rintro i σ H2 hi ⟨v2,v3,kv,nlf,wlf,rfl,s2,_⟩;exact s2.seq hS
   . rintro i y σ H2 b hy ⟨v2,v3,kv,nlf,wlf,rfl,s2,o2,k0,k1,k2,k3,k4,k5,hnw,kl⟩ hb;obtain⟨f,hi,hm,rfl⟩:=Iu hy;have ilt:i<fns.length:=(Jb.mp hi).1;have hT:=(hE f hm).fn;have hfu:=(hE f hm).fu;have fit:∀{n:Nat},n<=i+1->n<sizeLine:=λ{n} h=>IN (by omega);refine⟨b,_,rfl,aI.of aF,rfl,_,_,rfl,_,_,rfl,rfl,?_⟩;have s3:=s2.trans (Same.new (o:=.tup [.int i,.ref f.fa]) hb);have o3:=o2.mono (Same.new (o:=.tup [.int i,.ref f.fa]) hb);refine⟨_,rfl,_,rfl,x,t.bK,dx,_,_,rfl,o3.ob,T.eU.cl,T.k8,lk_number _ _,_,rfl,f.fa,_,_,_,rfl,rfl,s3.tup hT,bP,d 0,_,rfl,gF.k (k:=(Sum.inr f.name:aM)) (show _=some (HO.dK (kv 0)) from o3.dc 0 (by decide)) (fit (by have:=kl 0 (by decide); simpa using (by omega:_<=i+1))),?_⟩;have s4:=Same.upd (o:=.dK (al (kv 0) (Sum.inr f.name:aM) (V.int i))) s3 (hfd 0);have o4:=o3.put inj 0 (by decide) (al (kv 0) (Sum.inr f.name:aM) (V.int i));refine⟨_,rfl,f.fa,_,_,_,rfl,rfl,s4.tup hT,rfl,_,rfl,x,t.bK,dx,_,_,rfl,o4.ob,T.eU.cl,T.lZ,Hn _ _,_,rfl,f.fa,_,_,_,rfl,rfl,s4.tup hT,bP,d 1,_,rfl,gF.k (k:=(Sum.inr f.name:aM)) (show _=some (HO.dK (kv 1)) from o4.dc 1 (by decide)) (fit (by have:=kl 1 (by decide); simpa using (by omega:_<=i+1))),?_⟩;have s5:=Same.upd (o:=.dK (al (kv 1) (Sum.inr f.name:aM) f.fo)) s4 (hfd 1);have o5:=o4.put inj 1 (by decide) (al (kv 1) (Sum.inr f.name:aM) f.fo);refine⟨_,rfl,f.fa,_,_,_,rfl,rfl,s5.tup hT,rfl,_,rfl,x,t.bK,dx,_,_,rfl,o5.ob,T.eU.cl,T.la,Em _ _,_,rfl,f.fa,_,_,_,rfl,rfl,s5.tup hT,bP,d 2,_,rfl,gF.k (k:=(Sum.inr f.name:aM)) (show _=some (HO.dK (kv 2)) from o5.dc 2 (by decide)) (fit (by have:=kl 2 (by decide); simpa using (by omega:_<=i+1))),?_⟩;have s6:=Same.upd (o:=.dK (al (kv 2) (Sum.inr f.name:aM) (.ref f.pa))) s5 (hfd 2);have o6:=o5.put inj 2 (by decide) (al (kv 2) (Sum.inr f.name:aM) (.ref f.pa));refine⟨_,rfl,f.fa,_,_,_,rfl,rfl,s6.tup hT,rfl,_,rfl,x,t.bK,dx,_,_,rfl,o6.ob,T.eU.cl,T.k9,lk_rows _ _,_,rfl,f.fa,_,_,_,rfl,rfl,s6.tup hT,bP,d 3,_,rfl,gF.k (k:=(Sum.inr f.name:aM)) (show _=some (HO.dK (kv 3)) from o6.dc 3 (by decide)) (fit (by have:=kl 3 (by decide); simpa using (by omega:_<=i+1))),?_⟩;have s7:=Same.upd (o:=.dK (al (kv 3) (Sum.inr f.name:aM) (.ref f.ra))) s6 (hfd 3);have o7:=o6.put inj 3 (by decide) (al (kv 3) (Sum.inr f.name:aM) (.ref f.ra));refine⟨_,rfl,f.fa,f.ps,f.ds,rfl,hfu.mono s7,λnl H8 e8 hnl hl8=>?_⟩;have s8:=s7.trans e8;have o8:=o7.mono e8;refine⟨_,rfl,x,t.bK,dx,_,_,rfl,o8.ob,T.eU.cl,T.k7,lk_names _ _,_,rfl,f.fa,_,_,_,rfl,rfl,s8.tup hT,bP,d 4,_,rfl,gF.k (k:=(Sum.inr f.name:aM)) (show _=some (HO.dK (kv 4)) from o8.dc 4 (by decide)) (fit (by have:=kl 4 (by decide); simpa using (by omega:_<=i+1))),?_⟩;have s9:=Same.upd (o:=.dK (al (kv 4) (Sum.inr f.name:aM) (.ref nl))) s8 (hfd 4);have o9:=o8.put inj 4 (by decide) (al (kv 4) (Sum.inr f.name:aM) (.ref nl));refine⟨_,rfl,f.fa,_,_,_,rfl,rfl,s9.tup hT,rfl,f.ra,lH f,rfl,((hE f hm).old.mono s9).rows,(hE f hm).wf,(by unfold lH; rw[JR]; have:=(hE f hm).len; omega),λwl HA eA hwl hfn=>?_⟩;have sA:=s9.trans eA;have oA:=o9.mono eA;refine⟨_,rfl,x,t.bK,dx,_,_,rfl,oA.ob,T.eU.cl,T.lg,Ge _ _,_,rfl,f.fa,_,_,_,rfl,rfl,sA.tup hT,bP,d 5,_,rfl,gF.k (k:=(Sum.inr f.name:aM)) (show _=some (HO.dK (kv 5)) from oA.dc 5 (by decide)) (fit (by have:=kl 5 (by decide); simpa using (by omega:_<=i+1))),?_⟩;have sB:=Same.upd (o:=.dK (al (kv 5) (Sum.inr f.name:aM) (.ref wl))) sA (hfd 5);have oB:=oA.put inj 5 (by decide) (al (kv 5) (Sum.inr f.name:aM) (.ref wl));have c3:Same (hl H2) (hl H8):=by have z1:Same (hl H2) (hl (upd H2 b (.tup [.int i,.ref f.fa]))):=(Same.new (o:=.tup [.int i,.ref f.fa]) hb).hl;have z2:=e8.hl;rw[lK (o6.dc 3 (by decide)),lK (o5.dc 2 (by decide)),lK (o4.dc 1 (by decide)),lK (o3.dc 0 (by decide))] at z2;exact z1.trans z2
     have c4:Same (hl H8) (hl HA):=by have z2:=eA.hl;rw[lK (o8.dc 4 (by decide))] at z2;exact z2
     have c5:hl (upd HA (d 5) (.dK (al (kv 5) (Sum.inr f.name:aM) (.ref wl))))=hl HA:=lK (oA.dc 5 (by decide));refine⟨_,_,_,λj=>if j=i then nl else nlf j,λj=>if j=i then wl else wlf j,rfl,sB,oB,?_,?_,?_,?_,?_,?_,λj g hj hg=>?_,λj hj=>?_⟩
     . show al (kv 0) (Sum.inr f.name:aM) (V.int i)=_;rw[k0];exact jR hi nd (λ_ _ _=>rfl) rfl
     . show al (kv 1) (Sum.inr f.name:aM) f.fo=_;rw[k1];exact jR hi nd (λ_ _ _=>rfl) rfl
     . show al (kv 2) (Sum.inr f.name:aM) (.ref f.pa)=_;rw[k2];exact jR hi nd (λ_ _ _=>rfl) rfl
     . show al (kv 3) (Sum.inr f.name:aM) (.ref f.ra)=_;rw[k3];exact jR hi nd (λ_ _ _=>rfl) rfl
     . show al (kv 4) (Sum.inr f.name:aM) (.ref nl)=_;rw[k4];exact jR hi nd (λj _ hj=>by show V.ref (nlf j)=V.ref (if j=i then nl else nlf j); rw[Ja (by omega)]) (by show V.ref nl=V.ref (if i=i then nl else nlf i); rw[Je rfl])
     . show al (kv 5) (Sum.inr f.name:aM) (.ref wl)=_;rw[k5];exact jR hi nd (λj _ hj=>by show V.ref (wlf j)=V.ref (if j=i then wl else wlf j); rw[Ja (by omega)]) (by show V.ref wl=V.ref (if i=i then wl else wlf i); rw[Je rfl])
     . rw[c5];by_cases hji:j=i
       . subst hji;rw[hi] at hg;cases hg;refine⟨?_,?_⟩
         . show hl HA (if j=j then nl else nlf j)=_;rw[Je rfl];exact c4 _ _ (xI hl8)
         . show K13.FoundN (hl HA) (if j=j then wl else wlf j) _ _;rw[Je rfl];exact hfn.hl
       . obtain⟨y1,y2⟩:=hnw j g (by omega) hg;refine⟨?_,?_⟩
         . show hl HA (if j=i then nl else nlf j)=_;rw[Ja hji];exact c4 _ _ (c3 _ _ y1)
         . show K13.FoundN (hl HA) (if j=i then wl else wlf j) _ _;rw[Ja hji];exact y2.mono (c3.trans c4)
     . have e:=kl j hj
       match j,hj with
       | 0,_=>exact K0 (gH _ _ _) (by omega)
       | 1,_=>exact K0 (gH _ _ _) (by omega)
       | 2,_=>exact K0 (gH _ _ _) (by omega)
       | 3,_=>exact K0 (gH _ _ _) (by omega)
       | 4,_=>exact K0 (gH _ _ _) (by omega)
       | 5,_=>exact K0 (gH _ _ _) (by omega)
       | n+6,h=>omega
   . rintro σ H2 ⟨v2,v3,kv,nlf,wlf,rfl,s2,o2,k0,k1,k2,k3,k4,k5,hnw,kl⟩;rw[fl,K2] at k0 k1 k2 k3 k4 k5;exact q H2 s2 ⟨λf hf=>(hE f hf).mono s2,nd,dx,fz,d,kv,nlf,wlf,hz,o2,k0,k1,k2,k3,k4,k5,λi f hi=>let ⟨y1,y2⟩:=hnw i f (by rw[fl]; exact(Jb.mp hi).1) hi; ⟨so _ _ y1,y2.mono so⟩⟩
end
end K86
namespace K86
open PySem L2 Gx Bt Pk Dc
section
variable {P:Program} {w:World} {K:W.Frag} {mg:Str->Option Value} {base:Heap} {t:Adr}
theorem IM:FnScope ["one"] ["one"] (af oO):=by walk_at "s"
theorem E9 (T:Txt K mg t):FnOk P w K mg base CX0 1 t.zk t.AS ["one"] (HD K):=by
 refine T.is_leaf.F.ok IM (λvs H Q E h=>?_) (λcdv A outer s H vs Q E hr h=>?_)
 . obtain⟨tr,v,rfl,hv,ht,q⟩:=h;rfl
 . obtain⟨tr,v,rfl,hv,ht,q⟩:=h;refine⟨_,(aH (@aZ _ _ _ _ (hW jx (aL (show aN _ (ai K) from ak) (aB 0) aE (λ_ _=>rfl)) (bB (aC aP (aC aP aD rfl) rfl)) (by with_unfolding_all rfl))) au),?_⟩;have sb:∀i<9,fS (V.str (gT i)) [V.str "box",V.str "num"]=false:=by decide +kernel
   cases tr with
   | box k =>
     obtain⟨p,x,y,rfl,e,h1,h2⟩:=eK hv;cases fk h1;exact⟨_,rfl,p,_,_,_,rfl,rfl,e,bP,cB,λu hu=>⟨u,_,rfl,.inr (aI.of aF),rfl,rfl,vq (Jt V.bl (show fS (V.str "box") [V.str "box",V.str "num"]=true by decide +kernel)) (q _ (Same.new hu))⟩⟩
   | num k =>
     obtain⟨p,x,y,rfl,e,h1,h2⟩:=eK hv;cases fk h1;exact⟨_,rfl,p,_,_,_,rfl,rfl,e,bP,cB,λu hu=>⟨u,_,rfl,.inr (aI.of aF),rfl,rfl,vq (Jt V.bl (show fS (V.str "num") [V.str "box",V.str "num"]=true by decide +kernel)) (q _ (Same.new hu))⟩⟩
   | op i l r =>
     obtain⟨p,xs,rfl,e,hx⟩:=iY hv;obtain⟨s,x,y,rfl,h1,bl,br⟩:=mI hx;cases fk h1;exact⟨_,rfl,p,_,_,_,rfl,rfl,e,bP,cB,λu hu=>⟨u,_,rfl,.inr (aI.of aF),rfl,rfl,vq (Jt V.bl ((sb i ht.1).trans (by simp [cu]))) (q _ (Same.new hu))⟩⟩
theorem zM:FnScope ["one"] ["one"] (af qA):=by walk_at "s"
theorem vP (T:Txt K mg t):∀n,FnOk P w K mg base CX0 (n+2) t.qP t.qS ["one"] (tW K n)
| 0=>T.leaves.F.ok zM (λvs H Q E h=>by obtain⟨tr,v,rfl,hd,hv,ht,q⟩:=h; exact absurd hd (KW _)) (λcdv A outer s H vs Q E hr h=>by obtain⟨tr,v,rfl,hd,hv,ht,q⟩:=h; exact absurd hd (KW _))
| n+1=>by
 have G_is_leaf:=E9 (P:=P) (w:=w) (base:=base) T;have G_leaves:FnOk P w K mg base CX0 (n+2) t.qP t.qS ["one"] (tW K n):=vP T n;refine T.leaves.F.ok zM (λvs H Q E h=>?_) (λcdv A outer s H vs Q E hr h=>?_)
 . obtain⟨tr,v,rfl,hd,hv,ht,q⟩:=h;rfl
 . obtain⟨tr,v,rfl,hd,hv,ht,q⟩:=h;refine⟨_,(aH (ae (ij (aU T.is_leaf G_is_leaf (hr.mono (by omega)) (aC (aB 0) aD rfl))) (@aJ _ _ _ (@aZ _ _ _ _ aE)) au) (@aJ _ _ _ (@aZ _ _ _ _ (@aK _ _ _ _ _ _ _ _ (aY bL) (aU T.leaves G_leaves (hr.mono (by omega)) (aC (aL (show aN _ (ai K) from ak) (aB 0) aE (λ_ _=>rfl)) aD rfl)) (aU T.leaves G_leaves (hr.mono (by omega)) (aC (aL (show aN _ (ai K) from ak) (aB 0) aE (λ_ _=>rfl)) aD rfl)))))),?_⟩;refine⟨_,rfl,tr,v,rfl,hv,ht,λH1 s1=>⟨_,rfl,?_⟩⟩;cases tr with
   | box k=>exact bF rfl (q _ s1)
   | num k=>exact bF rfl (q _ s1)
   | op i l r =>
     obtain⟨p,xs,rfl,e,hx⟩:=iY hv;obtain⟨s,x,y,rfl,h1,bl,br⟩:=mI hx;have d1:cu l<n:=by have:max (cu l) (cu r)+1<n+1:=hd; omega
     have d2:cu r<n:=by have:max (cu l) (cu r)+1<n+1:=hd; omega
     exact bC (by simp [cu]) ⟨_,rfl,p,_,_,_,rfl,rfl,s1.tup e,rfl,l,x,rfl,d1,DatV.mono s1 _ _ bl,ht.2.1,λH2 s2=>⟨_,rfl,p,_,_,_,rfl,rfl,s2.tup (s1.tup e),rfl,r,y,rfl,d2,DatV.mono (s1.trans s2) _ _ br,ht.2.2,λH3 s3=>⟨_,_,rfl,rfl,vq (Jt V.int (Int.natCast_add ..).symm) (q H3 ((s1.trans s2).trans s3))⟩⟩⟩
theorem m6:FnScope ["before","chain","found","level","frame","has_one"] ["before","chain"] (af qE):=by walk_at "s"
theorem Bw (T:Txt K mg t):FnOk P w K mg base CX0 1 t.A9 t.Am ["before","chain"] (Gv K):=by
 refine T.views_ahead.F.ok m6 (λvs H Q E h=>?_) (λcdv A outer s H vs Q E hr h=>?_)
 . obtain⟨b0,c,fns,m0,ch,z,zz,oz,ozz,rfl,hz,hzz,nd,h0,ok0,hc,hix,h3,q⟩:=h;rfl
 . obtain⟨b0,c,fns,m0,ch,z,zz,oz,ozz,rfl,hz,hzz,nd,h0,ok0,hc,hix,h3,q⟩:=h;refine⟨_,(aH (@aR _ _ 2 _ _ _ _ m6.nd rfl (Or.inl rfl) (bX aD) (by rfl) (by walk_at "f")) (aH (dI PassesOwn.never rfl (tJ rfl T.b_enumerate (aC (aB 1) aD rfl)) (fL rfl (cC (ag (i:=3) m6.nd rfl (Or.inl rfl)) (cC (ag (i:=4) m6.nd rfl (Or.inl rfl)) fH))) (aH (@aR _ _ 5 _ _ _ _ m6.nd rfl (Or.inl rfl) (oR (hW (aY ia) (aB 3) (bU (show aw _ (.builtin "len") (cU K) from cb) (by rfl) T.b_len bV (aC (aL (show aN _ (ai K) from ak) (aB 0) aE (λ_ _=>rfl)) aD rfl)) (aW _)) (pU (hW az (aL (show aN _ (ai K) from ak) (aL (show aN _ (ai K) from ak) (aL (show aN _ (ai K) from ak) (aB 0) aE (λ_ _=>rfl)) (aB 3) (λ_ _=>rfl)) aE (λ_ _=>rfl)) (aL (show aN _ (ai K) from ak) (aB 4) aE (λ_ _=>rfl)) (aW _)))) (by rfl) (by walk_at "f")) (@aJ _ _ _ (@cj _ _ _ _ (cH Jk Jp Jq dY (aB 2) (aC (@xY _ _ _ _ _ _ _ _ (ij (aB 5)) (aL (show aN _ (b6 K) from bE) (aL (show aN _ (ai K) from ak) (aB 0) aE (λ_ _=>rfl)) (aB 3) (λ_ _=>rfl)) (bX aD)) aD rfl)) (by rfl))))) (@aJ _ _ _ (@aZ _ _ _ _ (aB 2))))),?_⟩;obtain⟨bA,cv,wv,rfl,hb,hcv,hwv⟩:=eK h0;obtain⟨cA,cs,rfl,hcs,dcs⟩:=iY hcv;obtain⟨wA,ws,rfl,hws,dws⟩:=fh hwv;obtain⟨chA,fs,rfl,hfs,dfs⟩:=iY hc;have lf:fs.length=ch.length:=by rw[cQ dfs,JR]
   have lcs:cs.length=m0.ch.length:=by rw[cQ dcs,JR]
   refine⟨ci,λl hl=>?_⟩;have nlz:l≠z:=(aV hz hl).symm;have toL:∀{H2:Hp},Same H H2->Same (ers zz (ers z H)) (ers zz (ers z (ers l H2))):=λs=>Same.ers (Same.ers (gY s hl));have toH:Same (ers zz (ers z H)) H:=bY.trans bY;have hb:=toH.tup hb;have hcs:=toH.tup hcs;have hws:=toH.seq hws;refine⟨_,rfl,chA,rfl,⟨_,(Same.new hl).tup hfs⟩,(let Jv1:Nat->St->Hp->Prop:=λi σ H2=>∃v3 v4 v5:Option V,σ=[some (.ref bA),some (.ref chA),some (.ref l),v3,v4,v5]/\Same H H2/\∃xs,H2 l=some (.lst xs)/\DatAll K (ers zz (ers z (ers l H2))) (jI m0 ch i) xs; rG (xs:=fs) Jv1 ⟨_,_,_,rfl,Same.new hl,_,aF,bo⟩ ?_ ?_ ?_)⟩
   . rintro i σ H2 hi ⟨v3,v4,v5,rfl,s2,_⟩;exact s2.tup hfs
   . rintro i y σ H2 b hy' ⟨v3,v4,v5,rfl,s2,xs,e2,d2⟩ hb';have ilt:i<fs.length:=(Jb.mp hy').1;have lxs:xs.length=i:=by rw[cQ d2]; unfold jI; rw[JR,KI]
     obtain⟨c,hcc,hv⟩:=jU dfs hy';obtain⟨fA,x1,x2,rfl,hf,hx1,hx2⟩:=eK hv;cases fk hx1;have s3:=Same.new (o:=.tup [.int i,.ref fA]) hb';refine⟨b,_,rfl,aI.of aF,rfl,_,_,rfl,_,_,rfl,rfl,?_⟩;have d3:=DatAll.mono (Same.ers (l:=zz) (Same.ers (l:=z) (Same.ers (l:=l) s3))) _ _ d2;have e3:=s3 _ _ e2;have s03:=s2.trans s3;generalize upd H2 b (.tup [.int i,.ref fA])=H3 at s3 d3 e3 s03 ⊢;have cg:(ch.getD i (0,0)).1=c.1:=by rw[JU,hcc]; rfl
     have ln:xs.length<sizeLine:=bT (n:=xs.length+1) (by omega);have fin:∀(v:V) (H4:Hp),Same H3 H4->DatV K (ers zz (ers z (ers l H4))) (dj (cF m0 i c.1)) v->∃xs',upd H4 l (.lst (xs++[v])) l=some (.lst xs')/\DatAll K (ers zz (ers z (ers l (upd H4 l (.lst (xs++[v])))))) (jI m0 ch (i+1)) xs':=λv H4 s4 hv4=>by refine⟨_,aF,?_⟩;rw[eu];unfold jI;rw[Kb,Jf];refine gG (DatAll.mono (Same.ers (Same.ers (Same.ers s4))) _ _ d3) ?_;show DatV K (ers zz (ers z (ers l H4))) (dj (cF m0 i (ch.getD i (0,0)).1)) v;rw[cg];exact hv4
     refine⟨_,rfl,_,rfl,bA,_,_,_,rfl,rfl,s03.tup hb,bP,cA,_,rfl,.inr (s03.tup hcs),_,_,rfl,rfl,?_⟩;refine⟨_,rfl,?_⟩;by_cases hi:i<m0.ch.length
     case neg =>
       have ha:cF m0 i c.1=[]:=by unfold cF gJ; rw[KB (by omega)]; rfl
       have hn:¬ decide ((i:Int)<(cs.length:Nat))=true:=by rw[Jg]; omega
       exact bC hn ⟨_,rfl,.inl ⟨rfl,_,aG.of e3⟩,_,rfl,_,rfl,bC Jj ⟨ci,λe he=>⟨l,_,_,rfl,rfl,Same.new he _ _ e3,ln,_,_,_,rfl,(s03.trans (Same.new he)).upd hl,fin _ _ (Same.new he) (by rw[ha]; exact cf (aG.of (by rw[aS (aV (s03 _ _ hzz) he).symm,aS (aV (s03 _ _ hz) he).symm,aS (aV e3 he).symm]; exact aF)) bo)⟩⟩⟩
     obtain⟨c0,hc0⟩:∃c0,m0.ch[i]?=some c0:=⟨_,JV hi⟩
     obtain⟨v0,hv0⟩:∃v0,m0.vs[i]?=some v0:=⟨_,JV (by rw[ok0.vl]; exact hi)⟩
     obtain⟨x0,hx0,dx0⟩:=fg dcs hc0;obtain⟨w0,hw0,dw0⟩:=fg dws hv0;obtain⟨gA,y1,y2,rfl,hg,hy1,hy2⟩:=eK (DatV.mono toH _ _ dx0);cases fk hy1;refine bF (by walk_at "o") ?_;refine⟨_,rfl,bA,_,_,_,rfl,rfl,s03.tup hb,bP,_,rfl,cA,_,_,_,rfl,rfl,s03.tup hcs,bh hx0,gA,_,_,_,rfl,rfl,s03.tup hg,bP,_,rfl,fA,_,_,_,rfl,rfl,s03.tup hf,bP,rfl,?_⟩;have hl0:gJ m0 i c.1=decide (c0.1=c.1):=by unfold gJ; rw[hc0]
     by_cases hk:c0.1=c.1
     . have ha:cF m0 i c.1=v0:=by unfold cF; rw[hl0,K3 hk,Je rfl,JU,hv0]; rfl
       exact⟨_,rfl,.inl ⟨rfl,_,aG.of e3⟩,_,rfl,_,rfl,bF (K3 (by rw[hk])) ⟨_,rfl,bA,_,_,_,rfl,rfl,s03.tup hb,rfl,_,rfl,wA,_,_,_,rfl,rfl,s03.seq hws,bh hw0,l,_,_,rfl,rfl,e3,ln,_,_,_,rfl,s03.upd hl,fin _ _ (Same.refl _) (by rw[ha]; exact DatV.mono (toL s03) _ _ dw0)⟩⟩
     . have ha:cF m0 i c.1=[]:=by unfold cF; rw[hl0,KF hk,Ja Jj]
       exact⟨_,rfl,.inl ⟨rfl,_,aG.of e3⟩,_,rfl,_,rfl,bC (λz=>hk (HR nd (ok0.ix c0 (JW hc0)).1 (hix c (JW hcc)) (V.str.inj (dG z)))) ⟨ci,λe he=>⟨l,_,_,rfl,rfl,Same.new he _ _ e3,ln,_,_,_,rfl,(s03.trans (Same.new he)).upd hl,fin _ _ (Same.new he) (by rw[ha]; exact cf (aG.of (by rw[aS (aV (s03 _ _ hzz) he).symm,aS (aV (s03 _ _ hz) he).symm,aS (aV e3 he).symm]; exact aF)) bo)⟩⟩⟩
   . rintro σ H2 ⟨v3,v4,v5,rfl,s2,xs,e2,d2⟩;rw[lf] at d2;exact⟨_,rfl,q l xs H2 s2 hl e2 (DatAll.mono (Same.ers (Same.ers bY)) _ _ d2)⟩
theorem HG:FnScope ["self","flows","bits"] ["self","flows","bits"] (af nQ):=by walk_at "s"
theorem Gw (T:Txt K mg t):FnOk P w K mg base (aa P w) 1 t.zX t.AF ["self","flows","bits"] (GW K t):=by
 refine T.zS.F.okE HG (λvs H Q E h=>?_) (λcdv A outer s H vs Q E hr h=>?_)
 . obtain⟨x,dx,fl,fns,l,rfl,hx,hF,ok,hl,q1,q2⟩:=h;rfl
 . obtain⟨x,dx,fl,fns,l,rfl,hx,hF,ok,hl,q1,q2⟩:=h;refine⟨_,(aH (ae (r9 (ij (bU (Gd rfl) (by rfl) T.b_all Eg (aC (gV (N':=["sign"]) (js:=[none]) (by kernel_rfl) rfl (Dk (aB 2)) dn (λ_ _ _ _=>(ag (i:=0) (show(["sign"]:List Str).Nodup by decide +kernel) rfl (Or.inl rfl) (.inr rfl))) (λ_ _ _ _=>dX) (λ_ _ _ _=>(hW (show c6 _ (compareOp .In) (rIn K false) from jx) (aB 0) (bB (aC aP (aC aP aD rfl) rfl)) (by with_unfolding_all rfl)))) aD rfl)))) (@aJ _ _ _ (gh T.x_bB T.i0_bB rfl gv)) au) (aH (gk (aB 0) (aB 1) (by rfl)) (aH (gk (aB 0) (ez (z9 rfl) (by rfl) T.b_list j5 (aC (dk (aB 1) (by rfl)) aD rfl)) (by rfl)) (aH (gk (aB 0) (aB 2) (by rfl)) (@aJ _ _ _ (gk (aB 0) aE (by rfl))))))),?_⟩;have hs:(tx l).length<=1000000:=by rw[cX]; exact hl
   refine⟨_,rfl,_,rfl,λpL hpL=>Do hs (λi acc H2=>Same H H2/\H2 pL=some (.lst acc)/\acc=((l.take i).map sU).map V.bl) ⟨Same.new hpL,aF,rfl⟩ ?_ ?_ ?_⟩
   . rintro i acc H2 hi ⟨s2,e2,rfl⟩;exact⟨e2,by rw[JR,JR,Ju]; omega⟩
   . rintro i c acc H2 hc ⟨s2,e2,rfl⟩;have hc:l[i]?=some c:=by have:l.toArray[i]?=some c:=hc;simpa using this
     refine⟨_,rfl,cB,λu hu=>⟨u,_,rfl,.inr (aI.of aF),rfl,rfl,Same.new hu _ _ e2,(s2.trans (Same.new hu)).upd hpL,aF,?_⟩⟩;rw[KH,hc,Jf,Jf];show _++[V.bl (fS (V.str { cps:=#[c] }) [V.str (Str.ofString "0"),V.str (Str.ofString "1")])]=_;rw[EI];rfl
   rintro acc H2 ⟨s2,e2,rfl⟩;rw[cX,K2] at e2;refine⟨pL,l.map sU,rfl,aG.of e2,_,rfl,?_⟩;by_cases hb:ax l
   case neg=>exact bF (by rw[Bool.not_eq_true']; exact Bool.eq_false_iff.mpr λz=>hb (yC.mp z)) (q2 hb H2 (bY.trans s2))
   refine bC (by rw[yC.mpr hb]; decide) ?_;have hx2:=s2 _ _ hx;have hF2:=hF.mono (Same.ers s2);refine⟨_,rfl,_,rfl,x,_,_,_,rfl,hx2,T.bu.cl,T.k6,(by decide),?_⟩;have hF3:=hF2;rw[<- eu (o:=.ins t.c_bR dx (cP (Str.ofString "flows") (.ref fl) []))] at hF3;have hx3:upd H2 x (.ins t.c_bR dx (cP (Str.ofString "flows") (.ref fl) [])) x=some (.ins t.c_bR dx (cP (Str.ofString "flows") (.ref fl) [])):=aF;have s3:Same (ers x H) (upd H2 x (.ins t.c_bR dx (cP (Str.ofString "flows") (.ref fl) []))):=(Same.ers s2).trans oG;generalize upd H2 x (.ins t.c_bR dx (cP (Str.ofString "flows") (.ref fl) []))=H3 at hF3 hx3 s3 ⊢;have hF3':=hF3.mono bY;obtain⟨dxf,fz,d,kv,nl,wl,o0,o1,o2,o3,o4,o5,o6,o7,o8⟩:=hF3'.ob;refine⟨_,rfl,fl,_,_,_,_,rfl,o1.ob,T.eU.cl,T.k8,Fl.lk_number _ _,_,_,rfl,o1.dc 0 (by decide),λcl hcl=>?_⟩;rw[o2,DL];have s4:=Same.new (o:=.lst (fns.map λf=>V.str f.name)) hcl;have hx4:=s4 _ _ hx3;have nxc:=aV hx3 hcl;have hF4:=hF3.mono (Same.ers s4);have s34:=s3.trans s4;have c4:upd H3 cl (.lst (fns.map λf=>V.str f.name)) cl=some (.lst (fns.map λf=>V.str f.name)):=aF;generalize upd H3 cl (.lst (fns.map λf=>V.str f.name))=H4 at hx4 hF4 s34 c4 ⊢;refine⟨_,rfl,x,_,_,_,rfl,hx4,T.bu.cl,T.j',(by show 1<1000; decide),_,rfl,_,rfl,x,_,_,_,rfl,aF,T.bu.cl,T.jz,(by show 2<1000; decide),_,rfl,x,_,_,_,rfl,aF,T.bu.cl,T.il,(by show 3<1000; decide),?_⟩;have eh:∀o1 o2 o3:HO,upd (upd (upd H4 x o1) x o2) x o3=upd H4 x o3:=λo1 o2 o3=>by
     funext b;by_cases hb:b=x
     . subst hb; rw[aF,aF]
     . rw[aQ hb,aQ hb,aQ hb,aQ hb]
   rw[eh];refine q1 hb cl _ ((Dc.Same.ers2 s34).trans oG) ⟨⟨l,0,aF,Jw _,rfl,hl⟩,?_,?_,hb,ok⟩
   . show F2.FlowsAt _ _ (ers x _) _ _;rw[eu];exact hF4
   . show aG _ (ers x _) _ _;rw[eu];exact aG.of (by rw[aS nxc.symm]; exact c4)
theorem vt:FnScope ["self","count","found"] ["self","count"] (af og):=by walk_at "s"
theorem tV (T:Txt K mg t):FnOk P w K mg base (aa P w) 1 t.zc t.AJ ["self","count"] (Cy K t):=by
 refine T.gK.F.okE vt (λvs H Q E h=>?_) (λcdv A outer s H vs Q E hr h=>?_)
 . obtain⟨R,fns,r,c,rfl,hc,h,q1,q2⟩:=h;rfl
 . obtain⟨R,fns,r,c,rfl,hc,h,q1,q2⟩:=h;refine⟨_,(aH (@aR _ _ 2 _ _ _ _ vt.nd rfl (Or.inl rfl) (fX ie (dk (aB 0) (by rfl)) (db (dk (aB 0) (by rfl))) (db (@aK _ _ _ _ _ _ _ _ (aY bL) (dk (aB 0) (by rfl)) (aB 1)))) (by rfl) (by walk_at "f")) (aH (ae (ac (aY ia) (bU pj (by rfl) T.b_len bV (aC (aB 2) aD rfl)) (aB 1) (aW _)) (@aJ _ _ _ (gh T.x_bB T.i0_bB rfl gv)) au) (aH (CQ (aB 0) (aB 1) wN) (@aJ _ _ _ (@aZ _ _ _ _ (aB 2)))))),?_⟩;obtain⟨l,p,ho,hp,rfl,hL⟩:=h.ob;have hs:∀m:List Nat,m.length<=1000000->(tx m).length<=sizeLine:=λm hm=>by rw[cX];exact K0 hm (by decide)
   refine⟨_,rfl,R.x,_,_,_,_,rfl,ho,T.bu.cl,T.jz,rfl,_,rfl,R.x,_,_,_,_,rfl,ho,T.bu.cl,T.il,rfl,_,rfl,_,rfl,R.x,_,_,_,_,rfl,ho,T.bu.cl,T.il,rfl,_,rfl,_,_,rfl,rfl,_,rfl,_,rfl,hs l hL,?_⟩;rw[re];refine⟨_,rfl,_,rfl,hs _ (by rw[Ju,KD]; omega),_,rfl,_,_,rfl,rfl,_,rfl,?_⟩;have el:(tx ((l.drop p).take c)).length=min c (l.drop p).length:=by rw[cX,Ju]
   by_cases hc':c<=(l.drop p).length
   . refine iN ?_ (by simp only[el,Jg]; omega);exact⟨_,rfl,R.x,_,_,_,_,rfl,ho,T.bu.cl,T.il,rfl,_,rfl,_,_,rfl,rfl,_,_,ho,(by show 4<1000; decide),_,rfl,q1 _ _ (Je hc') _ _ oG (h.mv hp hL hc') rfl⟩
   . exact iP (q2 (Ja hc') H bY) (by simp only[el,Jg]; omega)
theorem ll:FnScope ["self","found","k","group"] ["self"] (af nj):=by walk_at "s"
theorem wm (T:Txt K mg t):FnOk P w K mg base (aa P w) 2 t.zV t.AD ["self"] (Cp K t):=by
 have G_BitReader_take:=tV (P:=P) (w:=w) (base:=base) T;refine T.nA.F.okE ll (λvs H Q E h=>?_) (λcdv A outer s H vs Q E hr h=>?_)
 . obtain⟨R,fns,r,rfl,h,q1,q2⟩:=h;rfl
 . obtain⟨R,fns,r,rfl,h,q1,q2⟩:=h;refine⟨_,(aH (@aR _ _ 1 _ _ _ _ ll.nd rfl (Or.inl rfl) aE (by rfl) (by walk_at "f")) (aH (dI qa rfl (eZ rfl T.b_range (aC (kK T.JK) aD rfl)) (ag (i:=2) ll.nd rfl (Or.inl rfl)) (aH (@aR _ _ 3 _ _ _ _ ll.nd rfl (Or.inl rfl) (eO (aB 0) T.bu.cl T.gK.m G_BitReader_take (hr.mono (by decide)) T.gK.b .nil df (aC aE aD rfl)) (by rfl) (by walk_at "f")) (aH (F5 (i:=1) ll.nd rfl (Or.inl rfl) (@aK _ _ _ _ _ _ _ _ Gc (ez xQ (by rfl) T.b_int tZ (aC (fX ie (aB 3) (db aE) hJ) (aC aE aD rfl) rfl)) (@aK _ _ _ _ _ _ _ _ (bj gP) aE (aB 2))) wN) (@aJ _ _ _ (ae (ac az (aL ja (aB 3) aE (λ_ _=>rfl)) aP (aW _)) (aH (ae (@PW.pt _ _ _ (fi (ac az (aB 3) aP (aW _)) (gI (ac (aY kP) (aB 2) aE (aW _))))) (@aJ _ _ _ (gh T.x_bB T.i0_bB rfl gv)) au) (@aJ _ _ _ (@aZ _ _ _ _ (aB 1)))) au))))) (@aJ _ _ _ (gh T.x_bB T.i0_bB rfl gv)))),?_⟩;refine⟨16,rfl,by decide,by decide,?_⟩;refine(let Jv1:Nat->St->Hp->Prop:=λi σ H2=>∃(acc:Nat) (v2 v3:Option V) (r2:List Nat),σ=[some (.ref R.x),some (.int acc),v2,v3]/\Same (ers R.x H) H2/\RdAt K t.c_bR t.bK H2 R fns r2/\cG 16 0 0 r=cG (16 - i) i acc r2; i6 (lo:=0) (n:=16) Jv1 ⟨0,_,_,r,rfl,bY,h,rfl⟩ ?_ ?_)
   . rintro i σ H2 hi ⟨acc,v2,v3,r2,rfl,s2,h2,e2⟩;obtain⟨l,p,ho,-⟩:=h2.ob;refine⟨_,rfl,R.x,_,_,rfl,ho,rfl,R,fns,r2,4,rfl,by decide,h2,λa r3 ha v H3 s3 h3 hv=>?_,λhn H3 s3=>q2 (by rw[e2]; exact Fg (rL hn)) H3 (sE s2 s3)⟩;subst hv;obtain⟨h4,rfl,rfl⟩:=rS ha;obtain⟨b0,b1,b2,b3,r4,rfl⟩:=wP h4;have hb:∀x∈[b0,b1,b2,b3],x=48\/x=49:=λx hx=>h2.bt x (by simp at hx ⊢; omega);have ei:16 - i=(16 - (i+1))+1:=by omega
     rw[ei] at e2;have e2:cG 16 0 0 r=if b0=48 then(if(b1=48/\b2=48/\b3=48)/\0<i then none else some (acc+bv [b1,b2,b3] * 8 ^ i,r4)) else cG (16 - (i+1)) (i+1) (acc+bv [b1,b2,b3] * 8 ^ i) r4:=e2;have s3:=sE s2 s3;refine⟨_,rfl,_,rfl,_,rfl,_,rfl,(by show 4<=_; decide),_,(bv [b1,b2,b3]:Int),rfl,(by show(Txt.slice (tx (b0 :: [b1,b2,b3])) (some 1) none,_)∈_;rw[DP];exact C3 _ (jn (hb b1 (by simp))) _ (jn (hb b2 (by simp))) _ (jn (hb b3 (by simp)))),_,rfl,_,_,rfl,rfl,.inl ⟨by decide,by decide⟩,_,_,rfl,rfl,⟨by omega,by omega,?_⟩,_,_,rfl,rfl,?_⟩
     . have:=(bv3 (hb b1 (by simp)) (hb b2 (by simp)) (hb b3 (by simp))).1;omega
     dsimp only;rw[Dl];refine⟨_,rfl,_,0,b0,rfl,rfl,(by show 4<=_; decide),rfl,rfl,_,rfl,?_⟩;have c0:decide (V.str { cps:=#[b0] }=V.str (Str.ofString "0"))=decide (b0=48):=by have:=jt (a:=[b0]) (b:=[48]);rw[show decide ([b0]=[48])=decide (b0=48) by simp] at this;exact this
     rw[c0];rcases hb b0 (by simp) with rfl|rfl
     . rw[Je rfl] at e2;refine iP ⟨_,rfl,rfl,_,rfl,?_⟩;have c4:decide (V.str (tx [48,b1,b2,b3])=V.str (Str.ofString "0000"))=decide (b1=48/\b2=48/\b3=48):=by have:=jt (a:=[48,b1,b2,b3]) (b:=[48,48,48,48]);rw[show decide ([48,b1,b2,b3]=[48,48,48,48])=decide (b1=48/\b2=48/\b3=48) by simp] at this;exact this
       have fin:¬ ((b1=48/\b2=48/\b3=48)/\0<i)->Q (.int ((acc+bv [b1,b2,b3] * 8 ^ i:Nat):Int)) H3:=λhn=>q1 _ r4 (by rw[e2,Ja hn]) _ H3 s3 h3 rfl;show if decide (V.str (tx [48,b1,b2,b3])=V.str (Str.ofString "0000"))=true then _ else _;rw[c4];by_cases hz:b1=48/\b2=48/\b3=48
       . refine bF (by rw[Jg]; exact hz) ⟨_,rfl,_,_,rfl,rfl,_,rfl,?_⟩;by_cases h0:0<i
         . exact bF (by walk_at "o") (q2 (by rw[e2,Je ⟨hz,h0⟩]) H3 s3)
         . exact bC (by walk_at "o") ⟨_,rfl,fin λz=>h0 z.2⟩
       . exact bC (by rw[Jg]; exact hz) (iN ⟨_,rfl,fin λz=>hz z.1⟩)
     . rw[Ja (by decide)] at e2;exact iN ⟨_,_,_,r4,rfl,s3,h3,e2⟩
   . rintro σ H2 ⟨acc,v2,v3,r2,rfl,s2,h2,e2⟩;exact q2 (by rw[e2]; rfl) H2 s2
theorem vp:FnScope ["self","least","most","found"] ["self","least","most"] (af pz):=by walk_at "s"
theorem ot (T:Txt K mg t):FnOk P w K mg base (aa P w) 3 t.za t.AH ["self","least","most"] (IW K t):=by
 have G_BitReader_any_number:=wm (P:=P) (w:=w) (base:=base) T;refine T.i3.F.okE vp (λvs H Q E h=>?_) (λcdv A outer s H vs Q E hr h=>?_)
 . obtain⟨R,fns,r,lo,hi,rfl,h,q1,q2⟩:=h;rfl
 . obtain⟨R,fns,r,lo,hi,rfl,h,q1,q2⟩:=h;refine⟨_,(aH (@aR _ _ 3 _ _ _ _ vp.nd rfl (Or.inl rfl) (qL (aB 0) T.bu.cl T.nA.m G_BitReader_any_number (hr.mono (by decide)) T.nA.b .nil df) (by rfl) (by walk_at "f")) (aH (ae (@PW.pt _ _ _ (qY (ac (aY ia) (aB 3) (aB 1) (aW _)) (qh (ac (aY kP) (aB 3) (aB 2) (aW _))))) (@aJ _ _ _ (gh T.x_bB T.i0_bB rfl gv)) au) (@aJ _ _ _ (@aZ _ _ _ _ (aB 3))))),?_⟩;obtain⟨l,p,ho,-⟩:=h.ob;refine⟨_,rfl,R.x,_,_,rfl,ho,rfl,R,fns,r,rfl,h,λn r2 hn v H2 s2 h2 hv=>?_,λhn H2 s2=>q2 (by unfold bJ; rw[hn]; rfl) H2 s2⟩;subst hv;have e:bJ lo hi r=if lo<=n/\n<=hi then some (n,r2) else none:=by unfold bJ; rw[hn]; rfl
   refine⟨_,rfl,_,rfl,_,_,rfl,rfl,_,rfl,?_⟩;by_cases h1:n<lo
   . exact bF (by walk_at "o") (iP (q2 (by rw[e,Ja (by omega)]) H2 s2))
   . refine bC (by walk_at "o") ⟨_,rfl,_,rfl,_,_,rfl,rfl,_,rfl,?_⟩;by_cases h3:hi<n
     . exact bF (by walk_at "o") (q2 (by rw[e,Ja (by omega)]) H2 s2)
     . exact bC (by walk_at "o") ⟨_,rfl,q1 n r2 (by rw[e,Je (by omega)]) _ H2 s2 h2 rfl⟩
theorem ul:FnScope ["self","function"] ["self"] (af oW):=by walk_at "s"
theorem Co (T:Txt K mg t):FnOk P w K mg base (aa P w) 4 t.zW t.AE ["self"] (Dq K t):=by
 have G_BitReader_number:=ot (P:=P) (w:=w) (base:=base) T;refine T.u6.F.okE ul (λvs H Q E h=>?_) (λcdv A outer s H vs Q E hr h=>?_)
 . obtain⟨R,fns,r,rfl,h,q1,q2⟩:=h;rfl
 . obtain⟨R,fns,r,rfl,h,q1,q2⟩:=h;refine⟨_,(aH (@aR _ _ 1 _ _ _ _ ul.nd rfl (Or.inl rfl) (aL (show aN _ (b6 K) from bE) (dk (aB 0) (by rfl)) (eO (aB 0) T.bu.cl T.i3.m G_BitReader_number (hr.mono (by decide)) T.i3.b .nil df (aC aE (aC (@aK _ _ _ _ _ _ _ _ (aY gn) (bU (show aw _ (.builtin "len") (cU K) from cb) (by rfl) T.b_len bV (aC (dk (aB 0) (by rfl)) aD rfl)) aE) aD rfl) rfl)) (λ_ _=>rfl)) (by rfl) (by walk_at "f")) (@aJ _ _ _ (@aZ _ _ _ _ (bB (aC (aB 1) (aC (eO (aB 0) T.bu.cl T.i3.m G_BitReader_number (hr.mono (by decide)) T.i3.b .nil df (aC aE (aC (@aK _ _ _ _ _ _ _ _ (aY gn) (bU (show aw _ (.builtin "len") (cU K) from cb) (by rfl) T.b_len bV (aC (jM (eG hr.units) (dk (dk (aB 0) (by rfl)) (by rfl)) (aB 1) (λ_ _=>rfl)) aD rfl)) aE) aD rfl) rfl)) aD rfl) rfl))))),?_⟩;obtain⟨l,p,ho,-⟩:=h.ob;have hls:=Same.seq bY h.ls;have n1:1<=fns.length:=by have:=h.ok.n1; unfold ay at this; rw[JR] at this; exact this
   have e1:(((fns.map λf=>V.str f.name).length:Nat):Int) - 1=((fns.length - 1:Nat):Int):=by rw[JR]; omega
   refine⟨_,rfl,R.x,_,_,_,_,rfl,ho,T.bu.cl,T.j',rfl,_,rfl,R.x,_,_,rfl,ho,rfl,_,rfl,R.x,_,_,_,_,rfl,ho,T.bu.cl,T.j',rfl,R.cl,_,rfl,.inl hls,_,_,rfl,rfl,R,fns,r,0,fns.length - 1,(by rw[e1]; rfl),h,λk r2 hk v H2 s2 h2 hv=>?_,λhn H2 s2=>q2 (by unfold fj ay; rw[JR,hn]; rfl) H2 s2⟩;subst hv;have hkb:=(jA h.bt hk).2.2.1;obtain⟨f,hfi⟩:∃f,fns[k]?=some f:=⟨_,JV (by omega)⟩
   obtain⟨l2,p2,ho2,-⟩:=h2.ob;have hF2:=h2.fl.mono bY;obtain⟨dx,fz,d,kv,nl,wl,o0,o1,o2,o3,o4,o5,o6,o7,o8⟩:=hF2.ob;have hg:=ff.k (k:=(Sum.inr f.name:aM)) (o1.dc 3 (by decide));rw[o5,F2.kD_at _ hF2.nd hfi] at hg;have hfn:=hF2.all f (JW hfi);have hrl:(ay fns).getD k 0=f.rs.length:=by unfold ay; rw[JU,Jc,hfi]; rfl
   have hp1:=(h.ok.at (k:=k) (by unfold ay; rw[JR]; omega)).1;rw[hrl] at hp1;have e2:(((f.rs.map λw=>V.ref w.r).length:Nat):Int) - 1=((f.rs.length - 1:Nat):Int):=by rw[JR]; omega
   have eo:fj (ay fns) r=(bJ 0 (f.rs.length - 1) r2).map λy=>((k,y.1),y.2):=by unfold fj;rw[show(ay fns).length=fns.length by unfold ay; rw[JR],hk];show(bJ 0 ((ay fns).getD k 0 - 1) r2).map _=_;rw[hrl]
   refine⟨R.cl,_,_,_,rfl,rfl,Same.seq bY h2.ls,bh (j:=k) (by rw[Jc,hfi]; rfl),?_⟩;refine⟨_,rfl,_,rfl,R.x,_,_,rfl,ho2,rfl,_,rfl,R.x,_,_,_,_,rfl,ho2,T.bu.cl,T.k6,rfl,R.fl,_,_,_,_,rfl,o1.ob,T.eU.cl,T.k9,Fl.lk_rows _ _,_,rfl,_,_,rfl,hg,f.ra,_,rfl,.inr hfn.rw_,_,_,rfl,rfl,R,fns,r2,0,f.rs.length - 1,(by rw[e2]; rfl),h2,λj r3 hj v H3 s3 h3 hv=>?_,λhn H3 s3=>q2 (by rw[eo,hn]; rfl) H3 (sE s2 s3)⟩;subst hv;obtain⟨l3,p3,ho3,-⟩:=h3.ob;refine⟨cB,λu hu=>?_⟩;have s4:=Same.new (o:=.tup [V.str f.name,V.int j]) hu;have nx:=aV ho3 hu;refine q1 (k,j) r3 (by rw[eo,hj]; rfl) _ _ ((sE s2 s3).trans s4) (h3.grow s4) ?_;have q:aI K (ers R.x (upd H3 u (.tup [V.str f.name,V.int j]))) u [V.str f.name,V.int j]:=aI.of (by rw[aS nx.symm]; exact aF);exact dU q (by rw[jf hfi]; exact de _) (da _)
theorem mQ:FnScope ["self","most","sign","left","right"] ["self","most"] (af nh):=by walk_at "s"
theorem xB (T:Txt K mg t):∀n,FnOk P w K mg base (aa P w) (n+13) t.qO t.qQ ["self","most"] (tM K t n)
| 0=>T.jG.F.okE mQ (λvs H Q E h=>by obtain⟨R,fns,r,f,most,rfl,hd,hm,h8,h,q1,q2⟩:=h; exact absurd hd (KW _)) (λcdv A outer s H vs Q E hr h=>by obtain⟨R,fns,r,f,most,rfl,hd,hm,h8,h,q1,q2⟩:=h; exact absurd hd (KW _))
| n+1=>by
 have G_leaves:FnOk P w K mg base CX0 12 t.qP t.qS ["one"] (tW K 10):=vP T 10;have G_BitReader_reckoning:FnOk P w K mg base (aa P w) (n+13) t.qO t.qQ ["self","most"] (tM K t n):=xB T n;have G_BitReader_take:=tV (P:=P) (w:=w) (base:=base) T;have G_BitReader_number:=ot (P:=P) (w:=w) (base:=base) T;have G_BitReader_any_number:=wm (P:=P) (w:=w) (base:=base) T;refine T.jG.F.okE mQ (λvs H Q E h=>?_) (λcdv A outer s H vs Q E hr h=>?_)
 . obtain⟨R,fns,r,f,most,rfl,hd,hm,h8,h,q1,q2⟩:=h;rfl
 . obtain⟨R,fns,r,f,most,rfl,hd,hm,h8,h,q1,q2⟩:=h;refine⟨_,(aH (ae (ac (aY ia) (aB 1) aE (aW _)) (@aJ _ _ _ (gh T.x_bB T.i0_bB rfl gv)) au) (aH (ae (ac az (eO (aB 0) T.bu.cl T.gK.m G_BitReader_take (hr.mono (by omega)) T.gK.b .nil df (aC aE aD rfl)) aP (aW _)) (@aJ _ _ _ (@aZ _ _ _ _ (bB (aC aP (aC (eO (aB 0) T.bu.cl T.i3.m G_BitReader_number (hr.mono (by omega)) T.i3.b .nil df (aC aE (aC (kK T.JI) aD rfl) rfl)) aD rfl) rfl)))) au) (aH (ae (ac az (eO (aB 0) T.bu.cl T.gK.m G_BitReader_take (hr.mono (by omega)) T.gK.b .nil df (aC aE aD rfl)) aP (aW _)) (@aJ _ _ _ (@aZ _ _ _ _ (bB (aC aP (aC (qL (aB 0) T.bu.cl T.nA.m G_BitReader_any_number (hr.mono (by omega)) T.nA.b .nil df) aD rfl) rfl)))) au) (aH (@aR _ _ 2 _ _ _ _ mQ.nd rfl (Or.inl rfl) (ez xQ (by rfl) T.b_int tZ (aC (eO (aB 0) T.bu.cl T.gK.m G_BitReader_take (hr.mono (by omega)) T.gK.b .nil df (aC (kK T.JN) aD rfl)) (aC aE aD rfl) rfl)) (by rfl) (by walk_at "f")) (aH (ae (ac (aY FF) (aB 2) (bU (show aw _ (.builtin "len") (cU K) from cb) (by rfl) T.b_len bV (aC (j9 T.AB) aD rfl)) (aW _)) (@aJ _ _ _ (gh T.x_bB T.i0_bB rfl gv)) au) (aH (@aR _ _ 3 _ _ _ _ mQ.nd rfl (Or.inl rfl) (eO (aB 0) T.bu.cl T.jG.m G_BitReader_reckoning (hr.mono (by omega)) T.jG.b .nil df (aC (@aK _ _ _ _ _ _ _ _ (aY gn) (aB 1) aE) aD rfl)) (by rfl) (by walk_at "f")) (aH (@aR _ _ 4 _ _ _ _ mQ.nd rfl (Or.inl rfl) (eO (aB 0) T.bu.cl T.jG.m G_BitReader_reckoning (hr.mono (by omega)) T.jG.b .nil df (aC (@aK _ _ _ _ _ _ _ _ (aY gn) (aB 1) (aU T.leaves G_leaves (hr.mono (by omega)) (aC (aB 3) aD rfl))) aD rfl)) (by rfl) (by walk_at "f")) (@aJ _ _ _ (@aZ _ _ _ _ (bB (aC (aL (show aN _ (ai K) from ak) (j9 T.AB) (aB 2) (λ_ _=>rfl)) (aC (aB 3) (aC (aB 4) aD rfl) rfl) rfl))))))))))),?_⟩;refine⟨_,rfl,_,_,rfl,rfl,_,rfl,?_⟩;by_cases h1:most<1
   . exact bF (by walk_at "o") (q2 (tF h1) H bY)
   obtain⟨f,rfl⟩:∃g,f=g+1:=⟨f - 1,by omega⟩
   obtain⟨l,p,ho,-⟩:=h.ob;refine bC (by walk_at "o") ⟨_,rfl,R.x,_,_,rfl,ho,rfl,R,fns,r,1,rfl,by decide,h,λa r2 ha v H2 s2 h2 hv=>?_,λhn H2 s2=>q2 (by rw[oI hn]; exact IA) H2 s2⟩;subst hv;obtain⟨b0,rfl,rfl⟩:=pS ha;obtain⟨l2,p2,ho2,-⟩:=h2.ob;refine⟨rfl,_,rfl,?_⟩;rw[sI];rcases h.bt b0 (by simp) with rfl|rfl
   . refine iP ⟨_,rfl,R.x,_,_,rfl,ho2,rfl,R,fns,r2,0,127,rfl,h2,λk r3 hk v H3 s3 h3 hv=>?_,λhn H3 s3=>q2 (by rw[wM h1,hn]; rfl) H3 (sE s2 s3)⟩;subst hv;exact⟨cB,λu hu=>q1 (.box k) r3 (by rw[wM h1,hk]; rfl) _ _ ((sE s2 s3).trans (Same.new hu)) (h3.grow (Same.new hu)) (dU (h3.newT hu) (de _) (da _))⟩
   refine iN ⟨_,rfl,R.x,_,_,rfl,ho2,rfl,R,fns,r2,1,rfl,by decide,h2,λa r3 ha v H3 s3 h3 hv=>?_,λhn H3 s3=>q2 (by rw[oI hn]; exact Bs) H3 (sE s2 s3)⟩;subst hv;obtain⟨b1,rfl,rfl⟩:=pS ha;obtain⟨l3,p3,ho3,-⟩:=h3.ob;have s3:=sE s2 s3;refine⟨rfl,_,rfl,?_⟩;rw[sI];rcases h2.bt b1 (by simp) with rfl|rfl
   . refine iP ⟨_,rfl,R.x,_,_,rfl,ho3,rfl,R,fns,r3,rfl,h3,λk r4 hk v H4 s4 h4 hv=>?_,λhn H4 s4=>q2 (by rw[vf h1,hn]; rfl) H4 (sE s3 s4)⟩;subst hv;exact⟨cB,λu hu=>q1 (.num k) r4 (by rw[vf h1,hk]; rfl) _ _ ((sE s3 s4).trans (Same.new hu)) (h4.grow (Same.new hu)) (dU (h4.newT hu) (de _) (da _))⟩
   refine iN ⟨_,rfl,R.x,_,_,rfl,ho3,rfl,R,fns,r3,4,rfl,by decide,h3,λa r4 ha v H4 s4 h4 hv=>?_,λhn H4 s4=>q2 (E4 (rL hn)) H4 (sE s3 s4)⟩;subst hv;obtain⟨g4,rfl,rfl⟩:=rS ha;obtain⟨b0,b1,b2,b3,r4,rfl⟩:=wP g4;have hb:∀x∈[b0,b1,b2,b3],x=48\/x=49:=λx hx=>h3.bt x (by simp at hx ⊢; omega);have s4:=sE s3 s4;refine⟨_,(bv [b0,b1,b2,b3]:Int),rfl,HW _ (jn (hb b0 (by simp))) _ (jn (hb b1 (by simp))) _ (jn (hb b2 (by simp))) _ (jn (hb b3 (by simp))),_,rfl,t.nB,sgTup,rfl,.inr (T.t_SIGNS _),_,_,rfl,rfl,_,rfl,?_⟩;have e9:(sgTup.length:Int)=9:=rfl;have e499:=GP (f:=f) (r:=r4) (a:=b0) (b:=b1) (c:=b2) (d:=b3) h1;generalize bv [b0,b1,b2,b3]=sg at e499 ⊢;by_cases g9:sg<9
   . rw[Je g9] at e499;obtain⟨l4,p4,ho4,-⟩:=h4.ob;have e1:(most:Int) - 1=((most - 1:Nat):Int):=by omega
     refine bC (by rw[Jg,e9]; omega) ⟨_,rfl,R.x,_,_,rfl,ho4,rfl,_,rfl,_,_,rfl,rfl,R,fns,r4,f,most - 1,(by rw[e1]; rfl),by omega,by omega,by omega,h4,λtl r5 hl vl H5 s5 h5 dl=>?_,λhn H5 s5=>q2 (by rw[e499,hn]; rfl) H5 (sE s4 s5)⟩;have hle:=t6 f (most - 1) r4 tl r5 h4.bt hl;obtain⟨l5,p5,ho5,-⟩:=h5.ob;have lvt:=hle.2.2.2;have lvp:=iu tl;have e2:(most:Int) - ((lv tl:Nat):Int)=((most - lv tl:Nat):Int):=by omega
     have e499:am (f+1) most (49 :: 49 :: b0 :: b1 :: b2 :: b3 :: r4)=(am f (most - lv tl) r5).map λy=>(BTr.op sg tl y.1,y.2):=by rw[e499,hl]; rfl
     refine⟨_,rfl,R.x,_,_,rfl,ho5,rfl,_,rfl,_,rfl,tl,vl,rfl,(by have:=kQ tl; omega),DatV.mono bY _ _ dl,hle.2.1,λH6 s6=>⟨_,_,rfl,rfl,R,fns,r5,f,most - lv tl,(by rw[e2]; rfl),by omega,by omega,by omega,h5.grow s6,λtr r7 hr vr H7 s7 h7 dr=>?_,λhn H7 s7=>q2 (by rw[e499,hn]; rfl) H7 (sE ((sE s4 s5).trans s6) s7)⟩⟩;refine⟨_,rfl,t.nB,_,_,_,rfl,rfl,T.t_SIGNS _,bh (El sg g9),_,rfl,_,rfl,(by show 3<=_; decide),λu hu=>q1 (.op sg tl tr) r7 (by rw[e499,hr]; rfl) _ _ ((sE ((sE s4 s5).trans s6) s7).trans (Same.new hu)) (h7.grow (Same.new hu)) ?_⟩;have s8:=Same.ers (l:=R.x) (Same.new (o:=.tup [V.str (gT sg),vl,vr]) hu);exact iF (h7.newT hu) (cy (de _) (cy (DatV.mono ((Same.ers s6).trans ((Dc.Same.ers2 s7).trans s8)) _ _ dl) (cy (DatV.mono s8 _ _ dr) bo)))
   . rw[Ja g9] at e499;exact bF (by rw[Jg,e9]; omega) (q2 e499 _ s4)
theorem qy:FnScope ["self","ahead","found"] ["self","ahead"] (af nU):=by walk_at "s"
theorem HI (T:Txt K mg t):FnOk P w K mg base (aa P w) 30 t.zb t.AI ["self","ahead"] (Dy K t):=by
 have G_BitReader_take:=tV (P:=P) (w:=w) (base:=base) T;have G_BitReader_reckoning:FnOk P w K mg base (aa P w) 23 t.qO t.qQ ["self","most"] (tM K t 10):=xB T 10;refine T.u9.F.okE qy (λvs H Q E h=>?_) (λcdv A outer s H vs Q E hr h=>?_)
 . obtain⟨R,fns,r,a,u,rfl,hu,ha,h,q1,q2⟩:=h;rfl
 . obtain⟨R,fns,r,a,u,rfl,hu,ha,h,q1,q2⟩:=h;refine⟨_,(aH (ae (ac az (eO (aB 0) T.bu.cl T.gK.m G_BitReader_take (hr.mono (by decide)) T.gK.b .nil df (aC aE aD rfl)) aP (aW _)) (@aJ _ _ _ (@aR _ _ 2 _ _ _ _ qy.nd rfl (Or.inl rfl) (bX (aC (eO (aB 0) T.bu.cl T.jG.m G_BitReader_reckoning (hr.mono (by decide)) T.jG.b .nil df (aC (kK T.JL) aD rfl)) aD rfl)) (by rfl) (by walk_at "f"))) (@aJ _ _ _ (ae (ac az (eO (aB 0) T.bu.cl T.gK.m G_BitReader_take (hr.mono (by decide)) T.gK.b .nil df (aC aE aD rfl)) aP (aW _)) (@aJ _ _ _ (@aR _ _ 2 _ _ _ _ qy.nd rfl (Or.inl rfl) (bX (aC j3 aD rfl)) (by rfl) (by walk_at "f"))) (@aJ _ _ _ (ae (FT (K:=K) rfl (aB 1) (by intro _; rfl)) (@aJ _ _ _ (@aZ _ _ _ _ (aL (show aN _ (b6 K) from bE) (aB 1) aE (λ_ _=>rfl)))) (@aJ _ _ _ (gh T.x_bB T.i0_bB rfl gv))))))) (aH (ae (ac (qc hr.units) (aB 2) (aB 1) (aW _)) (@aJ _ _ _ (gh T.x_bB T.i0_bB rfl gv)) au) (@aJ _ _ _ (@aZ _ _ _ _ (aL (show aN _ (b6 K) from bE) (aB 2) aE (λ_ _=>rfl)))))),?_⟩;obtain⟨aA,ys,rfl,hy,dy⟩:=fh hu;obtain⟨l,p,ho,-⟩:=h.ob;refine⟨_,rfl,R.x,_,_,rfl,ho,rfl,R,fns,r,1,rfl,by decide,h,λa0 r2 ha0 v H2 s2 h2 hv=>?_,λhn H2 s2=>q2 (by rw[oI hn]; rfl) H2 s2⟩;subst hv;obtain⟨b0,rfl,rfl⟩:=pS ha0;obtain⟨l2,p2,ho2,-⟩:=h2.ob;refine⟨rfl,_,rfl,?_⟩;rw[tf];have fin:∀(o:Option BTr) (v:V) (r3:List Nat) (H3:Hp) (u:Addr) (D:cS),D.rt=Q->Same (ers R.x H) H3->RdAt K t.c_bR t.bK H3 R fns r3->DatV K (ers R.x H3) (bI o) v->cr o->fG a (b0 :: r2)=(if cY a o=true then none else some (o,r3))->H3 u=none ->
       rf (wj (ql (ir (uK K) (mq 2) (mq 1))) (tD t.x_bB E) vV) (wL (ir (b6 K) (mq 2) (tC (V.int 0)))) D [some (.ref R.x),some (.ref aA),some (.ref u)] (upd H3 u (.lst [v])):=by
     intro o v r3 H3 u D hD s3 h3 dv po e hu3;subst hD;have s4:=Same.new (o:=.lst [v]) hu3;refine⟨_,rfl,_,rfl,.list [bI o],.list (a.toList.map bI),cf (aG.of aF) (cy (DatV.mono (bY.trans s4) _ _ dv) bo),DatV.mono (s3.trans s4) _ _ hu,shp (mP po),shp (λx hx=>ha x (by simpa using hx)),_,rfl,?_⟩;rw[bes ha po];by_cases hk:cY a o=true
     . exact bF hk (q2 (by rw[e,Je hk]) _ (s3.trans s4))
     . exact bC hk ⟨_,rfl,u,_,_,_,rfl,rfl,aG.of aF,bP,q1 o r3 (by rw[e,Ja hk]) v _ (s3.trans s4) (h3.grow s4) (DatV.mono (Same.ers s4) _ _ dv)⟩
   rcases h.bt b0 (by simp) with rfl|rfl
   . refine iN ⟨_,rfl,R.x,_,_,rfl,ho2,rfl,R,fns,r2,1,rfl,by decide,h2,λa1 r3 ha1 v H3 s3 h3 hv=>?_,λhn H3 s3=>q2 (by rw[oI hn]; rfl) H3 (sE s2 s3)⟩;subst hv;obtain⟨b1,rfl,rfl⟩:=pS ha1;have s3:=sE s2 s3;refine⟨rfl,_,rfl,?_⟩;rw[sI];rcases h2.bt b1 (by simp) with rfl|rfl
     . exact iP ⟨fJ,λu hu=>fin none .non r3 H3 u _ rfl s3 h3 vE trivial rfl hu⟩
     . refine iN ⟨_,rfl,_,.inl ⟨ys,Same.seq s3 hy,rfl⟩,?_⟩;have ly:=cQ dy;cases a with
       | none =>
         cases ys with
         | nil=>exact iN (q2 rfl H3 s3)
         | cons y ys=>simp at ly
       | some o =>
         obtain⟨y,rfl,dy1⟩:∃y,ys=[y]/\DatV K (ers R.x H) (bI o) y:=by
           obtain⟨y,ys,rfl,h1,h2⟩:∃y ys',ys=y :: ys'/\DatV K (ers R.x H) (bI o) y/\DatAll K (ers R.x H) [] ys':=by have dy:DatAll K (ers R.x H) (bI o :: []) ys:=dy;unfold DatAll at dy;obtain⟨x,r,e,d1,d2⟩:=dy;exact⟨x,r,e,d1,d2⟩
           have:=cQ h2;exact⟨y,by rw[Kq.mp this],h1⟩
         exact bF rfl ⟨_,rfl,aA,_,_,_,rfl,rfl,Same.seq s3 hy,bP,q1 o r3 rfl y H3 s3 h3 (DatV.mono (Dc.Same.ers2 s3) _ _ dy1)⟩
   . refine iP ⟨_,rfl,R.x,_,_,rfl,ho2,rfl,R,fns,r2,8,8,rfl,by decide,by decide,by decide,h2,λtr r3 hr v H3 s3 h3 hv=>⟨fJ,λu hu=>?_⟩,λhn H3 s3=>q2 (by show(am 8 8 r2).bind _=none; rw[hn]; rfl) H3 (sE s2 s3)⟩;have hle:=t6 8 8 r2 tr r3 h2.bt hr;exact fin (some tr) v r3 H3 u _ rfl (sE s2 s3) h3 hv ⟨hle.2.1,hle.2.2.2⟩ (by show(am 8 8 r2).bind _=_; rw[hr]; rfl) hu
theorem E8:FnScope ["self","count","ahead"] ["self","count","ahead"] (af oY):=by walk_at "s"
theorem Dp (T:Txt K mg t):FnOk P w K mg base (aa P w) 31 t.zd t.AK ["self","count","ahead"] (BP K t):=by
 have G_BitReader_place_beside:=HI (P:=P) (w:=w) (base:=base) T;refine T.uA.F.okE E8 (λvs H Q E h=>?_) (λcdv A outer s H vs Q E hr h=>?_)
 . obtain⟨R,fns,r,n,ah,u,rfl,hn,hu,ha,h,q1,q2⟩:=h;rfl
 . obtain⟨R,fns,r,n,ah,u,rfl,hn,hu,ha,h,q1,q2⟩:=h;refine⟨_,(aH (@aZ _ _ _ _ (rZ (N':=["k","self","ahead"]) (js:=[none,some 0,some 2]) (by kernel_rfl) rfl (eZ rfl T.b_range (aC (aB 1) aD rfl)) dn (λ_ _ _ _=>(ag (i:=0) (show(["k","self","ahead"]:List Str).Nodup by decide +kernel) rfl (Or.inl rfl) (.inr rfl))) (λ_ _ _ _=>dX) (λ_ _ _ _=>(eO (aB 1) T.bu.cl T.u9.m G_BitReader_place_beside (hr.mono (by decide)) T.u9.b .nil oU (aC (fX (show oP _ (xX K) from kn) (aB 2) (db (aB 0)) (db (@aK _ _ _ _ _ _ _ _ (aY bL) (aB 0) aE))) aD rfl))))) au),?_⟩;obtain⟨aA,ys,rfl,hy,dy⟩:=fh hu;obtain⟨l0,p0,ho,-⟩:=h.ob;refine⟨_,rfl,n,rfl,by omega,by omega,λpL hpL=>?_⟩;have nxp:=aV ho hpL;have hpE:ers R.x H pL=none:=by rw[aS nxp.symm]; exact hpL
   refine(let Jv1:Nat->List V->Hp->Prop:=λi acc H2=>∃(pl:List (Option BTr)) (r2:List Nat),H2 pL=some (.lst acc)/\acc.length=i/\Same (ers R.x H) H2/\RdAt K t.c_bR t.bK H2 R fns r2/\DatAll K (ers R.x H2) (pl.map bI) acc/\gM ah i r=some (pl,r2); lV (lo:=0) (n:=n) (by omega) Jv1 ⟨[],r,aF,rfl,bY.trans (Same.new hpL),h.grow (Same.new hpL),bo,rfl⟩ ?_ ?_ ?_)
   . rintro i acc H2 hi ⟨pl,r2,e2,l2,s2,h2,d2,v2⟩;exact⟨e2,by omega⟩
   . rintro i acc H2 hi ⟨pl,r2,e2,l2,s2,h2,d2,v2⟩;obtain⟨l2',p2,ho2,-⟩:=h2.ob;have s2e:=Dc.Same.ers2 s2;have nx:gM ah (i+1) r=(fG ah[i]? r2).map λy=>(pl++[y.1],y.2):=iz v2;rw[KC];refine⟨_,rfl,R.x,_,_,rfl,ho2,rfl,_,rfl,_,rfl,_,rfl,_,rfl,_,_,rfl,rfl,_,rfl,aA,ys,rfl,Same.seq s2 hy,λs hs=>?_⟩;rw[IE];have s3:=Same.new (o:=.lst (ys[i]?).toList) hs;refine⟨R,fns,r2,ah[i]?,.ref s,rfl,cf (h2.newL hs) (DatAll.mono (Same.ers s3) _ _ (BW (DatAll.mono s2e _ _ dy) i)),λo ho=>ha o (JW ho),h2.grow s3,λo r3 ho v H4 s4 h4 hv=>?_,λhn H4 s4=>q2 (jg (n:=i+1) (by rw[show many _ _ _=_ from nx,hn]; rfl) (by omega)) H4 (sE (s2.trans s3) s4)⟩;have e4:H4 pL=some (.lst acc):=s4 _ _ (by rw[aS nxp.symm]; exact s3 _ _ e2);have s5:Same (ers R.x H) (upd H4 pL (.lst (acc++[v]))):=Same.upd (sE (s2.trans s3) s4) hpE;refine⟨e4,pl++[o],r3,aF,by rw[JS,l2]; rfl,s5,h.back h4 s5 (aQ nxp),?_,by rw[nx,ho]; rfl⟩;rw[Jf];exact uo (by rw[<- Jf]; exact gC _) e4 nxp (gG (DatAll.mono ((Same.ers s3).trans (Dc.Same.ers2 s4)) _ _ d2) hv)
   . rintro acc H2 ⟨pl,r2,e2,l2,s2,h2,d2,v2⟩;exact q1 pl r2 v2 _ H2 s2 h2 ⟨pL,acc,rfl,hpL,e2,d2⟩
theorem mM:FnScope ["self","before","chain","views","frame","ahead"] ["self","before"] (af nI):=by walk_at "s"
theorem Hs (T:Txt K mg t):FnOk P w K mg base (aa P w) 32 t.zY t.AG ["self","before"] (E5 K t):=by
 have G_views_ahead:=Bw (P:=P) (w:=w) (base:=base) T;have G_BitReader_frame:=Co (P:=P) (w:=w) (base:=base) T;have G_BitReader_view:=Dp (P:=P) (w:=w) (base:=base) T;have G_BitReader_number:=ot (P:=P) (w:=w) (base:=base) T;refine T.u8.F.okE mM (λvs H Q E h=>?_) (λcdv A outer s H vs Q E hr h=>?_)
 . obtain⟨R,fns,r,m0,u,rfl,hu,m0k,h,q1,q2⟩:=h;rfl
 . obtain⟨R,fns,r,m0,u,rfl,hu,m0k,h,q1,q2⟩:=h;refine⟨_,(aH (@aR _ _ 2 _ _ _ _ mM.nd rfl (Or.inl rfl) (ez nr (by rfl) T.b_tuple oJ (aC (rZ (N':=["k","self"]) (js:=[none,some 0]) (by kernel_rfl) rfl (eZ rfl T.b_range (aC (eO (aB 0) T.bu.cl T.i3.m G_BitReader_number (hr.mono (by decide)) T.i3.b .nil df (aC aE (aC (kK T.JJ) aD rfl) rfl)) aD rfl)) dn (λ_ _ _ _=>(ag (i:=0) (show(["k","self"]:List Str).Nodup by decide +kernel) rfl (Or.inl rfl) (.inr rfl))) (λ_ _ _ _=>dX) (λ_ _ _ _=>(qL (aB 1) T.bu.cl T.u6.m G_BitReader_frame (hr.mono (by decide)) T.u6.b .nil oU))) aD rfl)) (by rfl) (by walk_at "f")) (aH (@aR _ _ 3 _ _ _ _ mM.nd rfl (Or.inl rfl) (bX aD) (by rfl) (by walk_at "f")) (aH (dI qa rfl (yO true false rfl T.b_zip (aC (aB 2) (aC (aU T.views_ahead G_views_ahead (hr.mono (by decide)) (aC (aB 1) (aC (aB 2) aD rfl) rfl)) aD rfl) rfl)) (fL rfl (cC (ag (i:=4) mM.nd rfl (Or.inl rfl)) (cC (ag (i:=5) mM.nd rfl (Or.inl rfl)) fH))) (@aJ _ _ _ (@cj _ _ _ _ (cH Jk Jp Jq dY (aB 3) (aC (eO (aB 0) T.bu.cl T.uA.m G_BitReader_view (hr.mono (by decide)) T.uA.b .nil df (aC (bU (show aw _ (.builtin "len") (cU K) from cb) (by rfl) T.b_len bV (aC (jM (eG hr.units) (dk (dk (aB 0) (by rfl)) (by rfl)) (aL (show aN _ (ai K) from ak) (aB 4) aE (λ_ _=>rfl)) (λ_ _=>rfl)) aD rfl)) (aC (aB 5) aD rfl) rfl)) aD rfl)) (by rfl)))) (@aJ _ _ _ (@aZ _ _ _ _ (bB (aC (aB 2) (aC (aB 3) aD rfl) rfl))))))),?_⟩;obtain⟨l0,p0,ho,-⟩:=h.ob;have nd:=h.fl.nd;have ok:=h.ok;refine⟨_,rfl,R.x,_,_,rfl,ho,rfl,R,fns,r,1,3,rfl,h,λn r1 hn v H1 s1 h1 hv=>?_,λhn H2 s2=>q2 (by unfold dW; rw[hn]; rfl) H2 s2⟩;subst hv;have hnb:=jA h.bt hn;have eM:dW (ay fns) (cK fns) m0 r=(gW (ay fns) n r1).bind λch=>(g7 (cK fns) m0 ch.1 ch.1.length ch.2).map λv=>((⟨ch.1,v.1⟩:Mk),v.2):=by unfold dW; rw[hn]; rfl
   obtain⟨l1,p1,ho1,-⟩:=h1.ob;refine⟨n,rfl,by omega,by omega,λpL hpL=>?_⟩;have nxp:=aV ho1 hpL;have hpE:ers R.x H1 pL=none:=by rw[aS nxp.symm]; exact hpL
   refine(let Jv1:Nat->List V->Hp->Prop:=λi acc H2=>∃(ch:List (Nat×Nat)) (r2:List Nat),H2 pL=some (.lst acc)/\acc.length=i/\Same (ers R.x H1) H2/\RdAt K t.c_bR t.bK H2 R fns r2/\DatAll K (ers R.x H2) (ch.map (gw (dS fns))) acc/\gW (ay fns) i r1=some (ch,r2); lV (lo:=0) (n:=n) (by omega) Jv1 ⟨[],r1,aF,rfl,bY.trans (Same.new hpL),h1.grow (Same.new hpL),bo,rfl⟩ ?_ ?_ ?_)
   . rintro i acc H2 hi ⟨ch,r2,e2,l2,s2,h2,d2,v2⟩;exact⟨e2,by omega⟩
   . rintro i acc H2 hi ⟨ch,r2,e2,l2,s2,h2,d2,v2⟩;obtain⟨l2',p2,ho2,-⟩:=h2.ob;have nx:gW (ay fns) (i+1) r1=(fj (ay fns) r2).map λy=>(ch++[y.1],y.2):=iz v2;refine⟨_,rfl,R.x,_,_,rfl,ho2,rfl,R,fns,r2,rfl,h2,λc r3 hc v H4 s4 h4 hv=>?_,λhn H4 s4=>q2 (by rw[eM,show gW (ay fns) n r1=none from jg (n:=i+1) (by rw[show many _ _ _=_ from nx,hn]; rfl) (by omega)]; rfl) H4 (sE s1 (sE s2 s4))⟩;have e4:H4 pL=some (.lst acc):=s4 _ _ (by rw[aS nxp.symm]; exact e2);have s5:Same (ers R.x H1) (upd H4 pL (.lst (acc++[v]))):=Same.upd (sE s2 s4) hpE;refine⟨e4,ch++[c],r3,aF,by rw[JS,l2]; rfl,s5,h1.back h4 s5 (aQ nxp),?_,by rw[nx,hc]; rfl⟩;rw[Jf];exact uo (by rw[<- Jf]; exact gr (pQ _) _) e4 nxp (gG (DatAll.mono (Dc.Same.ers2 s4) _ _ d2) hv)
   rintro acc H2 ⟨ch,r2,e2,l2,s2,h2,d2,v2⟩;obtain⟨g1,g2,g3⟩:=zN ok h1.bt v2;have eM:dW (ay fns) (cK fns) m0 r=(g7 (cK fns) m0 ch ch.length r2).map λv=>((⟨ch,v.1⟩:Mk),v.2):=by rw[eM,v2]; rfl
   have s02:=sE s1 s2;have hix:∀c∈ch,c.1<fns.length:=λc hc=>by have:=(g3 c hc).1; unfold ay at this; rw[JR] at this; exact this
   refine⟨pL,acc,rfl,.inl ⟨aG.of e2,λTc hT=>?_⟩⟩;have s3:=Same.new (o:=.tup acc) hT;have h3:=h2.grow s3;have d3:=DatAll.mono (Same.ers (l:=R.x) s3) _ _ d2;have eT3:upd H2 Tc (.tup acc) Tc=some (.tup acc):=aF;have nxT:R.x≠Tc:=by obtain⟨l2',p2,ho2,-⟩:=h2.ob; exact aV ho2 hT
   generalize upd H2 Tc (.tup acc)=H3 at s3 h3 d3 eT3 ⊢;refine⟨ci,λVw hV=>?_⟩;have nxV:R.x≠Vw:=by obtain⟨l3,p3,ho3,-⟩:=h3.ob; exact aV ho3 hV
   have nTV:Tc≠Vw:=aV eT3 hV;have hVH:ers R.x H Vw=none:=(s02.trans s3).free hV;have hxz:∀z ys,H z=some (.lst ys)->R.x≠z:=λz ys hz e=>by rw[<- e,ho] at hz; cases hz
   have hVz:∀z ys,H z=some (.lst ys)->Vw≠z:=λz ys hz e=>by rw[<- e] at hz;rw[aS nxV.symm,hz] at hVH;cases hVH
   have s4:=Same.new (o:=.lst []) hV;have h4:=h3.grow s4;have s04:=(s02.trans s3).trans s4;have eV4:upd H3 Vw (.lst []) Vw=some (.lst []):=aF;have d4:=DatAll.mono (Same.ers (l:=R.x) s4) _ _ d3;have eT4:=s4 _ _ eT3;generalize upd H3 Vw (.lst [])=H4 at s4 h4 s04 eV4 d4 eT4 ⊢;obtain⟨l4,p4,ho4,-⟩:=h4.ob;refine⟨_,rfl,_,rfl,_,rfl,u,.ref Tc,fns,m0,ch,Vw,R.x,_,_,rfl,eV4,ho4,nd,DatV.mono (gY (gY s04 hVH) my) _ _ hu,m0k,iF (aI.of eT4) (DatAll.mono bY _ _ d4),hix,by omega,λl xs H5 s5 hl e5 d5=>?_⟩;have lxs:xs.length=ch.length:=by rw[cQ d5]; unfold jI; rw[JR,KI]
   have lmin:min acc.length xs.length=ch.length:=by omega
   have h5:=h4.grow s5;have s05:=s04.trans s5;have eV5:=s5 _ _ eV4;have eT5:=s5 _ _ eT4;have nlV:l≠Vw:=(aV eV4 hl).symm;have nlx:l≠R.x:=(aV ho4 hl).symm;have hx0:ers Vw (ers R.x H5) R.x=none:=by rw[aS nxV]; exact my
   have d5c:DatAll K (ers Vw (ers R.x H5)) (ch.map (gw (dS fns))) acc:=DatAll.ersT (eS.lst (by rw[aS nxV.symm]; exact eV5)) _ _ (gr (pQ _) _) (DatAll.mono (Same.ers s5) _ _ d4);have sT:aI K (ers Vw (ers R.x H5)) Tc acc:=aI.of (by rw[aS nTV,aS nxT.symm]; exact eT5);have sl:aG K (ers Vw (ers R.x H5)) l xs:=aG.of (by rw[aS nlV,aS nlx]; exact e5);rw[FW] at d5;have sH:Same (ers R.x H) (ers Vw (ers R.x H5)):=gY (Dc.Same.ers2 s05) hVH;refine⟨Tc,l,rfl,⟨_,aI.of eT5⟩,⟨_,aG.of e5⟩,(let Jv2:Nat->St->Hp->Prop:=λi σ H6=>∃(v4 v5:Option V) (vs:List V) (vw:List (List (Option BTr))) (r6:List Nat),σ=[some (.ref R.x),some u,some (.ref Tc),some (.ref Vw),v4,v5]/\Same (ers Vw (ers R.x H5)) H6/\RdAt K t.c_bR t.bK H6 R fns r6/\H6 Vw=some (.lst vs)/\vs.length=i/\DatAll K (ers Vw (nwL (ers R.x H) (ers R.x H6))) (vw.map dj) vs/\g7 (cK fns) m0 ch i r2=some (vw,r6); Hi (b1:=true) (b2:=false) (xs:=acc) (ys:=xs) Jv2 ⟨_,_,[],[],r2,rfl,bY.trans bY,h5,eV5,rfl,bo,rfl⟩ ?_ ?_ ?_)⟩
   . rintro i σ H6 hi ⟨v4,v5,vs,vw,r6,rfl,s6,h6,eV6,lvs,d6,w6⟩;exact⟨s6.tup sT,Same.seq s6 sl⟩
   . rintro i y z σ H6 b hy hz ⟨v4,v5,vs,vw,r6,rfl,s6,h6,eV6,lvs,d6,w6⟩ hb;have ilt:i<acc.length:=(Jb.mp hy).1;obtain⟨c,hc,dc⟩:=jU d5c hy;obtain⟨fA,x1,x2,rfl,hf,hx1,hx2⟩:=eK dc;cases fk hx1;have hcl:=hix c (JW hc);obtain⟨f,hfi⟩:∃f,fns[c.1]?=some f:=⟨_,JV hcl⟩
     rw[jf hfi] at hf;have kkc:kk ch i=c.1:=by unfold kk; rw[JU,hc]; rfl
     obtain⟨ah,hah,dah⟩:=nP d5 hz;have eah:ah=dj (cF m0 i c.1):=by unfold jI at hah;rw[Jc,Lc (by omega)] at hah;have:=Option.some.inj hah;rw[<- this,<- kkc];rfl
     subst eah;have nx:g7 (cK fns) m0 ch (i+1) r2=(gM (cF m0 i c.1) (F2.nms f).length r6).map λy=>(vw++[y.1],y.2):=by refine(iz w6).trans ?_;rw[kkc,pO hfi]
     have s7:=Same.new (o:=.tup [.ref fA,z]) hb;refine⟨b,_,rfl,aI.of aF,rfl,_,_,rfl,_,_,rfl,rfl,?_⟩;have h7:=h6.grow s7;have eV7:=s7 _ _ eV6;generalize upd H6 b (.tup [.ref fA,z])=H7 at s7 h7 eV7 ⊢;obtain⟨l7,p7,ho7,-⟩:=h7.ob;have hF7:=h7.fl.mono bY;obtain⟨dx,fz,d,kv,nl,wl,o0,o1,o2,o3,o4,o5,o6,o7,o8⟩:=hF7.ob;have hg:=ff.k (k:=(Sum.inr f.name:aM)) (o1.dc 4 (by decide));rw[o6,F2.kD_at _ hF7.nd hfi] at hg;have s67:=s6.trans s7;have s07:=sH.trans s67;have l24:(F2.nms f).length<=24:=by have:=ok.cn c.1; rw[pO hfi] at this; exact this
     refine⟨_,rfl,.inl ⟨rfl,_,aG.of eV7⟩,_,rfl,R.x,_,_,rfl,ho7,rfl,_,rfl,R.x,_,_,_,_,rfl,ho7,T.bu.cl,T.k6,rfl,R.fl,_,_,_,_,rfl,o1.ob,T.eU.cl,T.k7,Fl.lk_names _ _,_,rfl,fA,_,_,_,rfl,rfl,s67.tup hf,bP,_,_,rfl,hg,nl c.1,_,rfl,.inl (aG.of (o8 _ _ hfi).1),_,rfl,R,fns,r6,(F2.nms f).length,cF m0 i c.1,z,(by rw[JR]; rfl),l24,DatV.mono ((gY s67 hx0)) _ _ dah,(G9 m0k i c.1).2,h7,λpl r8 hpl v H8 s8 h8 hv=>?_,λhn H8 s8=>q2 (by rw[eM,show g7 (cK fns) m0 ch ch.length r2=none from jg (n:=i+1) (by rw[show many _ _ _=_ from nx,hn]; rfl) (by omega)]; rfl) H8 (sE s07 s8)⟩;obtain⟨lv,ws,rfl,hlv,elv,dlv⟩:=hv;have eV8:H8 Vw=some (.lst vs):=s8 _ _ (by rw[aS nxV.symm]; exact eV7);refine⟨Vw,_,_,rfl,rfl,eV8,bT (n:=vs.length+1) (by omega),_,_,vs++[.ref lv],vw++[pl],r8,rfl,Same.upd ((gY s67 hx0).trans s8) my,h.back h8 (Same.upd (sE s07 s8) hVH) (aQ nxV),aF,by rw[JS,lvs]; rfl,?_,by rw[nx,hpl]; rfl⟩;have nlvx:=(aV ho7 hlv).symm;have hlv0:ers R.x H lv=none:=s07.free hlv;have s08:=sE s07 s8;rw[wV nxV,Jf];refine gG (DatAll.mono (Same.ers (Same.nwL ((Same.ers s7).trans (Dc.Same.ers2 s8)))) _ _ d6) (cf (aG.of (by rw[aS (aV eV7 hlv).symm,fY hlv0,aS nlvx]; exact elv)) ?_);exact DatAll.ersT (eS.lst (by rw[fY hVH,aS nxV.symm]; exact eV8)) _ _ (gC _) (DatAll.nwT (Dc.Same.ers2 s08) _ _ (gC _) dlv)
   . rintro σ H6 ⟨v4,v5,vs,vw,r6,rfl,s6,h6,eV6,lvs,d6,w6⟩;rw[lmin] at w6;obtain⟨l6,p6,ho6,-⟩:=h6.ob;refine⟨_,rfl,_,rfl,cB,λp hp=>?_⟩;have s7:=Same.new (o:=.tup [.ref Tc,.ref Vw]) hp;have s67:Same (ers Vw (ers R.x H5)) (ers R.x (upd H6 p (.tup [.ref Tc,.ref Vw]))):=(gY s6 hx0).trans (Same.ers s7);have cT:=iF (s67.tup sT) (DatAll.mono s67 _ _ d5c);have eV7:ers R.x (upd H6 p (.tup [.ref Tc,.ref Vw])) Vw=some (.lst vs):=by rw[aS nxV.symm]; exact s7 _ _ eV6
     have s07:=(sH.trans s6).trans s7;have hp0:ers R.x H p=none:=(sH.trans s6).free hp;refine q1 ⟨ch,vw⟩ r6 (by rw[eM,w6]; rfl) _ _ s07 (h6.grow s7) (dU (aI.of (by rw[fY hp0,aS (aV ho6 hp).symm]; exact aF)) (DatV.nwT (Dc.Same.ers2 s07) _ _ (rm _ _) cT) (cf (aG.of (by rw[fY hVH]; exact eV7)) (DatAll.mono (bY.trans (Same.nwL (Same.ers s7))) _ _ d6)))
theorem mJ:FnScope ["self","marks","before","k"] ["self"] (af oj):=by walk_at "s"
theorem FA (T:Txt K mg t):FnOk P w K mg base (aa P w) 33 t.zU t.AC ["self"] (Iy K t):=by
 have G_BitReader_number:=ot (P:=P) (w:=w) (base:=base) T;have G_BitReader_mark:=Hs (P:=P) (w:=w) (base:=base) T;refine T.tq.F.okE mJ (λvs H Q E h=>?_) (λcdv A outer s H vs Q E hr h=>?_)
 . obtain⟨R,fns,r,rfl,h,q1,q2⟩:=h;rfl
 . obtain⟨R,fns,r,rfl,h,q1,q2⟩:=h;refine⟨_,(aH (@aR _ _ 1 _ _ _ _ mJ.nd rfl (Or.inl rfl) (bX aD) (by rfl) (by walk_at "f")) (aH (@aR _ _ 2 _ _ _ _ mJ.nd rfl (Or.inl rfl) (bB (aC (bB aD) (aC (bX aD) aD rfl) rfl)) (by rfl) (by walk_at "f")) (aH (dI qa rfl (eZ rfl T.b_range (aC (eO (aB 0) T.bu.cl T.i3.m G_BitReader_number (hr.mono (by decide)) T.i3.b .nil df (aC aE (aC (kK T.JM) aD rfl) rfl)) aD rfl)) (ag (i:=3) mJ.nd rfl (Or.inl rfl)) (aH (@aR _ _ 2 _ _ _ _ mJ.nd rfl (Or.inl rfl) (eO (aB 0) T.bu.cl T.u8.m G_BitReader_mark (hr.mono (by decide)) T.u8.b .nil df (aC (aB 2) aD rfl)) (by rfl) (by walk_at "f")) (@aJ _ _ _ (@cj _ _ _ _ (cH Jk Jp Jq dY (aB 1) (aC (aB 2) aD rfl)) (by rfl))))) (aH (ae (ac (aY ia) (dk (aB 0) (by rfl)) (bU pj (by rfl) T.b_len bV (aC (dk (aB 0) (by rfl)) aD rfl)) (aW _)) (@aJ _ _ _ (gh T.x_bB T.i0_bB rfl gv)) au) (@aJ _ _ _ (@aZ _ _ _ _ (aB 1))))))),?_⟩;have ok:=h.ok;have hnm:∀m,MFit (ay fns) (cK fns) m->MOk fns.length m:=λm hm=>by have:=hm.mok ok;unfold ay at this;rw[JR] at this;exact this
   refine⟨ci,λL hL=>?_⟩;obtain⟨l0,p0,ho,-⟩:=h.ob;have nxL:=aV ho hL;have hLE:ers R.x H L=none:=by rw[aS nxL.symm]; exact hL
   refine⟨ci,λc0 hc0=>⟨ci,λw0 hw0=>⟨cB,λb0 hb0=>?_⟩⟩⟩;have hxz:∀z ys,H z=some (.lst ys)->R.x≠z:=λz ys hz e=>by rw[<- e,ho] at hz; cases hz
   have hLz:∀z ys,H z=some (.lst ys)->L≠z:=λz ys hz e=>by rw[<- e,hL] at hz; cases hz
   have sA:=Same.new (o:=.lst []) hL;have sB:=sA.trans (Same.new (o:=.tup []) hc0);have sC:=sB.trans (Same.new (o:=.lst []) hw0);have sD:=sC.trans (Same.new (o:=.tup [.ref c0,.ref w0]) hb0);have eL:upd H L (.lst []) L=some (.lst []):=aF;have ncL:=(aV eL hc0).symm;have nw0L:=(aV (Same.new (o:=.tup []) hc0 _ _ eL) hw0).symm;have nbL:=(aV (Same.new (o:=.lst []) hw0 _ _ (Same.new (o:=.tup []) hc0 _ _ eL)) hb0).symm;have eLD:=Same.new (o:=.tup [.ref c0,.ref w0]) hb0 _ _ (Same.new (o:=.lst []) hw0 _ _ (Same.new (o:=.tup []) hc0 _ _ eL));have ncx:=(aV (sA _ _ ho) hc0).symm;have nwx:=(aV (sB _ _ ho) hw0).symm;have nbx:=(aV (sC _ _ ho) hb0).symm;have d0:DatV K (ers L (ers R.x (upd (upd (upd (upd H L (.lst [])) c0 (.tup [])) w0 (.lst [])) b0 (.tup [.ref c0,.ref w0])))) (iB (dS fns) c9) (.ref b0) :=
     dU (aI.of (by rw[aS nbL,aS nbx]; exact aF)) (iF (aI.of (by rw[aS ncL,aS ncx]; exact Same.new hb0 _ _ (Same.new hw0 _ _ aF))) bo) (cf (aG.of (by rw[aS nw0L,aS nwx]; exact Same.new hb0 _ _ aF)) bo)
   have h1:=h.grow sD;generalize upd (upd (upd (upd H L (.lst [])) c0 (.tup [])) w0 (.lst [])) b0 (.tup [.ref c0,.ref w0])=H1 at sD eLD d0 h1 ⊢;obtain⟨l1,p1,ho1,-⟩:=h1.ob;have s01:Same (ers R.x H) H1:=bY.trans sD;refine⟨_,rfl,R.x,_,_,rfl,ho1,rfl,R,fns,r,1,200,rfl,h1,λn r1 hn v H2 s2 h2 hv=>?_,λhn H2 s2=>q2 (by unfold fF; rw[hn]; rfl) H2 (sE s01 s2)⟩;subst hv;have hnb:=jA h.bt hn;have eR:fF (ay fns) (cK fns) r=(dJ (ay fns) (cK fns) n r1).bind λy=>if y.2=[] then some (y.1,[]) else none:=by unfold fF; rw[hn]; rfl
   have eL2:H2 L=some (.lst []):=s2 _ _ (by rw[aS nxL.symm]; exact eLD);refine⟨n,rfl,by omega,by omega,?_⟩;refine(let Jv1:Nat->St->Hp->Prop:=λi σ H3=>∃(v3:Option V) (bw:V) (ms:List Mk) (us:List V) (r3:List Nat),σ=[some (.ref R.x),some (.ref L),some bw,v3]/\Same (ers R.x H) H3/\RdAt K t.c_bR t.bK H3 R fns r3/\H3 L=some (.lst us)/\us.length=i/\DatAll K (ers L (nwL (ers R.x H) (ers R.x H3))) (ms.map (iB (dS fns))) us/\DatV K (ers L (ers R.x H3)) (iB (dS fns) (cN ms i)) bw/\dJ (ay fns) (cK fns) i r1=some (ms,r3); i6 (lo:=0) (n:=n) Jv1 ⟨_,_,[],[],r1,rfl,sE s01 s2,h2,eL2,rfl,bo,DatV.mono (Same.ers (Dc.Same.ers2 s2)) _ _ d0,rfl⟩ ?_ ?_)
   . rintro i σ H3 hi ⟨v3,bw,ms,us,r3,rfl,s3,h3,e3,l3,d3,b3,w3⟩;obtain⟨l3',p3,ho3,-⟩:=h3.ob;obtain⟨-,lms,fit⟩:=xZ ok h2.bt w3;have nx:dJ (ay fns) (cK fns) (i+1) r1=(dW (ay fns) (cK fns) (cN ms i) r3).map λy=>(ms++[y.1],y.2):=iz w3;refine⟨_,rfl,R.x,_,_,rfl,ho3,rfl,_,rfl,R,fns,r3,cN ms i,bw,rfl,DatV.mono bY _ _ b3,rE (C5 _) (λm hm=>hnm m (fit m hm)) i,h3,λm r4 hm v H4 s4 h4 hv=>?_,λhn H4 s4=>q2 (by rw[eR,show dJ (ay fns) (cK fns) n r1=none from jg (n:=i+1) (by rw[show many _ _ _=_ from nx,hn]; rfl) (by omega)]; rfl) H4 (sE s3 s4)⟩;have e4:H4 L=some (.lst us):=s4 _ _ (by rw[aS nxL.symm]; exact e3);have hvL:=DatV.mono (sR (Dc.Same.ers2 s3) (show ers R.x H3 L=some (.lst us) by rw[aS nxL.symm]; exact e3)) _ _ hv;refine⟨_,rfl,.inl ⟨rfl,_,aG.of e4⟩,_,rfl,L,_,_,rfl,rfl,e4,bT (n:=us.length+1) (by omega),_,v,ms++[m],us++[v],r4,rfl,Same.upd (sE s3 s4) hLE,h.back h4 (Same.upd (sE s3 s4) hLE) (aQ nxL),aF,by rw[JS,l3]; rfl,?_,?_,by rw[nx,hm]; rfl⟩
     . rw[wV nxL,Jf];exact gG (DatAll.mono (Same.ers (Same.nwL (Dc.Same.ers2 s4))) _ _ d3) hvL
     . rw[CW,xh lms];exact DatV.mono (Same.ers rN) _ _ hvL
   . rintro σ H3 ⟨v3,bw,ms,us,r3,rfl,s3,h3,e3,l3,d3,b3,w3⟩;obtain⟨l,p,ho3,hp,hd,hl⟩:=h3.ob;refine⟨_,rfl,R.x,_,_,_,_,rfl,ho3,T.bu.cl,T.il,rfl,_,rfl,R.x,_,_,_,_,rfl,ho3,T.bu.cl,T.jz,rfl,_,rfl,(by rw[cX]; exact K0 hl (by decide)),_,_,rfl,rfl,_,rfl,?_⟩;rw[cX];by_cases hpl:p<l.length
     . exact bF (by walk_at "o") (q2 (by rw[eR,w3]; exact Ja (by show ¬ r3=[]; rw[<- hd]; exact λz=>by have:=Jt List.length z; rw[KD] at this; simp at this; omega)) H3 s3)
     . have h0:r3=[]:=by rw[<- hd]; exact Ks (by omega)
       subst h0;exact bC (by walk_at "o") ⟨_,rfl,q1 ms [] (by rw[eR,w3]; rfl) _ H3 s3 h3 (cf (aG.of (by rw[fY hLE,aS nxL.symm]; exact e3)) (DatAll.mono bY _ _ d3))⟩
theorem yb:FnScope ["program","rows","flows"] ["program","rows"] (af nH):=by walk_at "s"
theorem wG (T:Txt K mg t):FnOk P w K mg base (aa P w) 34 t.A8 t.Al ["program","rows"] (Fj K t):=by
 have G_Flows_init:=Eo (P:=P) (w:=w) (base:=base) T;have G_BitReader_init:=Gw (P:=P) (w:=w) (base:=base) T;have G_BitReader_all_marks:=FA (P:=P) (w:=w) (base:=base) T;refine T.unpack.F.okE yb (λvs H Q E h=>?_) (λcdv A outer s H vs Q E hr h=>?_)
 . obtain⟨p,rl,fns,ls,rfl,hp,hf,nd,ok,hrl,hl,q1,q2⟩:=h;rfl
 . obtain⟨p,rl,fns,ls,rfl,hp,hf,nd,ok,hrl,hl,q1,q2⟩:=h;refine⟨_,(aH (ae (ac qm (bU (show aw _ (.builtin "len") (cU K) from cb) (by rfl) T.b_len bV (aC (aB 1) aD rfl)) (bU (show aw _ (.builtin "len") (cU K) from cb) (by rfl) T.b_len bV (aC (aB 0) aD rfl)) (aW _)) (@aJ _ _ _ (gh T.x_bB T.i0_bB rfl gv)) au) (aH (@aR _ _ 2 _ _ _ _ yb.nd rfl (Or.inr rfl) (DU T.eU T.zT G_Flows_init (hr.mono (by decide)) (aC (aB 0) aD rfl)) (by rfl) (by walk_at "f")) (@aJ _ _ _ (@aZ _ _ _ _ (rZ (N':=["function","row","flows"]) (js:=[none,none,some 2]) (by kernel_rfl) rfl (yO false false rfl T.b_zip (aC (aB 0) (aC (aB 1) aD rfl) rfl)) (xl (nO (nO xm))) (λ_ _ _ _=>(show PG _ _ (pJ K 2 _) from fL (n:=2) rfl (cC (ag (i:=0) (show(["function","row","flows"]:List Str).Nodup by decide +kernel) rfl (Or.inl rfl) (.inr rfl)) (cC (ag (i:=1) (show(["function","row","flows"]:List Str).Nodup by decide +kernel) rfl (Or.inl rfl) (.inr rfl)) fH)))) (λ_ _ _ _=>dX) (λ_ _ _ _=>(bB (aC (aL (show aN _ (ai K) from ak) (aB 0) aE (λ_ _=>rfl)) (aC (qL (Gu T.bu T.zS G_BitReader_init (hr.mono (by decide)) oU (aC (aB 2) (aC (aB 1) aD rfl) rfl)) T.bu.cl T.tq.m G_BitReader_all_marks (hr.mono (by decide)) T.tq.b .nil oU) aD rfl) rfl)))))))),?_⟩;have lst:(bf ls).length=ls.length:=mD ls;have lfn:(fns.map λf=>V.ref f.fa).length=fns.length:=JR _;refine⟨_,rfl,rl,_,rfl,.inl hrl,_,rfl,p,_,rfl,.inl hp,rfl,_,rfl,?_⟩;rw[lst,lfn];have n12:fns.length<=12:=by have:=ok.n12; unfold ay at this; rw[JR] at this; exact this
   have n0:fns≠[]:=λz=>by have:=ok.n1; unfold ay at this; rw[z] at this; simp at this
   by_cases hlen:ls.length=fns.length
   case neg=>exact bF (by simp; omega) (q2 (Ja hlen) H (Same.refl _))
   refine bC (by simp; omega) ?_;refine⟨_,rfl,λfl dx nx ndx nex=>?_⟩;have s0:Same H (upd (upd H dx (.own fl)) fl (.ins t.bK dx [])):=λb o e=>by rw[aQ (aV e nx),aQ (aV e ndx)];exact e
   have s1':Same H (ers fl (upd (upd H dx (.own fl)) fl (.ins t.bK dx []))):=λb o e=>by rw[eu,aS (aV e nx),aQ (aV e ndx)];exact e
   refine⟨fl,dx,p,fns,rfl,aF,s1'.seq hp,n0,n12,λf hf'=>(hf f hf').mono s1',nd,λH1 s1 hF=>⟨rfl,?_⟩⟩;have s01:Same H H1:=λb o e=>s1 b o (by rw[aS (aV e nx)]; exact s0 b o e);refine⟨_,rfl,_,rfl,p,rl,rfl,⟨_,s01.seq hp⟩,⟨_,s01.seq hrl⟩,λpL hpL=>Fk (b1:=false) (b2:=false) (xs:=fns.map λf=>V.ref f.fa) (ys:=bf ls) (by omega) (λi acc H2=>Same H1 H2/\H2 pL=some (.lst acc)/\acc.length=i/\∃mss:List (List Mk),mss.length=i/\(∀(k:Nat) ms,mss[k]?=some ms->∃l,ls[k]?=some l/\ck (ay fns) (cK fns) l=some ms)/\∀(k:Nat) ms y,mss[k]?=some ms->acc[k]?=some y->DatV K (ers pL H2) (iG (dS fns) (dS fns k,ms)) y) ⟨Same.new hpL,aF,rfl,[],rfl,(λk ms z=>by cases z),λk ms y z=>by cases z⟩ ?_ ?_ ?_⟩
   . rintro i acc H2 hi ⟨s2,e2,l2,-⟩;exact⟨e2,by omega,(s01.trans s2).seq hp,(s01.trans s2).seq hrl⟩
   . rintro i y z acc H2 b hy hz ⟨s2,e2,l2,mss,lm,hm,d2⟩ hb;rw[Jc] at hy;obtain⟨f,hfi⟩:∃f,fns[i]?=some f:=by cases e:fns[i]? with|none=>rw[e] at hy; cases hy|some f=>exact⟨f,rfl⟩
     rw[hfi] at hy;cases hy;unfold bf at hz;rw[Jc,Jc] at hz;obtain⟨l,hli⟩:∃l,ls[i]?=some l:=by cases e:ls[i]? with|none=>rw[e] at hz; cases hz|some l=>exact⟨l,rfl⟩
     rw[hli] at hz;cases hz;have hfn:=(hf f (JW hfi)).mono (s01.trans s2);have lmem:=JW hli;have s3:=Same.new (o:=.tup [V.ref f.fa,V.str (tx l)]) hb;refine⟨b,_,rfl,aI.of aF,rfl,_,_,rfl,_,_,rfl,rfl,?_⟩;generalize upd H2 b (.tup [V.ref f.fa,V.str (tx l)])=H3 at s3 ⊢;have s23:=s2.trans s3;refine⟨_,rfl,f.fa,_,_,_,rfl,rfl,s3.tup hfn.fn,bP,_,rfl,_,rfl,λx dx2 nx2 ndx2 nex2=>?_⟩;have s4:Same H3 (ers x (upd (upd H3 dx2 (.own x)) x (.ins t.c_bR dx2 []))):=λb o e=>by rw[eu,aS (aV e nx2),aQ (aV e ndx2)];exact e
     have bad:ck (ay fns) (cK fns) l=none->∀H',Same H1 H'->E (.ref t.x_bB) none H':=λhn H' s'=>q2 (by unfold gO; rw[Je hlen]; exact qJ lmem hn) H' (s01.trans s');refine⟨x,dx2,fl,fns,l,rfl,aF,hF.mono (s23.trans s4),ok,hl l lmem,λhb cl H5 s5 h5=>⟨rfl,?_⟩,λhb H5 s5=>bad (by unfold ck; rw[Ja hb]) H5 ((s23.trans s4).trans s5)⟩;obtain⟨l5,p5,ho5,-⟩:=h5.ob;have s35:=s4.trans s5;have eA:ck (ay fns) (cK fns) l=(fF (ay fns) (cK fns) l).map (·.1):=by rw[kz,Je hb]
     refine⟨x,_,_,rfl,ho5,rfl,⟨x,dx2,fl,cl⟩,fns,l,rfl,h5,λms r6 hms v H6 s6 h6 hv=>?_,λhn H6 s6=>bad (by rw[eA,hn]; rfl) H6 ((s23.trans (gY s35 nx2)).trans s6)⟩;have eAll:ck (ay fns) (cK fns) l=some ms:=by rw[eA,hms]; rfl
     have s36:=(gY s35 nx2).trans s6;have s16:=s23.trans s36;have e3:=s3 _ _ e2;have npx:=aV e3 nx2;have e5:ers x H5 pL=some (.lst acc):=by rw[aS npx]; exact s35 _ _ e3
     have e6:=s36 _ _ e3;refine⟨cB,λq hq=>?_⟩;have s7:=Same.new (o:=.tup [V.str f.name,v]) hq;have npq:=aV e6 hq;refine⟨s7 _ _ e6,(s16.trans s7).upd hpL,aF,by rw[JS,l2]; rfl,mss++[ms],by rw[JS,lm]; rfl,λk ms' hk=>?_,λk ms' y hk hy=>?_⟩
     . rcases g6 hk with⟨_,hk⟩|⟨rfl,rfl⟩
       . exact hm k ms' hk
       . rw[lm];exact⟨l,hli,eAll⟩
     . rw[eu];rcases g6 hk with⟨hk1,hk⟩|⟨rfl,rfl⟩
       . rcases g6 hy with⟨_,hy⟩|⟨hk2,_⟩
         . exact DatV.mono (Same.ers ((s3.trans s36).trans s7)) _ _ (d2 k ms' y hk hy)
         . omega
       . rcases g6 hy with⟨hk2,_⟩|⟨_,rfl⟩
         . omega
         . rw[lm,jf hfi];exact dU (aI.of (by rw[aS npq.symm]; exact aF)) (de _) (DatV.mono ((t9 e5).trans (Same.ers (bY.trans s7))) _ _ hv)
   . rintro acc H2 ⟨s2,e2,l2,mss,lm,hm,d2⟩;have lmin:min (fns.map λf=>V.ref f.fa).length (bf ls).length=ls.length:=by omega
     rw[lmin] at l2 lm;have hall:jL (ck (ay fns) (cK fns)) ls=some mss:=sv lm λk a b ha hb=>by obtain⟨l,h1,h2⟩:=hm k b hb;rw[ha] at h1;cases h1;exact h2
     exact q1 mss (by unfold gO; rw[Je hlen]; exact hall) _ H2 (s01.trans s2) (vd (aG.of e2) (by omega) λk ms x hk hx=>DatV.mono bY _ _ (d2 k ms x hk hx))
theorem rX:FnScope ["_law_script","_law_k","_law_seed"] ["_law_script","_law_k"] (af nR):=by walk_at "s"
theorem ue (T:Txt K mg t):FnOk P w K mg base CX0 1 t.zo t.AW ["_law_script","_law_k"] (Ez K):=by
 refine T.ik.F.ok rX (λvs H Q E h=>?_) (λcdv A outer s H vs Q E hr h=>?_)
 . obtain⟨a,ns,k,rfl,hS,hl,h0,h1,q⟩:=h;rfl
 . obtain⟨a,ns,k,rfl,hS,hl,h0,h1,q⟩:=h;refine⟨_,(aH (ae (ac (aY ia) (aB 1) (bU (show aw _ (.builtin "len") (cU K) from cb) (by rfl) T.b_len bV (aC (aB 0) aD rfl)) (aW _)) (@aJ _ _ _ (@aZ _ _ _ _ (aL (show aN _ (b6 K) from bE) (aB 0) (aB 1) (λ_ _=>rfl)))) au) (aH (@aR _ _ 2 _ _ _ _ rX.nd rfl (Or.inl rfl) aE (by rfl) (by walk_at "f")) (mZ (ae (ac (aY kP) (bU (show aw _ (.builtin "len") (cU K) from cb) (by rfl) T.b_len bV (aC (aB 0) aD rfl)) aE (aW _)) (@aJ _ _ _ (@aR _ _ 2 _ _ _ _ rX.nd rfl (Or.inl rfl) (@aK _ _ _ _ _ _ _ _ (bj cz) (aL (show aN _ (b6 K) from bE) (aB 0) (@aK _ _ _ _ _ _ _ _ (bj cz) (aB 1) (bU (show aw _ (.builtin "len") (cU K) from cb) (by rfl) T.b_len bV (aC (aB 0) aD rfl))) (λ_ _=>rfl)) aE) (by rfl) (by walk_at "f"))) au) (@aJ _ _ _ (@aZ _ _ _ _ (@aK _ _ _ _ _ _ _ _ (bj cz) (@aK _ _ _ _ _ _ _ _ (bj gP) (@aK _ _ _ _ _ _ _ _ (aY bL) (@aK _ _ _ _ _ _ _ _ (aY bL) (aB 2) (@aK _ _ _ _ _ _ _ _ (bj gP) aE (aB 1))) aE) (@aK _ _ _ _ _ _ _ _ (aY bL) (@aK _ _ _ _ _ _ _ _ (aY bL) (aB 2) (@aK _ _ _ _ _ _ _ _ (bj gP) aE (aB 1))) aE)) aE)))))),?_⟩;have hlen:(ns.map V.int).length=ns.length:=JR _;refine⟨_,rfl,_,rfl,a,_,rfl,.inl hS,_,_,rfl,rfl,_,rfl,?_⟩;refine cx (λc=>?_) (λc=>?_)
   . have c:=dG c;rw[hlen] at c;refine⟨_,rfl,_,rfl,a,_,_,_,rfl,rfl,hS,rg h0 c,vq ?_ q⟩;unfold gD;rw[Je c]
   have c:¬ k<(ns.length:Int):=by rw[Jg,hlen] at c; exact c
   refine⟨λσ H'=>H'=H/\σ=[some (.ref a),some (.int k),some (.int (iJ ns k))]/\0<=iJ ns k/\iJ ns k<999983,?_,?_⟩
   . refine⟨_,rfl,a,_,rfl,.inl hS,_,_,rfl,rfl,_,rfl,?_⟩;refine cx (λc2=>?_) (λc2=>?_)
     . have c2:=dG c2;rw[hlen] at c2;have m:=eI (ns.getD (k%(ns.length:Int)).toNat 0) 999983 (by decide);have es:iJ ns k=ns.getD (k%(ns.length:Int)).toNat 0%999983:=by unfold iJ; rw[Je c2]
       have hz:=rg (cs:=ns) (i:=k%(ns.length:Int)) (Int.emod_nonneg _ (by omega)) (Int.emod_lt_of_pos _ c2);refine⟨_,rfl,_,rfl,_,rfl,a,_,rfl,.inl hS,_,_,rfl,rfl,(by rw[hlen]; exact c2),a,_,_,_,rfl,rfl,hS,(by rw[hlen]; exact hz),_,_,rfl,rfl,(show(0:Int)<999983 by decide),rfl,?_,?_,?_⟩
       . rw[es];rfl
       . rw[es]; exact m.1
       . rw[es]; exact m.2
     . have es:iJ ns k=7:=by unfold iJ;rw[Ja (by rw[Jg,hlen] at c2; exact c2)]
       rw[es];exact⟨rfl,rfl,by decide,by decide⟩
   . rintro σ H' ⟨rfl,rfl,b1,b2⟩;refine⟨_,rfl,_,rfl,_,_,rfl,rfl,.inl ⟨by decide,by decide⟩,_,_,rfl,rfl,_,_,rfl,rfl,_,rfl,_,rfl,_,_,rfl,rfl,.inl ⟨by decide,by decide⟩,_,_,rfl,rfl,_,_,rfl,rfl,_,_,rfl,rfl,.inl ⟨by omega,by omega⟩,_,_,rfl,rfl,(show(0:Int)<1000003 by decide),vq ?_ q⟩;unfold gD;rw[Ja c]
theorem xU:FnScope ["_law_cell_here","_law_j","_law_many","_law_primes"] ["_law_cell_here","_law_j","_law_many"] (af p9):=by walk_at "s"
theorem iL (T:Txt K mg t):FnOk P w K mg base CX0 1 t.zx t.Ac ["_law_cell_here","_law_j","_law_many"] (Hu K):=by
 refine T.cw.F.ok xU (λvs H Q E h=>?_) (λcdv A outer s H vs Q E hr h=>?_)
 . obtain⟨c,j,m,rfl,h0,h1,q⟩:=h;rfl
 . obtain⟨c,j,m,rfl,h0,h1,q⟩:=h;refine⟨_,(aH (@aR _ _ 3 _ _ _ _ xU.nd rfl (Or.inl rfl) (@uO _ _ [V.int 10007,V.int 10009,V.int 10037,V.int 10039,V.int 10061,V.int 10067,V.int 10069,V.int 10079] (by kernel_rfl)) (by rfl) (by walk_at "f")) (@aJ _ _ _ (@aZ _ _ _ _ (@aK _ _ _ _ _ _ _ _ (bj cz) (@aK _ _ _ _ _ _ _ _ (bj cz) (@aK _ _ _ _ _ _ _ _ (aY bL) (@aK _ _ _ _ _ _ _ _ (bj gP) (aB 0) aE) (@aK _ _ _ _ _ _ _ _ (bj gP) aE (aB 1))) (aL (show aN _ (ai K) from ak) (aB 3) (@aK _ _ _ _ _ _ _ _ (bj cz) (aB 1) aE) (λ_ _=>rfl))) (aB 2))))),?_⟩;refine⟨(by show 8<=sizeLine; decide),λp hp=>?_⟩;exact⟨_,rfl,_,_,rfl,rfl,.inr ⟨by decide,by decide⟩,_,rfl,_,_,rfl,rfl,.inl ⟨by decide,by decide⟩,_,_,rfl,rfl,_,rfl,_,rfl,_,_,rfl,rfl,(show(0:Int)<8 by decide),p,_,_,_,rfl,rfl,aI.of aF,EG j,_,_,rfl,rfl,FD j,_,rfl,_,_,rfl,rfl,h1,q _ (Same.new hp)⟩
theorem mG:FnScope ["_law_cell_here","_law_k","_law_letters","_law_size","_law_some","_law_name_here"] ["_law_cell_here","_law_k"] (af qM):=by walk_at "s"
theorem Hc (T:Txt K mg t):FnOk P w K mg base CX0 2 t.zt t.AZ ["_law_cell_here","_law_k"] (F8 K):=by
 have G_l_part:=iL (P:=P) (w:=w) (base:=base) T;refine T.qT.F.ok mG (λvs H Q E h=>?_) (λcdv A outer s H vs Q E hr h=>?_)
 . obtain⟨b,k,rfl,q⟩:=h;rfl
 . obtain⟨b,k,rfl,q⟩:=h;refine⟨_,(aH (@aR _ _ 2 _ _ _ _ mG.nd rfl (Or.inr rfl) aP (by rfl) (by walk_at "f")) (aH (@aR _ _ 3 _ _ _ _ mG.nd rfl (Or.inl rfl) (@aK _ _ _ _ _ _ _ _ (aY bL) aE (aU T.cw G_l_part (hr.mono (by decide)) (aC (aB 0) (aC aE (aC aE aD rfl) rfl) rfl))) (by rfl) (by walk_at "f")) (aH (mN (i:=4) mG.nd rfl (Or.inl rfl) (N':=["_law_j","_law_letters","_law_cell_here"]) (js:=[none,some 2,some 0]) (by kernel_rfl) rfl (eZ rfl T.b_range (aC (aB 3) aD rfl)) dn (λ_ _ _ _=>(ag (i:=0) (show(["_law_j","_law_letters","_law_cell_here"]:List Str).Nodup by decide +kernel) rfl (Or.inl rfl) (.inr rfl))) (λ_ _ _ _=>dX) (λ_ _ _ _=>(aL ja (aB 1) (aU T.cw G_l_part (hr.mono (by decide)) (aC (aB 2) (aC (aB 0) (aC aE aD rfl) rfl) rfl)) (λ_ _=>rfl))) (by rfl)) (aH (gX (aL ja (aB 2) (@aK _ _ _ _ _ _ _ _ (bj cz) (@aK _ _ _ _ _ _ _ _ (aY bL) (aU T.cw G_l_part (hr.mono (by decide)) (aC (aB 0) (aC aE (aC aE aD rfl) rfl) rfl)) (aB 1)) aE) (λ_ _=>rfl)) (j1 (aB 4) (aU T.cw G_l_part (hr.mono (by decide)) (aC (aB 0) (aC aE (aC (aB 3) aD rfl) rfl) rfl)) jF)) (aH (@aR _ _ 5 _ _ _ _ mG.nd rfl (Or.inl rfl) (cH Ki Kx Ky kB aP (aC (aB 4) aD rfl)) (by rfl) (by walk_at "f")) (aH (ae (ac jx (aB 5) (@uO _ _ [V.str "fn",V.str "in",V.str "new",V.str "get",V.str "put",V.str "call",V.str "out",V.str "if",V.str "while",V.str "else",V.str "end",V.str "back"] (by kernel_rfl)) (by with_unfolding_all rfl)) (@aJ _ _ _ (@aZ _ _ _ _ (@aK _ _ _ _ _ _ _ _ cZ (aB 5) aP))) au) (@aJ _ _ _ (@aZ _ _ _ _ (aB 5))))))))),?_⟩;have wb:=tG b;have ab:=vQ b;have lf:K12.lets.length<=sizeLine:=by decide +kernel
   refine⟨_,rfl,b,8,8,rfl,by decide,by decide,λH1 s1=>⟨_,_,rfl,rfl,?_⟩⟩;show(λx H1=>_) (V.int (1+ap b 8 8)) H1;rw[<- wb.2.2];refine⟨_,rfl,_,rfl,by omega,by omega,λu hu=>(let Jv1:Nat->List V->Hp->Prop:=λi acc H2=>Same H1 H2/\H2 u=some (.lst acc)/\acc=(List.range i).map λj:Nat=>V.str (tx [K41.lc (ap b j 26)]); lV (lo:=0) (n:=ft b) (by omega) Jv1 ⟨Same.new hu,aF,rfl⟩ ?_ ?_ ?_)⟩
   . rintro i acc H2 hi ⟨s2,e2,rfl⟩;exact⟨e2,by rw[JR,KI]; exact JZ _⟩
   . rintro i acc H2 hi ⟨s2,e2,rfl⟩;have bi:=dq b i 26 (by decide);refine⟨_,rfl,_,rfl,_,rfl,b,0+(i:Int),26,rfl,by omega,by decide,λH3 s3=>⟨_,_,K41.lc (ap b (0+(i:Int)) 26),rfl,rfl,lf,?_,s3 _ _ e2,(s2.trans s3).upd hu,aF,?_⟩⟩
     . exact K41.lc_at (z:=ap b (0+(i:Int)) 26) (by rw[KC]; exact bi.1) (by rw[KC]; exact bi.2)
     . rw[Kb,Jf,KC];rfl
   rintro acc H2 ⟨s2,e2,rfl⟩;have bk:=eI (ap b 10 26+k) 26 (by decide);have s02:=s1.trans s2;have hu0:H u=none:=s1.free hu;refine⟨_,rfl,_,rfl,b,10,26,rfl,by decide,by decide,λH3 s3=>⟨_,rfl,_,_,rfl,rfl,_,_,rfl,rfl,(show(0:Int)<26 by decide),_,_,_,rfl,rfl,lf,K41.lc_at bk.1 bk.2,?_⟩⟩;refine⟨_,rfl,_,rfl,_,rfl,b,9,(ft b:Int),rfl,by decide,by omega,λH4 s4=>?_⟩;have e4:=s4 _ _ (s3 _ _ e2);rw[show ap b 9 (ft b:Int)=((iX b:Nat):Int) by rw[ab.2,wb.2.2]];refine⟨u,_,_,_,rfl,rfl,e4,ixI (by omega) (by rw[JR,KI]; omega),?_⟩;rw[K6,show(V.str ⟨#[K41.lc ((ap b 10 26+k)%26)]⟩)=V.str (tx [K41.lc ((ap b 10 26+k)%26)]) from rfl,GU];have s5:Same H (upd H4 u (.lst ((((wk b k).map λc=>[c]).map tx).map V.str))):=((s02.trans s3).trans s4).upd hu0;have e5:=aF (H:=H4) (a:=u) (o:=.lst ((((wk b k).map λc=>[c]).map tx).map V.str));generalize upd H4 u (.lst ((((wk b k).map λc=>[c]).map tx).map V.str))=H5 at s5 e5 ⊢;have wl:=nt b k;have fs:((wk b k).map λc=>[c]).flatten=wk b k:=xC _;refine⟨rfl,_,rfl,_,u,_,rfl,rfl,aG.of e5,lB (by rw[fs]; omega),?_⟩;rw[jK,fs];refine⟨_,rfl,(by show 12<=sizeLine; decide),λtl htl=>⟨tl,_,rfl,.inr (aI.of aF),rfl,(by decide +kernel),_,rfl,?_⟩⟩;have s6:=s5.trans (Same.new (o:=.tup K41.tkV) htl);refine cx (λc=>?_) (λc=>?_)
   . refine⟨_,rfl,_,_,rfl,rfl,(by rw[cX,wl]; exact bT (by show ft b+1<1000000; omega)),vq ?_ (q _ s6)⟩;have c:fS (.str (tx (wk b k))) K41.tkV=true:=c;unfold bx;rw[Je c,show(("z":Str))=tx [122] from rfl,dZ]
   . refine⟨_,rfl,vq ?_ (q _ s6)⟩;have c:¬ fS (.str (tx (wk b k))) K41.tkV=true:=c;unfold bx;rw[Ja c]
theorem kO:FnScope ["_law_cell_here","_law_k","_law_base","_law_params","_law_more","_law_rows","_law_names"] ["_law_cell_here","_law_k","_law_base"] (af kT):=by walk_at "s"
theorem CU (T:Txt K mg t):FnOk P w K mg base CX0 3 t.zp t.AX ["_law_cell_here","_law_k","_law_base"] (HN K):=by
 have G_l_part:=iL (P:=P) (w:=w) (base:=base) T;have G_l_name:=Hc (P:=P) (w:=w) (base:=base) T;refine T.Ar.F.ok kO (λvs H Q E h=>?_) (λcdv A outer s H vs Q E hr h=>?_)
 . obtain⟨c,k,b,rfl,k0,k1,q⟩:=h;rfl
 . skip
   refine lx ?_;intro XX;refine(let W4:TS:=_; have hW4:bD XX ((bN kT).drop 4) W4:=(aH (@aR _ _ 6 _ _ _ _ kO.nd rfl (Or.inl rfl) (ez nr (by rfl) T.b_tuple oJ (aC (gV (N':=["_law_j","_law_base"]) (js:=[none,some 2]) (by kernel_rfl) rfl (eZ rfl T.b_range (aC (aB 3) aD rfl)) dn (λ_ _ _ _=>(ag (i:=0) (show(["_law_j","_law_base"]:List Str).Nodup by decide +kernel) rfl (Or.inl rfl) (.inr rfl))) (λ_ _ _ _=>dX) (λ_ _ _ _=>(aU T.qT G_l_name (hr.mono (by decide)) (aC (aB 1) (aC (aB 0) aD rfl) rfl)))) aD rfl)) (by rfl) (by walk_at "f")) (@aJ _ _ _ (@aZ _ _ _ _ (bX (aC (bB (aC (aU T.qT G_l_name (hr.mono (by decide)) (aC (aB 2) (aC (@aK _ _ _ _ _ _ _ _ (aY bL) (aB 1) aE) aD rfl) rfl)) (aC (hW az (@aK _ _ _ _ _ _ _ _ (bj cz) (aB 1) aE) aE (aW _)) (aC (aB 6) (aC (ez nr (by rfl) T.b_tuple oJ (aC (aB 5) aD rfl)) aD rfl) rfl) rfl) rfl)) (aC (@aK _ _ _ _ _ _ _ _ (aY bL) (aB 3) (aB 4)) aD rfl) rfl))))); ?_);refine(let W2:TS:=_; have hW2:bD XX ((bN kT).drop 2) W2:=(aH (mN (i:=5) kO.nd rfl (Or.inl rfl) (N':=["_law_j","_law_base","_law_cell_here","_law_params"]) (js:=[none,some 2,some 0,some 3]) (by kernel_rfl) rfl (eZ rfl T.b_range (aC (aB 4) aD rfl)) dn (λ_ _ _ _=>(ag (i:=0) (show(["_law_j","_law_base","_law_cell_here","_law_params"]:List Str).Nodup by decide +kernel) rfl (Or.inl rfl) (.inr rfl))) (λ_ _ _ _=>dX) (λ_ _ _ _=>(bB (aC aP (aC (aU T.qT G_l_name (hr.mono (by decide)) (aC (aB 1) (aC (@aK _ _ _ _ _ _ _ _ (aY bL) (aB 3) (aB 0)) aD rfl) rfl)) (aC (@aK _ _ _ _ _ _ _ _ (bj cz) (aB 2) (@aK _ _ _ _ _ _ _ _ (bj wR) aE aE)) aD rfl) rfl) rfl))) (by rfl)) (aH (@aR _ _ 5 _ _ _ _ kO.nd rfl (Or.inl rfl) (@aK _ _ _ _ _ _ _ _ kL (@aK _ _ _ _ _ _ _ _ kL (aB 5) (@aK _ _ _ _ _ _ _ _ ml (bX (aC (bB (aC aP (aC aE aD rfl) rfl)) (aC (bB (aC aP aD rfl)) (aC (bB (aC aP aD rfl)) aD rfl) rfl) rfl)) (aU T.cw G_l_part (hr.mono (by decide)) (aC (aB 0) (aC (@aK _ _ _ _ _ _ _ _ (aY bL) (aB 1) aE) (aC aE aD rfl) rfl) rfl)))) (bX (aC (bB (aC aP (aC aE aD rfl) rfl)) aD rfl))) (by rfl) (by walk_at "f")) hW4)); ?_);obtain⟨c,k,b,rfl,k0,k1,q⟩:=h;refine⟨_,(aH (@aR _ _ 3 _ _ _ _ kO.nd rfl (Or.inr rfl) (aU T.cw G_l_part (hr.mono (by decide)) (aC (aB 0) (aC (aB 1) (aC aE aD rfl) rfl) rfl)) (by rfl) (by walk_at "f")) (aH (@aR _ _ 4 _ _ _ _ kO.nd rfl (Or.inl rfl) (aU T.cw G_l_part (hr.mono (by decide)) (aC (aB 0) (aC (@aK _ _ _ _ _ _ _ _ (aY bL) (aB 1) aE) (aC aE aD rfl) rfl) rfl)) (by rfl) (by walk_at "f")) hW2)),?_⟩;have nat:∀(j m:Int),0<m->∃n:Nat,ap c j m=n/\(n:Int)<m:=λj m hm=>by have h:=dq c j m hm;obtain⟨n,e⟩:=Js h.1;exact⟨n,e,by omega⟩
   obtain⟨p,ep,bp⟩:=nat k 4 (by decide);obtain⟨m,em,bm⟩:=nat (k+3) 4 (by decide);obtain⟨n,en,bn⟩:=nat (k+5) 3 (by decide);refine⟨_,rfl,_,rfl,c,k,4,rfl,k0,by decide,λH1 s1=>?_⟩;refine⟨_,rfl,_,rfl,_,_,rfl,rfl,c,k+3,4,rfl,by omega,by decide,λG0 s2=>?_⟩;have sG0:=s1.trans s2;rw[ep,em];refine⟨_,rfl,_,rfl,by omega,by omega,λu hu=>(let Jv1:Nat->List V->Hp->Prop:=λi acc H2=>Same G0 H2/\H2 u=some (.lst acc)/\∃rr:List K41.RR,acc=(rr.map λx=>V.ref x.w.r)/\rr.map (λx=>x.w.k)=List.replicate i ("copy":Str)/\((rr.map (·.d)).flatMap K12.rowStrs=(List.range i).map λj:Nat=>bx b ((p:Int)+(j:Int)))/\∀x∈rr,kR K (ers u H2) x; lV (lo:=0) (n:=m) (by omega) Jv1 ⟨Same.new hu,aF,[],rfl,rfl,rfl,λx hx=>by cases hx⟩ ?_ ?_ ?_)⟩
   . rintro i acc H2 hi ⟨s2',e2',rr,rfl,kk,_,_⟩;refine⟨e2',?_⟩;have:=Jt List.length kk;rw[JR,KU] at this;rw[JR,this];exact JZ _
   . rintro i acc H2 hi ⟨s2',e2',rr,rfl,kk,dd,hrr⟩;refine⟨_,rfl,_,rfl,_,rfl,_,_,rfl,rfl,b,(p:Int)+(0+(i:Int)),rfl,λH4 s4=>?_⟩;refine⟨_,rfl,_,_,rfl,rfl,⟨by decide,by decide,by decide⟩,_,_,rfl,rfl,zD,gZ,λcA hcA=>?_⟩;have e4:=s4 _ _ e2';have nc:cA≠u:=(aV e4 hcA).symm;have yc:=Same.new (o:=.tup [V.str "copy",V.str (bx b ((p:Int)+(0+(i:Int)))),V.int (c%2 ^ (48:Int).toNat)]) hcA;have nm1:=sh b ((p:Int)+(0+(i:Int)));refine⟨yc _ _ e4,((s2'.trans s4).trans yc).upd hu,aF,rr++[Bg.rcopyV cA (bx b ((p:Int)+(0+(i:Int)))) (c%2 ^ (48:Int).toNat)],(by rw[Jf]; rfl),(by rw[Jf,kk,List.replicate_succ']; rfl),(by rw[Jf,Ld,dd,Kb,Jf,KC]; rfl),λx hx=>?_⟩;rw[eu];rcases K1.mp hx with h|h
     . exact(hrr x h).mono (s4.trans yc).ers
     . cases Jz.mp h;have hT:aI K (ers u (upd H4 cA (.tup [V.str "copy",V.str (bx b ((p:Int)+(0+(i:Int)))),V.int (c%2 ^ (48:Int).toNat)]))) cA [V.str "copy",V.str (bx b ((p:Int)+(0+(i:Int)))),V.int (c%2 ^ (48:Int).toNat)]:=aI.of (by rw[aS nc]; exact aF);exact⟨Bg.ok_copyV hT nm1,cR.up (n:=1) (cR.tup hT (.cons (.str (by decide +kernel)) (.cons (.str nm1.2) (.cons .int .nil)))) (by decide)⟩
   rintro acc G2 ⟨s2',e2',rr,rfl,kk,dd,hrr⟩;have lrr:rr.length=m:=by have:=Jt List.length kk;rwa [JR,KU] at this
   refine⟨_,rfl,cB,λt1 ht1=>⟨fJ,λt2 ht2=>⟨fJ,λt3 ht3=>⟨gZ,λL1 hL1=>⟨_,rfl,_,rfl,_,_,rfl,rfl,c,k+5,3,rfl,by omega,by decide,λG7 s7=>?_⟩⟩⟩⟩⟩;rw[en];refine⟨L1,_,_,rfl,rfl,s7 _ _ aF,by omega,by omega,bT (by show 3 * ((n:Int)).toNat<1000000; omega),λL2 hL2=>?_⟩;rw[K6];have v1:=Same.new (o:=.tup [V.str "if",V.int 0]) ht1;have v2:=Same.new (o:=.tup [V.str "else"]) ht2;have v3:=Same.new (o:=.tup [V.str "end"]) ht3;have v4:=Same.new (o:=.lst [V.ref t1,V.ref t2,V.ref t3]) hL1;have v5:=s7.trans (Same.new (o:=.lst (List.replicate n [V.ref t1,V.ref t2,V.ref t3]).flatten) hL2);have o1:=v5 _ _ (v4 _ _ (v3 _ _ (v2 _ _ (aF (H:=G2) (a:=t1) (o:=.tup [V.str "if",V.int 0])))));have o2:=v5 _ _ (v4 _ _ (v3 _ _ (aF (H:=upd G2 t1 (.tup [V.str "if",V.int 0])) (a:=t2) (o:=.tup [V.str "else"]))));have o3:=v5 _ _ (v4 _ _ (aF (H:=upd (upd G2 t1 (.tup [V.str "if",V.int 0])) t2 (.tup [V.str "else"])) (a:=t3) (o:=.tup [V.str "end"])));have o5:=aF (H:=G7) (a:=L2) (o:=.lst (List.replicate n [V.ref t1,V.ref t2,V.ref t3]).flatten);have v15:=(((v1.trans v2).trans v3).trans v4).trans v5;generalize upd G7 L2 (.lst (List.replicate n [V.ref t1,V.ref t2,V.ref t3]).flatten)=G3 at o1 o2 o3 o5 v15 ⊢;have l3:(List.replicate n [V.ref t1,V.ref t2,V.ref t3]).flatten.length=n * 3:=lU _ _;refine⟨u,L2,_,_,rfl,rfl,v15 _ _ e2',o5,bT (by rw[JR,l3,lrr]; omega),λL3 hL3=>⟨cB,λt4 ht4=>⟨fJ,λL4 hL4=>?_⟩⟩⟩;have w3:=Same.new (o:=.lst ((rr.map λx=>V.ref x.w.r)++(List.replicate n [V.ref t1,V.ref t2,V.ref t3]).flatten)) hL3;have w4:=Same.new (o:=.tup [V.str "back",V.int 0]) ht4;have w5:=Same.new (o:=.lst [V.ref t4]) hL4;refine⟨L3,L4,_,_,rfl,rfl,w5 _ _ (w4 _ _ aF),aF,bT (by rw[JS,JR,l3,lrr]; show m+n * 3+1<1000000; omega),λL5 hL5=>?_⟩;have w6:=Same.new (o:=.lst ((rr.map λx=>V.ref x.w.r)++(List.replicate n [V.ref t1,V.ref t2,V.ref t3]).flatten++[V.ref t4])) hL5;have o4:=w6 _ _ (w5 _ _ (aF (H:=upd G3 L3 (.lst ((rr.map λx=>V.ref x.w.r)++(List.replicate n [V.ref t1,V.ref t2,V.ref t3]).flatten))) (a:=t4) (o:=.tup [V.str "back",V.int 0])));have o6:=aF (H:=upd (upd (upd G3 L3 (.lst ((rr.map λx=>V.ref x.w.r)++(List.replicate n [V.ref t1,V.ref t2,V.ref t3]).flatten))) t4 (.tup [V.str "back",V.int 0])) L4 (.lst [V.ref t4])) (a:=L5) (o:=.lst ((rr.map λx=>V.ref x.w.r)++(List.replicate n [V.ref t1,V.ref t2,V.ref t3]).flatten++[V.ref t4]));have w36:=((w3.trans w4).trans w5).trans w6;generalize upd (upd (upd (upd G3 L3 (.lst ((rr.map λx=>V.ref x.w.r)++(List.replicate n [V.ref t1,V.ref t2,V.ref t3]).flatten))) t4 (.tup [V.str "back",V.int 0])) L4 (.lst [V.ref t4])) L5 (.lst ((rr.map λx=>V.ref x.w.r)++(List.replicate n [V.ref t1,V.ref t2,V.ref t3]).flatten++[V.ref t4]))=G4 at o4 o6 w36 ⊢;have s24:=v15.trans w36;obtain⟨rF,eF,kF,lF,hF,dF⟩:∃rF:List K41.RR,(rr.map λx=>V.ref x.w.r)++(List.replicate n [V.ref t1,V.ref t2,V.ref t3]).flatten++[V.ref t4]=(rF.map λx=>V.ref x.w.r)/\rF.map (λx=>x.w.k)=List.replicate m ("copy":Str)++(List.replicate n [("if":Str),"else","end"]).flatten++[("back":Str)]/\rF.length<=100/\(∀x∈rF,kR K G4 x)/\(rF.map (·.d)).flatMap K12.rowStrs=(List.range m).map λj:Nat=>bx b ((p:Int)+(j:Int)):=by
     refine⟨rr++(List.replicate n [K41.rone "if" t1 (.int 0),K41.rnone "else" t2,K41.rnone "end" t3]).flatten++[K41.rone "back" t4 (.int 0)],?_,?_,?_,?_,?_⟩
     . rw[Jf,Jf,List.map_flatten,LS];rfl
     . rw[Jf,Jf,List.map_flatten,LS,kk];rfl
     . rw[JS,JS,lU,lrr];show m+n * 3+1<=100;omega
     . intro x hx;have r1:aI K G4 t1 [V.str "if",V.int 0]:=aI.of (w36 _ _ o1);have r2:aI K G4 t2 [V.str "else"]:=aI.of (w36 _ _ o2);have r3:aI K G4 t3 [V.str "end"]:=aI.of (w36 _ _ o3);have r4:aI K G4 t4 [V.str "back",V.int 0]:=aI.of o4;rcases K1.mp hx with hx|hx
       . rcases K1.mp hx with hx|hx
         . exact(hrr x hx).mono (bY.trans s24)
         . obtain⟨l,hl,hxl⟩:=Kn.mp hx;rw[(Ko.mp hl).2] at hxl;rcases Jl.mp hxl with h|h
           . rw[h]; exact⟨K41.ok_if r1 (K41.at_i 0),cR.up (n:=1) (cR.tup r1 (.cons (.str (by decide +kernel)) (.cons .int .nil))) (by decide)⟩
           . rcases Jl.mp h with h|h
             . rw[h]; exact⟨K41.ok_else r2,cR.up (n:=1) (cR.tup r2 (.cons (.str (by decide +kernel)) .nil)) (by decide)⟩
             . rw[Jz.mp h]; exact⟨K41.ok_end r3,cR.up (n:=1) (cR.tup r3 (.cons (.str (by decide +kernel)) .nil)) (by decide)⟩
       . rw[Jz.mp hx]; exact⟨K41.ok_back r4 (K41.at_i 0),cR.up (n:=1) (cR.tup r4 (.cons (.str (by decide +kernel)) (.cons .int .nil))) (by decide)⟩
     . rw[Jf,Jf,Ld,Ld,dd];have e1:(((List.replicate n [K41.rone "if" t1 (.int 0),K41.rnone "else" t2,K41.rnone "end" t3]).flatten).map (·.d)).flatMap K12.rowStrs=[]:=by
         rw[List.flatMap_eq_nil_iff];intro d hd;obtain⟨x,hx,rfl⟩:=Jy.mp hd;obtain⟨l,hl,hxl⟩:=Kn.mp hx;rw[(Ko.mp hl).2] at hxl;rcases Jl.mp hxl with h|h
         . rw[h]; rfl
         . rcases Jl.mp h with h|h
           . rw[h]; rfl
           . rw[Jz.mp h]; rfl
       rw[e1,Jv];exact Jv _
   rw[eF] at o6;have s04:=(sG0.trans s2').trans s24;refine⟨_,rfl,_,rfl,by omega,by omega,λnu hnu=>(let Jv2:Nat->List V->Hp->Prop:=λi acc H2=>Same G4 H2/\H2 nu=some (.lst acc)/\acc=((List.range i).map λj:Nat=>bx b j).map V.str; lV (lo:=0) (n:=p) (by omega) Jv2 ⟨Same.new hnu,aF,rfl⟩ ?_ ?_ ?_)⟩
   . rintro i acc H2 hi ⟨sN,eN,rfl⟩;exact⟨eN,by rw[JR,JR,KI]; exact JZ _⟩
   . rintro i acc H2 hi ⟨sN,eN,rfl⟩;refine⟨_,rfl,_,rfl,b,0+(i:Int),rfl,λH4 s4=>⟨s4 _ _ eN,(sN.trans s4).upd hnu,aF,?_⟩⟩;rw[Kb,Jf,Jf,KC];rfl
   rintro acc G5 ⟨sN,eN,rfl⟩;refine⟨nu,_,rfl,.inl ⟨aG.of eN,λq1 hq1=>?_⟩⟩;have x1:=Same.new (o:=.tup (((List.range p).map λj:Nat=>bx b j).map V.str)) hq1;refine⟨_,rfl,_,rfl,_,_,rfl,rfl,b,k+3,rfl,λG6 s6=>?_⟩;refine⟨_,rfl,_,_,rfl,rfl,(show(0:Int)<2 by decide),rfl,_,rfl,_,rfl,L5,_,rfl,.inl ⟨aG.of (s6 _ _ (x1 _ _ (sN _ _ o6))),λq2 hq2=>⟨le4,λfa hfa=>?_⟩⟩⟩;refine⟨_,rfl,_,rfl,_,_,rfl,rfl,cB,λe he=>?_⟩;have y2:=Same.new (o:=.tup (rF.map λx=>V.ref x.w.r)) hq2;have y3:=Same.new (o:=.tup [V.str (bx b (k+3)),V.bl (decide (V.int (k%2)=V.int 1)),V.ref q1,V.ref q2]) hfa;have y4:=Same.new (o:=.lst [V.ref fa,V.int ((p:Int)+(m:Int))]) he;have s56:=x1.trans s6;have s46:=sN.trans s56;have p1:aI K _ q1 (((List.range p).map λj:Nat=>bx b j).map V.str):=aI.of (y4 _ _ (y3 _ _ (y2 _ _ (s6 _ _ (aF (H:=G5) (a:=q1) (o:=.tup (((List.range p).map λj:Nat=>bx b j).map V.str)))))));have p2:aI K _ q2 (rF.map λx=>V.ref x.w.r):=aI.of (y4 _ _ (y3 _ _ aF));have p3:aI K _ fa [V.str (bx b (k+3)),V.bl (decide (V.int (k%2)=V.int 1)),V.ref q1,V.ref q2]:=aI.of (y4 _ _ aF);have eE:=aF (H:=upd (upd G6 q2 (.tup (rF.map λx=>V.ref x.w.r))) fa (.tup [V.str (bx b (k+3)),V.bl (decide (V.int (k%2)=V.int 1)),V.ref q1,V.ref q2])) (a:=e) (o:=.lst [V.ref fa,V.int ((p:Int)+(m:Int))]);have s4e:=s46.trans ((y2.trans y3).trans y4);have fr:=(s04.trans (s46.trans (y2.trans y3))).free he;have eE':upd (upd (upd G6 q2 (.tup (rF.map λx=>V.ref x.w.r))) fa (.tup [V.str (bx b (k+3)),V.bl (decide (V.int (k%2)=V.int 1)),V.ref q1,V.ref q2])) e (.lst [V.ref fa,V.int ((p:Int)+(m:Int))]) e=some (.lst [V.ref fa,V.int ((p+m:Nat):Int)]):=eE;have hps:∀s∈(List.range p).map λj:Nat=>bx b j,K12.Nm s:=λs hs=>by obtain⟨j,_,rfl⟩:=Jy.mp hs;exact sh b j
   have hrows:∀x∈rF,kR K (upd (upd (upd G6 q2 (.tup (rF.map λx=>V.ref x.w.r))) fa (.tup [V.str (bx b (k+3)),V.bl (decide (V.int (k%2)=V.int 1)),V.ref q1,V.ref q2])) e (.lst [V.ref fa,V.int ((p:Int)+(m:Int))])) x:=λx hx=>(hF x hx).mono s4e;have nk:=sh b (k+3);have rne:rF≠[]:=λz=>by have:=Jt List.length kF;rw[z,JS] at this;simp at this
   refine q ⟨⟨bx b (k+3),V.bl (decide (V.int (k%2)=V.int 1)),fa,q1,q2,(List.range p).map λj:Nat=>bx b j,rF.map (·.w),rF.map (·.d)⟩,p+m,e⟩ _ (s04.trans s4e) fr ⟨aG.of eE',?_,?_,?_,by show p+m<=24; omega,nk.2,DO p2 λx hx=>(hrows x hx).1⟩ rfl eE' ?_
   . refine Bg.fn_mk2 rF p3 p2 (λx hx=>(hrows x hx).1) p1 hps (by rw[JR,KI]; omega) lF ?_;rw[kF];exact vJ m n
   . refine .cons .bl (.cons (cR.up (n:=1) (cR.tup (n:=0) p1 (dh.of λv hv=>?_)) (by decide)) (.cons (cR.tup (n:=3) p2 (dh.of λv hv=>?_)) .nil))
     . obtain⟨s,hs,rfl⟩:=Jy.mp hv;exact .str (hps s hs).2
     . obtain⟨x,hx,rfl⟩:=Jy.mp hv;exact(hrows x hx).2
   . exact λz=>rne (List.map_eq_nil_iff.mp z)
   . show p+m=(K12.onceL (K12.allOf ((List.range p).map λj:Nat=>bx b j) (rF.map (·.d)))).length;unfold K12.allOf;rw[dF,J6,Ia (C8 (by omega)),JR,KI]
theorem mE:FnScope ["_law_cell_here","_law_many","_law_left","_law_sign","_law_one"] ["_law_cell_here","_law_many"] (af ou):=by walk_at "s"
theorem rq (T:Txt K mg t):∀n,FnOk P w K mg base CX0 (n+2) t.nD t.nF ["_law_cell_here","_law_many"] (qK K n)
| 0=>T.lY.F.ok mE (λvs H Q E h=>by obtain⟨c,m,rfl,hd,m0,q⟩:=h; exact absurd hd (KW _)) (λcdv A outer s H vs Q E hr h=>by obtain⟨c,m,rfl,hd,m0,q⟩:=h; exact absurd hd (KW _))
| n+1=>by
 have G_l_tree:FnOk P w K mg base CX0 (n+2) t.nD t.nF ["_law_cell_here","_law_many"] (qK K n):=rq T n;have G_l_part:=iL (P:=P) (w:=w) (base:=base) T;refine T.lY.F.ok mE (λvs H Q E h=>?_) (λcdv A outer s H vs Q E hr h=>?_)
 . obtain⟨c,m,rfl,hd,m0,q⟩:=h;rfl
 . obtain⟨c,m,rfl,hd,m0,q⟩:=h;refine⟨_,(aH (ae (@PW.pt _ _ _ (fi (ac az (aB 1) aE (aW _)) (gI (ac (aY kP) (@aK _ _ _ _ _ _ _ _ (bj cz) (aB 0) aE) aE (aW _))))) (@aJ _ _ _ (@aZ _ _ _ _ (bB (aC aP (aC (aU T.cw G_l_part (hr.mono (by omega)) (aC (aB 0) (aC aE (aC aE aD rfl) rfl) rfl)) aD rfl) rfl)))) au) (aH (ae (ac az (aB 1) aE (aW _)) (@aJ _ _ _ (@aZ _ _ _ _ (bB (aC aP (aC (@aK _ _ _ _ _ _ _ _ (bj cz) (@aK _ _ _ _ _ _ _ _ (bj gP) (aB 0) aE) (@aK _ _ _ _ _ _ _ _ (bj wR) aE aE)) aD rfl) rfl)))) au) (aH (@aR _ _ 2 _ _ _ _ mE.nd rfl (Or.inl rfl) (@aK _ _ _ _ _ _ _ _ (aY bL) aE (@aK _ _ _ _ _ _ _ _ (bj cz) (aB 0) (@aK _ _ _ _ _ _ _ _ (aY gn) (aB 1) aE))) (by rfl) (by walk_at "f")) (aH (@aR _ _ 3 _ _ _ _ mE.nd rfl (Or.inl rfl) (aL ja aP (aU T.cw G_l_part (hr.mono (by omega)) (aC (aB 0) (aC aE (aC aE aD rfl) rfl) rfl)) (λ_ _=>rfl)) (by rfl) (by walk_at "f")) (aH (@aR _ _ 4 _ _ _ _ mE.nd rfl (Or.inl rfl) (aU T.lY G_l_tree (hr.mono (by omega)) (aC (@aK _ _ _ _ _ _ _ _ (bj cz) (@aK _ _ _ _ _ _ _ _ (aY bL) (@aK _ _ _ _ _ _ _ _ (bj gP) (aB 0) aE) aE) aE) (aC (aB 2) aD rfl) rfl)) (by rfl) (by walk_at "f")) (@aJ _ _ _ (@aZ _ _ _ _ (bB (aC (aB 3) (aC (aB 4) (aC (aU T.lY G_l_tree (hr.mono (by omega)) (aC (@aK _ _ _ _ _ _ _ _ (bj cz) (@aK _ _ _ _ _ _ _ _ (aY bL) (@aK _ _ _ _ _ _ _ _ (bj gP) (aB 0) aE) aE) aE) (aC (@aK _ _ _ _ _ _ _ _ (aY gn) (aB 1) (aB 2)) aD rfl) rfl)) aD rfl) rfl) rfl))))))))),?_⟩;refine⟨_,rfl,rfl,_,rfl,?_⟩;by_cases hm:m=1
   . subst hm;refine bF (K3 rfl) ⟨_,rfl,_,_,rfl,rfl,(show(0:Int)<3 by decide),_,_,rfl,rfl,_,rfl,cx (λh3=>?_) (λh3=>?_)⟩
     . have b:=dq c 2 128 (by decide);obtain⟨k,ek⟩:=Js b.1;exact⟨_,rfl,c,2,128,rfl,by decide,by decide,λH1 s1=>⟨cB,λp hp=>q (.box k) _ _ (s1.trans (Same.new hp)) (dU (aI.of aF) (de _) (by rw[ek]; exact da _)) (by show k<8 ^ 16; rw[cD]; omega) (by show k<=127; omega) rfl⟩⟩
     . have b:=eI (c * 94906267) 281474976710656 (by decide);obtain⟨k,ek⟩:=Js b.1;refine⟨_,rfl,rfl,_,rfl,bF (K3 rfl) ⟨_,rfl,_,_,rfl,rfl,.inr ⟨by decide,by decide⟩,_,_,rfl,rfl,⟨by decide,by decide,by decide⟩,_,_,rfl,rfl,zD,cB,λp hp=>q (.num k) _ _ (Same.new hp) (dU (aI.of aF) (de _) ?_) (by show k<8 ^ 16; rw[cD]; omega) trivial rfl⟩⟩;show DatV K _ (.int k) (V.int (c * 94906267%2 ^ (48:Int).toNat));rw[GH,ek];exact da _
   have h1:¬ decide (V.int (m:Int)=V.int 1)=true:=λh=>hm (by have:=V.int.inj (dG h); omega);refine bC h1 (je ⟨_,rfl,rfl,_,rfl,bC h1 ?_⟩);have lb:=eI c ((m:Int) - 1) (by omega);obtain⟨L,eL⟩:=Js (a:=1+c%((m:Int) - 1)) (by omega);have L1:1<=L:=by omega
   have L2:L<m:=by omega
   refine⟨_,rfl,_,rfl,_,_,rfl,rfl,_,_,rfl,rfl,(by show(0:Int)<(m:Int) - 1; omega),_,_,rfl,rfl,?_⟩;have ib:=dq c 3 9 (by decide);obtain⟨i,ei⟩:=Js ib.1;have i9:i<9:=by omega
   refine⟨_,rfl,c,3,9,rfl,by decide,by decide,λH1 s1=>⟨_,_,qd.getD i 0,rfl,rfl,Hv,(by rw[ei]; exact BX i i9),?_⟩⟩;refine⟨_,rfl,_,_,rfl,rfl,.inr ⟨by decide,by decide⟩,_,_,rfl,rfl,_,_,rfl,rfl,(show(0:Int)<2147483647 by decide),_,rfl,_,L,(by show [V.int _,V.int (1+c%((m:Int) - 1))]=_; rw[eL]),by omega,by omega,λt1 v1 H2 s2 b1 o1 z1 l1=>?_⟩;refine⟨_,rfl,_,rfl,_,rfl,_,_,rfl,rfl,.inr ⟨by decide,by decide⟩,_,_,rfl,rfl,_,_,rfl,rfl,(show(0:Int)<2147483647 by decide),_,rfl,_,rfl,_,_,rfl,rfl,_,m - L,(by show [V.int _,V.int ((m:Int) - (1+c%((m:Int) - 1)))]=_; rw[eL]; show [_,V.int ((m:Int) - (L:Int))]=_; rw[show(m:Int) - (L:Int)=((m - L:Nat):Int) by omega]),by omega,by omega,λt2 v2 H3 s3 b2 o2 z2 l2=>?_⟩;exact⟨gZ,λp hp=>q (.op i t1 t2) _ _ (((s1.trans s2).trans s3).trans (Same.new hp)) (iF (aI.of aF) (cy (de _) (cy (DatV.mono (s3.trans (Same.new hp)) _ _ b1) (cy (DatV.mono (Same.new hp) _ _ b2) bo)))) ⟨i9,o1,o2⟩ ⟨z1,z2⟩ (by show lv t1+lv t2=m; omega)⟩
theorem yI:FnScope ["_law_cell_here","_law_way"] ["_law_cell_here"] (af oZ):=by walk_at "s"
theorem Dm (T:Txt K mg t):FnOk P w K mg base CX0 20 t.A0 t.Ae ["_law_cell_here"] (C' K):=by
 have G_l_part:=iL (P:=P) (w:=w) (base:=base) T;have G_l_tree:FnOk P w K mg base CX0 19 t.nD t.nF ["_law_cell_here","_law_many"] (qK K 17):=rq T 17;refine T.Av.F.ok yI (λvs H Q E h=>?_) (λcdv A outer s H vs Q E hr h=>?_)
 . obtain⟨c,rfl,q⟩:=h;rfl
 . obtain⟨c,rfl,q⟩:=h;refine⟨_,(aH (@aR _ _ 1 _ _ _ _ yI.nd rfl (Or.inl rfl) (aU T.cw G_l_part (hr.mono (by decide)) (aC (aB 0) (aC aE (aC aE aD rfl) rfl) rfl)) (by rfl) (by walk_at "f")) (aH (ae (ac (aY ia) (aB 1) aE (aW _)) (@aJ _ _ _ (@aZ _ _ _ _ j3)) au) (@aJ _ _ _ (@aZ _ _ _ _ (aU T.lY G_l_tree (hr.mono (by decide)) (aC (aB 0) (aC (aL (show aN _ (b6 K) from bE) (bX (aC aE (aC aE (aC aE (aC aE (aC aE (aC (@aK _ _ _ _ _ _ _ _ (aY bL) aE (aU T.cw G_l_part (hr.mono (by decide)) (aC (aB 0) (aC aE (aC aE aD rfl) rfl) rfl))) aD rfl) rfl) rfl) rfl) rfl) rfl)) (@aK _ _ _ _ _ _ _ _ (aY gn) (aB 1) aE) (λ_ _=>rfl)) aD rfl) rfl)))))),?_⟩;have b8:=dq c 0 8 (by decide);refine⟨_,rfl,c,0,8,rfl,by decide,by decide,λH1 s1=>⟨_,rfl,_,_,rfl,rfl,_,rfl,?_⟩⟩;by_cases h0:ap c 0 8<2
   . exact bF (K3 h0) (q none _ _ s1 vE ⟨True.intro,True.intro⟩)
   refine bC (by rw[Jg]; exact h0) ?_;have b1:=dq c 1 8 (by decide);obtain⟨y,hy,y1,y8⟩:∃y:Nat,bS ([1,1,1,1,2,1+ap c 1 8].map V.int) (ap c 0 8 - 2)=some (V.int y)/\1<=y/\y<=8:=by
     obtain⟨w,ew⟩:=Js (a:=1+ap c 1 8) (by omega);have:ap c 0 8 - 2=0\/ap c 0 8 - 2=1\/ap c 0 8 - 2=2\/ap c 0 8 - 2=3\/ap c 0 8 - 2=4\/ap c 0 8 - 2=5:=by omega
     rcases this with h|h|h|h|h|h
     . exact⟨1,by rw[h]; rfl,by decide,by decide⟩
     . exact⟨1,by rw[h]; rfl,by decide,by decide⟩
     . exact⟨1,by rw[h]; rfl,by decide,by decide⟩
     . exact⟨1,by rw[h]; rfl,by decide,by decide⟩
     . exact⟨2,by rw[h]; rfl,by decide,by decide⟩
     . exact⟨w,by rw[h,ew]; rfl,by omega,by omega⟩
   refine⟨_,rfl,_,rfl,c,1,8,rfl,by decide,by decide,λH2 s2=>⟨_,_,rfl,rfl,(by show 6<=sizeLine; exact le6),λl hl=>?_⟩⟩;refine⟨_,rfl,_,_,rfl,rfl,l,_,_,_,rfl,rfl,aG.of aF,hy,c,y,rfl,by omega,by omega,λtr v H3 s3 b3 o3 z3 l3=>q (some tr) v H3 ((s1.trans s2).trans ((Same.new hl).trans s3)) b3 ⟨⟨o3,by omega⟩,z3⟩⟩
theorem gj:FnScope ["_law_cell_here","_law_built","_law_last","_law_chain","_law_views","_law_level","_law_k","_law_ahead","_law_places","_law_i","_law_seed"] ["_law_cell_here","_law_built","_law_last"] (af jq):=by walk_at "s"
theorem Hz (T:Txt K mg t):FnOk P w K mg base CX0 21 t.zq t.AY ["_law_cell_here","_law_built","_law_last"] (CI K):=by
 have G_l_part:=iL (P:=P) (w:=w) (base:=base) T;have G_l_place:=Dm (P:=P) (w:=w) (base:=base) T;refine T.As.F.ok gj (λvs H Q E h=>?_) (λcdv A outer s H vs Q E hr h=>?_)
 . obtain⟨c,b,bs,v,m0,rfl,hB,hv,f0,q⟩:=h;rfl
 . skip
   refine lx ?_;intro XX;refine(let W2_5:TS:=_; have hW2_5:bD XX ((sB ((bN jq).getD 2 (.Pass ⟨0,0,0,0⟩))).drop 5) W2_5:=(aH (@cj _ _ _ _ (cH Jk Jp Jq dY (aB 3) (aC (bB (aC (aB 6) (aC (aU T.cw G_l_part (hr.mono (by decide)) (aC (aB 0) (aC (@aK _ _ _ _ _ _ _ _ (aY bL) aE (aB 5)) (aC (bU (show aw _ (.builtin "len") (cU K) from cb) (by rfl) T.b_len bV (aC (aL (show aN _ (ai K) from ak) (aL (show aN _ (b6 K) from bE) (aL (show aN _ (b6 K) from bE) (aB 1) (aB 6) (λ_ _=>rfl)) aE (λ_ _=>rfl)) aE (λ_ _=>rfl)) aD rfl)) aD rfl) rfl) rfl)) aD rfl) rfl)) aD rfl)) (by rfl)) (@aJ _ _ _ (@cj _ _ _ _ (cH Jk Jp Jq dY (aB 4) (aC (aB 8) aD rfl)) (by rfl)))); ?_);refine(let W2_4:TS:=_; have hW2_4:bD XX ((sB ((bN jq).getD 2 (.Pass ⟨0,0,0,0⟩))).drop 4) W2_4:=(aH (dI PassesOwn.never rfl (eZ rfl T.b_range (aC (aL (show aN _ (b6 K) from bE) (aL (show aN _ (b6 K) from bE) (aB 1) (aB 6) (λ_ _=>rfl)) aE (λ_ _=>rfl)) aD rfl)) (ag (i:=9) gj.nd rfl (Or.inl rfl)) (aH (@aR _ _ 10 _ _ _ _ gj.nd rfl (Or.inl rfl) (@aK _ _ _ _ _ _ _ _ (aY bL) (@aK _ _ _ _ _ _ _ _ (aY bL) (aB 0) (@aK _ _ _ _ _ _ _ _ (bj gP) aE (aB 9))) (@aK _ _ _ _ _ _ _ _ (bj gP) aE (aB 5))) (by rfl) (by walk_at "f")) (aH (@cj _ _ _ _ (cH Jk Jp Jq dY (aB 8) (aC (aU T.Av G_l_place (hr.mono (by decide)) (aC (aB 10) aD rfl)) aD rfl)) (by rfl)) (@aJ _ _ _ (ae (@PW.pt _ _ _ (fi (ac (tU hr.units) (aB 7) (bX aD) (aW _)) (gI (ac az (aU T.cw G_l_part (hr.mono (by decide)) (aC (aB 10) (aC aE (aC aE aD rfl) rfl) rfl)) aE (aW _))))) (@aJ _ _ _ (gX (aL (show aN _ (b6 K) from bE) (aB 7) (aB 9) (λ_ _=>rfl)) (j1 (aB 8) (kC lO aE) jF))) au))))) hW2_5); ?_);refine(let W2_2:TS:=_; have hW2_2:bD XX ((sB ((bN jq).getD 2 (.Pass ⟨0,0,0,0⟩))).drop 2) W2_2:=(mZ (ae (@PW.pt _ _ _ (fi (ac (aY ia) (aB 5) (bU (show aw _ (.builtin "len") (cU K) from cb) (by rfl) T.b_len bV (aC (aL (show aN _ (ai K) from ak) (aB 2) aE (λ_ _=>rfl)) aD rfl)) (aW _)) (gI (ac (aY kP) (aU T.cw G_l_part (hr.mono (by decide)) (aC (aB 0) (aC aE (aC aE aD rfl) rfl) rfl)) aE (aW _))))) (aH (@aR _ _ 6 _ _ _ _ gj.nd rfl (Or.inl rfl) (aL (show aN _ (ai K) from ak) (aL (show aN _ (b6 K) from bE) (aL (show aN _ (ai K) from ak) (aB 2) aE (λ_ _=>rfl)) (aB 5) (λ_ _=>rfl)) aE (λ_ _=>rfl)) (by rfl) (by walk_at "f")) (@aJ _ _ _ (@aR _ _ 7 _ _ _ _ gj.nd rfl (Or.inl rfl) (aL (show aN _ (b6 K) from bE) (aL (show aN _ (ai K) from ak) (aB 2) aE (λ_ _=>rfl)) (aB 5) (λ_ _=>rfl)) (by rfl) (by walk_at "f")))) au) (aH (@aR _ _ 8 _ _ _ _ gj.nd rfl (Or.inl rfl) (bX aD) (by rfl) (by walk_at "f")) hW2_4)); ?_);obtain⟨c,b,bs,v,m0,rfl,hB,hv,f0,q⟩:=h;refine⟨_,(aH (@aR _ _ 3 _ _ _ _ gj.nd rfl (Or.inl rfl) (bX aD) (by rfl) (by walk_at "f")) (aH (@aR _ _ 4 _ _ _ _ gj.nd rfl (Or.inl rfl) (bX aD) (by rfl) (by walk_at "f")) (aH (dI PassesOwn.never rfl (eZ rfl T.b_range (aC (@aK _ _ _ _ _ _ _ _ (aY bL) aE (aU T.cw G_l_part (hr.mono (by decide)) (aC (aB 0) (aC aE (aC aE aD rfl) rfl) rfl))) aD rfl)) (ag (i:=5) gj.nd rfl (Or.inl rfl)) (aH (@aR _ _ 6 _ _ _ _ gj.nd rfl (Or.inl rfl) (aU T.cw G_l_part (hr.mono (by decide)) (aC (aB 0) (aC (@aK _ _ _ _ _ _ _ _ (aY bL) aE (aB 5)) (aC (bU (show aw _ (.builtin "len") (cU K) from cb) (by rfl) T.b_len bV (aC (aB 1) aD rfl)) aD rfl) rfl) rfl)) (by rfl) (by walk_at "f")) (aH (@aR _ _ 7 _ _ _ _ gj.nd rfl (Or.inl rfl) (bX aD) (by rfl) (by walk_at "f")) hW2_2))) (@aJ _ _ _ (@aZ _ _ _ _ (bB (aC (aB 3) (aC (aB 4) aD rfl) rfl))))))),?_⟩;obtain⟨lA,x1,x2,rfl,hlA,hc0,hw0⟩:=eK hv;obtain⟨cA,cs,rfl,hcs,dcs⟩:=fh hc0;obtain⟨wA,ws,rfl,hws,dws⟩:=fh hw0;have lcs:cs.length=m0.ch.length:=by rw[cQ dcs,JR]
   have n12:=hB.bt.n12;have lrl:(bz bs).length=bs.length:=by unfold bz ay; rw[JR,JR]
   have nb1:1<=bs.length:=by have:=(mO hB).n1; rw[lrl] at this; exact this
   have lbs:(bs.map λx=>V.ref x.e).length=bs.length:=JR _;obtain⟨m0v,m0i,m0c,m0o⟩:m0.vs.length=m0.ch.length/\(∀c∈m0.ch,c.1<bs.length)/\nZ (cJ bs) m0/\∀v∈m0.vs,∀o∈v,dO o:=by
     rcases f0 with rfl|f0
     . exact⟨rfl,(λc h=>by cases h),zJ _,λv h=>by cases h⟩
     . exact⟨f0.vl,(λc hc=>by rw[<- lrl]; exact(f0.ix c hc).1),f0.cn,f0.ok⟩
   refine⟨ci,λcl hcl=>⟨ci,λvl hvl=>?_⟩⟩;have hvl0:H vl=none:=(Same.new hcl).free hvl;have ecl:upd (upd H cl (.lst [])) vl (.lst []) cl=some (.lst []):=Same.new hvl _ _ aF;have evl:upd (upd H cl (.lst [])) vl (.lst []) vl=some (.lst []):=aF;have ncv:cl≠vl:=aV (show upd H cl (.lst []) cl=_ from aF) hvl;have s01:=(Same.new (o:=.lst []) hcl).trans (Same.new (o:=.lst []) hvl);generalize upd (upd H cl (.lst [])) vl (.lst [])=H1 at ecl evl s01 ⊢;have b0:=dq c 0 3 (by decide);obtain⟨n,en⟩:=Js (a:=1+ap c 0 3) (by omega);refine⟨_,rfl,c,0,3,rfl,by decide,by decide,λH2 s2=>⟨_,_,rfl,rfl,_,rfl,by omega,by omega,?_⟩⟩;rw[en];refine(let Jv1:Nat->St->Hp->Prop:=λj σ G=>∃(v5 v6 v7 v8 v9 v10:Option V) (ch:List (Nat×Nat)) (vw:List (List (Option BTr))) (us vs:List V),σ=[some (.int c),some (.ref b),some (.ref lA),some (.ref cl),some (.ref vl),v5,v6,v7,v8,v9,v10]/\Same H G/\G cl=some (.lst us)/\G vl=some (.lst vs)/\ch.length=j/\vw.length=j/\DatAll K G (ch.map io) us/\DatAll K (j4 H cl vl G) (vw.map dj) vs/\(∀c∈ch,c.1<(bz bs).length/\c.2<(bz bs).getD c.1 0)/\(∀(k:Nat) c v,ch[k]?=some c->vw[k]?=some v->v.length=cJ bs c.1)/\∀v∈vw,∀o∈v,dO o; i6 (lo:=0) (n:=n) Jv1 ⟨_,_,_,_,_,_,[],[],[],[],rfl,s01.trans s2,s2 _ _ ecl,s2 _ _ evl,rfl,rfl,bo,bo,(λc h=>by cases h),(λk c v h=>by cases h),λv h=>by cases h⟩ ?_ ?_)
   . rintro j σ G hj ⟨v5,v6,v7,v8,v9,v10,ch,vw,us,vs,rfl,sG,eC,eV,lch,lvw,dC,dV,fC,fN,fO⟩;have jlt:j<3:=by omega
     refine⟨_,rfl,_,rfl,_,_,rfl,rfl,_,rfl,b,_,rfl,.inl (sG.seq hB.bt.ls),c,1+(0+(j:Int)),_,rfl,by omega,by omega,λG1 t1=>?_⟩;have pb:=dq c (1+(0+(j:Int))) ((bs.map λx=>V.ref x.e).length:Int) (by omega);obtain⟨k0,ek0⟩:=Js pb.1;rw[ek0];have hk0':k0<bs.length:=by omega
     refine⟨ci,λaA haA=>?_⟩;have t2:=t1.trans (Same.new (o:=.lst []) haA);have hE:DatV K (upd G1 aA (.lst [])) (dj []) (.ref aA):=cf (aG.of aF) bo;generalize upd G1 aA (.lst [])=G2 at t2 hE ⊢;refine⟨λσ G'=>∃(k:Nat) (av:V) (v8 v9 v10:Option V) (ah:List (Option BTr)),σ=[some (.int c),some (.ref b),some (.ref lA),some (.ref cl),some (.ref vl),some (.int (0+(j:Int))),some (.int k),some av,v8,v9,v10]/\Same G G'/\k<bs.length/\DatV K G' (dj ah) av/\(∀o∈ah,dO o)/\(ah=[]\/ah.length=cJ bs k),?_,?_⟩
     . have s02:=sG.trans t2;refine⟨_,rfl,_,rfl,lA,_,_,_,rfl,rfl,s02.tup hlA,bP,cA,_,rfl,.inl (s02.seq hcs),_,_,rfl,rfl,_,rfl,?_⟩;by_cases hj2:j<m0.ch.length
       case neg=>exact bC (by walk_at "o") (je ⟨k0,_,_,_,_,[],rfl,t2,hk0',hE,(λo h=>by cases h),.inl rfl⟩)
       obtain⟨d0,hd0⟩:∃d0,m0.ch[j]?=some d0:=⟨_,JV hj2⟩
       obtain⟨v0,hv0⟩:∃v0,m0.vs[j]?=some v0:=⟨_,JV (by rw[m0v]; exact hj2)⟩
       obtain⟨u0,hu0,du0⟩:=fg dcs hd0;obtain⟨fA0,y1,y2,rfl,hf0,hy1,hy2⟩:=eK du0;cases gU hy1;obtain⟨w1,hw1,dw1⟩:=fg dws hv0;refine bF (by walk_at "o") ⟨_,rfl,c,4,3,rfl,by decide,by decide,λG3 t3=>⟨_,_,rfl,rfl,_,rfl,cx (λ_=>?_) (λ_=>⟨k0,_,_,_,_,[],rfl,t2.trans t3,hk0',DatV.mono t3 _ _ hE,(λo h=>by cases h),.inl rfl⟩)⟩⟩;have s03:=s02.trans t3;refine⟨_,rfl,lA,_,_,_,rfl,rfl,s03.tup hlA,bP,_,rfl,cA,_,_,_,rfl,rfl,s03.seq hcs,(by rw[KC]; exact bh hu0),fA0,_,_,_,rfl,rfl,s03.tup hf0,bP,_,rfl,lA,_,_,_,rfl,rfl,s03.tup hlA,rfl,_,rfl,wA,_,_,_,rfl,rfl,s03.seq hws,(by rw[KC]; exact bh hw1),d0.1,w1,_,_,_,v0,rfl,t2.trans t3,m0i d0 (JW hd0),DatV.mono s03 _ _ dw1,m0o v0 (JW hv0),.inr (m0c j d0 v0 hd0 hv0)⟩
     rintro σ G3 ⟨k,av,v8,v9,v10,ah,rfl,t3,hk,dav,okah,lah⟩;obtain⟨aA',ys,rfl,hys,dys⟩:=fh dav;obtain⟨x,hx⟩:∃x,bs[k]?=some x:=⟨_,JV hk⟩
     have hX:=hB.bt.all x (JW hx);have hfx:(bs.map (·.f))[k]?=some x.f:=by rw[Jc,hx]; rfl
     have cnx:cJ bs k=x.cnt:=(pO hfx).trans (hB.cn x (JW hx)).symm;have b24:=hX.cn;refine⟨ci,λpA hpA=>?_⟩;have xp:=Same.new (o:=.lst []) hpA;have s03:=sG.trans t3;refine⟨_,rfl,_,rfl,b,_,_,_,rfl,rfl,(s03.trans xp).seq hB.bt.ls,bh (by rw[Jc,hx]; rfl),x.e,_,_,_,rfl,rfl,(s03.trans xp).seq hX.en,rfl,_,rfl,by omega,by omega,?_⟩;refine(let Jv2:Nat->St->Hp->Prop:=λm σ H8=>∃(v9 v10:Option V),σ=[some (.int c),some (.ref b),some (.ref lA),some (.ref cl),some (.ref vl),some (.int (0+(j:Int))),some (.int k),some (.ref aA'),some (.ref pA),v9,v10]/\Same G3 H8/\∃(ps:List V) (pl:List (Option BTr)),H8 pA=some (.lst ps)/\DatAll K H8 (pl.map bI) ps/\pl.length=m/\∀o∈pl,dO o; i6 (lo:=0) (n:=x.cnt) Jv2 ⟨_,_,rfl,xp,[],[],aF,bo,rfl,λo h=>by cases h⟩ ?_ ?_)
     . rintro m σ H8 hm ⟨v9,v10,rfl,s8,ps,pl,e8,d8,lpl,okp⟩;have lps:ps.length=m:=by rw[cQ d8,JR,lpl]
       refine⟨_,rfl,_,rfl,_,_,rfl,rfl,.inl ⟨by decide,by decide⟩,_,_,rfl,rfl,_,rfl,_,_,rfl,rfl,.inl ⟨by decide,by decide⟩,_,_,rfl,rfl,?_⟩;refine⟨_,rfl,.inl ⟨rfl,_,aG.of e8⟩,_,rfl,_,rfl,λo v H9 s9 d9 ok9=>⟨pA,_,_,rfl,rfl,s9 _ _ e8,bT (n:=ps.length+1) (by omega),?_⟩⟩;have e9:=s9 _ _ e8;have sA:=(s8.trans s9).upd (o:=.lst (ps++[v])) hpA;have eA:=aF (H:=H9) (a:=pA) (o:=.lst (ps++[v]));have dA:DatAll K (upd H9 pA (.lst (ps++[v]))) ((pl++[o]).map bI) (ps++[v]):=DatAll.putT (gC _) e9 (by rw[Jf]; exact gG (L2.DatAll.mono s9 _ _ d8) d9);have okA:∀o'∈pl++[o],dO o':=λo' h=>by
         rcases K1.mp h with h|h
         . exact okp o' h
         . rw[Jz.mp h]; exact ok9
       have dA0:DatAll K (upd H9 pA (.lst (ps++[v]))) (pl.map bI) ps:=DatAll.putT (gC _) e9 (L2.DatAll.mono s9 _ _ d8);generalize upd H9 pA (.lst (ps++[v]))=HA at sA eA dA dA0 ⊢;refine⟨_,rfl,ci,λeN heN=>?_⟩;have xN:=Same.new (o:=.lst []) heN;refine⟨_,_,DatV.mono (sA.trans xN) _ _ dav,cf (aG.of aF) bo,(uV λo ho=>(okah o ho).1).shaped (by decide),(ao.list (n:=0) (λd h=>by cases h)).shaped (by decide),_,rfl,?_⟩;rw[show PyData.eqv (dj ah) (.list [])=(ah.map bI).isEmpty from rM _];have keep:∀H':Hp,Same HA H'->Same G3 H'/\∃(ps':List V) (pl':List (Option BTr)),H' pA=some (.lst ps')/\DatAll K H' (pl'.map bI) ps'/\pl'.length=m+1/\∀o∈pl',dO o:=λH' s'=>⟨sA.trans s',_,_,s' _ _ eA,L2.DatAll.mono s' _ _ dA,by rw[JS,lpl]; rfl,okA⟩
       cases hah:ah with
       | nil=>exact bC (by simp) (je ⟨_,_,rfl,keep _ xN⟩)
       | cons a0 ar =>
         have hne:ah≠[]:=by rw[hah]; exact MV _ _
         have lh:ah.length=x.cnt:=(lah.resolve_left hne).trans cnx;refine bF rfl ⟨_,rfl,_,7,2,rfl,by decide,by decide,λHB sB'=>⟨rfl,_,rfl,cx (λ_=>?_) (λ_=>⟨_,_,rfl,keep _ (xN.trans sB')⟩)⟩⟩;obtain⟨oa,hoa⟩:∃oa,ah[m]?=some oa:=⟨_,JV (by omega)⟩
         obtain⟨ya,hya,dya⟩:=fg dys hoa;have sN:=xN.trans sB';have eB:=sN _ _ eA;refine⟨_,rfl,_,rfl,aA',_,_,_,rfl,rfl,(sA.trans sN).seq hys,(by rw[KC]; exact bh hya),_,rfl,_,rfl,pA,_,_,_,rfl,rfl,eB,(by rw[JS]; exact J9 _),_,_,rfl,?_⟩;rw[CM];refine⟨(sA.trans sN).upd hpA,_,pl++[oa],aF,DatAll.putT (gC _) eB ?_,by rw[JS,lpl]; rfl,λo' h=>?_⟩
         . rw[Jf];exact gG (L2.DatAll.mono sN _ _ dA0) (L2.DatV.mono (sA.trans sN) _ _ dya)
         . rcases K1.mp h with h|h
           . exact okp o' h
           . rw[Jz.mp h]; exact okah oa (JW hoa)
     . rintro σ H8 ⟨v9,v10,rfl,s8,ps,pl,e8,d8,lpl,okp⟩;have sG8:=t3.trans s8;have s08:=sG.trans sG8;have hX8:=hX.mono s08;have atb:bS (bs.map λx=>V.ref x.e) (k:Int)=some (V.ref x.e):=bh (by rw[Jc,hx]; rfl);have nPC:pA≠cl:=λh=>by have h1:=t3 _ _ eC; rw[<- h,hpA] at h1; cases h1
       have nPV:pA≠vl:=λh=>by have h1:=t3 _ _ eV; rw[<- h,hpA] at h1; cases h1
       have hpH:H pA=none:=s03.free hpA;have rp:1<=x.f.rs.length:=by
         cases e:x.f.rs with
         | nil=>exact absurd e hX.ne
         | cons y l=>rw[JY]; omega
       have lrs:(x.f.rs.map λw=>V.ref w.r).length=x.f.rs.length:=JR _;have rlx:(bz bs).getD k 0=x.f.rs.length:=by unfold bz ay; rw[JU,Jc,hfx]; rfl
       have eC8:=sG8 _ _ eC;refine⟨_,rfl,.inl ⟨rfl,_,aG.of eC8⟩,_,rfl,?_⟩;refine⟨_,rfl,_,rfl,_,_,rfl,rfl,_,rfl,_,rfl,b,_,_,_,rfl,rfl,s08.seq hB.bt.ls,atb,x.e,_,_,_,rfl,rfl,hX8.en,bP,x.f.fa,_,_,_,rfl,rfl,hX8.fn.fn,rfl,x.f.ra,_,rfl,.inr hX8.fn.rw_,c,5+(0+(j:Int)),_,rfl,by omega,by omega,λH9 s9=>⟨cB,λtp htp=>?_⟩⟩;have rb:=dq c (5+(0+(j:Int))) ((x.f.rs.map λw=>V.ref w.r).length:Int) (by omega);obtain⟨rw0,erw⟩:=Js rb.1;rw[erw];have y1:=Same.new (o:=.tup [V.int k,V.int rw0]) htp;have s8t:=s9.trans y1;have tT:upd H9 tp (.tup [V.int k,V.int rw0]) tp=some (.tup [V.int k,V.int rw0]):=aF;generalize upd H9 tp (.tup [V.int k,V.int rw0])=HT at s8t tT y1 ⊢;have eC9:=s8t _ _ eC8;have eV9:=s8t _ _ (sG8 _ _ eV);have e89:=s8t _ _ e8;have d89:=DatAll.mono s8t _ _ d8;have sG9:=sG8.trans s8t;have lus:us.length=j:=by rw[cQ dC,JR,lch]
       have lvs:vs.length=j:=by rw[cQ dV,JR,lvw]
       refine⟨cl,_,_,rfl,rfl,eC9,bT (n:=us.length+1) (by omega),?_⟩;have eV10:upd HT cl (.lst (us++[.ref tp])) vl=some (.lst vs):=by rw[aQ ncv.symm]; exact eV9
       have eC11:upd (upd HT cl (.lst (us++[.ref tp]))) vl (.lst (vs++[.ref pA])) cl=some (.lst (us++[.ref tp])):=by rw[aQ ncv]; exact aF
       have eV11:upd (upd HT cl (.lst (us++[.ref tp]))) vl (.lst (vs++[.ref pA])) vl=some (.lst (vs++[.ref pA])):=aF;have sF:Same H (upd (upd HT cl (.lst (us++[.ref tp]))) vl (.lst (vs++[.ref pA]))):=((sG.trans sG9).upd hcl).upd hvl0;have fG:DatAll K (upd (upd HT cl (.lst (us++[.ref tp]))) vl (.lst (vs++[.ref pA]))) (pl.map bI) ps:=DatAll.putT (gC _) eV10 (DatAll.putT (gC _) eC9 d89);have dCh:DatAll K (upd (upd HT cl (.lst (us++[.ref tp]))) vl (.lst (vs++[.ref pA]))) ((ch++[(k,rw0)]).map io) (us++[.ref tp]):=by refine DatAll.putT (gr sK _) eV10 (DatAll.putT (gr sK _) eC9 ?_);rw[Jf];exact gG (DatAll.mono sG9 _ _ dC) (dU (aI.of tT) (da _) (da _))
       refine⟨_,rfl,.inl ⟨rfl,_,aG.of eV10⟩,_,rfl,vl,_,_,rfl,rfl,eV10,bT (n:=vs.length+1) (by omega),_,_,_,_,_,_,ch++[(k,rw0)],vw++[pl],us++[.ref tp],vs++[.ref pA],rfl,sF,eC11,eV11,by rw[JS,lch]; rfl,by rw[JS,lvw]; rfl,dCh,?_,λd hd=>?_,λi d v hd hv=>?_,λv hv=>?_⟩
       . rw[Jf];refine gG (DatAll.mono (HX λb o n1 n2 hb=>by rw[aQ n2,aQ n1]; exact sG9 _ _ hb) _ _ dV) (cf (aG.of (by rw[xE nPC nPV (λys z=>by rw[hpH] at z; cases z),aQ nPV,aQ nPC]; exact e89)) ?_);exact DatAll.ersT (eS.ers (eS.lst (by rw[fY hcl]; exact eC11))) _ _ (gC _) (DatAll.ersT (eS.lst (by rw[fY hvl0]; exact eV11)) _ _ (gC _) (DatAll.nwT sF _ _ (gC _) fG))
       . rcases K1.mp hd with h|h
         . exact fC d h
         . cases Jz.mp h;exact⟨by show k<_; rw[lrl]; exact hk,by show rw0<(bz bs).getD k 0; rw[rlx]; omega⟩
       . rcases g6 hd with⟨h1,hd⟩|⟨h1,rfl⟩
         . rcases g6 hv with⟨_,hv⟩|⟨h2,_⟩
           . exact fN i d v hd hv
           . omega
         . rcases g6 hv with⟨h2,_⟩|⟨_,rfl⟩
           . omega
           . show v.length=cJ bs k;rw[lpl,cnx]
       . rcases K1.mp hv with h|h
         . exact fO v h
         . rw[Jz.mp h]; exact okp
   . rintro σ G ⟨v5,v6,v7,v8,v9,v10,ch,vw,us,vs,rfl,sG,eC,eV,lch,lvw,dC,dV,fC,fN,fO⟩;refine⟨_,rfl,_,rfl,cB,λpt hpt=>?_⟩;have y2:=Same.new (o:=.tup [.ref cl,.ref vl]) hpt;have np:H pt=none:=sG.free hpt;have sE_:=sG.trans y2;exact q ⟨ch,vw⟩ _ _ sE_ ⟨pt,cl,vl,us,vs,rfl,aI.of (by rw[fY np]; exact aF),(by rw[fY hcl]; exact y2 _ _ eC),(by rw[fY hvl0]; exact y2 _ _ eV),DatAll.nwT sE_ _ _ (gr sK _) (DatAll.mono y2 _ _ dC),DatAll.mono (B2.trans (Same.nwL y2)) _ _ dV⟩ ⟨by show 1<=ch.length; omega,by show ch.length<=3; omega,fC,by show vw.length=ch.length; omega,fN,fO⟩
theorem ky:FnScope ["_law_number_here","_law_parts","_law_bits_here","_law_part_here"] ["_law_number_here"] (af oE):=by walk_at "s"
theorem oy (T:Txt K mg t):FnOk P w K mg base CX0 1 t.zw t.Ab ["_law_number_here"] (Cs K):=by
 refine T.ge.F.ok ky (λvs H Q E h=>?_) (λcdv A outer s H vs Q E hr h=>?_)
 . obtain⟨n,rfl,hn,q⟩:=h;rfl
 . obtain⟨n,rfl,hn,q⟩:=h;refine⟨_,(aH (@aR _ _ 1 _ _ _ _ ky.nd rfl (Or.inl rfl) (@sr _ _ [V.str "000",V.str "001",V.str "010",V.str "011",V.str "100",V.str "101",V.str "110",V.str "111"] (by kernel_rfl)) (by rfl) (by walk_at "f")) (aH (@aR _ _ 2 _ _ _ _ ky.nd rfl (Or.inl rfl) aP (by rfl) (by walk_at "f")) (aH (sw PassesOwn.never (ac (aY kP) (aB 0) aE (aW _)) (aH (gX (bU Ib (by rfl) T.b_divmod GX (aC (aB 0) (aC aE aD rfl) rfl)) (fL rfl (cC (ag (i:=0) ky.nd rfl (Or.inl rfl)) (cC (ag (i:=3) ky.nd rfl (Or.inl rfl)) fH)))) (@aJ _ _ _ (@aR _ _ 2 _ _ _ _ ky.nd rfl (Or.inl rfl) (@aK _ _ _ _ _ _ _ _ cZ (@aK _ _ _ _ _ _ _ _ cZ (aB 2) aP) (aL (show aN _ (b6 K) from bE) (aB 1) (aB 3) (λ_ _=>rfl))) (by rfl) (by walk_at "f"))))) (@aJ _ _ _ (@aZ _ _ _ _ (@aK _ _ _ _ _ _ _ _ cZ (@aK _ _ _ _ _ _ _ _ cZ (aB 2) aP) (aL (show aN _ (b6 K) from bE) (aB 1) (aB 0) (λ_ _=>rfl)))))))),?_⟩;have L60:=iq 15 n hn;refine⟨(by show 8<=sizeLine; exact le8),λl hl=>?_⟩;refine qp (λσ H2=>Same H H2/\∃(r:Nat) (pr:List Nat) (v3:Option V),σ=[some (.int r),some (.ref l),some (.str (tx pr)),v3]/\H2 l=some (.lst xr)/\pr++nb r=nb n) (λσ _=>match σ with | [some (.int r),_,_,_]=>r.toNat|_=>0) ⟨Same.new hl,n,[],_,rfl,aF,rfl⟩ ?_ ?_
   . rintro σ H2 ⟨s2,r,pr,v3,rfl,e2,hg⟩;have gl:pr.length+(nb r).length=(nb n).length:=by rw[<- hg,JS]
     refine⟨_,rfl,_,_,rfl,rfl,_,rfl,?_⟩;by_cases c:r<8
     . refine bC (by walk_at "o") ?_;refine⟨_,rfl,_,_,rfl,rfl,(by rw[cX]; exact bT (by show pr.length+1<1000000; omega)),_,rfl,_,rfl,l,_,_,_,rfl,rfl,aG.of e2,uG r c,_,_,rfl,rfl,?_,?_⟩
       . rw[uu,dZ,cX,cX,JS,fD];exact bT (by show pr.length+1+3<1000000; omega)
       . refine vq (Jt V.str ?_) (q H2 s2);rw[uu,dZ,dZ,<- hg,fQ c,Jm];rfl
     . refine bF (by walk_at "o") ?_;refine⟨_,rfl,r,8,rfl,⟨by decide,by decide⟩,λp hp=>⟨p,_,rfl,aI.of aF,rfl,_,_,rfl,_,_,rfl,rfl,?_⟩⟩;have s3:=s2.trans (Same.new (o:=.tup [.int ((r:Int) / 8),.int ((r:Int)%8)]) hp);have e3:=Same.new (o:=.tup [.int ((r:Int) / 8),.int ((r:Int)%8)]) hp _ _ e2;have ta:=uG (r%8) (by omega);rw[show((r%8:Nat):Int)=(r:Int)%8 by omega] at ta;refine⟨_,rfl,_,_,rfl,rfl,(by rw[cX]; exact bT (by show pr.length+1<1000000; omega)),_,rfl,_,rfl,l,_,_,_,rfl,rfl,aG.of e3,ta,_,_,rfl,rfl,?_,?_⟩
       . rw[show(("1":Str))=tx [49] from rfl,dZ,cX,cX,JS,fD];exact bT (by show pr.length+1+3<1000000; omega)
       . refine⟨⟨s3,r / 8,pr++[49]++pb (r%8) 3,some (.int ((r:Int)%8)),?_,e3,?_⟩,?_⟩
         . rw[show(("1":Str))=tx [49] from rfl,dZ,dZ,show((r / 8:Nat):Int)=(r:Int) / 8 by omega];rfl
         . rw[<- hg,gB c];simp
         . show((r:Int) / 8).toNat<(r:Int).toNat;omega
   . rintro σ H2 Q1 Q2 h ⟨v,e1,i,j,e2,e3,k,e4,z⟩;exact⟨v,e1,i,j,e2,e3,k,e4,h _ _ z⟩
theorem tI:FnScope ["_law_one","_law_signs"] ["_law_one"] (af pV):=by walk_at "s"
theorem rY (T:Txt K mg t):∀n,FnOk P w K mg base CX0 (n+2) t.nC t.nE ["_law_one"] (nN K n)
| 0=>T.lW.F.ok tI (λvs H Q E h=>by obtain⟨tr,v,rfl,hd,hB,hO,hL,q⟩:=h; exact absurd hd (KW _)) (λcdv A outer s H vs Q E hr h=>by obtain⟨tr,v,rfl,hd,hB,hO,hL,q⟩:=h; exact absurd hd (KW _))
| n+1=>by
 have G_l_bits:FnOk P w K mg base CX0 (n+2) t.nC t.nE ["_law_one"] (nN K n):=rY T n;have G_l_number:=oy (P:=P) (w:=w) (base:=base) T;refine T.lW.F.ok tI (λvs H Q E h=>?_) (λcdv A outer s H vs Q E hr h=>?_)
 . obtain⟨tr,v,rfl,hd,hB,hO,hL,q⟩:=h;rfl
 . obtain⟨tr,v,rfl,hd,hB,hO,hL,q⟩:=h;refine⟨_,(aH (ae (ac az (aL (show aN _ (ai K) from ak) (aB 0) aE (λ_ _=>rfl)) aP (aW _)) (@aJ _ _ _ (@aZ _ _ _ _ (@aK _ _ _ _ _ _ _ _ cZ aP (aU T.ge G_l_number (hr.mono (by omega)) (aC (aL (show aN _ (ai K) from ak) (aB 0) aE (λ_ _=>rfl)) aD rfl))))) au) (aH (ae (ac az (aL (show aN _ (ai K) from ak) (aB 0) aE (λ_ _=>rfl)) aP (aW _)) (@aJ _ _ _ (@aZ _ _ _ _ (@aK _ _ _ _ _ _ _ _ cZ aP (aU T.ge G_l_number (hr.mono (by omega)) (aC (aL (show aN _ (ai K) from ak) (aB 0) aE (λ_ _=>rfl)) aD rfl))))) au) (aH (@aR _ _ 1 _ _ _ _ tI.nd rfl (Or.inl rfl) (@sr _ _ [V.str "0000",V.str "0001",V.str "0010",V.str "0011",V.str "0100",V.str "0101",V.str "0110",V.str "0111",V.str "1000"] (by kernel_rfl)) (by rfl) (by walk_at "f")) (@aJ _ _ _ (@aZ _ _ _ _ (@aK _ _ _ _ _ _ _ _ cZ (@aK _ _ _ _ _ _ _ _ cZ (@aK _ _ _ _ _ _ _ _ cZ aP (aL (show aN _ (b6 K) from bE) (aB 1) (cH Ki PySem.F.slot_str_index PySem.F.type_str_index E7 aP (aC (aL (show aN _ (ai K) from ak) (aB 0) aE (λ_ _=>rfl)) aD rfl)) (λ_ _=>rfl))) (aU T.lW G_l_bits (hr.mono (by omega)) (aC (aL (show aN _ (ai K) from ak) (aB 0) aE (λ_ _=>rfl)) aD rfl))) (aU T.lW G_l_bits (hr.mono (by omega)) (aC (aL (show aN _ (ai K) from ak) (aB 0) aE (λ_ _=>rfl)) aD rfl)))))))),?_⟩;cases tr with
   | box k =>
     obtain⟨p,x,y,rfl,e,h1,h2⟩:=eK hB;cases fk h1;cases gU h2;have hk:=iq 15 k hO;refine⟨_,rfl,p,_,_,_,rfl,rfl,e,rfl,rfl,_,rfl,bF (K3 rfl) ⟨_,rfl,p,_,_,_,rfl,rfl,e,rfl,k,rfl,hO,λH1 s1=>⟨_,_,rfl,rfl,iQ [48] _ (by show 1+(nb k).length<1000000; omega),vq (Jt V.str (EV _)) (q H1 s1)⟩⟩⟩
   | num k =>
     obtain⟨p,x,y,rfl,e,h1,h2⟩:=eK hB;cases fk h1;cases gU h2;have hk:=iq 15 k hO;refine⟨_,rfl,p,_,_,_,rfl,rfl,e,rfl,rfl,_,rfl,iN ⟨_,rfl,p,_,_,_,rfl,rfl,e,rfl,rfl,_,rfl,bF (K3 rfl) ⟨_,rfl,p,_,_,_,rfl,rfl,e,rfl,k,rfl,hO,λH1 s1=>⟨_,_,rfl,rfl,iQ [49,48] _ (by show 2+(nb k).length<1000000; omega),vq (Jt V.str (DW _)) (q H1 s1)⟩⟩⟩⟩
   | op i l r =>
     obtain⟨p,xs,rfl,e,hx⟩:=iY hB;obtain⟨s,x,y,rfl,h1,bl,br⟩:=mI hx;cases fk h1;have hi:=hO.1;have d1:cu l<n:=by have:max (cu l) (cu r)+1<n+1:=hd; omega
     have d2:cu r<n:=by have:max (cu l) (cu r)+1<n+1:=hd; omega
     have hLL:lv l+lv r<=16:=hL;have r1:=j8 (j0 hO.2.1);have r2:=j8 (j0 hO.2.2);refine⟨_,rfl,p,_,_,_,rfl,rfl,e,bP,rfl,_,rfl,bC (λz=>(vU i hi).1 (V.str.inj (dG z))) ⟨_,rfl,p,_,_,_,rfl,rfl,e,bP,rfl,_,rfl,bC (λz=>(vU i hi).2 (V.str.inj (dG z))) ?_⟩⟩;refine⟨le9,λls hls=>?_⟩;have s0:=Same.new (o:=.lst ug) hls;obtain⟨rest,ho⟩:∃rest,Builtin.Str.occurrences ("+-*/<=&|^":Str) (gT i) 0 ("+-*/<=&|^":Str).length 1=i :: rest:=by
       have:=BL i hi;cases h:Builtin.Str.occurrences ("+-*/<=&|^":Str) (gT i) 0 ("+-*/<=&|^":Str).length 1 with
       | nil=>rw[h] at this; cases this
       | cons a b=>rw[h] at this; cases this; exact⟨b,rfl⟩
     refine⟨_,rfl,rfl,_,rfl,p,_,_,_,rfl,rfl,s0.tup e,bP,_,_,i,rest,rfl,rfl,ho,ls,_,_,_,rfl,rfl,aG.of aF,Fu i hi,_,_,rfl,rfl,iQ [49,49] _ (by show 2+(pb i 4).length<1000000; rw[fD]; omega),?_⟩;refine⟨_,rfl,p,_,_,_,rfl,rfl,s0.tup e,rfl,l,x,rfl,d1,DatV.mono s0 _ _ bl,hO.2.1,by omega,λH2 s2=>⟨_,_,rfl,rfl,(by rw[qr]; exact iQ _ _ (by rw[JY,JY,fD]; omega)),?_⟩⟩;refine⟨_,rfl,p,_,_,_,rfl,rfl,s2.tup (s0.tup e),rfl,r,y,rfl,d2,DatV.mono (s0.trans s2) _ _ br,hO.2.2,by omega,λH3 s3=>⟨_,_,rfl,rfl,(by rw[qr,dZ]; exact iQ _ _ (by rw[JS,JY,JY,fD]; omega)),vq (Jt V.str (by rw[qr,dZ,dZ]; rfl)) (q H3 ((s0.trans s2).trans s3))⟩⟩
theorem HE:FnScope ["_law_place_here"] ["_law_place_here"] (af nV):=by walk_at "s"
theorem Gr (T:Txt K mg t):FnOk P w K mg base CX0 19 t.A4 t.Ai ["_law_place_here"] (CC K):=by
 have G_l_bits:FnOk P w K mg base CX0 18 t.nC t.nE ["_law_one"] (nN K 16):=rY T 16;refine T.Ay.F.ok HE (λvs H Q E h=>?_) (λcdv A outer s H vs Q E hr h=>?_)
 . obtain⟨o,v,rfl,hB,hP,q⟩:=h;rfl
 . obtain⟨o,v,rfl,hB,hP,q⟩:=h;refine⟨_,(aH (ae (oV (Ch (aB 0))) (@aJ _ _ _ (@aZ _ _ _ _ aP)) au) (@aJ _ _ _ (@aZ _ _ _ _ (@aK _ _ _ _ _ _ _ _ cZ aP (aU T.lW G_l_bits (hr.mono (by decide)) (aC (aB 0) aD rfl)))))),?_⟩;have hv:=Gh hB;cases o with
   | none =>
     cases hv.mpr rfl;exact⟨_,rfl,_,rfl,bF rfl (q H (Same.refl _))⟩
   | some tr =>
     obtain⟨hO,hL⟩:=hP;have hr1:=j8 (j0 hO);have hd:=kQ tr;exact⟨_,rfl,_,rfl,bC (λz=>by cases hv.mp (dG z)) ⟨_,rfl,tr,v,rfl,by omega,hB,hO,by omega,λH1 s1=>⟨_,_,rfl,rfl,iQ [49] _ (by show 1+(rb tr).length<1000000; omega),vq (Jt V.str (EK _)) (q H1 s1)⟩⟩⟩
theorem gR:FnScope ["_law_marks","_law_pieces_here","_law_last","_law_chain","_law_views","_law_k","_law_row","_law_level","_law_like","_law_i","_law_bits_here"] ["_law_marks"] (af jP):=by walk_at "s"
theorem wI (T:Txt K mg t):FnOk P w K mg base CX0 20 t.zy t.Ad ["_law_marks"] (CY K):=by
 have G_l_number:=oy (P:=P) (w:=w) (base:=base) T;have G_l_written:=Gr (P:=P) (w:=w) (base:=base) T;refine T.qU.F.ok gR (λvs H Q E h=>?_) (λcdv A outer s H vs Q E hr h=>?_)
 . obtain⟨v,ms,cn,rfl,hv,l3,hok,q⟩:=h;rfl
 . skip
   refine lx ?_;intro XX;refine(let W2_2_1:TS:=_; have hW2_2_1:bD XX ((sB ((sB ((bN jP).getD 2 (.Pass ⟨0,0,0,0⟩))).getD 2 (.Pass ⟨0,0,0,0⟩))).drop 1) W2_2_1:=(@aJ _ _ _ (dI PassesOwn.never rfl (eZ rfl T.b_range (aC (bU (show aw _ (.builtin "len") (cU K) from cb) (by rfl) T.b_len bV (aC (aL (show aN _ (b6 K) from bE) (aB 4) (aB 7) (λ_ _=>rfl)) aD rfl)) aD rfl)) (ag (i:=9) gR.nd rfl (Or.inl rfl)) (aH (@aR _ _ 10 _ _ _ _ gR.nd rfl (Or.inl rfl) (aU T.Ay G_l_written (hr.mono (by decide)) (aC (aL (show aN _ (b6 K) from bE) (aL (show aN _ (b6 K) from bE) (aB 4) (aB 7) (λ_ _=>rfl)) (aB 9) (λ_ _=>rfl)) aD rfl)) (by rfl) (by walk_at "f")) (@aJ _ _ _ (ae (@PW.pt _ _ _ (fi (ij (aB 8)) (gI (ac (qc hr.units) (aL (show aN _ (b6 K) from bE) (aL (show aN _ (b6 K) from bE) (aL (show aN _ (ai K) from ak) (aB 2) aE (λ_ _=>rfl)) (aB 7) (λ_ _=>rfl)) (aB 9) (λ_ _=>rfl)) (aL (show aN _ (b6 K) from bE) (aL (show aN _ (b6 K) from bE) (aB 4) (aB 7) (λ_ _=>rfl)) (aB 9) (λ_ _=>rfl)) (aW _))))) (@aJ _ _ _ (@cj _ _ _ _ (cH Jk Jp Jq dY (aB 1) (aC (bB (aC aP (aC aP (aC (aB 10) aD rfl) rfl) rfl)) aD rfl)) (by rfl))) (@aJ _ _ _ (ae (ij (aB 8)) (@aJ _ _ _ (@cj _ _ _ _ (cH Jk Jp Jq dY (aB 1) (aC (bB (aC aP (aC (aB 10) (aC aE aD rfl) rfl) rfl)) aD rfl)) (by rfl))) (@aJ _ _ _ (@cj _ _ _ _ (cH Jk Jp Jq dY (aB 1) (aC (bB (aC aP (aC (aB 10) (aC aE aD rfl) rfl) rfl)) aD rfl)) (by rfl)))))))))); ?_);refine(let W2_2:TS:=_; have hW2_2:bD XX ((sB ((bN jP).getD 2 (.Pass ⟨0,0,0,0⟩))).drop 2) W2_2:=(aH (dI PassesOwn.never rfl (eZ rfl T.b_range (aC (bU (show aw _ (.builtin "len") (cU K) from cb) (by rfl) T.b_len bV (aC (aB 3) aD rfl)) aD rfl)) (ag (i:=7) gR.nd rfl (Or.inl rfl)) (mZ (@aR _ _ 8 _ _ _ _ gR.nd rfl (Or.inl rfl) (oR (hW (aY ia) (aB 7) (bU (show aw _ (.builtin "len") (cU K) from cb) (by rfl) T.b_len bV (aC (aL (show aN _ (ai K) from ak) (aB 2) aE (λ_ _=>rfl)) aD rfl)) (aW _)) (pU (hW az (aL (show aN _ (ai K) from ak) (aL (show aN _ (b6 K) from bE) (aL (show aN _ (ai K) from ak) (aB 2) aE (λ_ _=>rfl)) (aB 7) (λ_ _=>rfl)) aE (λ_ _=>rfl)) (aL (show aN _ (ai K) from ak) (aL (show aN _ (b6 K) from bE) (aB 3) (aB 7) (λ_ _=>rfl)) aE (λ_ _=>rfl)) (aW _)))) (by rfl) (by walk_at "f")) hW2_2_1)) (@aJ _ _ _ (@aR _ _ 2 _ _ _ _ gR.nd rfl (Or.inl rfl) (bB (aC (aB 3) (aC (aB 4) aD rfl) rfl)) (by rfl) (by walk_at "f")))); ?_);refine(let W2_1:TS:=_; have hW2_1:bD XX ((sB ((bN jP).getD 2 (.Pass ⟨0,0,0,0⟩))).drop 1) W2_1:=(aH (dI PassesOwn.never rfl (g8 (aB 3)) (fL rfl (cC (ag (i:=5) gR.nd rfl (Or.inl rfl)) (cC (ag (i:=6) gR.nd rfl (Or.inl rfl)) fH))) (aH (@cj _ _ _ _ (cH Jk Jp Jq dY (aB 1) (aC (bB (aC aP (aC (aU T.ge G_l_number (hr.mono (by decide)) (aC (aB 5) aD rfl)) (aC (aB 5) aD rfl) rfl) rfl)) aD rfl)) (by rfl)) (@aJ _ _ _ (@cj _ _ _ _ (cH Jk Jp Jq dY (aB 1) (aC (bB (aC aP (aC (aU T.ge G_l_number (hr.mono (by decide)) (aC (aB 6) aD rfl)) (aC (aB 5) aD rfl) rfl) rfl)) aD rfl)) (by rfl))))) hW2_2); ?_);obtain⟨v,ms,cn,rfl,hv,l3,hok,q⟩:=h;refine⟨_,(aH (@aR _ _ 1 _ _ _ _ gR.nd rfl (Or.inl rfl) (bX (aC (bB (aC aP (aC (aU T.ge G_l_number (hr.mono (by decide)) (aC (bU (show aw _ (.builtin "len") (cU K) from cb) (by rfl) T.b_len bV (aC (aB 0) aD rfl)) aD rfl)) (aC (bU (show aw _ (.builtin "len") (cU K) from cb) (by rfl) T.b_len bV (aC (aB 0) aD rfl)) aD rfl) rfl) rfl)) aD rfl)) (by rfl) (by walk_at "f")) (aH (@aR _ _ 2 _ _ _ _ gR.nd rfl (Or.inl rfl) (bB (aC (bX aD) (aC (bX aD) aD rfl) rfl)) (by rfl) (by walk_at "f")) (aH (dI PassesOwn.never rfl (g8 (aB 0)) (fL rfl (cC (ag (i:=3) gR.nd rfl (Or.inl rfl)) (cC (ag (i:=4) gR.nd rfl (Or.inl rfl)) fH))) (aH (@cj _ _ _ _ (cH Jk Jp Jq dY (aB 1) (aC (bB (aC aP (aC (aU T.ge G_l_number (hr.mono (by decide)) (aC (bU (show aw _ (.builtin "len") (cU K) from cb) (by rfl) T.b_len bV (aC (aB 3) aD rfl)) aD rfl)) (aC aE aD rfl) rfl) rfl)) aD rfl)) (by rfl)) hW2_1)) (@aJ _ _ _ (@aZ _ _ _ _ (aB 1)))))),?_⟩;obtain⟨mA,us,rfl,hus,dus⟩:=fh hv;have lus:us.length=ms.length:=by rw[cQ dus,JR]
   refine⟨_,rfl,mA,_,rfl,.inl hus,us.length,rfl,(by rw[cD]; omega),λH1 s1=>⟨_,rfl,mA,_,rfl,.inl (s1.seq hus),gZ,λt0 ht0=>⟨fJ,λw hw=>?_⟩⟩⟩;refine⟨ci,λc0 hc0=>⟨ci,λw0 hw0=>⟨cB,λp0 hp0=>?_⟩⟩⟩;have x0:=Same.new (o:=.tup [V.str (Str.ofString "count"),V.str (tx (nb us.length)),V.int us.length]) ht0;have x1:=Same.new (o:=.lst [.ref t0]) hw;have x2:=Same.new (o:=.lst []) hc0;have x3:=Same.new (o:=.lst []) hw0;have x4:=Same.new (o:=.tup [.ref c0,.ref w0]) hp0;have et0:=x4 _ _ (x3 _ _ (x2 _ _ (x1 _ _ (aF (H:=H1) (a:=t0) (o:=.tup [V.str (Str.ofString "count"),V.str (tx (nb us.length)),V.int us.length])))));have ew:=x4 _ _ (x3 _ _ (x2 _ _ (aF (a:=w) (o:=.lst [.ref t0]))));have n1:c0≠w:=(aV aF hc0).symm;have n2:w0≠w:=(aV (x2 _ _ aF) hw0).symm;have n3:p0≠w:=(aV (x3 _ _ (x2 _ _ aF)) hp0).symm;have d0:DatV K (ers w (upd (upd (upd (upd (upd H1 t0 (.tup [V.str (Str.ofString "count"),V.str (tx (nb us.length)),V.int us.length])) w (.lst [.ref t0])) c0 (.lst [])) w0 (.lst [])) p0 (.tup [.ref c0,.ref w0]))) (iO c9) (.ref p0) :=
     dU (aI.of (by rw[aS n3]; exact aF)) (cf (aG.of (by rw[aS n1]; exact x4 _ _ (x3 _ _ aF))) bo) (cf (aG.of (by rw[aS n2]; exact x4 _ _ aF)) bo)
   have s0:=s1.trans ((((x0.trans x1).trans x2).trans x3).trans x4);have hwH:H w=none:=(s1.trans x0).free hw;generalize upd (upd (upd (upd (upd H1 t0 (.tup [V.str (Str.ofString "count"),V.str (tx (nb us.length)),V.int us.length])) w (.lst [.ref t0])) c0 (.lst [])) w0 (.lst [])) p0 (.tup [.ref c0,.ref w0])=G0 at ew d0 s0 et0 ⊢;have P0:iV K G0 w (Pc.count us.length :: di ms 0):=⟨_,ew,rfl,cy (iF (aI.of et0) (cy (de _) (cy (de _) (cy (da _) bo)))) bo⟩
   clear et0 ew;refine⟨_,rfl,mA,rfl,⟨_,s0.seq hus⟩,(let Jv1:Nat->St->Hp->Prop:=λi σ H2=>∃(lv:V) (v3 v4 v5 v6 v7 v8 v9 v10:Option V),σ=[some (.ref mA),some (.ref w),some lv,v3,v4,v5,v6,v7,v8,v9,v10]/\Same H H2/\iV K H2 w (Pc.count us.length :: di ms i)/\DatV K (ers w H2) (iO (cN ms i)) lv; rV (xs:=us) Jv1 ⟨_,none,none,none,none,none,none,none,none,rfl,s0,P0,d0⟩ ?_ ?_ ?_)⟩
   . rintro i σ H2 hi ⟨lv,v3,v4,v5,v6,v7,v8,v9,v10,rfl,s2,_⟩;exact s2.seq hus
   . rintro i y σ H2 hy ⟨lv,v3,v4,v5,v6,v7,v8,v9,v10,rfl,s2,⟨xs2,e2,lx2,d2⟩,dlv⟩;have ilt:i<us.length:=(Jb.mp hy).1;obtain⟨m,hm,dm⟩:=jU dus hy;have gm:ms.getD i c9=m:=by rw[JU,hm]; rfl
     have okp:WOk cn (cN ms i):=rE (P:=WOk cn) ⟨Jw _,(λc h=>by cases h),rfl,(λv h=>by cases h),(λv h=>by cases h),zJ _⟩ hok i;have lP:(Pc.count us.length :: di ms i).length<=320:=by have:=rP hok i (by omega);rw[JY];omega
     have pE:Pc.count us.length :: di ms (i+1)=(Pc.count us.length :: di ms i)++gQ (cN ms i) m:=by rw[vc,gm]; rfl
     have gm':cN ms (i+1)=m:=gm;generalize hm0:cN ms i=m0 at okp dlv pE;generalize hPC:Pc.count us.length :: di ms i=PC at lx2 d2 lP pE;have okm:=hok m (JW hm);have m4:=okm.l4;obtain⟨pA,cv,wv,rfl,hpA,hcv,hwv⟩:=eK dm;obtain⟨cA,cs,rfl,hcs,dcs⟩:=fh hcv;obtain⟨wA,ws,rfl,hws,dws⟩:=fh hwv;have lcs:cs.length=m.ch.length:=by rw[cQ dcs,JR]
     obtain⟨lA,cv0,wv0,rfl,hlA,hcv0,hwv0⟩:=eK dlv;obtain⟨cA0,cs0,rfl,hcs0,dcs0⟩:=fh hcv0;obtain⟨wA0,ws0,rfl,hws0,dws0⟩:=fh hwv0;have lcs0:cs0.length=m0.ch.length:=by rw[cQ dcs0,JR]
     have sHB:Same H (ers w H2):=gY s2 hwH;have bW:ers w H2 w=none:=by unfold ers; rw[Je rfl]
     have sB2:Same (ers w H2) H2:=bY;generalize ers w H2=B at sHB bW sB2 hlA hcs0 dcs0 hws0 dws0;refine⟨pA,_,rfl,s2.tup hpA,rfl,_,_,rfl,_,_,rfl,rfl,?_⟩;refine⟨_,rfl,.inl ⟨rfl,_,aG.of e2⟩,_,rfl,cA,_,rfl,.inl (s2.seq hcs),cs.length,rfl,(by rw[cD]; omega),λH3 s3=>⟨gZ,λt1 ht1=>⟨w,_,_,rfl,rfl,Same.new ht1 _ _ (s3 _ _ e2),bT (n:=xs2.length+1) (by omega),?_⟩⟩⟩;have sB3:=((sB2.trans s3).trans (Same.new (o:=.tup [V.str (Str.ofString "depth"),V.str (tx (nb cs.length)),V.int 0]) ht1)).upd (o:=.lst (xs2++[.ref t1])) bW;have P3:=kY (.depth cs.length) (s3 _ _ e2) lx2 (DatAll.mono s3 _ _ d2) ht1 rfl rfl (vm:=V.int 0) (λH'=>da 0);change Same B (upd (upd H3 t1 (.tup [V.str (Pc.kd (.depth cs.length)),V.str (tx (Pc.bt (.depth cs.length))),V.int 0])) w (.lst (xs2++[.ref t1]))) at sB3;change rf _ _ _ _ (upd (upd H3 t1 (.tup [V.str (Pc.kd (.depth cs.length)),V.str (tx (Pc.bt (.depth cs.length))),V.int 0])) w (.lst (xs2++[.ref t1])));generalize upd (upd H3 t1 (.tup [V.str (Pc.kd (.depth cs.length)),V.str (tx (Pc.bt (.depth cs.length))),V.int 0])) w (.lst (xs2++[.ref t1]))=H3' at sB3 P3 ⊢;refine⟨_,rfl,cA,rfl,⟨_,(sHB.trans sB3).seq hcs⟩,(let Jv2:Nat->St->Hp->Prop:=λj σ H4=>∃(v5 v6 v7 v8 v9 v10:Option V),σ=[some (.ref mA),some (.ref w),some (.ref lA),some (.ref cA),some (.ref wA),v5,v6,v7,v8,v9,v10]/\Same B H4/\iV K H4 w (PC++[Pc.depth cs.length]++((m.ch.take j).map fP).flatten); rV (xs:=cs) Jv2 ⟨_,_,_,_,_,_,rfl,sB3,(by rw[List.take_zero,MS,MW,Jv]; exact P3)⟩ ?_ ?_ ?_)⟩
     . rintro j σ H4 hj ⟨v5,v6,v7,v8,v9,v10,rfl,s4,_⟩;exact(sHB.trans s4).seq hcs
     . rintro j y σ H4 hy' ⟨v5,v6,v7,v8,v9,v10,rfl,s4,⟨xs4,e4,lx4,d4⟩⟩;obtain⟨c,hc,dc⟩:=jU dcs hy';obtain⟨fA,y1,y2,rfl,hf,hy1,hy2⟩:=eK dc;cases gU hy1;cases gU hy2;have ic:=okm.ix c (JW hc);have jlt:j<m.ch.length:=(Jb.mp hc).1;have lj:(PC++[Pc.depth cs.length]++((m.ch.take j).map fP).flatten).length<=340:=by rw[JS,JS,pC,Ju];show PC.length+1+_<=_;omega
       have eJ:((m.ch.take (j+1)).map fP).flatten=((m.ch.take j).map fP).flatten++fP c:=by rw[KH,hc,Jf,KY]; simp
       have eJ2:PC++[Pc.depth cs.length]++((m.ch.take (j+1)).map fP).flatten=PC++[Pc.depth cs.length]++((m.ch.take j).map fP).flatten++[.fn c.1]++[.row c.1 c.2]:=by rw[eJ]; simp [fP]
       generalize PC++[Pc.depth cs.length]++((m.ch.take j).map fP).flatten=PJ at lx4 d4 lj eJ2;refine⟨fA,_,rfl,(sHB.trans s4).tup hf,rfl,_,_,rfl,_,_,rfl,rfl,?_⟩;refine⟨_,rfl,.inl ⟨rfl,_,aG.of e4⟩,_,rfl,c.1,rfl,(by rw[cD]; omega),λH5 s5=>⟨_,rfl,gZ,λt1 ht1=>⟨w,_,_,rfl,rfl,Same.new ht1 _ _ (s5 _ _ e4),bT (n:=xs4.length+1) (by omega),?_⟩⟩⟩;have sB5:=((s4.trans s5).trans (Same.new (o:=.tup [V.str (Str.ofString "function"),V.str (tx (nb c.1)),V.int c.1]) ht1)).upd (o:=.lst (xs4++[.ref t1])) bW;have P5:iV K (upd (upd H5 t1 (.tup [V.str (Str.ofString "function"),V.str (tx (nb c.1)),V.int c.1])) w (.lst (xs4++[.ref t1]))) w (PJ++[.fn c.1]):=kY (.fn c.1) (s5 _ _ e4) lx4 (DatAll.mono s5 _ _ d4) ht1 rfl rfl (λH'=>da _);generalize upd (upd H5 t1 (.tup [V.str (Str.ofString "function"),V.str (tx (nb c.1)),V.int c.1])) w (.lst (xs4++[.ref t1]))=H5' at sB5 P5 ⊢;obtain⟨xs5,e5,lx5,d5⟩:=P5;rw[JS] at lx5;have lx5':xs5.length=PJ.length+1:=lx5;refine⟨_,rfl,.inl ⟨rfl,_,aG.of e5⟩,_,rfl,c.2,rfl,(by rw[cD]; omega),λH6 s6=>⟨_,rfl,gZ,λt2 ht2=>⟨w,_,_,rfl,rfl,Same.new ht2 _ _ (s6 _ _ e5),bT (n:=xs5.length+1) (by omega),?_⟩⟩⟩;refine⟨_,_,_,_,_,_,rfl,((sB5.trans s6).trans (Same.new ht2)).upd bW,?_⟩;rw[eJ2];exact kY (.row c.1 c.2) (s6 _ _ e5) (by rw[JS]; exact lx5) (DatAll.mono s6 _ _ d5) ht2 rfl rfl (λH'=>da _)
     rintro σ H4 ⟨v5,v6,v7,v8,v9,v10,rfl,s4,P4⟩;rw[lcs,K2] at P4;have lQ:(PC++[Pc.depth m.ch.length]++(m.ch.map fP).flatten).length<=340:=by rw[JS,JS,pC];show PC.length+1+_<=_;omega
     have pF:PC++gQ m0 m=PC++[Pc.depth m.ch.length]++(m.ch.map fP).flatten++eX m0 m m.ch.length:=by unfold gQ; simp
     generalize PC++[Pc.depth m.ch.length]++(m.ch.map fP).flatten=PQ at P4 lQ pF;refine⟨_,rfl,cA,_,rfl,.inl ((sHB.trans s4).seq hcs),_,rfl,by omega,by omega,?_⟩;refine(let Jv3:Nat->St->Hp->Prop:=λj σ H5=>∃(v5 v6 v7 v8 v9 v10:Option V),σ=[some (.ref mA),some (.ref w),some (.ref lA),some (.ref cA),some (.ref wA),v5,v6,v7,v8,v9,v10]/\Same B H5/\iV K H5 w (PQ++eX m0 m j); i6 (lo:=0) (n:=cs.length) Jv3 ⟨_,_,_,_,_,_,rfl,s4,(by show iV K H4 w (PQ++[]); rw[Jv]; exact P4)⟩ ?_ ?_)
     . rintro j σ H5 hj ⟨v5,v6,v7,v8,v9,v10,rfl,s5,P5⟩;have s05:=sHB.trans s5;obtain⟨d,hd⟩:∃d,m.ch[j]?=some d:=⟨_,JV (by omega)⟩
       obtain⟨yd,hyd,dyd⟩:=fg dcs hd;obtain⟨fA,y1,y2,rfl,hf,hy1,hy2⟩:=eK dyd;cases gU hy1;obtain⟨vw,hvw⟩:∃vw,m.vs[j]?=some vw:=⟨_,JV (by rw[okm.vl]; omega)⟩
       obtain⟨yv,hyv,dyv⟩:=fg dws hvw;obtain⟨vA,ys,rfl,hys,dys⟩:=fh dyv;have lys:ys.length=vw.length:=by rw[cQ dys,JR]
       have v24:=okm.c24 vw (JW hvw);have okv:=okm.ok vw (JW hvw);refine(let Jv5:St->Hp->Prop:=λσ G=>G=H5/\∃v5 v6 v9 v10:Option V,σ=[some (.ref mA),some (.ref w),some (.ref lA),some (.ref cA),some (.ref wA),v5,v6,some (.int (0+(j:Int))),some (.bl (gJ m0 j d.1)),v9,v10]; ⟨Jv5,?_,?_⟩)
       . refine⟨_,rfl,_,rfl,lA,_,_,_,rfl,rfl,s5.tup hlA,bP,cA0,_,rfl,.inl (s5.seq hcs0),_,_,rfl,rfl,_,rfl,?_⟩;by_cases hj0:j<m0.ch.length
         case neg =>
           have hL:gJ m0 j d.1=false:=by unfold gJ; rw[KB (by omega)]
           exact bC (by walk_at "o") ⟨rfl,v5,v6,v9,v10,by rw[hL]; rfl⟩
         obtain⟨e,he⟩:∃e,m0.ch[j]?=some e:=⟨_,JV hj0⟩
         obtain⟨ye,hye,dye⟩:=fg dcs0 he;obtain⟨gA,z1,z2,rfl,hg,hz1,hz2⟩:=eK dye;cases gU hz1;have hL:gJ m0 j d.1=decide (V.int (e.1:Int)=V.int (d.1:Int)):=by unfold gJ;rw[he,KP,Jg,Jg];exact⟨λh=>by rw[h],λh=>by have:=V.int.inj h; omega⟩
         exact bF (by walk_at "o") ⟨_,rfl,lA,_,_,_,rfl,rfl,s5.tup hlA,bP,_,rfl,cA0,_,_,_,rfl,rfl,s5.seq hcs0,(by rw[KC]; exact bh hye),gA,_,_,_,rfl,rfl,s5.tup hg,bP,_,rfl,_,rfl,cA,_,_,_,rfl,rfl,s05.seq hcs,(by rw[KC]; exact bh hyd),fA,_,_,_,rfl,rfl,s05.tup hf,bP,rfl,rfl,v5,v6,v9,v10,by rw[hL]; rfl⟩
       rintro σ G ⟨rfl,v5,v6,v9,v10,rfl⟩;refine⟨_,rfl,_,rfl,wA,_,_,_,rfl,rfl,s05.seq hws,(by rw[KC]; exact bh hyv),vA,_,rfl,.inl (s05.seq hys),_,rfl,by omega,by omega,?_⟩;have lR:(PQ++eX m0 m j).length<=440:=by have:=sS (m0:=m0) okm j;rw[JS];omega
       have pG:PQ++eX m0 m (j+1)=PQ++eX m0 m j++eD (cF m0 j d.1) vw vw.length:=by rw[zG,D8 hd,qv hvw,Jm]
       generalize PQ++eX m0 m j=PR at P5 lR pG;refine(let Jv4:Nat->St->Hp->Prop:=λk σ H6=>∃v5 v6 v9 v10:Option V,σ=[some (.ref mA),some (.ref w),some (.ref lA),some (.ref cA),some (.ref wA),v5,v6,some (.int (0+(j:Int))),some (.bl (gJ m0 j d.1)),v9,v10]/\Same B H6/\iV K H6 w (PR++eD (cF m0 j d.1) vw k); i6 (lo:=0) (n:=ys.length) Jv4 ⟨_,_,_,_,rfl,s5,(by show iV K G w (PR++[]); rw[Jv]; exact P5)⟩ ?_ ?_)
       . rintro k σ H6 hk ⟨v5,v6,v9,v10,rfl,s6,⟨xs6,e6,lx6,d6⟩⟩;have s06:=sHB.trans s6;obtain⟨o,ho⟩:∃o,vw[k]?=some o:=⟨_,JV (by omega)⟩
         obtain⟨yo,hyo,dyo⟩:=fg dys ho;have dB:DatV K B (bI o) yo:=L2.DatV.mono sHB _ _ dyo;have oko:=okv o (JW ho);have gp:vw.getD k none=o:=by rw[JU,ho]; rfl
         have ln:xs6.length<=480:=by rw[lx6,JS,vH]; omega
         clear ho;refine⟨_,rfl,_,rfl,wA,_,_,_,rfl,rfl,s06.seq hws,(by rw[KC]; exact bh hyv),_,rfl,vA,_,_,_,rfl,rfl,s06.seq hys,(by rw[KC]; exact bh hyo),o,yo,rfl,L2.DatV.mono s6 _ _ dB,oko,λH7 s67=>?_⟩;have s7:=s6.trans s67;have s07:=sHB.trans s7;have e7:=s67 _ _ e6;have d7:=DatAll.mono s67 _ _ d6;refine⟨_,rfl,_,rfl,?_⟩;by_cases hL:gJ m0 j d.1=true
         . refine bF hL ?_;obtain⟨e,he⟩:∃e,m0.ch[j]?=some e:=by
             unfold gJ at hL;cases h:m0.ch[j]? with
             | none=>rw[h] at hL; cases hL
             | some e=>exact⟨e,rfl⟩
           have hed:e.1=d.1:=by unfold gJ at hL;rw[he] at hL;exact LV hL
           have jlt0:j<m0.ch.length:=(Jb.mp he).1;obtain⟨v0,hv0⟩:∃v0,m0.vs[j]?=some v0:=⟨_,JV (by rw[okp.vl]; exact jlt0)⟩
           obtain⟨yw,hyw,dyw⟩:=fg dws0 hv0;obtain⟨vA0,zs,rfl,hzs,dzs⟩:=fh dyw;have l0:v0.length=vw.length:=by rw[okp.cn j e v0 he hv0,okm.cn j d vw hd hvw,hed]
           obtain⟨a,ha⟩:∃a,v0[k]?=some a:=⟨_,JV (by omega)⟩
           obtain⟨ya,hya,dya⟩:=fg dzs ha;have eah:(cF m0 j d.1)[k]?=some a:=by unfold cF; rw[hL,Je rfl,JU,hv0]; exact ha
           have oka:=okp.ok v0 (JW hv0) a (JW ha);refine⟨_,rfl,lA,_,_,_,rfl,rfl,s7.tup hlA,rfl,_,rfl,wA0,_,_,_,rfl,rfl,s7.seq hws0,(by rw[KC]; exact bh hyw),_,rfl,vA0,_,_,_,rfl,rfl,s7.seq hzs,(by rw[KC]; exact bh hya),_,rfl,_,rfl,wA,_,_,_,rfl,rfl,s07.seq hws,(by rw[KC]; exact bh hyv),_,rfl,vA,_,_,_,rfl,rfl,s07.seq hys,(by rw[KC]; exact bh hyo),_,_,L2.DatV.mono s7 _ _ dya,L2.DatV.mono s7 _ _ dB,yG oka,yG oko,_,rfl,?_⟩;cases hq:PyData.eqv (bI a) (bI o) with
           | true =>
             refine bF rfl ⟨_,rfl,.inl ⟨rfl,_,aG.of e7⟩,_,rfl,gZ,λtp htp=>⟨w,_,_,rfl,rfl,Same.new htp _ _ e7,bT (n:=xs6.length+1) (by omega),_,_,_,_,rfl,(s7.trans (Same.new htp)).upd bW,?_⟩⟩;rw[rH,<- Jm,gp,eah];exact kY (l:=[48,49]) _ e7 lx6 d7 htp (Je hq) (Je hq) (λH'=>by rw[show Pc.mo (.pl (some a) o)=.str (tx (Pk.ob o)) from Je hq]; exact de _)
           | false =>
             have hq':¬ cY (some a) o=true:=by show ¬ PyData.eqv (bI a) (bI o)=true; rw[hq]; decide
             refine bC Jj ⟨_,rfl,_,rfl,bF hL ⟨_,rfl,.inl ⟨rfl,_,aG.of e7⟩,_,rfl,gZ,λtp htp=>⟨w,_,_,rfl,rfl,Same.new htp _ _ e7,bT (n:=xs6.length+1) (by omega),_,_,_,_,rfl,(s7.trans (Same.new htp)).upd bW,?_⟩⟩⟩;rw[rH,<- Jm,gp,eah];exact kY (l:=Pk.ob o) _ e7 lx6 d7 htp (Ja hq') (Ja hq') (λH'=>by rw[show Pc.mo (.pl (some a) o)=.int 0 from Ja hq']; exact da _)
         . have eah:(cF m0 j d.1)[k]?=none:=by unfold cF; rw[Ja hL]; rfl
           refine bC hL (je ⟨_,rfl,_,rfl,bC hL ⟨_,rfl,.inl ⟨rfl,_,aG.of e7⟩,_,rfl,gZ,λtp htp=>⟨w,_,_,rfl,rfl,Same.new htp _ _ e7,bT (n:=xs6.length+1) (by omega),_,_,_,_,rfl,(s7.trans (Same.new htp)).upd bW,?_⟩⟩⟩);rw[rH,<- Jm,gp,eah];exact kY (l:=Pk.ob o) (.pl none o) e7 lx6 d7 htp rfl rfl (λH'=>da _)
       . rintro σ H6 ⟨v5,v6,v9,v10,rfl,s6,P6⟩;rw[lys] at P6;exact⟨_,_,_,_,_,_,rfl,s6,by rw[pG]; exact P6⟩
     . rintro σ H5 ⟨v5,v6,v7,v8,v9,v10,rfl,s5,P5⟩;rw[lcs] at P5;obtain⟨xs5,e5,lx5,d5⟩:=P5;refine⟨_,rfl,_,rfl,cB,λpT hpT=>?_⟩;have xT:=Same.new (o:=.tup [.ref cA,.ref wA]) hpT;have nT:pT≠w:=(aV e5 hpT).symm;have s0T:=(sHB.trans s5).trans xT;have sET:Same H (ers w (upd H5 pT (.tup [.ref cA,.ref wA]))):=gY s0T hwH;exact⟨_,_,_,_,_,_,_,_,_,rfl,s0T,(by rw[pE,pF]; exact⟨xs5,xT _ _ e5,lx5,DatAll.mono xT _ _ d5⟩),by rw[gm']; exact dU (aI.of (by rw[aS nT]; exact aF)) (L2.DatV.mono sET _ _ hcv) (L2.DatV.mono sET _ _ hwv)⟩
   . rintro σ H2 ⟨lv,v3,v4,v5,v6,v7,v8,v9,v10,rfl,s2,⟨xs2,e2,lx2,d2⟩,_⟩;rw[lus] at d2;exact⟨_,rfl,q w xs2 H2 s2 hwH e2 d2⟩
theorem jc:FnScope ["_law_bits_here","_law_first","_law_at","_law_last"] ["_law_bits_here","_law_first"] (af pM):=by walk_at "s"
theorem DA (T:Txt K mg t):FnOk P w K mg base CX0 1 t.zu t.Aa ["_law_bits_here","_law_first"] (Bq K):=by
 refine T.Au.F.ok jc (λvs H Q E h=>?_) (λcdv A outer s H vs Q E hr h=>?_)
 . obtain⟨l,l2,fs,rfl,h4,hl,hd,q⟩:=h;rfl
 . obtain⟨l,l2,fs,rfl,h4,hl,hd,q⟩:=h;refine⟨_,(aH (@aR _ _ 2 _ _ _ _ jc.nd rfl (Or.inl rfl) (@aK _ _ _ _ _ _ _ _ (aY gn) (bU pj (by rfl) T.b_len bV (aC (aB 0) aD rfl)) aE) (by rfl) (by walk_at "f")) (mZ (ae (ij (aB 1)) (aH (@aR _ _ 2 _ _ _ _ jc.nd rfl (Or.inl rfl) aE (by rfl) (by walk_at "f")) (aH (sw PassesOwn.never (ac az (fX ie (aB 0) (db (aB 2)) (db (@aK _ _ _ _ _ _ _ _ (aY bL) (aB 2) aE))) aP (aW _)) (@aJ _ _ _ (@aR _ _ 2 _ _ _ _ jc.nd rfl (Or.inl rfl) (@aK _ _ _ _ _ _ _ _ (aY bL) (aB 2) aE) (by rfl) (by walk_at "f")))) (aH (@aR _ _ 2 _ _ _ _ jc.nd rfl (Or.inl rfl) (@aK _ _ _ _ _ _ _ _ (aY bL) (@aK _ _ _ _ _ _ _ _ (aY bL) (aB 2) aE) (ez Bf (by rfl) T.b_int tZ (aC (hW az (aL ja (aB 0) (aB 2) (λ_ _=>rfl)) aP (aW _)) aD rfl))) (by rfl) (by walk_at "f")) (@aJ _ _ _ (sw PassesOwn.never (ac az (aL ja (aB 0) (aB 2) (λ_ _=>rfl)) aP (aW _)) (@aJ _ _ _ (@aR _ _ 2 _ _ _ _ jc.nd rfl (Or.inl rfl) (@aK _ _ _ _ _ _ _ _ (aY bL) (aB 2) aE) (by rfl) (by walk_at "f")))))))) au) (aH (@aR _ _ 3 _ _ _ _ jc.nd rfl (Or.inl rfl) (@aK _ _ _ _ _ _ _ _ cZ (@aK _ _ _ _ _ _ _ _ cZ aP (fX ie (aB 0) (db (@aK _ _ _ _ _ _ _ _ (aY bL) (aB 2) aE)) (db (@aK _ _ _ _ _ _ _ _ (aY bL) (aB 2) aE)))) aP) (by rfl) (by walk_at "f")) (@aJ _ _ _ (@aZ _ _ _ _ (@aK _ _ _ _ _ _ _ _ cZ (@aK _ _ _ _ _ _ _ _ cZ (fX ie (aB 0) hJ (db (aB 2))) (aB 3)) (fX ie (aB 0) (db (@aK _ _ _ _ _ _ _ _ (aY bL) (aB 2) aE)) hJ))))))),?_⟩;have hs:∀m:List Nat,m.length<=1000000->(tx m).length<=sizeLine:=λm hm=>by rw[cX];exact K0 hm (by decide)
   have h2:∀m m':List Nat,m.length+m'.length<=1000000->(tx m).length+(tx m').length<=sizeLine:=λm m' hm=>by rw[cX,cX];exact K0 hm (by decide)
   have hl':=hs l (by omega);refine⟨_,rfl,_,rfl,hl',_,_,rfl,rfl,?_⟩;have e4:(((tx l).length:Nat):Int) - 4=((l.length - 4:Nat):Int):=by rw[cX]; omega
   rw[e4];refine(let Jv1:St->Hp->Prop:=λσ G=>G=H/\∃a:Nat,σ=[some (.str (tx l)),some (.bl fs),some (.int a),none]/\a<=l.length/\kf l a=l2; ⟨Jv1,?_,?_⟩)
   . rcases hd with⟨rfl,rfl⟩|⟨rfl,t0,el,rfl⟩
     . exact⟨_,rfl,_,rfl,bC Jj ⟨rfl,_,rfl,by omega,rfl⟩⟩
     . refine⟨_,rfl,_,rfl,bF rfl ?_⟩;refine qp (λσ G=>G=H/\∃(s:BTr) (pre post:List Nat),σ=[some (.str (tx l)),some (.bl true),some (.int pre.length),none]/\l=pre++rb s++post/\pre++fK s++post=49 :: fK t0) (λσ _=>match σ with | [_,_,some (.int a),_]=>l.length - a.toNat|_=>0) ⟨rfl,t0,[49],[],rfl,by rw[el]; simp,by simp⟩ ?_ ?_
       . rintro σ G ⟨rfl,s,pre,post,rfl,es,et⟩;have sl:Txt.slice (tx l) (some (pre.length:Int)) (some ((pre.length:Int)+2))=tx ((l.drop pre.length).take 2):=re l pre.length 2;refine⟨_,rfl,_,rfl,_,rfl,_,rfl,_,_,rfl,rfl,_,rfl,_,rfl,hl',rfl,_,rfl,?_⟩;rw[sl];have ed:l.drop pre.length=rb s++post:=by rw[es,Jm,List.drop_left]
         have c2:decide (V.str (tx ((l.drop pre.length).take 2))=V.str (Str.ofString "11"))=decide ((rb s++post).take 2=[49,49]):=by rw[<- ed]; exact jt (b:=[49,49])
         rw[c2];rcases Gp s with⟨i,u,v,rfl⟩|⟨pf,k,hpf,er,ef⟩
         . refine bF (by rw[Jg]; rfl) ⟨_,rfl,_,_,rfl,rfl,⟨rfl,u,pre++(49 :: 49 :: pb i 4),rb v++post,?_,?_,?_⟩,?_⟩
           . have:((pre++(49 :: 49 :: pb i 4)).length:Int)=(pre.length:Int)+6:=by rw[JS,JY,JY,fD]; omega
             rw[this];rfl
           . rw[es];show pre++(49 :: 49 :: pb i 4++rb u++rb v)++post=_;simp
           . rw[<- et];show _=pre++(49 :: 49 :: pb i 4++fK u++rb v)++post;simp
           . show l.length - ((pre.length:Int)+6).toNat<l.length - ((pre.length:Nat):Int).toNat;have:pre.length+6<=l.length:=by rw[es,JS,JS];show _<=_+(49 :: 49 :: pb i 4++rb u++rb v).length+_;rw[JS,JS,JY,JY,fD];omega
             omega
         . rw[er];refine bC (by rw[Jg]; rcases hpf with rfl|rfl <;> (intro z; simp at z)) ?_;rw[er] at es;rw[ef] at et;obtain⟨c,hc,ec⟩:∃c,bS l (pre.length:Int)=some c/\(pre.length:Int)+1+(if decide (V.str { cps:=#[c] }=V.str (Str.ofString "1"))=true then 1 else 0)=(((pre++pf).length:Nat):Int):=by
             have hat:∀x r,pf++nb k++post=x :: r->bS l (pre.length:Int)=some x:=λx r e=>bh (by rw[es,Jm,K9 (JZ _),Lm,e]; rfl);have t1:∀x,decide (V.str { cps:=#[x] }=V.str (Str.ofString "1"))=decide (x=49):=λx=>tf (b:=x);rcases hpf with rfl|rfl
             . exact⟨48,hat 48 _ rfl,by rw[t1,JS]; rfl⟩
             . exact⟨49,hat 49 _ rfl,by rw[t1,JS]; show _+1+1=_; simp; omega⟩
           refine⟨_,rfl,_,_,rfl,rfl,_,rfl,_,rfl,_,_,c,rfl,rfl,hl',hc,rfl,.inr ⟨_,rfl,_,_,rfl,rfl,?_⟩⟩;rw[ec];refine qp (λσ G'=>G'=G/\∃(n:Nat) (pre post:List Nat),σ=[some (.str (tx l)),some (.bl true),some (.int pre.length),none]/\l=pre++nb n++post/\pre++nd n++post=49 :: fK t0) (λσ _=>match σ with | [_,_,some (.int a),_]=>l.length - a.toNat|_=>0) ⟨rfl,k,pre++pf,post,rfl,by rw[es]; simp,by rw[<- et]; simp⟩ ?_ ?_
           . clear es et ec hc;rintro σ G' ⟨rfl,n,pre,post,rfl,es,et⟩;have hat:∀x r,nb n=x :: r->bS l (pre.length:Int)=some x:=λx r e=>bh (by rw[es,Jm,K9 (JZ _),Lm,e]; rfl);have t1:∀x,decide (V.str { cps:=#[x] }=V.str (Str.ofString "1"))=decide (x=49):=λx=>tf (b:=x);by_cases h8:n<8
             . refine⟨_,rfl,_,rfl,_,_,48,rfl,rfl,hl',hat 48 _ (fQ h8),rfl,_,rfl,bC (by rw[t1]; decide) ⟨rfl,pre.length,rfl,by rw[es,JS,JS]; omega,?_⟩⟩;have:=nJ pre n post;rw[<- es,et,show pre.length+(nb n).length - 4=pre.length by rw[fQ h8,JY,fD]; omega] at this;exact this
             . refine⟨_,rfl,_,rfl,_,_,49,rfl,rfl,hl',hat 49 _ (gB h8),rfl,_,rfl,bF (by rw[t1]; rfl) ⟨_,rfl,_,_,rfl,rfl,⟨rfl,n / 8,pre++(49 :: pb (n%8) 3),post,?_,?_,?_⟩,?_⟩⟩
               . have:((pre++(49 :: pb (n%8) 3)).length:Int)=(pre.length:Int)+4:=by rw[JS,JY,fD]; omega
                 rw[this];rfl
               . rw[es,gB h8];simp
               . rw[<- et,ph h8];simp
               . show l.length - ((pre.length:Int)+4).toNat<l.length - ((pre.length:Nat):Int).toNat;have:pre.length+4<=l.length:=by rw[es,JS,JS,gB h8,JS,JY,fD];omega
                 omega
           . rintro σ G' Q1 Q2 h ⟨x0,h0,x1,h1,x2,x3,x4,h2,h3,h4,h5,h6,x5,h7,hq⟩;exact⟨x0,h0,x1,h1,x2,x3,x4,h2,h3,h4,h5,h6,x5,h7,h _ _ hq⟩
       . rintro σ G Q1 Q2 h ⟨x0,h0,x1,h1,x2,h2,x3,h3,x4,x5,h4,h5,x6,h6,x7,h7,h8,h9,x8,h10,hq⟩;exact⟨x0,h0,x1,h1,x2,h2,x3,h3,x4,x5,h4,h5,x6,h6,x7,h7,h8,h9,x8,h10,h _ _ hq⟩
   rintro σ G ⟨rfl,a,rfl,ha,rfl⟩;have s1:Txt.slice (tx l) (some ((a:Int)+1)) (some ((a:Int)+4))=tx ((l.drop (a+1)).take 3):=by have:=re l (a+1) 3;rw[show((a+1:Nat):Int)=(a:Int)+1 by omega] at this;rw[show(a:Int)+4=(a:Int)+1+((3:Nat):Int) by omega];exact this
   have s2:Txt.slice (tx l) none (some (a:Int))=tx (l.take a):=K15.sl_to l a;have s3:Txt.slice (tx l) (some ((a:Int)+4)) none=tx (l.drop (a+4)):=by rw[show(a:Int)+4=((a+4:Nat):Int) by omega];exact K15.sl_from l (a+4)
   have l1:((l.drop (a+1)).take 3).length<=3:=by rw[Ju]; omega
   have l2:(l.take a).length<=2000:=by rw[Ju]; omega
   have l3:(l.drop (a+4)).length<=2000:=by rw[KD]; omega
   have app:=λa b:List Nat=>dZ a b;have hk:([49]++(l.drop (a+1)).take 3).length+([48,48,48,48]:List Nat).length<=8:=by rw[JS];simp only[JY,L7];omega
   refine⟨_,rfl,_,rfl,_,_,rfl,rfl,_,rfl,_,rfl,_,_,rfl,rfl,_,rfl,_,rfl,hl',_,_,rfl,Jt V.str s1,h2 [49] _ (by show 1+_<=_; omega),?_⟩;refine⟨_,_,Jt V.str (app [49] _),rfl,h2 _ [48,48,48,48] (by omega),?_⟩;refine⟨_,rfl,_,rfl,_,rfl,_,rfl,hl',_,rfl,_,_,Jt V.str s2,Jt V.str (app _ [48,48,48,48]),h2 _ _ (by rw[JS]; omega),?_⟩;refine⟨_,rfl,_,rfl,_,_,rfl,rfl,_,rfl,_,rfl,hl',_,_,Jt V.str (app _ _),Jt V.str s3,h2 _ _ (by rw[JS,JS]; omega),vq (Jt V.str (app _ _)) (q _ (Same.refl _))⟩
theorem nq:FnScope ["_law_piece","_law_sort","_law_cell_here","_law_built","_law_kind","_law_bits_here","_law_more"] ["_law_piece","_law_sort","_law_cell_here","_law_built"] (af j6):=by walk_at "s"
theorem DX (T:Txt K mg t):FnOk P w K mg base CX0 22 t.A2 t.Ag ["_law_piece","_law_sort","_law_cell_here","_law_built"] (GA K):=by
 have G_l_needless:=DA (P:=P) (w:=w) (base:=base) T;have G_l_number:=oy (P:=P) (w:=w) (base:=base) T;have G_l_bits:FnOk P w K mg base CX0 18 t.nC t.nE ["_law_one"] (nN K 16):=rY T 16;have G_l_part:=iL (P:=P) (w:=w) (base:=base) T;have G_l_tree:FnOk P w K mg base CX0 19 t.nD t.nF ["_law_cell_here","_law_many"] (qK K 17):=rq T 17;refine T.Aw.F.ok nq (λvs H Q E h=>?_) (λcdv A outer s H vs Q E hr h=>?_)
 . obtain⟨v,p,st,c,b,bs,rfl,hv,hp,hB,q1,q2⟩:=h;rfl
 . skip
   refine lx ?_;intro XX;refine(let W8:TS:=_; have hW8:bD XX ((bN j6).drop 8) W8:=(aH (ae (@PW.pt _ _ _ (qY (ac az (aB 4) aP (aW _)) (qh (ac az (aB 4) aP (aW _))))) (aH (ae (ac az (aB 1) aE (aW _)) (@aJ _ _ _ (@aZ _ _ _ _ (@aK _ _ _ _ _ _ _ _ cZ aP (aU T.ge G_l_number (hr.mono (by decide)) (aC (@aK _ _ _ _ _ _ _ _ (aY bL) aE (@aK _ _ _ _ _ _ _ _ (bj cz) (aB 2) (aL (show aN _ (b6 K) from bE) (bX (aC aE (aC aE aD rfl) rfl)) (@aK _ _ _ _ _ _ _ _ (bj cz) (@aK _ _ _ _ _ _ _ _ (bj IF) (aB 2) aE) aE) (λ_ _=>rfl)))) aD rfl))))) au) (aH (ae (ac az (aB 1) aE (aW _)) (@aJ _ _ _ (@aZ _ _ _ _ (@aK _ _ _ _ _ _ _ _ cZ aP (aU T.lW G_l_bits (hr.mono (by decide)) (aC (aU T.lY G_l_tree (hr.mono (by decide)) (aC (aB 2) (aC (@aK _ _ _ _ _ _ _ _ (aY bL) aE (@aK _ _ _ _ _ _ _ _ (bj cz) (aB 2) aE)) aD rfl) rfl)) aD rfl))))) au) (aH (ae (ac az (aB 1) aE (aW _)) (@aJ _ _ _ (@aZ _ _ _ _ (@aK _ _ _ _ _ _ _ _ cZ (@aK _ _ _ _ _ _ _ _ cZ (@aK _ _ _ _ _ _ _ _ cZ aP (aL (show aN _ (b6 K) from bE) (@sr _ _ [V.str "1001",V.str "1010",V.str "1011",V.str "1100",V.str "1101",V.str "1110",V.str "1111"] (by kernel_rfl)) (@aK _ _ _ _ _ _ _ _ (bj cz) (aB 2) aE) (λ_ _=>rfl))) aP) aP))) au) (@aJ _ _ _ (ae (ac az (aB 1) aE (aW _)) (@aJ _ _ _ (@aZ _ _ _ _ (@aK _ _ _ _ _ _ _ _ cZ (@aK _ _ _ _ _ _ _ _ cZ aP (@aK _ _ _ _ _ _ _ _ zK aP aE)) aP))) au))))) au) (@aJ _ _ _ (@aZ _ _ _ _ j3))); ?_);refine(let W6:TS:=_; have hW6:bD XX ((bN j6).drop 6) W6:=(aH (ae (@PW.pt _ _ _ (fi (ac az (aB 1) aE (aW _)) (gI (ac az (aB 4) aP (aW _))))) (@aJ _ _ _ (@aZ _ _ _ _ (aB 6))) au) (aH (ae (@PW.pt _ _ _ (fi (ac az (aB 1) aE (aW _)) (gI (ac az (aB 4) aP (aW _))))) (@aJ _ _ _ (@aZ _ _ _ _ aP)) au) hW8)); ?_);refine(let W4:TS:=_; have hW4:bD XX ((bN j6).drop 4) W4:=(aH (ae (@PW.pt _ _ _ (fi (ac az (aB 1) aE (aW _)) (gI (ac az (aB 4) aP (aW _))))) (@aJ _ _ _ (@aZ _ _ _ _ (aU T.ge G_l_number (hr.mono (by decide)) (aC (@aK _ _ _ _ _ _ _ _ (aY bL) (bU (show aw _ (.builtin "len") (cU K) from cb) (by rfl) T.b_len bV (aC (aB 3) aD rfl)) (@aK _ _ _ _ _ _ _ _ (bj cz) (aB 2) aE)) aD rfl)))) au) (aH (ae (@PW.pt _ _ _ (fi (ac az (aB 1) aE (aW _)) (gI (ac az (aB 4) aP (aW _))))) (@aJ _ _ _ (@aZ _ _ _ _ (aU T.ge G_l_number (hr.mono (by decide)) (aC (@aK _ _ _ _ _ _ _ _ (aY bL) (bU (show aw _ (.builtin "len") (cU K) from cb) (by rfl) T.b_len bV (aC (aL (show aN _ (ai K) from ak) (aL (show aN _ (b6 K) from bE) (aL (show aN _ (b6 K) from bE) (aB 3) (aB 6) (λ_ _=>rfl)) aE (λ_ _=>rfl)) aE (λ_ _=>rfl)) aD rfl)) (@aK _ _ _ _ _ _ _ _ (bj cz) (aB 2) aE)) aD rfl)))) au) hW6)); ?_);refine(let W2:TS:=_; have hW2:bD XX ((bN j6).drop 2) W2:=(aH (ae (@PW.pt _ _ _ (fi (ac az (aB 1) aE (aW _)) (gI (ac az (aB 4) aP (aW _))))) (@aJ _ _ _ (@aZ _ _ _ _ (aU T.ge G_l_number (hr.mono (by decide)) (aC (@aK _ _ _ _ _ _ _ _ (aY bL) (aB 6) (aL (show aN _ (b6 K) from bE) (bX (aC (kC lO aE) (aC aE (aC aE aD rfl) rfl) rfl)) (aU T.cw G_l_part (hr.mono (by decide)) (aC (aB 2) (aC aE (aC aE aD rfl) rfl) rfl)) (λ_ _=>rfl))) aD rfl)))) au) (aH (ae (@PW.pt _ _ _ (fi (ac az (aB 1) aE (aW _)) (gI (ac az (aB 4) aP (aW _))))) (@aJ _ _ _ (@aZ _ _ _ _ aP)) au) hW4)); ?_);obtain⟨v,p,st,c,b,bs,rfl,hv,hp,hB,q1,q2⟩:=h;refine⟨_,(aH (gX (aB 0) (fL rfl (cC (ag (i:=4) nq.nd rfl (Or.inl rfl)) (cC (ag (i:=5) nq.nd rfl (Or.inl rfl)) (cC (ag (i:=6) nq.nd rfl (Or.inl rfl)) fH))))) (aH (ae (@PW.pt _ _ _ (fi (ac az (aB 1) aE (aW _)) (fi (ac qm (aB 5) aP (aW _)) (gI (ac qm (aB 5) aP (aW _)))))) (@aJ _ _ _ (@aZ _ _ _ _ (aU T.Au G_l_needless (hr.mono (by decide)) (aC (aB 5) (aC (oR (hW jx (aB 4) (bB (aC aP (aC aP aD rfl) rfl)) (by with_unfolding_all rfl)) (pU (hW az (aU T.cw G_l_part (hr.mono (by decide)) (aC (aB 2) (aC aE (aC aE aD rfl) rfl) rfl)) aE (aW _)))) aD rfl) rfl)))) au) hW2)),?_⟩;obtain⟨pT,xs,rfl,hT,dx⟩:=iY hv;obtain⟨x,y,z,rfl,g1,g2,g3⟩:=mI dx;cases fk g1;cases fk g2;have ok:=mO hB;have lrl:(bz bs).length=bs.length:=by unfold bz ay; rw[JR,JR]
   have n12:=hB.bt.n12;have nb1:1<=bs.length:=by have:=ok.n1; rw[lrl] at this; exact this
   have lbs:(bs.map λx=>V.ref x.e).length=bs.length:=JR _;have b9:=eI c 9 (by decide);have sE0:∀{G:Hp},Same H G->Same H G:=λh=>h;have f2:∀(m:List Nat) (m':List Nat),m.length+m'.length<1000000->(tx m).length+(tx m').length<=sizeLine:=λm m' h=>iQ m m' h;refine⟨_,rfl,pT,_,rfl,hT,rfl,_,_,rfl,_,_,rfl,_,_,rfl,rfl,?_⟩;have rfls:∀{l:List Nat} {a:Str} {bl:Bool},(!decide (V.str (tx l)=V.str a))=bl->bl=true->tx l≠a:=λh hb e=>by rw[hb,e] at h; simp at h
   refine⟨_,rfl,rfl,_,rfl,jV (λhk rest=>⟨_,rfl,rfl,_,rfl,cx (λh01=>⟨_,rfl,rfl,_,rfl,cx (λh00=>?_) (λ_=>rest)⟩) (λ_=>je rest)⟩) ?_⟩
   . clear rest;have n1:p.bt≠[48,49]:=λe=>rfls rfl h01 (by rw[e]; rfl);have n2:p.bt≠[48,48]:=λe=>rfls rfl h00 (by rw[e]; rfl);refine⟨_,rfl,_,rfl,cB,λu hu=>⟨u,_,rfl,.inr (aI.of aF),rfl,rfl,?_⟩⟩;have s1:=Same.new (o:=.tup [V.str (Str.ofString "first"),V.str (Str.ofString "other")]) hu;rcases Hh p n1 n2 with⟨n,e1,e2,hk4⟩|⟨a,t0,rfl,e1,e2⟩
     . refine⟨_,Jt V.bl e2,bC Jj ?_⟩;have hn:n<1000:=by
         have l1:=e1;rcases hk4 with⟨m,rfl⟩|⟨m,rfl⟩|⟨m,rfl⟩|⟨m,j,rfl⟩
         . rw[pd l1.symm]; have:1<=m/\m<=3:=hp; omega
         . rw[pd l1.symm]; have:m<=3:=hp; omega
         . rw[pd l1.symm]; have:m<(bz bs).length:=hp; omega
         . rw[pd l1.symm]; have:m<(bz bs).length/\j<1000:=hp; omega
       have l64:=iR hn;have l4:=m9 n;have:=nJ [] n [];rw[Jv,Jv,Lf,Lf,L7,Lk] at this;refine⟨p.bt,nd n,false,rfl,by rw[e1]; exact l4,by rw[e1]; omega,.inl ⟨rfl,by rw[e1,this]⟩,λH2 s2=>q2 _ H2 (s1.trans s2) (FQ hk4) (m8 _) (by rw[n6]; omega)⟩
     . have hpo:dO (some t0):=hp;have lr:=j8 (j0 hpo.1.1);have l8:lv t0<=8:=hpo.1.2;have p4:4<=(rb t0).length:=ux t0;refine⟨_,Jt V.bl e2,bF rfl ⟨_,rfl,c,4,2,rfl,by decide,by decide,λH2 s2=>⟨rfl,?_⟩⟩⟩;have lL:(49 :: rb t0).length=(rb t0).length+1:=JY;rcases Bool.eq_false_or_eq_true (decide (V.int (ap c 4 2)=V.int 0)) with hf|hf
       . refine⟨49 :: rb t0,49 :: fK t0,true,(by rw[e1,hf]; rfl),by omega,by omega,.inr ⟨rfl,t0,rfl,rfl⟩,λH3 s3=>q2 _ H3 ((s1.trans s2).trans s3) (IL hpo.1.1) (cV (.inr rfl) (xO _)) (by rw[JY,wH]; omega)⟩
       . have:=wC t0 [49];refine⟨49 :: rb t0,49 :: eQ t0,false,(by rw[e1,hf]; rfl),by omega,by omega,.inl ⟨rfl,?_⟩,λH3 s3=>q2 _ H3 ((s1.trans s2).trans s3) (Ij hpo.1.1 hpo.2 l8) (cV (.inr rfl) (uh _)) (by rw[JY,xj]; omega)⟩;rw[lL,show(rb t0).length+1 - 4=[49].length+(rb t0).length - 4 by show _=1+_ - 4; omega];exact this.symm
   refine⟨_,rfl,rfl,_,rfl,jV (λhk rest=>⟨_,rfl,rfl,_,rfl,cx (λhc=>?_) (λ_=>rest)⟩) ?_⟩
   . clear rest;obtain⟨n,rfl⟩:=D0 (dG hc);cases gU g3;have hn:1<=n/\n<=3:=hp;obtain⟨d,hd,d0,d1⟩:∃d:Int,bS [V.int (-1),V.int 1,V.int 200] (ap c 2 3)=some (V.int d)/\d≠0/\-1<=d/\d<=200:=by
       have b3:=dq c 2 3 (by decide);have:ap c 2 3=0\/ap c 2 3=1\/ap c 2 3=2:=by omega
       rcases this with h|h|h <;> rw[h]
       . exact⟨-1,rfl,by decide,by decide,by decide⟩
       . exact⟨1,rfl,by decide,by decide,by decide⟩
       . exact⟨200,rfl,by decide,by decide,by decide⟩
     obtain⟨n',en⟩:=Js (a:=(n:Int)+d) (by omega);refine⟨_,rfl,_,rfl,gZ,λu hu=>⟨_,rfl,c,2,3,rfl,by decide,by decide,λH2 s2=>⟨u,_,_,_,rfl,rfl,aG.of (s2 _ _ aF),hd,_,_,rfl,rfl,n',(by rw[en]; rfl),(by rw[cD]; omega),λH3 s3=>q2 _ H3 (((Same.new hu).trans s2).trans s3) (.inr ⟨n,n',rfl,by omega,by omega,rfl⟩) (i5 _) (by have:=iR (n:=n') (by omega); omega)⟩⟩⟩
   refine⟨_,rfl,rfl,_,rfl,jV (λhk rest=>⟨_,rfl,rfl,_,rfl,cx (λhc=>?_) (λ_=>rest)⟩) ?_⟩
   . obtain⟨n,rfl⟩:=EM (dG hc);exact q2 [48,48,48,48] H (Same.refl _) B7 (by decide) (by show 4<=_; decide)
   refine⟨_,rfl,rfl,_,rfl,jV (λhk rest=>⟨_,rfl,rfl,_,rfl,cx (λhc=>?_) (λ_=>rest)⟩) ?_⟩
   . clear rest;obtain⟨n,rfl⟩:=EU (dG hc);obtain⟨n',en⟩:=Js (a:=((bs.map λx=>V.ref x.e).length:Int)+c%9) (by omega);exact⟨_,rfl,b,_,rfl,.inl hB.bt.ls,_,rfl,_,_,rfl,rfl,(show(0:Int)<9 by decide),_,_,rfl,rfl,n',(by rw[en]; rfl),(by rw[cD]; omega),λH3 s3=>q2 _ H3 s3 (DC (by omega) (by omega) (by rw[cD]; omega)) (i5 _) (by have:=iR (n:=n') (by omega); omega)⟩
   refine⟨_,rfl,rfl,_,rfl,jV (λhk rest=>⟨_,rfl,rfl,_,rfl,cx (λhc=>?_) (λ_=>rest)⟩) ?_⟩
   . clear rest;obtain⟨k,j,rfl⟩:=Hq (dG hc);cases gU g3;have hkj:k<(bz bs).length/\j<1000:=hp;obtain⟨x,hx⟩:∃x,bs[k]?=some x:=⟨_,JV (by omega)⟩
     have hX:=hB.bt.all x (JW hx);have hfx:(bs.map (·.f))[k]?=some x.f:=by rw[Jc,hx]; rfl
     have rlx:(bz bs).getD k 0=x.f.rs.length:=by unfold bz ay; rw[JU,Jc,hfx]; rfl
     have hrk:=ok.at hkj.1;have lrs:(x.f.rs.map λw=>V.ref w.r).length=x.f.rs.length:=JR _;obtain⟨n',en⟩:=Js (a:=((x.f.rs.map λw=>V.ref w.r).length:Int)+c%9) (by omega);exact⟨_,rfl,_,rfl,b,_,_,_,rfl,rfl,hB.bt.ls,bh (by rw[Jc,hx]; rfl),x.e,_,_,_,rfl,rfl,hX.en,bP,x.f.fa,_,_,_,rfl,rfl,hX.fn.fn,rfl,x.f.ra,_,rfl,.inr hX.fn.rw_,_,rfl,_,_,rfl,rfl,(show(0:Int)<9 by decide),_,_,rfl,rfl,n',(by rw[en]; rfl),(by rw[cD]; omega),λH3 s3=>q2 _ H3 s3 (Gj (by omega) (by omega) (by rw[cD]; omega)) (i5 _) (by have:=iR (n:=n') (by omega); omega)⟩
   refine⟨_,rfl,rfl,_,rfl,jV (λhk rest=>⟨_,rfl,rfl,_,rfl,cx (λhc=>?_) (λ_=>rest)⟩) ?_⟩
   . obtain⟨a,o,rfl,hlk⟩:=Bk (dG hc);rw[show Pc.mo (.pl a o)=.str (tx (Pk.ob o)) from Je hlk] at g3;cases fk g3;have hpo:dO o:=hp;exact⟨_,rfl,q2 _ H (Same.refl _) (Dg hpo hlk) (wa _) (by have:=xc hpo.1; omega)⟩
   refine⟨_,rfl,rfl,_,rfl,jV (λhk rest=>⟨_,rfl,rfl,_,rfl,cx (λhc=>?_) (λ_=>rest)⟩) ?_⟩
   . obtain⟨o,rfl⟩:=yN (dG hc);exact q2 [48,49] H (Same.refl _) II (by decide) (by show 2<=_; decide)
   have fin:Q .non H:=q1 H (Same.refl _);have app:=λa b:List Nat=>dZ a b;refine⟨_,rfl,rfl,_,rfl,CZ (b2:=decide (V.str p.kd=V.str "other")) (λhor=>?_) fin (λhh=>⟨_,rfl,rfl,_,rfl,hh⟩)⟩;obtain⟨a,o,rfl⟩:∃a o,p=.pl a o:=by
     rcases hor with h|h
     . obtain⟨o,e⟩:=yN (dG h);exact⟨_,o,e⟩
     . exact Fe (dG h)
   clear hor;refine⟨_,rfl,rfl,_,rfl,cx (λhk=>?_) (λ_=>?_)⟩
   . have b2:=eI (c / 7) 2 (by decide);obtain⟨d,hd,d0,d1⟩:∃d:Int,bS [V.int 2,V.int 1000003] (c / 7%2)=some (V.int d)/\0<d/\d<=1000003:=by
       have:c / 7%2=0\/c / 7%2=1:=by omega
       rcases this with h|h <;> rw[h]
       . exact⟨2,rfl,by decide,by decide⟩
       . exact⟨1000003,rfl,by decide,by decide⟩
     have bd:=eI c d d0;obtain⟨n',en⟩:=Js (a:=128+c%d) (by omega);have ln:=iq 15 n' (by rw[cD]; omega);exact⟨_,rfl,cB,λu hu=>⟨_,rfl,_,_,rfl,rfl,⟨by decide,by decide⟩,_,_,rfl,rfl,(show(0:Int)<2 by decide),u,_,_,_,rfl,rfl,aG.of aF,hd,_,_,rfl,rfl,d0,_,_,rfl,rfl,n',(by rw[en]; rfl),(by rw[cD]; omega),λH3 s3=>⟨_,_,rfl,rfl,f2 [49,48] _ (by show 2+_<_; omega),vq (Jt V.str (app [49,48] _)) (q2 _ H3 ((Same.new hu).trans s3) (BB (by omega) (by rw[cD]; omega)) (cV (.inr rfl) (cV (.inl rfl) (i5 _))) (by show(nb n').length+1+1<=_; omega))⟩⟩⟩
   refine⟨_,rfl,rfl,_,rfl,cx (λhk=>?_) (λ_=>?_)⟩
   . have b8:=eI c 8 (by decide);obtain⟨m,em⟩:=Js (a:=9+c%8) (by omega);refine⟨_,rfl,_,rfl,_,_,rfl,rfl,(show(0:Int)<8 by decide),_,_,rfl,rfl,c,m,(by rw[em]; rfl),by omega,by omega,λtr v H2 s2 dv tk sm lm=>?_⟩;have hb:=kQ tr;have hr:=j8 (j0 tk);exact⟨tr,v,rfl,by omega,dv,tk,by omega,λH3 s3=>⟨_,_,rfl,rfl,f2 [49] _ (by show 1+_<_; omega),vq (Jt V.str (app [49] _)) (q2 _ H3 (s2.trans s3) (Gb tk sm (by omega)) (cV (.inr rfl) (lI _)) (by show(rb tr).length+1<=_; omega))⟩⟩
   refine⟨_,rfl,rfl,_,rfl,cx (λhk=>?_) (λ_=>?_)⟩
   . have b7:=eI c 7 (by decide);obtain⟨x,y,z,w,hd,hb,hb4⟩:∃x y z w:Nat,bS [V.str (Str.ofString "1001"),V.str (Str.ofString "1010"),V.str (Str.ofString "1011"),V.str (Str.ofString "1100"),V.str (Str.ofString "1101"),V.str (Str.ofString "1110"),V.str (Str.ofString "1111")] (c%7)=some (V.str (tx [x,y,z,w]))/\9<=bv [x,y,z,w]/\ax [x,y,z,w]:=by
       have:c%7=0\/c%7=1\/c%7=2\/c%7=3\/c%7=4\/c%7=5\/c%7=6:=by omega
       rcases this with h|h|h|h|h|h|h <;> rw[h]
       . exact⟨49,48,48,49,rfl,by decide,by decide⟩
       . exact⟨49,48,49,48,rfl,by decide,by decide⟩
       . exact⟨49,48,49,49,rfl,by decide,by decide⟩
       . exact⟨49,49,48,48,rfl,by decide,by decide⟩
       . exact⟨49,49,48,49,rfl,by decide,by decide⟩
       . exact⟨49,49,49,48,rfl,by decide,by decide⟩
       . exact⟨49,49,49,49,rfl,by decide,by decide⟩
     exact⟨(by show 7<=sizeLine; decide),λu hu=>⟨_,rfl,_,_,rfl,rfl,(show(0:Int)<7 by decide),u,_,_,_,rfl,rfl,aG.of aF,hd,_,_,rfl,rfl,f2 [49,49,49] [x,y,z,w] (by show 3+4<_; decide),_,_,Jt V.str (app [49,49,49] _),rfl,f2 _ [48,48,48,49,48] (by show 7+5<_; decide),_,_,Jt V.str (app _ [48,48,48,49,48]),rfl,f2 _ [49,48,48,48,49,49] (by show 12+6<_; decide),vq (Jt V.str (app _ [49,48,48,48,49,49])) (q2 _ _ (Same.new hu) (Gy _ hb) (fR (fR (fR (show ax [49,49,49] by decide) hb4) (by decide)) (by decide)) (by show 18<=_; decide))⟩⟩
   refine⟨_,rfl,rfl,_,rfl,cx (λhk=>?_) (λ_=>fin)⟩;have l64:(List.replicate 16 [49,48,49,49]).flatten.length=64:=by decide
   refine⟨[49,48,49,49],16,rfl,rfl,by decide,by decide,by decide,by decide,_,_,rfl,rfl,f2 [49,49,48] _ (by rw[l64]; show 3+64<_; decide),_,_,Jt V.str (app [49,49,48] _),rfl,f2 _ [48,48,48,49] (by rw[JS,l64]; show 3+64+4<_; decide),vq (Jt V.str ?_) (q2 _ _ (Same.refl _) (Hj [48,48,48,49]) (by decide) (by decide))⟩;exact(app _ [48,48,48,49]).trans (by rw[Jm]; rfl)
theorem i7:FnScope ["_law_pieces_here","_law_sort","_law_cell_here","_law_built","_law_found","_law_k","_law_bits_here","_law_row","_law_before","_law_spot","_law_some"] ["_law_pieces_here","_law_sort","_law_cell_here","_law_built"] (af iy):=by walk_at "s"
theorem Cf (T:Txt K mg t):FnOk P w K mg base CX0 23 t.zm t.AU ["_law_pieces_here","_law_sort","_law_cell_here","_law_built"] (DN K):=by
 have G_l_part:=iL (P:=P) (w:=w) (base:=base) T;have G_l_spoilt:=DX (P:=P) (w:=w) (base:=base) T;refine T.Ap.F.ok i7 (λvs H Q E h=>?_) (λcdv A outer s H vs Q E hr h=>?_)
 . obtain⟨pa,xs,ms,st,c,b,bs,rfl,hS,hx,hm,hB,q⟩:=h;rfl
 . skip
   refine lx ?_;intro XX;refine(let W5:TS:=_; have hW5:bD XX ((bN iy).drop 5) W5:=(aH (ae (ac az (aB 1) aE (aW _)) (aH (@aR _ _ 10 _ _ _ _ i7.nd rfl (Or.inl rfl) aP (by rfl) (by walk_at "f")) (@aJ _ _ _ (@aZ _ _ _ _ (@aK _ _ _ _ _ _ _ _ cZ (@aK _ _ _ _ _ _ _ _ cZ (fX ie (aB 7) hJ (db (aB 9))) (aL ja (aB 10) (aU T.cw G_l_part (hr.mono (by decide)) (aC (aB 2) (aC aE (aC aE aD rfl) rfl) rfl)) (λ_ _=>rfl))) (fX ie (aB 7) (db (@aK _ _ _ _ _ _ _ _ (aY bL) (aB 9) aE)) hJ))))) au) (aH (ae (ac az (aB 1) aE (aW _)) (@aJ _ _ _ (@aZ _ _ _ _ (@aK _ _ _ _ _ _ _ _ cZ (aB 7) (aL (show aN _ (b6 K) from bE) (bX (aC aP (aC aP (aC aP (aC aP (aC (aB 7) aD rfl) rfl) rfl) rfl) rfl)) (aU T.cw G_l_part (hr.mono (by decide)) (aC (aB 2) (aC aE (aC aE aD rfl) rfl) rfl)) (λ_ _=>rfl))))) au) (@aJ _ _ _ (@aZ _ _ _ _ (fX ie (aB 7) hJ (db (aB 9))))))); ?_);refine(let W4:TS:=_; have hW4:bD XX ((bN iy).drop 4) W4:=(aH (@aR _ _ 9 _ _ _ _ i7.nd rfl (Or.inl rfl) (aU T.cw G_l_part (hr.mono (by decide)) (aC (aB 2) (aC aE (aC (bU pj (by rfl) T.b_len bV (aC (aB 7) aD rfl)) aD rfl) rfl) rfl)) (by rfl) (by walk_at "f")) hW5); ?_);refine(let W3:TS:=_; have hW3:bD XX ((bN iy).drop 3) W3:=(aH (ae (ac (tU hr.units) (aB 4) (bX aD) (aW _)) (aH (gX (aL (show aN _ (b6 K) from bE) (aB 4) (aU T.cw G_l_part (hr.mono (by decide)) (aC (aB 2) (aC aE (aC (bU (show aw _ (.builtin "len") (cU K) from cb) (by rfl) T.b_len bV (aC (aB 4) aD rfl)) aD rfl) rfl) rfl)) (λ_ _=>rfl)) (fL rfl (cC (ag (i:=5) i7.nd rfl (Or.inl rfl)) (cC (ag (i:=6) i7.nd rfl (Or.inl rfl)) fH)))) (aH (@aR _ _ 8 _ _ _ _ i7.nd rfl (Or.inl rfl) (cH Ki Kx Ky kB aP (aC (gV (N':=["_law_piece"]) (js:=[none]) (by kernel_rfl) rfl (g8 (fX kn (aB 0) hJ (db (aB 5)))) dn (λ_ _ _ _=>(ag (i:=0) (show(["_law_piece"]:List Str).Nodup by decide +kernel) rfl (Or.inl rfl) (.inr rfl))) (λ_ _ _ _=>dX) (λ_ _ _ _=>(aL (show aN _ (ai K) from ak) (aB 0) aE (λ_ _=>rfl)))) aD rfl)) (by rfl) (by walk_at "f")) (@aJ _ _ _ (@aZ _ _ _ _ (@aK _ _ _ _ _ _ _ _ cZ (@aK _ _ _ _ _ _ _ _ cZ (aB 8) (aB 6)) (cH Ki Kx Ky kB aP (aC (gV (N':=["_law_piece"]) (js:=[none]) (by kernel_rfl) rfl (g8 (fX kn (aB 0) (db (@aK _ _ _ _ _ _ _ _ (aY bL) (aB 5) aE)) hJ)) dn (λ_ _ _ _=>(ag (i:=0) (show(["_law_piece"]:List Str).Nodup by decide +kernel) rfl (Or.inl rfl) (.inr rfl))) (λ_ _ _ _=>dX) (λ_ _ _ _=>(aL (show aN _ (ai K) from ak) (aB 0) aE (λ_ _=>rfl)))) aD rfl))))))) au) hW4); ?_);refine(let W2:TS:=_; have hW2:bD XX ((bN iy).drop 2) W2:=(aH (@aR _ _ 7 _ _ _ _ i7.nd rfl (Or.inl rfl) (cH Ki Kx Ky kB aP (aC (gV (N':=["_law_piece"]) (js:=[none]) (by kernel_rfl) rfl (g8 (aB 0)) dn (λ_ _ _ _=>(ag (i:=0) (show(["_law_piece"]:List Str).Nodup by decide +kernel) rfl (Or.inl rfl) (.inr rfl))) (λ_ _ _ _=>dX) (λ_ _ _ _=>(aL (show aN _ (ai K) from ak) (aB 0) aE (λ_ _=>rfl)))) aD rfl)) (by rfl) (by walk_at "f")) hW3); ?_);obtain⟨pa,xs,ms,st,c,b,bs,rfl,hS,hx,hm,hB,q⟩:=h;refine⟨_,(aH (@aR _ _ 4 _ _ _ _ i7.nd rfl (Or.inl rfl) (bX aD) (by rfl) (by walk_at "f")) (aH (dI PassesOwn.never rfl (eZ rfl T.b_range (aC (bU (show aw _ (.builtin "len") (cU K) from cb) (by rfl) T.b_len bV (aC (aB 0) aD rfl)) aD rfl)) (ag (i:=5) i7.nd rfl (Or.inl rfl)) (aH (@aR _ _ 6 _ _ _ _ i7.nd rfl (Or.inl rfl) (aU T.Aw G_l_spoilt (hr.mono (by decide)) (aC (aL (show aN _ (b6 K) from bE) (aB 0) (aB 5) (λ_ _=>rfl)) (aC (aB 1) (aC (aB 2) (aC (aB 3) aD rfl) rfl) rfl) rfl)) (by rfl) (by walk_at "f")) (@aJ _ _ _ (ae (oV (wr (aB 6))) (@aJ _ _ _ (@cj _ _ _ _ (cH Jk Jp Jq dY (aB 4) (aC (bB (aC (aB 5) (aC (aB 6) aD rfl) rfl)) aD rfl)) (by rfl))) au)))) hW2)),?_⟩;have ok:=mO hB;obtain⟨m1,m3,mf⟩:=hm;have wok:∀m∈ms,WOk (cJ bs) m:=λm h=>jT ok (mf m h);have lps:=mn wok m3;have bps:=nS wok m3;have pok_:=GE ok ⟨m1,m3,mf⟩;have lxs:xs.length=(cW ms).length:=by rw[cQ hx,JR]
   have lf:∀qs:List Pc,(∀p∈qs,p∈cW ms)->qs.length<=316->(ce qs).length<=189600:=λqs h1 h2=>by have:=oH (ps:=qs) λp hp=>bps p (h1 p hp);have:qs.length * 600<=316 * 600:=La _ h2;omega
   refine⟨ci,λfA hfA=>?_⟩;refine⟨_,rfl,pa,_,rfl,.inl ((Same.new hfA).seq hS),_,rfl,by omega,by omega,?_⟩;refine(let Jv1:Nat->St->Hp->Prop:=λi σ G=>∃v5 v6:Option V,σ=[some (.ref pa),some (.int st),some (.int c),some (.ref b),some (.ref fA),v5,v6,none,none,none,none]/\Same H G/\∃(us:List V) (fs:List (Nat×List Nat)),G fA=some (.lst us)/\DatAll K G (fs.map lq) us/\fs.length<=i/\∀f∈fs,∃p,(cW ms)[f.1]?=some p/\fb (bz bs) p f.2/\ax f.2/\f.2.length<=3000; i6 (lo:=0) (n:=xs.length) Jv1 ⟨_,_,rfl,Same.new hfA,[],[],aF,bo,JZ _,λf h=>by cases h⟩ ?_ ?_)
   . rintro i σ G hi ⟨v5,v6,rfl,sG,us,fs,eF,dF,lF,hF⟩;obtain⟨p,hp⟩:∃p,(cW ms)[i]?=some p:=⟨_,JV (by omega)⟩
     obtain⟨y,hy,dy⟩:=fg hx hp;have lus:us.length=fs.length:=by rw[cQ dF,JR]
     refine⟨_,rfl,_,rfl,pa,_,_,_,rfl,rfl,sG.seq hS,(by rw[KC]; exact bh hy),_,rfl,_,rfl,_,rfl,y,p,st,c,b,bs,rfl,L2.DatV.mono sG _ _ dy,pok_ p (JW hp),hB.mono sG,λG2 s2=>?_,λl G2 s2 hs hb hl=>?_⟩
     . exact⟨_,rfl,_,rfl,jN ⟨_,_,rfl,sG.trans s2,us,fs,s2 _ _ eF,L2.DatAll.mono s2 _ _ dF,by omega,hF⟩⟩
     . have e2:=s2 _ _ eF;refine⟨_,rfl,_,rfl,bF (by rfl) ⟨_,rfl,.inl ⟨rfl,_,aG.of e2⟩,_,rfl,_,rfl,cB,λtp htp=>⟨fA,_,_,rfl,rfl,Same.new htp _ _ e2,bT (n:=us.length+1) (by omega),_,_,rfl,((sG.trans s2).trans (Same.new htp)).upd hfA,us++[.ref tp],fs++[(i,l)],aF,DatAll.putT (gr Dx _) (Same.new htp _ _ e2) ?_,by rw[JS]; show _+1<=_; omega,λf hf=>?_⟩⟩⟩
       . rw[Jf];refine gG (L2.DatAll.mono (s2.trans (Same.new htp)) _ _ dF) (dU (aI.of aF) ?_ (de _));rw[KC];exact da _
       . rcases K1.mp hf with h|h
         . exact hF f h
         . rw[Jz.mp h];exact⟨p,hp,hs,hb,hl⟩
   rintro σ G ⟨v5,v6,rfl,sG,us,fs,eF,dF,lF,hF⟩;have lus:us.length=fs.length:=by rw[cQ dF,JR]
   refine⟨rfl,_,rfl,pa,rfl,⟨_,sG.seq hS⟩,λu hu=>li (sG.seq hS) (L2.DatAll.mono sG _ _ hx) (by omega) hu λG2 s2 e2=>?_⟩;refine⟨_,u,_,rfl,rfl,aG.of e2,lB (by have:=lf (cW ms) (λp h=>h) lps; rw[iC]; omega),?_⟩;rw[jK,iC,jD];have lrow:(aj ms).length<=189600:=by rw[<- jD]; exact lf (cW ms) (λp h=>h) lps
   have sG2:=sG.trans s2;have dF2:=L2.DatAll.mono s2 _ _ dF;have eF2:=s2 _ _ eF;have fitR:(tx (aj ms)).length<=sizeLine:=by rw[cX]; exact bT (by omega)
   have f2:∀(m:List Nat) (m':List Nat),m.length+m'.length<1000000->(tx m).length+(tx m').length<=sizeLine:=λm m' h=>iQ m m' h;have app:=λa b:List Nat=>dZ a b;refine⟨_,rfl,ci,λeN heN=>?_⟩;have xN:=Same.new (o:=.lst []) heN;have s03:=sG2.trans xN;have eF3:=xN _ _ eF2;have dF3:=L2.DatAll.mono xN _ _ dF2;refine⟨.list (fs.map lq),.list [],cf (aG.of eF3) dF3,cf (aG.of aF) bo,(Er λf hf=>by obtain⟨p,_,_,h,_⟩:=hF f hf; exact h).shaped (by decide),(ao.list (n:=0) (λd h=>by cases h)).shaped (by decide),_,rfl,?_⟩;rw[rM];generalize upd G2 eN (.lst [])=G3 at xN s03 eF3 dF3 ⊢;by_cases hfs:fs=[]
   . subst hfs;refine bC (by simp) ?_;have lr4:4<=(aj ms).length:=by unfold aj; rw[JS]; have:=m9 ms.length; omega
     have sb:=dq c 1 ((aj ms).length:Int) (by omega);obtain⟨sp,esp⟩:=Js sb.1;have hsp:sp<(aj ms).length:=by omega
     refine⟨_,rfl,_,rfl,_,rfl,fitR,c,1,((aj ms).length:Int),(by rw[cX]; rfl),by decide,by omega,λG4 s4=>?_⟩;rw[esp];have s04:=s03.trans s4;have to_:Txt.slice (tx (aj ms)) none (some (sp:Int))=tx ((aj ms).take sp):=K15.sl_to (aj ms) sp;have fr1:Txt.slice (tx (aj ms)) (some ((sp:Int)+1)) none=tx ((aj ms).drop (sp+1)):=by rw[show(sp:Int)+1=((sp+1:Nat):Int) by omega];exact K15.sl_from (aj ms) (sp+1)
     have lT:((aj ms).take sp).length<=189600:=by rw[Ju]; omega
     have lD:((aj ms).drop (sp+1)).length<=189600:=by rw[KD]; omega
     refine⟨_,rfl,rfl,_,rfl,cx (λ_=>?_) (λ_=>?_)⟩
     . have b92:=dq c 2 92 (by decide);obtain⟨j,ej⟩:=Js b92.1;obtain⟨ch,hch⟩:∃ch,pW.cps.toList[j]?=some ch:=⟨_,JV (by rw[Gn]; omega)⟩
       have hno:=Ii ch (JW hch);refine⟨_,rfl,_,rfl,_,rfl,_,rfl,fitR,_,rfl,_,rfl,c,2,92,rfl,by decide,by decide,λG5 s5=>⟨pW,_,ch,rfl,rfl,(by decide +kernel),(by rw[ej]; exact bh hch),_,_,Jt V.str to_,rfl,f2 _ [ch] (by show _+1<_; omega),?_⟩⟩;refine⟨_,rfl,_,rfl,_,_,rfl,rfl,_,rfl,_,rfl,fitR,_,_,Jt V.str (app _ [ch]),Jt V.str fr1,f2 _ _ (by rw[JS]; show _+1+_<_; omega),vq (Jt V.str (app _ _)) (q _ G5 (s04.trans s5) (Io (c:=ch) (by simp) hno) (by rw[JS,JS]; show _+1+_<=_; omega))⟩
     refine⟨_,rfl,rfl,_,rfl,cx (λ_=>?_) (λ_=>?_)⟩
     . obtain⟨e,he,le,ne⟩:∃e:List Nat,bS [V.str (Str.ofString "0"),V.str (Str.ofString "1"),V.str (Str.ofString "0000"),V.str (Str.ofString "0001"),V.str (tx (aj ms))] (ap c 2 5)=some (V.str (tx e))/\e.length<=189600/\e≠[]:=by
         have b5:=dq c 2 5 (by decide);have:ap c 2 5=0\/ap c 2 5=1\/ap c 2 5=2\/ap c 2 5=3\/ap c 2 5=4:=by omega
         rcases this with h|h|h|h|h <;> rw[h]
         . exact⟨[48],rfl,by decide,by decide⟩
         . exact⟨[49],rfl,by decide,by decide⟩
         . exact⟨[48,48,48,48],rfl,by decide,by decide⟩
         . exact⟨[48,48,48,49],rfl,by decide,by decide⟩
         . exact⟨aj ms,rfl,lrow,λz=>by rw[z] at lr4; simp at lr4⟩
       exact⟨_,rfl,_,rfl,(by show 5<=sizeLine; decide),λu hu=>⟨_,rfl,c,2,5,rfl,by decide,by decide,λG5 s5=>⟨u,_,_,_,rfl,rfl,aG.of (s5 _ _ aF),he,_,_,rfl,rfl,f2 _ e (by omega),vq (Jt V.str (app _ e)) (q _ G5 ((s04.trans (Same.new hu)).trans s5) (Ea ok mf m1 (by omega) ne) (by rw[JS]; omega))⟩⟩⟩
     . exact⟨_,rfl,_,rfl,_,rfl,_,rfl,fitR,vq (Jt V.str to_) (q _ G4 s04 (DM ok mf m1 (by omega) hsp) (by omega))⟩
   . refine bF (by cases fs with|nil=>exact absurd rfl hfs|cons a l=>rfl) ?_;have lpos:1<=fs.length:=by cases fs with|nil=>exact absurd rfl hfs|cons a l=>rw[JY]; omega
     have jb:=dq c 3 (us.length:Int) (by omega);obtain⟨j,ej⟩:=Js jb.1;obtain⟨f,hf⟩:∃f,fs[j]?=some f:=⟨_,JV (by omega)⟩
     obtain⟨y,hy,dy⟩:=fg dF3 hf;obtain⟨tp,y1,y2,rfl,hT,g1,g2⟩:=eK dy;cases gU g1;cases fk g2;obtain⟨p,hp,hs,hb,hl⟩:=hF f (JW hf);refine⟨_,rfl,_,rfl,_,rfl,fA,_,rfl,.inl (aG.of eF3),c,3,_,rfl,by decide,by omega,λG4 s4=>⟨fA,_,_,_,rfl,rfl,aG.of (s4 _ _ eF3),(by rw[ej]; exact bh hy),tp,_,rfl,s4.tup hT,rfl,_,_,rfl,_,_,rfl,rfl,?_⟩⟩;have s04:=s03.trans s4;refine⟨rfl,_,rfl,_,rfl,_,rfl,pa,_,rfl,s04.seq hS,λp1 hp1=>⟨p1,rfl,⟨_,aG.of aF⟩,λu1 hu1=>?_⟩⟩;rw[uI] at hu1 ⊢;have lt1:((cW ms).take f.1).length<=316:=by rw[Ju]; omega
     have lt2:((cW ms).drop (f.1+1)).length<=316:=by rw[KD]; omega
     have lf1:=lf ((cW ms).take f.1) (λp h=>LZ h) lt1;have lf2:=lf ((cW ms).drop (f.1+1)) (λp h=>LY h) lt2;have z1:=Same.new (o:=.lst (xs.take f.1)) hp1;refine li (ps:=(cW ms).take f.1) (aG.of aF) (by rw[Mp]; exact Fo (L2.DatAll.mono (s04.trans z1) _ _ hx) _) (by omega) hu1 λG5 s5 e5=>?_;refine⟨_,u1,_,rfl,rfl,aG.of e5,lB (by rw[iC]; omega),?_⟩;rw[jK,iC];have s05:=(s04.trans z1).trans s5;refine⟨_,rfl,_,rfl,_,_,rfl,rfl,f2 _ _ (by omega),?_⟩;refine⟨rfl,_,rfl,_,rfl,_,_,rfl,rfl,_,rfl,pa,_,rfl,s05.seq hS,λp2 hp2=>⟨p2,rfl,⟨_,aG.of aF⟩,λu2 hu2=>?_⟩⟩;rw[xS] at hu2 ⊢;have z2:=Same.new (o:=.lst (xs.drop (f.1+1))) hp2;refine li (ps:=(cW ms).drop (f.1+1)) (aG.of aF) (by rw[Mq]; exact Bm (L2.DatAll.mono (s05.trans z2) _ _ hx) _) (by omega) hu2 λG6 s6 e6=>?_;refine⟨_,u2,_,rfl,rfl,aG.of e6,lB (by rw[iC]; omega),?_⟩;rw[jK,iC];exact⟨_,_,Jt V.str (app _ _),rfl,f2 _ _ (by rw[JS]; omega),vq (Jt V.str (app _ _)) (q _ G6 ((s05.trans z2).trans s6) (Ep ok mf m1 (by omega) hp hs) (by rw[JS,JS]; omega))⟩
theorem i':FnScope ["_law_rows","_law_all_marks_here","_law_spot","_law_sort","_law_cell_here","_law_built","_law_bad","_law_chain","_law_views","_law_frames","_law_more","_law_pieces_here"] ["_law_rows","_law_all_marks_here","_law_spot","_law_sort","_law_cell_here","_law_built"] (af nK):=by walk_at "s"
theorem CK (T:Txt K mg t):FnOk P w K mg base CX0 24 t.zn t.AV ["_law_rows","_law_all_marks_here","_law_spot","_law_sort","_law_cell_here","_law_built"] (Es K):=by
 have G_l_pieces:=wI (P:=P) (w:=w) (base:=base) T;have G_l_bad_row:=Cf (P:=P) (w:=w) (base:=base) T;refine T.Aq.F.ok i' (λvs H Q E h=>?_) (λcdv A outer s H vs Q E hr h=>?_)
 . obtain⟨ra,v,mss,sp,st,c,b,bs,rfl,hS,hA,lm,fit,hsp,hB,q⟩:=h;rfl
 . obtain⟨ra,v,mss,sp,st,c,b,bs,rfl,hS,hA,lm,fit,hsp,hB,q⟩:=h;refine⟨_,(aH (@aR _ _ 6 _ _ _ _ i'.nd rfl (Or.inl rfl) (ez kG (by rfl) T.b_list j5 (aC (aB 0) aD rfl)) (by rfl) (by walk_at "f")) (aH (ae (ac az (aB 3) aE (aW _)) (@aJ _ _ _ (@cj _ _ _ _ (cH Jk PySem.F.slot_list_insert PySem.F.type_list_insert EN (aB 6) (aC (aB 2) (aC (aL (show aN _ (b6 K) from bE) (aB 0) (aB 2) (λ_ _=>rfl)) aD rfl) rfl)) (by rfl))) (@aJ _ _ _ (ae (ac az (aB 3) aE (aW _)) (@aJ _ _ _ (@aR _ _ 6 _ _ _ _ i'.nd rfl (Or.inl rfl) (@aK _ _ _ _ _ _ _ _ kL (fX kn (aB 0) hJ (db (aB 2))) (fX kn (aB 0) (db (@aK _ _ _ _ _ _ _ _ (aY bL) (aB 2) aE)) hJ)) (by rfl) (by walk_at "f"))) (@aJ _ _ _ (ae (ac az (aB 3) aE (aW _)) (aH (gX (aL (show aN _ (b6 K) from bE) (aL (show aN _ (b6 K) from bE) (aB 1) (aB 2) (λ_ _=>rfl)) aE (λ_ _=>rfl)) (fL rfl (cC (ag (i:=7) i'.nd rfl (Or.inl rfl)) (cC (ag (i:=8) i'.nd rfl (Or.inl rfl)) fH)))) (aH (@aR _ _ 9 _ _ _ _ i'.nd rfl (Or.inl rfl) (@aK _ _ _ _ _ _ _ _ ml (bX (aC (bB (aC aE (aC aE aD rfl) rfl)) aD rfl)) (@aK _ _ _ _ _ _ _ _ (aY gn) aE (bU (show aw _ (.builtin "len") (cU K) from cb) (by rfl) T.b_len bV (aC (aB 7) aD rfl)))) (by rfl) (by walk_at "f")) (aH (@aR _ _ 10 _ _ _ _ i'.nd rfl (Or.inl rfl) (@aK _ _ _ _ _ _ _ _ ml (bX (aC (@aK _ _ _ _ _ _ _ _ ml (bX (aC (bB (aC aP (aC aE aD rfl) rfl)) aD rfl)) (aL (show aN _ (b6 K) from bE) (aL (show aN _ (b6 K) from bE) (aB 5) aE (λ_ _=>rfl)) aE (λ_ _=>rfl))) aD rfl)) (@aK _ _ _ _ _ _ _ _ (aY gn) aE (bU (show aw _ (.builtin "len") (cU K) from cb) (by rfl) T.b_len bV (aC (aB 7) aD rfl)))) (by rfl) (by walk_at "f")) (aH (@aR _ _ 11 _ _ _ _ i'.nd rfl (Or.inl rfl) (aU T.qU G_l_pieces (hr.mono (by decide)) (aC (@aK _ _ _ _ _ _ _ _ kL (bX (aC (bB (aC (@aK _ _ _ _ _ _ _ _ kL (aB 7) (aB 9)) (aC (@aK _ _ _ _ _ _ _ _ kL (aB 8) (aB 10)) aD rfl) rfl)) aD rfl)) (fX kn (aL (show aN _ (b6 K) from bE) (aB 1) (aB 2) (λ_ _=>rfl)) (db aE) hJ)) aD rfl)) (by rfl) (by walk_at "f")) (@aJ _ _ _ (gX (cH Ki Kx Ky kB aP (aC (gV (N':=["_law_piece"]) (js:=[none]) (by kernel_rfl) rfl (g8 (aB 11)) dn (λ_ _ _ _=>(ag (i:=0) (show(["_law_piece"]:List Str).Nodup by decide +kernel) rfl (Or.inl rfl) (.inr rfl))) (λ_ _ _ _=>dX) (λ_ _ _ _=>(aL (show aN _ (ai K) from ak) (aB 0) aE (λ_ _=>rfl)))) aD rfl)) (j1 (aB 6) (aB 2) jF))))))) (@aJ _ _ _ (gX (aU T.Ap G_l_bad_row (hr.mono (by decide)) (aC (aU T.qU G_l_pieces (hr.mono (by decide)) (aC (aL (show aN _ (b6 K) from bE) (aB 1) (aB 2) (λ_ _=>rfl)) aD rfl)) (aC (aB 3) (aC (aB 4) (aC (aB 5) aD rfl) rfl) rfl) rfl)) (j1 (aB 6) (aB 2) jF)))))))) (@aJ _ _ _ (@aZ _ _ _ _ (aB 6))))),?_⟩;obtain⟨L,yss,rfl,hL,lL,hM⟩:=hA;have ok:=mO hB;have n12:=hB.bt.n12;obtain⟨ms,hms⟩:∃ms,mss[sp]?=some ms:=⟨_,JV hsp⟩
   obtain⟨y0,hy0⟩:∃y,yss[sp]?=some y:=⟨_,JV (by omega)⟩
   have fitm:=fit ms (JW hms);have lrow:∀ms∈mss,(aj ms).length<=189600:=λms h=>by have hf:=fit ms h;have wok:∀m∈ms,WOk (cJ bs) m:=λm h=>jT ok (hf.2.2 m h);have:=oH (nS wok hf.2.1);have:=mn wok hf.2.1;have:(cW ms).length * 600<=316 * 600:=La _ this;rw[<- jD];omega
   have lR:∀x∈mss.map aj,x.length<=1000000:=λx hx=>by obtain⟨ms,h,rfl⟩:=Jy.mp hx;have:=lrow ms h;omega
   have nl:∀ls:List (List Nat),ls.length≠bs.length->gO (bs.map (·.f)) ls=none:=λls h=>by unfold gO;rw[Ja (by rw[JR]; exact h)]
   have atl:(mss.map aj)[sp]?=some (aj ms):=by rw[Jc,hms]; rfl
   have atr:bS (bf (mss.map aj)) (sp:Int)=some (V.str (tx (aj ms))):=bh (by unfold bf; rw[Jc,Jc,atl]; rfl);have lst:(bf (mss.map aj)).length=mss.length:=by rw[mD,JR]
   have ixs:∀m:Nat,sp<m->dQ m (sp:Int)=some sp:=λm hm=>by unfold dQ;rw[Je (by omega),Je (by omega)];rfl
   have one:∀l:List Nat,ck (bz bs) (cJ bs) l=none->l.length<=1000000->gO (bs.map (·.f)) ((mss.map aj).set sp l)=none/\∀x∈(mss.map aj).set sp l,x.length<=1000000:=λl h1 h2=>by
     refine⟨?_,λx hx=>?_⟩
     . unfold gO;split
       . exact qJ (a:=l) (JW (i:=sp) (by rw[Kf (by rw[JR]; exact hsp)])) h1
       . rfl
     . rcases MQ hx with h|h
       . exact lR x h
       . rw[h]; exact h2
   refine⟨_,rfl,ra,_,rfl,.inl hS,λbd hbd=>?_⟩;have s1:=Same.new (o:=.lst (bf (mss.map aj))) hbd;have eB:upd H bd (.lst (bf (mss.map aj))) bd=some (.lst (bf (mss.map aj))):=aF;generalize upd H bd (.lst (bf (mss.map aj)))=H1 at s1 eB ⊢;refine⟨_,rfl,rfl,_,rfl,cx (λ_=>?_) (λ_=>⟨_,rfl,rfl,_,rfl,cx (λ_=>?_) (λ_=>⟨_,rfl,rfl,_,rfl,cx (λ_=>?_) (λ_=>?_)⟩)⟩)⟩
   . refine⟨_,rfl,.inl ⟨rfl,_,aG.of eB⟩,_,rfl,_,rfl,_,rfl,ra,_,_,_,rfl,rfl,s1.seq hS,atr,bd,_,sp,_,rfl,rfl,eB,by omega,bT (by omega),_,rfl,?_⟩;refine q bd ((mss.map aj).take sp++aj ms :: (mss.map aj).drop sp) _ (s1.upd hbd) ?_ (nl _ ?_) λx hx=>?_
     . rw[aF,uw,yr,xg];rfl
     . rw[JS,JY,Ju,KD,JR];omega
     . rcases K1.mp hx with h|h
       . exact lR x (LZ h)
       . rcases Jl.mp h with rfl|h
         . exact lR _ (JW atl)
         . exact lR x (LY h)
   . refine⟨_,rfl,_,rfl,_,rfl,ra,_,rfl,s1.seq hS,λp1 hp1=>⟨_,rfl,_,rfl,_,_,rfl,rfl,_,rfl,ra,_,rfl,(s1.trans (Same.new hp1)).seq hS,λp2 hp2=>?_⟩⟩;rw[uI] at hp2 ⊢;rw[xS];refine⟨p1,p2,_,_,rfl,rfl,Same.new hp2 _ _ aF,aF,bT (by rw[Ju,KD]; omega),λp3 hp3=>⟨_,rfl,?_⟩⟩;refine q p3 ((mss.map aj).take sp++(mss.map aj).drop (sp+1)) _ (((s1.trans (Same.new hp1)).trans (Same.new hp2)).trans (Same.new hp3)) ?_ (nl _ ?_) λx hx=>?_
     . rw[aF,uw,yr,xg]
     . rw[JS,Ju,KD,JR];omega
     . rcases K1.mp hx with h|h
       . exact lR x (LZ h)
       . exact lR x (LY h)
   . have hMs:=(hM sp ms y0 hms hy0).mono s1;obtain⟨MA,zs,rfl,hzs,lzs,hz⟩:=hMs;obtain⟨m,mr,rfl⟩:∃m mr,ms=m :: mr:=by
       cases ms with
       | nil=>exact absurd fitm.1 (by simp)
       | cons m mr=>exact⟨m,mr,rfl⟩
     obtain⟨z0,zr,rfl⟩:∃z0 zr,zs=z0 :: zr:=by
       cases zs with
       | nil=>simp at lzs
       | cons z zr=>exact⟨z,zr,rfl⟩
     have lzr:zr.length=mr.length:=by simpa using lzs
     have fm:=fitm.2.2 m KA;obtain⟨pA,cA,wA,cs,ws,rfl,hpA,hcs,hws,dcs,dws⟩:=hz 0 m z0 rfl rfl;have lcs:cs.length=m.ch.length:=by rw[cQ dcs,JR]
     have lws:ws.length=m.vs.length:=by rw[cQ dws,JR]
     have lc1:=fm.l1;have lc3:=fm.l3;have lvl:=fm.vl;have lmr:mr.length<=2:=by have:=fitm.2.1; rw[JY] at this; omega
     obtain⟨k,ek⟩:∃k:Nat,m.ch.length+k=4:=⟨4 - m.ch.length,by omega⟩
     have ek':(4:Int) - ((cs.length:Nat):Int)=(k:Int):=by omega
     refine⟨_,rfl,_,rfl,L,_,_,_,rfl,rfl,s1.seq hL,bh hy0,MA,_,_,_,rfl,rfl,hzs,bP,pA,_,rfl,hpA,rfl,_,_,rfl,_,_,rfl,rfl,?_⟩;refine⟨cB,λt1 ht1=>⟨fJ,λf1 hf1=>⟨_,rfl,cA,_,rfl,.inl (aG.of (Same.new hf1 _ _ (Same.new ht1 _ _ hcs))),_,_,rfl,rfl,f1,_,_,rfl,rfl,aF,by omega,by omega,bT (by rw[ek',K6]; show 1 * k<_; omega),λf2 hf2=>?_⟩⟩⟩;rw[ek',K6];have z1:=Same.new (o:=.tup [V.int 0,V.int 0]) ht1;have z2:=Same.new (o:=.lst [V.ref t1]) hf1;have z3:=Same.new (o:=.lst (List.replicate k [V.ref t1]).flatten) hf2;have dF:DatV K (upd (upd (upd H1 t1 (.tup [V.int 0,V.int 0])) f1 (.lst [V.ref t1])) f2 (.lst (List.replicate k [V.ref t1]).flatten)) (io (0,0)) (.ref t1):=dU (aI.of (z3 _ _ (z2 _ _ aF))) (da 0) (da 0);have eF:upd (upd (upd H1 t1 (.tup [V.int 0,V.int 0])) f1 (.lst [V.ref t1])) f2 (.lst (List.replicate k [V.ref t1]).flatten) f2=some (.lst (List.replicate k [V.ref t1]).flatten):=aF;have s2:=(z1.trans z2).trans z3;generalize upd (upd (upd H1 t1 (.tup [V.int 0,V.int 0])) f1 (.lst [V.ref t1])) f2 (.lst (List.replicate k [V.ref t1]).flatten)=H2 at dF eF s2 ⊢;clear z1 z2 z3;obtain⟨x,hx⟩:∃x,bs[0]?=some x:=⟨_,JV (by omega)⟩
     have hxm:=JW hx;have cnx:cJ bs 0=x.cnt:=(pO (show(bs.map (·.f))[0]?=some x.f by rw[Jc,hx]; rfl)).trans (hB.cn x hxm).symm;have b24:=(hB.bt.all x hxm).cn;refine⟨cB,λt2 ht2=>⟨fJ,λg1 hg1=>?_⟩⟩;have y1:=Same.new (o:=.tup [V.str (Str.ofString "num"),V.int 5]) ht2;have y2:=Same.new (o:=.lst [V.ref t2]) hg1;have s3:=(s2.trans y1).trans y2;have e1:upd (upd H2 t2 (.tup [V.str (Str.ofString "num"),V.int 5])) g1 (.lst [V.ref t2]) g1=some (.lst [V.ref t2]):=aF;have dN:DatV K (upd (upd H2 t2 (.tup [V.str (Str.ofString "num"),V.int 5])) g1 (.lst [V.ref t2])) (bI (some (.num 5))) (.ref t2):=dU (aI.of (y2 _ _ aF)) (de _) (da 5);have s23:=y1.trans y2;generalize upd (upd H2 t2 (.tup [V.str (Str.ofString "num"),V.int 5])) g1 (.lst [V.ref t2])=H3 at s3 e1 dN s23 ⊢;have hX3:=(hB.bt.all x hxm).mono (s1.trans s3);refine⟨_,rfl,b,_,_,_,rfl,rfl,(s1.trans s3).seq hB.bt.ls,bh (j:=0) (by rw[Jc,hx]; rfl),x.e,_,_,_,rfl,rfl,hX3.en,rfl,g1,_,_,rfl,rfl,e1,by omega,by omega,bT (by rw[K6]; show 1 * x.cnt<_; omega),λg2 hg2=>⟨fJ,λg3 hg3=>?_⟩⟩;rw[K6] at hg3 ⊢;have y3:=Same.new (o:=.lst (List.replicate x.cnt [V.ref t2]).flatten) hg2;have y4:=Same.new (o:=.lst [V.ref g2]) hg3;have s34:=y3.trans y4;have dV:DatV K (upd (upd H3 g2 (.lst (List.replicate x.cnt [V.ref t2]).flatten)) g3 (.lst [V.ref g2])) (dj (List.replicate (cJ bs 0) (some (.num 5)))) (.ref g2):=cf (aG.of (y4 _ _ aF)) (by rw[LS,cnx]; exact nX (DatV.mono s34 _ _ dN) _);have e3:upd (upd H3 g2 (.lst (List.replicate x.cnt [V.ref t2]).flatten)) g3 (.lst [V.ref g2]) g3=some (.lst [V.ref g2]):=aF;generalize upd (upd H3 g2 (.lst (List.replicate x.cnt [V.ref t2]).flatten)) g3 (.lst [V.ref g2])=H4 at s34 dV e3 ⊢;have s4:=s3.trans s34;refine⟨_,rfl,cA,_,rfl,.inl (aG.of (s4 _ _ hcs)),_,_,rfl,rfl,g3,_,_,rfl,rfl,e3,by omega,by omega,bT (by rw[ek',K6]; show 1 * k<_; omega),λg4 hg4=>?_⟩;rw[ek',K6];have y5:=Same.new (o:=.lst (List.replicate k [V.ref g2]).flatten) hg4;have e4:upd H4 g4 (.lst (List.replicate k [V.ref g2]).flatten) g4=some (.lst (List.replicate k [V.ref g2]).flatten):=aF;generalize upd H4 g4 (.lst (List.replicate k [V.ref g2]).flatten)=H5 at y5 e4 ⊢;have s5:=s4.trans y5;have dV5:=DatV.mono y5 _ _ dV;have s25:=(s23.trans s34).trans y5;have eF5:=s25 _ _ eF;have dF5:=DatV.mono s25 _ _ dF;refine⟨_,rfl,_,rfl,cA,f2,_,_,rfl,rfl,s5 _ _ hcs,eF5,bT (by rw[qZ]; omega),λc1 hc1=>⟨_,rfl,_,rfl,wA,g4,_,_,rfl,rfl,Same.new hc1 _ _ (s5 _ _ hws),Same.new hc1 _ _ e4,bT (by rw[qZ]; omega),λw1 hw1=>⟨cB,λq1 hq1=>⟨fJ,λl1 hl1=>?_⟩⟩⟩⟩;have x1:=Same.new (o:=.lst (cs++(List.replicate k [V.ref t1]).flatten)) hc1;have x2:=Same.new (o:=.lst (ws++(List.replicate k [V.ref g2]).flatten)) hw1;have x3:=Same.new (o:=.tup [V.ref c1,V.ref w1]) hq1;have x4:=Same.new (o:=.lst [V.ref q1]) hl1;have s6:=((x1.trans x2).trans x3).trans x4;have d6:DatV K (upd (upd (upd (upd H5 c1 (.lst (cs++(List.replicate k [V.ref t1]).flatten))) w1 (.lst (ws++(List.replicate k [V.ref g2]).flatten))) q1 (.tup [V.ref c1,V.ref w1])) l1 (.lst [V.ref q1])) (iO (im m k (cJ bs 0))) (.ref q1):=by
       refine dU (aI.of (x4 _ _ aF)) (cf (aG.of (x4 _ _ (x3 _ _ (x2 _ _ aF)))) ?_) (cf (aG.of (x4 _ _ (x3 _ _ aF))) ?_)
       . show DatAll K _ ((m.ch++List.replicate k (0,0)).map io) _;rw[Jf,LS];exact tH (DatAll.mono (s5.trans s6) _ _ dcs) (nX (DatV.mono s6 _ _ dF5) _)
       . show DatAll K _ ((m.vs++List.replicate k _).map dj) _;rw[Jf,LS];exact tH (DatAll.mono (s5.trans s6) _ _ dws) (nX (DatV.mono s6 _ _ dV5) _)
     have e6:upd (upd (upd (upd H5 c1 (.lst (cs++(List.replicate k [V.ref t1]).flatten))) w1 (.lst (ws++(List.replicate k [V.ref g2]).flatten))) q1 (.tup [V.ref c1,V.ref w1])) l1 (.lst [V.ref q1]) l1=some (.lst [V.ref q1]):=aF;generalize upd (upd (upd (upd H5 c1 (.lst (cs++(List.replicate k [V.ref t1]).flatten))) w1 (.lst (ws++(List.replicate k [V.ref g2]).flatten))) q1 (.tup [V.ref c1,V.ref w1])) l1 (.lst [V.ref q1])=H6 at s6 d6 e6 ⊢;have s16:=s5.trans s6;refine⟨_,rfl,_,rfl,L,_,_,_,rfl,rfl,(s1.trans s16).seq hL,bh hy0,_,rfl,MA,_,rfl,s16.seq hzs,λl2 hl2=>?_⟩;have ecut:gS (V.ref pA :: zr) (some 1) none=zr:=K14.cut_drop (V.ref pA :: zr) 1;rw[ecut];have x5:=Same.new (o:=.lst zr) hl2;refine⟨l1,l2,_,_,rfl,rfl,x5 _ _ e6,aF,bT (by show 1+zr.length<_; omega),λl3 hl3=>?_⟩;have x6:=Same.new (o:=.lst ([V.ref q1]++zr)) hl3;have s67:=x5.trans x6;have wok:∀m'∈im m k (cJ bs 0) :: mr,WOk (cJ bs) m':=λm' hm'=>by
       rcases Jl.mp hm' with rfl|hm'
       . exact DG ok fm ek
       . exact jT ok (fitm.2.2 m' (K5 _ hm'))
     have l33:(im m k (cJ bs 0) :: mr).length<=3:=by rw[JY]; omega
     refine⟨.ref l3,im m k (cJ bs 0) :: mr,cJ bs,rfl,cf (aG.of aF) (cy (DatV.mono s67 _ _ d6) (lC (by rw[JR]; exact lzr) λj d y hd hy=>?_)),l33,wok,λw xs H7 s7 hw e7 d7=>?_⟩
     . have hy:zr[j]?=some y:=hy;have hj:j<mr.length:=by rw[<- lzr]; exact(Jb.mp hy).1
       have hmj:=JV hj;rw[Jc,hmj] at hd;cases hd;exact DatV.mono (s16.trans s67) _ _ (hz (j+1) _ y (by rw[Me]; exact hmj) (by rw[Me]; exact hy)).dat
     have sl:=mn wok l33;have sb:=oH (nS wok l33);have:(cW (im m k (cJ bs 0) :: mr)).length * 600<=316 * 600:=La _ sl;refine⟨rfl,_,rfl,w,rfl,⟨_,aG.of e7⟩,λu hu=>li (aG.of e7) d7 (by omega) hu λH8 s8 e8=>?_⟩;refine⟨_,u,_,rfl,rfl,aG.of e8,lB (by rw[iC]; omega),?_⟩;rw[jK,iC,jD];obtain⟨rr,er⟩:=CG (m:=im m k (cJ bs 0)) (ms:=mr) (by show(m.ch++List.replicate k (0,0)).length=4; rw[JS,KU]; exact ek);have s18:=((s16.trans s67).trans s7).trans s8;obtain⟨o1,o2⟩:=one (aj (im m k (cJ bs 0) :: mr)) (by rw[er]; exact Bv (by omega) (by omega)) (by rw[<- jD]; omega);refine⟨_,rfl,_,rfl,bd,_,_,_,rfl,rfl,s18 _ _ eB,ixs _ (by omega),_,rfl,q bd _ _ ((s1.trans s18).upd hbd) ?_ o1 o2⟩;rw[aF,xn]
   . have hMs:=(hM sp ms y0 hms hy0).mono s1;refine⟨_,rfl,_,rfl,L,_,_,_,rfl,rfl,s1.seq hL,bh hy0,y0,ms,cJ bs,rfl,hMs.dat,fitm.2.1,(λm h=>jT ok (fitm.2.2 m h)),λl xs H2 s2 hl e2 d2=>?_⟩;refine⟨_,rfl,_,rfl,_,rfl,l,xs,ms,st,c,b,bs,rfl,aG.of e2,d2,fitm,hB.mono (s1.trans s2),λl' H3 s3 hn hl'=>?_⟩;have eB3:=s3 _ _ (s2 _ _ eB);obtain⟨o1,o2⟩:=one l' hn hl';refine⟨_,rfl,_,rfl,bd,_,_,_,rfl,rfl,eB3,ixs _ (by omega),_,rfl,q bd _ _ (((s1.trans s2).trans s3).upd hbd) ?_ o1 o2⟩;rw[aF,xn]
theorem pR:FnScope ["_law_program","_law_rows","_law_fault","e"] ["_law_program","_law_rows"] (af pH):=by walk_at "s"
theorem EQ (T:Txt K mg t):FnOk P w K mg base CX0 35 t.A1 t.Af ["_law_program","_law_rows"] (Ca K t):=by
 have G_unpack:=wG (P:=P) (w:=w) (base:=base) T;refine T.uD.F.ok pR (λvs H Q E h=>?_) (λcdv A outer s H vs Q E hr h=>?_)
 . obtain⟨p,rl,fns,ls,rfl,hp,hf,nd,ok,hrl,hl,hn,q⟩:=h;rfl
 . obtain⟨p,rl,fns,ls,rfl,hp,hf,nd,ok,hrl,hl,hn,q⟩:=h;refine⟨_,(aH (@aR _ _ 2 _ _ _ _ pR.nd rfl (Or.inl rfl) j3 (by rfl) (by walk_at "f")) (aH (Fh (j:=3) pR.nd rfl rfl T.x_gE rfl rfl (B1 (EY T.unpack G_unpack (hr.mono (by decide)) (aC (aB 0) (aC (aB 1) aD rfl) rfl))) (λ_=>(@aJ _ _ _ (@aR _ _ 2 _ _ _ _ pR.nd rfl (Or.inl rfl) (aB 3) (by rfl) (by walk_at "f"))))) (aH (ae (@PW.pt _ _ _ (qY (r9 (ij (bU (show aw _ (.builtin "isinstance") (sy K mg) from vo) (by rfl) T.b_isinstance p8 (aC (aB 2) (aC (j9 T.x_bB.g) aD rfl) rfl)))) (qh (r9 (ij (bU (show aw _ (.builtin "isinstance") (sy K mg) from vo) (by rfl) T.b_isinstance p8 (aC (aB 2) (aC (vD (v:=V.ty "ValueError") rfl T.b_ValueError CP rfl) aD rfl) rfl))))))) (@aJ _ _ _ (@aZ _ _ _ _ mz)) au) (@aJ _ _ _ (@aZ _ _ _ _ (D7 (bU (show aw _ (.builtin "isinstance") (yk K mg) from HQ) (by rfl) T.b_isinstance p8 (aC (aB 2) (aC (bB (aC (j9 T.g_bW) (aC (j9 T.g_nN) (aC (j9 T.g_uT) aD rfl) rfl) rfl)) aD rfl) rfl)))))))),?_⟩;refine⟨_,rfl,_,rfl,p,rl,fns,ls,rfl,hp,hf,nd,ok,hrl,hl,(λmss hm=>by rw[hn] at hm; cases hm),λ_ H3 s3=>?_⟩;refine⟨t.x_bB,_,rfl,T.x_bB,T.e_bB,λea hea=>⟨_,rfl,?_⟩⟩;have s4:=s3.trans (Same.new (o:=XC ea t.x_bB none) hea);have hX:=aF (H:=H3) (a:=ea) (o:=XC ea t.x_bB none);generalize upd H3 ea (XC ea t.x_bB none)=H4 at s4 hX ⊢;refine⟨_,rfl,ea,_,_,_,_,_,_,rfl,hX,(λdx z=>by cases z),T.x_bB,rfl,T.k_BadBits_bB,_,rfl,jN ?_⟩;refine⟨_,rfl,ea,_,_,_,_,_,_,rfl,hX,(λdx z=>by cases z),T.x_bB,rfl,T.v_bB,_,rfl,jN ?_⟩;refine⟨_,rfl,gZ,λtp htp=>?_⟩;refine⟨ea,_,_,_,tp,_,false,rfl,Same.new htp _ _ hX,(λdx z=>by cases z),T.x_bB,aF,λus r=>?_,_,rfl,q _ (s4.trans (Same.new htp))⟩;rw[DF (as:=[t.x_bW,t.x_nN,t.x_uT]) r];exact T.y_bB
theorem jd:FnScope ["_law_script","_law_built","_law_found","_law_k","_law_marks","_law_last","_law_j"] ["_law_script","_law_built"] (af mL):=by walk_at "s"
theorem Cd (T:Txt K mg t):FnOk P w K mg base CX0 22 t.zl t.AT ["_law_script","_law_built"] (GF K):=by
 have G_l_mark:=Hz (P:=P) (w:=w) (base:=base) T;have G_l_part:=iL (P:=P) (w:=w) (base:=base) T;have G_l_cell:=ue (P:=P) (w:=w) (base:=base) T;refine T.Ao.F.ok jd (λvs H Q E h=>?_) (λcdv A outer s H vs Q E hr h=>?_)
 . obtain⟨a,ns,b,bs,rfl,hS,hl,hB,q⟩:=h;rfl
 . skip
   refine lx ?_;intro XX;refine(let W1_2:TS:=_; have hW1_2:bD XX ((sB ((bN mL).getD 1 (.Pass ⟨0,0,0,0⟩))).drop 2) W1_2:=(aH (dI PassesOwn.never rfl (eZ rfl T.b_range (aC (@aK _ _ _ _ _ _ _ _ (aY bL) aE (aU T.cw G_l_part (hr.mono (by decide)) (aC (aU T.ik G_l_cell (hr.mono (by decide)) (aC (aB 0) (aC aE aD rfl) rfl)) (aC (aB 3) (aC aE aD rfl) rfl) rfl))) aD rfl)) (ag (i:=6) jd.nd rfl (Or.inl rfl)) (aH (@aR _ _ 5 _ _ _ _ jd.nd rfl (Or.inl rfl) (aU T.As G_l_mark (hr.mono (by decide)) (aC (aU T.ik G_l_cell (hr.mono (by decide)) (aC (aB 0) (aC (@aK _ _ _ _ _ _ _ _ (aY bL) (@aK _ _ _ _ _ _ _ _ (aY bL) aE (@aK _ _ _ _ _ _ _ _ (bj gP) aE (aB 3))) (aB 6)) aD rfl) rfl)) (aC (aB 1) (aC (aB 5) aD rfl) rfl) rfl)) (by rfl) (by walk_at "f")) (@aJ _ _ _ (@cj _ _ _ _ (cH Jk Jp Jq dY (aB 4) (aC (aB 5) aD rfl)) (by rfl))))) (@aJ _ _ _ (@cj _ _ _ _ (cH Jk Jp Jq dY (aB 2) (aC (aB 4) aD rfl)) (by rfl)))); ?_);obtain⟨a,ns,b,bs,rfl,hS,hl,hB,q⟩:=h;refine⟨_,(aH (@aR _ _ 2 _ _ _ _ jd.nd rfl (Or.inl rfl) (bX aD) (by rfl) (by walk_at "f")) (aH (dI PassesOwn.never rfl (eZ rfl T.b_range (aC (bU (show aw _ (.builtin "len") (cU K) from cb) (by rfl) T.b_len bV (aC (aB 1) aD rfl)) aD rfl)) (ag (i:=3) jd.nd rfl (Or.inl rfl)) (aH (@aR _ _ 4 _ _ _ _ jd.nd rfl (Or.inl rfl) (bX aD) (by rfl) (by walk_at "f")) (aH (@aR _ _ 5 _ _ _ _ jd.nd rfl (Or.inl rfl) (bB (aC (bX aD) (aC (bX aD) aD rfl) rfl)) (by rfl) (by walk_at "f")) hW1_2))) (@aJ _ _ _ (@aZ _ _ _ _ (aB 2))))),?_⟩;have lbs:(bs.map λx=>V.ref x.e).length=bs.length:=JR _;have n12:=hB.bt.n12;refine⟨ci,λfA hfA=>?_⟩;have x1:=Same.new (o:=.lst []) hfA;refine⟨_,rfl,b,_,rfl,.inl (x1.seq hB.bt.ls),_,rfl,by omega,by omega,?_⟩;refine(let Jv1:Nat->St->Hp->Prop:=λi σ G=>∃(v3 v4 v5 v6:Option V) (mss:List (List Mk)) (us:List V),σ=[some (.ref a),some (.ref b),some (.ref fA),v3,v4,v5,v6]/\Same H G/\G fA=some (.lst us)/\mss.length=i/\us.length=i/\(∀(k:Nat) ms y,mss[k]?=some ms->us[k]?=some y->jW K (ers fA G) ms y)/\∀ms∈mss,kI bs ms; i6 (lo:=0) (n:=List.length (List.map (λx:Bd=>V.ref x.e) bs)) Jv1 ⟨_,_,_,_,[],[],rfl,x1,aF,rfl,rfl,(λk ms y h=>by cases h),λms h=>by cases h⟩ ?_ ?_)
   . rintro i σ G hi ⟨v3,v4,v5,v6,mss,us,rfl,sG,eF,lm,lu,dF,fit⟩;rw[lbs] at hi;refine⟨ci,λmA hmA=>⟨ci,λc0 hc0=>⟨ci,λw0 hw0=>⟨cB,λl0 hl0=>?_⟩⟩⟩⟩;have zA:=Same.new (o:=.lst []) hmA;have zB:=Same.new (o:=.lst []) hc0;have zC:=Same.new (o:=.lst []) hw0;have zE:=Same.new (o:=.tup [.ref c0,.ref w0]) hl0;have eA:upd G mA (.lst []) mA=some (.lst []):=aF;have nc:=(aV eA hc0).symm;have nw_:=(aV (zB _ _ eA) hw0).symm;have nl:=(aV (zC _ _ (zB _ _ eA)) hl0).symm;have d0:DatV K (ers mA (upd (upd (upd (upd G mA (.lst [])) c0 (.lst [])) w0 (.lst [])) l0 (.tup [.ref c0,.ref w0]))) (iO c9) (.ref l0) :=
       dU (aI.of (by rw[aS nl]; exact aF)) (cf (aG.of (by rw[aS nc]; exact zE _ _ (zC _ _ aF))) bo) (cf (aG.of (by rw[aS nw_]; exact zE _ _ aF)) bo)
     have eM:=zE _ _ (zC _ _ (zB _ _ eA));have sZ:=((zA.trans zB).trans zC).trans zE;generalize upd (upd (upd (upd G mA (.lst [])) c0 (.lst [])) w0 (.lst [])) l0 (.tup [.ref c0,.ref w0])=G0 at d0 eM sZ ⊢;have pb:=dq (gD ns 0) (0+(i:Int)) 3 (by decide);obtain⟨n,en⟩:=Js (a:=1+ap (gD ns 0) (0+(i:Int)) 3) (by omega);refine⟨_,rfl,a,ns,0,rfl,(sG.trans sZ).seq hS,hl,by decide,by decide,_,rfl,gD ns 0,0+(i:Int),3,rfl,by omega,by decide,λG2 s2=>⟨_,_,rfl,rfl,_,rfl,by omega,by omega,?_⟩⟩;rw[en];refine(let Jv2:Nat->St->Hp->Prop:=λj σ G'=>∃(v6:Option V) (lw:V) (ms:List Mk) (vs:List V),σ=[some (.ref a),some (.ref b),some (.ref fA),some (.int (0+(i:Int))),some (.ref mA),some lw,v6]/\Same G G'/\G' mA=some (.lst vs)/\ms.length=j/\vs.length=j/\(∀(k:Nat) m z,ms[k]?=some m->vs[k]?=some z->jE K (ers mA (nwL G G')) m z)/\DatV K (ers mA G') (iO (cN ms j)) lw/\∀m∈ms,MFit (bz bs) (cJ bs) m; i6 (lo:=0) (n:=n) Jv2 ⟨_,_,[],[],rfl,sZ.trans s2,s2 _ _ eM,rfl,rfl,(λk m z h=>by cases h),DatV.mono (Same.ers s2) _ _ d0,λm h=>by cases h⟩ ?_ ?_)
     . rintro j σ G' hj ⟨v6,lw,ms,vs,rfl,sG',eM',lms,lvs,dM,dL,fM⟩;have s0:=sG.trans sG';refine⟨_,rfl,_,rfl,_,_,rfl,rfl,.inl ⟨by decide,by decide⟩,_,_,rfl,rfl,_,rfl,_,_,rfl,rfl,a,ns,6+5 * (0+(i:Int))+(0+(j:Int)),rfl,s0.seq hS,hl,by omega,by omega,_,rfl,_,rfl,_,b,bs,lw,cN ms j,rfl,hB.mono s0,DatV.mono bY _ _ dL,rE (P:=λm=>m=c9\/MFit (bz bs) (cJ bs) m) (.inl rfl) (λm hm=>.inr (fM m hm)) j,λm v G4 s4 dm fm=>?_⟩;have dmM:=dm.mono (sR sG' eM');have eM4:=s4 _ _ eM';refine⟨_,rfl,.inl ⟨rfl,_,aG.of eM4⟩,_,rfl,mA,_,_,rfl,rfl,eM4,bT (n:=vs.length+1) (by omega),?_⟩;have s5:Same G (upd G4 mA (.lst (vs++[v]))):=(sG'.trans s4).upd hmA;have toE:Same (ers mA (nwL G G4)) (ers mA (upd G4 mA (.lst (vs++[v])))):=by rw[eu]; exact Same.ers rN
       have toN:Same (ers mA (nwL G G4)) (ers mA (nwL G (upd G4 mA (.lst (vs++[v]))))):=by rw[rn]; exact Same.refl _
       refine⟨_,_,ms++[m],vs++[v],rfl,s5,aF,by rw[JS,lms]; rfl,by rw[JS,lvs]; rfl,λk m' z hk hz=>?_,?_,λm' hm'=>?_⟩
       . rcases g6 hk with⟨hk1,hk⟩|⟨hk1,rfl⟩
         . rcases g6 hz with⟨_,hz⟩|⟨hk2,_⟩
           . exact(dM k m' z hk hz).mono ((Same.ers (Same.nwL s4)).trans toN)
           . omega
         . rcases g6 hz with⟨hk2,_⟩|⟨_,rfl⟩
           . omega
           . exact dmM.mono toN
       . rw[xh lms];exact(dmM.mono toE).dat
       . rcases K1.mp hm' with h|h
         . exact fM m' h
         . rw[Jz.mp h]; exact fm
     . rintro σ G' ⟨v6,lw,ms,vs,rfl,sG',eM',lms,lvs,dM,dL,fM⟩;have eF':=sG' _ _ eF;have ntM:fA≠mA:=aV eF hmA;refine⟨_,rfl,.inl ⟨rfl,_,aG.of eF'⟩,_,rfl,fA,_,_,rfl,rfl,eF',bT (n:=us.length+1) (by omega),?_⟩;refine⟨_,_,_,_,mss++[ms],us++[.ref mA],rfl,(sG.trans sG').upd hfA,aF,by rw[JS,lm]; rfl,by rw[JS,lu]; rfl,λk ms' y hk hy=>?_,λms' hms=>?_⟩
       . rw[eu];rcases g6 hk with⟨hk1,hk⟩|⟨hk1,rfl⟩
         . rcases g6 hy with⟨_,hy⟩|⟨hk2,_⟩
           . exact(dF k ms' y hk hy).mono (Same.ers sG')
           . omega
         . rcases g6 hy with⟨hk2,_⟩|⟨_,rfl⟩
           . omega
           . exact⟨mA,vs,rfl,aG.of (by rw[aS ntM.symm]; exact eM'),by omega,λk m z hk hz=>(dM k m z hk hz).mono (bY.trans (t9 eF))⟩
       . rcases K1.mp hms with h|h
         . exact fit ms' h
         . cases Jz.mp h;exact⟨by omega,by omega,fM⟩
   . rintro σ G ⟨v3,v4,v5,v6,mss,us,rfl,sG,eF,lm,lu,dF,fit⟩;rw[lbs] at lm lu;exact⟨_,rfl,q mss _ G sG ⟨fA,us,rfl,aG.of eF,by omega,λk ms y hk hy=>(dF k ms y hk hy).mono bY⟩ lm fit⟩
theorem kh:FnScope ["_law_built","_law_all_marks_here","_law_table_here","_law_k","_law_marks","_law_chain","_law_views"] ["_law_built","_law_all_marks_here"] (af mX):=by walk_at "s"
theorem C4 (T:Txt K mg t):FnOk P w K mg base CX0 2 t.A3 t.Ah ["_law_built","_law_all_marks_here"] (Hk K):=by
 refine T.Ax.F.ok kh (λvs H Q E h=>?_) (λcdv A outer s H vs Q E hr h=>?_)
 . obtain⟨b,bs,v,mss,rfl,hB,hA,lm,fit,q⟩:=h;rfl
 . skip
   refine lx ?_;intro XX;refine(let W1_1:TS:=_; have hW1_1:bD XX ((sB ((bN mX).getD 1 (.Pass ⟨0,0,0,0⟩))).drop 1) W1_1:=(aH (dI PassesOwn.never rfl (g8 (aL (show aN _ (b6 K) from bE) (aB 1) (aB 3) (λ_ _=>rfl))) (fL rfl (cC (ag (i:=5) kh.nd rfl (Or.inl rfl)) (cC (ag (i:=6) kh.nd rfl (Or.inl rfl)) fH))) (@aJ _ _ _ (@cj _ _ _ _ (cH Jk Jp Jq dY (aB 4) (aC (bB (aC (ez nr (by rfl) T.b_tuple oJ (aC (gV (N':=["_law_n","_law_row","_law_built"]) (js:=[none,none,some 0]) (by kernel_rfl) rfl (g8 (aB 5)) (xl (nO (nO xm))) (λ_ _ _ _=>(show PG _ _ (pJ K 2 _) from fL (n:=2) rfl (cC (ag (i:=0) (show(["_law_n","_law_row","_law_built"]:List Str).Nodup by decide +kernel) rfl (Or.inl rfl) (.inr rfl)) (cC (ag (i:=1) (show(["_law_n","_law_row","_law_built"]:List Str).Nodup by decide +kernel) rfl (Or.inl rfl) (.inr rfl)) fH)))) (λ_ _ _ _=>dX) (λ_ _ _ _=>(bB (aC (aL (show aN _ (ai K) from ak) (aL (show aN _ (b6 K) from bE) (aL (show aN _ (b6 K) from bE) (aB 2) (aB 0) (λ_ _=>rfl)) aE (λ_ _=>rfl)) aE (λ_ _=>rfl)) (aC (aB 1) aD rfl) rfl)))) aD rfl)) (aC (gV (N':=["_law_places"]) (js:=[none]) (by kernel_rfl) rfl (g8 (aB 6)) dn (λ_ _ _ _=>(ag (i:=0) (show(["_law_places"]:List Str).Nodup by decide +kernel) rfl (Or.inl rfl) (.inr rfl))) (λ_ _ _ _=>dX) (λ_ _ _ _=>(ez (show aw _ (.type "list") (Fa K) from kG) (by rfl) T.b_list j5 (aC (aB 0) aD rfl)))) aD rfl) rfl)) aD rfl)) (by rfl)))) (@aJ _ _ _ (@cj _ _ _ _ (cH Jk Jp Jq dY (aB 2) (aC (bB (aC (aL (show aN _ (ai K) from ak) (aL (show aN _ (b6 K) from bE) (aL (show aN _ (b6 K) from bE) (aB 0) (aB 3) (λ_ _=>rfl)) aE (λ_ _=>rfl)) aE (λ_ _=>rfl)) (aC (aB 4) aD rfl) rfl)) aD rfl)) (by rfl)))); ?_);obtain⟨b,bs,v,mss,rfl,hB,hA,lm,fit,q⟩:=h;refine⟨_,(aH (@aR _ _ 2 _ _ _ _ kh.nd rfl (Or.inl rfl) (bX aD) (by rfl) (by walk_at "f")) (aH (dI PassesOwn.never rfl (eZ rfl T.b_range (aC (bU (show aw _ (.builtin "len") (cU K) from cb) (by rfl) T.b_len bV (aC (aB 0) aD rfl)) aD rfl)) (ag (i:=3) kh.nd rfl (Or.inl rfl)) (aH (@aR _ _ 4 _ _ _ _ kh.nd rfl (Or.inl rfl) (bX aD) (by rfl) (by walk_at "f")) hW1_1)) (@aJ _ _ _ (@aZ _ _ _ _ (aB 2))))),?_⟩;obtain⟨L,yss,rfl,hL,lL,hM⟩:=hA;have lbs:(bs.map λx=>V.ref x.e).length=bs.length:=JR _;have n12:=hB.bt.n12;have lrl:(bz bs).length=bs.length:=by unfold bz ay; rw[JR,JR]
   have nmk:∀(k:Nat) x,bs[k]?=some x->fE bs k=x.f.name:=λk x hx=>jf (show(bs.map (·.f))[k]?=some x.f by rw[Jc,hx]; rfl);refine⟨ci,λtA htA=>?_⟩;have x1:=Same.new (o:=.lst []) htA;refine⟨_,rfl,b,_,rfl,.inl (x1.seq hB.bt.ls),_,rfl,by omega,by omega,?_⟩;refine(let Jv1:Nat->St->Hp->Prop:=λi σ G=>∃(v3 v4 v5 v6:Option V) (us:List V),σ=[some (.ref b),some (.ref L),some (.ref tA),v3,v4,v5,v6]/\Same H G/\G tA=some (.lst us)/\us.length=i/\(∀(k:Nat) ms y,mss[k]?=some ms->us[k]?=some y->DatV K (ers tA G) (iG (fE bs) (fE bs k,ms)) y); i6 (lo:=0) (n:=List.length (List.map (λx:Bd=>V.ref x.e) bs)) Jv1 ⟨_,_,_,_,[],rfl,x1,aF,rfl,λk ms y _ h=>by cases h⟩ ?_ ?_)
   . rintro i σ G hi ⟨v3,v4,v5,v6,us,rfl,sG,eT,lu,dT⟩;rw[lbs] at hi;obtain⟨x,hx⟩:∃x,bs[i]?=some x:=⟨_,JV hi⟩
     obtain⟨ms,hms⟩:∃ms,mss[i]?=some ms:=⟨_,JV (by omega)⟩
     obtain⟨y0,hy0⟩:∃y,yss[i]?=some y:=⟨_,JV (by omega)⟩
     have hMs:=(hM i ms y0 hms hy0).mono sG;obtain⟨MA,zs,rfl,hzs,lzs,hz⟩:=hMs;have fitm:=fit ms (JW hms);refine⟨ci,λl hl=>?_⟩;have y1:=Same.new (o:=.lst []) hl;refine⟨_,rfl,_,rfl,L,_,_,_,rfl,rfl,(sG.trans y1).seq hL,(by rw[KC]; exact bh hy0),MA,rfl,⟨_,y1.seq hzs⟩,(let Jv2:Nat->St->Hp->Prop:=λj σ H2=>∃v5 v6:Option V,σ=[some (.ref b),some (.ref L),some (.ref tA),some (.int (0+(i:Int))),some (.ref l),v5,v6]/\Same G H2/\∃ts,H2 l=some (.lst ts)/\DatAll K (ers l (nwL G H2)) ((ms.take j).map (iB (fE bs))) ts; rV (xs:=zs) Jv2 ⟨_,_,rfl,y1,[],aF,bo⟩ ?_ ?_ ?_)⟩
     . rintro j σ H2 hj ⟨v5,v6,rfl,s2,_⟩;exact s2.seq hzs
     . rintro j y σ H2 hy ⟨v5,v6,rfl,s2,ts,e2,d2⟩;have jlt:j<zs.length:=(Jb.mp hy).1;obtain⟨m,hm⟩:∃m,ms[j]?=some m:=⟨_,JV (by omega)⟩
       obtain⟨pA,cA,wA,cs,ws,rfl,hpA,hcs,hws,dcs,dws⟩:=hz j m y hm hy;have okm:=fitm.2.2 m (JW hm);have m3:=okm.l3;have lcs:cs.length=m.ch.length:=by rw[cQ dcs,JR]
       have lws:ws.length=m.vs.length:=by rw[cQ dws,JR]
       have lts:ts.length=j:=by rw[cQ d2,JR,Ju];omega
       refine⟨pA,_,rfl,s2.tup hpA,rfl,_,_,rfl,_,_,rfl,rfl,?_⟩;refine⟨_,rfl,.inl ⟨rfl,_,aG.of e2⟩,_,rfl,cA,rfl,⟨_,aG.of (s2 _ _ hcs)⟩,λu hu=>(let Jv3:Nat->List V->Hp->Prop:=λj acc H3=>Same H2 H3/\H3 u=some (.lst acc)/\DatAll K H3 ((m.ch.take j).map (gw (fE bs))) acc; jk (xs:=cs) (by omega) Jv3 ⟨Same.new hu,aF,bo⟩ ?_ ?_ ?_)⟩
       . rintro j acc H3 hj ⟨s3,e3,d3⟩;refine⟨e3,?_,aG.of (s3 _ _ (s2 _ _ hcs))⟩;rw[cQ d3,JR,Ju];omega
       . rintro j y acc H3 hy' ⟨s3,e3,d3⟩;obtain⟨c,hc,dc⟩:=jU dcs hy';obtain⟨fA,y1,y2,rfl,hf,hy1,hy2⟩:=eK dc;cases gU hy1;cases gU hy2;obtain⟨z,hz'⟩:∃z,bs[c.1]?=some z:=⟨_,JV (by have:=(okm.ix c (JW hc)).1; omega)⟩
         have s03:=sG.trans (s2.trans s3);have hZ:=(hB.bt.all z (JW hz')).mono s03;refine⟨fA,_,rfl,(s2.trans s3).tup hf,rfl,_,_,rfl,_,_,rfl,rfl,?_⟩;refine⟨_,rfl,_,rfl,b,_,_,_,rfl,rfl,s03.seq hB.bt.ls,bh (by rw[Jc,hz']; rfl),z.e,_,_,_,rfl,rfl,hZ.en,bP,z.f.fa,_,_,_,rfl,rfl,hZ.fn.fn,bP,_,rfl,cB,λp hp=>?_⟩;have yp:=Same.new (o:=.tup [.str z.f.name,.int (c.2:Int)]) hp;refine⟨yp _ _ e3,(s3.trans yp).upd hu,aF,?_⟩;refine DatAll.putT (gr (pQ _) _) (yp _ _ e3) (qe (L2.DatAll.mono yp _ _ d3) hc ?_);unfold gw;rw[nmk c.1 z hz'];exact dU (aI.of aF) (de _) (da _)
       rintro acc H3 ⟨s3,e3,d3⟩;rw[lcs,K2] at d3;refine⟨u,_,rfl,.inl ⟨aG.of e3,λtT htT=>?_⟩⟩;have yt:=Same.new (o:=.tup acc) htT;have dT':DatV K (upd H3 tT (.tup acc)) (.tuple (m.ch.map (gw (fE bs)))) (.ref tT):=iF (aI.of aF) (L2.DatAll.mono yt _ _ d3);have s24:=s3.trans yt;generalize upd H3 tT (.tup acc)=H4 at yt dT' s24 ⊢;have e4:=s24 _ _ e2;have s04:=s2.trans s24;refine⟨_,rfl,wA,rfl,⟨_,aG.of (s04 _ _ hws)⟩,λw hw=>(let Jv4:Nat->List V->Hp->Prop:=λj acc H5=>Same H4 H5/\H5 w=some (.lst acc)/\DatAll K (ers l (nwL G (ers w H5))) ((m.vs.take j).map dj) acc; jk (xs:=ws) (by have:=okm.vl; omega) Jv4 ⟨Same.new hw,aF,bo⟩ ?_ ?_ ?_)⟩
       . rintro j acc H5 hj ⟨s5,e5,d5⟩;refine⟨e5,?_,aG.of (s5 _ _ (s04 _ _ hws))⟩;rw[cQ d5,JR,Ju];omega
       . rintro j y acc H5 hy' ⟨s5,e5,d5⟩;obtain⟨vw,hvw,dvw⟩:=jU dws hy';obtain⟨aA,ys,rfl,hys,dys⟩:=fh dvw;have s05:=s04.trans s5;refine⟨_,rfl,aA,ys,rfl,.inl (s05.seq hys),λq hq=>?_⟩;have yq:=Same.new (o:=.lst ys) hq;have e6:=yq _ _ e5;have el6:=yq _ _ (s5 _ _ e4);have nw:q≠w:=(aV e5 hq).symm;have nl:q≠l:=(aV (s5 _ _ e4) hq).symm;refine⟨e6,(s5.trans yq).upd hw,aF,?_⟩;rw[eu];have fq:G q=none:=s05.free hq;have hwH:G w=none:=s04.free hw;refine qe (L2.DatAll.mono (Same.ers (Same.nwL (Same.ers yq))) _ _ d5) hvw (cf (aG.of (by rw[aS nl,fY fq,aS nw]; exact aF)) ?_);have s06:Same G (ers w (upd H5 q (.lst ys))):=gY (s05.trans yq) hwH;exact DatAll.ersT (.lst (ys:=ts) (by rw[fY hl,aS (aV e4 hw)]; exact el6)) _ _ (gC _) (DatAll.nwT s06 _ _ (gC _) (L2.DatAll.mono s06 _ _ dys))
       rintro acc H5 ⟨s5,e5,d5⟩;rw[lws,K2] at d5;have el5:=s5 _ _ e4;refine⟨cB,λpT hpT=>?_⟩;have yT:=Same.new (o:=.tup [.ref tT,.ref w]) hpT;have nT:pT≠l:=(aV el5 hpT).symm;have nWl:w≠l:=(aV e4 hw).symm;have m33:=fitm.2.1;refine⟨l,_,_,rfl,rfl,yT _ _ el5,bT (n:=ts.length+1) (by omega),_,_,rfl,((s04.trans s5).trans yT).upd hl,_,aF,?_⟩;rw[rn];have s05:=s04.trans s5;have s0T:=s05.trans yT;have fT:G pT=none:=s05.free hpT;have fw:G w=none:=s04.free hw;refine qe (L2.DatAll.mono (Same.ers (Same.nwL ((s24.trans s5).trans yT))) _ _ d2) hm ?_;refine dU (aI.of (by rw[aS nT,fY fT]; exact aF)) (DatV.ersT (.lst (by rw[fY hl]; exact yT _ _ el5)) _ _ (rm _ _) (DatV.nwT s0T _ _ (rm _ _) (L2.DatV.mono (s5.trans yT) _ _ dT'))) ?_;exact cf (aG.of (by rw[aS nWl,fY fw]; exact yT _ _ e5)) (L2.DatAll.mono (Same.ers (Same.nwL (bY.trans yT))) _ _ d5)
     rintro σ H2 ⟨v5,v6,rfl,s2,ts,e2,d2⟩;rw[lzs,K2] at d2;have sG2:=sG.trans s2;have hX:=(hB.bt.all x (JW hx)).mono sG2;have eT2:=s2 _ _ eT;have ntl:tA≠l:=aV eT hl;refine⟨_,rfl,.inl ⟨rfl,_,aG.of eT2⟩,_,rfl,_,rfl,b,_,_,_,rfl,rfl,sG2.seq hB.bt.ls,(by rw[KC]; exact bh (by rw[Jc,hx]; rfl)),x.e,_,_,_,rfl,rfl,hX.en,bP,x.f.fa,_,_,_,rfl,rfl,hX.fn.fn,bP,_,rfl,cB,λp hp=>?_⟩;have zP:=Same.new (o:=.tup [V.str x.f.name,.ref l]) hp;have npT:=aV eT2 hp;refine⟨tA,_,_,rfl,rfl,zP _ _ eT2,bT (n:=us.length+1) (by omega),_,_,_,_,us++[.ref p],rfl,(sG2.trans zP).upd htA,aF,by rw[JS,lu]; rfl,λk ms' y hk hy=>?_⟩;rw[eu];rcases g6 hy with⟨_,hy⟩|⟨hk2,rfl⟩
     . exact DatV.mono (Same.ers (s2.trans zP)) _ _ (dT k ms' y hk hy)
     . rw[lu] at hk2;subst hk2;rw[hms] at hk;cases hk;rw[nmk k x hx];exact dU (aI.of (by rw[aS npT.symm]; exact aF)) (de _) (cf (aG.of (by rw[aS ntl.symm]; exact zP _ _ e2)) (DatAll.mono (bY.trans ((t9 eT).trans (Same.ers zP))) _ _ d2))
   . rintro σ G ⟨v3,v4,v5,v6,us,rfl,sG,eT,lu,dT⟩;rw[lbs] at lu;exact⟨_,rfl,q _ G sG (vd (aG.of eT) (by omega) λk ms x hk hx=>DatV.mono bY _ _ (dT k ms x hk hx))⟩
theorem gi:FnScope ["_law_script","_law_cell_here","_law_built","_law_program","_law_all_marks_here","_law_rows","_law_due","_law_spot","_law_sort","_law_bad"] ["_law_script"] (af iD):=by walk_at "s"
theorem ok_law (T:Txt K mg t):FnOk P w K mg base CX0 36 t.A5 t.qR ["_law_script"] (sp_law K):=by
 have G_l_cell:=ue (P:=P) (w:=w) (base:=base) T;have G_l_all_marks:=Cd (P:=P) (w:=w) (base:=base) T;have G_l_table:=C4 (P:=P) (w:=w) (base:=base) T;have G_l_bad_rows:=CK (P:=P) (w:=w) (base:=base) T;have G_l_function:=CU (P:=P) (w:=w) (base:=base) T;have G_unpack:=wG (P:=P) (w:=w) (base:=base) T;have G_l_part:=iL (P:=P) (w:=w) (base:=base) T;have G_l_refused:=EQ (P:=P) (w:=w) (base:=base) T;have G_l_pieces:=wI (P:=P) (w:=w) (base:=base) T;have G_l_number:=oy (P:=P) (w:=w) (base:=base) T;refine T.law.F.ok gi (λvs H Q E h=>?_) (λcdv A outer s H vs Q E hr h=>?_)
 . obtain⟨a,ns,rfl,hS,hl,q⟩:=h;rfl
 . skip
   refine lx ?_;intro XX;refine(let W10:TS:=_; have hW10:bD XX ((bN iD).drop 10) W10:=(aH (ae (ac az (aU T.cw G_l_part (hr.mono (by decide)) (aC (aU T.ik G_l_cell (hr.mono (by decide)) (aC (aB 0) (aC aE aD rfl) rfl)) (aC aE (aC aE aD rfl) rfl) rfl)) aE (aW _)) (aH (@aR _ _ 3 _ _ _ _ gi.nd rfl (Or.inl rfl) (bX (aC (bB (aC aP (aC mz (aC (bB aD) (aC (bB (aC (bB (aC aP (aC aE aD rfl) rfl)) aD rfl)) aD rfl) rfl) rfl) rfl)) aD rfl)) (by rfl) (by walk_at "f")) (@aJ _ _ _ (@aZ _ _ _ _ (aU T.uD G_l_refused (hr.mono (by decide)) (aC (aB 3) (aC (bX (aC (@aK _ _ _ _ _ _ _ _ cZ (aU T.ge G_l_number (hr.mono (by decide)) (aC aE aD rfl)) (@aK _ _ _ _ _ _ _ _ zK aP aE)) aD rfl)) aD rfl) rfl))))) au) (@aJ _ _ _ (@aZ _ _ _ _ (oR (aU T.uD G_l_refused (hr.mono (by decide)) (aC (aB 3) (aC (aB 9) aD rfl) rfl)) (pU (hW (qc hr.units) (zL T.unpack G_unpack (hr.mono (by decide)) yl (aC (aB 3) (aC (ez kG (by rfl) T.b_list j5 (aC (aB 5) aD rfl)) aD rfl) rfl)) (aB 6) (aW _))))))); ?_);refine(let W9:TS:=_; have hW9:bD XX ((bN iD).drop 9) W9:=(aH (@aR _ _ 9 _ _ _ _ gi.nd rfl (Or.inl rfl) (aU T.Aq G_l_bad_rows (hr.mono (by decide)) (aC (aB 5) (aC (aB 4) (aC (aB 7) (aC (aB 8) (aC (aU T.ik G_l_cell (hr.mono (by decide)) (aC (aB 0) (aC aE aD rfl) rfl)) (aC (aB 2) aD rfl) rfl) rfl) rfl) rfl) rfl)) (by rfl) (by walk_at "f")) hW10); ?_);refine(let W8:TS:=_; have hW8:bD XX ((bN iD).drop 8) W8:=(aH (@aR _ _ 8 _ _ _ _ gi.nd rfl (Or.inl rfl) (@aK _ _ _ _ _ _ _ _ (bj cz) (aU T.ik G_l_cell (hr.mono (by decide)) (aC (aB 0) (aC aE aD rfl) rfl)) aE) (by rfl) (by walk_at "f")) hW9); ?_);refine(let W6:TS:=_; have hW6:bD XX ((bN iD).drop 6) W6:=(aH (ae (ac (tU hr.units) (zL T.unpack G_unpack (hr.mono (by decide)) yl (aC (aB 3) (aC (ez kG (by rfl) T.b_list j5 (aC (aB 5) aD rfl)) aD rfl) rfl)) (aB 6) (aW _)) (@aJ _ _ _ (@aZ _ _ _ _ mz)) au) (aH (@aR _ _ 7 _ _ _ _ gi.nd rfl (Or.inl rfl) (@aK _ _ _ _ _ _ _ _ (bj cz) (aU T.ik G_l_cell (hr.mono (by decide)) (aC (aB 0) (aC aE aD rfl) rfl)) (bU (show aw _ (.builtin "len") (cU K) from cb) (by rfl) T.b_len bV (aC (aB 5) aD rfl))) (by rfl) (by walk_at "f")) hW8)); ?_);refine(let W5:TS:=_; have hW5:bD XX ((bN iD).drop 5) W5:=(aH (@aR _ _ 6 _ _ _ _ gi.nd rfl (Or.inl rfl) (aU T.Ax G_l_table (hr.mono (by decide)) (aC (aB 2) (aC (aB 4) aD rfl) rfl)) (by rfl) (by walk_at "f")) hW6); ?_);obtain⟨a,ns,rfl,hS,hl,q⟩:=h;refine⟨_,(aH (@aR _ _ 1 _ _ _ _ gi.nd rfl (Or.inr rfl) (aU T.ik G_l_cell (hr.mono (by decide)) (aC (aB 0) (aC aE aD rfl) rfl)) (by rfl) (by walk_at "f")) (aH (mN (i:=2) gi.nd rfl (Or.inl rfl) (N':=["_law_k","_law_cell_here","_law_script"]) (js:=[none,some 1,some 0]) (by kernel_rfl) rfl (eZ rfl T.b_range (aC (@aK _ _ _ _ _ _ _ _ (aY bL) aE (@aK _ _ _ _ _ _ _ _ (bj cz) (aB 1) aE)) aD rfl)) dn (λ_ _ _ _=>(ag (i:=0) (show(["_law_k","_law_cell_here","_law_script"]:List Str).Nodup by decide +kernel) rfl (Or.inl rfl) (.inr rfl))) (λ_ _ _ _=>dX) (λ_ _ _ _=>(aU T.Ar G_l_function (hr.mono (by decide)) (aC (aB 1) (aC (aB 0) (aC (aU T.ik G_l_cell (hr.mono (by decide)) (aC (aB 2) (aC aE aD rfl) rfl)) aD rfl) rfl) rfl))) (by rfl)) (aH (mN (i:=3) gi.nd rfl (Or.inl rfl) (N':=["_law_one"]) (js:=[none]) (by kernel_rfl) rfl (g8 (aB 2)) dn (λ_ _ _ _=>(ag (i:=0) (show(["_law_one"]:List Str).Nodup by decide +kernel) rfl (Or.inl rfl) (.inr rfl))) (λ_ _ _ _=>dX) (λ_ _ _ _=>(aL (show aN _ (b6 K) from bE) (aB 0) aE (λ_ _=>rfl))) (by rfl)) (aH (@aR _ _ 4 _ _ _ _ gi.nd rfl (Or.inl rfl) (aU T.Ao G_l_all_marks (hr.mono (by decide)) (aC (aB 0) (aC (aB 2) aD rfl) rfl)) (by rfl) (by walk_at "f")) (aH (mN (i:=5) gi.nd rfl (Or.inl rfl) (N':=["_law_marks"]) (js:=[none]) (by kernel_rfl) rfl (g8 (aB 4)) dn (λ_ _ _ _=>(ag (i:=0) (show(["_law_marks"]:List Str).Nodup by decide +kernel) rfl (Or.inl rfl) (.inr rfl))) (λ_ _ _ _=>dX) (λ_ _ _ _=>(IT (λK=>tBM K "str" _ _ _) rfl (cH Ki Kx Ky (show mB _ "str.join" (ub K) from kB) aP (aC (gV (N':=["_law_piece"]) (js:=[none]) (by kernel_rfl) rfl (CD (λK=>um K _) rfl (g8 (aU T.qU G_l_pieces (hr.mono (by decide)) (aC (aB 0) aD rfl)))) dn (λ_ _ _ _=>(ag (i:=0) (show(["_law_piece"]:List Str).Nodup by decide +kernel) rfl (Or.inl rfl) (.inr rfl))) (λ_ _ _ _=>dX) (λ_ _ _ _=>(aL (show aN _ (ai K) from ak) (aB 0) aE (λ_ _=>rfl)))) aD rfl)))) (by rfl)) hW5))))),?_⟩;refine⟨_,rfl,a,ns,1,rfl,hS,hl,by decide,by decide,?_⟩;generalize gD ns 1=z;have b3:=eI z 3 (by decide);obtain⟨n,en⟩:=Js (a:=1+z%3) (by omega);refine⟨_,rfl,_,_,rfl,rfl,(show(0:Int)<3 by decide),_,_,rfl,rfl,_,rfl,by omega,by omega,λu hu=>?_⟩;rw[en];refine(let Jv1:Nat->List V->Hp->Prop:=λi acc H2=>Same H H2/\H2 u=some (.lst acc)/\∃bs:List Bd,acc=(bs.map λx=>V.ref x.e)/\(∀x∈bs,EntAt K (ers u H2) x)/\(∀x∈bs,x.cnt=(F2.nms x.f).length)/\bs.map (λx=>x.f.name)=(List.range i).map λj:Nat=>bx (gD ns 2) ((j:Int)+3); lV (lo:=0) (n:=n) (by omega) Jv1 ⟨Same.new hu,aF,[],rfl,(λx hx=>by cases hx),(λx hx=>by cases hx),rfl⟩ ?_ ?_ ?_)
   . rintro i acc H2 hi ⟨s2,e2,bs,rfl,_,_,hb⟩;have:=Jt List.length hb;rw[JR,JR,KI] at this;exact⟨e2,by rw[JR,this]; exact JZ _⟩
   . rintro i acc H2 hi ⟨s2,e2,bs,rfl,hall,hcn,hb⟩;refine⟨_,rfl,_,rfl,_,rfl,a,ns,2,rfl,s2.seq hS,hl,by decide,by decide,z,0+(i:Int),gD ns 2,rfl,by omega,by omega,λx H3 s3 f3 h3 n3 e3 c3=>?_⟩;have ne:x.e≠u:=(aV e2 f3).symm;refine⟨s3 _ _ e2,(s2.trans s3).upd hu,aF,bs++[x],(by rw[Jf]; rfl),λy hy=>?_,λy hy=>?_,?_⟩
     . rw[eu];rcases K1.mp hy with h|h
       . exact(hall y h).mono s3.ers
       . rw[Jz.mp h];exact DQ h3 (s3 _ _ e2) e3 ne
     . rcases K1.mp hy with h|h
       . exact hcn y h
       . rw[Jz.mp h]; exact c3
     . rw[Jf,hb,Kb,Jf];show _++[x.f.name]=_++[bx (gD ns 2) ((i:Int)+3)];rw[n3,KC]
   rintro acc H1 ⟨s1,e1,bs,rfl,hall,hcn,hb⟩;have hlen:bs.length=n:=by have:=Jt List.length hb;rwa [JR,JR,KI] at this
   have hB:Blt K H1 u bs:=⟨⟨aG.of e1,λx hx=>(hall x hx).mono bY,λh=>by rw[h] at hlen; simp at hlen; omega,by omega,by rw[hb]; exact Cv (by omega)⟩,hcn⟩
   clear hall hcn hb e1;have ok:=mO hB;have n12:=hB.bt.n12;have lbs:(bs.map λx=>V.ref x.e).length=bs.length:=JR _;refine⟨_,rfl,u,rfl,⟨_,hB.bt.ls⟩,λpP hpP=>(let Jv2:Nat->List V->Hp->Prop:=λi acc H2=>Same H1 H2/\H2 pP=some (.lst acc)/\acc=(bs.take i).map λx:Bd=>V.ref x.f.fa; jk (xs:=bs.map λx:Bd=>V.ref x.e) (by omega) Jv2 ⟨Same.new hpP,aF,rfl⟩ ?_ ?_ ?_)⟩
   . rintro i acc H2 hi ⟨s2,e2,rfl⟩;exact⟨e2,by rw[JR,Ju]; omega,s2.seq hB.bt.ls⟩
   . rintro i y acc H2 hy ⟨s2,e2,rfl⟩;rw[Jc] at hy;obtain⟨x,hx⟩:∃x,bs[i]?=some x:=by cases e:bs[i]? with|none=>rw[e] at hy; cases hy|some x=>exact⟨x,rfl⟩
     rw[hx] at hy;cases hy;have hE:=(hB.bt.all x (JW hx)).mono s2;refine⟨_,rfl,x.e,_,_,_,rfl,rfl,hE.en,bP,e2,s2.upd hpP,aF,?_⟩;rw[KH,hx,Jf];rfl
   rintro acc H2 ⟨s2,eP,rfl⟩;rw[lbs,K2] at eP;have eP:H2 pP=some (.lst ((bs.map (·.f)).map λf=>V.ref f.fa)):=by rw[KJ]; exact eP
   have hnd:((bs.map (·.f)).map (·.name)).Nodup:=by rw[KJ]; exact hB.bt.nd
   have hFn:∀{H':Hp},Same H1 H'->∀f∈bs.map (·.f),F2.FnAt K H' f:=λs f hf=>by obtain⟨x,hx,rfl⟩:=Jy.mp hf;exact((hB.bt.all x hx).mono s).fn
   have lrl:(bz bs).length=(bs.map (·.f)).length:=by unfold bz ay; rw[JR]
   refine⟨_,rfl,_,rfl,a,ns,u,bs,rfl,(s1.trans s2).seq hS,hl,hB.mono s2,λmss tv H3 s3 hA lm fit=>?_⟩;have s13:=s2.trans s3;obtain⟨L,yss,rfl,hL,lL,hM⟩:=hA;have hA:jS K H3 mss (.ref L):=⟨L,yss,rfl,hL,lL,hM⟩
   have lrow:∀ms∈mss,(aj ms).length<=189600:=λms h=>by have hf:=fit ms h;have wok:∀m∈ms,WOk (cJ bs) m:=λm h=>jT ok (hf.2.2 m h);have:=oH (nS wok hf.2.1);have:=mn wok hf.2.1;have:(cW ms).length * 600<=316 * 600:=La _ this;rw[<- jD];omega
   have lR:∀x∈mss.map aj,x.length<=1000000:=λx hx=>by obtain⟨ms,h,rfl⟩:=Jy.mp hx;have:=lrow ms h;omega
   refine⟨_,rfl,L,rfl,⟨_,hL⟩,λrA hrA=>(let Jv3:Nat->List V->Hp->Prop:=λi acc H4=>Same H3 H4/\H4 rA=some (.lst acc)/\acc=bf ((mss.take i).map aj); jk (xs:=yss) (by omega) Jv3 ⟨Same.new hrA,aF,rfl⟩ ?_ ?_ ?_)⟩
   . rintro i acc H4 hi ⟨s4,e4,rfl⟩;exact⟨e4,by rw[mD,JR,Ju]; omega,s4.seq hL⟩
   . rintro i y acc H4 hy ⟨s4,e4,rfl⟩;have hi:i<yss.length:=(Jb.mp hy).1;obtain⟨ms,hms⟩:∃ms,mss[i]?=some ms:=⟨_,JV (by omega)⟩
     have hf:=fit ms (JW hms);have wok:∀m∈ms,WOk (cJ bs) m:=λm h=>jT ok (hf.2.2 m h);have lr:=lrow ms (JW hms);refine⟨rfl,_,rfl,y,ms,cJ bs,rfl,((hM i ms y hms hy).mono s4).dat,hf.2.1,wok,λl xs H5 s5 hl' e5 d5=>⟨l,rfl,⟨_,aG.of e5⟩,λu2 hu2=>li (aG.of e5) d5 (by have:=mn wok hf.2.1; omega) hu2 λH6 s6 e6=>⟨_,u2,_,rfl,rfl,aG.of e6,lB (by rw[iC,jD]; omega),?_⟩⟩⟩;rw[jK,iC,jD];refine⟨s6 _ _ (s5 _ _ e4),((s4.trans s5).trans s6).upd hrA,aF,?_⟩;rw[KH,hms,Jf];exact(uJ _ _).symm
   rintro acc H4 ⟨s4,eR,rfl⟩;rw[lL,K2] at eR;have s14:=s13.trans s4;refine⟨_,rfl,_,rfl,u,bs,.ref L,mss,rfl,hB.mono s14,hA.mono s4,lm,fit,λdv H5 s5 dT=>?_⟩;have s15:=s14.trans s5;have eR5:=s5 _ _ eR;have eP5:=s5 _ _ (s4 _ _ (s3 _ _ eP));have hA5:=(hA.mono s4).mono s5;clear hM hL;have hdec:gO (List.map (λx:Bd=>x.f) bs) (mss.map aj)=some mss:=by unfold gO;rw[Je (by rw[JR,JR]; exact lm)];refine sv (by rw[JR]) λk l ms hl' hk=>?_;rw[Jc,hk] at hl';cases hl';have hf:=fit ms (JW hk);exact Iz ok hf.2.2 hf.1 (by have:=hf.2.1; omega)
   have hsn:∀k<(bz bs).length,PyData.strOk (fE bs k)=true:=λk hk=>by
     have hk':k<bs.length:=by rw[lrl,JR] at hk; exact hk
     rw[show fE bs k=bs[k].f.name from jf (show(bs.map (·.f))[k]?=some bs[k].f by rw[Jc,JV hk']; rfl)];exact(hB.bt.all _ (Kd hk')).ok
   have layT:ao 14 (.list ((tbl (fE bs) mss).map (iG (fE bs)))):=ao.list (jH λe he=>by obtain⟨h1,k,hk,h2⟩:=Fn he;exact IX (λm hm=>((fit _ h1).2.2 m hm).mok ok) hsn (by rw[h2]; exact hsn k (by rw[lrl,JR]; omega)))
   have shT:=layT.shaped (by decide:14<=64);have neT:¬ (!PyData.eqv (.list ((tbl (fE bs) mss).map (iG (fE bs)))) (.list ((tbl (fE bs) mss).map (iG (fE bs)))))=true:=by rw[layT.refl]; decide
   refine⟨_,rfl,_,rfl,rA,_,rfl,.inl (aG.of eR5),λhd hhd=>?_⟩;have x6:=Same.new (o:=.lst (bf (mss.map aj))) hhd;refine⟨pP,hd,List.map (λx:Bd=>x.f) bs,mss.map aj,rfl,aG.of (x6 _ _ eP5),hFn (s15.trans x6),hnd,ok,aG.of aF,lR,λmss' hm v H6 s6 dv'=>?_,λhn=>by rw[hdec] at hn; cases hn⟩;rw[hdec] at hm;cases hm;have s56:=x6.trans s6;refine⟨_,rfl,_,_,dv',DatV.mono s56 _ _ dT,shT,shT,_,rfl,bC neT ?_⟩;clear dv';have s16:=s15.trans s56;have eR6:=s56 _ _ eR5;have eP6:=s56 _ _ eP5;have hA6:=hA5.mono s56;have dT6:=DatV.mono s56 _ _ dT;have s06:=s1.trans s16;have lst:(bf (mss.map aj)).length=mss.length:=by rw[mD,JR]
   have nb1:1<=bs.length:=by have:=ok.n1; rw[lrl,JR] at this; exact this
   have sb:=eI (gD ns 3) ((bf (mss.map aj)).length:Int) (by omega);obtain⟨sp,esp⟩:=Js sb.1;refine⟨_,rfl,a,ns,3,rfl,s06.seq hS,hl,by decide,by decide,_,rfl,rA,_,rfl,.inl (aG.of eR6),_,_,rfl,rfl,(by show(0:Int)<_; omega),?_⟩;rw[esp];refine⟨_,rfl,a,ns,4,rfl,s06.seq hS,hl,by decide,by decide,_,_,rfl,rfl,(show(0:Int)<17 by decide),?_⟩;refine⟨_,rfl,_,rfl,_,rfl,_,rfl,_,rfl,a,ns,5,rfl,s06.seq hS,hl,by decide,by decide,_,rfl,rA,.ref L,mss,sp,_,gD ns 5,u,bs,rfl,aG.of eR6,hA6,lm,fit,by omega,hB.mono s16,λbl ls H7 s7 eb hn hl7=>?_⟩;refine⟨_,rfl,a,ns,4,rfl,(s06.trans s7).seq hS,hl,by decide,by decide,gD ns 4,2,32,rfl,by decide,by decide,λH8 s8=>⟨rfl,_,rfl,cx (λ_=>?_) (λ_=>?_)⟩⟩
   . refine⟨ci,λq1 hq1=>⟨cB,λbk hbk=>⟨fJ,λrw1 hrw=>⟨le4,λfa hfa=>⟨fJ,λO hO=>?_⟩⟩⟩⟩⟩;have z1:=Same.new (o:=.tup []) hq1;have z2:=Same.new (o:=.tup [V.str "back",V.int 0]) hbk;have z3:=Same.new (o:=.tup [V.ref bk]) hrw;have z4:=Same.new (o:=.tup [V.str "q",V.bl false,V.ref q1,V.ref rw1]) hfa;have z5:=Same.new (o:=.lst [V.ref fa]) hO;have c1:=aI.of (K:=K) (z5 _ _ (z4 _ _ (z3 _ _ (z2 _ _ (aF (H:=H8) (a:=q1) (o:=.tup []))))));have c2:=aI.of (K:=K) (z5 _ _ (z4 _ _ (z3 _ _ (aF (H:=upd H8 q1 (.tup [])) (a:=bk) (o:=.tup [V.str "back",V.int 0])))));have c3:=aI.of (K:=K) (z5 _ _ (z4 _ _ (aF (H:=upd (upd H8 q1 (.tup [])) bk (.tup [V.str "back",V.int 0])) (a:=rw1) (o:=.tup [V.ref bk]))));have c4:=aI.of (K:=K) (z5 _ _ (aF (H:=upd (upd (upd H8 q1 (.tup [])) bk (.tup [V.str "back",V.int 0])) rw1 (.tup [V.ref bk])) (a:=fa) (o:=.tup [V.str "q",V.bl false,V.ref q1,V.ref rw1])));have c5:=aG.of (K:=K) (aF (H:=upd (upd (upd (upd H8 q1 (.tup [])) bk (.tup [V.str "back",V.int 0])) rw1 (.tup [V.ref bk])) fa (.tup [V.str "q",V.bl false,V.ref q1,V.ref rw1])) (a:=O) (o:=.lst [V.ref fa]));generalize upd (upd (upd (upd (upd H8 q1 (.tup [])) bk (.tup [V.str "back",V.int 0])) rw1 (.tup [V.ref bk])) fa (.tup [V.str "q",V.bl false,V.ref q1,V.ref rw1])) O (.lst [V.ref fa])=Hg at c1 c2 c3 c4 c5 ⊢;have fnA:F2.FnAt K Hg (⟨"q",.bl false,fa,q1,rw1,[],[K41.rone "back" bk (.int 0)].map (·.w),[K41.rone "back" bk (.int 0)].map (·.d)⟩:F2.Fd):=Bg.fn_mk2 (ps:=[]) [K41.rone "back" bk (.int 0)] c4 c3 (mP (K41.ok_back c2 (K41.at_i 0))) c1 (λs h=>by cases h) (by decide) (by show 1<=100; decide) (vJ 0 0);have okq:RlOk (ay [(⟨"q",.bl false,fa,q1,rw1,[],[K41.rone "back" bk (.int 0)].map (·.w),[K41.rone "back" bk (.int 0)].map (·.d)⟩:F2.Fd)]) (cK [(⟨"q",.bl false,fa,q1,rw1,[],[K41.rone "back" bk (.int 0)].map (·.w),[K41.rone "back" bk (.int 0)].map (·.d)⟩:F2.Fd)]):=⟨by show 1<=1; decide,by show 1<=12; decide,mP ⟨by show 1<=1; decide,by show 1<=100; decide⟩,λk=>by
       cases k with
       | zero=>exact(show(0:Nat)<=24 by decide)
       | succ k=>exact Jw _⟩
     have ln:(nb 201).length<=64:=iR (by decide);have lX:(List.replicate 201 [48,48,48,49,48,48,48,48,48,48,48,48]).flatten.length=2412:=by rw[lU]; rfl
     refine⟨_,rfl,201,rfl,(by rw[cD]; omega),λH9 s9=>⟨[48,48,48,49,48,48,48,48,48,48,48,48],201,rfl,rfl,by decide,by decide,by decide,by decide,_,_,rfl,rfl,iQ _ _ (by omega),fJ,λLL hLL=>?_⟩⟩;have y1:=Same.new (o:=.lst [V.str (tx (nb 201)++tx (List.replicate 201 [48,48,48,49,48,48,48,48,48,48,48,48]).flatten)]) hLL;refine⟨O,LL,[(⟨"q",.bl false,fa,q1,rw1,[],[K41.rone "back" bk (.int 0)].map (·.w),[K41.rone "back" bk (.int 0)].map (·.d)⟩:F2.Fd)],[nb 201++(List.replicate 201 [48,48,48,49,48,48,48,48,48,48,48,48]).flatten],rfl,(s9.trans y1).seq c5,mP (fnA.mono (s9.trans y1)),(by simp),okq,aG.of (by rw[aF,dZ]; rfl),mP (by rw[JS]; omega),?_,λH' _=>q H'⟩;show(if(1:Nat)=1 then _ else _)=none;rw[Je rfl];exact qJ KA HY
   . have s78:=s7.trans s8;refine⟨_,rfl,_,rfl,pP,bl,List.map (λx:Bd=>x.f) bs,ls,rfl,aG.of (s78 _ _ eP6),hFn (s16.trans s78),hnd,ok,aG.of (s8 _ _ eb),hl7,hn,λH9 s9=>⟨_,rfl,bF rfl ?_⟩⟩;have s69:=s78.trans s9;refine⟨_,rfl,_,rfl,rA,_,rfl,.inl (aG.of (s69 _ _ eR6)),λgd hgd=>?_⟩;have y1:=Same.new (o:=.lst (bf (mss.map aj))) hgd;refine⟨pP,gd,List.map (λx:Bd=>x.f) bs,mss.map aj,rfl,aG.of (y1 _ _ (s69 _ _ eP6)),hFn ((s16.trans s69).trans y1),hnd,ok,aG.of aF,lR,λmss' hm v Ha sa dv=>?_,λhn=>by rw[hdec] at hn; cases hn⟩;rw[hdec] at hm;cases hm;exact⟨_,rfl,_,_,dv,DatV.mono ((s69.trans y1).trans sa) _ _ dT6,shT,shT,vq (Jt V.bl layT.refl) (q _)⟩
end
end K86
namespace K86
open PySem L2
structure Fv where
 (oc kV dc pm cd ct:Value)
 (od an:Option Addr)
 sl:Array (Option Value)
abbrev Fv.fn (v:Fv) (n q:Str) (s:Stmt):=W.fnOf n q (fe s) (bN s) (af s) .none v.kV v.dc v.pm v.an v.cd v.ct
def FL (K:W.Frag) (f:Addr) (v:Fv) (n q:Str) (s:Stmt):Prop:=K.lookup f=some ⟨v.oc,v.od,.func (v.fn n q s),v.sl⟩/\W.codeIn K v.cd q=true/\W.keepIn K (.ref f)=true
theorem fl_mk {K:W.Frag} {f:Addr} {n q:Str} {s:Stmt} {oc kV dc pm cd ct:Value} {od an:Option Addr} {sl:Array (Option Value)} (l:K.lookup f=some ⟨oc,od,.func (W.fnOf n q (fe s) (bN s) (af s) .none kV dc pm an cd ct),sl⟩) (c:W.codeIn K cd q=true) (k:W.keepIn K (.ref f)=true):FL K f ⟨oc,kV,dc,pm,cd,ct,od,an,sl⟩ n q s:=⟨l,c,k⟩
set_option maxHeartbeats 4000000 in
theorem txt_mk {K:W.Frag} {h:Heap} {mg:Str->Option Value} (X:K.In h) (G:h.Ns mainGlobals mg)
   {C_Flows:Addr} (aC_Flows:W.nsIn K mainGlobals "Flows"=some (some (.ref C_Flows))) (pg_Flows:W.plainGet K C_Flows Str.empty=true) (hd_Flows:W.hasDictIn K C_Flows=true) (po_Flows:W.plainOver K C_Flows=true) (sa_Flows:W.findIn K (.ref C_Flows) "__setattr__"=some (some (.builtin "object.__setattr__"))) (mk_Flows:W.makesIn K C_Flows=true) (kc_Flows:W.keepIn K (.ref C_Flows)=true)
   (nG:W.findIn K (.ref C_Flows) "last"=some none)
   (k8:W.findIn K (.ref C_Flows) "number_of"=some none)
   (lZ:W.findIn K (.ref C_Flows) "folded_of"=some none)
   (la:W.findIn K (.ref C_Flows) "params_of"=some none)
   (k9:W.findIn K (.ref C_Flows) "rows_of"=some none)
   (k7:W.findIn K (.ref C_Flows) "names_in"=some none)
   (lg:W.findIn K (.ref C_Flows) "ways_in"=some none)
   {C_bR:Addr} (aC_bR:W.nsIn K mainGlobals "BitReader"=some (some (.ref C_bR))) (pg_bR:W.plainGet K C_bR Str.empty=true) (hd_bR:W.hasDictIn K C_bR=true) (po_bR:W.plainOver K C_bR=true) (sa_bR:W.findIn K (.ref C_bR) "__setattr__"=some (some (.builtin "object.__setattr__"))) (mk_bR:W.makesIn K C_bR=true) (kc_bR:W.keepIn K (.ref C_bR)=true)
   (k6:W.findIn K (.ref C_bR) "flows"=some none)
   (j':W.findIn K (.ref C_bR) "called"=some none)
   (jz:W.findIn K (.ref C_bR) "bits"=some none)
   (il:W.findIn K (.ref C_bR) "at"=some none)
   {X_gE NN_gE:Addr} {nm_gE qq_gE:Str} {bs_gE bm_gE:List Value} {sn_gE:List Str} {sub_gE:List Value} {ab_gE:Bool} {col_gE:Option Bool} {dd_gE:Option Addr} {k0_gE k1_gE k2_gE k3_gE k5_gE:Option Value}
   (xa_gE:W.nsIn K mainGlobals "GlassError"=some (some (.ref X_gE))) (xl_gE:K.lookup X_gE=some (excClassObj nm_gE qq_gE X_gE NN_gE bs_gE bm_gE true sn_gE sub_gE ab_gE col_gE dd_gE k0_gE k1_gE k2_gE k3_gE k5_gE "ValueError.__new__")) (xv_gE:Ex.veTail bm_gE=true) (xk_gE:W.keepIn K (.ref X_gE)=true) (xs_gE:W.findIn K (.ref X_gE) "__setattr__"=some (some (.builtin "object.__setattr__"))) (xg_gE:W.findIn K (.ref X_gE) "__getattribute__"=some (some (.builtin "BaseException.__getattribute__"))) (xt_gE:W.findIn K (.ref X_gE) "__getattr__"=some none) (xc_gE:W.findIn K (.ref X_gE) "__class__"=some (some (.builtin "object.__class__")))
   {X_bB NN_bB:Addr} {nm_bB qq_bB:Str} {bs_bB bm_bB:List Value} {sn_bB:List Str} {sub_bB:List Value} {ab_bB:Bool} {col_bB:Option Bool} {dd_bB:Option Addr} {k0_bB k1_bB k2_bB k3_bB k5_bB:Option Value}
   (xa_bB:W.nsIn K mainGlobals "BadBits"=some (some (.ref X_bB))) (xl_bB:K.lookup X_bB=some (excClassObj nm_bB qq_bB X_bB NN_bB bs_bB bm_bB true sn_bB sub_bB ab_bB col_bB dd_bB k0_bB k1_bB k2_bB k3_bB k5_bB "ValueError.__new__")) (xv_bB:Ex.veTail bm_bB=true) (xk_bB:W.keepIn K (.ref X_bB)=true) (xs_bB:W.findIn K (.ref X_bB) "__setattr__"=some (some (.builtin "object.__setattr__"))) (xg_bB:W.findIn K (.ref X_bB) "__getattribute__"=some (some (.builtin "BaseException.__getattribute__"))) (xt_bB:W.findIn K (.ref X_bB) "__getattr__"=some none) (xc_bB:W.findIn K (.ref X_bB) "__class__"=some (some (.builtin "object.__class__")))
   (sg0:W.specialIn K (.builtin "object.__class__") "__get__"=some (some (.builtin "getset_descriptor.__get__"))) (tkX0:W.takesIn K (.builtin "object.__class__")=some true)
   {X_bW:Addr} (xa_bW:W.nsIn K mainGlobals "BadRow"=some (some (.ref X_bW)))
   {X_nN:Addr} (xa_nN:W.nsIn K mainGlobals "NoName"=some (some (.ref X_nN)))
   {X_uT:Addr} (xa_uT:W.nsIn K mainGlobals "Untrue"=some (some (.ref X_uT)))
   (i0_bB:W.findIn K (.ref X_bB) "__init__"=some (some (.builtin "ValueError.__init__")))
   (e_bB:W.mroIn K X_bB (.ref X_gE)=some true)
   (kk_BadBits_bB:W.kitOne K (.ref X_bB) (.ref X_bB)=some true)
   (kv_bB:W.kitOne K (.ref X_bB) (.type "ValueError")=some true)
   (ky_bB:W.kitAny K (.ref X_bB) [.ref X_bW,.ref X_nN,.ref X_uT]=some false)
   {f0:Addr} {y0:Fv} (a0:W.nsIn K mainGlobals "names_of"=some (some (.ref f0))) (l0:FL K f0 y0 "names_of" "names_of" pK)
   {f1:Addr} {y1:Fv} (a1:W.nsIn K mainGlobals "reads"=some (some (.ref f1))) (l1:FL K f1 y1 "reads" "reads" na)
   {f2:Addr} {y2:Fv} (a2:W.nsIn K mainGlobals "gives"=some (some (.ref f2))) (l2:FL K f2 y2 "gives" "gives" px)
   {f3:Addr} {y3:Fv} (a3:W.nsIn K mainGlobals "atoms_of"=some (some (.ref f3))) (l3:FL K f3 y3 "atoms_of" "atoms_of" oQ)
   {f4:Addr} {y4:Fv} (a4:W.nsIn K mainGlobals "each_once"=some (some (.ref f4))) (l4:FL K f4 y4 "each_once" "each_once" oM)
   {f5:Addr} {y5:Fv} (a5:W.nsIn K mainGlobals "ways"=some (some (.ref f5))) (l5:FL K f5 y5 "ways" "ways" ka)
   {f6:Addr} {y6:Fv} (a6:W.nsIn K mainGlobals "begins_of"=some (some (.ref f6))) (l6:FL K f6 y6 "begins_of" "begins_of" pN)
   {f7:Addr} {y7:Fv} (a7:W.nsIn K mainGlobals "firsts_behind"=some (some (.ref f7))) (l7:FL K f7 y7 "firsts_behind" "firsts_behind" kj)
   {f8:Addr} {y8:Fv} (a8:W.findIn K (.ref C_Flows) "__init__"=some (some (.ref f8))) (i8:W.isFn K (.ref f8)=true) (l8:FL K f8 y8 "__init__" "Flows.__init__" mw)
   {f9:Addr} {y9:Fv} (a9:W.nsIn K mainGlobals "is_leaf"=some (some (.ref f9))) (l9:FL K f9 y9 "is_leaf" "is_leaf" oO)
   {f10:Addr} {y10:Fv} (a10:W.nsIn K mainGlobals "leaves"=some (some (.ref f10))) (l10:FL K f10 y10 "leaves" "leaves" qA)
   {f11:Addr} {y11:Fv} (a11:W.nsIn K mainGlobals "views_ahead"=some (some (.ref f11))) (l11:FL K f11 y11 "views_ahead" "views_ahead" qE)
   {f12:Addr} {y12:Fv} (a12:W.nsIn K mainGlobals "unpack"=some (some (.ref f12))) (l12:FL K f12 y12 "unpack" "unpack" nH)
   {f13:Addr} {y13:Fv} (a13:W.findIn K (.ref C_bR) "__init__"=some (some (.ref f13))) (i13:W.isFn K (.ref f13)=true) (l13:FL K f13 y13 "__init__" "BitReader.__init__" nQ)
   {f14:Addr} {y14:Fv} (a14:W.findIn K (.ref C_bR) "take"=some (some (.ref f14))) (i14:W.isFn K (.ref f14)=true) (l14:FL K f14 y14 "take" "BitReader.take" og)
   {f15:Addr} {y15:Fv} (a15:W.findIn K (.ref C_bR) "number"=some (some (.ref f15))) (i15:W.isFn K (.ref f15)=true) (l15:FL K f15 y15 "number" "BitReader.number" pz)
   {f16:Addr} {y16:Fv} (a16:W.findIn K (.ref C_bR) "any_number"=some (some (.ref f16))) (i16:W.isFn K (.ref f16)=true) (l16:FL K f16 y16 "any_number" "BitReader.any_number" nj)
   {f17:Addr} {y17:Fv} (a17:W.findIn K (.ref C_bR) "all_marks"=some (some (.ref f17))) (i17:W.isFn K (.ref f17)=true) (l17:FL K f17 y17 "all_marks" "BitReader.all_marks" oj)
   {f18:Addr} {y18:Fv} (a18:W.findIn K (.ref C_bR) "mark"=some (some (.ref f18))) (i18:W.isFn K (.ref f18)=true) (l18:FL K f18 y18 "mark" "BitReader.mark" nI)
   {f19:Addr} {y19:Fv} (a19:W.findIn K (.ref C_bR) "frame"=some (some (.ref f19))) (i19:W.isFn K (.ref f19)=true) (l19:FL K f19 y19 "frame" "BitReader.frame" oW)
   {f20:Addr} {y20:Fv} (a20:W.findIn K (.ref C_bR) "view"=some (some (.ref f20))) (i20:W.isFn K (.ref f20)=true) (l20:FL K f20 y20 "view" "BitReader.view" oY)
   {f21:Addr} {y21:Fv} (a21:W.findIn K (.ref C_bR) "place_beside"=some (some (.ref f21))) (i21:W.isFn K (.ref f21)=true) (l21:FL K f21 y21 "place_beside" "BitReader.place_beside" nU)
   {f22:Addr} {y22:Fv} (a22:W.findIn K (.ref C_bR) "reckoning"=some (some (.ref f22))) (i22:W.isFn K (.ref f22)=true) (l22:FL K f22 y22 "reckoning" "BitReader.reckoning" nh)
   {f23:Addr} {y23:Fv} (a23:W.nsIn K mainGlobals "_law_cell"=some (some (.ref f23))) (l23:FL K f23 y23 "_law_cell" "_law_cell" nR)
   {f24:Addr} {y24:Fv} (a24:W.nsIn K mainGlobals "_law_part"=some (some (.ref f24))) (l24:FL K f24 y24 "_law_part" "_law_part" p9)
   {f25:Addr} {y25:Fv} (a25:W.nsIn K mainGlobals "_law_name"=some (some (.ref f25))) (l25:FL K f25 y25 "_law_name" "_law_name" qM)
   {f26:Addr} {y26:Fv} (a26:W.nsIn K mainGlobals "_law_function"=some (some (.ref f26))) (l26:FL K f26 y26 "_law_function" "_law_function" kT)
   {f27:Addr} {y27:Fv} (a27:W.nsIn K mainGlobals "_law_tree"=some (some (.ref f27))) (l27:FL K f27 y27 "_law_tree" "_law_tree" ou)
   {f28:Addr} {y28:Fv} (a28:W.nsIn K mainGlobals "_law_place"=some (some (.ref f28))) (l28:FL K f28 y28 "_law_place" "_law_place" oZ)
   {f29:Addr} {y29:Fv} (a29:W.nsIn K mainGlobals "_law_mark"=some (some (.ref f29))) (l29:FL K f29 y29 "_law_mark" "_law_mark" jq)
   {f30:Addr} {y30:Fv} (a30:W.nsIn K mainGlobals "_law_number"=some (some (.ref f30))) (l30:FL K f30 y30 "_law_number" "_law_number" oE)
   {f31:Addr} {y31:Fv} (a31:W.nsIn K mainGlobals "_law_bits"=some (some (.ref f31))) (l31:FL K f31 y31 "_law_bits" "_law_bits" pV)
   {f32:Addr} {y32:Fv} (a32:W.nsIn K mainGlobals "_law_written"=some (some (.ref f32))) (l32:FL K f32 y32 "_law_written" "_law_written" nV)
   {f33:Addr} {y33:Fv} (a33:W.nsIn K mainGlobals "_law_pieces"=some (some (.ref f33))) (l33:FL K f33 y33 "_law_pieces" "_law_pieces" jP)
   {f34:Addr} {y34:Fv} (a34:W.nsIn K mainGlobals "_law_needless"=some (some (.ref f34))) (l34:FL K f34 y34 "_law_needless" "_law_needless" pM)
   {f35:Addr} {y35:Fv} (a35:W.nsIn K mainGlobals "_law_spoilt"=some (some (.ref f35))) (l35:FL K f35 y35 "_law_spoilt" "_law_spoilt" j6)
   {f36:Addr} {y36:Fv} (a36:W.nsIn K mainGlobals "_law_bad_row"=some (some (.ref f36))) (l36:FL K f36 y36 "_law_bad_row" "_law_bad_row" iy)
   {f37:Addr} {y37:Fv} (a37:W.nsIn K mainGlobals "_law_bad_rows"=some (some (.ref f37))) (l37:FL K f37 y37 "_law_bad_rows" "_law_bad_rows" nK)
   {f38:Addr} {y38:Fv} (a38:W.nsIn K mainGlobals "_law_refused"=some (some (.ref f38))) (l38:FL K f38 y38 "_law_refused" "_law_refused" pH)
   {f39:Addr} {y39:Fv} (a39:W.nsIn K mainGlobals "_law_all_marks"=some (some (.ref f39))) (l39:FL K f39 y39 "_law_all_marks" "_law_all_marks" mL)
   {f40:Addr} {y40:Fv} (a40:W.nsIn K mainGlobals "_law_table"=some (some (.ref f40))) (l40:FL K f40 y40 "_law_table" "_law_table" mX)
   {f41:Addr} {y41:Fv} (a41:W.nsIn K mainGlobals "law"=some (some (.ref f41))) (l41:FL K f41 y41 "law" "law" iD)
   {tk0:Tok} (w0:W.nsIn K mainGlobals "SIGN_BITS"=some (some (.int 4 tk0)))
   {tk1:Tok} (w1:W.nsIn K mainGlobals "MOST_LEAVES"=some (some (.int 8 tk1)))
   {tk2:Tok} (w2:W.nsIn K mainGlobals "MOST_STATIONS"=some (some (.int 200 tk2)))
   {tk3:Tok} (w3:W.nsIn K mainGlobals "MOST_FRAMES"=some (some (.int 3 tk3)))
   {tk4:Tok} (w4:W.nsIn K mainGlobals "MOST_GROUPS"=some (some (.int 16 tk4)))
   {tk5:Tok} (w5:W.nsIn K mainGlobals "MOST_BOX"=some (some (.int 127 tk5)))
   {aT0:Addr} {odT0:Option Addr} {itT0:Array Value} {nT0:Nat} {slT0:Array (Option Value)} (q0:W.nsIn K mainGlobals "GIVING_KINDS"=some (some (.ref aT0))) (m0:K.lookup aT0=some ⟨.type "tuple",odT0,.seq itT0 nT0,slT0⟩) (v0:aT (K12.giving.map V.str) itT0.toList) (s0:itT0.size<=sizeLine)
   {aT1:Addr} {itT1:Array Value} {nT1:Nat} {slT1:Array (Option Value)} (q1:W.nsIn K mainGlobals "SIGNS"=some (some (.ref aT1))) (m1:K.lookup aT1=some ⟨.type "tuple",none,.seq itT1 nT1,slT1⟩) (v1:aT Bt.sgTup itT1.toList) (s1:itT1.size<=sizeLine)
   {aD0:Addr} (qD0:W.nsIn K mainGlobals "ATOM_PLACES"=some (some (.ref aD0))) (mD0:PyProof.Rows.KTD.tabLook (ow K) (λa=>K.lookup a) aD0 K12.tabl=true)
   (z_ValueError:W.nsIn K mainGlobals "ValueError"=some none)
   (z_len:W.nsIn K mainGlobals "len"=some none)
   (z_list:W.nsIn K mainGlobals "list"=some none)
   (z_tuple:W.nsIn K mainGlobals "tuple"=some none)
   (z_isinstance:W.nsIn K mainGlobals "isinstance"=some none)
   (z_range:W.nsIn K mainGlobals "range"=some none)
   (z_all:W.nsIn K mainGlobals "all"=some none)
   (z_enumerate:W.nsIn K mainGlobals "enumerate"=some none)
   (z_dict:W.nsIn K mainGlobals "dict"=some none)
   (z_str:W.nsIn K mainGlobals "str"=some none)
   (z_zip:W.nsIn K mainGlobals "zip"=some none)
   (z_int:W.nsIn K mainGlobals "int"=some none)
   (z_bool:W.nsIn K mainGlobals "bool"=some none)
   (z_divmod:W.nsIn K mainGlobals "divmod"=some none)
   : ∃t,Txt K mg t:=by
 refine⟨⟨X_gE,X_bB,X_bW,X_nN,X_uT,C_Flows,C_bR,f0,y0.fn "names_of" "names_of" pK,f1,y1.fn "reads" "reads" na,f2,y2.fn "gives" "gives" px,f3,y3.fn "atoms_of" "atoms_of" oQ,f4,y4.fn "each_once" "each_once" oM,f5,y5.fn "ways" "ways" ka,f6,y6.fn "begins_of" "begins_of" pN,f7,y7.fn "firsts_behind" "firsts_behind" kj,f8,y8.fn "__init__" "Flows.__init__" mw,f9,y9.fn "is_leaf" "is_leaf" oO,f10,y10.fn "leaves" "leaves" qA,f11,y11.fn "views_ahead" "views_ahead" qE,f12,y12.fn "unpack" "unpack" nH,f13,y13.fn "__init__" "BitReader.__init__" nQ,f14,y14.fn "take" "BitReader.take" og,f15,y15.fn "number" "BitReader.number" pz,f16,y16.fn "any_number" "BitReader.any_number" nj,f17,y17.fn "all_marks" "BitReader.all_marks" oj,f18,y18.fn "mark" "BitReader.mark" nI,f19,y19.fn "frame" "BitReader.frame" oW,f20,y20.fn "view" "BitReader.view" oY,f21,y21.fn "place_beside" "BitReader.place_beside" nU,f22,y22.fn "reckoning" "BitReader.reckoning" nh,f23,y23.fn "_law_cell" "_law_cell" nR,f24,y24.fn "_law_part" "_law_part" p9,f25,y25.fn "_law_name" "_law_name" qM,f26,y26.fn "_law_function" "_law_function" kT,f27,y27.fn "_law_tree" "_law_tree" ou,f28,y28.fn "_law_place" "_law_place" oZ,f29,y29.fn "_law_mark" "_law_mark" jq,f30,y30.fn "_law_number" "_law_number" oE,f31,y31.fn "_law_bits" "_law_bits" pV,f32,y32.fn "_law_written" "_law_written" nV,f33,y33.fn "_law_pieces" "_law_pieces" jP,f34,y34.fn "_law_needless" "_law_needless" pM,f35,y35.fn "_law_spoilt" "_law_spoilt" j6,f36,y36.fn "_law_bad_row" "_law_bad_row" iy,f37,y37.fn "_law_bad_rows" "_law_bad_rows" nK,f38,y38.fn "_law_refused" "_law_refused" pH,f39,y39.fn "_law_all_marks" "_law_all_marks" mL,f40,y40.fn "_law_table" "_law_table" mX,f41,y41.fn "law" "law" iD,aT0,aT1,aD0⟩,?_⟩;have bl:∀(s:Shared) (u:Value),BindsTo s (y41.fn "law" "law" iD) ⟨[u],[]⟩ [("_law_script",u)]:=λs u=>.of_eq rfl;exact⟨(xy X G xa_gE xl_gE xv_gE xk_gE xs_gE xg_gE xt_gE xc_gE sg0 tkX0),
   (xy X G xa_bB xl_bB xv_bB xk_bB xs_bB xg_bB xt_bB xc_bB sg0 tkX0),
   (W.mg_of X G xa_bW),
   (W.mg_of X G xa_nN),
   (W.mg_of X G xa_uT),
   (i0_bB),
   (e_bB),
   (kk_BadBits_bB),
   (kv_bB),
   (ky_bB),
   (cL X G a0 l0.1 l0.2.1 l0.2.2 λ_ _ _ _ _ _ us hl=>match us,hl with | [_],_=>rfl),
   (cL X G a1 l1.1 l1.2.1 l1.2.2 λ_ _ _ _ _ _ us hl=>match us,hl with | [_],_=>rfl),
   (cL X G a2 l2.1 l2.2.1 l2.2.2 λ_ _ _ _ _ _ us hl=>match us,hl with | [_],_=>rfl),
   (cL X G a3 l3.1 l3.2.1 l3.2.2 λ_ _ _ _ _ _ us hl=>match us,hl with | [_],_=>rfl),
   (cL X G a4 l4.1 l4.2.1 l4.2.2 λ_ _ _ _ _ _ us hl=>match us,hl with | [_],_=>rfl),
   (cL X G a5 l5.1 l5.2.1 l5.2.2 λ_ _ _ _ _ _ us hl=>match us,hl with | [_],_=>rfl),
   (cL X G a6 l6.1 l6.2.1 l6.2.2 λ_ _ _ _ _ _ us hl=>match us,hl with | [_],_=>rfl),
   (cL X G a7 l7.1 l7.2.1 l7.2.2 λ_ _ _ _ _ _ us hl=>match us,hl with | [_,_],_=>rfl),
   (vL mk_Flows kc_Flows a8 i8 l8.1 l8.2.1 l8.2.2 λ_ _ _ _ _ _ us hl=>match us,hl with | [_,_],_=>rfl),
   (cL X G a9 l9.1 l9.2.1 l9.2.2 λ_ _ _ _ _ _ us hl=>match us,hl with | [_],_=>rfl),
   (cL X G a10 l10.1 l10.2.1 l10.2.2 λ_ _ _ _ _ _ us hl=>match us,hl with | [_],_=>rfl),
   (cL X G a11 l11.1 l11.2.1 l11.2.2 λ_ _ _ _ _ _ us hl=>match us,hl with | [_,_],_=>rfl),
   (cL X G a12 l12.1 l12.2.1 l12.2.2 λ_ _ _ _ _ _ us hl=>match us,hl with | [_,_],_=>rfl),
   (vL mk_bR kc_bR a13 i13 l13.1 l13.2.1 l13.2.2 λ_ _ _ _ _ _ us hl=>match us,hl with | [_,_,_],_=>rfl),
   (iS a14 i14 l14.1 l14.2.1 l14.2.2 λ_ _ _ _ _ _ us hl=>match us,hl with | [_,_],_=>rfl),
   (iS a15 i15 l15.1 l15.2.1 l15.2.2 λ_ _ _ _ _ _ us hl=>match us,hl with | [_,_,_],_=>rfl),
   (iS a16 i16 l16.1 l16.2.1 l16.2.2 λ_ _ _ _ _ _ us hl=>match us,hl with | [_],_=>rfl),
   (iS a17 i17 l17.1 l17.2.1 l17.2.2 λ_ _ _ _ _ _ us hl=>match us,hl with | [_],_=>rfl),
   (iS a18 i18 l18.1 l18.2.1 l18.2.2 λ_ _ _ _ _ _ us hl=>match us,hl with | [_,_],_=>rfl),
   (iS a19 i19 l19.1 l19.2.1 l19.2.2 λ_ _ _ _ _ _ us hl=>match us,hl with | [_],_=>rfl),
   (iS a20 i20 l20.1 l20.2.1 l20.2.2 λ_ _ _ _ _ _ us hl=>match us,hl with | [_,_,_],_=>rfl),
   (iS a21 i21 l21.1 l21.2.1 l21.2.2 λ_ _ _ _ _ _ us hl=>match us,hl with | [_,_],_=>rfl),
   (iS a22 i22 l22.1 l22.2.1 l22.2.2 λ_ _ _ _ _ _ us hl=>match us,hl with | [_,_],_=>rfl),
   (cL X G a23 l23.1 l23.2.1 l23.2.2 λ_ _ _ _ _ _ us hl=>match us,hl with | [_,_],_=>rfl),
   (cL X G a24 l24.1 l24.2.1 l24.2.2 λ_ _ _ _ _ _ us hl=>match us,hl with | [_,_,_],_=>rfl),
   (cL X G a25 l25.1 l25.2.1 l25.2.2 λ_ _ _ _ _ _ us hl=>match us,hl with | [_,_],_=>rfl),
   (cL X G a26 l26.1 l26.2.1 l26.2.2 λ_ _ _ _ _ _ us hl=>match us,hl with | [_,_,_],_=>rfl),
   (cL X G a27 l27.1 l27.2.1 l27.2.2 λ_ _ _ _ _ _ us hl=>match us,hl with | [_,_],_=>rfl),
   (cL X G a28 l28.1 l28.2.1 l28.2.2 λ_ _ _ _ _ _ us hl=>match us,hl with | [_],_=>rfl),
   (cL X G a29 l29.1 l29.2.1 l29.2.2 λ_ _ _ _ _ _ us hl=>match us,hl with | [_,_,_],_=>rfl),
   (cL X G a30 l30.1 l30.2.1 l30.2.2 λ_ _ _ _ _ _ us hl=>match us,hl with | [_],_=>rfl),
   (cL X G a31 l31.1 l31.2.1 l31.2.2 λ_ _ _ _ _ _ us hl=>match us,hl with | [_],_=>rfl),
   (cL X G a32 l32.1 l32.2.1 l32.2.2 λ_ _ _ _ _ _ us hl=>match us,hl with | [_],_=>rfl),
   (cL X G a33 l33.1 l33.2.1 l33.2.2 λ_ _ _ _ _ _ us hl=>match us,hl with | [_],_=>rfl),
   (cL X G a34 l34.1 l34.2.1 l34.2.2 λ_ _ _ _ _ _ us hl=>match us,hl with | [_,_],_=>rfl),
   (cL X G a35 l35.1 l35.2.1 l35.2.2 λ_ _ _ _ _ _ us hl=>match us,hl with | [_,_,_,_],_=>rfl),
   (cL X G a36 l36.1 l36.2.1 l36.2.2 λ_ _ _ _ _ _ us hl=>match us,hl with | [_,_,_,_],_=>rfl),
   (cL X G a37 l37.1 l37.2.1 l37.2.2 λ_ _ _ _ _ _ us hl=>match us,hl with | [_,_,_,_,_,_],_=>rfl),
   (cL X G a38 l38.1 l38.2.1 l38.2.2 λ_ _ _ _ _ _ us hl=>match us,hl with | [_,_],_=>rfl),
   (cL X G a39 l39.1 l39.2.1 l39.2.2 λ_ _ _ _ _ _ us hl=>match us,hl with | [_,_],_=>rfl),
   (cL X G a40 l40.1 l40.2.1 l40.2.2 λ_ _ _ _ _ _ us hl=>match us,hl with | [_,_],_=>rfl),
   (cL X G a41 l41.1 l41.2.1 l41.2.2 λ_ _ _ _ _ _ us hl=>match us,hl with | [_],_=>rfl),
   ⟨⟨pg_Flows,hd_Flows,po_Flows,sa_Flows⟩,W.mg_of X G aC_Flows⟩,
   ⟨⟨pg_bR,hd_bR,po_bR,sa_bR⟩,W.mg_of X G aC_bR⟩,
   nG,
   k8,
   lZ,
   la,
   k9,
   k7,
   lg,
   k6,
   j',
   jz,
   il,
   ⟨_,W.mg_of X G w0⟩,
   ⟨_,W.mg_of X G w1⟩,
   ⟨_,W.mg_of X G w2⟩,
   ⟨_,W.mg_of X G w3⟩,
   ⟨_,W.mg_of X G w4⟩,
   ⟨_,W.mg_of X G w5⟩,
   W.mg_of X G q0,
   (λH=>.inr ⟨_,itT0,nT0,m0,rfl,rfl,s0,v0⟩),
   W.mg_of X G q1,
   (λH=>.inr ⟨_,itT1,nT1,m1,rfl,rfl,s1,v1⟩),
   ⟨_,m1,rfl,rfl⟩,
   W.mg_of X G qD0,
   FG mD0,
   W.mg_none_of X G z_ValueError,
   W.mg_none_of X G z_len,
   W.mg_none_of X G z_list,
   W.mg_none_of X G z_tuple,
   W.mg_none_of X G z_isinstance,
   W.mg_none_of X G z_range,
   W.mg_none_of X G z_all,
   W.mg_none_of X G z_enumerate,
   W.mg_none_of X G z_dict,
   W.mg_none_of X G z_str,
   W.mg_none_of X G z_zip,
   W.mg_none_of X G z_int,
   W.mg_none_of X G z_bool,
   W.mg_none_of X G z_divmod,
   bl⟩
end K86
open PySem PySem.W PyProof.Rows
set_option maxRecDepth 100000 in
set_option maxHeartbeats 0 in
theorem PySem.Challenge.cw_stopglass_k86_bits_refused_holds : PySem.Challenge.rw_stopglass_k86_bits_refused.Holds := by
 refine Hd.pk.2 ?_
 unfold Hd.pk
 dsimp only
 k_fill
 refine L2.walk_ofK (l:=PySem.Challenge.rw_stopglass_k86_bits_refused) (n:=63) (k:=36) (x:="_law_script") (CX:=L2.CX0) (sp:=K86.sp_law) rfl (by decide) rfl ⟨rfl,by decide,by decide⟩ (λw h Y=>PySem.W.kIn_of Y) ?F ?S ?C
 case F =>
   intro w mg fa h KX G hmg;have T:∃t,K86.Txt (L2.KOf KX) mg t:=by
     dsimp only[L2.KOf]
     refine' K86.txt_mk KX G ?aC_Flows ?pg_Flows ?hd_Flows ?po_Flows ?sa_Flows ?mk_Flows ?kc_Flows ?nG ?k8 ?lZ ?la ?k9 ?k7 ?lg ?aC_bR ?pg_bR ?hd_bR ?po_bR ?sa_bR ?mk_bR ?kc_bR ?k6 ?j' ?jz ?il ?xa_gE ?xl_gE ?xv_gE ?xk_gE ?xs_gE ?xg_gE ?xt_gE ?xc_gE ?xa_bB ?xl_bB ?xv_bB ?xk_bB ?xs_bB ?xg_bB ?xt_bB ?xc_bB ?sg0 ?tkX0 ?xa_bW ?xa_nN ?xa_uT ?i0_bB ?e_bB ?kk_BadBits_bB ?kv_bB ?ky_bB ?a0 ?l0 ?a1 ?l1 ?a2 ?l2 ?a3 ?l3 ?a4 ?l4 ?a5 ?l5 ?a6 ?l6 ?a7 ?l7 ?a8 ?i8 ?l8 ?a9 ?l9 ?a10 ?l10 ?a11 ?l11 ?a12 ?l12 ?a13 ?i13 ?l13 ?a14 ?i14 ?l14 ?a15 ?i15 ?l15 ?a16 ?i16 ?l16 ?a17 ?i17 ?l17 ?a18 ?i18 ?l18 ?a19 ?i19 ?l19 ?a20 ?i20 ?l20 ?a21 ?i21 ?l21 ?a22 ?i22 ?l22 ?a23 ?l23 ?a24 ?l24 ?a25 ?l25 ?a26 ?l26 ?a27 ?l27 ?a28 ?l28 ?a29 ?l29 ?a30 ?l30 ?a31 ?l31 ?a32 ?l32 ?a33 ?l33 ?a34 ?l34 ?a35 ?l35 ?a36 ?l36 ?a37 ?l37 ?a38 ?l38 ?a39 ?l39 ?a40 ?l40 ?a41 ?l41 ?w0 ?w1 ?w2 ?w3 ?w4 ?w5 ?q0 ?m0 ?v0 ?s0 ?q1 ?m1 ?v1 ?s1 ?qD0 ?mD0 ?z_ValueError ?z_len ?z_list ?z_tuple ?z_isinstance ?z_range ?z_all ?z_enumerate ?z_dict ?z_str ?z_zip ?z_int ?z_bool ?z_divmod
     (case aC_Flows=>k_is)
     (case pg_Flows=>k_is)
     (case hd_Flows=>k_is)
     (case po_Flows=>k_is)
     (case sa_Flows=>k_is)
     (case mk_Flows=>k_is)
     (case kc_Flows=>k_is)
     (case nG=>k_is)
     (case k8=>k_is)
     (case lZ=>k_is)
     (case la=>k_is)
     (case k9=>k_is)
     (case k7=>k_is)
     (case lg=>k_is)
     (case aC_bR=>k_is)
     (case pg_bR=>k_is)
     (case hd_bR=>k_is)
     (case po_bR=>k_is)
     (case sa_bR=>k_is)
     (case mk_bR=>k_is)
     (case kc_bR=>k_is)
     (case k6=>k_is)
     (case j'=>k_is)
     (case jz=>k_is)
     (case il=>k_is)
     (case xa_gE=>k_is)
     (case xl_gE=>k_is)
     (case xv_gE=>first|k_is|kernel_rfl)
     (case xk_gE=>k_is)
     (case xs_gE=>k_is)
     (case xg_gE=>k_is)
     (case xt_gE=>k_is)
     (case xc_gE=>k_is)
     (case xa_bB=>k_is)
     (case xl_bB=>k_is)
     (case xv_bB=>first|k_is|kernel_rfl)
     (case xk_bB=>k_is)
     (case xs_bB=>k_is)
     (case xg_bB=>k_is)
     (case xt_bB=>k_is)
     (case xc_bB=>k_is)
     (case sg0=>first|k_is|kernel_rfl)
     (case tkX0=>first|k_is|kernel_rfl)
     (case xa_bW=>k_is)
     (case xa_nN=>k_is)
     (case xa_uT=>k_is)
     (case i0_bB=>first|k_is|kernel_rfl)
     (case e_bB=>first|k_is|kernel_rfl)
     (case kk_BadBits_bB=>first|k_is|kernel_rfl)
     (case kv_bB=>first|k_is|kernel_rfl)
     (case ky_bB=>first|k_is|kernel_rfl)
     (case a0=>k_is)
     (case l0=>apply K86.fl_mk <;> k_is)
     (case a1=>k_is)
     (case l1=>apply K86.fl_mk <;> k_is)
     (case a2=>k_is)
     (case l2=>apply K86.fl_mk <;> k_is)
     (case a3=>k_is)
     (case l3=>apply K86.fl_mk <;> k_is)
     (case a4=>k_is)
     (case l4=>apply K86.fl_mk <;> k_is)
     (case a5=>k_is)
     (case l5=>apply K86.fl_mk <;> k_is)
     (case a6=>k_is)
     (case l6=>apply K86.fl_mk <;> k_is)
     (case a7=>k_is)
     (case l7=>apply K86.fl_mk <;> k_is)
     (case a8=>k_is)
     (case i8=>k_is)
     (case l8=>apply K86.fl_mk <;> k_is)
     (case a9=>k_is)
     (case l9=>apply K86.fl_mk <;> k_is)
     (case a10=>k_is)
     (case l10=>apply K86.fl_mk <;> k_is)
     (case a11=>k_is)
     (case l11=>apply K86.fl_mk <;> k_is)
     (case a12=>k_is)
     (case l12=>apply K86.fl_mk <;> k_is)
     (case a13=>k_is)
     (case i13=>k_is)
     (case l13=>apply K86.fl_mk <;> k_is)
     (case a14=>k_is)
     (case i14=>k_is)
     (case l14=>apply K86.fl_mk <;> k_is)
     (case a15=>k_is)
     (case i15=>k_is)
     (case l15=>apply K86.fl_mk <;> k_is)
     (case a16=>k_is)
     (case i16=>k_is)
     (case l16=>apply K86.fl_mk <;> k_is)
     (case a17=>k_is)
     (case i17=>k_is)
     (case l17=>apply K86.fl_mk <;> k_is)
     (case a18=>k_is)
     (case i18=>k_is)
     (case l18=>apply K86.fl_mk <;> k_is)
     (case a19=>k_is)
     (case i19=>k_is)
     (case l19=>apply K86.fl_mk <;> k_is)
     (case a20=>k_is)
     (case i20=>k_is)
     (case l20=>apply K86.fl_mk <;> k_is)
     (case a21=>k_is)
     (case i21=>k_is)
     (case l21=>apply K86.fl_mk <;> k_is)
     (case a22=>k_is)
     (case i22=>k_is)
     (case l22=>apply K86.fl_mk <;> k_is)
     (case a23=>k_is)
     (case l23=>apply K86.fl_mk <;> k_is)
     (case a24=>k_is)
     (case l24=>apply K86.fl_mk <;> k_is)
     (case a25=>k_is)
     (case l25=>apply K86.fl_mk <;> k_is)
     (case a26=>k_is)
     (case l26=>apply K86.fl_mk <;> k_is)
     (case a27=>k_is)
     (case l27=>apply K86.fl_mk <;> k_is)
     (case a28=>k_is)
     (case l28=>apply K86.fl_mk <;> k_is)
     (case a29=>k_is)
     (case l29=>apply K86.fl_mk <;> k_is)
     (case a30=>k_is)
     (case l30=>apply K86.fl_mk <;> k_is)
     (case a31=>k_is)
     (case l31=>apply K86.fl_mk <;> k_is)
     (case a32=>k_is)
     (case l32=>apply K86.fl_mk <;> k_is)
     (case a33=>k_is)
     (case l33=>apply K86.fl_mk <;> k_is)
     (case a34=>k_is)
     (case l34=>apply K86.fl_mk <;> k_is)
     (case a35=>k_is)
     (case l35=>apply K86.fl_mk <;> k_is)
     (case a36=>k_is)
     (case l36=>apply K86.fl_mk <;> k_is)
     (case a37=>k_is)
     (case l37=>apply K86.fl_mk <;> k_is)
     (case a38=>k_is)
     (case l38=>apply K86.fl_mk <;> k_is)
     (case a39=>k_is)
     (case l39=>apply K86.fl_mk <;> k_is)
     (case a40=>k_is)
     (case l40=>apply K86.fl_mk <;> k_is)
     (case a41=>k_is)
     (case l41=>apply K86.fl_mk <;> k_is)
     (case w0=>k_is)
     (case w1=>k_is)
     (case w2=>k_is)
     (case w3=>k_is)
     (case w4=>k_is)
     (case w5=>k_is)
     (case q0=>k_is)
     (case m0=>k_is)
     (case v0=>(repeat (first|exact .nil|refine .cons ⟨_,rfl⟩ ?_)))
     (case s0=>decide)
     (case q1=>k_is)
     (case m1=>k_is)
     (case v1=>(repeat (first|exact .nil|refine .cons ⟨_,rfl⟩ ?_)))
     (case s1=>decide)
     (case qD0=>k_is)
     (case mD0=>kernel_rfl)
     (case z_ValueError=>k_is)
     (case z_len=>k_is)
     (case z_list=>k_is)
     (case z_tuple=>k_is)
     (case z_isinstance=>k_is)
     (case z_range=>k_is)
     (case z_all=>k_is)
     (case z_enumerate=>k_is)
     (case z_dict=>k_is)
     (case z_str=>k_is)
     (case z_zip=>k_is)
     (case z_int=>k_is)
     (case z_bool=>k_is)
     (case z_divmod=>k_is)
   obtain⟨t,T⟩:=T;have e0:=hmg.symm.trans T.law.g;cases e0;exact⟨t.qR,T.bl,λbase kb nb=>K86.ok_law T⟩
 case S=>exact λK H a ns hl hO hS=>⟨a,ns,rfl,hS,hl,λ_=>rfl⟩
 case C=>exact λ_ _ _ _ z=>z
