import PyProof.Rows.All
import Wide.All
import OpenK.AllK
import Wide.FinOn
import Lean
import PyProof.EqAt
import PyProof.EqKinds
import PyProof.TupleCall
import KE.KDictLaws
import KE.KDictOf
import KE.KEqDict
import KE.BitLaws
import PyProof.ZipIter
import PyProof.Rows.ZipGen
import PyProof.Rows.StrSplitAre
import PyProof.ExcInit
import PyProof.ExcBaseAll.ValueError
import PyProof.PassesOwn
import PyProof.StationsW
import PyProof.InstStoreFacts
import PyProof.ExcAttrAll.ValueError
import PyProof.NsDelKeeps
import KE.KListMore
import PyProof.P3Eq
import PyProof.Rows.TupDisplay
import PyProof.StrLawsReplace
import PyProof.StrCalls6
import PyProof.Rows.StrStrike
import KE.IntTextText
import KE.KIntText
import PySem.Challenge.RW_stopglass_k44_records_and_sends_held
set_option Elab.async false
set_option linter.all false
set_option maxRecDepth 100000
section
namespace Hd
open PySem PySem.W PyProof.Rows
lay_quick PySem.W.topFrom
noncomputable abbrev TQ := PySem.W.Fast.tw370005188180407882 PySem.W.Fast.tw14364793385576792824
noncomputable abbrev OQ := PySem.W.Fast.tw4187177175401517315
noncomputable abbrev tp : Program := PySem.Challenge.pw_stopglass_k44_records_and_sends_held
abbrev lo : List Str := [PySem.Str.ofString "ATOM_PLACES", PySem.Str.ofString "FILLED_PLACES"]
def keeps : PySem.Stmt → Bool
 | .Assign [.Name x _] _ _ => !decide (x = "__name__")
 | _ => true
def viewOf (p : Program) : Program := { p with main := { p.main with body := p.main.body.filter keeps } }
abbrev Xf : Program → Shared → Bool := (fun p s => xlAt (viewOf p) [] s && recOk (RowW.records (OpenRow.toRowW (OpenLaw.row PySem.Challenge.rw_stopglass_k44_records_and_sends_held))) s)
noncomputable def S0 (w : World) (os : OsState) : Shared := ⟨boot_heap w.params, Array.mk [], boot_drawn, boot_toks, os⟩
theorem ws : PySem.Challenge.rw_stopglass_k44_records_and_sends_held.wellSaid = true := by kernel_rfl
section
local macro_rules | `(tactic| o_head $H) => `(tactic| (case Hk => exact $H))
noncomputable def hk : (H : Hook) ×' ((∀ P : Prop, P) → PySem.Challenge.rw_stopglass_k44_records_and_sends_held.Holds) := by
 refine ⟨?Hk, fun h => ?m⟩
 rotate_left
 w_on; refine holds_law ws fun said => ?_; k_head; exact h _
end
theorem opt3 {σ α β γ : Type} {x : Option σ} {f : σ → α × β} {g : σ → γ} {a : α × β} {c : γ} (h1 : x.map (fun s => (f s).1) = some a.1) (h2 : x.map (fun s => (f s).2) = some a.2) (h3 : x.map g = some c) : x.map (fun s => (f s, g s)) = some (a, c) := by
 cases x with
 | none => cases h1
 | some s =>
  have e1 : (f s).1 = a.1 := Option.some.inj h1
  have e2 : (f s).2 = a.2 := Option.some.inj h2
  have e3 : g s = c := Option.some.inj h3
  show some (f s, g s) = some (a, c)
  rw [show f s = a from Prod.ext e1 e2, e3]
theorem r0a : ∀ (w : World) (os : OsState), (TQ tp (w.withFollow "special-get-raises" false) 20000 (S0 (w.withFollow "special-get-raises" false) os)).map (fun s => (OQ (viewOf tp) lo (importedModules tp.main.body) (Xf tp) true s).1) = some (openGood (viewOf tp) lo).1 := by
 intro w os; kernel_rfl
theorem r0b : ∀ (w : World) (os : OsState), (TQ tp (w.withFollow "special-get-raises" false) 20000 (S0 (w.withFollow "special-get-raises" false) os)).map (fun s => (OQ (viewOf tp) lo (importedModules tp.main.body) (Xf tp) true s).2) = some (openGood (viewOf tp) lo).2 := by
 intro w os; kernel_rfl
theorem r0c : ∀ (w : World) (os : OsState), (TQ tp (w.withFollow "special-get-raises" false) 20000 (S0 (w.withFollow "special-get-raises" false) os)).map (fun s => Hook.obs hk.1 s) = some (Hook.val hk.1 (w.withFollow "special-get-raises" false)) := by
 intro w os; kernel_rfl
theorem r0 : ∀ (w : World) (os : OsState), (TQ tp (w.withFollow "special-get-raises" false) 20000 (S0 (w.withFollow "special-get-raises" false) os)).map (fun s => (OQ (viewOf tp) lo (importedModules tp.main.body) (Xf tp) true s, Hook.obs hk.1 s)) = some (openGood (viewOf tp) lo, Hook.val hk.1 (w.withFollow "special-get-raises" false)) := fun w os => opt3 (r0a w os) (r0b w os) (r0c w os)
theorem r1a : ∀ (w : World) (os : OsState), (TQ tp (w.withFollow "special-get-raises" true) 20000 (S0 (w.withFollow "special-get-raises" true) os)).map (fun s => (OQ (viewOf tp) lo (importedModules tp.main.body) (Xf tp) true s).1) = some (openGood (viewOf tp) lo).1 := by
 intro w os; kernel_rfl
theorem r1b : ∀ (w : World) (os : OsState), (TQ tp (w.withFollow "special-get-raises" true) 20000 (S0 (w.withFollow "special-get-raises" true) os)).map (fun s => (OQ (viewOf tp) lo (importedModules tp.main.body) (Xf tp) true s).2) = some (openGood (viewOf tp) lo).2 := by
 intro w os; kernel_rfl
theorem r1c : ∀ (w : World) (os : OsState), (TQ tp (w.withFollow "special-get-raises" true) 20000 (S0 (w.withFollow "special-get-raises" true) os)).map (fun s => Hook.obs hk.1 s) = some (Hook.val hk.1 (w.withFollow "special-get-raises" true)) := by
 intro w os; kernel_rfl
theorem r1 : ∀ (w : World) (os : OsState), (TQ tp (w.withFollow "special-get-raises" true) 20000 (S0 (w.withFollow "special-get-raises" true) os)).map (fun s => (OQ (viewOf tp) lo (importedModules tp.main.body) (Xf tp) true s, Hook.obs hk.1 s)) = some (openGood (viewOf tp) lo, Hook.val hk.1 (w.withFollow "special-get-raises" true)) := fun w os => opt3 (r1a w os) (r1b w os) (r1c w os)
theorem left_twin {p p' : Program} {F : Program → Program} {X : Program → Shared → Bool} {loose : List Str} {α : Type} {Yf : Shared → α} {Ya : World → α} {N : Nat} {g0 : Bool} (row : String) (ep : p = p') (e : opening p = plainProg p.main.scope.names) (hN : Nat.ble 600 N = true) (f : ∀ s, fenceModules? p s = some s)
  (h0 : ∀ (w : World) (os : OsState), (TQ p' (w.withFollow row false) N (S0 (w.withFollow row false) os)).map (fun s => (OQ (F p') loose (importedModules p'.main.body) (X p') g0 s, Yf s)) = some (openGood (F p') loose, Ya (w.withFollow row false)))
  (h1 : ∀ (w : World) (os : OsState), (TQ p' (w.withFollow row true) N (S0 (w.withFollow row true) os)).map (fun s => (OQ (F p') loose (importedModules p'.main.body) (X p') g0 s, Yf s)) = some (openGood (F p') loose, Ya (w.withFollow row true))) : LeftO p (F p) loose (X p) Yf Ya N g0 := fun w => by
 subst ep
 have key : ∀ b, (openEnds treeTable p (w.withFollow row b) N).map (fun s => (openSeen (F p) loose (importedModules p.main.body) (X p) g0 s, Yf s)) = some (openGood (F p) loose, Ya (w.withFollow row b)) := by
  intro b
  obtain ⟨s, hs, hv⟩ := Option.map_eq_some_iff.mp (boot_open e hN f (w.withFollow row b))
  have es : s = S0 (w.withFollow row b) s.os := by
   cases s
   simp only [Prod.mk.injEq] at hv
   obtain ⟨a1, a2, a3, a4⟩ := hv
   subst a1 a2 a3 a4
   rfl
  unfold openEnds
  rw [hs, es, PySem.W.Fast.te370005188180407882, PySem.W.Fast.te14364793385576792824, PySem.W.Fast.te4187177175401517315]
  cases b
  . exact h0 w s.os
  . exact h1 w s.os
 have e0 := World.withFollow_self w row
 have := key (w.params.followText row)
 rwa [e0] at this
theorem left : LeftO PySem.Challenge.pw_stopglass_k44_records_and_sends_held (viewOf PySem.Challenge.pw_stopglass_k44_records_and_sends_held) lo (Xf PySem.Challenge.pw_stopglass_k44_records_and_sends_held) (Hook.obs hk.1) (Hook.val hk.1) 20000 true :=
 left_twin (p := PySem.Challenge.pw_stopglass_k44_records_and_sends_held) (p' := tp) (F := viewOf) (X := Xf) (loose := lo) (Yf := Hook.obs hk.1) (Ya := Hook.val hk.1) (N := 20000) (g0 := true) "special-get-raises" rfl (by kernel_rfl) (by decide) (fun s => by kernel_rfl) r0 r1
theorem left_of {H : Hook} (e : H = hk.1) : LeftO PySem.Challenge.pw_stopglass_k44_records_and_sends_held (viewOf PySem.Challenge.pw_stopglass_k44_records_and_sends_held) lo (Xf PySem.Challenge.pw_stopglass_k44_records_and_sends_held) (Hook.obs H) (Hook.val H) 20000 true := by subst e; exact left
local macro_rules | `(tactic| o_head $H) => `(tactic| (
 refine holds_open (q := viewOf PySem.Challenge.pw_stopglass_k44_records_and_sends_held) (loose := lo) (Xt := Xf PySem.Challenge.pw_stopglass_k44_records_and_sends_held) (XP := XL (viewOf PySem.Challenge.pw_stopglass_k44_records_and_sends_held) []) (Yf := Hook.obs $H) (Ya := Hook.val $H) (YP := Hook.says $H) (N := 20000) ?hl (Hook.of $H) (Hook.keeps $H) (fun s e => xl_of s (Bool.and_eq_true_iff.mp e).1) XL.keeps (by rfl) (by rfl) (by rfl) (fun s e => recFacts_of (Bool.and_eq_true_iff.mp e).2) (by rfl) (by assumption) (by decide +kernel) ⟨rfl, rfl, rfl, rfl, rfl, by decide +kernel⟩ ?hw ?hc
 (case hl => exact left_of (H := $H) (by kernel_rfl))))
set_option maxHeartbeats 0 in
noncomputable def pk : (G : Prop) ×' (G → PySem.Challenge.rw_stopglass_k44_records_and_sends_held.Holds) := by
 refine' ⟨_, fun h => _⟩
 rotate_left
 w_on; refine holds_law ws fun said => ?_; k_head; (case hw => w_witness2)
 exact h
end Hd
end
set_option genSizeOf false
set_option bootstrap.genMatcherCode false
abbrev IU:=@PySem.wpAny_bind
abbrev IV:=@decide_eq_true
abbrev IW:=@if_neg
abbrev IX:=@List.length_map
abbrev IZ:=@PySem.Heap.get?_push_of_some
abbrev Ib:=@Nat.le_refl
abbrev Ic:=@List.getElem?_eq_some_iff
abbrev Ie:=@PySem.wpAny_pure
abbrev Ig:=@if_pos
abbrev Ih:=@decide_eq_false
abbrev Ii:=@List.mem_cons_self
abbrev Ij:=@List.mem_of_getElem?
abbrev Ik:=@List.mem_singleton
abbrev Il:=@List.length_append
abbrev Im:=@List.mem_cons_of_mem
abbrev Io:=@List.mem_cons
abbrev Ip:=@PySem.Heap.lt_size
abbrev Iq:=@congrArg
abbrev Ir:=@List.size_toArray
abbrev Iu:=@List.getElem?_map
abbrev Iv:=@List.mem_append
abbrev Iw:=@List.getElem?_eq_getElem
abbrev Ix:=@List.map_cons
abbrev Iy:=@Bool.false_ne_true
abbrev Iz:=@PySem.Heap.get?_push_size
abbrev J0:=@List.map_append
abbrev J1:=@Nat.lt_of_lt_of_le
abbrev J2:=@Nat.zero_le
abbrev J3:=@List.mem_map
abbrev J4:=@Bool.and_eq_true
abbrev J5:=@PySem.F.plainAttrs_list
abbrev J6:=@List.length_cons
abbrev J7:=@Nat.le_trans
abbrev J8:=@Nat.ne_of_lt
abbrev J9:=@List.mem_append_right
abbrev JA:=@List.length_replicate
abbrev JB:=@Bool.and_false
abbrev JC:=@List.length_take
abbrev JD:=@PySem.F.slot_list_append
abbrev JE:=@PySem.F.type_list_append
abbrev JF:=@Int.toNat_natCast
abbrev JG:=@List.foldl_append
abbrev JH:=@PySem.wpAny_field
abbrev JI:=@List.append_nil
abbrev JJ:=@List.take_length
abbrev JK:=@List.not_mem_nil
abbrev JL:=@PyProof.Rows.callWith_type1
abbrev JM:=@Nat.lt_or_ge
abbrev JN:=@Nat.lt_irrefl
abbrev JO:=@PySem.wpAny_holding
abbrev JP:=@List.append_assoc
abbrev JQ:=@Bool.eq_iff_iff
abbrev JR:=@Nat.not_lt_zero
abbrev JS:=@PyProof.Rows.slot_tuple_getitem
abbrev JT:=@List.getD_eq_getElem?_getD
abbrev JU:=@PySem.wpAny_call_entry
abbrev JV:=@List.getElem?_zip_eq_some
abbrev JW:=@PySem.wpAny_truthy_bool
abbrev JX:=@decide_eq_true_eq
abbrev JY:=@Bool.true_and
abbrev JZ:=@List.length_set
abbrev Ja:=@Int.eq_ofNat_of_zero_le
abbrev Jb:=@List.getElem?_append_right
abbrev Jc:=@List.map_map
abbrev Jd:=@Option.map_eq_some_iff
abbrev Je:=@List.take_add_one
abbrev Jf:=@PySem.Heap.size_push
abbrev Jg:=@PySem.wpAny_seqItems
abbrev Jh:=@List.nodup_cons
abbrev Ji:=@List.map_nil
abbrev Jj:=@List.lookup_cons
abbrev Jk:=@List.all_eq_true
abbrev Jl:=@PySem.wpAny_pyIter_tuple
abbrev Jm:=@PySem.wpAny_setField_rec
abbrev Jn:=@List.map_replicate
abbrev Jo:=@PySem.F.slot_zip_next
abbrev Jp:=@List.getElem?_of_mem
abbrev Jq:=@PySem.wpAny_newObj_type
abbrev Jr:=@List.flatten_cons
abbrev Js:=@List.replicate_succ
abbrev Jt:=@Nat.lt_succ_self
abbrev Ju:=@List.getElem_mem
abbrev Jv:=@List.getElem?_set_self
abbrev Jw:=@Int.emod_lt_of_pos
abbrev Jx:=@List.mem_replicate
abbrev Jy:=@List.getElem?_eq_none
abbrev Jz:=@List.length_zip
abbrev J':=@PySem.F.slot_tuple_iterator_next
abbrev K0:=@PySem.wpAny_pyIter_list
abbrev K1:=@of_decide_eq_true
abbrev K2:=@List.length_range
abbrev K3:=@List.getElem?_set_ne
abbrev K4:=@List.getElem?_append_left
abbrev K5:=@List.idxOf_cons_self
abbrev K6:=@Nat.ne_of_gt
abbrev K7:=@List.length_drop
abbrev K8:=@Nat.lt_succ_iff_lt_or_eq
abbrev K9:=@PySem.wpAny_Call_Name_kw
abbrev KA:=@List.foldl_cons
abbrev KB:=@List.find?_cons
abbrev KC:=@List.length_nil
abbrev KD:=@Int.emod_nonneg
abbrev KE:=@PySem.wpAny_typeOf
abbrev KF:=@List.idxOf_lt_length_of_mem
abbrev KG:=@List.mem_append_left
abbrev KH:=@PySem.F.slot_tuple_mul
abbrev KI:=@List.getElem_of_mem
abbrev KJ:=@List.getElem?_eq_none_iff
abbrev KL:=@PySem.wpAny_passesOwn
abbrev KM:=@List.of_mem_zip
abbrev KN:=@List.forIn_cons
abbrev KO:=@Option.isSome_iff_exists
abbrev KP:=@List.getElem?_take_of_lt
abbrev KQ:=@PySem.F.args_tuple_add_2
abbrev KR:=@PySem.F.slot_list_getattribute
abbrev KS:=@PySem.wpAny_mono
abbrev KU:=@PySem.F.entry_tuple_add
abbrev KW:=@PySem.F.plainAttrs_dict
abbrev KY:=@List.length_eq_zero_iff
abbrev KZ:=@PySem.F.slot_zip_getattribute
abbrev Ka:=@PySem.F.slot_list_index
abbrev Kb:=@PySem.F.type_list_index
abbrev Kc:=@PySem.wpAny_pyIter_enum
abbrev Kd:=@PySem.F.args_zip_next_1
abbrev Ke:=@List.all_eq_false
abbrev Kf:=@Nat.le_succ
abbrev Kg:=@PySem.F.slot_tuple_add
abbrev Kh:=@PyProof.Rows.bitOr_and
abbrev Ki:=@List.any_cons
abbrev Kj:=@PySem.F.entry_zip_next
abbrev Kk:=@PySem.wpAny_isTrue_Compare1
abbrev Kl:=@PySem.F.slot_dict_get
abbrev Km:=@List.nil_append
abbrev Ko:=@PySem.F.slot_int_rmul
abbrev Kp:=@Option.map_some
abbrev Kq:=@PySem.codeAny_builtin
abbrev Kr:=@PySem.wpAny_rule
abbrev Ks:=@PySem.wpAny_updateSeq_pair
abbrev Kt:=@PySem.wpAny_ite_false
abbrev Ku:=@PySem.F.slot_dict_itemiterator_iter
abbrev Kv:=@List.filterMap_cons
abbrev Kw:=@Array.length_toList
abbrev Kx:=@Bool.false_and
abbrev Ky:=@PySem.F.args_tuple_iterator_next_1
abbrev Kz:=@PySem.F.slot_dict_setdefault
abbrev K':=@List.forIn_nil
abbrev L1:=@List.mem_filterMap
abbrev L3:=@PySem.F.entry_tuple_iterator_next
abbrev L4:=@PySem.F.args_tuple_mul_2
abbrev L5:=@Int.fdiv_eq_ediv_of_nonneg
abbrev L6:=@PySem.F.kt_typeCall_dict_1
abbrev L7:=@PySem.wpAny_letOwnedTupleGo_enum
abbrev L8:=@PySem.wpAny_onRaise
abbrev L9:=@PySem.wpAny_attempt
abbrev LA:=@Nat.mod_two_eq_zero_or_one
abbrev LB:=@PySem.wpAny_sequenceKey
abbrev LC:=@PySem.F.entry_tuple_mul
abbrev LD:=@PySem.wpAny_binaryOp_repeat_ref
abbrev LF:=@beq_iff_eq
abbrev LG:=@PySem.wpAny_pyHash_str
abbrev LH:=@Nat.le_of_lt
abbrev LI:=@PySem.wpAny_execs_cons
abbrev LJ:=@PySem.codeAny_mono
abbrev LK:=@PySem.F.args_dict_init_2
abbrev LL:=@PySem.wpAny_pyIter_zip
abbrev LM:=@Nat.min_eq_right
abbrev LN:=@Option.bind_some
abbrev LO:=@PySem.wpAny_Call_method0_late
abbrev LP:=@PySem.F.args_dict_get_3
abbrev LQ:=@PySem.F.entry_dict_init
abbrev LR:=@PySem.wpAny_pyNext_enum_itemD
abbrev LS:=@PySem.F.slot_dict_items
abbrev LU:=@PySem.wpAny_execs_nil
abbrev LV:=@Nat.min_eq_left
abbrev LW:=@Int.natCast_mul
abbrev LX:=@List.mem_range
abbrev LY:=@List.drop_zero
abbrev LZ:=@PySem.wpAny_standAt
abbrev La:=@Bool.or_false
abbrev Lb:=@Bool.and_true
local macro_rules | `(tactic| walk_at "f") => `(tactic| (first|exact .inl rfl|exact .inr rfl|assumption))
local macro_rules | `(tactic| walk_at "s") => `(tactic| exact ⟨rfl, rfl, rfl, by decide +kernel, rfl, by decide +kernel, by decide +kernel⟩)
section
local macro_rules | `(#[$x,*]) => `(⟨$x,*⟩)
namespace L2
open PySem PySem.Spec PyProof.Rows
noncomputable abbrev aL:=Sum Int Str
noncomputable def iI:aL->Value->Bool
 | .inl k,v=>Value.isInt k v
 | .inr x,v=>Value.isStrOf x v
noncomputable def zr (w:World):aL->Int
 | .inl k=>hashInt k
 | .inr x=>hashStr w x
theorem gI:∀{k:aL} {v:Value},iI k v=true->(∃i t,k=Sum.inl i/\v=Value.int i t)\/(∃x t,k=Sum.inr x/\v=Value.str x t)
 | .inl i,v,h=>by obtain⟨t,e⟩:=Value.isInt_shape (k:=i) (v:=v) h;exact .inl #[i,t,rfl,e]
 | .inr x,v,h=>by obtain⟨t,e⟩:=Value.isStrOf_shape (x:=x) (v:=v) h;exact .inr #[x,t,rfl,e]
theorem Ed (i:Int) (t:Tok):iI (.inl i) (.int i t)=true:=by simp [iI,Value.isInt]
theorem Hz (x:Str) (t:Tok):iI (.inr x) (.str x t)=true:=by simp [iI,Value.isStrOf]
theorem Cq (a b:Int):decide ((Sum.inl a:aL)=Sum.inl b)=(a==b):=by
 by_cases e:a=b
 . subst e; simp
 . have h:¬ (Sum.inl a:aL)=Sum.inl b:=λq=>e (Sum.inl.inj q);rw[Ih h];exact(beq_eq_false_iff_ne.mpr e).symm
theorem CM (a b:Str):decide ((Sum.inr a:aL)=Sum.inr b)=decide (a=b):=by
 by_cases e:a=b
 . subst e; simp
 . have h:¬ (Sum.inr a:aL)=Sum.inr b:=λq=>e (Sum.inr.inj q);rw[Ih h,Ih e]
theorem Fm (a:Int) (b:Str):decide ((Sum.inl a:aL)=Sum.inr b)=false:=Ih (λq=>nomatch q)
theorem Fz (a:Str) (b:Int):decide ((Sum.inr a:aL)=Sum.inl b)=false:=Ih (λq=>nomatch q)
noncomputable def cJ (prog:Program) (w:World):PySem.KeyKind prog w aL where
 is:=iI
 hash:=zr w
 inj:=λv a b ha hb=>by
   rcases gI ha with⟨i,t,rfl,rfl⟩|⟨x,t,rfl,rfl⟩
   . rcases gI hb with⟨j,u,rfl,e⟩|⟨y,u,rfl,e⟩
     . injection e with e1 _; rw[e1]
     . exact nomatch e
   . rcases gI hb with⟨j,u,rfl,e⟩|⟨y,u,rfl,e⟩
     . exact nomatch e
     . injection e with e1 _; rw[e1]
 byValue:=λk v h=>by rcases gI h with⟨i,t,rfl,rfl⟩|⟨x,t,rfl,rfl⟩ <;> rfl
 pyHash:=λhv h=>by
   rcases gI hv with⟨i,t,rfl,rfl⟩|⟨x,t,rfl,rfl⟩
   . exact wpAny_pyHash_int h
   . exact LG h
 eqBool:=λhu hv h=>by
   rcases gI hu with⟨i,t,rfl,rfl⟩|⟨x,t,rfl,rfl⟩
   . rcases gI hv with⟨j,u,rfl,rfl⟩|⟨y,u,rfl,rfl⟩
     . rw[Cq] at h; exact wpAny_eqBool_int h
     . rw[Fm] at h; exact SeqAt.EqAt.int_str i t y u _ _ _ _ h
   . rcases gI hv with⟨j,u,rfl,rfl⟩|⟨y,u,rfl,rfl⟩
     . rw[Fz] at h; exact SeqAt.EqAt.str_int x t j u _ _ _ _ h
     . rw[CM] at h; exact wpAny_eqBool_str h
 «strs»:=λk x t v h=>by
   rcases gI h with⟨i,u,rfl,e⟩|⟨y,u,rfl,e⟩
   . exact nomatch e
   . injection e with e1 _
     subst e1;cases v <;> rfl
theorem Ev (prog:Program) (w:World) (i:Int) (t:Tok):(cJ prog w).is (.inl i) (.int i t)=true:=Ed i t
theorem Eu (prog:Program) (w:World) (x:Str) (t:Tok):(cJ prog w).is (.inr x) (.str x t)=true:=Hz x t
inductive V where
 | non|bl (b:Bool)|int (i:Int)|str (x:Str)|byt (b:Array UInt8)|flt (b:UInt64)|ref (a:Addr)|ty (n:String)
 deriving DecidableEq
noncomputable def bE:V->Value->Prop
 | .non,u=>u=Value.none
 | .bl b,u=>u=Value.bool b
 | .int i,u=>∃t,u=Value.int i t
 | .str x,u=>∃t,u=Value.str x t
 | .byt b,u=>∃t,u=Value.bytes b t
 | .flt b,u=>∃t,u=Value.float b t
 | .ref a,u=>u=Value.ref a
 | .ty n,u=>u=Value.type n
noncomputable abbrev ax:List V->List Value->Prop:=Paired bE
theorem ax.length {xs:List V} {us:List Value} (r:ax xs us):xs.length=us.length:=Paired.length r
theorem ax.get:∀{xs:List V} {us:List Value} {i:Nat} {x:V},ax xs us->xs[i]?=some x->∃u,us[i]?=some u/\bE x u
 | _,_,_,_,.nil,e=>by simp at e
 | _,_,0,_,.cons r _,e=>by simp at e; subst e; exact#[_,rfl,r]
 | _,_,i+1,x,.cons _ t,e=>by obtain⟨u,h1,h2⟩:=ax.get (i:=i) (x:=x) t (by simpa using e);exact#[u,by simpa using h1,h2]
theorem ax.set {x:V} {u:Value} (r:bE x u):∀{xs:List V} {us:List Value} (i:Nat),ax xs us->ax (xs.set i x) (us.set i u)
 | _,_,_,.nil=>.nil
 | _,_,0,.cons _ t=>.cons r t
 | _,_,i+1,.cons q t=>.cons q (ax.set r i t)
theorem ax.append:∀{xs ys:List V} {us ws:List Value},ax xs us->ax ys ws->ax (xs++ys) (us++ws)
 | _,_,_,_,.nil,s=>s
 | _,_,_,_,.cons r t,s=>.cons r (ax.append t s)
theorem ax.take:∀{xs:List V} {us:List Value} (n:Nat),ax xs us->ax (xs.take n) (us.take n)
 | _,_,0,_=>.nil
 | _,_,_+1,.nil=>.nil
 | _,_,n+1,.cons r t=>.cons r (ax.take n t)
theorem ax.drop:∀{xs:List V} {us:List Value} (n:Nat),ax xs us->ax (xs.drop n) (us.drop n)
 | _,_,0,r=>r
 | _,_,_+1,.nil=>.nil
 | _,_,n+1,.cons _ t=>ax.drop n t
theorem ax.none_of:∀{xs:List V} {us:List Value} {i:Nat},ax xs us->xs[i]?=none->us[i]?=none:=λ{xs us i} r e=>by have h1:=r.length;have h2:xs.length<=i:=KJ.mp e;exact KJ.mpr (by omega)
noncomputable def dB:Option V->Option Value->Prop
 | some v,some u=>bE v u
 | none,none=>True
 | _,_=>False
noncomputable def KV {κ:Type}:List (κ×V)->List (κ×Value)->Prop:=Paired λ(p:κ×V) (q:κ×Value)=>p.1=q.1/\bE p.2 q.2
noncomputable def kV:aL->V
 | .inl i=>.int i
 | .inr x=>.str x
inductive HO where
 | lst (xs:List V)
 | tup (xs:List V)
 | dK (kvs:List (aL×V))|dT (kvs:List (List aL×V))
 | set (S:Int->Bool) (n:Nat)
 | ins (C dx:Addr) (fs:List (Str×V))
 | own (x:Addr)
 | xd (fs:List (Str×V))
 | met (f x:Addr)
 | rng (lo hi:Int)
 | frz (o:Obj) (u:HO)
 | tbl (ps:Array Value)
 | ext (φ:Heap->Prop)
noncomputable abbrev Hp:=Addr->Option HO
noncomputable def upd (H:Hp) (a:Addr) (o:HO):Hp:=λb=>if b=a then some o else H b
variable {H:Hp} {o:HO}
theorem aI {a:Addr} :upd H a o a=some o:=by unfold upd; rw[Ig rfl]
variable {b:Addr}
theorem aw {a:Addr}(h:b≠a):upd H a o b=H b:=by unfold upd; rw[IW h]
theorem om {a:Addr} {u:HO}:upd (upd H a o) a u=upd H a u:=by funext b; unfold upd; split <;> rfl
theorem fL {a:Addr}{u:HO}(h:H a=some o) (h':H b=some u) (d:o≠u):a≠b:=by intro e; subst e; rw[h] at h'; exact d (Option.some.inj h')
theorem cS {a:Addr}(h:H a=some o) (h':H b=none):a≠b:=by intro e; subst e; rw[h] at h'; cases h'
section
variable (P:Program) (w:World)
noncomputable def cF (H:Hp) (h:Heap) (a:Addr):HO->Prop
 | .lst xs=>xs.length<=sizeLine/\∃(its:List Value) (n:Nat),ax xs its/\h.get? a=some { cls:=.type "list",data:=.seq its.toArray n }
 | .tup xs=>xs.length<=sizeLine/\∃its:List Value,ax xs its/\IsTup h a its.toArray
 | .dK kvs=>kvs.length<=sizeLine/\(a==sysModules)=false/\∃vs,KV kvs vs/\h.DictOf (cJ P w) a vs
 | .dT kvs=>kvs.length<=sizeLine/\(a==sysModules)=false/\∃xs:List (List aL×Addr×Value),
     Paired (λ(p:List aL×V) (q:List aL×Addr×Value)=>p.1=q.1/\H q.2.1=some (.tup (p.1.map kV))/\bE p.2 q.2.2) kvs xs /\
     ∃o es ep,h.get? a=some o/\o.ExactDict/\o.data=.dict es ep/\es.toList=xs.map (entryOfKey (tupleKind (cJ P w)))/\(xs.map (·.1)).Nodup
 | .set S n=>h.SetOf (intKind P w) a S n
 | .ins C dx fs=>H dx=some (.own a)/\fs.length<=1000/\dx≠a/\h.get? a=some (PySem.W.instObj C dx) /\
     ∃mA,h.Ns1 dx mA/\(∀f,dB (fs.lookup f) (mA f))/\PySem.Within mA (fs.map (·.1))
 | .own _=>∃o,h.get? a=some o
 | .xd fs=>∃mA,h.Ns1 a mA/\∀f,dB (fs.lookup f) (mA f)
 | .rng lo hi=>∃t u v,h.get? a=some { cls:=.type "range",data:=.fields (List.toArray [.int lo t,.int hi u,.int 1 v]) }
 | .frz o u=>h.get? a=some o/\cF H h a u
 | .tbl ps=>h.get? a=some { cls:=.none,data:=.fields ps }
 | .met f x=>h.get? a=some (PySem.W.methodObj (.ref f) (.ref x))
 | .ext φ=>φ h/\(∃o,h.get? a=some o)/\∀h1 h2:Heap,φ h1->(∀o,h1.get? a=some o->h2.get? a=some o)->φ h2
noncomputable def c9 (H:Hp) (h:Heap):Prop:=∀a o,H a=some o->cF P w H h a o
end
section
variable {P:Program} {w:World} {H H':Hp} {h h':Heap} {a:Addr} {o:HO}
theorem cF.lt (x:cF P w H h a o):a<h.objs.size:=by
 cases o with
 | lst xs=>obtain⟨_,_,_,_,e⟩:=x; exact Ip e
 | tup xs=>obtain⟨_,_,_,p⟩:=x; exact p.lt
 | dK kvs=>obtain⟨_,_,_,_,o,_,_,e,_⟩:=x; exact Ip e
 | dT kvs=>obtain⟨_,_,_,_,o,_,_,e,_⟩:=x; exact Ip e
 | set S n=>obtain⟨o,_,_,_,e,_⟩:=x; exact Ip e
 | ins C dx fs=>obtain⟨_,_,_,e,_⟩:=x; exact Ip e
 | own y=>obtain⟨_,e⟩:=x; exact Ip e
 | xd fs=>obtain⟨_,⟨_,_,_,e,_⟩,_⟩:=x; exact Ip e
 | rng lo hi=>obtain⟨_,_,_,e⟩:=x; exact Ip e
 | frz ob u=>obtain⟨e,_⟩:=x; exact Ip e
 | tbl ps=>exact Ip (show h.get? a=some _ from x)
 | met f y=>exact Ip (show h.get? a=some _ from x)
 | ext φ=>obtain⟨_,⟨_,e⟩,_⟩:=x; exact Ip e
theorem Paired.mapP {α β:Type} {F G:α->β->Prop}:∀{l₁:List α} {l₂:List β},Paired F l₁ l₂->(∀a b,F a b->G a b)->Paired G l₁ l₂
 | _,_,.nil,_=>.nil
 | _,_,.cons r t,f=>.cons (f _ _ r) (Paired.mapP t f)
theorem cF.stay (x:cF P w H h a o) (k:∀b u,(b=a\/H b=some (.own a))->h.get? b=some u->h'.get? b=some u)
   (ho:∀b,H b=some (.own a)->H' b=some (.own a)) (ht:∀b xs,H b=some (.tup xs)->H' b=some (.tup xs)):cF P w H' h' a o:=by
 induction o with
 | lst xs=>obtain⟨z,its,n,r,e⟩:=x; exact#[z,its,n,r,k _ _ (.inl rfl) e]
 | tup xs=>obtain⟨z,its,r,ob,e,c⟩:=x; exact#[z,its,r,ob,k _ _ (.inl rfl) e,c]
 | dK kvs=>obtain⟨z,y,vs,r,ob,es,ep,e,c⟩:=x; exact#[z,y,vs,r,ob,es,ep,k _ _ (.inl rfl) e,c]
 | dT kvs =>
   obtain⟨z,y,xs,r,ob,es,ep,e,c⟩:=x;exact#[z,y,xs,Paired.mapP r λp q z=>#[z.1,ht _ _ z.2.1,z.2.2],ob,es,ep,k _ _ (.inl rfl) e,c]
 | set S n=>obtain⟨ob,es,ep,t,e,c⟩:=x; exact#[ob,es,ep,t,k _ _ (.inl rfl) e,c]
 | ins C dx fs =>
   obtain⟨d,z,ne,e,mA,⟨od,es,ep,e2,c⟩,r⟩:=x;exact#[ho _ d,z,ne,k _ _ (.inl rfl) e,mA,#[od,es,ep,k _ _ (.inr d) e2,c],r]
 | own y=>obtain⟨ob,e⟩:=x; exact#[ob,k _ _ (.inl rfl) e]
 | xd fs=>obtain⟨mA,⟨od,es,ep,e,c⟩,r⟩:=x; exact#[mA,#[od,es,ep,k _ _ (.inl rfl) e,c],r]
 | rng lo hi=>obtain⟨t,u,v,e⟩:=x; exact#[t,u,v,k _ _ (.inl rfl) e]
 | frz ob u ih=>obtain⟨e,q⟩:=x; exact#[k _ _ (.inl rfl) e,ih q]
 | tbl ps =>
   have e:h.get? a=some { cls:=.none,data:=.fields ps }:=x;show h'.get? a=some { cls:=.none,data:=.fields ps };exact k a _ (.inl rfl) e
 | met f y =>
   have e:h.get? a=some (PySem.W.methodObj (.ref f) (.ref y)):=x;show h'.get? a=some (PySem.W.methodObj (.ref f) (.ref y));exact k a _ (.inl rfl) e
 | ext φ=>obtain⟨p,⟨o,e⟩,st⟩:=x; exact#[st _ _ p λo q=>k _ _ (.inl rfl) q,#[o,k _ _ (.inl rfl) e],st]
theorem c9.lt (x:c9 P w H h) (e:H a=some o):a<h.objs.size:=(x a o e).lt
theorem c9.fresh (x:c9 P w H h) (e:h.objs.size<=a):H a=none:=by
 cases q:H a with
 | none=>rfl
 | some u=>exact absurd (J1 (x.lt q) e) (JN _)
theorem c9.kept (x:c9 P w H h) (k:∀b u,h.get? b=some u->h'.get? b=some u):c9 P w H h':=λa o e =>
 (x a o e).stay (λb u _ q=>k b u q) (λ_ q=>q) λ_ _ q=>q
theorem c9.laid (x:c9 P w H h) (k:∀b u,h.get? b=some u->h'.get? b=some u) (hp:h.objs.size<=a) (new:cF P w (upd H a o) h' a o):c9 P w (upd H a o) h':=λb u e=>by
 have hn:=x.fresh hp;by_cases hb:b=a
 . subst hb; rw[aI] at e; cases e; exact new
 . rw[aw hb] at e;exact(x b u e).stay (λc v _ q=>k c v q) (λc q=>by rw[aw (cS q hn)]; exact q) λc xs q=>by rw[aw (cS q hn)]; exact q
end
noncomputable def Rd (H:Hp) (a:Addr) (u:HO):Prop:=H a=some u\/∃o,H a=some (.frz o u)
variable {P:Program} {w:World} {h:Heap}
theorem Rd.ok {a:Addr} {u:HO} (r:Rd H a u) (x:c9 P w H h):cF P w H h a u:=by
 rcases r with r|⟨o,r⟩
 . exact x a u r
 . obtain⟨_,q⟩:=x a _ r;exact q
noncomputable def kC:Option HO->Prop
 | some (.lst _)=>True
 | some (.dK _)=>True
 | some (.dT _)=>True
 | some (.set _ _)=>True
 | some (.ins _ _ _)=>True
 | some (.ext _)=>True
 | _=>False
section
variable {P:Program} {w:World} {H:Hp} {h h':Heap} {x e:Addr} {o':HO}
theorem c9.write (ok:c9 P w H h) (mu:kC (H x)) (he:e=x\/H e=some (.own x)) (k:∀b u,b≠e->h.get? b=some u->h'.get? b=some u) (heo:∃u,h'.get? e=some u)
   (new:cF P w (upd H x o') h' x o'):c9 P w (upd H x o') h':=λb u q=>by
 have nown:∀c y,H c=some (.own y)->c≠x:=λc y r z=>by subst z; rw[r] at mu; exact mu
 have ntup:∀c xs,H c=some (.tup xs)->c≠x:=λc xs r z=>by subst z; rw[r] at mu; exact mu
 by_cases hb:b=x
 . subst hb; rw[aI] at q; cases q; exact new
 . rw[aw hb] at q;by_cases hbe:b=e
   . have q':H b=some (.own x):=by
       rcases he with z|z
       . exact absurd (hbe.trans z) hb
       . rw[hbe]; exact z
     rw[q] at q'; cases q';obtain⟨v,hv⟩:=heo;exact#[v,by rw[hbe]; exact hv]
   . refine(ok b u q).stay (λc v hc r=>k c v ?_ r) (λc r=>by rw[aw (nown c b r)]; exact r) λc xs r=>by rw[aw (ntup c xs r)]; exact r
     rcases hc with rfl|hc
     . exact hbe
     . rintro rfl;rcases he with z|z
       . exact nown c b hc z
       . rw[hc] at z; cases z; exact hb rfl
end
structure Un (fs ex:List Addr) (H H':Hp) (h h':Heap):Prop where
 keep:∀b o,h.get? b=some o->H b=none->b ∉ fs->b ∉ ex->h'.get? b=some o
 slot:∀b o,h.get? b=some o->H b=none->b∈fs->b ∉ ex->∃sl,h'.get? b=some { o with slots:=sl }
 free:∀b o,h.get? b=some o->H b=none->b ∉ ex->H' b=none
 there:∀b o,h.get? b=some o->b ∉ ex->∃o',h'.get? b=some o'
 tups:∀b xs,H b=some (.tup xs)->H' b=some (.tup xs)
 frzs:∀b o u,H b=some (.frz o u)->H' b=some (.frz o u)
 tbls:∀b ps,H b=some (.tbl ps)->∃more,H' b=some (.tbl (ps++more))
section
variable {fs fs' ex ex':List Addr} {H H1 H2:Hp} {h h1 h2 h':Heap} {a x e:Addr} {o:HO}
theorem Un.any (u:Un fs ex H H1 h h1) {ob:Obj} (q:h.get? b=some ob) (n:H b=none) (hx:b ∉ ex):∃sl,h1.get? b=some { ob with slots:=sl }:=by
 by_cases hb:b∈fs
 . exact u.slot b ob q n hb hx
 . exact#[ob.slots,u.keep b ob q n hb hx]
theorem Un.kept (k:∀b u,h.get? b=some u->h'.get? b=some u):Un fs ex H H h h' :=
 #[λb ob q _ _ _=>k b ob q,λb ob q _ _ _=>#[ob.slots,k b ob q],λ_ _ _ n _=>n,λb ob q _=>#[ob,k b ob q],λ_ _ q=>q,λ_ _ _ q=>q,λ_ ps q=>#[(List.toArray []),by rw[q]; simp]]
theorem Un.refl:Un fs ex H H h h:=Un.kept λ_ _ q=>q
theorem Un.laid (k:∀b u,h.get? b=some u->h'.get? b=some u) (hp:h.objs.size<=a) (hn:H a=none):Un fs ex H (upd H a o) h h' where
 keep:=λb u q _ _ _=>k b u q
 slot:=λb u q _ _ _=>#[u.slots,k b u q]
 free:=λb u q n _=>by rw[aw (J8 (J1 (Ip q) hp))]; exact n
 there:=λb u q _=>#[u,k b u q]
 tups:=λb xs q=>by rw[aw (cS q hn)]; exact q
 frzs:=λb u xs q=>by rw[aw (cS q hn)]; exact q
 tbls:=λb ps q=>#[(List.toArray []),by rw[aw (cS q hn),q]; simp]
theorem Un.write (mu:kC (H x)) (he:e=x\/H e=some (.own x)) (k:∀b u,b≠e->h.get? b=some u->h'.get? b=some u) (heo:∃u,h'.get? e=some u):Un fs ex H (upd H x o) h h':=by
 have hx:∀b,H b=none->b≠x:=λb n z=>by subst z; rw[n] at mu; exact mu
 have hb:∀b,H b=none->b≠e:=λb n z=>by
   subst z;rcases he with r|r
   . exact hx b n r
   . rw[n] at r; cases r
 have hm:∀b u,H b=some u->¬ kC (some u)->b≠x:=λb u q nm z=>by subst z; rw[q] at mu; exact nm mu
 refine#[λb u q n _ _=>k b u (hb b n) q,λb u q n _ _=>#[u.slots,k b u (hb b n) q],λb u q n _=>by rw[aw (hx b n)]; exact n,λb u q _=>?_,
   λb xs q=>by rw[aw (hm b _ q λz=>z)]; exact q,λb u xs q=>by rw[aw (hm b _ q λz=>z)]; exact q,λb ps q=>#[(List.toArray []),by rw[aw (hm b _ q λz=>z),q]; simp]]
 by_cases hbe:b=e
 . subst hbe; exact heo
 . exact#[u,k b u hbe q]
end
noncomputable def mL (h:Heap) (H:Hp):List Addr:=(List.range h.objs.size).filter λa=>(H a).isSome
noncomputable def gO (h:Heap) (H:Hp):Heap:=PySem.W.hideAll h (mL h H)
theorem En (h:Heap) (H:Hp):(gO h H).objs.size=h.objs.size:=PySem.W.hideAll_size _ _
theorem FV {o:Obj} (e:h.get? b=some o) (n:H b=none):(gO h H).get? b=some o :=
 PySem.W.hideAll_get _ e λhm=>by have q:(H b).isSome=true:=(List.mem_filter.mp hm).2;rw[n] at q; simp at q
theorem Ao {o:Obj} (e:(gO h H).get? b=some o):h.get? b=some o/\H b=none:=by
 have e':h.get? b=some o:=PySem.W.of_hideAll (mL h H) e;refine#[e',?_];cases q:H b with
 | none=>rfl
 | some x =>
   have hm:b∈mL h H:=List.mem_filter.mpr #[LX.mpr (Ip e'),by simp [q]];have z:(gO h H).get? b=none:=PySem.W.hideAll_none (mL h H) hm;rw[z] at e; cases e
structure Mod (K:W.Frag) (mg:Str->Option Value) (base:Heap):Prop where
 kin:K.In base
 glob:base.Ns mainGlobals mg
 blt:∃mb,base.Ns builtinsNs mb/\∀x:Str,x≠"__name__"->mb x=bootBuiltins x
 nolimit:base.NoLimit
structure Cx where
 prog:Program
 w:World
 K:W.Frag
 mg:Str->Option Value
 base:Heap
 A:Around
 N:List Str
 s₀:Shared
 H₀:Hp
 env:Env
 outer:List Env
 stack:List Env
 ex:List Addr
 fn:Str->Bool
 calm:Bool
 pn:List (Addr×Obj)
 xe:Value->Shared->Prop
noncomputable def fO (l:List Env):List Addr:=l.filterMap (·.frame)
noncomputable abbrev Cx.fs (X:Cx):List Addr:=fO X.outer
noncomputable def lh (sc:Scope) (x:Str):Prop:=sc.names.lookup x=some .local\/sc.names.lookup x=some .cell\/sc.names.lookup x=some .free
noncomputable def jy (sc:Scope) (x:Str):Prop:=sc.names.lookup x=some .local\/sc.names.lookup x=some .cell
noncomputable def Hs (env:Env) (h:Heap) (m:Str->Option Value) (x:Str) (u:Value):Prop :=
 (env.kindOf x=some .local/\m x=some u)\/((env.kindOf x=some .cell\/env.kindOf x=some .free)/\∃c,env.cells.lookup x=some c/\h.IsCell c (some u))
structure Cx.Ok (X:Cx):Prop where
 mod:Mod X.K X.mg X.base
 kind:X.env.scope.kind=.function
 glob:X.env.globals=mainGlobals
 blt:X.env.builtins=builtinsNs
 above:X.s₀.heap.objs.size<=X.env.locals
 inj:∀x y c,X.env.cells.lookup x=some c->X.env.cells.lookup y=some c->x=y
 has:∀x,(X.env.kindOf x=some .cell\/X.env.kindOf x=some .free)->∃c,X.env.cells.lookup x=some c
 cab:∀x c,X.fn x=true->X.env.cells.lookup x=some c->X.s₀.heap.objs.size<=c
 hd:X.calm=true->X.A.handled=none
 frames:X.A.frames=some X.stack
 stk:X.stack=X.outer\/(X.stack=X.env :: X.outer/\X.env.frame=some X.env.locals)
 exf:∀b∈X.ex,b≠X.env.locals/\∀x c,X.env.cells.lookup x=some c->c≠b
 bs:∀b o,X.base.get? b=some o->X.s₀.heap.get? b=some o/\X.H₀ b=none
 bsz:X.base.objs.size<=X.s₀.heap.objs.size
 noex:∀b o,X.base.get? b=some o->b ∉ X.ex
 exfs:∀b∈X.ex,b ∉ X.fs
 funs:X.s₀.heap.FunFrames X.base X.outer
 frf:∀b∈X.fs,X.H₀ b=none
structure Inv (X:Cx) (pins:List (Addr×Obj)) (σ:List (Option V)) (H:Hp) (s:Shared):Prop where
 ok:X.Ok
 os:s.os=X.s₀.os
 bare:AllBare s.gens
 base:Un X.fs X.ex X.H₀ H X.s₀.heap s.heap
 loc:∃m,s.heap.Ns X.env.locals m/\∀(i:Nat) (x:Str) (v:V),X.N[i]?=some x->σ[i]?=some (some v)->lh X.env.scope x->∃u,bE v u/\Hs X.env s.heap m x u
 cell:∀x c,X.env.cells.lookup x=some c->∃v,s.heap.IsCell c v
 free:H X.env.locals=none
 freeC:∀x c,X.env.cells.lookup x=some c->H c=none
 pin:∀p∈X.pn++pins,s.heap.get? p.1=some p.2/\H p.1=none/\p.1≠X.env.locals/\p.1 ∉ X.fs/\∀v,p.2.data≠.cell v
 hok:c9 X.prog X.w H s.heap
 len:σ.length=X.N.length
variable {u:Value} {t':Nat} {x:Str} {M:Model} {A:Around} {E:Value->Shared->Prop} {v:V}
section
variable {X:Cx} {pins:List (Addr×Obj)} {σ:List (Option V)} {H H':Hp} {s:Shared} {h':Heap}
theorem Cx.Ok.nofr (ok:X.Ok) {o:Obj} (e:X.base.get? b=some o):b ∉ X.fs:=λhb=>by have:=(ok.funs.mem hb).1;rw[e] at this; cases this
theorem Inv.bs (I:Inv X pins σ H s):∀b o,X.base.get? b=some o->s.heap.get? b=some o/\H b=none:=λb o e =>
 #[I.base.keep b o (I.ok.bs b o e).1 (I.ok.bs b o e).2 (I.ok.nofr e) (I.ok.noex b o e),I.base.free b o (I.ok.bs b o e).1 (I.ok.bs b o e).2 (I.ok.noex b o e)]
theorem Inv.bk (I:Inv X pins σ H s):∀b o,X.base.get? b=some o->s.heap.get? b=some o:=λb o e=>(I.bs b o e).1
theorem Inv.mod (I:Inv X pins σ H s):Mod X.K X.mg X.base:=I.ok.mod
theorem Inv.kIn (I:Inv X pins σ H s):X.K.In s.heap:=I.ok.mod.kin.keeps I.bk
theorem Inv.fr (I:Inv X pins σ H s):∃m,Fr X.base X.env.locals s.heap m :=
 let ⟨m,hn,_⟩:=I.loc
 #[m,hn,I.bk,J7 I.ok.bsz I.ok.above]
theorem Inv.lt (I:Inv X pins σ H s):X.env.locals<s.heap.objs.size:=let ⟨_,hn,_⟩:=I.loc; hn.lt
theorem Inv.sz (I:Inv X pins σ H s):X.s₀.heap.objs.size<=s.heap.objs.size:=J7 I.ok.above (LH I.lt)
theorem Inv.nofs (I:Inv X pins σ H s) {a:Addr} (h:s.heap.objs.size<=a):a ∉ X.fs:=λhb=>by obtain⟨_,o,ho,_⟩:=I.ok.funs.mem hb;exact absurd (J1 (Ip ho) (J7 I.sz h)) (JN _)
theorem Inv.cne (I:Inv X pins σ H s):∀x c,X.env.cells.lookup x=some c->c≠X.env.locals:=λx c e z=>by obtain⟨v,o,ho,hd⟩:=I.cell x c e;obtain⟨m,⟨o',es,ep,ho',hd',_⟩,_⟩:=I.loc;rw[z,ho'] at ho; cases ho; rw[hd'] at hd; cases hd
theorem Inv.funs (I:Inv X pins σ H s):s.heap.FunFrames X.base X.outer:=by
 have all:∀(l:List Env),(∀b∈fO l,b∈X.fs)->X.s₀.heap.FunFrames X.base l->s.heap.FunFrames X.base l:=by
   intro l
   induction l with
   | nil=>intro _ _; trivial
   | cons env r ih =>
     intro hs hl;obtain⟨hk,⟨L,o,hf,hn,ho,hd⟩,hr⟩:=hl;have hL:L∈X.fs:=hs L (by unfold fO; rw[Kv,hf]; exact Ii);obtain⟨sl,e⟩:=I.base.slot L o ho (I.ok.frf L hL) hL λz=>I.ok.exfs L z hL;exact#[hk,#[L,_,hf,hn,e,hd],ih (λb hb=>hs b (by unfold fO; rw[Kv,hf]; exact Im _ hb)) hr]
 exact all X.outer (λ_ hb=>hb) I.ok.funs
theorem Inv.stack (I:Inv X pins σ H s):s.heap.FunFrames X.base X.stack:=by
 rcases I.ok.stk with e|⟨e,hf⟩
 . rw[e]; exact I.funs
 . rw[e];obtain⟨m,hn,_⟩:=I.loc;refine .cons (by rw[I.ok.kind]; decide) hf hn ?_ I.funs;exact Heap.get?_none_of_le (J7 I.ok.bsz I.ok.above)
theorem Inv.stkSub (I:Inv X pins σ H s):∀b∈fO X.stack,b∈X.env.locals :: X.fs:=λb hb=>by
 rcases I.ok.stk with e|⟨e,hf⟩
 . rw[e] at hb; exact Im _ hb
 . rw[e] at hb;unfold fO at hb;rw[Kv,hf] at hb;exact hb
theorem Inv.stkFree (I:Inv X pins σ H s):∀b∈fO X.stack,H b=none:=λb hb=>by
 rcases Io.mp (I.stkSub b hb) with e|hb
 . rw[e]; exact I.free
 . obtain⟨_,o,ho,_⟩:=I.ok.funs.mem hb;exact I.base.free b o ho (I.ok.frf b hb) λz=>I.ok.exfs b z hb
theorem Inv.step {g':Array GenState} {d':Drawn} {ch:List Addr} (I:Inv X pins σ H s)
   (hch:∀b∈ch,(b∈X.ex\/X.s₀.heap.objs.size<=b)/\b≠X.env.locals/\(∀x c,X.env.cells.lookup x=some c->c≠b)/\∀p∈X.pn++pins,p.1≠b)
   (keep:∀b o,b≠X.env.locals->b ∉ X.fs->b ∉ ch->s.heap.get? b=some o->H b=none->h'.get? b=some o)
   (slot:∀b o,b≠X.env.locals->b∈X.fs->b ∉ ch->s.heap.get? b=some o->H b=none->∃sl,h'.get? b=some { o with slots:=sl }) (free:∀b o,b ∉ ch->s.heap.get? b=some o->H b=none->H' b=none)
   (there:∀b o,b ∉ ch->s.heap.get? b=some o->∃o',h'.get? b=some o')
   (tups:∀b xs,H b=some (.tup xs)->H' b=some (.tup xs)) (frzs:∀b o u,H b=some (.frz o u)->H' b=some (.frz o u)) (tbls:∀b ps,H b=some (.tbl ps)->∃more,H' b=some (.tbl (ps++more)))
   (ns:∀m,s.heap.Ns X.env.locals m->h'.Ns X.env.locals m) (hok:c9 X.prog X.w H' h') (hg:AllBare g') :
   Inv X pins σ H' { s with heap:=h',gens:=g',drawn:=d',toks:=t' }:=by
 have neL:∀b o,X.s₀.heap.get? b=some o->b≠X.env.locals:=λb o e=>J8 (J1 (Ip e) I.ok.above);have neC:∀b o,X.s₀.heap.get? b=some o->b ∉ X.ex->b ∉ ch:=λb o e hx hb=>by
   rcases (hch b hb).1 with z|z
   . exact hx z
   . exact absurd (J1 (Ip e) z) (JN _)
 have cellK:∀x c,X.env.cells.lookup x=some c->∀v,s.heap.IsCell c v->h'.IsCell c v:=λx c e v ⟨o,ho,hd⟩=>by
   have nch:c ∉ ch:=λz=>(hch c z).2.2.1 x c e rfl;by_cases hc:c∈X.fs
   . obtain⟨sl,q⟩:=slot c o (I.cne x c e) hc nch ho (I.freeC x c e);exact#[_,q,hd]
   . exact#[o,keep c o (I.cne x c e) hc nch ho (I.freeC x c e),hd]
 refine#[I.ok,I.os,hg,#[λb o e n hb hx=>?_,λb o e n hb hx=>?_,λb o e n hx=>?_,λb o e hx=>?_,λb xs e=>tups b xs (I.base.tups b xs e),λb o xs e=>frzs b o xs (I.base.frzs b o xs e),λb ps e=>?_],?_,λx c e=>?_,?_,λx c e=>?_,λp hp=>?_,hok,I.len]
 . exact keep b o (neL b o e) hb (neC b o e hx) (I.base.keep b o e n hb hx) (I.base.free b o e n hx)
 . obtain⟨sl,e1⟩:=I.base.slot b o e n hb hx;obtain⟨sl',e2⟩:=slot b _ (neL b o e) hb (neC b o e hx) e1 (I.base.free b o e n hx);exact#[sl',e2]
 . obtain⟨o',e1⟩:=I.base.there b o e hx;exact free b o' (neC b o e hx) e1 (I.base.free b o e n hx)
 . obtain⟨o',e1⟩:=I.base.there b o e hx;exact there b o' (neC b o e hx) e1
 . obtain⟨m1,e1⟩:=I.base.tbls b ps e;obtain⟨m2,e2⟩:=tbls b _ e1;exact#[m1++m2,by rw[e2,Array.append_assoc]]
 . obtain⟨m,hn,hl⟩:=I.loc;refine#[m,ns m hn,λi x v e1 e2 e3=>?_];obtain⟨u,r,l⟩:=hl i x v e1 e2 e3;refine#[u,r,?_];rcases l with l|⟨k,c,e,z⟩
   . exact .inl l
   . exact .inr #[k,c,e,cellK x c e _ z]
 . obtain⟨v,z⟩:=I.cell x c e;exact#[v,cellK x c e v z]
 . obtain⟨m,⟨o,_,_,ho,_⟩,_⟩:=I.loc;exact free _ o (λz=>(hch _ z).2.1 rfl) ho I.free
 . obtain⟨v,o,ho,hd⟩:=I.cell x c e;exact free c o (λz=>(hch c z).2.2.1 x c e rfl) ho (I.freeC x c e)
 . obtain⟨e,n,ne,nf,d⟩:=I.pin p hp;have nch:p.1 ∉ ch:=λz=>(hch p.1 z).2.2.2 p hp rfl;exact#[keep p.1 p.2 ne nf nch e n,free p.1 p.2 nch e n,ne,nf,d]
theorem Inv.un (I:Inv X pins σ H s) (u:Un X.fs [] H H' s.heap h') (hok:c9 X.prog X.w H' h'):Inv X pins σ H' { s with heap:=h',toks:=t' }:=by
 obtain⟨m,⟨o,es,ep,ho,r⟩,_⟩:=id I.loc;obtain⟨sl,hL⟩:=u.any ho I.free (by simp);exact I.step (g':=s.gens) (d':=s.drawn) (ch:=[]) (λ_ z=>nomatch z) (λb o _ hb _ e n=>u.keep b o e n hb (by simp)) (λb o _ hb _ e n=>u.slot b o e n hb (by simp)) (λb o _ e n=>u.free b o e n (by simp)) (λb o _ e=>u.there b o e (by simp)) u.tups u.frzs u.tbls (λm' hm=>by obtain⟨o',es',ep',ho',r'⟩:=hm;rw[ho] at ho'; cases ho';exact#[_,es',ep',hL,r']) hok I.bare
theorem Inv.call {g':Array GenState} {d':Drawn} {ch:List Addr} (I:Inv X pins σ H s) (u:Un (fO X.stack) ch H H' s.heap h') (hok:c9 X.prog X.w H' h') (hg:AllBare g')
   (hch:∀b∈ch,(b∈X.ex\/X.s₀.heap.objs.size<=b)/\b≠X.env.locals/\(∀x c,X.env.cells.lookup x=some c->c≠b)/\∀p∈X.pn++pins,p.1≠b) :
   Inv X pins σ H' { s with heap:=h',gens:=g',drawn:=d',toks:=t' }:=by
 obtain⟨m,⟨o,es,ep,ho,r⟩,_⟩:=id I.loc;obtain⟨sl,hL⟩:=u.any ho I.free λz=>(hch _ z).2.1 rfl;exact I.step (ch:=ch) hch (λb o hL hb hc e n=>u.keep b o e n (λz=>(Io.mp (I.stkSub b z)).elim hL hb) hc) (λb o _ _ hc e n=>u.any e n hc) (λb o hc e n=>u.free b o e n hc) (λb o hc e=>u.there b o e hc) u.tups u.frzs u.tbls (λm' hm=>by obtain⟨o',es',ep',ho',r'⟩:=hm;rw[ho] at ho'; cases ho';exact#[_,es',ep',hL,r']) hok hg
theorem Inv.turned {it:Addr} (I:Inv X pins σ H s) (k:∀b o,b≠it->s.heap.get? b=some o->h'.get? b=some o) (hn:H it=none) (hL:it≠X.env.locals)
   (h1:it∈X.ex\/X.s₀.heap.objs.size<=it) (h2:∀x c,X.env.cells.lookup x=some c->c≠it) (h3:∀p∈X.pn++pins,p.1≠it):Inv X pins σ H { s with heap:=h',toks:=t' }:=by
 have nit:∀b u,H b=some u->b≠it:=λb u e z=>by rw[z,hn] at e; cases e
 refine I.step (g':=s.gens) (d':=s.drawn) (ch:=[it]) (λb hb=>?_) (λb o _ _ hc e _=>k b o (λz=>hc (by simp [z])) e) (λb o _ _ hc e _=>#[o.slots,k b o (λz=>hc (by simp [z])) e]) (λ_ _ _ _ n=>n)
   (λb o hc e=>#[o,k b o (λz=>hc (by simp [z])) e]) (λ_ _ e=>e) (λ_ _ _ e=>e) (λb ps e=>#[(List.toArray []),by rw[e]; simp]) (λm hm=>?_) (λb u e=>?_) I.bare
 . have e:b=it:=by simpa using hb
   subst e;exact#[h1,hL,h2,h3]
 . obtain⟨o,es,ep,ho,r⟩:=hm;exact#[o,es,ep,k _ o (Ne.symm hL) ho,r]
 . refine(I.hok b u e).stay (λc v hc q=>k c v ?_ q) (λ_ q=>q) λ_ _ q=>q;rcases hc with z|z
   . rw[z]; exact nit b u e
   . exact nit c _ z
theorem Inv.tok (I:Inv X pins σ H s) (t:Nat):Inv X pins σ H { s with toks:=t }:=I.un (h':=s.heap) (t':=t) Un.refl I.hok
theorem Inv.kept {t':Nat} (I:Inv X pins σ H s) (k:∀b u,s.heap.get? b=some u->h'.get? b=some u):Inv X pins σ H { s with heap:=h',toks:=t' }:=I.un (Un.kept k) (I.hok.kept k)
theorem Inv.laid {a:Addr} {o:HO} {t':Nat} (I:Inv X pins σ H s) (k:∀b u,s.heap.get? b=some u->h'.get? b=some u) (hp:s.heap.objs.size<=a) (new:cF X.prog X.w (upd H a o) h' a o) :
   Inv X pins σ (upd H a o) { s with heap:=h',toks:=t' }:=I.un (Un.laid k hp (I.hok.fresh hp)) (I.hok.laid k hp new)
theorem Inv.write {x e:Addr} {o:HO} {t':Nat} (I:Inv X pins σ H s) (mu:kC (H x)) (he:e=x\/H e=some (.own x)) (k:∀b u,b≠e->s.heap.get? b=some u->h'.get? b=some u) (heo:∃u,h'.get? e=some u)
   (new:cF X.prog X.w (upd H x o) h' x o):Inv X pins σ (upd H x o) { s with heap:=h',toks:=t' }:=I.un (Un.write mu he k heo) (I.hok.write mu he k heo new)
theorem Inv.weak {σ':List (Option V)} (I:Inv X pins σ H s) (hl:σ'.length=σ.length) (w:∀(i:Nat) v,σ'[i]?=some (some v)->σ[i]?=some (some v)):Inv X pins σ' H s :=
 #[I.ok,I.os,I.bare,I.base,let ⟨m,hn,hl'⟩:=I.loc; #[m,hn,λi x v e1 e2 e3=>hl' i x v e1 (w i v e2) e3],I.cell,I.free,I.freeC,I.pin,I.hok,hl.trans I.len]
theorem Inv.pins_of {pins':List (Addr×Obj)} (I:Inv X pins σ H s) (h:∀p∈pins',s.heap.get? p.1=some p.2/\H p.1=none/\p.1≠X.env.locals/\p.1 ∉ X.fs/\∀v,p.2.data≠.cell v):Inv X pins' σ H s :=
 #[I.ok,I.os,I.bare,I.base,I.loc,I.cell,I.free,I.freeC,λp hp=>(Iv.mp hp).elim (λz=>I.pin p (KG _ z)) (h p),I.hok,I.len]
theorem wM {N:List Str} (hN:N.Nodup) {i j:Nat} (a:N[i]?=some x) (b:N[j]?=some x):i=j:=by obtain⟨h1,e1⟩:=Ic.mp a;obtain⟨h2,e2⟩:=Ic.mp b;exact(List.getElem_inj hN).mp (e1.trans e2.symm)
theorem tt {i:Nat} {Q:Unit->Shared->Prop} (I:Inv X pins σ H s) (hN:X.N.Nodup) (hi:X.N[i]?=some x) (hx:jy X.env.scope x) (r:bE v u)
   (h:∀s',Inv X pins (σ.set i (some v)) H s'->(∃a,Heap.SameBut a s.heap s'.heap/\(a=X.env.locals\/X.env.cells.lookup x=some a))->Q () s') (hf:X.fn x=true\/X.env.scope.names.lookup x=some .local:=by first|exact .inl rfl|exact .inr rfl|assumption):wpAny M A (storeName X.env x u) Q E s:=by
 obtain⟨m,hn,hl⟩:=id I.loc;have hcls:(X.env.scope.kind==.class || (X.env.scope.kind==.module&&X.env.locals != X.env.globals))=false:=by rw[I.ok.kind]; rfl
 have hiσ:i<σ.length:=by rw[I.len]; exact(Ic.mp hi).1
 have cne:=I.cne;have tracked:∀{a:Addr} {h':Heap},(∃o,s.heap.get? a=some o/\H a=none)->Heap.SameBut a s.heap h'->c9 X.prog X.w H h':=λ{a h'} ha hs b ob e=>by
   obtain⟨_,_,hfree⟩:=ha;refine(I.hok b ob e).stay (λc w' hc q=>(hs.2 c ?_).trans q) (λ_ q=>q) λ_ _ q=>q;rintro rfl;rcases hc with rfl|hc
   . rw[hfree] at e; cases e
   . rw[hfree] at hc; cases hc
 rcases hx with hk|hk
 . refine wpAny_storeName_local hk hn (λh' hn' hs=>?_) hcls;obtain⟨oL,_,_,hoL,_⟩:=id hn;refine h _ #[I.ok,I.os,I.bare,#[λb o e n hb hx=>?_,λb o e n hb hx=>?_,I.base.free,λb o e hx=>?_,I.base.tups,I.base.frzs,I.base.tbls],#[_,hn',λj y v' e1 e2 e3=>?_],λy c e=>?_,I.free,I.freeC,λp hp=>?_,tracked #[oL,hoL,I.free] hs,by simpa using I.len] #[_,hs,.inl rfl]
   . exact(hs.2 b (J8 (J1 (Ip e) I.ok.above))).trans (I.base.keep b o e n hb hx)
   . obtain⟨sl,e1⟩:=I.base.slot b o e n hb hx;exact#[sl,(hs.2 b (J8 (J1 (Ip e) I.ok.above))).trans e1]
   . obtain⟨o',e1⟩:=I.base.there b o e hx;exact#[o',(hs.2 b (J8 (J1 (Ip e) I.ok.above))).trans e1]
   . by_cases hj:j=i
     . subst hj;rw[hi] at e1; cases e1;rw[Jv hiσ] at e2;cases e2;exact#[u,r,.inl #[hk,by simp]]
     . rw[K3 (Ne.symm hj)] at e2;obtain⟨u',r',q⟩:=hl j y v' e1 e2 e3;refine#[u',r',?_];rcases q with⟨k,e⟩|⟨k,c,e,z⟩
       . refine .inl #[k,?_];have:y≠x:=λe=>hj (wM hN e1 (e ▸ hi));simp [this,e]
       . exact .inr #[k,c,e,z.sameBut hs (cne y c e)]
   . obtain⟨w',z⟩:=I.cell y c e;exact#[w',z.sameBut hs (cne y c e)]
   . obtain⟨e,n,ne,nf,d⟩:=I.pin p hp;exact#[(hs.2 p.1 ne).trans e,n,ne,nf,d]
 . have hfn:X.fn x=true:=by
     rcases hf with z|z
     . exact z
     . rw[z] at hk; cases hk
   obtain⟨c,hc⟩:=I.ok.has x (.inl hk);obtain⟨w',z⟩:=I.cell x c hc;refine wpAny_storeName_cell I.ok.kind hk hc z (λh' hc' hs=>?_);obtain⟨oc,hoc,hocd⟩:=id z;refine h { s with heap:=h' } #[I.ok,I.os,I.bare,#[λb o e n hb hx=>?_,λb o e n hb hx=>?_,I.base.free,λb o e hx=>?_,I.base.tups,I.base.frzs,I.base.tbls],#[m,hn.sameBut hs (Ne.symm (cne x c hc)),λj y v' e1 e2 e3=>?_],λy c' e=>?_,I.free,I.freeC,λp hp=>?_,tracked #[oc,hoc,I.freeC x c hc] hs,by simpa using I.len] #[c,hs,.inr hc]
   . exact(hs.2 b (J8 (J1 (Ip e) (I.ok.cab x c hfn hc)))).trans (I.base.keep b o e n hb hx)
   . obtain⟨sl,e1⟩:=I.base.slot b o e n hb hx;exact#[sl,(hs.2 b (J8 (J1 (Ip e) (I.ok.cab x c hfn hc)))).trans e1]
   . obtain⟨o',e1⟩:=I.base.there b o e hx;exact#[o',(hs.2 b (J8 (J1 (Ip e) (I.ok.cab x c hfn hc)))).trans e1]
   . by_cases hj:j=i
     . subst hj;rw[hi] at e1; cases e1;rw[Jv hiσ] at e2;cases e2;exact#[u,r,.inr #[.inl hk,c,hc,hc']]
     . rw[K3 (Ne.symm hj)] at e2;obtain⟨u',r',q⟩:=hl j y v' e1 e2 e3;refine#[u',r',?_];rcases q with q|⟨k,c',e,z'⟩
       . exact .inl q
       . refine .inr #[k,c',e,z'.sameBut hs ?_];rintro rfl;exact hj (wM hN e1 (I.ok.inj _ _ _ e hc ▸ hi))
   . by_cases hcc:c'=c
     . subst hcc; exact#[_,hc']
     . obtain⟨w2,z2⟩:=I.cell y c' e;exact#[w2,z2.sameBut hs hcc]
   . obtain⟨e,n,ne,nf,d⟩:=I.pin p hp;refine#[(hs.2 p.1 ?_).trans e,n,ne,nf,d];intro q;rw[q,hoc] at e;have q':oc=p.2:=Option.some.inj e;exact d w' (by rw[<- q']; exact hocd)
theorem wJ {i:Nat} {Q:Unit->Shared->Prop} (I:Inv X pins σ H s) (hN:X.N.Nodup) (hi:X.N[i]?=some x) (hx:jy X.env.scope x) (r:bE v u)
   (h:∀s',Inv X pins (σ.set i (some v)) H s'->Q () s') (hf:X.fn x=true\/X.env.scope.names.lookup x=some .local:=by first|exact .inl rfl|exact .inr rfl|assumption):wpAny M A (storeName X.env x u) Q E s :=
 tt I hN hi hx r (λs' I' _=>h s' I') hf
theorem Inv.call' {s':Shared} {ch:List Addr} (I:Inv X pins σ H s) (ho:s'.os=s.os) (u:Un (fO X.stack) ch H H' s.heap s'.heap) (hok:c9 X.prog X.w H' s'.heap) (hg:AllBare s'.gens)
   (hch:∀b∈ch,(b∈X.ex\/X.s₀.heap.objs.size<=b)/\b≠X.env.locals/\(∀x c,X.env.cells.lookup x=some c->c≠b)/\∀p∈X.pn++pins,p.1≠b):Inv X pins σ H' s':=by
 obtain⟨h',g',d',t',o'⟩:=s';have e:o'=s.os:=ho;subst e;exact I.call (g':=g') (t':=t') (d':=d') u hok hg hch
end
noncomputable abbrev XK:=Value->Option Addr->Hp->Prop
noncomputable abbrev St:=List (Option V)
noncomputable abbrev VK:=V->Hp->Prop
noncomputable abbrev TE:=St->Hp->VK->Prop
noncomputable abbrev TT:=St->Hp->(Bool->Hp->Prop)->Prop
noncomputable abbrev TA:=St->Hp->(List V->Hp->Prop)->Prop
structure c8 where
 nx:St->Hp->Prop
 rt:VK
 bk:St->Hp->Prop:=λ_ _=>False
 ct:St->Hp->Prop:=λ_ _=>False
noncomputable abbrev TS:=c8->St->Hp->Prop
noncomputable def EP (X:Cx) (pins:List (Addr×Obj)) (σ:St) (Q:VK) (u:Value) (s':Shared):Prop:=∃v H',Inv X pins σ H' s'/\bE v u/\Q v H'
noncomputable def TP (X:Cx) (pins:List (Addr×Obj)) (σ:St) (Q:Bool->Hp->Prop) (b:Bool) (s':Shared):Prop:=∃H',Inv X pins σ H' s'/\Q b H'
noncomputable def AP (X:Cx) (pins:List (Addr×Obj)) (σ:St) (Q:List V->Hp->Prop) (us:List Value) (s':Shared):Prop:=∃vs H',Inv X pins σ H' s'/\ax vs us/\Q vs H'
noncomputable def SP (X:Cx) (pins:List (Addr×Obj)) (D:c8) (f:Flow) (s':Shared):Prop :=
 match f with
 | .next=>∃σ' H',Inv X pins σ' H' s'/\D.nx σ' H'
 | .brk=>∃σ' H',Inv X pins σ' H' s'/\D.bk σ' H'
 | .cont=>∃σ' H',Inv X pins σ' H' s'/\D.ct σ' H'
 | .ret u=>∃v σ' H',Inv X pins σ' H' s'/\bE v u/\D.rt v H'
noncomputable def PE (X:Cx) (e:Expr) (t:TE):Prop :=
 ∀(pins:List (Addr×Obj)) (s:Shared) (σ:St) (H:Hp) (Q:VK),Inv X pins σ H s->t σ H Q->wpAny (model X.prog X.w) X.A (eval e X.env) (EP X pins σ Q) X.xe s
noncomputable def PT (X:Cx) (e:Expr) (t:TT):Prop :=
 ∀(pins:List (Addr×Obj)) (s:Shared) (σ:St) (H:Hp) (Q:Bool->Hp->Prop),Inv X pins σ H s->t σ H Q->wpAny (model X.prog X.w) X.A (isTrue e X.env (eval e X.env)) (TP X pins σ Q) X.xe s
noncomputable def PW (X:Cx) (e:Expr) (t:TT):Prop :=
 ∀(whole:Sem Value) (pins:List (Addr×Obj)) (s:Shared) (σ:St) (H:Hp) (Q:Bool->Hp->Prop),Inv X pins σ H s->t σ H Q->wpAny (model X.prog X.w) X.A (isTrue e X.env whole) (TP X pins σ Q) X.xe s
theorem PW.pt {X:Cx} {e:Expr} {t:TT} (h:PW X e t):PT X e t:=h _
noncomputable def PA (X:Cx) (es:List Expr) (t:TA):Prop :=
 ∀(pos:Pos) (pins:List (Addr×Obj)) (s:Shared) (σ:St) (H:Hp) (Q:List V->Hp->Prop),Inv X pins σ H s->t σ H Q->wpAny (model X.prog X.w) X.A (spliced (backTo pos (starEach es X.env))) (AP X pins σ Q) X.xe s
noncomputable def PS (X:Cx) (st:Stmt) (t:TS):Prop :=
 ∀(pins:List (Addr×Obj)) (s:Shared) (σ:St) (H:Hp) (D:c8),Inv X pins σ H s->t D σ H->wpAny (model X.prog X.w) X.A (exec st X.env) (SP X pins D) X.xe s
noncomputable def bQ (X:Cx) (st:List Stmt) (t:TS):Prop :=
 ∀(pins:List (Addr×Obj)) (s:Shared) (σ:St) (H:Hp) (D:c8),Inv X pins σ H s->t D σ H->wpAny (model X.prog X.w) X.A (execs st X.env) (SP X pins D) X.xe s
variable {s:Shared}
theorem am {α:Type} {t:Sem α} {Q Q':α->Shared->Prop} (h:wpAny M A t Q E s) (hQ:∀a s,Q a s->Q' a s):wpAny M A t Q' E s:=KS h hQ λ_ _ x=>x
variable {pos:Pos} {pins:List (Addr×Obj)} {σ:St} {op:CmpOp}
section
variable {X:Cx}
noncomputable def xA (i:Nat):TE:=λσ H Q=>∃v,σ[i]?=some (some v)/\Q v H
noncomputable def tC (v:V):TE:=λ_ H Q=>Q v H
theorem DD {i:Nat} (hN:X.N[i]?=some x) (hv:lh X.env.scope x) (hd:(x==("__debug__":Str))=false:=by decide) (hcd:(x==("__classdict__":Str))=false:=by decide):PE X (.Name x pos) (xA i):=by
 intro pins s σ H Q I h;obtain⟨v,e,h⟩:=h;obtain⟨m,hn,hl⟩:=I.loc;obtain⟨u,r,l⟩:=hl i x v hN e hv;have fin:EP X pins σ Q u s:=#[v,H,I,r,h]
 rcases l with⟨hk,hm⟩|⟨hk,c,hc,hcell⟩
 . exact wpAny_Name (wpAny_loadName_local I.ok.kind hk hn hm fin) hd
 . rcases hk with hk|hk
   . exact wpAny_Name (wpAny_loadName_cell I.ok.kind hk hc hcell fin) hd
   . exact wpAny_Name (wpAny_loadName_free I.ok.kind hk hc hcell fin hcd) hd
theorem aD {i j pos}:PE X (.Constant (.int i) j pos) (tC (.int i)):=λ_ _ _ H _ I h=>wpAny_Constant_int #[.int i,H,I.tok _,#[_,rfl],h]
theorem dL {b j pos}:PE X (.Constant (.bool b) j pos) (tC (.bl b)):=λ_ _ _ H _ I h=>Constant_bool #[.bl b,H,I,rfl,h]
theorem eK {j pos}:PE X (.Constant .none j pos) (tC .non):=λ_ _ _ H _ I h=>Constant_none #[.non,H,I,rfl,h]
theorem aS {x j pos}:PE X (.Constant (.str x) j pos) (tC (.str x)):=λ_ _ _ H _ I h=>Calls.Constant_str #[.str x,H,I.tok _,#[_,rfl],h]
noncomputable def Gl (X:Cx) (x:Str):Prop:=X.env.kindOf x=some .globalImplicit
theorem ql {Q:Value->Shared->Prop} (I:Inv X pins σ H s) (hg:Gl X x) (hm:X.mg x=some u) (h:Q u s)
   (hd:(x==("__debug__":Str))=false:=by decide):wpAny (model X.prog X.w) X.A (eval (.Name x pos) X.env) Q E s :=
 Calls.Name_function_global I.ok.kind hg (Calls.loadGlobal_global (by rw[I.ok.glob]; exact I.mod.glob.keeps I.bk) hm h) hd
theorem gE {Q:Value->Shared->Prop} (I:Inv X pins σ H s) (hg:Gl X x) (hm:X.mg x=none) (hv:bootBuiltins x=some u) (h:Q u s)
   (hn:x≠"__name__":=by decide) (hd:(x==("__debug__":Str))=false:=by decide):wpAny (model X.prog X.w) X.A (eval (.Name x pos) X.env) Q E s:=by
 obtain⟨mb,h1,h2⟩:=I.mod.blt;exact Calls.Name_function_global I.ok.kind hg (Calls.loadGlobal_builtin (by rw[I.ok.glob]; exact I.mod.glob.keeps I.bk) hm (by rw[I.ok.blt]; exact h1.keeps I.bk) ((h2 x hn).trans hv) h) hd
theorem sJ (hg:Gl X x) (hm:X.mg x=some u) (r:bE v u) (hd:(x==("__debug__":Str))=false:=by decide):PE X (.Name x pos) (tC v) :=
 λ_ _ _ H _ I h=>ql I hg hm #[v,H,I,r,h] hd
theorem mK (hg:Gl X x) (hm:X.mg x=none) (hv:bootBuiltins x=some u) (r:bE v u) (hn:x≠"__name__":=by decide) (hd:(x==("__debug__":Str))=false:=by decide):PE X (.Name x pos) (tC v) :=
 λ_ _ _ H _ I h=>gE I hg hm hv #[v,H,I,r,h] hn hd
variable {a b:Expr} {ta tb:TE} {pos:Pos}
noncomputable def PC (X:Cx) (op:CmpOp) (a b:Expr) (t:TE):Prop :=
 ∀(pins:List (Addr×Obj)) (s:Shared) (σ:St) (H:Hp) (Q:VK),Inv X pins σ H s->t σ H Q ->
   wpAny (model X.prog X.w) X.A (eval a X.env) (λv s₁=>wpAny (model X.prog X.w) X.A (eval b X.env) (λu s₂=>wpAny (model X.prog X.w) X.A (compareOp op v u) (EP X pins σ Q) X.xe s₂) X.xe s₁) X.xe s
theorem wj (b:Expr) (h:op≠.In) (h2:op≠.NotIn):behindInMarks op b=false:=by
 have e1:(op==CmpOp.In)=false:=by cases op <;> first|rfl|exact absurd rfl h
 have e2:(op==CmpOp.NotIn)=false:=by cases op <;> first|rfl|exact absurd rfl h2
 cases b <;> simp [behindInMarks,e1,e2]
noncomputable def F3 (ta:TE):TE:=λσ H Q=>ta σ H λx H1=>Q (.bl (decide (x=.non))) H1
noncomputable def Bw (ta:TE):TE:=λσ H Q=>ta σ H λx H1=>Q (.bl (!decide (x=.non))) H1
theorem bE.none_iff {x:V} {v:Value} (r:bE x v):(v==Value.none)=decide (x=.non):=by
 cases x with
 | non=>cases r; rfl
 | bl _=>cases r; rfl
 | int _=>obtain⟨t,rfl⟩:=r; rfl
 | str _=>obtain⟨t,rfl⟩:=r; rfl
 | byt _=>obtain⟨t,rfl⟩:=r; rfl
 | flt _=>obtain⟨t,rfl⟩:=r; rfl
 | ref _=>cases r; rfl
 | ty _=>cases r; rfl
theorem oH {j pos'} (ha:PE X a ta):PC X .Is a (.Constant .none j pos') (F3 ta):=by intro pins s σ H Q I h;refine am (ha pins s σ H _ I h) λv s1 ⟨x,H1,I1,r1,q1⟩=>?_;exact Constant_none (is_none_gen #[.bl _,H1,I1,by rw[r1.none_iff]; rfl,q1])
theorem g9 {j pos'} (ha:PE X a ta):PC X .IsNot a (.Constant .none j pos') (Bw ta):=by intro pins s σ H Q I h;refine am (ha pins s σ H _ I h) λv s1 ⟨x,H1,I1,r1,q1⟩=>?_;exact Constant_none (isnot_none_gen #[.bl _,H1,I1,by rw[r1.none_iff]; rfl,q1])
noncomputable def tB (t:TE):TT:=λσ H Q=>t σ H λx H1=>∃c,x=.bl c/\Q c H1
theorem w4 {t:TE} (h:PC X op a b t) (h1:behindInMarks op b=false:=by first|exact wj _ (by decide) (by decide)|rfl):PE X (.Compare a [op] [b] pos) t:=λpins s σ H Q I hw=>wpAny_Compare1 (h pins s σ H Q I hw) h1
theorem fJ {t:TE} (h:PC X op a b t) (h1:behindInMarks op b=false:=by first|exact wj _ (by decide) (by decide)|rfl):PT X (.Compare a [op] [b] pos) (tB t):=by intro pins s σ H Q I hw;refine Kk (am (h pins s σ H _ I hw) λv s1 h1=>am h1 λu s2 h2=>am h2 λc s3 ⟨x,H1,I1,r1,q1⟩=>?_) h1;obtain⟨d,rfl,q⟩:=q1;cases r1;exact JW #[H1,I1,q]
variable {tA tB':TT} {rest:List Expr}
noncomputable def Es (t u:TT):TT:=λσ H Q=>t σ H λc H1=>if c=true then u σ H1 Q else Q false H1
noncomputable def tOr (t u:TT):TT:=λσ H Q=>t σ H λc H1=>if c=true then Q true H1 else u σ H1 Q
noncomputable def Gj (t:TT):TT:=λσ H Q=>t σ H λc H1=>Q (!c) H1
theorem dW (ha:PT X a tA):PW X (.BoolOp .And [a] pos) tA:=by
 intro wh pins s σ H Q I h;refine isTrue_and (am (ha pins s σ H Q I h) λc s1 e=>?_);cases c with
 | true=>exact isTrue_and_nil e
 | false=>exact e
theorem jx (ha:PT X a tA):PW X (.BoolOp .Or [a] pos) tA:=by
 intro wh pins s σ H Q I h;refine isTrue_or (am (ha pins s σ H Q I h) λc s1 e=>?_);cases c with
 | false=>exact isTrue_or_nil e
 | true=>exact e
theorem dN (ha:PT X a tA) (hb:PW X (.BoolOp .And (b :: rest) pos) tB'):PW X (.BoolOp .And (a :: b :: rest) pos) (Es tA tB'):=by
 intro wh pins s σ H Q I h;refine isTrue_and (am (ha pins s σ H _ I h) λc s1 ⟨H1,I1,q1⟩=>?_);cases c with
 | true=>exact hb wh pins s1 σ H1 Q I1 q1
 | false=>exact#[H1,I1,q1]
theorem kU (ha:PT X a tA) (hb:PW X (.BoolOp .Or (b :: rest) pos) tB'):PW X (.BoolOp .Or (a :: b :: rest) pos) (tOr tA tB'):=by
 intro wh pins s σ H Q I h;refine isTrue_or (am (ha pins s σ H _ I h) λc s1 ⟨H1,I1,q1⟩=>?_);cases c with
 | true=>exact#[H1,I1,q1]
 | false=>exact hb wh pins s1 σ H1 Q I1 q1
theorem qr (ha:PT X a tA):PT X (.UnaryOp .Not a pos) (Gj tA):=by intro pins s σ H Q I h;exact isTrue_not (ha pins s σ H (λc H1=>Q (!c) H1) I h)
noncomputable def Dt (ta tb:TE):TE:=λσ H Q=>ta σ H λx H1=>∃c,x=.bl c/\if c=true then tb σ H1 Q else Q (.bl false) H1
noncomputable def Ha (ta tb:TE):TE:=λσ H Q=>ta σ H λx H1=>∃c,x=.bl c/\if c=true then Q (.bl true) H1 else tb σ H1 Q
noncomputable def Dp (ta:TE):TE:=λσ H Q=>ta σ H λx H1=>∃c,x=.bl c/\Q (.bl (!c)) H1
theorem i5 {op} {t:TE} (h:PE X a t):PE X (.BoolOp op [a] pos) t:=λpins s σ H Q I hw=>BoolOp_one (h pins s σ H Q I hw)
theorem gb (ha:PE X a ta) (hb:PE X (.BoolOp .And (b :: rest) pos) tb):PE X (.BoolOp .And (a :: b :: rest) pos) (Dt ta tb):=by
 intro pins s σ H Q I h;refine BoolOp_and (am (ha pins s σ H _ I h) λv s1 ⟨x,H1,I1,r1,q1⟩=>?_);obtain⟨c,rfl,q1⟩:=q1;cases r1;refine JW ?_;cases c with
 | true=>exact hb pins s1 σ H1 Q I1 q1
 | false=>exact#[.bl false,H1,I1,rfl,q1]
theorem DN (ha:PE X a ta) (hb:PE X (.BoolOp .Or (b :: rest) pos) tb):PE X (.BoolOp .Or (a :: b :: rest) pos) (Ha ta tb):=by
 intro pins s σ H Q I h;refine BoolOp_or (am (ha pins s σ H _ I h) λv s1 ⟨x,H1,I1,r1,q1⟩=>?_);obtain⟨c,rfl,q1⟩:=q1;cases r1;refine JW ?_;cases c with
 | false=>exact hb pins s1 σ H1 Q I1 q1
 | true=>exact#[.bl true,H1,I1,rfl,q1]
theorem Av (ha:PE X a ta):PE X (.UnaryOp .Not a pos) (Dp ta):=by intro pins s σ H Q I h;refine UnaryOp_ (am (ha pins s σ H _ I h) λv s1 ⟨x,H1,I1,r1,q1⟩=>?_);obtain⟨c,rfl,q1⟩:=q1;cases r1;exact not_of (JW #[.bl (!c),H1,I1,rfl,q1])
noncomputable def tIf (t:TT) (ta tb:TE):TE:=λσ H Q=>t σ H λc H1=>if c=true then ta σ H1 Q else tb σ H1 Q
theorem jA {c:Expr} (hc:PT X c tA) (ha:PE X a ta) (hb:PE X b tb):PE X (.IfExp c a b pos) (tIf tA ta tb):=by
 intro pins s σ H Q I h;refine wpAny_IfExp (am (hc pins s σ H _ I h) λd s1 ⟨H1,I1,q1⟩=>?_);cases d with
 | true=>exact ha pins s1 σ H1 Q I1 q1
 | false=>exact hb pins s1 σ H1 Q I1 q1
end
noncomputable def aJ (K:W.Frag) (H:Hp) (a:Addr) (xs:List V):Prop :=
 Rd H a (.lst xs) \/
   ∃(o:Obj) (its:Array Value) (n:Nat),K.lookup a=some o/\o.cls=.type "list"/\o.dict=none/\o.data=.seq its n/\its.size<=sizeLine/\ax xs its.toList
noncomputable def aF (K:W.Frag) (H:Hp) (a:Addr) (xs:List V):Prop :=
 Rd H a (.tup xs) \/
   ∃(o:Obj) (its:Array Value) (n:Nat),K.lookup a=some o/\o.cls=.type "tuple"/\o.data=.seq its n/\its.size<=sizeLine/\ax xs its.toList
noncomputable def Bn:Value->Option V
 | .none=>some .non
 | .bool b=>some (.bl b)
 | .int i _=>some (.int i)
 | .str x _=>some (.str x)
 | .bytes b _=>some (.byt b)
 | .float b _=>some (.flt b)
 | .ref a=>some (.ref a)
 | .type n=>some (.ty n)
 | _=>none
theorem bE.abs {x:V} (r:bE x u):Bn u=some x:=by
 cases x with
 | non=>cases r; rfl
 | bl _=>cases r; rfl
 | int _=>obtain⟨t,rfl⟩:=r; rfl
 | str _=>obtain⟨t,rfl⟩:=r; rfl
 | byt _=>obtain⟨t,rfl⟩:=r; rfl
 | flt _=>obtain⟨t,rfl⟩:=r; rfl
 | ref _=>cases r; rfl
 | ty _=>cases r; rfl
theorem bE.inj {x y:V} {u:Value} (r:bE x u) (q:bE y u):x=y:=Option.some.inj (r.abs.symm.trans q.abs)
theorem ax.inj:∀{xs ys:List V} {us:List Value},ax xs us->ax ys us->xs=ys
 | _,_,_,.nil,.nil=>rfl
 | _,_,_,.cons r t,.cons r' t'=>by rw[r.inj r',ax.inj t t']
variable {K:W.Frag}
section
variable {X:Cx} {pins:List (Addr×Obj)} {σ:St} {H:Hp} {s:Shared} {a:Addr} {xs ys:List V}
theorem aJ.of (h:H a=some (.lst xs)):aJ K H a xs:=.inl (.inl h)
theorem aF.of (h:H a=some (.tup xs)):aF K H a xs:=.inl (.inl h)
theorem Inv.list (I:Inv X pins σ H s) (h:aJ X.K H a xs):∃its:List Value,ax xs its/\PlainL s.heap a its.toArray/\xs.length<=sizeLine:=by
 rcases h with h|⟨o,its,n,hk,hc,hd,hs,hz,r⟩
 . obtain⟨z,its,n,r,e⟩:=h.ok I.hok;exact#[its,r,#[_,n,e,rfl,rfl,rfl],z]
 . refine#[its.toList,r,#[o,n,I.kIn a o hk,hc,hd,by simpa using hs],?_];have e:=r.length;simp only[Kw] at e;omega
theorem Inv.tuple (I:Inv X pins σ H s) (h:aF X.K H a xs):∃its:List Value,ax xs its/\IsTup s.heap a its.toArray/\xs.length<=sizeLine:=by
 rcases h with h|⟨o,its,n,hk,hc,hs,hz,r⟩
 . obtain⟨z,its,r,p⟩:=h.ok I.hok;exact#[its,r,p,z]
 . refine#[its.toList,r,#[o,I.kIn a o hk,hc,n,by simpa using hs],?_];have e:=r.length;simp only[Kw] at e;omega
theorem Inv.list_inj (I:Inv X pins σ H s) (h:aJ X.K H a xs) (h':aJ X.K H a ys):xs=ys:=by
 obtain⟨its,r,⟨o,n,e,_,_,d⟩,_⟩:=I.list h;obtain⟨its',r',⟨o',n',e',_,_,d'⟩,_⟩:=I.list h';rw[e] at e'; cases e';rw[d] at d';injection d' with d1 _
 have:its=its':=by simpa using Iq Array.toList d1
 subst this;exact r.inj r'
theorem Inv.tuple_inj (I:Inv X pins σ H s) (h:aF X.K H a xs) (h':aF X.K H a ys):xs=ys:=by
 obtain⟨its,r,⟨o,e,_,n,d⟩,_⟩:=I.tuple h;obtain⟨its',r',⟨o',e',_,n',d'⟩,_⟩:=I.tuple h';rw[e] at e'; cases e';rw[d] at d';injection d' with d1 _
 have:its=its':=by simpa using Iq Array.toList d1
 subst this;exact r.inj r'
end
noncomputable abbrev Cx.wish (X:Cx) (E:Value->Shared->Prop):Cx:={ X with xe:=E }
noncomputable abbrev Cx.nox (X:Cx):Cx:=X.wish λ_ _=>False
variable {X:Cx}
theorem Cx.Ok.wish (ok:X.Ok) (E:Value->Shared->Prop):(X.wish E).Ok :=
 #[ok.mod,ok.kind,ok.glob,ok.blt,ok.above,ok.inj,ok.has,ok.cab,ok.hd,ok.frames,ok.stk,ok.exf,ok.bs,ok.bsz,ok.noex,ok.exfs,ok.funs,ok.frf]
theorem Cx.Ok.unwish (ok:(X.wish E).Ok):X.Ok :=
 #[ok.mod,ok.kind,ok.glob,ok.blt,ok.above,ok.inj,ok.has,ok.cab,ok.hd,ok.frames,ok.stk,ok.exf,ok.bs,ok.bsz,ok.noex,ok.exfs,ok.funs,ok.frf]
section
variable {X:Cx} {pins:List (Addr×Obj)} {σ:St} {H:Hp} {s:Shared} {E:Value->Shared->Prop}
theorem Inv.wish (I:Inv X pins σ H s) (E:Value->Shared->Prop):Inv (X.wish E) pins σ H s:=#[I.ok.wish E,I.os,I.bare,I.base,I.loc,I.cell,I.free,I.freeC,I.pin,I.hok,I.len]
theorem Inv.unwish (I:Inv (X.wish E) pins σ H s):Inv X pins σ H s:=#[I.ok.unwish,I.os,I.bare,I.base,I.loc,I.cell,I.free,I.freeC,I.pin,I.hok,I.len]
theorem SP.unwish {D:c8} {f:Flow} {s':Shared} (h:SP (X.wish E) pins D f s'):SP X pins D f s':=by
 cases f with
 | next=>obtain⟨σ',H',I,q⟩:=h; exact#[σ',H',I.unwish,q]
 | brk=>obtain⟨σ',H',I,q⟩:=h; exact#[σ',H',I.unwish,q]
 | cont=>obtain⟨σ',H',I,q⟩:=h; exact#[σ',H',I.unwish,q]
 | ret u=>obtain⟨v,σ',H',I,r,q⟩:=h; exact#[v,σ',H',I.unwish,r,q]
theorem bQ.nox {st:List Stmt} {t:TS} (h:bQ X.nox st t):bQ X st t:=λpins s σ H D I hw =>
 KS (h pins s σ H D (I.wish _) hw) (λ_ _ q=>q.unwish) λ_ _ z=>False.elim z
end
section
variable {X:Cx} {st:Stmt} {rest:List Stmt} {t u:TS} {e:Expr} {te:TE} {pos:Pos}
noncomputable def HB:TS:=λD σ H=>D.nx σ H
noncomputable def A2 (t u:TS):TS:=λD σ H=>t { D with nx:=u D } σ H
theorem ai:bQ X [] HB:=λ_ _ σ H _ I h=>LU #[σ,H,I,h]
theorem aK (h1:PS X st t) (h2:bQ X rest u):bQ X (st :: rest) (A2 t u):=by
 intro pins s σ H D I h;refine LI (am (h1 pins s σ H { D with nx:=u D } I h) λf s1 q=>?_);cases f with
 | next =>
   obtain⟨σ',H',I',q⟩:=q;exact h2 pins s1 σ' H' D I' q
 | ret v=>exact q
 | brk=>exact q
 | cont=>exact q
theorem aN (h1:PS X st t):bQ X [st] t:=by
 intro pins s σ H D I h;refine LI (am (h1 pins s σ H D I h) λf s1 q=>?_);cases f with
 | next=>exact LU q
 | ret v=>exact q
 | brk=>exact q
 | cont=>exact q
theorem Inv.quiet (I:Inv X pins σ H s):interactive X.env=false:=by simp [interactive,I.ok.kind]
noncomputable def BK (te:TE):TS:=λD σ H=>te σ H λ_ H1=>D.nx σ H1
theorem fB (he:PE X e te) (hs:swapsWith e none pos.line X.env=pure false:=by rfl):PS X (.Expr e pos) (BK te):=by intro pins s σ H D I h;exact wpAny_Expr_any (am (he pins s σ H _ I h) λv s1 ⟨x,H1,I1,r1,q1⟩=>#[σ,H1,I1,q1]) I.quiet hs
noncomputable def Ei (te:TE):TS:=λD σ H=>te σ H D.rt
theorem aV (he:PE X e te):PS X (.Return (some e) pos) (Ei te):=by intro pins s σ H D I h;exact wpAny_Return_some (am (he pins s σ H _ I h) λv s1 ⟨x,H1,I1,r1,q1⟩=>#[x,σ,H1,I1,r1,q1])
noncomputable def AD (c:TT) (t u:TS):TS:=λD σ H=>c σ H λb H1=>if b=true then t D σ H1 else u D σ H1
theorem aj {c:Expr} {a b:List Stmt} {tc:TT} (hc:PT X c tc) (ha:bQ X a t) (hb:bQ X b u):PS X (.If c a b pos) (AD tc t u):=by
 intro pins s σ H D I h;refine wpAny_If (am (hc pins s σ H _ I h) λd s1 ⟨H1,I1,q1⟩=>?_);cases d with
 | true=>exact ha pins s1 σ H1 D I1 q1
 | false=>exact hb pins s1 σ H1 D I1 q1
end
noncomputable abbrev TG:=V->St->Hp->(St->Hp->Prop)->Prop
noncomputable abbrev g8:=List V->St->Hp->(St->Hp->Prop)->Prop
noncomputable def PG (X:Cx) (target:Expr) (t:TG):Prop :=
 ∀(pins:List (Addr×Obj)) (s:Shared) (σ:St) (H:Hp) (v:V) (u:Value) (Q:St->Hp->Prop),Inv X pins σ H s->bE v u->t v σ H Q ->
   wpAny (model X.prog X.w) X.A (assign target X.env u) (λ_ s'=>∃σ' H',Inv X pins σ' H' s'/\Q σ' H') X.xe s
noncomputable def l9 (X:Cx) (ts:List Expr) (t:g8):Prop :=
 ∀(pins:List (Addr×Obj)) (s:Shared) (σ:St) (H:Hp) (vs:List V) (us:List Value) (Q:St->Hp->Prop),Inv X pins σ H s->ax vs us->t vs σ H Q ->
   wpAny (model X.prog X.w) X.A (assignInOrder ((assignEach ts X.env).map (·.2)) us) (λ_ s'=>∃σ' H',Inv X pins σ' H' s'/\Q σ' H') X.xe s
noncomputable abbrev qU:=V->V->V->Hp->(Hp->Prop)->Prop
noncomputable def sC (X:Cx) (t:qU):Prop :=
 ∀(pins:List (Addr×Obj)) (s:Shared) (σ:St) (H:Hp) (o i v:V) (ov iv u:Value) (Q:Hp->Prop),Inv X pins σ H s->bE o ov->bE i iv->bE v u->t o i v H Q ->
   wpAny (model X.prog X.w) X.A (setItem ov iv u) (λ_ s'=>∃H',Inv X pins σ H' s'/\Q H') X.xe s
variable {e tg:Expr}
section
variable {X:Cx} {pos:Pos}
noncomputable def j3 (i:Nat):TG:=λv σ H Q=>Q (σ.set i (some v)) H
theorem bU {i:Nat} (hN:X.N.Nodup) (hi:X.N[i]?=some x) (hx:jy X.env.scope x) (hf:X.fn x=true\/X.env.scope.names.lookup x=some .local:=by first|exact .inl rfl|exact .inr rfl|assumption):PG X (.Name x pos) (j3 i):=by intro pins s σ H v u Q I r h;exact wpAny_assign_Name (wJ I hN hi hx r (λs' I'=>#[_,H,I',h]) hf)
noncomputable def rn:g8:=λvs σ H Q=>vs=[]/\Q σ H
noncomputable def vE (t:TG) (u:g8):g8:=λvs σ H Q=>∃v r,vs=v :: r/\t v σ H λσ' H'=>u r σ' H' Q
theorem eC:l9 X [] rn:=by intro pins s σ H vs us Q I r h;obtain⟨e,h⟩:=h;subst e;cases r;exact assignInOrder_nil #[σ,H,I,h]
theorem cH {es:List Expr} {t:TG} {u:g8} (h1:PG X e t) (h2:l9 X es u)
   (hs:(assignEach (e :: es) X.env).map (·.2)=assign e X.env :: (assignEach es X.env).map (·.2):=by rfl):l9 X (e :: es) (vE t u):=by
 intro pins s σ H vs us Q I r h;obtain⟨v,vr,e1,h⟩:=h;subst e1;cases r with
 | cons r rr =>
   rw[hs];refine assignInOrder_cons (am (h1 pins s σ H _ _ _ I r h) λ_ s1 ⟨σ1,H1,I1,q1⟩=>?_);exact h2 pins s1 σ1 H1 _ _ Q I1 rr q1
noncomputable def mr (K:W.Frag) (n:Nat) (t:g8):TG:=λv σ H Q=>∃a xs,v=.ref a/\aF K H a xs/\xs.length=n/\t xs σ H Q
theorem eE {es:List Expr} {k:Nat} {t:g8} {n:Nat} (hc:X.calm=true) (h:l9 X es t)
   (hn:(assignEach es X.env).length=n:=by rfl) (hst:(assignEach es X.env).findIdx? (·.1)=none:=by rfl):PG X (.Tuple es k pos) (mr X.K n t):=by
 intro pins s σ H v u Q I r hw;obtain⟨a,xs,e1,hq,hl,hw⟩:=hw;subst e1;cases r;obtain⟨its,rv,ht,hz⟩:=I.tuple hq;refine assign_Tuple_tuple (I.ok.hd hc) ht (by simp [hn,<- hl,rv.length]) hst λh' hx=>?_;have I1:Inv X pins σ H { s with heap:=h' }:=I.kept (t':=s.toks) λb o e=>hx b o (J8 (Ip e)) e;exact h pins _ σ H xs _ Q I1 (by simpa using rv) hw
noncomputable def HH (to ti:TE) (t:qU):TG:=λv σ H Q=>to σ H λo H1=>ti σ H1 λi H2=>t o i v H2 λH3=>Q σ H3
theorem fQ {o i:Expr} {to ti:TE} {t:qU} (ho:PE X o to) (hi:PE X i ti) (hs:sC X t)
   (ha:∀v,assign (.Subscript o i pos) X.env v=(do
     let ov <- holding [v] (eval o X.env)
     let iv <- holding [v,ov] (eval i X.env)
     standAt pos
     holding [v,ov,iv] (setItem ov iv v)
     release [v,ov,iv] []):=by intro _; rfl):PG X (.Subscript o i pos) (HH to ti t):=by
 intro pins s σ H v u Q I r h;rw[ha];refine IU (JO (am (ho pins s σ H _ I h) λov s1 ⟨x,H1,I1,r1,q1⟩=>?_));refine IU (JO (am (hi pins s1 σ H1 _ I1 q1) λiv s2 ⟨y,H2,I2,r2,q2⟩=>?_));refine IU (LZ (IU (JO (am (hs pins s2 σ H2 x y v ov iv u _ I2 r1 r2 r q2) λ_ s3 ⟨H3,I3,q3⟩=>?_))));exact wpAny_release #[σ,H3,I3,q3]
noncomputable def na (te:TE) (g:TG):TS:=λD σ H=>te σ H λx H1=>g x σ H1 D.nx
theorem eZ {te:TE} {g:TG} (he:PE X e te) (hg:PG X tg g) (hs:swapsWithSole [tg] e pos.line X.env=pure false:=by rfl) (hw:swappedStores [tg] e X.env=pure none:=by rfl)
   (h1:(assignEach [tg] X.env).map (·.2)=[assign tg X.env]:=by rfl):PS X (.Assign [tg] e pos) (na te g):=by
 intro pins s σ H D I h;refine wpAny_Assign_stores (am (he pins s σ H _ I h) λv s1 ⟨x,H1,I1,r1,q1⟩=>?_) hs hw;rw[h1];exact am (hg pins s1 σ H1 x v _ I1 r1 q1) λ_ s2 q=>q
theorem al {i:Nat} {x:Str} {e:Expr} {te:TE} {pos':Pos} (hN:X.N.Nodup) (hi:X.N[i]?=some x) (hx:jy X.env.scope x) (he:PE X e te) (hs:swapsWith e (some (.Name x pos')) pos.line X.env=pure false:=by rfl) (hf:X.fn x=true\/X.env.scope.names.lookup x=some .local:=by first|exact .inl rfl|exact .inr rfl|assumption) :
   PS X (.Assign [.Name x pos'] e pos) (na te (j3 i)):=by
 intro pins s σ H D I h;refine wpAny_Assign_Name (am (he pins s σ H _ I h) λv s1 ⟨y,H1,I1,r1,q1⟩=>?_) hs;exact wJ I1 hN hi hx r1 (λs2 I2=>#[_,H1,I2,q1]) hf
end
structure It where
 go:Nat->Hp->Prop
 yld:Nat->Hp->V->Hp->Prop
 stop:Nat->Hp->Prop
noncomputable def eo (X:Cx) (pins:List (Addr×Obj)) (H:Hp) (b:Addr):Prop :=
 H b=none/\b≠X.env.locals/\b ∉ X.fs/\(b∈X.ex\/X.s₀.heap.objs.size<=b)/\(∀x c,X.env.cells.lookup x=some c->c≠b)/\∀p∈X.pn++pins,p.1≠b
theorem Inv.fpOk {H':Hp}(I:Inv X pins σ H s) (hb:s.heap.objs.size<=b) (hn:H' b=none):eo X pins H' b:=by
 refine#[hn,K6 (J1 I.lt hb),I.nofs hb,.inr (J7 I.sz hb),λx c e z=>?_,λp hp z=>?_]
 . obtain⟨v,q⟩:=I.cell x c e;exact absurd (J1 q.lt (by rw[z]; exact hb)) (JN _)
 . exact absurd (J1 (Ip (I.pin p hp).1) (by rw[z]; exact hb)) (JN _)
structure Turn (P:Program) (w:World) (K:W.Frag) (tg:Expr) (J:It) (fp:List Addr) (it:Addr) (tn:Nat->Heap->Prop):Prop where
 mem:it∈fp
 obj:∀i h,tn i h->∀b∈fp,∃o,h.get? b=some o/\∀v,o.data≠.cell v
 keep:∀i h h',tn i h->(∀b∈fp,∀o,h.get? b=some o->h'.get? b=some o)->tn i h'
 item:∀(X:Cx),X.prog=P->X.w=w->X.K=K->X.calm=true->∀(i:Nat) (pins:List (Addr×Obj)) (s:Shared) (σ:St) (H:Hp) (E:Value->Shared->Prop),Inv X pins σ H s->(∀b∈fp,eo X pins H b)->tn i s.heap->J.go i H ->
   wpAny (model P w) X.A (pyNext (.ref it)) (λr s1=>∃u,r=some u /\
     wpAny (model P w) X.A (letOwnedTupleGo tg (.ref it) u) (λ_ s2=>∃x H',Inv X pins σ H' s2/\bE x u/\J.yld i H x H'/\tn (i+1) s2.heap/\∀b∈fp,H' b=none) E s1) E s
 done:∀(X:Cx),X.prog=P->X.w=w->X.K=K->X.calm=true->∀(i:Nat) (pins:List (Addr×Obj)) (s:Shared) (σ:St) (H:Hp) (E:Value->Shared->Prop),Inv X pins σ H s->(∀b∈fp,eo X pins H b)->tn i s.heap->J.stop i H ->
   wpAny (model P w) X.A (pyNext (.ref it)) (λr s1=>r=none/\Inv X pins σ H s1) E s
 self:∀(A:Around) (i:Nat) (s:Shared) (Q:Value->Shared->Prop) (E:Value->Shared->Prop),tn i s.heap->Q (.ref it) s->wpAny (model P w) A (pyIter (.ref it)) Q E s
noncomputable abbrev TI:=St->Hp->(It->Hp->Prop)->Prop
noncomputable def PIE (X:Cx) (pins:List (Addr×Obj)) (σ:St) (tg:Expr) (R:It->Hp->Prop) (itv:Value) (s2:Shared):Prop :=
 ∃(it:Addr) (fp:List Addr) (tn:Nat->Heap->Prop) (J:It) (H':Hp),itv=.ref it/\Inv X pins σ H' s2/\Turn X.prog X.w X.K tg J fp it tn/\tn 0 s2.heap/\(∀b∈fp,eo X pins H' b)/\R J H'
noncomputable def PI (X:Cx) (tg iter:Expr) (wi:TI):Prop :=
 ∀(pins:List (Addr×Obj)) (s:Shared) (σ:St) (H:Hp) (R:It->Hp->Prop),Inv X pins σ H s->wi σ H R ->
   wpAny (model X.prog X.w) X.A (eval iter X.env) (λv s1=>wpAny (model X.prog X.w) X.A (pyIter v) (PIE X pins σ tg R) X.xe s1) X.xe s
theorem lC {it:Addr} {o:Obj} {n:String} {vs:Array Value} {Q:Unit->Shared->Prop} (ho:s.heap.get? it=some o) (hc:o.cls=.type n) (hd:o.data=.fields vs)
   (hn:["enumerate","zip","dict_itemiterator","dict_reverseitemiterator","odict_iterator","itertools.zip_longest","itertools.pairwise"].contains n=false) (hQ:Q () s):wpAny M A (letOwnedTupleGo tg (.ref it) u) Q E s:=by
 unfold letOwnedTupleGo;cases tg <;> first
   | exact Ie hQ
   | (cases u <;> first
       | exact Ie hQ
       | (refine IU (wpAny_load ho ?_)
          rw[hc,hd];show wpAny M A (if(["enumerate","zip","dict_itemiterator","dict_reverseitemiterator","odict_iterator","itertools.zip_longest","itertools.pairwise"].contains n&&vs[0]?==some (rawInt _))=true then _ else _) Q E s;rw[IW (by intro h; rw[hn,Kx] at h; cases h)];exact Ie hQ))
noncomputable def i6 (K:W.Frag) (a:Addr):It :=
 #[λi H=>∃xs x,aJ K H a xs/\xs[i]?=some x,λi H x H'=>H'=H/\∀xs,aJ K H a xs->xs[i]?=some x,λi H=>∃xs,aJ K H a xs/\xs.length<=i]
noncomputable def jK (K:W.Frag) (a:Addr):It :=
 #[λi H=>∃xs x,aF K H a xs/\xs[i]?=some x,λi H x H'=>H'=H/\∀xs,aF K H a xs->xs[i]?=some x,λi H=>∃xs,aF K H a xs/\xs.length<=i]
noncomputable def gT (lo:Int) (n:Nat):It:=#[λi _=>i<n,λi H x H'=>H'=H/\x=.int (lo+i),λi _=>n<=i]
theorem GT (a it:Addr):Turn P w K tg (i6 K a) [it] it (λi h=>h.IsListIter it a i) where
 mem:=by simp
 obj:=λi h st b hb=>by
   have e:b=it:=by simpa using hb
   subst e;obtain⟨o,e,c,d⟩:=st;exact#[o,e,λv z=>by rw[d] at z; cases z]
 keep:=λi h h' st k=>st.at λo e=>k it (by simp) o e
 item:=by intro X hP hw hK hc i pins s σ H E I hf st hg;subst hP hw hK;obtain⟨xs,x,hq,hx⟩:=hg;obtain⟨its,rv,p,hz⟩:=I.list hq;obtain⟨u,hu,ru⟩:=rv.get hx;obtain⟨f0,f1,f2,f3,f4,f5⟩:=hf it (by simp);refine wpAny_pyNext_list_item st p.isList (x:=u) (by simpa using hu) λh' st' sb=>?_;have I1:Inv X pins σ H { s with heap:=h' }:=I.turned (t':=s.toks) (λb o hb e=>(sb.2 b hb).trans e) f0 f1 f3 f4 f5;obtain⟨o,e,c,d⟩:=id st';exact#[u,rfl,lC (s:={ s with heap:=h' }) e c d (by decide) #[x,H,I1,ru,#[rfl,λys hy=>by rw[I.list_inj hy hq]; exact hx],st',λb hb=>(hf b hb).1]]
 done:=by intro X hP hw hK hc i pins s σ H E I hf st hg;subst hP hw hK;obtain⟨xs,hq,hx⟩:=hg;obtain⟨its,rv,p,hz⟩:=I.list hq;obtain⟨f0,f1,f2,f3,f4,f5⟩:=hf it (by simp);have hl:=rv.length;exact wpAny_pyNext_list_end (I.ok.hd hc) st p.isList (by simp; omega) λh' eb=>#[rfl,I.turned (t':=s.toks) (λb o hb e=>eb b o hb e) f0 f1 f3 f4 f5]
 self:=λ_ _ _ _ _ st h=>wpAny_pyIter_listiter st h
theorem GQ (a it:Addr):Turn P w K tg (jK K a) [it] it (λi h=>h.IsTupleIter it a i) where
 mem:=by simp
 obj:=λi h st b hb=>by
   have e:b=it:=by simpa using hb
   subst e;obtain⟨o,e,c,d⟩:=st;exact#[o,e,λv z=>by rw[d] at z; cases z]
 keep:=λi h h' st k=>st.at λo e=>k it (by simp) o e
 item:=by intro X hP hw hK hc i pins s σ H E I hf st hg;subst hP hw hK;obtain⟨xs,x,hq,hx⟩:=hg;obtain⟨its,rv,p,hz⟩:=I.tuple hq;obtain⟨u,hu,ru⟩:=rv.get hx;obtain⟨f0,f1,f2,f3,f4,f5⟩:=hf it (by simp);refine wpAny_pyNext_tuple_item st (show s.heap.IsTuple a its.toArray from p) (x:=u) (by simpa using hu) λh' st' sb=>?_;have I1:Inv X pins σ H { s with heap:=h' }:=I.turned (t':=s.toks) (λb o hb e=>(sb.2 b hb).trans e) f0 f1 f3 f4 f5;obtain⟨o,e,c,d⟩:=id st';exact#[u,rfl,lC (s:={ s with heap:=h' }) e c d (by decide) #[x,H,I1,ru,#[rfl,λys hy=>by rw[I.tuple_inj hy hq]; exact hx],st',λb hb=>(hf b hb).1]]
 done:=by intro X hP hw hK hc i pins s σ H E I hf st hg;subst hP hw hK;obtain⟨xs,hq,hx⟩:=hg;obtain⟨its,rv,p,hz⟩:=I.tuple hq;obtain⟨f0,f1,f2,f3,f4,f5⟩:=hf it (by simp);have hl:=rv.length;exact wpAny_pyNext_tuple_end (I.ok.hd hc) st (show s.heap.IsTuple a its.toArray from p) (by simp; omega) λh' eb=>#[rfl,I.turned (t':=s.toks) (λb o hb e=>eb b o hb e) f0 f1 f3 f4 f5]
 self:=λ_ _ _ _ _ st h=>wpAny_pyIter_tupleiter st h
theorem Fq (it:Addr) (lo:Int) (n:Nat):Turn P w K tg (gT lo n) [it] it (λi h=>IsRangeIter h it (lo+(i:Nat) * 1) ((n:Int) - (i:Nat)) 1) where
 mem:=by simp
 obj:=λi h st b hb=>by
   have e:b=it:=by simpa using hb
   subst e;exact#[_,st,λv z=>by have z':Data.fields _=Data.cell v:=z;cases z']
 keep:=λi h h' st k=>k it (by simp) _ st
 item:=by intro X hP hw hK hc i pins s σ H E I hf st hg;subst hP hw hK;obtain⟨f0,f1,f2,f3,f4,f5⟩:=hf it (by simp);have W:=Walks.range (prog:=X.prog) (w:=X.w) (I.ok.hd hc) it lo 1 n;refine W.item i s _ _ hg st λv h' tk hv st' kk=>?_;obtain⟨t,rfl⟩:=hv;have I1:Inv X pins σ H { s with heap:=h',toks:=tk }:=I.turned (λb o hb e=>kk b o (by simpa using hb) e) f0 f1 f3 f4 f5;refine#[_,rfl,lC (s:={ s with heap:=h',toks:=tk }) (n:="range_iterator") st' rfl rfl (by decide) #[.int (lo+i),H,I1,#[t,?_],#[rfl,rfl],st',λb hb=>(hf b hb).1]];rw[Int.mul_one]
 done:=by intro X hP hw hK hc i pins s σ H E I hf st hg;subst hP hw hK;obtain⟨f0,f1,f2,f3,f4,f5⟩:=hf it (by simp);exact wpAny_pyNext_range_end (I.ok.hd hc) st (by have:n<=i:=hg; omega) λh' eb=>#[rfl,I.turned (t':=s.toks) (λb o hb e=>eb b o hb e) f0 f1 f3 f4 f5]
 self:=λ_ _ _ _ _ st h=>wpAny_pyIter_rangeiter st h
variable {tb:TS}
section
variable {X:Cx} {tg:Expr}
noncomputable def uK (K:W.Frag) (tl:TE):TI:=λσ H R=>tl σ H λx H1=>∃a,x=.ref a/\(∃xs,aJ K H1 a xs)/\R (i6 K a) H1
noncomputable def DH (K:W.Frag) (tl:TE):TI:=λσ H R=>tl σ H λx H1=>∃a,x=.ref a/\(∃xs,aF K H1 a xs)/\R (jK K a) H1
theorem gN {l:Expr} {tl:TE} (hl:PE X l tl):PI X tg l (uK X.K tl):=by
 intro pins s σ H R I h;refine am (hl pins s σ H _ I h) λv s1 ⟨x,H1,I1,r1,q1⟩=>?_;obtain⟨a,e,⟨xs,hq⟩,q⟩:=q1;subst e;cases r1;obtain⟨its,rv,p,hz⟩:=I1.list hq;refine K0 p.isList ?_;refine#[s1.heap.objs.size,[s1.heap.objs.size],_,_,H1,rfl,I1.kept (t':=s1.toks) λb o e=>IZ _ e,GT a _,#[_,Iz _ rfl,rfl,rfl],λb hb=>?_,q];have e:b=s1.heap.objs.size:=by simpa using hb
 subst e;exact I1.fpOk (Ib _) (I1.hok.fresh (Ib _))
theorem pd {l:Expr} {tl:TE} (hl:PE X l tl):PI X tg l (DH X.K tl):=by
 intro pins s σ H R I h;refine am (hl pins s σ H _ I h) λv s1 ⟨x,H1,I1,r1,q1⟩=>?_;obtain⟨a,e,⟨xs,hq⟩,q⟩:=q1;subst e;cases r1;obtain⟨its,rv,p,hz⟩:=I1.tuple hq;refine Jl (show s1.heap.IsTuple a its.toArray from p) ?_;refine#[s1.heap.objs.size,[s1.heap.objs.size],_,_,H1,rfl,I1.kept (t':=s1.toks) λb o e=>IZ _ e,GQ a _,#[_,Iz _ rfl,rfl,rfl],λb hb=>?_,q];have e:b=s1.heap.objs.size:=by simpa using hb
 subst e;exact I1.fpOk (Ib _) (I1.hok.fresh (Ib _))
theorem Cg {R:It->Hp->Prop} {lo hi:Int} {t u v:Tok} {tk:Nat} (I:Inv X pins σ H s) (h1:-(2 ^ 62)<=lo) (h2:lo<2 ^ 62) (h3:-(2 ^ 62)<=hi) (h4:hi<2 ^ 62)
   (q:R (gT lo (hi - lo).toNat) H):wpAny (model X.prog X.w) X.A (pyIter (.ref s.heap.objs.size)) (PIE X pins σ tg R) E { s with heap:=s.heap.push { cls:=.type "range",data:=.fields (List.toArray [.int lo t,.int hi u,.int 1 v]) },toks:=tk }:=by
 refine wpAny_pyIter_range (IsRange.new ..) (small_one h1 h2 h3 h4) ?_;have I1:Inv X pins σ H { s with heap:=s.heap.push { cls:=.type "range",data:=.fields (List.toArray [.int lo t,.int hi u,.int 1 v]) },toks:=tk }:=I.kept λb o e=>IZ _ e;refine#[(s.heap.push { cls:=.type "range",data:=.fields (List.toArray [.int lo t,.int hi u,.int 1 v]) }).objs.size,[(s.heap.push { cls:=.type "range",data:=.fields (List.toArray [.int lo t,.int hi u,.int 1 v]) }).objs.size],_,_,H,rfl,
   I1.kept (t':=tk) λb o e=>IZ _ e,Fq _ lo (hi - lo).toNat,?_,λb hb=>?_,q]
 . have e1:lo+((0:Nat):Int) * 1=lo:=by simp
   have e2:(((hi - lo).toNat:Nat):Int) - ((0:Nat):Int)=Builtin.Range.rangeSize lo hi 1:=by rw[rangeSize_one]; split <;> omega
   show IsRangeIter _ _ (lo+((0:Nat):Int) * 1) ((((hi - lo).toNat:Nat):Int) - ((0:Nat):Int)) 1;rw[e1,e2];exact Iz _ rfl
 . have e:b=(s.heap.push { cls:=.type "range",data:=.fields (List.toArray [.int lo t,.int hi u,.int 1 v]) }).objs.size:=by simpa using hb
   subst e;exact I1.fpOk (Ib _) (I1.hok.fresh (Ib _))
noncomputable def Dm (ta:TA):TI:=λσ H R=>ta σ H λvs H1=>∃j:Int,vs=[.int j]/\-(2 ^ 62)<=j/\j<2 ^ 62/\R (gT 0 j.toNat) H1
theorem ge {a:Expr} {ta:TA} {p:Pos}(hg:Gl X "range") (hm:X.mg "range"=none) (ha:PA X [a] ta) (hs:starEach [a] X.env=[(false,eval a X.env)]:=by rfl):PI X tg (.Call (.Name "range" p) [a] [] pos) (Dm ta):=by
 intro pins s σ H R I h;refine Call_ (gE I hg hm boot_range (JL (am (ha pos pins s σ H _ I h) λus s1 ⟨vs,H1,I1,r1,q1⟩=>?_) hs rfl));obtain⟨j,e,q1,q2,q⟩:=q1;subst e;cases r1 with
 | cons r rr =>
   cases rr;obtain⟨t,rfl⟩:=r;exact call_range_1 (Cg I1 (by omega) (by omega) q1 q2 (by simpa using q))
noncomputable def E' (wi:TI) (g:TG) (tb:TS):TS:=λD σ H=>wi σ H λJ H1=>∃W:Nat->Nat->St->Hp->Prop,(∃m,W 0 m σ H1)/\∀i m σ H,W i m σ H ->
 (J.stop i H/\D.nx σ H)\/(J.go i H/\∃N:St->Hp->Prop,(∀σ' H',N σ' H'->∃m',m'<m/\W (i+1) m' σ' H')/\∀x H',J.yld i H x H'->g x σ H' λσ2 H2=>tb { D with nx:=N,ct:=N,bk:=D.nx } σ2 H2)
noncomputable def jZ (fp:List Addr) (h:Heap):List (Addr×Obj):=fp.filterMap λb=>(h.get? b).map λo=>(b,o)
theorem mD {fp:List Addr} {o:Obj} (hb:b∈fp) (e:h.get? b=some o):(b,o)∈jZ fp h:=L1.mpr #[b,hb,by rw[e]; rfl]
theorem DY {fp:List Addr} {p:Addr×Obj} (hp:p∈jZ fp h):p.1∈fp/\h.get? p.1=some p.2:=by
 obtain⟨b,hb,e⟩:=L1.mp hp;cases q:h.get? b with
 | none=>rw[q] at e; cases e
 | some o =>
   rw[q] at e;have e':(b,o)=p:=Option.some.inj e;subst e';exact#[hb,q]
theorem Inv.pinned {fp:List Addr} (I:Inv X pins σ H s) (hf:∀b∈fp,eo X pins H b) (ho:∀b∈fp,∃o,s.heap.get? b=some o/\∀v,o.data≠.cell v):Inv X (pins++jZ fp s.heap) σ H s :=
 I.pins_of λp hp=>(Iv.mp hp).elim (λz=>I.pin p (J9 _ z)) λz=>by obtain⟨hb,e⟩:=DY z;obtain⟨f0,f1,f2,_⟩:=hf p.1 hb;obtain⟨o,e',d⟩:=ho p.1 hb;rw[e] at e'; cases e';exact#[e,f0,f1,f2,d]
theorem Inv.unpinned {pl:List (Addr×Obj)}(I:Inv X (pins++pl) σ H s):Inv X pins σ H s:=I.pins_of λp hp=>I.pin p (J9 _ (KG _ hp))
theorem cy {iter:Expr} {body:List Stmt} {wi:TI} {g:TG} (hp:PassesOwn (model X.prog X.w) X.A X.env X.xe) (hc:X.calm=true) (hi:PI X tg iter wi) (hg:PG X tg g) (hb:bQ X body tb)
   (hs:∀x,foldedSetIterable iter X.env x=pure x:=by intro _; rfl):PS X (.For tg iter body [] pos) (E' wi g tb):=by
 intro pins s σ H D I h;refine wpAny_For (am (hi pins s σ H _ I h) λv s1 h1=>am h1 λitv s2 h2=>?_) hs;obtain⟨it,fp,tn,J,H2,e,I2,T,st2,f2,W,⟨m0,w0⟩,turn⟩:=h2;subst e
 -- what stays true of the iterator's objects through the loop
 have stat:∀{H':Hp},(∀b∈fp,H' b=none)->∀b∈fp,eo X pins H' b:=λhn b hb=>#[hn b hb,(f2 b hb).2]
 refine codeAny_forLoop_any (λn s'=>∃i σ' H',Inv X pins σ' H' s'/\tn i s'.heap/\(∀b∈fp,H' b=none)/\W i n σ' H') ?_ m0 #[0,σ,H2,I2,st2,λb hb=>(f2 b hb).1,w0];rintro n s3 ⟨i,σ3,H3,I3,st3,fr3,w3⟩;rcases turn i n σ3 H3 w3 with⟨stop,qn⟩|⟨go,N,hN,step⟩
 . refine KL hp (am (T.done X rfl rfl rfl hc i pins s3 σ3 H3 X.xe I3 (stat fr3) st3 stop) λr s4 ⟨hr,I4⟩=>?_);subst hr;exact LU #[σ3,H3,I4,qn]
 . refine KL hp (am (T.item X rfl rfl rfl hc i pins s3 σ3 H3 X.xe I3 (stat fr3) st3 go) λr s4 ⟨u,hr,h4⟩=>?_);subst hr;refine KL hp (am h4 λ_ s5 ⟨x,H5,I5,r5,y5,st5,fr5⟩=>?_);have I5':=I5.pinned (stat fr5) (T.obj _ _ st5);refine KL hp (am (hg _ s5 σ3 H5 x u _ I5' r5 (step x H5 y5)) λ_ s6 ⟨σ6,H6,I6,q6⟩=>?_);refine KL hp (am (hb _ s6 σ6 H6 _ I6 q6) λf s7 q7=>?_);have again:∀{σ7:St} {H7:Hp},Inv X (pins++jZ fp s5.heap) σ7 H7 s7->N σ7 H7->∃m,m<n/\∃i σ' H',Inv X pins σ' H' s7/\tn i s7.heap/\(∀b∈fp,H' b=none)/\W i m σ' H':=λ{σ7 H7} I7 n7=>by obtain⟨m',hm,w7⟩:=hN σ7 H7 n7;refine#[m',hm,i+1,σ7,H7,I7.unpinned,T.keep _ _ _ st5 λb hb o e=>(I7.pin (b,o) (J9 _ (J9 _ (mD hb e)))).1,λb hb=>?_,w7];obtain⟨o,e,d⟩:=T.obj _ _ st5 b hb;exact(I7.pin (b,o) (J9 _ (J9 _ (mD hb e)))).2.1
   cases f with
   | next=>obtain⟨σ7,H7,I7,n7⟩:=q7; exact again I7 n7
   | cont=>obtain⟨σ7,H7,I7,n7⟩:=q7; exact again I7 n7
   | brk=>obtain⟨σ7,H7,I7,q7⟩:=q7; exact#[σ7,H7,I7.unpinned,q7]
   | ret v=>obtain⟨x7,σ7,H7,I7,r7,q7⟩:=q7; exact#[x7,σ7,H7,I7.unpinned,r7,q7]
end
theorem nt {a:Addr} {xs:List V} {g:TG} {D:c8} (Pv:Nat->St->Hp->Prop) (h0:Pv 0 σ H) (hl:∀i σ H,i<=xs.length->Pv i σ H->aJ K H a xs)
   (hs:∀i x σ H,xs[i]?=some x->Pv i σ H->g x σ H λσ2 H2=>tb { D with nx:=Pv (i+1),ct:=Pv (i+1),bk:=D.nx } σ2 H2) (hd:∀σ H,Pv xs.length σ H->D.nx σ H) :
   ∃W:Nat->Nat->St->Hp->Prop,(∃m,W 0 m σ H)/\∀i m σ H,W i m σ H ->
     ((i6 K a).stop i H/\D.nx σ H)\/((i6 K a).go i H/\∃N:St->Hp->Prop,(∀σ' H',N σ' H'->∃m',m'<m/\W (i+1) m' σ' H')/\∀x H',(i6 K a).yld i H x H'->g x σ H' λσ2 H2=>tb { D with nx:=N,ct:=N,bk:=D.nx } σ2 H2):=by
 refine#[λi m σ H=>m=xs.length - i/\i<=xs.length/\Pv i σ H,#[xs.length,by simp,J2 _,h0],?_];rintro i m σ H ⟨rfl,hi,p⟩;have q:=hl i σ H hi p;by_cases hlt:i<xs.length
 . refine .inr #[#[xs,xs[i],q,by simp [hlt]],Pv (i+1),λσ' H' p'=>#[xs.length - (i+1),by omega,rfl,hlt,p'],λx H' y=>?_];obtain⟨e,y⟩:=y;subst e;exact hs i x σ _ (y xs q) p
 . have e:i=xs.length:=by omega
   subst e;exact .inl #[#[xs,q,Ib _],hd σ H p]
theorem HR {a:Addr} {xs:List V} {g:TG} {D:c8} (Pv:Nat->St->Hp->Prop) (h0:Pv 0 σ H) (hl:∀i σ H,i<=xs.length->Pv i σ H->aF K H a xs)
   (hs:∀i x σ H,xs[i]?=some x->Pv i σ H->g x σ H λσ2 H2=>tb { D with nx:=Pv (i+1),ct:=Pv (i+1),bk:=D.nx } σ2 H2) (hd:∀σ H,Pv xs.length σ H->D.nx σ H) :
   ∃W:Nat->Nat->St->Hp->Prop,(∃m,W 0 m σ H)/\∀i m σ H,W i m σ H ->
     ((jK K a).stop i H/\D.nx σ H)\/((jK K a).go i H/\∃N:St->Hp->Prop,(∀σ' H',N σ' H'->∃m',m'<m/\W (i+1) m' σ' H')/\∀x H',(jK K a).yld i H x H'->g x σ H' λσ2 H2=>tb { D with nx:=N,ct:=N,bk:=D.nx } σ2 H2):=by
 refine#[λi m σ H=>m=xs.length - i/\i<=xs.length/\Pv i σ H,#[xs.length,by simp,J2 _,h0],?_];rintro i m σ H ⟨rfl,hi,p⟩;have q:=hl i σ H hi p;by_cases hlt:i<xs.length
 . refine .inr #[#[xs,xs[i],q,by simp [hlt]],Pv (i+1),λσ' H' p'=>#[xs.length - (i+1),by omega,rfl,hlt,p'],λx H' y=>?_];obtain⟨e,y⟩:=y;subst e;exact hs i x σ _ (y xs q) p
 . have e:i=xs.length:=by omega
   subst e;exact .inl #[#[xs,q,Ib _],hd σ H p]
theorem kI {lo:Int} {n:Nat} {g:TG} {D:c8} (Pv:Nat->St->Hp->Prop) (h0:Pv 0 σ H)
   (hs:∀i σ H,i<n->Pv i σ H->g (.int (lo+i)) σ H λσ2 H2=>tb { D with nx:=Pv (i+1),ct:=Pv (i+1),bk:=D.nx } σ2 H2) (hd:∀σ H,Pv n σ H->D.nx σ H) :
   ∃W:Nat->Nat->St->Hp->Prop,(∃m,W 0 m σ H)/\∀i m σ H,W i m σ H ->
     ((gT lo n).stop i H/\D.nx σ H)\/((gT lo n).go i H/\∃N:St->Hp->Prop,(∀σ' H',N σ' H'->∃m',m'<m/\W (i+1) m' σ' H')/\∀x H',(gT lo n).yld i H x H'->g x σ H' λσ2 H2=>tb { D with nx:=N,ct:=N,bk:=D.nx } σ2 H2):=by
 refine#[λi m σ H=>m=n - i/\i<=n/\Pv i σ H,#[n,by simp,J2 _,h0],?_];rintro i m σ H ⟨rfl,hi,p⟩;by_cases hlt:i<n
 . refine .inr #[hlt,Pv (i+1),λσ' H' p'=>#[n - (i+1),by omega,rfl,hlt,p'],λx H' y=>?_];obtain⟨e,y⟩:=y;subst e y;exact hs i σ _ hlt p
 . have e:i=n:=by omega
   subst e;exact .inl #[Ib _,hd σ H p]
noncomputable abbrev R2:=V->V->Hp->VK->Prop
noncomputable def bT (X:Cx) (f:Value->Value->Sem Value) (r:R2):Prop :=
 ∀(pins:List (Addr×Obj)) (s:Shared) (σ:St) (H:Hp) (x y:V) (v u:Value) (Q:VK),Inv X pins σ H s->bE x v->bE y u->r x y H Q ->
   wpAny (model X.prog X.w) X.A (f v u) (EP X pins σ Q) X.xe s
noncomputable def qa (X:Cx) (f:Value->Sem Value) (r:V->Hp->VK->Prop):Prop :=
 ∀(pins:List (Addr×Obj)) (s:Shared) (σ:St) (H:Hp) (x:V) (v:Value) (Q:VK),Inv X pins σ H s->bE x v->r x H Q ->
   wpAny (model X.prog X.w) X.A (f v) (EP X pins σ Q) X.xe s
noncomputable def bt (X:Cx) (f:Value) (r:List V->Hp->VK->Prop):Prop :=
 ∀(pins:List (Addr×Obj)) (s:Shared) (σ:St) (H:Hp) (xs:List V) (us:List Value) (Q:VK),Inv X pins σ H s->ax xs us->r xs H Q ->
   wpAny (model X.prog X.w) X.A (call f us) (EP X pins σ Q) X.xe s
noncomputable def Bz (X:Cx) (r:V->Hp->(Bool->Hp->Prop)->Prop):Prop :=
 ∀(pins:List (Addr×Obj)) (s:Shared) (σ:St) (H:Hp) (x:V) (v:Value) (Q:Bool->Hp->Prop),Inv X pins σ H s->bE x v->r x H Q ->
   wpAny (model X.prog X.w) X.A (truthy v) (TP X pins σ Q) X.xe s
noncomputable def kS (r:R2) (ta tb:TE):TE:=λσ H Q=>ta σ H λx H1=>tb σ H1 λy H2=>r x y H2 Q
noncomputable def tUn (r:V->Hp->VK->Prop) (ta:TE):TE:=λσ H Q=>ta σ H λx H1=>r x H1 Q
noncomputable def rI (C:Int->Int->Prop) (g:Int->Int->V):R2:=λx y H Q=>∃i j,x=.int i/\y=.int j/\C i j/\Q (g i j) H
noncomputable def gC (g:Int->Int->V):R2:=λx y H Q=>∃i j,x=.int i/\y=.int j/\Q (g i j) H
noncomputable def rU (g:Int->V):V->Hp->VK->Prop:=λx H Q=>∃i,x=.int i/\Q (g i) H
section
variable {X:Cx} {a b c:Expr} {ta tb tc:TE} {pos:Pos}
theorem qx (ha:PE X a ta) (hb:PE X b tb) {R:V->V->Hp->Prop} (I:Inv X pins σ H s)
   (h:ta σ H λx H1=>tb σ H1 λy H2=>R x y H2) {Q:Value->Shared->Prop} {f:Value->Value->Sem Value}
   (hf:∀v u s2 x y H2,Inv X pins σ H2 s2->bE x v->bE y u->R x y H2->wpAny (model X.prog X.w) X.A (f v u) Q X.xe s2) :
   wpAny (model X.prog X.w) X.A (eval a X.env) (λv s₁=>wpAny (model X.prog X.w) X.A (eval b X.env) (λu s₂=>wpAny (model X.prog X.w) X.A (f v u) Q X.xe s₂) X.xe s₁) X.xe s:=by
 refine am (ha pins s σ H _ I h) λv s1 ⟨x,H1,I1,r1,q1⟩=>?_;refine am (hb pins s1 σ H1 _ I1 q1) λu s2 ⟨y,H2,I2,r2,q2⟩=>?_;exact hf v u s2 x y H2 I2 r1 r2 q2
theorem aM {op:Operator} {r:R2} (ho:bT X (binaryOp op) r) (ha:PE X a ta) (hb:PE X b tb):PE X (.BinOp a op b pos) (kS r ta tb):=by intro pins s σ H Q I h;exact wpAny_BinOp (qx ha hb I h λv u s2 x y H2 I2 rx ry q=>ho pins s2 σ H2 x y v u Q I2 rx ry q)
theorem cp {op:UnaryOp} {r:V->Hp->VK->Prop} (ho:qa X (unaryOp op) r) (ha:PE X a ta):PE X (.UnaryOp op a pos) (tUn r ta):=by intro pins s σ H Q I h;exact UnaryOp_ (am (ha pins s σ H _ I h) λv s1 ⟨x,H1,I1,r1,q1⟩=>ho pins s1 σ H1 x v Q I1 r1 q1)
theorem kE {f:Value->Value->Sem Value} {C:Int->Int->Prop} {g:Int->Int->Int}
   (rule:∀(i j:Int) (t u:Tok) (s:Shared) (Q:Value->Shared->Prop) (E:Value->Shared->Prop),C i j->Q (.int (g i j) s.toks) { s with toks:=s.toks+1 }->wpAny (model X.prog X.w) X.A (f (.int i t) (.int j u)) Q E s) :
   bT X f (rI C λi j=>.int (g i j)):=by
 intro pins s σ H x y v u Q I rx ry h;obtain⟨i,j,rfl,rfl,hc,q⟩:=h;obtain⟨t,rfl⟩:=rx;obtain⟨t',rfl⟩:=ry;exact rule i j t t' s _ _ hc #[.int (g i j),H,I.tok _,#[_,rfl],q]
theorem jq {f:Value->Value->Sem Value} {g:Int->Int->Int}
   (rule:∀(i j:Int) (t u:Tok) (s:Shared) (Q:Value->Shared->Prop) (E:Value->Shared->Prop),Q (.int (g i j) s.toks) { s with toks:=s.toks+1 }->wpAny (model X.prog X.w) X.A (f (.int i t) (.int j u)) Q E s) :
   bT X f (gC λi j=>.int (g i j)):=by
 intro pins s σ H x y v u Q I rx ry h;obtain⟨i,j,rfl,rfl,q⟩:=h;obtain⟨t,rfl⟩:=rx;obtain⟨t',rfl⟩:=ry;exact rule i j t t' s _ _ #[.int (g i j),H,I.tok _,#[_,rfl],q]
theorem sk {f:Value->Value->Sem Value} {g:Int->Int->Bool}
   (rule:∀(i j:Int) (t u:Tok) (s:Shared) (Q:Value->Shared->Prop) (E:Value->Shared->Prop),Q (.bool (g i j)) s->wpAny (model X.prog X.w) X.A (f (.int i t) (.int j u)) Q E s) :
   bT X f (gC λi j=>.bl (g i j)):=by
 intro pins s σ H x y v u Q I rx ry h;obtain⟨i,j,rfl,rfl,q⟩:=h;obtain⟨t,rfl⟩:=rx;obtain⟨t',rfl⟩:=ry;exact rule i j t t' s _ _ #[.bl (g i j),H,I,rfl,q]
noncomputable def As (i j:Int):Prop:=0<j/\j<1073741824
noncomputable def F0 (i j:Int):Prop:=0<=j/\j<=1000000/\i.natAbs<2 ^ 64
noncomputable def qd (i j:Int):Prop:=(-(2 ^ 64)<i/\i<2 ^ 64)\/(-(2 ^ 64)<j/\j<2 ^ 64)
theorem qd.ok {i j:Int} (h:qd i j):IntMulOk i j:=by
 rcases h with⟨h1,h2⟩|⟨h1,h2⟩
 . exact .of_left (intBits_le_64 h1 h2)
 . exact .of_right (intBits_le_64 h1 h2)
theorem cj:bT X (binaryOp .Add) (gC λi j=>.int (i+j)):=jq λ_ _ _ _ _ _ _ q=>add_int q
theorem oy:bT X (binaryOp .Sub) (gC λi j=>.int (i - j)):=jq λ_ _ _ _ _ _ _ q=>sub_int q
theorem db:bT X (binaryOp .Mult) (rI qd λi j=>.int (i * j)):=kE λ_ _ _ _ _ _ _ hc q=>mul_int q hc.ok
theorem bj:bT X (binaryOp .FloorDiv) (rI As λi j=>.int (i / j)):=kE λi j _ _ _ _ _ hc q=>by have h1:(0:Int)<j:=hc.1;have h2:j<1073741824:=hc.2;exact floordiv_int (by omega) (by rw[L5 i (by omega)]; exact q) (.inl (PyProof.noPylong_small (by omega)))
theorem bH:bT X (binaryOp .Mod) (rI (λ_ j=>0<j) λi j=>.int (i%j)):=kE λi j _ _ _ _ _ hc q=>by have h1:(0:Int)<j:=hc;exact mod_int' (by omega) (by rw[Int.fmod_eq_emod_of_nonneg i (by omega)]; exact q)
theorem kL:bT X (binaryOp .Pow) (rI F0 λi j=>.int (i ^ j.toNat)):=kE λ_ _ _ _ _ _ _ hc q=>pow_int_small hc.1 hc.2.1 hc.2.2 q
theorem tY:bT X (binaryOp .BitAnd) (gC λi j=>.int (Builtin.bitAnd i j)):=jq λ_ _ _ _ _ _ _ q=>and_int q
theorem vU:bT X (binaryOp .BitOr) (gC λi j=>.int (Builtin.bitOr i j)):=jq λ_ _ _ _ _ _ _ q=>or_int q
theorem u9:bT X (binaryOp .BitXor) (gC λi j=>.int (Builtin.bitXor i j)):=jq λ_ _ _ _ _ _ _ q=>xor_int q
theorem unI {f:Value->Sem Value} {g:Int->Int}
   (rule:∀(i:Int) (t:Tok) (s:Shared) (Q:Value->Shared->Prop) (E:Value->Shared->Prop),Q (.int (g i) s.toks) { s with toks:=s.toks+1 }->wpAny (model X.prog X.w) X.A (f (.int i t)) Q E s) :
   qa X f (rU λi=>.int (g i)):=by
 intro pins s σ H x v Q I rx h;obtain⟨i,rfl,q⟩:=h;obtain⟨t,rfl⟩:=rx;exact rule i t s _ _ #[.int (g i),H,I.tok _,#[_,rfl],q]
theorem cn:qa X (unaryOp .USub) (rU λi=>.int (-i)):=unI λ_ _ _ _ _ q=>neg_int q
end
noncomputable def lY:V->V->Bool
 | .non,.non=>true | .non,.int _=>true | .int _,.non=>true | .non,.bl _=>true | .bl _,.non=>true | .non,.str _=>true | .str _,.non=>true
 | .int _,.int _=>true | .bl _,.bl _=>true | .str _,.str _=>true | .byt _,.byt _=>true
 | .int _,.str _=>true | .str _,.int _=>true | .bl _,.str _=>true | .str _,.bl _=>true
 | _,_=>false
noncomputable def rEq:R2:=λx y H Q=>lY x y=true/\Q (.bl (decide (x=y))) H
noncomputable def rNe:R2:=λx y H Q=>lY x y=true/\Q (.bl (!decide (x=y))) H
theorem uD {i j:Int}:decide (V.int i=V.int j)=(i==j):=by rw[JQ];simp
theorem wW {i j:Bool}:decide (V.bl i=V.bl j)=(i==j):=by rw[JQ];simp
theorem wV {i j:Str}:decide (V.str i=V.str j)=(i==j):=by rw[JQ];simp
theorem tK {i j:Array UInt8}:decide (V.byt i=V.byt j)=(i.toList==j.toList):=by rw[JQ];cases i;cases j;simp
variable {us:List Value}
section
variable {X:Cx} {a b c:Expr} {ta tb tc:TE} {pos:Pos}
theorem cB {Q:VK} {k k':Bool} (I:Inv X pins σ H s) (q:Q (.bl k) H) (e:k=k'):EP X pins σ Q (.bool k') s:=by subst e;exact#[.bl k,H,I,rfl,q]
theorem au:bT X (compareOp .Eq) rEq:=by
 intro pins s σ H x y v u Q I rx ry h;obtain⟨hs,q⟩:=h;cases x with
 | non =>
   cases rx;cases y with
   | non=>cases ry; exact PySem.EqNone.eq_none_none (cB I q (by simp))
   | bl j=>cases ry; exact PySem.EqNone.eq_none_bool (cB I q (by simp))
   | int j=>obtain⟨t',rfl⟩:=ry; exact PySem.EqNone.eq_none_int (cB I q (by simp))
   | str j=>obtain⟨t',rfl⟩:=ry; exact PySem.EqNone.eq_none_str (cB I q (by simp))
   | _=>exact absurd (show false=true from hs) Iy
 | bl i =>
   cases rx;cases y with
   | non=>cases ry; exact PySem.EqNone.eq_bool_none (cB I q (by simp))
   | bl j=>cases ry; exact eq_bool (cB I q wW)
   | str j=>obtain⟨t',rfl⟩:=ry; exact PySem.EqMixed.eq_bool_str (cB I q (by simp))
   | _=>exact absurd (show false=true from hs) Iy
 | int i =>
   obtain⟨t,rfl⟩:=rx;cases y with
   | non=>cases ry; exact PySem.EqNone.eq_int_none (cB I q (by simp))
   | int j=>obtain⟨t',rfl⟩:=ry; exact eq_int (cB I q uD)
   | str j=>obtain⟨t',rfl⟩:=ry; exact PySem.EqMixed.eq_int_str (cB I q (by simp))
   | _=>exact absurd (show false=true from hs) Iy
 | str i =>
   obtain⟨t,rfl⟩:=rx;cases y with
   | non=>cases ry; exact PySem.EqNone.eq_str_none (cB I q (by simp))
   | bl j=>cases ry; exact PySem.EqMixed.eq_str_bool (cB I q (by simp))
   | int j=>obtain⟨t',rfl⟩:=ry; exact PySem.EqMixed.eq_str_int (cB I q (by simp))
   | str j=>obtain⟨t',rfl⟩:=ry; exact eq_str (cB I q wV)
   | _=>exact absurd (show false=true from hs) Iy
 | byt i =>
   obtain⟨t,rfl⟩:=rx;cases y with
   | byt j=>obtain⟨t',rfl⟩:=ry; exact PySem.W.eq_bytes (cB I q tK)
   | _=>exact absurd (show false=true from hs) Iy
 | _=>cases y <;> exact absurd (show false=true from hs) Iy
theorem Cw:bT X (compareOp .NotEq) rNe:=by
 intro pins s σ H x y v u Q I rx ry h;obtain⟨hs,q⟩:=h;cases x with
 | non =>
   cases rx;cases y with
   | non=>cases ry; exact PySem.EqNone.ne_none_none (cB I q (by simp))
   | bl j=>cases ry; exact PySem.EqNone.ne_none_bool (cB I q (by simp))
   | int j=>obtain⟨t',rfl⟩:=ry; exact PySem.EqNone.ne_none_int (cB I q (by simp))
   | str j=>obtain⟨t',rfl⟩:=ry; exact PySem.EqNone.ne_none_str (cB I q (by simp))
   | _=>exact absurd (show false=true from hs) Iy
 | bl i =>
   cases rx;cases y with
   | non=>cases ry; exact PySem.EqNone.ne_bool_none (cB I q (by simp))
   | bl j=>cases ry; exact ne_bool (cB I q (Iq not wW))
   | str j=>obtain⟨t',rfl⟩:=ry; exact PySem.EqMixed.ne_bool_str (cB I q (by simp))
   | _=>exact absurd (show false=true from hs) Iy
 | int i =>
   obtain⟨t,rfl⟩:=rx;cases y with
   | non=>cases ry; exact PySem.EqNone.ne_int_none (cB I q (by simp))
   | int j=>obtain⟨t',rfl⟩:=ry; exact ne_int (cB I q (Iq not uD))
   | str j=>obtain⟨t',rfl⟩:=ry; exact PySem.EqMixed.ne_int_str (cB I q (by simp))
   | _=>exact absurd (show false=true from hs) Iy
 | str i =>
   obtain⟨t,rfl⟩:=rx;cases y with
   | non=>cases ry; exact PySem.EqNone.ne_str_none (cB I q (by simp))
   | bl j=>cases ry; exact PySem.EqMixed.ne_str_bool (cB I q (by simp))
   | int j=>obtain⟨t',rfl⟩:=ry; exact PySem.EqMixed.ne_str_int (cB I q (by simp))
   | str j=>obtain⟨t',rfl⟩:=ry; exact ne_str (cB I q (Iq not wV))
   | _=>exact absurd (show false=true from hs) Iy
 | byt i =>
   obtain⟨t,rfl⟩:=rx;cases y with
   | byt j=>obtain⟨t',rfl⟩:=ry; exact PySem.W.ne_bytes (cB I q (Iq not tK))
   | _=>exact absurd (show false=true from hs) Iy
 | _=>cases y <;> exact absurd (show false=true from hs) Iy
theorem pc:bT X (compareOp .Lt) (gC λi j=>.bl (decide (i<j))):=sk λ_ _ _ _ _ _ _ q=>lt_int q
theorem jp:bT X (compareOp .Gt) (gC λi j=>.bl (decide (j<i))):=sk λ_ _ _ _ _ _ _ q=>gt_int q
theorem aX (b:Expr) (h:op≠.In:=by decide) (h2:op≠.NotIn:=by decide):behindInMarks op b=false:=by
 have e1:(op==CmpOp.In)=false:=by cases op <;> first|rfl|exact absurd rfl h
 have e2:(op==CmpOp.NotIn)=false:=by cases op <;> first|rfl|exact absurd rfl h2
 cases b <;> simp [behindInMarks,e1,e2]
theorem dS {r:R2} (ho:bT X (compareOp op) r) (ha:PE X a ta) (hb:PE X b tb) (hm:behindInMarks op b=false):PE X (.Compare a [op] [b] pos) (kS r ta tb):=by intro pins s σ H Q I h;exact wpAny_Compare1 (qx ha hb I h λv u s2 x y H2 I2 rx ry q=>ho pins s2 σ H2 x y v u Q I2 rx ry q) hm
noncomputable def Gd (t:TE):TT:=λσ H Q=>t σ H λx H'=>∃k,x=.bl k/\Q k H'
theorem ik {r:R2} (ho:bT X (compareOp op) r) (ha:PE X a ta) (hb:PE X b tb) (hm:behindInMarks op b=false):PT X (.Compare a [op] [b] pos) (Gd (kS r ta tb)):=by
 intro pins s σ H Q I h;refine Kk (am (ha pins s σ H _ I h) λv s1 ⟨x,H1,I1,r1,q1⟩=>am (hb pins s1 σ H1 _ I1 q1) λu s2 ⟨y,H2,I2,r2,q2⟩ =>
   am (ho pins s2 σ H2 x y v u _ I2 r1 r2 q2) λc s3 ⟨z,H3,I3,r3,k,e,q3⟩=>?_) hm
 subst e;cases r3;exact JW #[H3,I3,q3]
noncomputable def oj (K:W.Frag) (x:V) (H:Hp) (k:Bool):Prop :=
 match x with
 | .non=>k=false
 | .bl b=>k=b
 | .int i=>k=(i != 0)
 | .str y=>y.length<=sizeLine/\k=((y.length:Int) != 0)
 | .byt y=>y.size<=sizeLine/\k=((y.size:Int) != 0)
 | .ref p=>(∃xs,aJ K H p xs/\k=!xs.isEmpty)\/(∃xs,aF K H p xs/\k=!xs.isEmpty)\/∃kvs,H p=some (.dK kvs)/\k=!kvs.isEmpty
 | _=>False
theorem AO {κ:Type} {kvs:List (κ×V)} {vs:List (κ×Value)} (r:KV kvs vs):(!vs.isEmpty)=!kvs.isEmpty:=by cases r <;> rfl
theorem uG {xs:List V} {its:List Value} (r:ax xs its):(!its.toArray.isEmpty)=!xs.isEmpty:=by cases r <;> simp
theorem j7:(sizeLine:Nat)<2 ^ 63:=by rw[sizeLine_eq]; decide
theorem Er:Bz X (λx H Q=>∃k,oj X.K x H k/\Q k H):=by
 intro pins s σ H x v Q I rx h;obtain⟨k,e,q⟩:=h;have hl:=j7;have hs:sizeLine=16777216:=sizeLine_eq;cases x with
 | non =>
   cases rx;have e':k=false:=e;subst e';exact truthy_none #[H,I,q]
 | bl b =>
   cases rx;have e':k=b:=e;subst e';exact JW #[H,I,q]
 | int i =>
   obtain⟨t,rfl⟩:=rx;have e':k=(i != 0):=e;subst e';exact PySem.P.truthy_int #[H,I,q]
 | str y =>
   obtain⟨t,rfl⟩:=rx;obtain⟨hy,e'⟩:y.length<=sizeLine/\k=((y.length:Int) != 0):=e;subst e';exact PySem.P.truthy_str (by omega) #[H,I.tok _,q]
 | byt y =>
   obtain⟨t,rfl⟩:=rx;obtain⟨hy,e'⟩:y.size<=sizeLine/\k=((y.size:Int) != 0):=e;subst e';exact PySem.W.truthy_bytes (by omega) #[H,I.tok _,q]
 | ref p =>
   cases rx;have e':(∃xs,aJ X.K H p xs/\k=!xs.isEmpty)\/(∃xs,aF X.K H p xs/\k=!xs.isEmpty)\/∃kvs,H p=some (.dK kvs)/\k=!kvs.isEmpty:=e;rcases e' with⟨xs,hx,e'⟩|⟨xs,hx,e'⟩|⟨kvs,hx,e'⟩
   . subst e';obtain⟨its,r,pl,hz⟩:=I.list hx;have hlen:=r.length;exact wpAny_truthy_list pl.isList (by simp only[Ir]; omega) #[H,I.tok _,by rw[uG r]; exact q]
   . subst e';obtain⟨its,r,pl,hz⟩:=I.tuple hx;have hlen:=r.length;exact truthy_tuple pl (by simp only[Ir]; omega) #[H,I.tok _,by rw[uG r]; exact q]
   . subst e';obtain⟨hz,hS,vs,r,m⟩:kvs.length<=sizeLine/\(p==sysModules)=false/\∃vs,KV kvs vs/\s.heap.DictOf (cJ X.prog X.w) p vs:=I.hok p _ hx;have hlen:kvs.length=vs.length:=Paired.length r;exact wpAny_truthy_dict hS m (by omega) #[H,I.tok _,by rw[AO r]; exact q]
 | _=>exact(show False from e).elim
theorem F7 (ha:PE X a ta) (he:∀whole,isTrue a X.env whole=(do let v <- whole; standAt a.pos; holding [v] (truthy v))) :
   PT X a (λσ H Q=>ta σ H λx H'=>∃k,oj X.K x H' k/\Q k H'):=by
 intro pins s σ H Q I h;exact isTrue_plain (am (ha pins s σ H _ I h) λv s1 ⟨x,H1,I1,r1,q1⟩=>Er pins s1 σ H1 x v Q I1 r1 q1) (he _)
theorem pZ:bT X (binaryOp .Add) (λx y H Q=>∃i j,x=.str i/\y=.str j/\i.length+j.length<=sizeLine/\Q (.str (i++j)) H):=by intro pins s σ H x y v u Q I rx ry h;obtain⟨i,j,rfl,rfl,hz,q⟩:=h;obtain⟨t,rfl⟩:=rx;obtain⟨t',rfl⟩:=ry;exact add_str (λt' tk=>#[.str (i++j),H,I.tok _,#[_,rfl],q]) hz
theorem gY {x:V} (r:ax [x] us):∃u,us=[u]/\bE x u:=by
 cases r with
 | cons r1 r2=>cases r2; exact#[_,rfl,r1]
theorem HJ {x y:V} (r:ax [x,y] us):∃u w',us=[u,w']/\bE x u/\bE y w':=by
 cases r with
 | cons r1 r2 =>
   cases r2 with
   | cons r3 r4=>cases r4; exact#[_,_,rfl,r1,r3]
theorem iO:bt X (.type "int") (λxs H Q=>(∃i,xs=[.int i]/\Q (.int i) H)\/∃k,xs=[.bl k]/\Q (.int (if k then 1 else 0)) H):=by
 intro pins s σ H xs us Q I r h;rcases h with⟨i,rfl,q⟩|⟨k,rfl,q⟩
 . obtain⟨u,rfl,t,rfl⟩:=gY r;exact call_int_int #[.int i,H,I,#[_,rfl],q]
 . obtain⟨u,rfl,r1⟩:=gY r;cases r1;exact call_int_bool #[.int (if k then 1 else 0),H,I.tok _,#[_,rfl],q]
end
structure ObjM (h:Heap) (x dx C:Addr) (mA:Str->Option Value):Prop where
 obj:h.get? x=some (PySem.W.instObj C dx)
 ns:h.Ns1 dx mA
 ne:dx≠x
theorem C6 {dx:Addr} {mA:Str->Option Value} (n:h.Ns1 dx mA):∃od,h.get? dx=some od/\∀name,PySem.W.lookIn name od=some (mA name):=by
 obtain⟨o,es,ep,ho,hd,hk,_,hm⟩:=n;refine#[o,ho,λname=>?_];have e:=hm name;unfold nsFind findBy at e;rw[<- Array.find?_toList] at e;unfold PySem.W.lookIn;rw[hd];dsimp only;split
 . rename_i y q
   rw[q] at e;exact Iq some e
 . rename_i q
   rw[q] at e;have a:es.toList.any (·.refKey)=false:=by rw[List.any_eq_false];intro y hy;obtain⟨z,t,hkey⟩:=hk y (Array.mem_toList_iff.mp hy);simp [DictEntry.refKey,hkey]
   have a':¬ es.toList.any (·.refKey)=true:=by rw[a]; exact Iy
   rw[IW a'];exact Iq some e
variable {C:Addr}
theorem ObjM.look {x dx:Addr}{mA:Str->Option Value} (I:ObjM h x dx C mA):∃od,PySem.W.InstAt h x (PySem.W.instObj C dx) C (some od)/\∀name,PySem.W.lookIn name od=some (mA name) :=
 let ⟨od,ho,hl⟩:=C6 I.ns
 #[od,#[I.obj,rfl,rfl,ho],hl]
variable {pl:Sem Bool}
section
variable {prog:Program} {w:World} {A:Around} {E:Value->Shared->Prop} {s:Shared} {K:W.Frag} {x dx C f:Addr} {mA:Str->Option Value} {name:Str} {v:Value}
theorem IM {expr:Bool} {Q:Value->Shared->Prop} (X:K.In s.heap) (I:ObjM s.heap x dx C mA) (hg:PySem.W.plainGet K C name=true) (hh:PySem.W.hasDictIn K C=true)
   (ha:PySem.W.findIn K (.ref C) name=some none) (hv:mA name=some v) (hv':PySem.W.handedIn v=true) (h:Q v { s with toks:=s.toks+1 }) :
   wpAny (model prog w) A (getAttr (.ref x) name expr) Q E s:=by
 obtain⟨od,J,hl⟩:=I.look;exact PySem.W.get_value X J (PySem.W.plainGet_of hg).1 (PySem.W.findObj_own hh ha rfl (by rw[hl,hv])) hv' h
theorem IB {Q:Value×List Value->Shared->Prop} (X:K.In s.heap) (I:ObjM s.heap x dx C mA) (hg:PySem.W.plainGet K C name=true)
   (hf:PySem.W.findIn K (.ref C) name=some (some (.ref f))) (ht:PySem.W.isFn K (.ref f)=true) (hv:mA name=none) (h:Q (.ref f,[.ref x]) s) :
   wpAny (model prog w) A (getMethod (.ref x) name pl) Q E s:=by
 obtain⟨od,J,hl⟩:=I.look;exact PySem.W.method_fn X J (PySem.W.plainGet_of hg).1 (PySem.W.plainGet_of hg).2 hf (beq_iff_eq.mp ht) (by show(PySem.W.lookIn name od).map (·.isSome)=some false; rw[hl,hv]; rfl) h
theorem E7 {ns:List Str} {Q:Unit->Shared->Prop} (X:K.In s.heap) (I:ObjM s.heap x dx C mA)
   (hs:PySem.W.findIn K (.ref C) "__setattr__"=some (some (.builtin "object.__setattr__"))) (hp:PySem.W.plainOver K C=true) (ht:PySem.W.takerIn K C name=some none) (hh:PySem.W.hasDictIn K C=true)
   (hw:PySem.Within mA ns) (hsz:ns.length<=sizeLine)
   (h:∀h',ObjM h' x dx C (λy=>if y=name then some v else mA y)->Heap.SameBut dx s.heap h'->Q () { s with heap:=h',toks:=s.toks+2 }) :
   wpAny (model prog w) A (setAttr (.ref x) name v) Q E s:=by
 obtain⟨od,J,hl⟩:=I.look;refine PySem.W.set_plain X J hs (PySem.W.osa_open (s:={ s with toks:=s.toks+1 }) (r:=none) X J hp ht λb=>?_);obtain⟨cd,hc,hd'⟩:=PySem.W.any_some hh;have hx:s.heap.get? x=some ⟨.ref C,some dx,.plain,(List.toArray [])⟩:=I.obj;refine IU (Ie (IU (IU (wpAny_loadPart hx (IU (PySem.W.Looks.here (s:={ s with toks:=s.toks+1 }) (PySem.W.looks_clsIn X hc) ?_))))));rw[hd'];refine Ie (a:=some dx) (IU (Ie (IU ?_)));refine wpAny_nsSet1 (s:={ s with toks:=s.toks+1 }) I.ns λh' hn2 hs2=>?_;obtain⟨oD,esD,epD,hoD,hdD,hcD⟩:=hn2.count (PySem.Within.cons name v hw);refine IU (wpAny_lookBehind hoD (by rw[hdD]; exact pastItsLine_dict (J7 hcD (by rw[J6]; omega))) ?_);exact Ie (h _ #[(hs2.2 _ (Ne.symm I.ne)).trans I.obj,hn2,I.ne] hs2)
theorem C9 {R:Result->Shared->Prop} {vs:List Value} {kw:List (Str×Value)} (X:K.In s.heap) (hm:PySem.W.makesIn K C=true)
   (hi:PySem.W.findIn K (.ref C) "__init__"=some (some (.ref f))) (hf:PySem.W.typeIn K (.ref f)=some (.type "function"))
   (h:codeAny (model prog w) (A.under (.builtin "type.__call__" #[.ref C :: vs,kw])) (.call (.ref f) #[.ref (s.heap.objs.size+1) :: vs,kw]) (PySem.W.InitBack (s.heap.objs.size+1) R)
     { s with heap:=(s.heap.push PySem.W.emptyDict).push (PySem.W.instObj C s.heap.objs.size) }) :
   codeAny (model prog w) A (.call (.ref C) #[vs,kw]) R s:=by
 obtain⟨hh,g,d,t,os⟩:=s;exact PySem.W.make_core (PySem.W.makes_of X hm) (PySem.W.looks_findIn X hi) (λself=>PySem.W.bind_fn X self hf) (.inl rfl) h
end
noncomputable def aY (f:Str) (v:V):List (Str×V)->List (Str×V)
 | []=>[(f,v)]
 | (g,x) :: r=>if g=f then(g,v) :: r else(g,x) :: aY f v r
theorem cY (f g:Str) (v:V):∀fs:List (Str×V),(aY f v fs).lookup g=if g=f then some v else fs.lookup g
 | []=>by
   show List.lookup g [(f,v)]=_;by_cases h:g=f
   . have hb:(g==f)=true:=beq_iff_eq.mpr h;simp only[List.lookup,hb,Ig h]
   . have hb:(g==f)=false:=beq_eq_false_iff_ne.mpr h;simp only[List.lookup,hb,IW h]
 | (k,x) :: r=>by
   have ih:=cY f g v r;rw[show aY f v ((k,x) :: r)=(if k=f then(k,v) :: r else(k,x) :: aY f v r) from rfl];by_cases hk:k=f
   . rw[Ig hk];by_cases h:g=k
     . have hb:(g==k)=true:=beq_iff_eq.mpr h;simp only[List.lookup,hb,Ig (h.trans hk)]
     . have hb:(g==k)=false:=beq_eq_false_iff_ne.mpr h;simp only[List.lookup,hb,IW (λe:g=f=>h (e.trans hk.symm))]
   . rw[IW hk];by_cases h:g=k
     . have hb:(g==k)=true:=beq_iff_eq.mpr h;simp only[List.lookup,hb,IW (λe:g=f=>hk (h.symm.trans e))]
     . have hb:(g==k)=false:=beq_eq_false_iff_ne.mpr h;simp only[List.lookup,hb];exact ih
theorem qV (f:Str) (v:V):∀fs:List (Str×V),f∈(aY f v fs).map (·.1)/\∀g,g∈fs.map (·.1)->g∈(aY f v fs).map (·.1)
 | []=>#[by simp [aY],λg h=>by simp at h]
 | (k,x) :: r=>by
   obtain⟨i1,i2⟩:=qV f v r;rw[show aY f v ((k,x) :: r)=(if k=f then(k,v) :: r else(k,x) :: aY f v r) from rfl];by_cases hk:k=f
   . rw[Ig hk];subst hk;exact#[by simp,λg h=>by simpa using h]
   . rw[IW hk];refine#[?_,λg h=>?_]
     . rw[Ix];exact Im _ i1
     . rw[Ix] at h ⊢;rcases Io.mp h with e|e
       . exact Io.mpr (.inl e)
       . exact Im _ (i2 g e)
theorem nO (f:Str) (v:V):∀fs:List (Str×V),(aY f v fs).length<=fs.length+1
 | []=>by simp [aY]
 | (k,x) :: r=>by
   have ih:=nO f v r;rw[show aY f v ((k,x) :: r)=(if k=f then(k,v) :: r else(k,x) :: aY f v r) from rfl];by_cases hk:k=f
   . rw[Ig hk,J6,J6]; omega
   . rw[IW hk,J6,J6]; omega
theorem dB.some_of {o:Option Value} (r:dB (some v) o):∃u,o=some u/\bE v u:=by
 cases o with
 | none=>exact(show False from r).elim
 | some u=>exact#[u,rfl,r]
theorem dB.none_of {o:Option Value} (r:dB none o):o=none:=by
 cases o with
 | none=>rfl
 | some u=>exact(show False from r).elim
theorem EG (r:bE v u):PySem.W.handedIn u=true:=by
 cases v with
 | non=>cases (show u=Value.none from r); rfl
 | bl b=>cases (show u=Value.bool b from r); rfl
 | int i=>obtain⟨t,e⟩:=(show ∃t,u=Value.int i t from r); cases e; rfl
 | str x=>obtain⟨t,e⟩:=(show ∃t,u=Value.str x t from r); cases e; rfl
 | byt b=>obtain⟨t,e⟩:=(show ∃t,u=Value.bytes b t from r); cases e; rfl
 | flt b=>obtain⟨t,e⟩:=(show ∃t,u=Value.float b t from r); cases e; rfl
 | ref a=>cases (show u=Value.ref a from r); rfl
 | ty n=>cases (show u=Value.type n from r); rfl
section
variable {P:Program} {w:World} {H H':Hp} {h h':Heap} {a C dx:Addr} {fs fs':List (Str×V)}
theorem mx (hok:c9 P w H h) (e:H a=some (.ins C dx fs)):∃mA,ObjM h a dx C mA/\(∀f,dB (fs.lookup f) (mA f))/\PySem.Within mA (fs.map (·.1))/\fs.length<=1000/\H dx=some (.own a):=by
 obtain⟨d,z,ne,ob,mA,n,r,q⟩:=(show cF P w H h a (.ins C dx fs) from hok a _ e)
 exact#[mA,#[ob,n,ne],r,q,z,d]
end
structure Cls (K:W.Frag) (C:Addr):Prop where
 pg:PySem.W.plainGet K C Str.empty=true
 hd:PySem.W.hasDictIn K C=true
 po:PySem.W.plainOver K C=true
 sa:PySem.W.findIn K (.ref C) "__setattr__"=some (some (.builtin "object.__setattr__"))
theorem Cls.get {K:W.Frag} {C:Addr} (c:Cls K C) (f:Str):PySem.W.plainGet K C f=true:=c.pg
noncomputable def cf (K:W.Frag) (C:Addr) (f:Str):Prop:=PySem.W.findIn K (.ref C) f=some none
theorem cf.taker {f:Str} (n:cf K C f):PySem.W.takerIn K C f=some none:=by unfold PySem.W.takerIn;rw[show PySem.W.findIn K (.ref C) f=some none from n];rfl
structure Meth (K:W.Frag) (C:Addr) (m:Str) (f:Addr):Prop where
 at_:PySem.W.findIn K (.ref C) m=some (some (.ref f))
 fn:PySem.W.isFn K (.ref f)=true
 kp:PySem.W.keepIn K (.ref f)=true
section
variable {X:Cx} {pins:List (Addr×Obj)} {σ:St} {H:Hp} {s:Shared} {a C dx:Addr} {fs:List (Str×V)} {f:Str} {v:V} {A:Around} {E:Value->Shared->Prop}
theorem BF {b:Bool} {Q:Value->Shared->Prop} (I:Inv X pins σ H s) (e:H a=some (.ins C dx fs)) (c:Cls X.K C) (n:cf X.K C f) (l:fs.lookup f=some v)
   (h:∀u s',Inv X pins σ H s'->bE v u->Q u s'):wpAny (model X.prog X.w) A (getAttr (.ref a) f b) Q E s:=by
 obtain⟨mA,O,r,_,_,_⟩:=mx I.hok e;obtain⟨u,hu,ru⟩:=dB.some_of (v:=v) (o:=mA f) (by rw[<- l]; exact r f);exact IM I.kIn O (c.get f) c.hd n hu (EG ru) (h u _ (I.tok _) ru)
theorem vk {m:Str} {g:Addr} {Q:Value×List Value->Shared->Prop} (I:Inv X pins σ H s) (e:H a=some (.ins C dx fs)) (c:Cls X.K C) (k:Meth X.K C m g) (l:fs.lookup m=none)
   (h:Q (.ref g,[.ref a]) s):wpAny (model X.prog X.w) A (getMethod (.ref a) m pl) Q E s:=by
 obtain⟨mA,O,r,_,_,_⟩:=mx I.hok e;have hn:mA m=none:=dB.none_of (by rw[<- l]; exact r m);exact IB I.kIn O (c.get m) k.at_ k.fn hn h
theorem G8 {y:V} {Q:Unit->Shared->Prop} (I:Inv X pins σ H s) (e:H a=some (.ins C dx fs)) (c:Cls X.K C) (n:cf X.K C f) (hl:fs.length<1000) (ry:bE y u)
   (h:∀s',Inv X pins σ (upd H a (.ins C dx (aY f y fs))) s'->Q () s'):wpAny (model X.prog X.w) A (setAttr (.ref a) f u) Q E s:=by
 obtain⟨mA,O,r,wi,_,ho⟩:=mx I.hok e;have hz:(fs.map (·.1)).length<=sizeLine:=by rw[IX,sizeLine_eq]; omega
 refine E7 I.kIn O c.sa c.po n.taker c.hd wi hz λh' O' sb=>h _ ?_;have hd:∃o,h'.get? dx=some o:=let ⟨o,_,_,e',_⟩:=O'.ns; #[o,e']
 refine I.write (x:=a) (e:=dx) (by rw[e]; exact True.intro) (.inr ho) (λb q hb z=>(sb.2 b hb).trans z) hd ?_;refine#[by rw[aw O.ne]; exact ho,?_,O.ne,O'.obj,_,O'.ns,λg=>?_,λg hg=>?_]
 . have:=nO f y fs; omega
 . show dB ((aY f y fs).lookup g) (if g=f then some u else mA g);rw[cY];by_cases q:g=f
   . rw[Ig q,Ig q]; exact ry
   . rw[IW q,IW q]; exact r g
 . by_cases q:g=f
   . rw[q]; exact(qV f y fs).1
   . refine(qV f y fs).2 g (wi g λz=>hg ?_);show(if g=f then some u else mA g)=none;rw[IW q]; exact z
theorem Inv.made (I:Inv X pins σ H s):Inv X pins σ (upd (upd H s.heap.objs.size (.own (s.heap.objs.size+1))) (s.heap.objs.size+1) (.ins C s.heap.objs.size []))
   { s with heap:=(s.heap.push PySem.W.emptyDict).push (PySem.W.instObj C s.heap.objs.size) }:=by
 have e1:(s.heap.push PySem.W.emptyDict).get? s.heap.objs.size=some PySem.W.emptyDict:=Iz s.heap rfl;have e2:((s.heap.push PySem.W.emptyDict).push (PySem.W.instObj C s.heap.objs.size)).get? (s.heap.objs.size+1)=some (PySem.W.instObj C s.heap.objs.size):=by have:=Iz (s.heap.push PySem.W.emptyDict) (o:=PySem.W.instObj C s.heap.objs.size) rfl;rwa [Jf] at this
 have e3:(s.heap.push PySem.W.emptyDict).Ns s.heap.objs.size (λ_=>none):=#[PySem.W.emptyDict,(List.toArray []),_,e1,rfl,(λe he=>absurd he (by simp)),λ_=>rfl]
 have I1:=I.laid (a:=s.heap.objs.size) (o:=.own (s.heap.objs.size+1)) (h':=s.heap.push PySem.W.emptyDict) (t':=s.toks) (λb u q=>IZ _ q) (Ib _) #[_,e1];refine I1.laid (a:=s.heap.objs.size+1) (o:=.ins C s.heap.objs.size []) (t':=s.toks) (λb u q=>IZ _ q) (Nat.le_of_eq (Jf _ _)) ?_;have ne:s.heap.objs.size≠s.heap.objs.size+1:=J8 (Jt _);refine#[by rw[aw ne,aI],J2 _,ne,e2,λ_=>none,(Heap.Ns1.of_empty e3).at λo q=>IZ _ q,λ_=>True.intro,λy hy=>absurd rfl hy]
theorem C2 {prog:Program} {env:Env} {f:Str} {Q:Value->Shared->Prop} (hb:attributeBase e f env (eval e env)=eval e env)
   (h:wpAny (model prog w) A (eval e env) (λo s₁=>wpAny (model prog w) A (getAttr o f true) Q E s₁) E s):wpAny (model prog w) A (eval (.Attribute e f pos) env) Q E s :=
 Attribute_any_ h (by rw[arm_eval_Attribute,hb])
end
noncomputable def uC (K:W.Frag) (ta:TE) (f:Str):TE:=λσ H Q=>ta σ H λx H1=>∃a C dx fs v,x=.ref a/\H1 a=some (.ins C dx fs)/\Cls K C/\cf K C f/\fs.lookup f=some v/\Q v H1
noncomputable def GZ (K:W.Frag) (ta tv:TE) (f:Str):TS:=λD σ H=>tv σ H λy H1=>ta σ H1 λx H2=>∃a C dx fs,x=.ref a/\H2 a=some (.ins C dx fs)/\Cls K C/\cf K C f/\fs.length<1000 /\
 D.nx σ (upd H2 a (.ins C dx (aY f y fs)))
section
variable {X:Cx} {o e value:Expr} {f:Str} {pos pos' tpos:Pos} {ta tv:TE}
theorem bM (he:PE X e ta) (hb:attributeBase e f X.env (eval e X.env)=eval e X.env):PE X (.Attribute e f pos) (uC X.K ta f):=by intro pins s σ H Q I h;refine C2 hb (am (he pins s σ H _ I h) λu s1 ⟨x,H1,I1,rx,a,C,dx,fs,v,ex,ea,c,n,l,q⟩=>?_);subst ex;obtain rfl:u=Value.ref a:=rx;exact BF I1 ea c n l λu' s2 I2 ru=>#[v,H1,I2,ru,q]
theorem dr (ha:PE X o ta) (hv:PE X value tv) (hs:swapsWith value (some (.Attribute o f pos')) pos.line X.env=pure false):PS X (.Assign [.Attribute o f pos'] value pos) (GZ X.K ta tv f):=by intro pins s σ H D I h;refine plainObj_wpAny_Assign_Attribute (am (hv pins s σ H _ I h) λu s1 ⟨y,H1,I1,ry,q⟩=>am (ha pins s1 σ H1 _ I1 q) λov s2 ⟨x,H2,I2,rx,a,C,dx,fs,ex,ea,c,n,l,q2⟩=>?_) hs;subst ex;obtain rfl:ov=Value.ref a:=rx;exact G8 I2 ea c n l ry λs3 I3=>#[σ,_,I3,q2]
end
section
variable {X:Cx} {pins:List (Addr×Obj)} {σ:St} {H:Hp} {s:Shared} {A:Around} {E:Value->Shared->Prop} {Q:Value->Shared->Prop} {c:Value} {b:Bool}
inductive TyOf (K:W.Frag) (H:Hp):V->Value->Prop where
 | non:TyOf K H .non (.type "NoneType")
 | bl (x:Bool):TyOf K H (.bl x) (.type "bool")
 | int (i:Int):TyOf K H (.int i) (.type "int")
 | str (x:Str):TyOf K H (.str x) (.type "str")
 | flt (x:UInt64):TyOf K H (.flt x) (.type "float")
 | lst {a:Addr} {xs:List V} (e:H a=some (.lst xs)):TyOf K H (.ref a) (.type "list")
 | frz {a:Addr} {o:Obj} {xs:List V} (e:H a=some (.frz o (.lst xs))):TyOf K H (.ref a) (.type "list")
 | tup {a:Addr} {xs:List V} (e:H a=some (.tup xs)):TyOf K H (.ref a) (.type "tuple")
 | dK {a:Addr} {kvs:List (aL×V)} (e:H a=some (.dK kvs)):TyOf K H (.ref a) (.type "dict")
 | dT {a:Addr} {kvs:List (List aL×V)} (e:H a=some (.dT kvs)):TyOf K H (.ref a) (.type "dict")
 | ins {a C dx:Addr} {fs:List (Str×V)} (e:H a=some (.ins C dx fs)) (cl:Cls K C) (ha:PySem.W.findIn K (.ref C) "__class__"=some (some (.builtin "object.__class__")))
     (hn:PySem.W.specialIn K (.builtin "object.__class__") "__get__"=some (some (.builtin "getset_descriptor.__get__"))) (htk:PySem.W.takesIn K (.builtin "object.__class__")=some true)
     (hm:PySem.W.mroIn K C (.type "object")=some true):TyOf K H (.ref a) (.ref C)
theorem BN {x:V} {t:Value}(I:Inv X pins σ H s) (rx:bE x u) (ty:TyOf X.K H x t) (e:PySem.W.kitOne X.K t c=some b) (h:∀tk,Q (.bool b) { s with toks:=tk }) :
   wpAny (model X.prog X.w) A (call (.builtin "isinstance") [u,c]) Q E s:=by
 cases ty with
 | non=>cases (show u=Value.none from rx); exact PySem.W.kia_one PySem.W.kitx_none I.kIn True.intro e (λz=>nomatch z) h
 | bl y=>cases (show u=Value.bool y from rx); exact PySem.W.kia_one PySem.W.kitx_bool I.kIn True.intro e (λz=>nomatch z) h
 | int i=>obtain⟨t,q⟩:=(show ∃t,u=Value.int i t from rx); cases q; exact PySem.W.kia_one PySem.W.kitx_int I.kIn True.intro e (λz=>nomatch z) h
 | str y=>obtain⟨t,q⟩:=(show ∃t,u=Value.str y t from rx); cases q; exact PySem.W.kia_one PySem.W.kitx_str I.kIn True.intro e (λz=>nomatch z) h
 | flt y=>obtain⟨t,q⟩:=(show ∃t,u=Value.float y t from rx); cases q; exact PySem.W.kia_one PySem.W.kitx_float I.kIn True.intro e (λz=>nomatch z) h
 | @lst a xs ea =>
   cases (show u=Value.ref a from rx);obtain⟨_,_,n,_,h1⟩:=(show cF X.prog X.w H s.heap a (.lst xs) from I.hok a _ ea)
   exact PySem.W.kia_one PySem.W.kitx_list I.kIn #[_,h1,rfl] e (λz=>nomatch z) h
 | @frz a ob xs ea =>
   cases (show u=Value.ref a from rx);obtain⟨_,_,_,n,_,h1⟩:=(show cF X.prog X.w H s.heap a (.frz ob (.lst xs)) from I.hok a _ ea)
   exact PySem.W.kia_one PySem.W.kitx_list I.kIn #[_,h1,rfl] e (λz=>nomatch z) h
 | @tup a xs ea =>
   cases (show u=Value.ref a from rx);obtain⟨_,_,_,p⟩:=(show cF X.prog X.w H s.heap a (.tup xs) from I.hok a _ ea)
   obtain⟨o,h1,h2,_⟩:=p;exact PySem.W.kia_one PySem.W.kitx_tuple I.kIn #[o,h1,h2] e (λz=>nomatch z) h
 | @dK a kvs ea =>
   cases (show u=Value.ref a from rx);obtain⟨_,_,vs,_,p⟩:=(show cF X.prog X.w H s.heap a (.dK kvs) from I.hok a _ ea)
   obtain⟨o,es,ep,h1,h2,_⟩:=p;exact PySem.W.kia_one PySem.W.kitx_dict I.kIn #[o,h1,h2.1] e (λz=>nomatch z) h
 | @dT a kvs ea =>
   cases (show u=Value.ref a from rx);obtain⟨_,_,xs,_,o,es,ep,h1,h2,_⟩:=(show cF X.prog X.w H s.heap a (.dT kvs) from I.hok a _ ea)
   exact PySem.W.kia_one PySem.W.kitx_dict I.kIn #[o,h1,h2.1] e (λz=>nomatch z) h
 | @ins a C dx fs ea cl ha hn htk hm =>
   cases (show u=Value.ref a from rx);obtain⟨mA,O,_⟩:=mx I.hok ea;obtain⟨od,J,_⟩:=O.look;exact PySem.W.kia_one (PySem.W.kitx_own (cl.get _) cl.hd ha hn htk hm) I.kIn J e (λz=>nomatch z) h
end
structure Room (k:Nat) (A:Around):Prop where
 hd:A.handled=none
 dp:A.depth+3 * k+5<recursionLimit
 un:A.units+16 * k+200<cLine
theorem Room.mono {j k:Nat} (r:Room k A) (h:j<=k):Room j A:=#[r.hd,by have:=r.dp; omega,by have:=r.un; omega]
theorem Room.deeper {k:Nat} (r:Room (k+1) A) (env:Env):Room k (A.deeper env) :=
 #[r.hd,by have:=r.dp; show A.depth+1+3 * k+5<_; omega,by have:=r.un; show A.units+3+16 * k+200<_; omega]
theorem GI {kw:List (Str×Value)}:(A.under (.builtin "type.__call__" #[.ref C :: us,kw])).depth=A.depth+1:=by
 first|rfl|simp [Around.under,Code.weight,Code.isCreation,Code.isGuard,Code.isCaller,Code.frames,Code.isFrame,guardIds]
theorem EF {kw:List (Str×Value)}:(A.under (.builtin "type.__call__" #[.ref C :: us,kw])).units=A.units+1:=by
 first|rfl|simp [Around.under,Code.cUnits,Code.frames,Code.isFrame]
theorem Room.make {k:Nat} (r:Room (k+1) A) (C:Addr) (us:List Value) (kw:List (Str×Value)):Room k (A.under (.builtin "type.__call__" #[.ref C :: us,kw])) :=
 #[r.hd,by have:=r.dp; rw[GI]; omega,by have:=r.un; rw[EF]; omega]
theorem Room.depth {k:Nat} (r:Room k A):A.depth<recursionLimit:=by have:=r.dp; omega
theorem Room.units {k:Nat} (r:Room k A):A.units+64<cLine:=by have:=r.un; omega
noncomputable def rT:TA:=λ_ H Q=>Q [] H
noncomputable def vJ (ta:TE) (tr:TA):TA:=λσ H Q=>ta σ H λx H1=>tr σ H1 λxs H2=>Q (x :: xs) H2
section
variable {X:Cx} {e:Expr} {es:List Expr} {te:TE} {t:TA} {pos:Pos}
theorem aE:PA X [] rT:=λ_ _ _ _ H Q I h=>Calls.spliced_nil #[[],H,I,.nil,h]
theorem aO (ha:PE X e te) (hr:PA X es t) (hs:starEach (e :: es) X.env=(false,eval e X.env) :: starEach es X.env:=by rfl):PA X (e :: es) (vJ te t):=by intro pos pins s σ H Q I h;rw[hs];show wpAny _ _ (spliced ((false,eval e X.env) :: backTo pos (starEach es X.env))) _ _ s;refine Calls.spliced_cons (am (ha pins s σ H _ I h) λu s1 ⟨x,H1,I1,r1,q1⟩=>?_);exact am (hr pos pins s1 σ H1 _ I1 q1) λus s2 ⟨xs,H2,I2,r2,q2⟩=>#[x :: xs,H2,I2,.cons r1 r2,q2]
theorem aC {es:List Expr} {te:TE} {t:TA} (ha:PE X e te) (hr:PA X es t) (hs:starEach (e :: es) X.env=(false,eval e X.env) :: starEach es X.env):PA X (e :: es) (vJ te t):=aO ha hr hs
noncomputable def HQ (t:TA):TE:=λσ H Q=>t σ H λxs H1=>xs.length<=sizeLine/\∀p,H1 p=none->Q (.ref p) (upd H1 p (.tup xs))
noncomputable def wa (t:TA):TE:=λσ H Q=>t σ H λxs H1=>xs.length<=sizeLine/\∀p,H1 p=none->Q (.ref p) (upd H1 p (.lst xs))
theorem aq {x1} (h:PA X es t):PE X (.Tuple es x1 pos) (HQ t):=by intro pins s σ H Q I hq;refine wpAny_Tuple_spliced (am (h pos pins s σ H _ I hq) λus s1 ⟨xs,H1,I1,r,z,q⟩=>#[by rw[<- r.length]; exact z,?_]);have hf:H1 s1.heap.objs.size=none:=I1.hok.fresh (Ib _);refine#[.ref s1.heap.objs.size,upd H1 s1.heap.objs.size (.tup xs),I1.laid (t':=s1.toks) (λb u e=>IZ _ e) (Ib _) ?_,rfl,q _ hf];exact#[z,us,r,#[_,Iz _ rfl,rfl,_,rfl]]
theorem bu (h:PA X es t):PE X (.List es pos) (wa t):=by intro pins s σ H Q I hq;refine wpAny_List_spliced (am (h pos pins s σ H _ I hq) λus s1 ⟨xs,H1,I1,r,z,q⟩=>#[by rw[<- r.length]; exact z,?_]);have hf:H1 s1.heap.objs.size=none:=I1.hok.fresh (Ib _);refine#[.ref s1.heap.objs.size,upd H1 s1.heap.objs.size (.lst xs),I1.laid (t':=s1.toks) (λb u e=>IZ _ e) (Ib _) ?_,rfl,q _ hf];exact#[z,us,0,r,Iz _ rfl]
end
noncomputable abbrev Sp:=List V->Hp->VK->XK->Prop
noncomputable abbrev fN:=List Env->Hp->Shared->XK->Value->Shared->Prop
structure Env0 (P:Program) (w:World) (K:W.Frag) (mg:Str->Option Value) (base:Heap) (A:Around) (outer:List Env) (s:Shared) (H:Hp):Prop where
 frames:A.frames=some outer
 mod:Mod K mg base
 bs:∀b o,base.get? b=some o->s.heap.get? b=some o/\H b=none
 bsz:base.objs.size<=s.heap.objs.size
 funs:s.heap.FunFrames base outer
 frf:∀b∈fO outer,H b=none
 hok:c9 P w H s.heap
 bare:AllBare s.gens
noncomputable def CE (outer:List Env) (P:Program) (w:World) (H:Hp) (s:Shared) (Q:VK) (u:Value) (s':Shared):Prop :=
 ∃v H',s'.os=s.os/\AllBare s'.gens/\Un (fO outer) [] H H' s.heap s'.heap/\c9 P w H' s'.heap/\bE v u/\Q v H'
noncomputable def CR (CX:fN) (outer:List Env) (P:Program) (w:World) (H:Hp) (s:Shared) (Q:VK) (E:XK) (r:Result) (s':Shared):Prop :=
 match r with
 | .ok (.ret u)=>CE outer P w H s Q u s'
 | .ok _=>False
 | .error e=>CX outer H s E e s'
structure FnOk (P:Program) (w:World) (K:W.Frag) (mg:Str->Option Value) (base:Heap) (CX:fN) (k:Nat) (f:Addr) (fd:FuncData) (ps:List Str) (sp:Sp):Prop where
 len:∀vs H Q E,sp vs H Q E->vs.length=ps.length
 run:∀(A:Around) (outer:List Env) (s:Shared) (H:Hp) (args:Args) (us:List Value) (vs:List V) (Q:VK) (E:XK),Room k A->Env0 P w K mg base A outer s H->BindsTo s fd args (ps.zip us)->ax vs us->sp vs H Q E ->
   codeAny (model P w) A (.call (.ref f) args) (CR CX outer P w H s Q E) s
variable {base:Heap}
theorem Env0.make {mg:Str->Option Value} {outer:List Env} (e:Env0 P w K mg base A outer s H) (C:Addr) (us:List Value) (kw:List (Str×Value)) :
   Env0 P w K mg base (A.under (.builtin "type.__call__" #[.ref C :: us,kw])) outer s H:=#[by first|exact e.frames|(simpa [Around.under,Code.envs,Code.isFrame,pushEnvs] using e.frames),e.mod,e.bs,e.bsz,e.funs,e.frf,e.hok,e.bare]
section
variable {X:Cx} {pins:List (Addr×Obj)} {σ:St} {H:Hp} {s s':Shared}
theorem Inv.env0 (I:Inv X pins σ H s):Env0 X.prog X.w X.K X.mg X.base X.A X.stack s H :=
 #[I.ok.frames,I.ok.mod,I.bs,J7 I.ok.bsz I.sz,I.stack,I.stkFree,I.hok,I.bare]
theorem Inv.after {Q:VK} (I:Inv X pins σ H s) (h:CE X.stack X.prog X.w H s Q u s'):EP X pins σ Q u s':=by obtain⟨v,H',os,bare,un,hok,r,q⟩:=h;obtain⟨hh,g,d,t,os'⟩:=s';obtain rfl:os'=s.os:=os;exact#[v,H',I.call (h':=hh) (g':=g) (d':=d) (t':=t) (ch:=[]) un hok bare (λb z=>absurd z (by simp)),r,q]
end
noncomputable def wy (sp:Sp) (dvs:List V) (E:XK) (t:TA):TE:=λσ H Q=>t σ H λvs H1=>sp (vs++dvs) H1 Q E
noncomputable def ur (C:Addr) (m:Str) (sp:Sp) (dvs:List V) (E:XK) (ta:TE) (t:TA):TE:=λσ H Q=>ta σ H λx H1=>∃a dx fs,x=.ref a/\H1 a=some (.ins C dx fs)/\fs.lookup m=none /\
 t σ H1 λvs H2=>sp (x :: (vs++dvs)) H2 Q E
noncomputable def wz (C:Addr) (sp:Sp) (dvs:List V) (E:XK) (t:TA):TE:=λσ H Q=>t σ H λvs H1=>∀x dx,H1 x=none->H1 dx=none->dx≠x ->
 sp (.ref x :: (vs++dvs)) (upd (upd H1 dx (.own x)) x (.ins C dx [])) (λv H2=>v=.non/\Q (.ref x) H2) E
noncomputable def fH (K:W.Frag) (fd:FuncData) (ps:List Str) (ds:List Value):Prop :=
 ∀(s:Shared) (us:List Value),K.In s.heap->(us++ds).length=ps.length->BindsTo s fd #[us,[]] (ps.zip (us++ds))
theorem fH.all {fd:FuncData} {ps:List Str} (h:∀us:List Value,us.length=ps.length->bindArgs fd #[us,[]]=pure (ps.zip us)):fH K fd ps []:=λs us _ hl=>by rw[JI] at hl ⊢;exact .of_eq (h us hl)
noncomputable def iU (CX:fN) (X:Cx) (E:XK):Prop:=∀(pins:List (Addr×Obj)) (σ:St) (H:Hp) (s:Shared) (e:Value) (s':Shared),Inv X pins σ H s->CX X.stack H s E e s'->X.xe e s'
section
variable {X:Cx} {CX:fN} {k:Nat} {f C:Addr} {fd:FuncData} {ps:List Str} {sp:Sp} {dvs:List V} {ds:List Value} {E:XK} {x m:Str} {p pos apos:Pos} {e o:Expr} {es:List Expr} {ta:TE} {t:TA}
theorem nW {Q:VK} {vs:List V} (F:FnOk X.prog X.w X.K X.mg X.base CX k f fd ps sp) (hr:Room k X.A) (hb:fH X.K fd ps ds) (hd:ax dvs ds) (hx:iU CX X E)
   (I:Inv X pins σ H s) (r:ax vs us) (h:sp (vs++dvs) H Q E):wpAny (model X.prog X.w) X.A (call (.ref f) us) (EP X pins σ Q) X.xe s:=by
 have r2:ax (vs++dvs) (us++ds):=r.append hd;have hl:(us++ds).length=ps.length:=by rw[<- r2.length]; exact F.len _ _ _ _ h
 refine wpAny_call (LJ (F.run X.A X.stack s H #[us,[]] (us++ds) (vs++dvs) Q E hr I.env0 (hb s us I.kIn hl) r2 h) λr s' hq=>?_);cases r with
 | error e=>exact hx pins σ H s e s' I hq
 | ok fl =>
   cases fl with
   | ret u=>exact I.after hq
   | next=>exact False.elim hq
   | brk=>exact False.elim hq
   | cont=>exact False.elim hq
theorem F8 (F:FnOk X.prog X.w X.K X.mg X.base CX k f fd ps sp) (hr:Room k X.A) (hg:Gl X x) (hm:X.mg x=some (.ref f)) (hk:PySem.W.keepIn X.K (.ref f)=true) (hb:fH X.K fd ps ds) (hd:ax dvs ds) (hx:iU CX X E)
   (ha:PA X (e :: es) t) (hdb:(x==("__debug__":Str))=false:=by decide) (he:starEach (e :: es) X.env=(false,eval e X.env) :: starEach es X.env:=by rfl) (hpl:(backTo pos (starEach es X.env)).any (·.1)=false:=by rfl) :
   PE X (.Call (.Name x p) (e :: es) [] pos) (wy sp dvs E t):=by
 intro pins s σ H Q I h;refine K9 (ql I hg hm ?_ hdb);refine PySem.W.callWith_K (h₀:=X.base) I.ok.mod.kin hk (am (ha pos pins s σ H _ I h) λus s1 ⟨vs,H1,I1,r,q⟩=>#[I1.kIn,?_]) he hpl;exact nW F hr hb hd hx I1 r q
theorem dJ (he:PE X o ta) (c:Cls X.K C) (hm:Meth X.K C m f) (F:FnOk X.prog X.w X.K X.mg X.base CX k f fd ps sp) (hr:Room k X.A) (hb:fH X.K fd ps ds) (hd:ax dvs ds) (hx:iU CX X E) (ha:PA X (e :: es) t)
   (hst:starEach (e :: es) X.env=(false,eval e X.env) :: starEach es X.env:=by rfl) (hpl:(backTo pos (starEach es X.env)).any (·.1)=false:=by rfl)
   (ht:eval (.Call (.Attribute o m apos) (e :: es) [] pos) X.env=(do
     let ov <- eval o X.env
     standAt apos.atName
     let (f,first) <- holding [ov] (getMethod ov m pl)
     callWith pos f first (backTo pos (starEach (e :: es) X.env)) (backToKw pos (keywordEach [] X.env))):=by rfl) :
   PE X (.Call (.Attribute o m apos) (e :: es) [] pos) (ur C m sp dvs E ta t):=by
 intro pins s σ H Q I h;refine PySem.W.methodCall_KW (pl:=pl) (am (he pins s σ H _ I h) λu s1 ⟨x,H1,I1,rx,a,dx,fs,ex,ea,l,q⟩=>?_) ht;subst ex;obtain rfl:u=Value.ref a:=rx;refine vk I1 ea c hm l ?_;refine PySem.W.callWith_K (first:=[.ref a]) (h₀:=X.base) I.ok.mod.kin hm.kp (am (ha pos pins s1 σ H1 _ I1 q) λus s2 ⟨vs,H2,I2,r,q2⟩=>#[I2.kIn,?_]) hst hpl;exact nW (us:=.ref a :: us) (vs:=.ref a :: vs) F hr hb hd hx I2 (.cons rfl r) q2
theorem Ge (he:PE X o ta) (c:Cls X.K C) (hm:Meth X.K C m f) (F:FnOk X.prog X.w X.K X.mg X.base CX k f fd ps sp) (hr:Room k X.A) (hb:fH X.K fd ps ds) (hd:ax dvs ds) (hx:iU CX X E)
   (ht:eval (.Call (.Attribute o m apos) [] [] pos) X.env=(do
     let ov <- eval o X.env
     standAt apos.atName
     let (f,first) <- holding [ov] (getMethod ov m pl)
     callWith pos f first (backTo pos (starEach [] X.env)) (backToKw pos (keywordEach [] X.env))):=by rfl) :
   PE X (.Call (.Attribute o m apos) [] [] pos) (ur C m sp dvs E ta rT):=by
 intro pins s σ H Q I h;refine PySem.W.methodCall_KW (pl:=pl) (am (he pins s σ H _ I h) λu s1 ⟨x,H1,I1,rx,a,dx,fs,ex,ea,l,q⟩=>?_) ht;subst ex;obtain rfl:u=Value.ref a:=rx;refine vk I1 ea c hm l ?_;exact PySem.W.callWith_K0 (first:=[.ref a]) I1.kIn hm.kp (nW (us:=[.ref a]) (vs:=[.ref a]) F hr hb hd hx I1 (.cons rfl .nil) q)
structure Mk (K:W.Frag) (C f:Addr):Prop where
 makes:PySem.W.makesIn K C=true
 init:PySem.W.findIn K (.ref C) "__init__"=some (some (.ref f))
 fn:PySem.W.isFn K (.ref f)=true
 kp:PySem.W.keepIn K (.ref C)=true
theorem DK {Q:VK} {vs:List V} (M:Mk X.K C f) (F:FnOk X.prog X.w X.K X.mg X.base CX k f fd ps sp) (hr:Room (k+1) X.A) (hb:fH X.K fd ps ds) (hd:ax dvs ds)
   (hx:iU CX X E) (I:Inv X pins σ H s) (r:ax vs us)
   (h:∀x dx,H x=none->H dx=none->dx≠x->sp (.ref x :: (vs++dvs)) (upd (upd H dx (.own x)) x (.ins C dx [])) (λv H2=>v=.non/\Q (.ref x) H2) E) :
   wpAny (model X.prog X.w) X.A (call (.ref C) us) (EP X pins σ Q) X.xe s:=by
 have hq:=h (s.heap.objs.size+1) s.heap.objs.size (I.hok.fresh (Kf _)) (I.hok.fresh (Ib _)) (J8 (Jt _));have I2:=Inv.made (C:=C) I;have r2:ax (V.ref (s.heap.objs.size+1) :: (vs++dvs)) (Value.ref (s.heap.objs.size+1) :: (us++ds)):=.cons rfl (r.append hd);have hl:(Value.ref (s.heap.objs.size+1) :: us++ds).length=ps.length:=by have e:=r2.length;rw[F.len _ _ _ _ hq] at e;exact e.symm
 refine wpAny_call (C9 (f:=f) I.kIn M.makes M.init (beq_iff_eq.mp M.fn) (LJ (F.run _ X.stack _ _ #[Value.ref (s.heap.objs.size+1) :: us,[]] (Value.ref (s.heap.objs.size+1) :: (us++ds)) _ _ E (hr.make C us [])
   (I2.env0.make C us []) (hb _ (Value.ref (s.heap.objs.size+1) :: us) I2.kIn hl) r2 hq) λr s' hq'=>?_))
 cases r with
 | error e=>exact hx pins σ _ _ e s' I2 hq'
 | ok fl =>
   cases fl with
   | ret u =>
     obtain⟨v,H',I3,rv,ev,q3⟩:=I2.after hq';subst ev;exact#[rv,#[V.ref (s.heap.objs.size+1),H',I3,rfl,q3]]
   | next=>exact False.elim hq'
   | brk=>exact False.elim hq'
   | cont=>exact False.elim hq'
theorem E1 (M:Mk X.K C f) (F:FnOk X.prog X.w X.K X.mg X.base CX k f fd ps sp) (hr:Room (k+1) X.A) (hg:Gl X x) (hm:X.mg x=some (.ref C)) (hb:fH X.K fd ps ds) (hd:ax dvs ds) (hx:iU CX X E)
   (ha:PA X (e :: es) t) (hdb:(x==("__debug__":Str))=false:=by decide) (he:starEach (e :: es) X.env=(false,eval e X.env) :: starEach es X.env:=by rfl) (hpl:(backTo pos (starEach es X.env)).any (·.1)=false:=by rfl) :
   PE X (.Call (.Name x p) (e :: es) [] pos) (wz C sp dvs E t):=by
 intro pins s σ H Q I h;refine K9 (ql I hg hm ?_ hdb);refine PySem.W.callWith_K (h₀:=X.base) I.ok.mod.kin M.kp (am (ha pos pins s σ H _ I h) λus s1 ⟨vs,H1,I1,r,q⟩=>#[I1.kIn,?_]) he hpl;exact DK M F hr hb hd hx I1 r q
end
structure FnScope (N P:List Str) (sc:Scope):Prop where
 kind:sc.kind=.function
 co:sc.isCoroutine=false
 gen:sc.isGenerator=false
 nd:N.Nodup
 pre:N.take P.length=P
 par:∀x∈P,sc.names.lookup x=some .local\/sc.names.lookup x=some .cell
 nofree:∀y∈sc.names,y.2≠.free
theorem vj {kindOf:Str->Option NameKind} {x:Str}:∀{binds:List (Str×Value)} {m:Str->Option Value},(∀v,(x,v) ∉ binds)->bindL kindOf binds m x=m x
 | [],_,_=>rfl
 | (n,v) :: r,m,h=>by
   unfold bindL;rw[vj λw hw=>h w (Im _ hw)];split
   . have:x≠n:=by rintro rfl; exact h v Ii
     simp [this]
   . rfl
theorem uA {kindOf:Str->Option NameKind} {x:Str}:∀{binds:List (Str×Value)} {m:Str->Option Value},(∀v,(x,v) ∉ binds)->bindC kindOf binds m x=m x
 | [],_,_=>rfl
 | (n,v) :: r,m,h=>by
   unfold bindC;rw[uA λw hw=>h w (Im _ hw)];split
   . rfl
   . have:x≠n:=by rintro rfl; exact h v Ii
     simp [this]
theorem wI {kindOf:Str->Option NameKind} {x:Str} {v:Value}:∀{P:List Str} {vs:List Value} {i:Nat} {m:Str->Option Value},P.Nodup->P[i]?=some x->vs[i]?=some v->kindOf x=some .local ->
   bindL kindOf (P.zip vs) m x=some v
 | [],_,_,_,_,h,_,_=>by simp at h
 | _ :: _,[],_,_,_,_,h,_=>by simp at h
 | p :: P,w :: vs,0,m,nd,h1,h2,hk=>by simp at h1 h2; subst h1; subst h2;show bindL kindOf ((p,w) :: P.zip vs) m p=_;unfold bindL;rw[vj λv hv=>(Jh.mp nd).1 (KM hv).1,Ig hk];simp
 | p :: P,w :: vs,i+1,m,nd,h1,h2,hk=>by show bindL kindOf ((p,w) :: P.zip vs) m x=_;unfold bindL;exact wI (i:=i) (Jh.mp nd).2 (by simpa using h1) (by simpa using h2) hk
theorem wN {kindOf:Str->Option NameKind} {x:Str} {v:Value}:∀{P:List Str} {vs:List Value} {i:Nat} {m:Str->Option Value},P.Nodup->P[i]?=some x->vs[i]?=some v->kindOf x≠some .local ->
   bindC kindOf (P.zip vs) m x=some v
 | [],_,_,_,_,h,_,_=>by simp at h
 | _ :: _,[],_,_,_,_,h,_=>by simp at h
 | p :: P,w :: vs,0,m,nd,h1,h2,hk=>by simp at h1 h2; subst h1; subst h2;show bindC kindOf ((p,w) :: P.zip vs) m p=_;unfold bindC;rw[uA λv hv=>(Jh.mp nd).1 (KM hv).1,IW hk];simp
 | p :: P,w :: vs,i+1,m,nd,h1,h2,hk=>by show bindC kindOf ((p,w) :: P.zip vs) m x=_;unfold bindC;exact wN (i:=i) (Jh.mp nd).2 (by simpa using h1) (by simpa using h2) hk
noncomputable def gp (N:List Str) (vs:List V):St:=vs.map some++List.replicate (N.length - vs.length) none
noncomputable def iY (CX:fN) (P:Program) (w:World) (K:W.Frag) (mg:Str->Option Value) (base:Heap) (N:List Str) (qual:Str) (scope:Scope) (f:Addr) (cd:Value) (A:Around) (outer:List Env) (s:Shared) (H:Hp) (E:XK):Cx where
 prog:=P
 w:=w
 K:=K
 mg:=mg
 base:=base
 A:=A.deeper (envOfC qual scope s.heap.objs.size f cd)
 N:=N
 s₀:=s
 H₀:=H
 env:=envOfC qual scope s.heap.objs.size f cd
 outer:=outer
 stack:=envOfC qual scope s.heap.objs.size f cd :: outer
 ex:=[]
 calm:=true
 fn:=λ_=>true
 pn:=[]
 xe:=λe s'=>wpAny (model P w) (A.deeper (envOfC qual scope s.heap.objs.size f cd)) (leaving (envOfC qual scope s.heap.objs.size f cd) e) (λ_ s''=>CX outer H s E e s'') (λe' s''=>CX outer H s E e' s'') s'
theorem tE {sc:Scope} {n:Nat} (h:sc.names.lookup x=some .cell):∃c,(cellsFrom n sc.names []).lookup x=some c:=by have q:=PySem.W.cellsFrom_some sc.names n [] (.inl h);exact KO.mp q
theorem CQ {CX:fN} {mg:Str->Option Value} {N ps:List Str} {qual:Str} {scope:Scope} {f:Addr} {cd:Value} {outer:List Env} {s1:Shared}{E:XK} {vs:List V}
   (S:FnScope N ps scope) (hd:A.handled=none) (e0:Env0 P w K mg base A outer s H) (hl:vs.length=ps.length) (r:ax vs us)
   (x:InCallC s s.heap.objs.size (bindL (envOfC qual scope s.heap.objs.size f cd).kindOf (ps.zip us) λ_=>none) (cellsFrom (s.heap.objs.size+1) scope.names []) (bindC (envOfC qual scope s.heap.objs.size f cd).kindOf (ps.zip us) λ_=>none) s1) :
   Inv (iY CX P w K mg base N qual scope f cd A outer s H E) [] (gp N vs) H s1:=by
 have hpl:ps.length<=N.length:=by have:=Iq List.length S.pre; rw[JC] at this; omega
 obtain⟨h1,tk,rfl,hk⟩:=x.done;have noA:∀b:Addr,b ∉ (iY CX P w K mg base N qual scope f cd A outer s H E).ex:=λb z=>absurd (show b∈([]:List Addr) from z) (by simp);refine#[#[e0.mod,S.kind,rfl,rfl,Ib _,λy z c h1 h2=>?_,λy hy=>?_,λy c _ h=>?_,λ_=>hd,Around.frames_deeper e0.frames,.inr #[rfl,rfl],λb z=>absurd z (noA b),e0.bs,e0.bsz,λb _ _=>noA b,λb z=>absurd z (noA b),e0.funs,e0.frf],
   rfl,e0.bare,Un.kept hk,#[_,x.toInCall.ns,λi y v h1 h2 h3=>?_],λy c h=>#[_,x.cell y c h],e0.hok.fresh (Ib _),λy c h=>?_,λp hp=>absurd (show p∈([]:List (Addr×Obj)) from hp) (by simp),e0.hok.kept hk,?_]
 . exact name_of_addr x.apart (PySem.mem_of_lookup h1) (PySem.mem_of_lookup h2)
 . have hy:scope.names.lookup y=some .cell\/scope.names.lookup y=some .free:=hy;rcases hy with hy|hy
   . exact tE hy
   . exact absurd rfl (S.nofree _ (PySem.mem_of_lookup hy))
 . exact LH (x.above y c (PySem.mem_of_lookup h))
 . have hi:i<vs.length:=by
     unfold gp at h2;by_cases hi:i<vs.length
     . exact hi
     . rw[Jb (by simpa using hi)] at h2;rw[List.getElem?_replicate] at h2;split at h2 <;> cases h2
   have ha:vs[i]?=some v:=by
     unfold gp at h2;rw[K4 (by simpa using hi),Iu] at h2;cases e:vs[i]? with
     | none=>rw[e] at h2; cases h2
     | some a=>rw[e] at h2; cases h2; rfl
   obtain⟨u,hu,rv⟩:=r.get ha;have hp:ps[i]?=some y:=by rw[<- S.pre,KP (by omega)]; exact h1
   have ndP:ps.Nodup:=by rw[<- S.pre]; exact S.nd.sublist (List.take_sublist _ _)
   refine#[u,rv,?_];rcases S.par y (Ij hp) with k|k
   . exact .inl #[k,wI ndP hp hu k]
   . obtain⟨c,e⟩:=tE (n:=s.heap.objs.size+1) k;refine .inr #[.inl k,c,e,?_];have q:=x.cell y c e;rw[wN ndP hp hu (by show scope.names.lookup y≠_; rw[k]; decide)] at q;exact q
 . exact e0.hok.fresh (LH (x.above y c (PySem.mem_of_lookup h)))
 . unfold gp;show _=N.length;rw[Il,IX,JA];omega
theorem AK {CX:fN} {mg:Str->Option Value} {k:Nat} {f:Addr} {name qual:Str} {params:Arguments} {body:List Stmt} {scope:Scope} {dV kV doc pm cdv ct oc:Value} {an od:Option Addr}
   {osl:Array (Option Value)} {N ps:List Str} {sp:Sp} (lk:K.lookup f=some #[oc,od,.func (PySem.W.fnOf name qual params body scope dV kV doc pm an cdv ct),osl]) (hcd:PySem.W.codeIn K cdv qual=true) (S:FnScope N ps scope)
   (len:∀vs H Q E,sp vs H Q E->vs.length=ps.length)
   (hbody:∀(A:Around) (outer:List Env) (s:Shared) (H:Hp) (vs:List V) (Q:VK) (E:XK),Room k (A.deeper (envOfC qual scope s.heap.objs.size f cdv))->sp vs H Q E ->
     ∃t,bQ (iY CX P w K mg base N qual scope f cdv A outer s H E) body t/\t { nx:=λ_ H'=>Q .non H',rt:=Q } (gp N vs) H) :
   FnOk P w K mg base CX (k+1) f (PySem.W.fnOf name qual params body scope dV kV doc pm an cdv ct) ps sp:=by
 refine#[len,λA outer s H args us vs Q E hr e0 hb r hsp=>?_];have hl:=len _ _ _ _ hsp;have KX:K.In s.heap:=e0.mod.kin.keeps λb o e=>(e0.bs b o e).1;have lim:s.heap.NoLimit:=e0.mod.nolimit.keeps λb o e=>(e0.bs b o e).1;have hkind:∀y∈ps.zip us,scope.names.lookup y.1=some .local\/(scope.names.lookup y.1=some .cell/\((cellsFrom (s.heap.objs.size+1) scope.names []).lookup y.1).isSome=true):=λ⟨n,v⟩ hy=>by
   rcases S.par n (KM hy).1 with q|q
   . exact .inl q
   . exact .inr #[q,PySem.W.cellsFrom_some _ _ _ (.inl q)]
 refine codeAny_call_function hr.depth (KX _ _ lk) rfl S.co S.gen rfl (PySem.W.codeRec_of KX hcd) (hb _ _ _ _ ?_);refine wpAny_newFunctionEnv_cells S.kind hkind λenv he s1 x=>?_;subst he;refine#[lim.keeps x.toInCall.keep,codeAny_func ?_];obtain⟨t,ht,hq⟩:=hbody A outer s H vs Q E (hr.deeper _) hsp;have I:Inv (iY CX P w K mg base N qual scope f cdv A outer s H E) [] (gp N vs) H s1:=CQ S hr.hd e0 hl r x;refine KS (ht [] s1 (gp N vs) H _ I hq) (λfl s' hs=>?_) λe s' hs=>hs;have fin:∀{σ':St} {H':Hp} {v:V} {u:Value},Inv (iY CX P w K mg base N qual scope f cdv A outer s H E) [] σ' H' s'->bE v u->Q v H'->CE outer P w H s Q u s' :=
   λ{σ' H' v u} J rv q=>#[v,H',J.os,J.bare,J.base,J.hok,rv,q]
 cases fl with
 | ret u =>
   obtain⟨v,σ',H',J,rv,q⟩:=hs;exact fin J rv q
 | next =>
   obtain⟨σ',H',J,q⟩:=hs;exact fin (v:=V.non) (u:=Value.none) J rfl q
 | brk =>
   obtain⟨_,_,_,q⟩:=hs;exact False.elim q
 | cont =>
   obtain⟨_,_,_,q⟩:=hs;exact False.elim q
section
variable {X:Cx} {x:Str} {p pos:Pos} {e:Expr} {es:List Expr} {t:TA} {id T:String} {r:List V->Hp->VK->Prop}
noncomputable def m7 (r:List V->Hp->VK->Prop) (t:TA):TE:=λσ H Q=>t σ H λvs H1=>r vs H1 Q
theorem cR (hc:bt X (.builtin id) r) (hg:Gl X x) (hm:X.mg x=none) (hv:bootBuiltins x=some (.builtin id)) (ha:PA X (e :: es) t) (hn:x≠"__name__":=by decide) (hdb:(x==("__debug__":Str))=false:=by decide)
   (he:starEach (e :: es) X.env=(false,eval e X.env) :: starEach es X.env:=by rfl) (hpl:(backTo pos (starEach es X.env)).any (·.1)=false:=by rfl):PE X (.Call (.Name x p) (e :: es) [] pos) (m7 r t):=by
 intro pins s σ H Q I h;refine K9 (gE I hg hm hv ?_ hn hdb);exact PyProof.Rows.callWith_builtin1 (am (ha pos pins s σ H _ I h) λus s1 ⟨vs,H1,I1,r1,q1⟩=>hc pins s1 σ H1 vs us Q I1 r1 q1) he hpl
theorem ce (hc:bt X (.type T) r) (hg:Gl X x) (hm:X.mg x=none) (hv:bootBuiltins x=some (.type T)) (ha:PA X (e :: es) t) (hn:x≠"__name__":=by decide) (hdb:(x==("__debug__":Str))=false:=by decide)
   (he:starEach (e :: es) X.env=(false,eval e X.env) :: starEach es X.env:=by rfl) (hpl:(backTo pos (starEach es X.env)).any (·.1)=false:=by rfl):PE X (.Call (.Name x p) (e :: es) [] pos) (m7 r t):=by
 intro pins s σ H Q I h;refine K9 (gE I hg hm hv ?_ hn hdb);exact JL (am (ha pos pins s σ H _ I h) λus s1 ⟨vs,H1,I1,r1,q1⟩=>hc pins s1 σ H1 vs us Q I1 r1 q1) he hpl
end
end L2
namespace HT
open PySem PyProof.Rows
section
variable {prog:Program} {w:World} {A:Around} {E:Value->Shared->Prop} {s:Shared}
theorem cat_tup {t b:Addr} {vs ws:List Value} {Q:Value->Shared->Prop} (ht:IsTup s.heap t vs.toArray) (hb:IsTup s.heap b ws.toArray) (hv:vs≠[])
   (h1:ws=[]->Q (.ref t) s) (h2:ws≠[]->Q (.ref s.heap.objs.size) { s with heap:=s.heap.push { cls:=.type "tuple",data:=.seq (vs++ws).toArray } })
   (hsz:vs.length+ws.length<=sizeLine):wpAny (model prog w) A (binaryOp .Add (.ref t) (.ref b)) Q E s:=by
 obtain⟨⟨cls,dd,data,sl⟩,ho,hc,n,hd⟩:=id ht;obtain⟨⟨cls2,dd2,data2,sl2⟩,ho2,hc2,n2,hd2⟩:=id hb;simp only at hc hd hc2 hd2;subst hc hd hc2 hd2;have e:vs.toArray++ws.toArray=(vs++ws).toArray:=by simp
 by_cases hw:ws=[]
 . exact concat_meets #[_,ho,rfl] #[_,ho2,rfl] noFill_tuple_add seq_tuple_add Kg KU (KQ _ _)
     (tuple_addW1 t b vs.toArray ws.toArray n n2 dd dd2 sl sl2 (by simpa using hv) (by simp [hw])) #[ho,ho2,h1 hw]
 . refine concat_meets #[_,ho,rfl] #[_,ho2,rfl] noFill_tuple_add seq_tuple_add Kg KU (KQ _ _)
     (tuple_addW2 t b vs.toArray ws.toArray n n2 dd dd2 sl sl2 (by simpa using hv) (by simpa using hw) (by rw[Ir,Ir]; exact hsz)) #[ho,ho2,?_]
   rw[e];exact h2 hw
noncomputable def sIx (n d:Nat):Option Int->Nat
 | none=>d
 | some v=>if v<0 then(v+(n:Int)).toNat else min v.toNat n
theorem sIx_none (n d:Nat):sIx n d none=d:=rfl
theorem sIx_nat (n d k:Nat):sIx n d (some (k:Int))=min k n:=by show(if(k:Int)<0 then((k:Int)+(n:Int)).toNat else min (k:Int).toNat n)=min k n;rw[IW (by omega),JF]
theorem Bm (n d:Nat) (hd:d<=n) (o:Option Int):sIx n d o<=n:=by
 cases o with
 | none=>exact hd
 | some v =>
   show(if v<0 then(v+(n:Int)).toNat else min v.toNat n)<=n;by_cases hv:v<0
   . rw[Ig hv]; omega
   . rw[IW hv]; exact Nat.min_le_right _ _
theorem sM (v:Int) (n d:Nat):(if v<0 then max (v+(n:Int)) 0 else min v (n:Int))=((sIx n d (some v):Nat):Int):=by
 show(if v<0 then max (v+(n:Int)) 0 else min v (n:Int))=(((if v<0 then(v+(n:Int)).toNat else min v.toNat n):Nat):Int);by_cases hv:v<0
 . simp only[Ig hv]; omega
 . simp only[IW hv]; omega
theorem GE (lo hi:Option Int) (n:Nat):Builtin.Slice.sliceAdjust lo hi 1 (n:Int)=(((sIx n 0 lo:Nat):Int),((sIx n n hi:Nat):Int)):=by
 have h1:¬ ((1:Int)<0):=by omega
 unfold Builtin.Slice.sliceAdjust;simp only[h1,if_false];refine Prod.ext ?_ ?_
 . cases lo with
   | none=>rfl
   | some v=>exact sM v n 0
 . cases hi with
   | none=>rfl
   | some v=>exact sM v n n
theorem Bh (i j:Nat):Builtin.Slice.slicePlaces (i:Int) (j:Int) 1=j - i:=by
 unfold Builtin.Slice.slicePlaces;have h1:(1:Int) > 0:=by omega
 simp only[h1,if_true,Int.ediv_one];split <;> omega
theorem u8 {v:Value} {o:Option Int} {Q:Option Int->Shared->Prop} (p:IsPart v o) (h:Q o s):wpAny (model prog w) A (Builtin.Slice.slicePartIndex v) Q E s:=by
 cases p with
 | none=>exact slicePart_none h
 | int i t=>exact slicePart_int h
theorem tF {sl:Addr} {vl vu:Value} {lo hi:Option Int} {n:Nat} {Q:Int×Int×Nat->Shared->Prop} (hs:s.heap.IsSliceOf sl vl vu .none) (pl:IsPart vl lo) (pu:IsPart vu hi)
   (h:Q (((sIx n 0 lo:Nat):Int),1,sIx n n hi - sIx n 0 lo) s):wpAny (model prog w) A (Builtin.Slice.sliceApplied (.ref sl) (pure (n:Int))) Q E s:=by
 obtain⟨os,hos,hcs,hds⟩:=id hs;unfold Builtin.Slice.sliceApplied Builtin.Slice.sliceFields;refine IU (IU (JH hos hds (x:=vl) rfl (IU (JH hos hds (x:=vu) rfl (IU (JH hos hds (x:=.none) rfl (Ie ?_)))))));refine IU (slicePart_none ?_);show wpAny _ _ (if((1:Int)==0)=true then _ else _) _ _ s;rw[IW (by decide)];refine IU (u8 pl (IU (u8 pu (IU (Ie ?_)))));show wpAny _ _ (match Builtin.Slice.sliceAdjust lo hi 1 (n:Int) with|(lo,hi)=>pure (lo,(1:Int),Builtin.Slice.slicePlaces lo hi 1)) _ _ s;rw[GE lo hi n];show wpAny _ _ (pure (((sIx n 0 lo:Nat):Int),(1:Int),Builtin.Slice.slicePlaces ((sIx n 0 lo:Nat):Int) ((sIx n n hi:Nat):Int) 1)) _ _ s;rw[Bh];exact Ie h
theorem zx (xs:Array Value) (i k:Nat):((List.range k).filterMap λ(m:Nat)=>xs[((i:Int)+(m:Int) * 1).toNat]?).toArray=((xs.toList.drop i).take k).toArray:=by
 have e:(λ(m:Nat)=>xs[((i:Int)+(m:Int) * 1).toNat]?)=λm=>xs[i+m]?:=by
   funext m;have:((i:Int)+(m:Int) * 1).toNat=i+m:=by omega
   rw[this]
 rw[e];have:=pick_run xs i k;rw[List.filterMap_map] at this;have e2:((λx=>xs[x]?) ∘ λx=>i+x)=λm=>xs[i+m]?:=rfl;rw[e2] at this;rw[this]
theorem getItem_tuple_cut {t sl:Addr} {items:Array Value} {vl vu:Value} {lo hi:Option Int} {Q:Value->Shared->Prop} (ht:IsTup s.heap t items) (hs:s.heap.IsSliceOf sl vl vu .none) (pl:IsPart vl lo) (pu:IsPart vu hi)
   (hw:¬ (sIx items.size 0 lo=0/\sIx items.size items.size hi=items.size))
   (h:Q (.ref s.heap.objs.size) { s with heap:=s.heap.push { cls:=.type "tuple",data:=.seq ((items.toList.drop (sIx items.size 0 lo)).take (sIx items.size items.size hi - sIx items.size 0 lo)).toArray } })
   (hsz:items.size<=sizeLine):wpAny (model prog w) A (getItem (.ref t) (.ref sl)) Q E s:=by
 have htake:sizeOk (.seq ((items.toList.drop (sIx items.size 0 lo)).take (sIx items.size items.size hi - sIx items.size 0 lo)).toArray):=by show((items.toList.drop (sIx items.size 0 lo)).take (sIx items.size items.size hi - sIx items.size 0 lo)).toArray.size<=sizeLine;rw[Ir,JC,K7,Kw];omega
 have hj:sIx items.size items.size hi<=items.size:=Bm _ _ (Ib _) hi;obtain⟨os,hos,hcs,hds⟩:=id hs;have hTs:s.TypeIs (.ref sl) "slice":=#[os,hos,hcs]
 unfold getItem
 try with_reducible refine JO ?_
 first|refine IU (Ie ?_)|skip
 refine IU (LB ht.typeIs (by decide) ?_);refine IU (wpAny_callSpecial?_slot (name:=Str.ofString "__getitem__") ht.typeIs JS
   (JU JS ht.typeIs entry_tuple_getitem ?_ (args_tuple_getitem _ _)))
 show wpAny _ _ (Builtin.Tuple.tupleItemsOf (.ref t) >>= _) _ _ s;refine IU (tupleItemsOf_ ht ?_);refine IU (KE hTs ?_);rw[Ig (by decide)];refine IU (tF hs pl pu ?_);have hno:¬ ((((sIx items.size 0 lo:Nat):Int)==0&&(1:Int)==1&&(sIx items.size items.size hi - sIx items.size 0 lo)==items.size)=true):=by intro q;rw[J4,J4] at q;have q1:((sIx items.size 0 lo:Nat):Int)=0:=eq_of_beq q.1.1;have q2:sIx items.size items.size hi - sIx items.size 0 lo=items.size:=eq_of_beq q.2;exact hw #[by omega,by omega]
 show wpAny _ _ (if(((sIx items.size 0 lo:Nat):Int)==0&&(1:Int)==1&&(sIx items.size items.size hi - sIx items.size 0 lo)==items.size)=true then _ else _) _ _ s;rw[IW hno,zx]
 first
   | exact IU (m:=Builtin.Tuple.tupleExact _) (Jq (Ie ⟨_,rfl,Ie h⟩) htake)
   | exact IU (m:=Builtin.Tuple.tupleExact _) (Jq (IU (Ie (Ie ⟨_,rfl,Ie h⟩))) htake)
   | exact IU (IU (m:=Builtin.Tuple.tupleExact _) (Jq (Ie (Ie ⟨_,rfl,Ie h⟩)) htake))
   | exact IU (IU (m:=Builtin.Tuple.tupleExact _) (Jq (Ie ⟨_,rfl,Ie h⟩) htake))
end
end HT
namespace L2
open PySem PySem.Spec PyProof.Rows
noncomputable abbrev TO:=St->Hp->(Option Int->Hp->Prop)->Prop
noncomputable def PO (X:Cx) (e:Option Expr) (t:TO):Prop :=
 ∀(pins:List (Addr×Obj)) (s:Shared) (σ:St) (H:Hp) (Q:Option Int->Hp->Prop),Inv X pins σ H s->t σ H Q ->
   wpAny (model X.prog X.w) X.A (evalPart e X.env) (λu s'=>∃o H',Inv X pins σ H' s'/\IsPart u o/\Q o H') X.xe s
noncomputable def FH:TO:=λ_ H Q=>Q none H
noncomputable def DE (t:TE):TO:=λσ H Q=>t σ H λx H1=>∃i,x=.int i/\Q (some i) H1
section
variable {X:Cx} {e:Expr} {te:TE} {lo hi:Option Expr} {tl th:TO} {pos p2:Pos}
theorem gm:PO X none FH:=by intro pins s σ H Q I h;rw[evalPart_none];exact Ie #[none,H,I,.none,h]
theorem hU (h:PE X e te):PO X (some e) (DE te):=by intro pins s σ H Q I hw;rw[evalPart_some];refine am (h pins s σ H _ I hw) λu s1 ⟨x,H1,I1,r1,q1⟩=>?_;obtain⟨i,rfl,q⟩:=q1;obtain⟨t,rfl⟩:=r1;exact#[some i,H1,I1,.int i t,q]
noncomputable def fj (X:Cx) (r:V->Option Int->Option Int->Hp->VK->Prop):Prop :=
 ∀(pins:List (Addr×Obj)) (s:Shared) (σ:St) (H:Hp) (x:V) (v vl vu:Value) (lo hi:Option Int) (sl:Addr) (Q:VK),Inv X pins σ H s->bE x v->s.heap.IsSliceOf sl vl vu .none->IsPart vl lo->IsPart vu hi->r x lo hi H Q ->
   ∃T id,typeLookup (.type T) "__getitem__"=pure (some (.builtin id))/\s.TypeIs v T/\wpAny (model X.prog X.w) X.A (getItem v (.ref sl)) (EP X pins σ Q) X.xe s
theorem fj.or {r r':V->Option Int->Option Int->Hp->VK->Prop} (h:fj X r) (h':fj X r'):fj X (λx lo hi H Q=>r x lo hi H Q\/r' x lo hi H Q):=by
 intro pins s σ H x v vl vu lo hi sl Q I rx hs pl pu q;rcases q with q|q
 . exact h pins s σ H x v vl vu lo hi sl Q I rx hs pl pu q
 . exact h' pins s σ H x v vl vu lo hi sl Q I rx hs pl pu q
noncomputable def tSl (r:V->Option Int->Option Int->Hp->VK->Prop) (te:TE) (tl th:TO):TE:=λσ H Q=>te σ H λx H1=>tl σ H1 λl H2=>th σ H2 λu H3=>r x l u H3 Q
theorem gk {r:V->Option Int->Option Int->Hp->VK->Prop} (hr:fj X r) (he:PE X e te) (hl:PO X lo tl) (hu:PO X hi th):PE X (.Subscript e (.Slice lo hi none p2) pos) (tSl r te tl th):=by intro pins s σ H Q I h;refine Subscript_ (am (he pins s σ H _ I h) λv s1 ⟨x,H1,I1,r1,q1⟩=>?_);refine wpAny_Slice (am (hl pins s1 σ H1 _ I1 q1) λvl s2 ⟨l,H2,I2,pl,q2⟩=>am (hu pins s2 σ H2 _ I2 q2) λvu s3 ⟨u,H3,I3,pu,q3⟩=>?_);rw[evalPart_none];refine Ie ?_;have I4:Inv X pins σ H3 { s3 with heap:=s3.heap.push { cls:=.type "slice",data:=.fields (List.toArray [vl,vu,.none]) } }:=I3.kept (t':=s3.toks) λb ob q=>IZ _ q;obtain⟨T,id,hT,ht,hg⟩:=hr pins { s3 with heap:=s3.heap.push { cls:=.type "slice",data:=.fields (List.toArray [vl,vu,.none]) } } σ H3 x v vl vu l u s3.heap.objs.size Q I4 r1 (Heap.IsSliceOf.new ..) pl pu q3;show wpAny (model X.prog X.w) X.A (subscriptTail e (.Slice lo hi none p2) v (.ref s3.heap.objs.size)) (EP X pins σ Q) X.xe { s3 with heap:=s3.heap.push { cls:=.type "slice",data:=.fields (List.toArray [vl,vu,.none]) } };exact tail_any (ops:=[.ref s3.heap.objs.size,v]) ht hT hg (by with_unfolding_all rfl)
noncomputable def ck (xs:List V) (lo hi:Option Int):List V:=(xs.drop (HT.sIx xs.length 0 lo)).take (HT.sIx xs.length xs.length hi - HT.sIx xs.length 0 lo)
theorem wS (xs:List V) (lo hi:Option Int):(ck xs lo hi).length<=xs.length:=by unfold ck;rw[JC,K7];omega
noncomputable def wU (K:W.Frag):V->Option Int->Option Int->Hp->VK->Prop:=λx lo hi H Q=>∃a xs,x=.ref a/\aF K H a xs /\
 ¬ (HT.sIx xs.length 0 lo=0/\HT.sIx xs.length xs.length hi=xs.length)/\∀p,H p=none->Q (.ref p) (upd H p (.tup (ck xs lo hi)))
theorem GR:fj X (wU X.K):=by
 intro pins s σ H x v vl vu lo hi sl Q I rx hs pl pu h;obtain⟨a,xs,rfl,hx,hw,q⟩:=h;cases rx;obtain⟨its,r,ht,hz⟩:=I.tuple hx;have hlen:its.toArray.size=xs.length:=by rw[Ir]; exact r.length.symm
 refine#["tuple",_,JS.lookup,ht.typeIs,?_];refine HT.getItem_tuple_cut ht hs pl pu (by rw[hlen]; exact hw) ?_ (by rw[hlen]; exact hz);rw[hlen];refine#[.ref s.heap.objs.size,_,I.laid (t':=s.toks) (o:=.tup (ck xs lo hi)) (λb ob q=>IZ _ q) (Ib _) ?_,rfl,q _ (I.hok.fresh (Ib _))];exact#[J7 (wS xs lo hi) hz,_,(r.drop (HT.sIx xs.length 0 lo)).take (HT.sIx xs.length xs.length hi - HT.sIx xs.length 0 lo),IsTup.new _ _]
noncomputable def sX (K:W.Frag):R2:=λx y H Q=>∃a b xs ys,x=.ref a/\y=.ref b/\aF K H a xs/\aF K H b ys/\xs≠[]/\xs.length+ys.length<=sizeLine /\
 (ys=[]->Q (.ref a) H)/\(ys≠[]->∀p,H p=none->Q (.ref p) (upd H p (.tup (xs++ys))))
theorem ax.nil_iff {xs:List V} {us:List Value} (r:ax xs us):us=[] <-> xs=[]:=by
 cases r with
 | nil=>simp
 | cons _ _=>simp
theorem tW:bT X (binaryOp .Add) (sX X.K):=by intro pins s σ H x y v u Q I rx ry h;obtain⟨a,b,xs,ys,rfl,rfl,ha,hb,hx,hz,q1,q2⟩:=h;cases rx;cases ry;obtain⟨its,r1,p1,_⟩:=I.tuple ha;obtain⟨its2,r2,p2,_⟩:=I.tuple hb;refine HT.cat_tup p1 p2 (λz=>hx (r1.nil_iff.mp z)) (λz=>#[.ref a,H,I,rfl,q1 (r2.nil_iff.mp z)]) (λz=>?_) (by rw[<- r1.length,<- r2.length]; exact hz);refine#[.ref s.heap.objs.size,_,I.laid (t':=s.toks) (o:=.tup (xs++ys)) (λb ob q=>IZ _ q) (Ib _) ?_,rfl,q2 (λw=>z (r2.nil_iff.mpr w)) _ (I.hok.fresh (Ib _))];exact#[by rw[Il]; exact hz,_,r1.append r2,IsTup.new _ _]
end
noncomputable def cX (n:Nat) (i:Int):Option Nat:=if 0<=i then(if i<n then some i.toNat else none) else if -(n:Int)<=i then some (i+n).toNat else none
noncomputable def bI {α:Type} (xs:List α) (i:Int):Option α:=(cX xs.length i).bind λj=>xs[j]?
variable {n:Nat}
theorem sj {i:Int} {j:Nat} (h:cX n i=some j):seqIndex? i n=some j/\j<n/\-(n:Int)<=i/\i<n:=by
 unfold cX at h;by_cases h0:0<=i
 . rw[Ig h0] at h;by_cases h1:i<n
   . rw[Ig h1] at h;have e:i.toNat=j:=Option.some.inj h;exact#[by rw[seqIndex_of h0 h1,e],by omega,by omega,h1]
   . rw[IW h1] at h; cases h
 . rw[IW h0] at h;by_cases h1:-(n:Int)<=i
   . rw[Ig h1] at h;have e:(i+n).toNat=j:=Option.some.inj h;exact#[by rw[seqIndex_neg (by omega) h1,e],by omega,h1,by omega]
   . rw[IW h1] at h; cases h
theorem qO {α:Type} {xs:List α} {i:Int} {v:α} (h:bI xs i=some v):∃j,seqIndex? i xs.length=some j/\xs[j]?=some v/\j<xs.length/\-(xs.length:Int)<=i/\i<xs.length:=by
 unfold bI at h;cases e:cX xs.length i with
 | none=>rw[e] at h; cases h
 | some j =>
   rw[e] at h;obtain⟨h1,h2,h3,h4⟩:=sj e;exact#[j,h1,h,h2,h3,h4]
theorem c7 {α:Type} {xs:List α} {j:Nat} {v:α} (h:xs[j]?=some v):bI xs (j:Int)=some v:=by
 have hj:j<xs.length:=(Ic.mp h).1;have e:cX xs.length (j:Int)=some j:=by unfold cX;rw[Ig (by omega),Ig (by omega)]; simp
 unfold bI; rw[e]; exact h
noncomputable def zq (b:Expr):Prop:=∀o i,subscripted b false o i=operate [o,i] (getItem o i)
noncomputable def aH (X:Cx) (r:R2):Prop :=
 ∀(value slice:Expr) (pins:List (Addr×Obj)) (s:Shared) (σ:St) (H:Hp) (x y:V) (v u:Value) (Q:VK),Inv X pins σ H s->bE x v->bE y u->r x y H Q ->
   subscripted slice false v u=operate [v,u] (getItem v u)->wpAny (model X.prog X.w) X.A (subscriptTail value slice v u) (EP X pins σ Q) X.xe s
noncomputable def lr (X:Cx) (id:String) (r:V->List V->Hp->VK->Prop):Prop :=
 ∀(pins:List (Addr×Obj)) (s:Shared) (σ:St) (H:Hp) (x:V) (xs:List V) (v:Value) (us:List Value) (Q:VK),Inv X pins σ H s->bE x v->ax xs us->r x xs H Q ->
   wpAny (model X.prog X.w) X.A (call (.builtin id) (v :: us)) (EP X pins σ Q) X.xe s
section
variable {X:Cx} {a b:Expr} {ta tb:TE} {pos:Pos}
theorem aG {r:R2} (hr:aH X r) (ha:PE X a ta) (hb:PE X b tb) (hs:zq b):PE X (.Subscript a b pos) (kS r ta tb):=by intro pins s σ H Q I h;exact Subscript_ (qx ha hb I h λv u s2 x y H2 I2 rx ry q=>hr a b pins s2 σ H2 x y v u Q I2 rx ry q (hs _ _))
noncomputable def Cb (K:W.Frag):R2:=λx y H Q=>∃p xs i v,x=.ref p/\y=.int i/\aJ K H p xs/\bI xs i=some v/\Q v H
noncomputable def pq (K:W.Frag):R2:=λx y H Q=>∃p xs i v,x=.ref p/\y=.int i/\aF K H p xs/\bI xs i=some v/\Q v H
noncomputable def Bd:R2:=λx y H Q=>∃z i c,x=.str z/\y=.int i/\z.length<=sizeLine/\bI z.cps.toList i=some c/\Q (.str #[(List.toArray [c])]) H
theorem j6:aH X (Cb X.K):=by
 intro value slice pins s σ H x y v u Q I rx ry h hs;obtain⟨p,xs,i,z,rfl,rfl,hq,he,q⟩:=h;cases rx;obtain⟨t,rfl⟩:=ry;obtain⟨its,r,pl,hz⟩:=I.list hq;obtain⟨j,h1,h2,h3,h4,h5⟩:=qO he;obtain⟨w,ew,rw'⟩:=r.get h2;have hl:=r.length;have hn:=j7;have fin:EP X pins σ Q w s:=#[z,H,I,rw',q]
 by_cases h0:0<=i
 . have hj:i.toNat=j:=by rw[seqIndex_of h0 h5] at h1;exact Option.some.inj h1
   exact item_listR pl.isList h0 (by omega) (by rw[hj]; simpa using ew) fin hs
 . have hj:(i+(its.toArray.size:Int)).toNat=j:=by rw[seqIndex_neg (by omega) h4] at h1;rw[Ir,<- hl];exact Option.some.inj h1
   exact subscriptTail_builtinR (x:=w) pl.isList.typeIs slot_list_getitem.lookup
     (wpAny_getItem_list_neg (Q:=λr s'=>r=w/\EP X pins σ Q r s') pl.isList (by omega) (by rw[Ir] <;> omega) (by omega) (by rw[hj]; simpa using ew) #[rfl,fin]) hs
theorem iJ:aH X (pq X.K):=by
 intro value slice pins s σ H x y v u Q I rx ry h hs;obtain⟨p,xs,i,z,rfl,rfl,hq,he,q⟩:=h;cases rx;obtain⟨t,rfl⟩:=ry;obtain⟨its,r,pl,hz⟩:=I.tuple hq;obtain⟨j,h1,h2,h3,h4,h5⟩:=qO he;obtain⟨w,ew,rw'⟩:=r.get h2;have hl:=r.length;have hn:=j7;have fin:EP X pins σ Q w s:=#[z,H,I,rw',q]
 exact subscriptTail_builtinR (x:=w) pl.typeIs slot_tuple_getitem.lookup
   (getItem_tuple (j:=j) (Q:=λr s'=>r=w/\EP X pins σ Q r s') pl (by omega) (by omega) (by rw[Ir,<- hl]; exact h1) (by simpa using ew) #[rfl,fin]) hs
theorem qD:aH X Bd:=by
 intro value slice pins s σ H x y v u Q I rx ry h hs;obtain⟨z,i,c,rfl,rfl,hz,he,q⟩:=h;obtain⟨t,rfl⟩:=rx;obtain⟨t',rfl⟩:=ry;obtain⟨j,h1,h2,h3,h4,h5⟩:=qO he;have hl:z.cps.toList.length=z.length:=by simp [Str.length]
 rw[hl] at h1 h4 h5;have hn:=j7;exact tail_any (typeIs_str s z t) slot_str_getitem.lookup (getItem_str (c:=c) (by have e1:decide (i < -(2 ^ 63:Int))=false:=Ih (by omega);have e2:decide (i>=2 ^ 63)=false:=Ih (by omega);rw[e1,e2,La]) (by rw[h1]; simpa using h2) #[.str #[(List.toArray [c])],H,I.tok _,#[_,rfl],q]) hs
theorem Gw (its:List Value) (n j:Nat) (u:Value):Obj.mapSeq (·.setIfInBounds j u) { cls:=.type "list",data:=.seq its.toArray n }={ cls:=.type "list",data:=.seq (its.set j u).toArray n }:=by simp [Obj.mapSeq]
theorem Inv.lst {pins:List (Addr×Obj)} {σ:St} {H:Hp} {s:Shared} {p:Addr} {xs:List V} (I:Inv X pins σ H s) (h:H p=some (.lst xs)) :
   ∃(its:List Value) (n:Nat),ax xs its/\s.heap.get? p=some { cls:=.type "list",data:=.seq its.toArray n }/\xs.length<=sizeLine:=by
 obtain⟨z,its,n,r,e⟩:=I.hok p _ h;exact#[its,n,r,e,z]
theorem Inv.lstUpd {pins:List (Addr×Obj)} {σ:St} {H:Hp} {s:Shared} {p:Addr} {xs ys:List V} {its its':List Value} {n':Nat}{f:Obj->Obj} (I:Inv X pins σ H s) (h:H p=some (.lst xs))
   (ho:s.heap.get? p=some { cls:=.type "list",data:=.seq its.toArray n }) (hf:f { cls:=.type "list",data:=.seq its.toArray n }={ cls:=.type "list",data:=.seq its'.toArray n' }) (r:ax ys its') (hz:ys.length<=sizeLine) (t:Nat) :
   Inv X pins σ (upd H p (.lst ys)) { s with heap:=s.heap.update p f,toks:=t }:=by
 have e:(s.heap.update p f).get? p=some { cls:=.type "list",data:=.seq its'.toArray n' }:=by rw[Heap.get?_update_self f ho (by rw[hf] <;> rfl),hf]
 refine I.write (x:=p) (e:=p) (by rw[h]; trivial) (.inl rfl) (λb u hb q=>(Heap.get?_update_other _ _ (Ne.symm hb)).trans q) #[_,e] ?_;exact#[hz,its',n',r,e]
noncomputable def E4:V->V->V->Hp->(Hp->Prop)->Prop:=λo i v H Q=>∃p xs k j,o=.ref p/\i=.int k/\H p=some (.lst xs)/\cX xs.length k=some j/\Q (upd H p (.lst (xs.set j v)))
theorem fR:sC X E4:=by
 intro pins s σ H o i v ov iv u Q I ro ri rv h;obtain⟨p,xs,k,j,rfl,rfl,hp,hj,q⟩:=h;cases ro;obtain⟨t,rfl⟩:=ri;obtain⟨its,n,r,ho,hz⟩:=I.lst hp;obtain⟨h1,h2,h3,h4⟩:=sj hj;have hl:=r.length;have hn:=j7;have I':Inv X pins σ (upd H p (.lst (xs.set j v))) { s with heap:=s.heap.update p (Obj.mapSeq (·.setIfInBounds j u)) } :=
   I.lstUpd hp ho (Gw its n j u) (r.set rv j) (by rw[JZ]; exact hz) s.toks
 by_cases h0:0<=k
 . have hk:k.toNat=j:=by rw[seqIndex_of h0 h4] at h1;exact Option.some.inj h1
   exact PySem.W.ki_setAt ho h0 (by omega) (by rw[Ir,<- hl]; exact h4) (by rw[hk]; exact#[_,I',q])
 . have hk:(k+(its.toArray.size:Int)).toNat=j:=by rw[seqIndex_neg (by omega) h3] at h1;rw[Ir,<- hl];exact Option.some.inj h1
   exact PySem.W.ki_setBack ho (by omega) (by rw[Ir,<- hl]; exact h3) (by omega) (by rw[hk]; exact#[_,I',q])
theorem BP (lo hi:Option Int) (n:Nat):(sliceBounds lo hi none n).1=((HT.sIx n 0 lo:Nat):Int)/\(sliceBounds lo hi none n).2.1=((HT.sIx n n hi:Nat):Int)/\(sliceBounds lo hi none n).2.2=1:=by
 refine#[?_,?_,rfl]
 . cases lo with
   | none=>simp [sliceBounds,HT.sIx]
   | some i =>
     simp only[sliceBounds,HT.sIx,Option.getD_none,show(1:Int) > 0 by decide,if_true];by_cases h:i<0
     . simp only[h,if_true] <;> omega
     . simp only[h,if_false] <;> omega
 . cases hi with
   | none=>simp [sliceBounds,HT.sIx]
   | some i =>
     simp only[sliceBounds,HT.sIx,Option.getD_none,show(1:Int) > 0 by decide,if_true];by_cases h:i<0
     . simp only[h,if_true] <;> omega
     . simp only[h,if_false] <;> omega
theorem D' (its:List Value) (lo hi:Option Int):slicePick its.toArray lo hi none=((its.drop (HT.sIx its.length 0 lo)).take (HT.sIx its.length its.length hi - HT.sIx its.length 0 lo)).toArray:=by obtain⟨h1,h2,h3⟩:=BP lo hi its.toArray.size;unfold slicePick;rw[h1,h2,h3];simp only[sliceRange_one,pick_run,Ir] <;> rfl
noncomputable def C' (K:W.Frag):V->Option Int->Option Int->Hp->VK->Prop:=λx lo hi H Q=>∃a xs,x=.ref a/\aJ K H a xs/\∀p,H p=none->Q (.ref p) (upd H p (.lst (ck xs lo hi)))
theorem uY:fj X (C' X.K):=by intro pins s σ H x v vl vu lo hi sl Q I rx hs pl pu h;obtain⟨a,xs,rfl,hx,q⟩:=h;cases rx;obtain⟨its,r,ht,hz⟩:=I.list hx;have hlen:=r.length;refine#["list",_,slot_list_getitem.lookup,ht.isList.typeIs,?_];refine wpAny_getItem_list_slice ht.isList hs pl pu .none (by simp) ?_ (by rw[Ir] <;> omega);rw[D',<- hlen];refine#[.ref s.heap.objs.size,_,I.laid (t':=s.toks) (o:=.lst (ck xs lo hi)) (λb ob q=>IZ _ q) (Ib _) ?_,rfl,q _ (I.hok.fresh (Ib _))];exact#[J7 (wS xs lo hi) hz,_,0,(r.drop (HT.sIx xs.length 0 lo)).take (HT.sIx xs.length xs.length hi - HT.sIx xs.length 0 lo),Iz _ rfl]
noncomputable def ee:V->Bool
 | .non=>true
 | .bl _=>true
 | .int _=>true
 | .str _=>true
 | _=>false
noncomputable def eO:V->V->Bool
 | .non,.non=>true
 | .bl a,.bl b=>a==b
 | .bl a,.int b=>(if a then 1 else 0)==b
 | .int a,.bl b=>a==(if b then 1 else 0)
 | .int a,.int b=>a==b
 | .str a,.str b=>a==b
 | _,_=>false
theorem FR {A:Around} {s:Shared} {y x:V} {u v:Value} (ry:bE y u) (rx:bE x v) (fy:ee y=true) (fx:ee x=true):SeqAt.EqAt A s u v (eO y x):=by
 cases y with
 | non =>
   cases ry;cases x with
   | non=>cases rx; exact SeqAt.EqAt.same _
   | bl b=>cases rx; exact SeqAt.EqAt.none_bool b
   | int b=>obtain⟨t,rfl⟩:=rx; exact SeqAt.EqAt.none_int b t
   | str b=>obtain⟨t,rfl⟩:=rx; exact SeqAt.EqAt.none_str b t
   | _=>exact absurd (show false=true from fx) Iy
 | bl a =>
   cases ry;cases x with
   | non=>cases rx; exact SeqAt.EqAt.bool_none a
   | bl b=>cases rx; exact SeqAt.EqAt.bool_bool a b
   | int b=>obtain⟨t,rfl⟩:=rx; exact SeqAt.EqAt.bool_int a b t
   | str b=>obtain⟨t,rfl⟩:=rx; exact SeqAt.EqAt.bool_str a b t
   | _=>exact absurd (show false=true from fx) Iy
 | int a =>
   obtain⟨t',rfl⟩:=ry;cases x with
   | non=>cases rx; exact SeqAt.EqAt.int_none a t'
   | bl b=>cases rx; exact SeqAt.EqAt.int_bool a t' b
   | int b=>obtain⟨t,rfl⟩:=rx; exact SeqAt.EqAt.int_int a t' b t
   | str b=>obtain⟨t,rfl⟩:=rx; exact SeqAt.EqAt.int_str a t' b t
   | _=>exact absurd (show false=true from fx) Iy
 | str a =>
   obtain⟨t',rfl⟩:=ry;cases x with
   | non=>cases rx; exact SeqAt.EqAt.str_none a t'
   | bl b=>cases rx; exact SeqAt.EqAt.str_bool a t' b
   | int b=>obtain⟨t,rfl⟩:=rx; exact SeqAt.EqAt.str_int a t' b t
   | str b=>obtain⟨t,rfl⟩:=rx; exact SeqAt.EqAt.str_str a t' b t
   | _=>exact absurd (show false=true from fx) Iy
 | _=>exact absurd (show false=true from fy) Iy
noncomputable def fK (x:V) (u:Value):Bool:=match u with
 | .none=>eO .non x
 | .bool b=>eO (.bl b) x
 | .int i _=>eO (.int i) x
 | .str z _=>eO (.str z) x
 | _=>false
theorem oM {x y:V} {u:Value} (r:bE y u) (f:ee y=true):fK x u=eO y x:=by
 cases y with
 | non=>cases r; rfl
 | bl b=>cases r; rfl
 | int i=>obtain⟨t,rfl⟩:=r; rfl
 | str z=>obtain⟨t,rfl⟩:=r; rfl
 | _=>exact absurd (show false=true from f) Iy
theorem pR {x:V}:∀{xs:List V} {us:List Value},ax xs us->xs.all ee=true->us.any (fK x)=xs.any λy=>eO y x
 | _,_,.nil,_=>rfl
 | y :: xs,u :: us,.cons r t,f=>by rw[List.all_cons,J4] at f;rw[Ki,Ki,oM r f.1,pR t f.2]
theorem mi {A:Around} {s:Shared} {x:V} {v:Value} (rx:bE x v) (fx:ee x=true):∀{xs:List V} {us:List Value},ax xs us->xs.all ee=true->∀u∈us,SeqAt.EqAt A s u v (fK x u)
 | _,_,.nil,_=>λu hu=>by cases hu
 | y :: xs,u :: us,.cons r t,f=>λu' hu=>by
   rw[List.all_cons,J4] at f;rcases Io.mp hu with rfl|hu
   . rw[oM r f.1]; exact FR r rx f.1 fx
   . exact mi rx fx t f.2 u' hu
noncomputable def gj (x:V) (xs:List V):Bool:=xs.any λy=>eO y x
noncomputable def rIn (K:W.Frag) (neg:Bool):R2:=λx y H Q=>∃p xs,y=.ref p/\(aJ K H p xs\/aF K H p xs)/\ee x=true/\xs.all ee=true/\Q (.bl (if neg then !gj x xs else gj x xs)) H
theorem fm:bT X (compareOp .In) (rIn X.K false):=by
 intro pins s σ H x y v u Q I rx ry h;obtain⟨p,xs,rfl,hq,fx,fs,q⟩:=h;cases ry;rcases hq with hq|hq
 . obtain⟨its,r,pl,hz⟩:=I.list hq;refine SeqAt.in_listAt (fK x) pl.isList (λw hw=>mi rx fx r fs w (by simpa using hw)) #[.bl _,H,I,rfl,?_];rw[show its.toArray.any (fK x)=its.any (fK x) by simp,pR r fs];exact q
 . obtain⟨its,r,pl,hz⟩:=I.tuple hq;refine SeqAt.in_tupleAt (fK x) pl (λw hw=>mi rx fx r fs w (by simpa using hw)) #[.bl _,H,I,rfl,?_];rw[show its.toArray.any (fK x)=its.any (fK x) by simp,pR r fs];exact q
theorem oV:bt X (.builtin "len") (λxs H Q=>∃p ys,xs=[.ref p]/\(aJ X.K H p ys\/aF X.K H p ys)/\Q (.int ys.length) H):=by
 intro pins s σ H xs us Q I r h;obtain⟨p,ys,rfl,hq,q⟩:=h;obtain⟨u,rfl,rx⟩:=gY r;cases rx;have hn:=j7;rcases hq with hq|hq
 . obtain⟨its,r',pl,hz⟩:=I.list hq;have hlen:=r'.length;exact Calls.call_len_list pl.isList (by simp only[Ir] <;> omega) #[.int ys.length,H,I.tok _,#[s.toks+1,by rw[Ir,hlen]],q]
 . obtain⟨its,r',pl,hz⟩:=I.tuple hq;have hlen:=r'.length;exact len_tuple pl (by simp only[Ir] <;> omega) #[.int ys.length,H,I.tok _,#[s.toks+1,by rw[Ir,hlen]],q]
theorem ie:bt X (.type "list") (λxs H Q=>∃p ys,xs=[.ref p]/\(aJ X.K H p ys\/aF X.K H p ys)/\∀l,H l=none->Q (.ref l) (upd H l (.lst ys))):=by
 intro pins s σ H xs us Q I r h;obtain⟨p,ys,rfl,hq,q⟩:=h;obtain⟨u,rfl,rx⟩:=gY r;cases rx;have fin:∀(its:List Value),ax ys its->ys.length<=sizeLine->∀(h':Heap) (c':Nat),(∀b o',s.heap.get? b=some o'->h'.get? b=some o') ->
     h'.get? s.heap.objs.size=some { cls:=.type "list",dict:=none,data:=.seq its.toArray c',slots:=(List.toArray []) }->EP X pins σ Q (.ref s.heap.objs.size) { s with heap:=h' }:=λits r' hz h' c' kp e =>
   #[.ref s.heap.objs.size,_,I.laid (t':=s.toks) kp (Ib _) (show cF X.prog X.w _ h' _ (.lst ys) from#[hz,its,c',r',e]),rfl,q _ (I.hok.fresh (Ib _))]
 rcases hq with hq|hq
 . obtain⟨its,r',pl,hz⟩:=I.list hq;have hlen:=r'.length;obtain⟨o,ho,hc,n,hd⟩:=pl.isList;exact call_list_seq p (.inl rfl) ho hc hd (λh' c' kp e=>fin its r' hz h' c' kp e) (by simp only[Ir] <;> omega)
 . obtain⟨its,r',pl,hz⟩:=I.tuple hq;have hlen:=r'.length;obtain⟨o,ho,hc,n,hd⟩:=pl;exact call_list_seq p (.inr rfl) ho hc hd (λh' c' kp e=>fin its r' hz h' c' kp e) (by simp only[Ir] <;> omega)
theorem jn:bt X (.type "tuple") (λxs H Q=>∃p ys,xs=[.ref p]/\((aJ X.K H p ys/\∀l,H l=none->Q (.ref l) (upd H l (.tup ys)))\/(aF X.K H p ys/\Q (.ref p) H))):=by
 intro pins s σ H xs us Q I r h;obtain⟨p,ys,rfl,h⟩:=h;obtain⟨u,rfl,rx⟩:=gY r;cases rx;rcases h with⟨hq,q⟩|⟨hq,q⟩
 . obtain⟨its,r',pl,hz⟩:=I.list hq;have hlen:=r'.length;refine call_tuple_list pl.isList (λh' kp=>?_) (by simp only[Ir] <;> omega);have I1:Inv X pins σ H { s with heap:=h' }:=I.kept (t':=s.toks) kp;have I2:Inv X pins σ (upd H h'.objs.size (.tup ys)) { s with heap:=h'.push { cls:=.type "tuple",data:=.seq its.toArray } } :=
     I1.laid (t':=s.toks) (λb o e=>IZ _ e) (Ib _) (show cF X.prog X.w _ _ _ (.tup ys) from#[hz,its,r',IsTup.new _ _])
   exact#[.ref h'.objs.size,_,I2,rfl,q _ (I1.hok.fresh (Ib _))]
 . obtain⟨its,r',pl,hz⟩:=I.tuple hq;exact call_tuple_same pl #[.ref p,H,I,rfl,q]
noncomputable def qJ (K:W.Frag) (T:String) (x:V) (H:Hp):Prop:=match x with
 | .str _=>T="str"
 | .int _=>T="int"
 | .ref p=>(T="list"/\∃xs,aJ K H p xs)\/(T="tuple"/\∃o,K.lookup p=some o/\o.cls=.type "tuple"/\o.dict=none) \/
     (T="dict"/\((∃kvs,H p=some (.dK kvs))\/∃kvs,H p=some (.dT kvs)))\/(T="set"/\∃S n,H p=some (.set S n))
 | _=>False
theorem wb {pins:List (Addr×Obj)} {σ:St} {H:Hp} {s:Shared} {T:String} {x:V} {v:Value} (I:Inv X pins σ H s) (r:bE x v) (ty:qJ X.K T x H) :
   s.TypeIs v T/\∀a,v=.ref a->∃ob,s.heap.get? a=some ob/\ob.dict=none:=by
 cases x with
 | str z =>
   obtain⟨t,rfl⟩:=r;cases (show T="str" from ty);exact#[typeIs_str s z t,λ_ e=>nomatch e]
 | int i =>
   obtain⟨t,rfl⟩:=r;cases (show T="int" from ty);exact#[typeIs_int s i t,λ_ e=>nomatch e]
 | ref p =>
   cases r;rcases ty with⟨rfl,xs,hq⟩|⟨rfl,o,hk,hc,hd⟩|⟨rfl,hk⟩|⟨rfl,S,n,hk⟩
   . obtain⟨its,_,pl,_⟩:=I.list hq;refine#[pl.isList.typeIs,λa e=>?_];cases e;obtain⟨o,n,e,c,hd,_⟩:=pl;exact#[o,e,hd]
   . refine#[#[o,I.kIn p o hk,hc],λa e=>?_];cases e;exact#[o,I.kIn _ o hk,hd]
   . have z:∃o,s.heap.get? p=some o/\o.ExactDict:=by
       rcases hk with⟨kvs,hk⟩|⟨kvs,hk⟩
       . obtain⟨_,_,_,_,o,_,_,e,ex,_⟩:=I.hok p _ hk;exact#[o,e,ex]
       . obtain⟨_,_,_,_,o,_,_,e,ex,_⟩:=I.hok p _ hk;exact#[o,e,ex]
     obtain⟨o,e,ex⟩:=z;refine#[#[o,e,ex.1],λa e2=>?_];cases e2;exact#[o,e,ex.2.1]
   . obtain⟨o,_,_,_,e,ex,_⟩:=I.hok p _ hk;refine#[#[o,e,ex.1],λa e2=>?_];cases e2;exact#[o,e,ex.2.1]
 | _=>exact False.elim ty
noncomputable def HX (K:W.Frag) (T:String) (r:V->List V->Hp->VK->Prop) (to:TE):TE:=λσ H Q=>to σ H λx H1=>qJ K T x H1/\r x [] H1 Q
noncomputable def tBM (K:W.Frag) (T:String) (r:V->List V->Hp->VK->Prop) (to:TE) (t:TA):TE:=λσ H Q=>to σ H λx H1=>qJ K T x H1/\t σ H1 λxs H2=>r x xs H2 Q
variable {o e:Expr} {es:List Expr} {to:TE} {t:TA} {name:Str} {apos cpos:Pos} {T id:String} {r:V->List V->Hp->VK->Prop}
theorem FE (pa:PlainAttrs T) (slot:Slot T name id) (hty:typeOf (.builtin id)=pure (.type "method_descriptor")) (hm:lr X id r) (ho:PE X o to)
   (hbase:attributeBase o name X.env (eval o X.env)=eval o X.env:=by rfl) (hline:(apos.endLine==cpos.line)=true:=by rfl):PE X (.Call (.Attribute o name apos) [] [] cpos) (HX X.K T r to):=by
 intro pins s σ H Q I h;refine LO hbase hline (am (ho pins s σ H _ I h) λv s1 ⟨x,H1,I1,r1,ty,q1⟩=>?_);obtain⟨h1,h2⟩:=wb I1 r1 ty;exact#[T,id,pa,slot,hty,h1,h2,Calls.callWith_builtin rfl (PySem.evalArgs_none (hm pins s1 σ H1 x [] v [] Q I1 r1 .nil q1))]
theorem dg (pa:PlainAttrs T) (slot:Slot T name id) (hty:typeOf (.builtin id)=pure (.type "method_descriptor")) (hm:lr X id r) (ho:PE X o to) (ha:PA X (e :: es) t)
   (hbase:attributeBase o name X.env (eval o X.env)=eval o X.env:=by rfl)
   (hfew:((backTo cpos (starEach (e :: es) X.env)).all (λx=>!x.1)&&(backToKw cpos (keywordEach [] X.env)).all (λx=>x.1.isSome)
     && decide ((e :: es).length+([]:List Keyword).length+(if([]:List Keyword).isEmpty then 0 else 1)<30))=true:=by rfl)
   (hline:(apos.endLine==cpos.line)=true:=by rfl) (hs:starEach (e :: es) X.env=(false,eval e X.env) :: starEach es X.env:=by rfl) (hplain:(backTo cpos (starEach es X.env)).any (·.1)=false:=by rfl) :
   PE X (.Call (.Attribute o name apos) (e :: es) [] cpos) (tBM X.K T r to t):=by
 intro pins s σ H Q I h;refine wpAny_Call_method_late hbase hfew hline rfl (am (ho pins s σ H _ I h) λv s1 ⟨x,H1,I1,r1,ty,q1⟩=>?_);obtain⟨h1,h2⟩:=wb I1 r1 ty;refine#[T,id,pa,slot,hty,h1,h2,?_];have hA:=ha cpos pins s1 σ H1 _ I1 q1;rw[hs] at hA ⊢;refine Calls.callWith_builtin (by show(false || (backTo cpos (starEach es X.env)).any (·.1))=false; rw[hplain] <;> rfl) (Calls.evalArgs_plain ?_);exact am hA λus s2 ⟨vs,H2,I2,r2,q2⟩=>hm pins s2 σ H2 x vs v us Q I2 r1 r2 q2
end
noncomputable def lA (X:Cx) (id:String) (r:V->List V->Hp->VK->Prop):Prop :=
 ∀(pins:List (Addr×Obj)) (s:Shared) (σ:St) (H:Hp) (x:V) (xs:List V) (v:Value) (us:List Value) (Q:VK),Inv X pins σ H s->bE x v->ax xs us->r x xs H Q ->
   wpAny (model X.prog X.w) X.A (call (.builtin id) (v :: us)) (EP X pins σ Q) X.xe s
theorem ax.one:∀{x:V} {us:List Value},ax [x] us->∃u,us=[u]/\bE x u
 | _,_,.cons r .nil=>#[_,rfl,r]
theorem ax.zero:∀{us:List Value},ax [] us->us=[]
 | _,.nil=>rfl
theorem ax.dropLast {xs:List V} {us:List Value} (h:ax xs us):ax xs.dropLast us.dropLast:=by
 induction h with
 | nil=>exact .nil
 | cons r t ih =>
   cases t with
   | nil=>exact .nil
   | cons q t'=>exact .cons r ih
theorem ax.rep {xs:List V} {us:List Value} (h:ax xs us):∀k:Nat,ax (List.replicate k xs).flatten (List.replicate k us).flatten
 | 0=>.nil
 | k+1=>by rw[Js,Js,Jr,Jr];exact ax.append h (ax.rep h k)
theorem GO {α:Type} (l:List α):l.eraseIdx (l.length - 1)=l.dropLast:=by
 induction l with
 | nil=>rfl
 | cons a r ih =>
   cases r with
   | nil=>rfl
   | cons b r =>
     have e:(a :: b :: r).length - 1=((b :: r).length - 1)+1:=by have h1:(a :: b :: r).length=r.length+2:=rfl;have h2:(b :: r).length=r.length+1:=rfl;omega
     rw[e,List.eraseIdx_cons_succ,ih]
     all_goals rfl
theorem oQ (its:List Value):∀(k:Nat) (acc:List Value),
   List.foldl (λx1 x2=>x1++x2) acc.toArray (List.replicate k its.toArray)=(acc++(List.replicate k its).flatten).toArray
 | 0,acc=>by simp
 | k+1,acc=>by
   have e:acc.toArray++its.toArray=(acc++its).toArray:=by simp
   have e2:(acc++its)++(List.replicate k its).flatten=acc++(List.replicate (k+1) its).flatten:=by rw[Js,Jr,JP]
   rw[<- e2,<- oQ its k (acc++its),<- e,Js,KA]
section
variable {X:Cx} {pins:List (Addr×Obj)} {σ:St} {H:Hp} {s:Shared} {l b:Addr} {xs ys zs:List V}
theorem Inv.lset {its its':List Value} {f:Array Value->Array Value} {t':Nat} (I:Inv X pins σ H s) (hH:H l=some (.lst xs))
   (e:s.heap.get? l=some { cls:=.type "list",data:=.seq its.toArray n }) (hf:f its.toArray=its'.toArray) (hv:ax ys its') (hz:ys.length<=sizeLine) :
   Inv X pins σ (upd H l (.lst ys)) { s with heap:=s.heap.update l (Obj.mapSeq f),toks:=t' }:=by
 have q:=PySem.IsL.update e f;rw[hf] at q;refine I.write (x:=l) (e:=l) (by rw[hH]; exact trivial) (.inl rfl) (λb' u hb hu=>(Heap.get?_update_other s.heap (Obj.mapSeq f) (Ne.symm hb)).trans hu) #[_,q] ?_;exact#[hz,its',_,hv,q]
theorem Inv.lnew {its:List Value} {t':Nat} (I:Inv X pins σ H s) (hv:ax ys its) (hz:ys.length<=sizeLine) :
   Inv X pins σ (upd H s.heap.objs.size (.lst ys)) { s with heap:=s.heap.push { cls:=.type "list",data:=.seq its.toArray },toks:=t' } :=
 I.laid (λ_ _ q=>IZ _ q) (Ib _) #[hz,its,0,hv,Iz _ rfl]
theorem Inv.fresh (I:Inv X pins σ H s):H s.heap.objs.size=none:=I.hok.fresh (Ib _)
theorem Inv.lstM (I:Inv X pins σ H s) (hH:H l=some (.lst xs)):xs.length<=sizeLine/\∃(its:List Value) (n:Nat),ax xs its/\xs.length=its.length/\s.heap.get? l=some { cls:=.type "list",data:=.seq its.toArray n }:=by obtain⟨z,its,n,r,e⟩:=I.hok l _ hH;exact#[z,its,n,r,r.length,e]
theorem wT (h:n<=sizeLine):Builtin.List.listTooLong n=false:=by unfold Builtin.List.listTooLong;exact Ih (by omega)
end
section
variable {X:Cx}
noncomputable def FF:V->List V->Hp->VK->Prop:=λx vs H Q=>∃l xs y,x=.ref l/\vs=[y]/\H l=some (.lst xs)/\xs.length<sizeLine/\Q .non (upd H l (.lst (xs++[y])))
theorem iX:lA X "list.append" FF:=by intro pins s σ H x vs v us Q I rx rv h;obtain⟨l,xs,y,rfl,rfl,hH,hz,q⟩:=h;cases rx;obtain⟨u,rfl,ru⟩:=rv.one;obtain⟨z,its,n,r,hl,e⟩:=I.lstM hH;refine call_meets F.slot_list_append #[_,e,rfl] F.entry_list_append (F.args_list_append_2 _ _) (PySem.list_append l its.toArray n u (by rw[Ir]; omega)) #[e,?_];refine#[.non,_,I.lset (its':=its++[u]) hH e (by simp) (r.append (.cons ru .nil)) ?_,rfl,q];rw[Il,List.length_singleton];omega
noncomputable def GP:V->List V->Hp->VK->Prop:=λx vs H Q=>∃l b xs zs,x=.ref l/\vs=[.ref b]/\H l=some (.lst xs)/\H b=some (.lst zs)/\xs.length+zs.length<=sizeLine/\Q .non (upd H l (.lst (xs++zs)))
theorem E8:lA X "list.extend" GP:=by
 intro pins s σ H x vs v us Q I rx rv h;obtain⟨l,b,xs,zs,rfl,rfl,hH,hB,hz,q⟩:=h;cases rx;obtain⟨u,rfl,ru⟩:=rv.one;cases ru;obtain⟨z,its,n,r,hl,e⟩:=I.lstM hH;obtain⟨z2,its2,n2,r2,hl2,e2⟩:=I.lstM hB;have hsz:its.toArray.size+its2.toArray.size<=sizeLine:=by rw[Ir,Ir]; omega
 have hlong:¬ (!its.toArray.isEmpty&&Builtin.List.listTooLong (its.toArray.size+its2.toArray.size))=true:=by rw[wT hsz,JB];exact Iy
 refine call_meets F.slot_list_extend #[_,e,rfl] F.entry_list_extend (F.args_list_extend_2 _ _)
   (AutoSeq1.list_extend_list_list_0 l its.toArray n b its2.toArray n2 hlong (by rw[Ir]; omega) (by omega)) #[e,e2,?_]
 refine#[.non,_,I.lset (its':=its++its2) hH e (by simp) (r.append r2) ?_,rfl,q];rw[Il];omega
noncomputable def Aa:V->List V->Hp->VK->Prop:=λx vs H Q=>∃l xs y,x=.ref l/\vs=[]/\H l=some (.lst xs)/\xs[xs.length - 1]?=some y/\Q y (upd H l (.lst xs.dropLast))
theorem IH:lA X "list.pop" Aa:=by
 intro pins s σ H x vs v us Q I rx rv h;obtain⟨l,xs,y,rfl,rfl,hH,hy,q⟩:=h;cases rx;have hus:=rv.zero;subst hus;obtain⟨z,its,n,r,hl,e⟩:=I.lstM hH;obtain⟨u,hu,ru⟩:=r.get hy;have hy':its.toArray[its.toArray.size - 1]?=some u:=by show its.toArray[its.length - 1]?=some u;rw[<- Array.getElem?_toList,<- hl];exact hu
 refine call_meets F.slot_list_pop #[_,e,rfl] F.entry_list_pop (F.args_list_pop_1 _) (MeetsSeq.list_pop_last l its.toArray n u hy' (by rw[Ir]; omega)) #[e,?_];refine#[y,_,I.lset (its':=its.dropLast) hH e ?_ r.dropLast ?_,ru,q]
 . show its.toArray.eraseIdxIfInBounds (its.toArray.size - 1)=its.dropLast.toArray;rw[Ir,List.eraseIdxIfInBounds_toArray,GO]
 . rw[List.length_dropLast];omega
noncomputable def AQ:R2:=λx y H Q=>∃l b xs zs,x=.ref l/\y=.ref b/\H l=some (.lst xs)/\H b=some (.lst zs)/\xs.length+zs.length<=sizeLine/\∀p,H p=none->Q (.ref p) (upd H p (.lst (xs++zs)))
theorem kG:bT X (binaryOp .Add) AQ:=by
 intro pins s σ H x y v u Q I rx ry h;obtain⟨l,b,xs,zs,rfl,rfl,hH,hB,hz,q⟩:=h;cases rx;cases ry;obtain⟨z,its,n,r,hl,e⟩:=I.lstM hH;obtain⟨z2,its2,n2,r2,hl2,e2⟩:=I.lstM hB;refine PySem.P.add_list e e2 ?_ (by rw[Ir,Ir]; omega);have ea:its.toArray++its2.toArray=(its++its2).toArray:=by simp
 rw[ea];exact#[.ref _,_,I.lnew (t':=s.toks) (r.append r2) (by rw[Il]; omega),rfl,q _ I.fresh]
noncomputable def Be:R2:=λx y H Q=>∃l k xs,x=.ref l/\y=.int k/\H l=some (.lst xs)/\-(2 ^ 63)<=k/\k<2 ^ 63/\xs.length * k.toNat<=sizeLine /\
 ∀p,H p=none->Q (.ref p) (upd H p (.lst (List.replicate k.toNat xs).flatten))
theorem pH {α:Type} (xs:List α) (k:Nat):(List.replicate k xs).flatten.length=k * xs.length:=by
 induction k with
 | zero=>simp
 | succ k ih=>rw[Js,Jr,Il,ih,Nat.succ_mul,Nat.add_comm]
theorem lH:bT X (binaryOp .Mult) Be:=by
 intro pins s σ H x y v u Q I rx ry h;obtain⟨l,k,xs,rfl,rfl,hH,h1,h2,hz,q⟩:=h;cases rx;obtain⟨t,rfl⟩:=ry;obtain⟨z,its,n,r,hl,e⟩:=I.lstM hH;have hlen:its.toArray.size * k.toNat<=sizeLine:=by rw[Ir,<- hl]; exact hz
 have hcap:¬ its.toArray.size * k.toNat > (2 ^ 63 - 1) / 8:=by
   have:(sizeLine:Nat)<=(2 ^ 63 - 1) / 8:=by decide
   omega
 have hfit:¬ (!Builtin.List.listFitsIndex k)=true:=by rw[fitsIndex_both h1 h2];exact Iy
 have hlong:¬ Builtin.List.listTooLong (its.toArray.size * k.toNat)=true:=by rw[wT hlen];exact Iy
 have hnew:List.foldl (λx1 x2=>x1++x2) (List.toArray []) (List.replicate (if its.toArray.isEmpty=true then 0 else k.toNat) its.toArray)=(List.replicate k.toNat its).flatten.toArray:=by
   have f0:∀m:Nat,List.foldl (λx1 x2=>x1++x2) (List.toArray []) (List.replicate m its.toArray)=(List.replicate m its).flatten.toArray:=λm=>by have:=oQ its m [];rw[Km] at this;exact this
   rw[f0];cases its with
   | nil=>simp
   | cons a r'=>rw[IW (by simp)]
 refine LD (T:="list") (U:="int") (by decide) #[_,e,rfl] (λs'=>typeIs_int s' k t) noFill_list_mul F.fills_int_mul Ko repeat_list F.slot_int_index.lookup
   (call_meets Ko (typeIs_int s k t) F.entry_int_rmul (F.args_int_rmul_2 _ _) (int___rmul___int_list k t l its.toArray n)
     #[e,rfl,#[_,e,rfl],call_meets F.slot_list_mul #[_,e,rfl] F.entry_list_mul (F.args_list_mul_2 _ _) (AutoListH.list___mul___list_int_3 l its.toArray n k t hfit hcap hlong) #[e,?_]])
 rw[hnew];exact#[.ref _,_,I.lnew (t':=s.toks) (r.rep k.toNat) (by rw[pH,Nat.mul_comm]; exact hz),rfl,q _ I.fresh]
end
end L2
namespace Att
open PySem PySem.W PySem.Calls PyProof.Rows
theorem ID {P:Params} {h:Heap}:∀(ns:List Int) (vs:List Value),WellAll P h vs (ns.map WData.int)->IntsAre vs ns:=by
 intro ns
 induction ns with
 | nil =>
   intro vs w;rw[Ji] at w;cases w;exact .nil
 | cons n ns ih =>
   intro vs w;rw[Ix] at w;cases w with
   | cons a b =>
     cases a;exact .cons _ _ (ih _ b)
theorem AI {l:OpenLaw} {n:Nat} (hn:l.most=some n) {P:Params} {h:Heap} {args:List WData} {vals:List Value}
   (hpre:l.row.toRowW.claim.pre args=true) (hwl:WellAll P h vals args) :
   ∃a vs ns,vals=[Value.ref a]/\args=[WData.list (ns.map WData.int)]/\h.get? a=some { cls:=.type "list",data:=.seq vs.toArray }/\IntsAre vs ns/\ns.length<=n:=by
 have qQ:WShape.hasAll [] args [.list .int]=true:=(pre_splitW hpre).1;have hc:l.pre.holds [] { args:=args }=true:=(pre_splitW hpre).2;obtain⟨d,r,rfl,h1,h2⟩:=hasAllW_cons qQ;obtain rfl:=hasAllW_nil h2;obtain⟨xs,rfl,h3⟩:=hasW_list h1;obtain⟨ns,rfl⟩:=items_int h3;have hlen:ns.length<=n:=by
   unfold OpenLaw.pre at hc;have h4:(WTm.not (.lt (.lit (.int (n:Int))) (.len (.arg 0)))).holds [] { args:=[.list (ns.map .int)] }=true:=by have h4:=(holds_andW hc).1;rw[hn] at h4;exact h4
   have h5:=condW_of h4 (w_not (w_lt w_lit (w_len_list (w_arg rfl))));rw[IX] at h5;refine Nat.le_of_not_lt λq=>?_;have q':(n:Int)<((ns.length:Nat):Int):=by omega
   first
     | (rw[IV q'] at h5; exact absurd h5 (by decide))
     | (simp at h5; omega)
 cases hwl with
 | cons w1 w2 =>
   cases w2;cases w1 with
   | list ho hall=>exact#[_,_,ns,rfl,rfl,ho,ID ns _ hall,hlen]
theorem DJ (l:OpenLaw) (args:List WData):l.row.toRowW.claim.post args (.bool true) args=true :=
 postW_of (r:=l.row.toRowW) (X:=(true==true))
   (show WShape.has [] (.bool true) .bool=true by first|rfl|decide|simp [WShape.has,WShape.arms,WShape.armsAll])
   (show(WTm.eq .res (.lit (.bool true))).value [] { args:=args,res:=some (.bool true),after:=args }=some (.bool (true==true)) from w_eq_bool (w_res rfl) w_lit) rfl
theorem attach_call {l:OpenLaw} {n:Nat} {q:Program} {loose:List Str} {XP:(Str->Option Value)->Heap->Prop} {YP:World->Heap->Prop} {d:DefRec}
   (hn:l.most=some n) (hdf:d.params.defaults=[])
   (call:∀(w:World) (s₀ s₁:Shared) (mg mb:Str->Option Value) (fa:Addr) (o:Obj) (pm cd doc:Value) (a:Addr) (vs:List Value) (ns:List Int),
     Ground q loose [] XP w s₀ mg mb s₁.heap->YP w s₁.heap ->
     s₁.heap.get? fa=some o->o.data=.func (docDef d.name d.params d.body d.scope pm cd doc)->s₁.heap.CodeRec cd d.name->mg d.name=some (.ref fa) ->
     s₁.heap.get? a=some { cls:=.type "list",data:=.seq vs.toArray }->IntsAre vs ns->ns.length<=n->s₁.gens=(List.toArray []) ->
     codeAny (model l.prog w) callerA (.call (.ref fa) #[[.ref a],[]]) (λr s'=>r=.ok (.ret (.bool true))/\OldK s₁.heap s'.heap/\s'.os=s₁.os/\AllBare s'.gens) s₁) :
   WalkO q loose XP YP l.row.toRowW d [] (λf vs=>PySem.call f vs):=by
 intro w s₀ s₁ mg mb G Y fa o pm cd doc dV kV ho hd hcd hD hmg hg args vals as hpre hlay hrd hwl hlo;obtain rfl:dV=.none:=Dflts.none hD hdf;obtain rfl:kV=.none:=Dflts.noKw hD;obtain⟨a,vs,ns,rfl,rfl,hobj,hints,hlen⟩:=AI hn hpre hwl;refine enter_call (LJ (call w s₀ s₁ mg mb fa o pm cd doc a vs ns G Y ho (fd_plain hd) hcd hmg hobj hints hlen hg) λr s' hq=>?_);obtain⟨rfl,h2,h3,h4⟩:=hq;exact#[.inl #[.bool true,.bool true,[],rfl,λ_=>rfl,.bool true,DJ l _,λ_=>#[List.Pairwise.nil,λ_ hm=>(nomatch hm)]],h2,h3,h4]
end Att
namespace L2
open PySem PySem.Spec PyProof.Rows
theorem uQ:∀{vs:List Value} {ns:List Int},IntsAre vs ns->ax (ns.map V.int) vs
 | _,_,.nil=>.nil
 | _,_,.cons n t h=>.cons #[t,rfl] (uQ h)
noncomputable def lW (H:Hp):Prop:=∀b,H b=none\/∃o xs,H b=some (.frz o (.lst xs))
variable {x:Str}
theorem II {P:Program} {w:World} {K:W.Frag} {mg mb:Str->Option Value} {CX:fN} {k:Nat} {fa a:Addr} {fd:FuncData} {sp:Sp} {s₁:Shared} {vs:List Value} {ns:List Int}
   (KX:K.In s₁.heap) (hns:s₁.heap.Ns mainGlobals mg) (hb:s₁.heap.Ns builtinsNs mb) (hbb:∀x:Str,x≠"__name__"->mb x=bootBuiltins x) (hlim:s₁.heap.NoLimit) (hg:s₁.gens=(List.toArray []))
   (ha:s₁.heap.get? a=some { cls:=.type "list",data:=.seq vs.toArray }) (hi:IntsAre vs ns) (hl:ns.length<=sizeLine) (hr:Room k callerA)
   (F:∀base:Heap,K.In base->base.Ns mainGlobals mg->FnOk P w K mg base CX k fa fd [x] sp) (hbind:∀(s:Shared) (u:Value),BindsTo s fd #[[u],[]] [(x,u)])
   (hsp:∀H:Hp,lW H->aJ K H a (ns.map V.int)->sp [.ref a] H (λv _=>v=.bl true) λ_ _ _=>False)
   (hCX:∀H e s',CX [] H s₁ (λ_ _ _=>False) e s'->False) :
   codeAny (model P w) callerA (.call (.ref fa) #[[.ref a],[]]) (λr s'=>r=.ok (.ret (.bool true))/\OldK s₁.heap s'.heap/\s'.os=s₁.os/\AllBare s'.gens) s₁:=by
 have rv:=uQ hi;have lenV:=hi.length
 -- from an abstract heap in which nothing but the script may be tracked
 have core:∀H:Hp,lW H->aJ K H a (ns.map V.int)->c9 P w H s₁.heap->(∀b,H b≠none->b=a)->(H a≠none->K.lookup a=none) ->
     codeAny (model P w) callerA (.call (.ref fa) #[[.ref a],[]]) (λr s'=>r=.ok (.ret (.bool true))/\OldK s₁.heap s'.heap/\s'.os=s₁.os/\AllBare s'.gens) s₁:=by
   intro H hO hS hok hA hK;have base_of:∀{b:Addr} {o:Obj},s₁.heap.get? b=some o->H b=none->(gO s₁.heap H).get? b=some o:=λe n=>FV e n;have noA:∀{b:Addr} {o:Obj} {es:Array DictEntry} {ep:Nat},s₁.heap.get? b=some o->o.data=.dict es ep->H b=none:=λ{b o es ep} e d=>by
     cases q:H b with
     | none=>rfl
     | some u =>
       have e':b=a:=hA b (by rw[q]; simp);subst e';rw[ha] at e; cases e;have d':Data.seq vs.toArray _=Data.dict es ep:=d;cases d'
   have nsK:∀{b:Addr} {m:Str->Option Value},s₁.heap.Ns b m->(gO s₁.heap H).Ns b m:=λ{b m} ⟨o,es,ep,e,d,r⟩=>#[o,es,ep,base_of e (noA e d),d,r]
   have hKb:K.In (gO s₁.heap H):=λb o e=>base_of (KX b o e) (by
     cases q:H b with
     | none=>rfl
     | some u =>
       have e':b=a:=hA b (by rw[q]; simp);subst e';rw[hK (by rw[q]; simp)] at e; cases e)
   have hM:Mod K mg (gO s₁.heap H):=#[hKb,nsK hns,#[mb,nsK hb,hbb],let ⟨mc,h1,h2⟩:=hlim; #[mc,nsK h1,h2]]
   have e0:Env0 P w K mg (gO s₁.heap H) callerA [] s₁ H:=#[rfl,hM,λb o e=>Ao e,Nat.le_of_eq (En _ _),trivial,λb hb=>absurd (show b∈([]:List Addr) from hb) (by simp),hok,.of_eq hg]
   refine LJ ((F _ hKb (nsK hns)).run callerA [] s₁ H #[[.ref a],[]] [.ref a] [.ref a] _ _ hr e0 (hbind s₁ (.ref a)) (.cons rfl .nil) (hsp H hO hS)) λr s' h=>?_;cases r with
   | error e=>exact(hCX H e s' h).elim
   | ok fl =>
     cases fl with
     | next=>exact False.elim h
     | brk=>exact False.elim h
     | cont=>exact False.elim h
     | ret u =>
       obtain⟨v,H',os,bare,un,hok',r',q⟩:=h;have q':v=.bl true:=q;subst q';obtain rfl:u=Value.bool true:=r';refine#[rfl,OldK.of_keep λb o e=>?_,os,bare];cases q:H b with
       | none=>exact un.keep b o e q (by intro z; exact absurd (show b∈([]:List Addr) from z) (by simp)) (by simp)
       | some u =>
         rcases hO b with z|⟨ob,xs,z⟩
         . rw[q] at z; cases z
         . have z2:=un.frzs b ob _ z;obtain⟨e1,_⟩:=hok b _ z;obtain⟨e2,_⟩:=hok' b _ z2;rw[e] at e1; cases e1;exact e2
 cases hk:K.lookup a with
 | some o =>
   -- the script is one of the module's own objects
   have e:=KX a o hk;rw[ha] at e;cases e;refine core (λ_=>none) (λ_=>.inl rfl) (.inr #[_,vs.toArray,_,hk,rfl,rfl,rfl,by rw[Ir,lenV]; exact hl,by simpa using rv]) (λb u z=>by have z':(none:Option HO)=some u:=z; cases z') (λb z=>absurd rfl z) λz=>absurd rfl z
 | none =>
   refine core (λb=>if b=a then some (.frz { cls:=.type "list",data:=.seq vs.toArray } (.lst (ns.map V.int))) else none) (λb=>?_) (.inl (.inr #[{ cls:=.type "list",data:=.seq vs.toArray },Ig rfl])) (λb u z=>?_) (λb z=>?_) λ_=>hk
   . by_cases hb:b=a
     . exact .inr #[_,_,Ig hb]
     . exact .inl (IW hb)
   . by_cases hb:b=a
     . have z':=(Ig hb).symm.trans z;cases z';subst hb;exact#[ha,by rw[IX]; exact hl,vs,_,rv,ha]
     . have z':=(IW hb).symm.trans z;cases z'
   . by_cases hb:b=a
     . exact hb
     . exact absurd (IW hb) z
noncomputable abbrev KOf {K:W.Frag} {h:Heap} (_:K.In h):W.Frag:=K
theorem CI {l:PySem.W.OpenLaw} {n k:Nat} {q:Program} {loose:List Str} {XP:(Str->Option Value)->Heap->Prop} {YP:World->Heap->Prop} {d:DefRec} {K:Params->W.Frag} {CX:World->fN} {sp:World->Sp} 
   (hn:l.most=some n) (hn2:n<=sizeLine) (hdf:d.params.defaults=[]) (hr:Room k callerA)
   (hY:∀(w:World) (h:Heap),YP w h->(K w.params).In h)
   (F:∀(w:World) (mg:Str->Option Value) (fa:Addr) (h:Heap),(K w.params).In h->h.Ns mainGlobals mg->mg d.name=some (.ref fa) ->
     ∃fd:FuncData,(∀(s:Shared) (u:Value),BindsTo s fd #[[u],[]] [(x,u)]) /\
       ∀base:Heap,(K w.params).In base->base.Ns mainGlobals mg->FnOk l.prog w (K w.params) mg base (CX w) k fa fd [x] (sp w))
   (hsp:∀(w:World) (H:Hp) (a:Addr) (ns:List Int),ns.length<=n->lW H->aJ (K w.params) H a (ns.map V.int)->sp w [.ref a] H (λv _=>v=.bl true) λ_ _ _=>False)
   (hCX:∀(w:World) (H:Hp) (s:Shared) (e:Value) (s':Shared),CX w [] H s (λ_ _ _=>False) e s'->False) :
   PySem.W.WalkO q loose XP YP l.row.toRowW d [] (λf vs=>PySem.call f vs):=by
 refine Att.attach_call hn hdf λw s₀ s₁ mg mb fa o pm cd doc a vs ns G Y ho hd hcd hmg hobj hints hlen hg=>?_;have KX:=hY w _ Y;obtain⟨fd,hb,hF⟩:=F w mg fa _ KX G.T.g hmg;exact II KX G.T.g G.T.b G.T.builtins G.T.nolimit hg hobj hints (J7 hlen hn2) hr hF hb (λH hO hS=>hsp w H a ns hlen hO hS) λH e s'=>hCX w H s₁ e s'
theorem walk_ofK {l:PySem.W.OpenLaw} {n k:Nat} {q:Program} {loose:List Str} {XP:(Str->Option Value)->Heap->Prop} {YP:World->Heap->Prop} {d:DefRec} {K:Params->W.Frag} {CX:fN} {sp:W.Frag->Sp} 
   (hn:l.most=some n) (hn2:n<=sizeLine) (hdf:d.params.defaults=[]) (hr:Room k callerA)
   (hY:∀(w:World) (h:Heap),YP w h->(K w.params).In h)
   (F:∀(w:World) (mg:Str->Option Value) (fa:Addr) (h:Heap),(K w.params).In h->h.Ns mainGlobals mg->mg d.name=some (.ref fa) ->
     ∃fd:FuncData,(∀(s:Shared) (u:Value),BindsTo s fd #[[u],[]] [(x,u)]) /\
       ∀base:Heap,(K w.params).In base->base.Ns mainGlobals mg->FnOk l.prog w (K w.params) mg base CX k fa fd [x] (sp (K w.params)))
   (hsp:∀(K:W.Frag) (H:Hp) (a:Addr) (ns:List Int),ns.length<=n->lW H->aJ K H a (ns.map V.int)->sp K [.ref a] H (λv _=>v=.bl true) λ_ _ _=>False)
   (hCX:∀(H:Hp) (s:Shared) (e:Value) (s':Shared),CX [] H s (λ_ _ _=>False) e s'->False) :
   PySem.W.WalkO q loose XP YP l.row.toRowW d [] (λf vs=>PySem.call f vs) :=
 CI (K:=K) (CX:=λ_=>CX) (sp:=λw=>sp (K w.params)) hn hn2 hdf hr hY F (λw H a ns h1 h2 h3=>hsp (K w.params) H a ns h1 h2 h3) λ_ H s e s'=>hCX H s e s'
noncomputable def fS (s:Stmt) (j:Nat):Stmt:=match s with
 | .ClassDef _ _ _ body _ _ _ _ _ _ _=>body.getD j (.Pass #[0,0,0,0])
 | _=>.Pass #[0,0,0,0]
noncomputable def d8 (s:Stmt):Arguments:=match s with
 | .FunctionDef _ a _ _ _ _ _ _ _ _=>a
 | _=>{ posonlyargs:=[],args:=[],vararg:=none,kwonlyargs:=[],kw_defaults:=[],kwarg:=none,defaults:=[] }
noncomputable def bP (s:Stmt):List Stmt:=match s with
 | .FunctionDef _ _ b _ _ _ _ _ _ _=>b
 | _=>[]
noncomputable def b6 (s:Stmt):Scope:=match s with
 | .FunctionDef _ _ _ _ _ _ sc _ _ _=>sc
 | _=>{ kind:=.function,names:=[],isGenerator:=false,isCoroutine:=false }
noncomputable abbrev CX0:fN:=λ_ _ _ _ _ _=>False
noncomputable abbrev E0:XK:=λ_ _ _=>False
theorem cq {X:Cx}:iU CX0 X E0:=λ_ _ _ _ _ _ _ h=>h.elim
structure Fun (K:W.Frag) (x qual:Str) (st:Stmt) (f:Addr) (fd:FuncData):Prop where
 ex:∃(oc:Value) (od:Option Addr) (kV doc pm:Value) (an:Option Addr) (cdv ct:Value) (osl:Array (Option Value)),
   fd=PySem.W.fnOf x qual (d8 st) (bP st) (b6 st) .none kV doc pm an cdv ct/\K.lookup f=some #[oc,od,.func fd,osl]/\PySem.W.codeIn K cdv qual=true
 kp:PySem.W.keepIn K (.ref f)=true
variable {qual:Str}
section
variable {P:Program} {w:World} {K:W.Frag} {mg:Str->Option Value} {base:Heap}
theorem Fun.ok {st:Stmt} {f:Addr} {fd:FuncData} {N ps:List Str} {k:Nat} {sp:Sp} (F:Fun K x qual st f fd) (S:FnScope N ps (b6 st)) (len:∀vs H Q E,sp vs H Q E->vs.length=ps.length)
   (hbody:∀(cdv:Value) (A:Around) (outer:List Env) (s:Shared) (H:Hp) (vs:List V) (Q:VK) (E:XK),Room k (A.deeper (envOfC qual (b6 st) s.heap.objs.size f cdv))->sp vs H Q E ->
     ∃t,bQ (iY CX0 P w K mg base N qual (b6 st) f cdv A outer s H E).nox (bP st) t/\t { nx:=λ_ H'=>Q .non H',rt:=Q } (gp N vs) H):FnOk P w K mg base CX0 (k+1) f fd ps sp:=by
 obtain⟨oc,od,kV,doc,pm,an,cdv,ct,osl,rfl,lk,hcd⟩:=F.ex;refine AK lk hcd S len λA outer s H vs Q E hr hsp=>?_;obtain⟨t,h,q⟩:=hbody cdv A outer s H vs Q E hr hsp;exact#[t,h.nox,q]
theorem Fun.binds {st:Stmt} {f:Addr} {fd:FuncData} {ps:List Str} (F:Fun K x qual st f fd)
   (h:∀(kV doc pm:Value) (an:Option Addr) (cdv ct:Value) (us:List Value),us.length=ps.length->bindArgs (PySem.W.fnOf x qual (d8 st) (bP st) (b6 st) .none kV doc pm an cdv ct) #[us,[]]=pure (ps.zip us)):fH K fd ps []:=by
 obtain⟨oc,od,kV,doc,pm,an,cdv,ct,osl,rfl,lk,hcd⟩:=F.ex;exact .all (h kV doc pm an cdv ct)
theorem jH {st:Stmt} {f:Addr} {oc:Value} {od an:Option Addr} {osl:Array (Option Value)} {kV doc pm cdv ct:Value} (l:K.lookup f=some #[oc,od,.func (PySem.W.fnOf x qual (d8 st) (bP st) (b6 st) .none kV doc pm an cdv ct),osl])
   (c:PySem.W.codeIn K cdv qual=true) (k:PySem.W.keepIn K (.ref f)=true):Fun K x qual st f (PySem.W.fnOf x qual (d8 st) (bP st) (b6 st) .none kV doc pm an cdv ct):=#[#[oc,od,kV,doc,pm,an,cdv,ct,osl,rfl,l,c],k]
end
theorem wC {n:Nat} (h:n<=1000):n<sizeLine:=Nat.lt_of_le_of_lt h (by decide)
section
variable {X:Cx}
theorem pv (i:Nat) {pos:Pos} (hN:X.N[i]?=some x:=by rfl) (hv:lh X.env.scope x:=by first|exact Or.inl rfl|exact Or.inr (Or.inl rfl)|exact Or.inr (Or.inr rfl)) (hd:(x==("__debug__":Str))=false:=by decide)
   (hcd:(x==("__classdict__":Str))=false:=by decide):PE X (.Name x pos) (xA i):=DD hN hv hd hcd
end
theorem j2 {A B:Prop} (h:B):if false=true then A else B:=by rw[IW Iy];exact h
theorem nR {A B:Prop} (h:A):if true=true then A else B:=by rw[Ig rfl];exact h
theorem Cj {c A B:Prop} [Decidable c] (h1:c->A) (h2:¬ c->B):if c then A else B:=by
 by_cases h:c
 . rw[Ig h];exact h1 h
 . rw[IW h];exact h2 h
noncomputable def aB (H H':Hp):Prop:=∀b o,H b=some o->H' b=some o
theorem aB.refl (H:Hp):aB H H:=λ_ _ h=>h
theorem aB.trans {H H1 H2:Hp} (a:aB H H1) (b:aB H1 H2):aB H H2:=λc o h=>b c o (a c o h)
theorem aB.free {H H':Hp} (e:aB H H') {l:Addr} (h:H' l=Option.none):H l=Option.none:=by
 cases q:H l with
 | none=>rfl
 | some o =>
   rw[e l o q] at h;cases h
theorem aB.seq {K:W.Frag} {H H':Hp} {a:Addr} {xs:List V} (e:aB H H') (h:aJ K H a xs):aJ K H' a xs:=by
 rcases h with(h|⟨o,h⟩)|h
 . exact .inl (.inl (e _ _ h))
 . exact .inl (.inr #[o,e _ _ h])
 . exact .inr h
end L2
set_option maxHeartbeats 4000000
namespace L2
open PySem PySem.Spec PyProof.Rows
noncomputable def df:List (Str×NameKind)->List (Str×Addr)->List (Str×Addr)->List (Str×Addr)
 | [],_,acc=>acc
 | (n,k) :: r,cells,acc=>if k==.free then df r cells ((n,(cells.lookup n).getD 0) :: acc) else df r cells acc
theorem wB {env:Env}:∀(names:List (Str×NameKind)) (acc:List (Str×Addr)),(∀y∈names,y.2=.free->∃c,env.cells.lookup y.1=some c) ->
   (forIn names acc λx r=>(match x with|(name,kind)=>if(kind==NameKind.free)=true then do let a <- cellOf env name; pure (ForInStep.yield ((name,a) :: r)) else pure (ForInStep.yield r):Sem (ForInStep (List (Str×Addr)))))=(pure (df names env.cells acc):Sem (List (Str×Addr)))
 | [],acc,_=>rfl
 | (n,k) :: r,acc,h=>by
   have ih:=λacc=>wB (env:=env) r acc λy hy=>h y (Im _ hy);rw[KN];unfold df;cases hk:(k==NameKind.free) with
   | true =>
     obtain⟨c,hc⟩:=h (n,k) Ii (by simpa using hk);have hc:env.cells.lookup n=some c:=hc;have e:cellOf env n=pure c:=by unfold cellOf; rw[hc]
     simp only[hk,if_true,e,pure_bind,hc,Option.getD_some];exact ih _
   | false =>
     simp only[hk,Bool.false_eq_true,if_false,pure_bind];exact ih _
variable {scope:Scope}
theorem D3 {env:Env} (h:∀y∈scope.names,y.2=.free->∃c,env.cells.lookup y.1=some c):closureFor scope env=pure (df scope.names env.cells []):=by
 have e:=wB (env:=env) scope.names [] h;unfold closureFor
 first
   | (rw[e]; rfl)
   | (simp only[e]; rfl)
   | exact(Iq (λt=>t >>= λr=>pure r) e)
theorem pS {cells:List (Str×Addr)}:∀(names:List (Str×NameKind)) (acc:List (Str×Addr)),(∀y∈names,y.2=.free->∃c,cells.lookup y.1=some c)->(∀x c,acc.lookup x=some c->cells.lookup x=some c) ->
   ∀x c,(df names cells acc).lookup x=some c->cells.lookup x=some c
 | [],acc,_,h2=>h2
 | (n,k) :: r,acc,h,h2=>by
   unfold df;cases hk:(k==NameKind.free) with
   | true =>
     rw[Ig rfl];refine pS r _ (λy hy=>h y (Im _ hy)) λx c e=>?_;obtain⟨c',hc⟩:=h (n,k) Ii (by simpa using hk);have hc:cells.lookup n=some c':=hc;rw[Jj] at e;cases hx:x==n with
     | true =>
       have hx':x=n:=by simpa using hx
       rw[hx] at e;rw[hx',hc];simpa [hc] using e
     | false =>
       rw[hx] at e;exact h2 x c e
   | false =>
     rw[IW (by simp)];exact pS r _ (λy hy=>h y (Im _ hy)) h2
theorem pD {cells:List (Str×Addr)} {x:Str}:∀(names:List (Str×NameKind)) (acc:List (Str×Addr)),(acc.lookup x).isSome=true->((df names cells acc).lookup x).isSome=true
 | [],_,h=>h
 | (n,k) :: r,acc,h=>by
   unfold df;split
   . refine pD r _ ?_;rw[Jj];cases x==n <;> simp [h]
   . exact pD r _ h
theorem qK {cells:List (Str×Addr)} {x:Str}:∀(names:List (Str×NameKind)) (acc:List (Str×Addr)),(x,NameKind.free)∈names->((df names cells acc).lookup x).isSome=true
 | (n,k) :: r,acc,h=>by
   unfold df;rcases Io.mp h with e|e
   . cases e;rw[Ig (by rfl)];exact pD r _ (by rw[Jj]; simp)
   . split
     . exact qK r _ e
     . exact qK r _ e
noncomputable def dF (X:Cx) (N':List Str) (scope:Scope) (C:Addr) (s:Shared) (H:Hp) (fp:List Addr):Cx :=
 { X with N:=N',s₀:=s,H₀:=H,env:=compEnvC scope (df scope.names X.env.cells []) C X.env,outer:=X.stack,stack:=X.stack,ex:=fp,fn:=λ_=>false,pn:=[],xe:=λ_ _=>False }
noncomputable def cO (js:List (Option Nat)) (σ:St):St:=js.map λo=>o.bind λj=>(σ[j]?).join
noncomputable def jm (scope osc:Scope) (N' N:List Str) (js:List (Option Nat)):Bool :=
 (scope.kind==.function)&&(scope.names.all λy=>y.2 != .cell&&(if y.2==.local then scope.names.lookup y.1==some .local else true) &&
   (if y.2==.free then osc.names.lookup y.1==some .cell || osc.names.lookup y.1==some .free else true)) &&
 js.length==N'.length&&((js.zip N').all λq=>match q.1 with
   | none=>true
   | some j=>N[j]?==some q.2&&(osc.names.lookup q.2==some .cell || osc.names.lookup q.2==some .free)&&scope.names.lookup q.2==some .free)
structure CompOk (scope osc:Scope) (N' N:List Str) (js:List (Option Nat)):Prop where
 kind:scope.kind=.function
 nocell:∀y∈scope.names,y.2≠.cell
 names:∀y∈scope.names,y.2=.local->scope.names.lookup y.1=some .local
 free:∀y∈scope.names,y.2=.free->osc.names.lookup y.1=some .cell\/osc.names.lookup y.1=some .free
 len:js.length=N'.length
 slots:∀(i j:Nat) (x:Str),js[i]?=some (some j)->N'[i]?=some x->N[j]?=some x/\(osc.names.lookup x=some .cell\/osc.names.lookup x=some .free)/\scope.names.lookup x=some .free
variable {N':List Str} {js:List (Option Nat)}
theorem DO {osc:Scope}{N:List Str}(h:jm scope osc N' N js=true):CompOk scope osc N' N js:=by
 unfold jm at h;rw[J4,J4,J4,Jk,Jk] at h;obtain⟨⟨⟨h1,h2⟩,h3⟩,h4⟩:=h;refine#[by cases hk:scope.kind <;> first|rfl|(rw[hk] at h1; cases h1),λy hy e=>?_,λy hy e=>?_,λy hy e=>?_,by simpa using h3,λi j x e1 e2=>?_]
 . have q:=h2 y hy;rw[e] at q;simp at q
 . have q:=h2 y hy;rw[J4,J4] at q;have q2:=q.1.2;rw[e] at q2;simpa using q2
 . have q:=h2 y hy;rw[J4,J4] at q;have q2:=q.2;rw[e] at q2;simpa using q2
 . have hm:(some j,x)∈js.zip N':=by refine Ij (i:=i) ?_;rw[JV];exact#[e1,e2]
   have q:=h4 _ hm;simp only[J4,Bool.or_eq_true,LF] at q;exact#[q.1.1,q.1.2,q.2]
theorem u3 {env:Env}:∀(names:List (Str×NameKind)) (x:Str),names.lookup x=some .free ->
   ((names.map λ(n,k)=>if(k==NameKind.free&&env.scope.kind==.function&&env.kindOf n==some .cell) then(n,NameKind.cell) else(n,k)).lookup x=some .cell \/
     (names.map λ(n,k)=>if(k==NameKind.free&&env.scope.kind==.function&&env.kindOf n==some .cell) then(n,NameKind.cell) else(n,k)).lookup x=some .free)
 | [],x,h=>by simp at h
 | (n,k) :: r,x,h=>by
   have ih:=u3 (env:=env) r x;rw[Ix];rw[Jj] at h;by_cases hb:(k==NameKind.free&&env.scope.kind==.function&&env.kindOf n==some .cell)=true
   . have e1:(if(k==NameKind.free&&env.scope.kind==.function&&env.kindOf n==some .cell)=true then(n,NameKind.cell) else(n,k))=(n,NameKind.cell):=Ig hb;simp only[e1,Jj];cases hx:x==n with
     | true=>exact .inl rfl
     | false =>
       rw[hx] at h;exact ih h
   . have e1:(if(k==NameKind.free&&env.scope.kind==.function&&env.kindOf n==some .cell)=true then(n,NameKind.cell) else(n,k))=(n,k):=IW hb;simp only[e1,Jj];cases hx:x==n with
     | true =>
       rw[hx] at h;exact .inr h
     | false =>
       rw[hx] at h;exact ih h
theorem uy {scope:Scope} {env:Env}:∀(names:List (Str×NameKind)) (x:Str),(∀y∈names,y.2≠.cell) ->
   ((names.map λ(n,k)=>if(k==NameKind.free&&env.scope.kind==.function&&env.kindOf n==some .cell) then(n,NameKind.cell) else(n,k)).lookup x=some .cell \/
     (names.map λ(n,k)=>if(k==NameKind.free&&env.scope.kind==.function&&env.kindOf n==some .cell) then(n,NameKind.cell) else(n,k)).lookup x=some .free)->(x,NameKind.free)∈names
 | [],x,_,h=>by simp at h
 | (n,k) :: r,x,hc,h=>by
   have ih:=uy (scope:=scope) (env:=env) r x λy hy=>hc y (Im _ hy);rw[Ix] at h;by_cases hb:(k==NameKind.free&&env.scope.kind==.function&&env.kindOf n==some .cell)=true
   . have hkf:k=.free:=by rw[J4,J4] at hb;simpa using hb.1.1
     have e1:(if(k==NameKind.free&&env.scope.kind==.function&&env.kindOf n==some .cell)=true then(n,NameKind.cell) else(n,k))=(n,NameKind.cell):=Ig hb;simp only[e1,Jj] at h;cases hx:x==n with
     | true =>
       have hx':x=n:=by simpa using hx
       rw[hx',hkf];exact Ii
     | false =>
       rw[hx] at h;exact Im _ (ih h)
   . have e1:(if(k==NameKind.free&&env.scope.kind==.function&&env.kindOf n==some .cell)=true then(n,NameKind.cell) else(n,k))=(n,k):=IW hb;simp only[e1,Jj] at h;cases hx:x==n with
     | true =>
       have hx':x=n:=by simpa using hx
       rw[hx] at h;rcases h with h|h
       . exact absurd (Option.some.inj h) (hc (n,k) Ii)
       . have hkf:k=.free:=Option.some.inj h;rw[hx',hkf];exact Ii
     | false =>
       rw[hx] at h;exact Im _ (ih h)
variable {H:Hp}
theorem Un.sameBut {fs ex:List Addr} {H':Hp}{h h1 h2:Heap} {C:Addr} (u:Un fs ex H H' h h1) (hs:Heap.SameBut C h1 h2) (hC:h.objs.size<=C):Un fs ex H H' h h2:=by
 have ne:∀b o,h.get? b=some o->b≠C:=λb o e=>J8 (J1 (Ip e) hC);refine#[λb o e n hb hx=>(hs.2 b (ne b o e)).trans (u.keep b o e n hb hx),λb o e n hb hx=>?_,u.free,λb o e hx=>?_,u.tups,u.frzs,u.tbls]
 . obtain⟨sl,q⟩:=u.slot b o e n hb hx;exact#[sl,(hs.2 b (ne b o e)).trans q]
 . obtain⟨o',q⟩:=u.there b o e hx;exact#[o',(hs.2 b (ne b o e)).trans q]
theorem jF {α:Type} {t:Sem α} {Q Q':α->Shared->Prop} {M:Model} {A:Around} {E:Value->Shared->Prop} {s:Shared} (h:wpAny M A t Q (λ_ _=>False) s) (hQ:∀a s,Q a s->Q' a s):wpAny M A t Q' E s:=KS h hQ λ_ _ f=>f.elim
variable {elt target iter:Expr} {ifs:List Expr} {pos:Pos}
theorem HY {prog:Program} {w:World} {A:Around} {R:Result->Shared->Prop} {s:Shared} {it acc:Value} {env:Env} (I:Nat->Shared->Prop)
   (turn:∀n s,I n s->wpAny (model prog w) A (pyNext it) (λr s₁=>match r with
     | none=>R (.ok .next) s₁
     | some v=>wpAny (model prog w) A (letOwnedTupleGo target it v) (λ_ s₂=>wpAny (model prog w) A (assign target env v) (λ_ s₃ =>
         wpAny (model prog w) A (forIn ifs true λc r=>if r=true then do let ok <- isTrue c env (eval c env); pure (ForInStep.yield ok) else pure (ForInStep.yield r)) (λok s₄ =>
           if ok=true then wpAny (model prog w) A (eval elt env) (λx s₅ =>
             wpAny (model prog w) A (call (.builtin "list.append") [acc,x]) (λ_ s₆=>∃m,m<n/\I m s₆) (λ_ _=>False) s₅) (λ_ _=>False) s₄
           else ∃m,m<n/\I m s₄) (λ_ _=>False) s₃) (λ_ _=>False) s₂) (λ_ _=>False) s₁) (λ_ _=>False) s)
   (n:Nat) (h:I n s):codeAny (model prog w) A (.compLoop (.ListComp elt [#[target,iter,ifs,0]] scope pos) 0 it acc env) R s:=by
 refine codeAny_loop rfl I (λn s hI=>?_) n h;show wpAny _ A ((compTurn (.ListComp elt [#[target,iter,ifs,0]] scope pos) 0 it acc env).onRaise (λx=>do noteFrame x env; theTreesLotGoes x)) _ _ s;refine wpAny_noted ?_;rw[compTurn_list];refine IU (LZ (IU (jF (turn n s hI) λr s₁ h₁=>?_)));cases r with
 | none=>exact Ie h₁
 | some v =>
   refine IU (jF h₁ λ_ s₂ h₂=>IU (jF h₂ λ_ s₃ h₃=>IU (jF h₃ λok s₄ h₄=>?_)));cases ok with
   | false=>exact Ie #[rfl,h₄]
   | true =>
     exact IU (IU (jF h₄ λx s₅ h₅=>IU (jF h₅ λ_ s₆ h₆=>Ie (Ie #[rfl,h₆]))))
noncomputable def jb (X:Cx) (ifs:List Expr) (t:TT):Prop :=
 ∀(pins:List (Addr×Obj)) (s:Shared) (σ:St) (H:Hp) (Q:Bool->Hp->Prop),Inv X pins σ H s->t σ H Q ->
   wpAny (model X.prog X.w) X.A (forIn ifs true λc r=>if r=true then do let ok <- isTrue c X.env (eval c X.env); pure (ForInStep.yield ok) else pure (ForInStep.yield r)) (TP X pins σ Q) X.xe s
noncomputable def BJ:TT:=λ_ H Q=>Q true H
variable {X:Cx}
theorem gK :jb X [] BJ:=λ_ _ _ H _ I h=>wpAny_tests_nil #[H,I,h]
theorem tN {c:Expr} {t:TT} (h:PT X c t):jb X [c] t:=λpins s σ H Q I hq=>wpAny_tests_one (h pins s σ H Q I hq)
noncomputable def ju (js:List (Option Nat)) (g:TG):Prop:=∀(x:V) (σ:St) (H:Hp) (Q:St->Hp->Prop),σ.length=js.length->g x σ H Q->g x σ H λσ' H'=>Q σ' H'/\σ'.length=js.length/\∀(i j:Nat),js[i]?=some (some j)->σ'[i]?=σ[i]?
noncomputable def lS (js:List (Option Nat)) (g:g8):Prop:=∀(x:List V) (σ:St) (H:Hp) (Q:St->Hp->Prop),σ.length=js.length->g x σ H Q->∀Q':St->Hp->Prop,(∀σ' H',Q σ' H'->σ'.length=js.length->(∀(i j:Nat),js[i]?=some (some j)->σ'[i]?=σ[i]?)->Q' σ' H')->g x σ H Q'
theorem ff {i:Nat} (h:js[i]?=some none:=by rfl):ju js (j3 i):=λx σ H Q hl q=>#[q,by rw[JZ]; exact hl,λk j e=>by rw[K3];intro z;subst z;rw[h] at e;cases e]
theorem uI :lS js rn:=λx σ H Q hl ⟨e,q⟩ Q' k=>#[e,k _ _ q hl λ_ _ _=>rfl]
theorem lN {i:Nat} {u:g8} (hu:lS js u) (h:js[i]?=some none:=by rfl):lS js (vE (j3 i) u):=λx σ H Q hl ⟨v,r,e,q⟩ Q' k=>#[v,r,e,by
 have hl':(σ.set i (some v)).length=js.length:=by rw[JZ]; exact hl
 exact hu r (σ.set i (some v)) H Q hl' q _ λσ' H' z1 z2 z3=>k σ' H' z1 z2 λn j e=>(z3 n j e).trans (by rw[K3];intro z;subst z;rw[h] at e;cases e)]
theorem ux {K:W.Frag} {n:Nat} {t:g8} (h:lS js t):ju js (mr K n t):=λx σ H Q hl ⟨a,xs,e,sq,l,q⟩=>#[a,xs,e,sq,l,h xs σ H Q hl q _ λσ' H' z1 z2 z3=>#[z1,z2,z3]]
noncomputable def gy (J:It) (g:TG) (tif:TT) (te:TE) (js:List (Option Nat)) (σ:St) (Q:VK) (p:Addr) (H1:Hp):Prop :=
 ∃W:Nat->Nat->List V->Hp->Prop,(∃m,W 0 m [] (upd H1 p (.lst [])))/\∀i m acc H2,W i m acc H2->H2 p=some (.lst acc) /\
   ((J.stop i H2/\Q (.ref p) H2)\/(J.go i H2/\acc.length<sizeLine/\∃N:List V->Hp->Prop,(∀acc' H',N acc' H'->∃m',m'<m/\W (i+1) m' acc' H') /\
     ∀x H',J.yld i H2 x H'->g x (cO js σ) H' λσ2 H3=>tif σ2 H3 λc H4 =>
       if c=true then te σ2 H4 λy H5=>H5 p=some (.lst acc)/\N (acc++[y]) (upd H5 p (.lst (acc++[y]))) else N acc H4))
noncomputable def qX (wi:TI) (g:TG) (tif:TT) (te:TE) (js:List (Option Nat)):TE:=λσ H Q=>wi σ H λJ H1=>∀p,H1 p=none->gy J g tif te js σ Q p H1
variable {wi:TI} {tif:TT} {te:TE}
theorem wK {use:Option (Value->Sem Unit)} {Q':Value->Shared->Prop} {Q:VK} {pins:List (Addr×Obj)} {s:Shared} {σ:St} {g:TG} (hok:jm scope X.env.scope N' X.N js=true) (hc:X.calm=true)
   (hi:PI X target iter wi) (ho:ju js g) (hg:∀C s H fp,PG (dF X N' scope C s H fp) target g) (hif:∀C s H fp,jb (dF X N' scope C s H fp) ifs tif) (he:∀C s H fp,PE (dF X N' scope C s H fp) elt te)
   (hs:∀x,foldedSetIterable iter X.env x=pure x) (I:Inv X pins σ H s) (h:qX wi g tif te js σ H Q)
   (hfin:∀(s2:Shared) (H2:Hp) (fp:List Addr) (C:Addr),Inv X pins σ H2 s2->(∀b∈fp,eo X pins H2 b)->s2.heap.objs.size<=C->∀(σ':St) (H':Hp) (s':Shared),Inv (dF X N' scope C s2 H2 fp) [] σ' H' s'->Q (.ref s2.heap.objs.size) H' ->
     compPost (model X.prog X.w) X.A X.xe use Q' (.ref s2.heap.objs.size) C (.ok .next) s') :
   wpAny (model X.prog X.w) X.A (comprehension (.ListComp elt [#[target,iter,ifs,0]] scope pos) scope X.env (firstIterPos [#[target,iter,ifs,0]] pos) (newList []) false (eval iter X.env) use) Q' X.xe s:=by
 have O:=DO hok;have hfr:∀y∈scope.names,y.2=.free->∃c,X.env.cells.lookup y.1=some c:=λy hy e=>I.ok.has y.1 (O.free y hy e);refine wpAny_comprehension_free (use:=use) rfl hs (D3 hfr) O.kind O.names (am (hi pins s σ H _ I h) λv s1 h1=>am h1 λitv s2 h2=>?_);obtain⟨it,fp,tn,J,H2,e,I2,T,st2,f2,hq⟩:=h2;subst e;have hf0:H2 s2.heap.objs.size=none:=I2.hok.fresh (Ib _);obtain⟨W,⟨m0,w0⟩,turn⟩:=hq _ hf0;refine Jq (wpAny_newFunctionEnv O.nocell (by intro y hy; simp at hy) (λh₁ hns₁ hsb₁=>?_) O.kind);dsimp only at hns₁ hsb₁ ⊢;generalize hH2:s2.heap.push { cls:=.type "list",dict:=none,data:=.seq ([]:List Value).toArray }=B at hns₁ hsb₁ ⊢;have hC:B.objs.size=s2.heap.objs.size+1:=by rw[<- hH2,Jf]
 have hCle:s2.heap.objs.size<=B.objs.size:=by rw[hC]; exact Kf _
 have old:∀b o,s2.heap.get? b=some o->h₁.get? b=some o:=λb o e=>hsb₁.extBut b o (by rw[hC]; exact J8 (Nat.lt_succ_of_lt (Ip e))) (IZ _ (hH2 ▸ IZ _ e));have hDC:s2.heap.objs.size≠B.objs.size:=by rw[hC]; exact J8 (Jt _)
 have hacc:h₁.get? s2.heap.objs.size=some { cls:=.type "list",dict:=none,data:=.seq ([]:List Value).toArray }:=hsb₁.extBut _ _ hDC (IZ _ (hH2 ▸ Iz _ rfl));have fpO:∀b∈fp,b<s2.heap.objs.size:=λb hb=>by obtain⟨o,e,_⟩:=T.obj 0 _ st2 b hb;exact Ip e
 have sub:∀x c,(df scope.names X.env.cells []).lookup x=some c->X.env.cells.lookup x=some c:=pS scope.names [] hfr (λx c e=>by cases e);have hasC:∀x,((relabel scope X.env).names.lookup x=some .cell\/(relabel scope X.env).names.lookup x=some .free)->∃c,(df scope.names X.env.cells []).lookup x=some c:=λx hx =>
   KO.mp (qK scope.names [] (uy (scope:=scope) (env:=X.env) scope.names x O.nocell hx))
 -- the block's context at its begin
 have IY:∀t,Inv (dF X N' scope B.objs.size s2 H2 fp) [] (cO js σ) (upd H2 s2.heap.objs.size (.lst [])) { s2 with heap:=h₁,toks:=t }:=by
   intro t;refine#[#[I2.ok.mod,O.kind,I2.ok.glob,I2.ok.blt,hCle,λx y c h1 h2=>I2.ok.inj x y c (sub x c h1) (sub y c h2),λx hx=>hasC x hx,λx c h=>(by cases h),I2.ok.hd,I2.ok.frames,.inl rfl,λb hb=>#[J8 (J1 (fpO b hb) hCle),λx c e=>(f2 b hb).2.2.2.2.1 x c (sub x c e)],
     I2.bs,J7 I2.ok.bsz I2.sz,λb o e hb=>?_,λb hb z=>?_,I2.stack,I2.stkFree],rfl,I2.bare,Un.laid old (Ib _) hf0,#[_,hns₁,λi x v e1 e2 e3=>?_],λx c e=>?_,?_,λx c e=>?_,λp hp=>absurd (show p∈([]:List (Addr×Obj)) from hp) (by simp),?_,?_]
   . rcases (f2 b hb).2.2.2.1 with z|z
     . exact I2.ok.noex b o e z
     . exact absurd (J1 (J1 (Ip e) I2.ok.bsz) z) (JN _)
   . rcases Io.mp (I2.stkSub b z) with q|q
     . exact(f2 b hb).2.1 q
     . exact(f2 b hb).2.2.1 q
   . have e1:N'[i]?=some x:=e1;unfold cO at e2;rw[Iu] at e2;cases q:js[i]? with
     | none=>rw[q] at e2; cases e2
     | some o =>
       rw[q] at e2;cases o with
       | none=>cases e2
       | some j =>
         have e2:(σ[j]?).join=some v:=by simpa using e2
         have e2':σ[j]?=some (some v):=by
           cases z:σ[j]? with
           | none=>rw[z] at e2; cases e2
           | some a=>rw[z] at e2; cases a with
             | none=>cases e2
             | some a=>cases e2; rfl
         obtain⟨hN,hk,hsf⟩:=O.slots i j x q e1;obtain⟨m,hn,hl⟩:=I2.loc;obtain⟨u,r,l⟩:=hl j x v hN e2' (.inr hk);refine#[u,r,?_];have hkX:X.env.kindOf x=some .cell\/X.env.kindOf x=some .free:=hk;rcases l with⟨k,_⟩|⟨k,c,hc',hcell⟩
         . rcases hkX with z|z
           . rw[k] at z; cases z
           . rw[k] at z; cases z
         . have hky:(relabel scope X.env).names.lookup x=some .cell\/(relabel scope X.env).names.lookup x=some .free:=u3 (env:=X.env) scope.names x hsf;obtain⟨c2,hc2⟩:=hasC x hky;have:c2=c:=by have:=sub x c2 hc2;rw[hc'] at this;exact(Option.some.inj this).symm
           subst this;obtain⟨ob,ho,hd⟩:=hcell;exact .inr #[hky,c2,hc2,ob,old _ _ ho,hd]
   . obtain⟨v,ob,ho,hd⟩:=I2.cell x c (sub x c e);exact#[v,ob,old _ _ ho,hd]
   . show upd H2 s2.heap.objs.size (.lst []) B.objs.size=none;rw[aw (Ne.symm hDC)];exact I2.hok.fresh hCle
   . obtain⟨v,ob,ho,hd⟩:=I2.cell x c (sub x c e);rw[aw (J8 (Ip ho))];exact I2.freeC x c (sub x c e)
   . exact I2.hok.laid old (Ib _) #[J2 _,[],0,.nil,hacc]
   . unfold cO;rw[IX];exact O.len
 have hcl:(cO js σ).length=js.length:=by unfold cO; rw[IX]
 have fin:∀{σ':St} {H':Hp} {s':Shared},Inv (dF X N' scope B.objs.size s2 H2 fp) [] σ' H' s'->Q (.ref s2.heap.objs.size) H'->compPost (model X.prog X.w) X.A X.xe use Q' (.ref s2.heap.objs.size) B.objs.size (.ok .next) s' :=
   λ{σ' H' s'} J q=>hfin s2 H2 fp B.objs.size I2 f2 hCle σ' H' s' J q
 have loop:∀t,codeAny (model X.prog X.w) X.A (.compLoop (.ListComp elt [⟨target,iter,ifs,0⟩] scope pos) 0 (.ref it) (.ref s2.heap.objs.size) (compEnvC scope (df scope.names X.env.cells []) B.objs.size X.env))
     (compPost (model X.prog X.w) X.A X.xe use Q' (.ref s2.heap.objs.size) B.objs.size) { s2 with heap:=h₁,toks:=t }:=by
   intro t;have stat:∀{H':Hp},(∀b∈fp,H' b=none)->∀b∈fp,eo (dF X N' scope B.objs.size s2 H2 fp) [] H' b:=λhn b hb =>
     #[hn b hb,J8 (J1 (fpO b hb) hCle),(IY t).ok.exfs b hb,.inl hb,λx c e=>((IY t).ok.exf b hb).2 x c e,λp hp=>absurd (show p∈([]:List (Addr×Obj)) from hp) (by simp)]
   refine HY (λn s'=>∃i acc H',Inv (dF X N' scope B.objs.size s2 H2 fp) [] (cO js σ) H' s'/\tn i s'.heap/\(∀b∈fp,H' b=none)/\W i n acc H') ?_ m0
     #[0,[],_,IY t,T.keep 0 _ _ st2 (λb _ o e=>old b o e),λb hb=>by rw[aw (J8 (fpO b hb))]; exact(f2 b hb).1,w0]
   rintro n s3 ⟨i,acc,H3,I3,st3,fr3,w3⟩;obtain⟨hD,turn⟩:=turn i n acc H3 w3;rcases turn with⟨stop,qn⟩|⟨go,hlen,N,hN,step⟩
   . refine am (T.done (dF X N' scope B.objs.size s2 H2 fp) rfl rfl rfl hc i [] s3 (cO js σ) H3 (λ_ _=>False) I3 (stat fr3) st3 stop) λr s4 ⟨hr,I4⟩=>?_;subst hr;exact fin I4 qn
   . refine am (T.item (dF X N' scope B.objs.size s2 H2 fp) rfl rfl rfl hc i [] s3 (cO js σ) H3 (λ_ _=>False) I3 (stat fr3) st3 go) λr s4 ⟨u,hr,h4⟩=>?_;subst hr;refine am h4 λ_ s5 ⟨x,H5,I5,r5,y5,st5,fr5⟩=>?_;have I5':=I5.pinned (stat fr5) (T.obj _ _ st5);refine am (hg _ _ _ _ _ s5 (cO js σ) H5 x u _ I5' r5 (ho x (cO js σ) H5 _ hcl (step x H5 y5))) λ_ s6 ⟨σ6,H6,I6,q6,hl6,hk6⟩=>?_;refine am (hif _ _ _ _ _ s6 σ6 H6 _ I6 q6) λok s7 ⟨H7,I7,q7⟩=>?_;have again:∀{H8:Hp} {acc8:List V} {s8:Shared},Inv (dF X N' scope B.objs.size s2 H2 fp) ([]++jZ fp s5.heap) σ6 H8 s8->N acc8 H8 ->
         ∃m,m<n/\∃i acc H',Inv (dF X N' scope B.objs.size s2 H2 fp) [] (cO js σ) H' s8/\tn i s8.heap/\(∀b∈fp,H' b=none)/\W i m acc H':=by
       intro H8 acc8 s8 I8 n8;obtain⟨m',hm,w8⟩:=hN acc8 H8 n8;refine#[m',hm,i+1,acc8,H8,?_,T.keep _ _ _ st5 λb hb o e=>(I8.pin (b,o) (J9 _ (J9 _ (mD hb e)))).1,λb hb=>?_,w8]
       . refine Inv.weak I8.unpinned (by rw[hl6,hcl]) λk v e=>?_;have e':=e;unfold cO at e;rw[Iu] at e;cases q:js[k]? with
         | none=>rw[q] at e; cases e
         | some o =>
           cases o with
           | none=>rw[q] at e; cases e
           | some j=>rw[hk6 k j q]; exact e'
       . obtain⟨o,e,d⟩:=T.obj _ _ st5 b hb;exact(I8.pin (b,o) (J9 _ (J9 _ (mD hb e)))).2.1
     cases ok with
     | false=>exact again I7 q7
     | true =>
       refine am (he _ _ _ _ _ s7 σ6 H7 _ I7 q7) λy s8 ⟨yv,H8,I8,r8,hD8,q8⟩=>?_;refine am (iX _ s8 σ6 H8 (.ref s2.heap.objs.size) [yv] (.ref s2.heap.objs.size) [y] (λ_ H9=>N (acc++[yv]) H9) I8 rfl (.cons r8 .nil) #[_,acc,yv,rfl,rfl,hD8,hlen,q8]) λ_ s9 ⟨_,H9,I9,_,q9⟩=>?_;exact again I9 q9
 exact codeAny_compStart_list (loop _) (T.self X.A 0 _ _ _ (T.keep 0 _ _ st2 (λb _ o e=>old b o e)) (loop _))
theorem fX {g:TG} (hok:jm scope X.env.scope N' X.N js=true) (hc:X.calm=true)
   (hi:PI X target iter wi) (ho:ju js g) (hg:∀C s H fp,PG (dF X N' scope C s H fp) target g) (hif:∀C s H fp,jb (dF X N' scope C s H fp) ifs tif) (he:∀C s H fp,PE (dF X N' scope C s H fp) elt te)
   (hs:∀x,foldedSetIterable iter X.env x=pure x:=by intro _; rfl):PE X (.ListComp elt [#[target,iter,ifs,0]] scope pos) (qX wi g tif te js):=by
 intro pins s σ H Q I h;rw[eval_ListComp];refine wK (use:=none) hok hc hi ho hg hif he hs I h λs2 H2 fp C I2 f2 hCle σ' H' s' J q=>?_;obtain⟨m,hn,_⟩:=J.loc;refine#[m,hn,λh' hs'=>#[.ref s2.heap.objs.size,H',?_,rfl,q]];refine I2.call' (s':={ s' with heap:=h' }) (ch:=fp) J.os (J.base.sameBut hs' hCle) (λb ob e=>?_) J.bare λb hb=>#[(f2 b hb).2.2.2.1,(f2 b hb).2.1,(f2 b hb).2.2.2.2.1,(f2 b hb).2.2.2.2.2]
 refine(J.hok b ob e).stay (λc w' hc q=>(hs'.2 c ?_).trans q) (λ_ q=>q) λ_ _ q=>q;have hfree:H' C=none:=J.free;intro hcC;rw[hcC] at hc;rcases hc with z|z
 . rw[<- z,hfree] at e; cases e
 . rw[hfree] at z; cases z
theorem wk {i:Nat} {y:Str} {py spos:Pos}{g:TG} (hN:X.N.Nodup) (hi':X.N[i]?=some y) (hx:jy X.env.scope y)
   (hok:jm scope X.env.scope N' X.N js=true) (hc:X.calm=true)
   (hi:PI X target iter wi) (ho:ju js g) (hg:∀C s H fp,PG (dF X N' scope C s H fp) target g) (hif:∀C s H fp,jb (dF X N' scope C s H fp) ifs tif) (he:∀C s H fp,PE (dF X N' scope C s H fp) elt te)
   (hsw:swapsWith (.ListComp elt [#[target,iter,ifs,0]] scope pos) (some (.Name y py)) spos.line X.env=pure true)
   (hs:∀x,foldedSetIterable iter X.env x=pure x:=by intro _; rfl) (hf:X.fn y=true\/X.env.scope.names.lookup y=some .local:=by first|exact .inl rfl|exact .inr rfl|assumption) :
   PS X (.Assign [.Name y py] (.ListComp elt [#[target,iter,ifs,0]] scope pos) spos) (na (qX wi g tif te js) (j3 i)):=by
 intro pins s σ H D I h;rw[exec_Assign_Name_used _ _ _ _ hsw];refine IU (LZ (IU ?_));show wpAny _ X.A (do let _ <- comprehension (.ListComp elt [⟨target,iter,ifs,0⟩] scope pos) scope X.env _ (newList []) false (eval iter X.env) (some (assign (.Name y py) X.env))) _ _ s;refine IU (am (wK (use:=some (assign (.Name y py) X.env)) (Q':=λ_ s'=>SP X pins D .next s') hok hc hi ho hg hif he hs I h λs2 H2 fp C I2 f2 hCle σ' H' s' J q=>?_) λ_ s' q=>?_)
 . obtain⟨m,hn,_⟩:=J.loc;have I3:Inv X pins σ H' s':=I2.call' (ch:=fp) J.os J.base J.hok J.bare λb hb=>#[(f2 b hb).2.2.2.1,(f2 b hb).2.1,(f2 b hb).2.2.2.2.1,(f2 b hb).2.2.2.2.2]
   have hCL:C≠X.env.locals:=λz=>absurd (J1 I2.lt hCle) (by rw[z]; exact JN _);have hCc:∀x c,X.env.cells.lookup x=some c->c≠C:=λx c e z=>by obtain⟨v,ob,ho,_⟩:=I2.cell x c e;exact absurd (J1 (Ip ho) hCle) (by rw[z]; exact JN _)
   have hCp:∀p∈X.pn++pins,p.1≠C:=λp hp z=>by have e:=(I2.pin p hp).1;exact absurd (J1 (Ip e) hCle) (by rw[z]; exact JN _)
   show wpAny _ X.A (assign (.Name y py) X.env (.ref s2.heap.objs.size)) _ _ s';refine wpAny_assign_Name (tt I3 hN hi' hx (v:=.ref s2.heap.objs.size) rfl (λs'' I4 ⟨a,hsb,ha⟩=>?_) hf);have hna:C≠a:=by
     rcases ha with z|z
     . rw[z]; exact hCL
     . exact(hCc _ _ z).symm
   refine#[m,hn.sameBut hsb hna,λh' hs'=>#[_,H',?_,q]];exact I4.turned (t':=s''.toks) (h':=h') (it:=C) (λb o hb e=>(hs'.2 b hb).trans e) J.free hCL (.inr (J7 I2.sz hCle)) hCc hCp
 . exact Ie (Ie q)
variable {p:Addr}
section
variable {g:TG} {tif:TT} {te:TE} {js:List (Option Nat)} {σ:St} {H:Hp} {Q:VK}
noncomputable def li (g:TG) (tif:TT) (te:TE) (σ:St) (p:Addr) (acc:List V) (N:List V->Hp->Prop) (x:V) (H:Hp):Prop :=
 g x σ H λσ2 H3=>tif σ2 H3 λc H4=>if c=true then te σ2 H4 λy H5=>H5 p=some (.lst acc)/\N (acc++[y]) (upd H5 p (.lst (acc++[y]))) else N acc H4
theorem qm {lo:Int} {n:Nat} (hn:n<=1000000) (Pv:Nat->List V->Hp->Prop) (h0:Pv 0 [] (upd H p (.lst [])))
   (hl:∀i acc H2,i<=n->Pv i acc H2->H2 p=some (.lst acc)/\acc.length<=i)
   (hs:∀i acc H2,i<n->Pv i acc H2->li g tif te (cO js σ) p acc (Pv (i+1)) (.int (lo+i)) H2) (hd:∀acc H2,Pv n acc H2->Q (.ref p) H2) :
   gy (gT lo n) g tif te js σ Q p H:=by
 refine#[λi m acc H=>m=n - i/\i<=n/\Pv i acc H,#[n,by simp,J2 _,h0],?_];rintro i m acc H2 ⟨rfl,hi,q⟩;obtain⟨q1,q2⟩:=hl i acc H2 hi q;refine#[q1,?_];by_cases hlt:i<n
 . refine .inr #[hlt,?_,Pv (i+1),λacc' H' p'=>#[n - (i+1),by omega,rfl,hlt,p'],λx H' y=>?_]
   . have:(1000000:Nat)<sizeLine:=by decide
     omega
   . obtain⟨e,y⟩:=y;subst e y;exact hs i acc _ hlt q
 . have e:i=n:=by omega
   subst e;exact .inl #[Ib _,hd acc H2 q]
theorem mo {K:W.Frag} {a:Addr} {xs:List V} (hn:xs.length<=1000000) (Pv:Nat->List V->Hp->Prop) (h0:Pv 0 [] (upd H p (.lst [])))
   (hl:∀i acc H2,i<=xs.length->Pv i acc H2->H2 p=some (.lst acc)/\acc.length<=i/\aJ K H2 a xs)
   (hs:∀i x acc H2,xs[i]?=some x->Pv i acc H2->li g tif te (cO js σ) p acc (Pv (i+1)) x H2) (hd:∀acc H2,Pv xs.length acc H2->Q (.ref p) H2) :
   gy (i6 K a) g tif te js σ Q p H:=by
 refine#[λi m acc H=>m=xs.length - i/\i<=xs.length/\Pv i acc H,#[xs.length,by simp,J2 _,h0],?_];rintro i m acc H2 ⟨rfl,hi,q⟩;obtain⟨q1,q2,q3⟩:=hl i acc H2 hi q;refine#[q1,?_];by_cases hlt:i<xs.length
 . refine .inr #[#[xs,xs[i],q3,by simp [hlt]],?_,Pv (i+1),λacc' H' p'=>#[xs.length - (i+1),by omega,rfl,hlt,p'],λx H' y=>?_]
   . have:(1000000:Nat)<sizeLine:=by decide
     omega
   . obtain⟨e,y⟩:=y;subst e;exact hs i x acc _ (y xs q3) q
 . have e:i=xs.length:=by omega
   subst e;exact .inl #[#[xs,q3,Ib _],hd acc H2 q]
theorem FZ {K:W.Frag} {a:Addr} {xs:List V} (hn:xs.length<=1000000) (Pv:Nat->List V->Hp->Prop) (h0:Pv 0 [] (upd H p (.lst [])))
   (hl:∀i acc H2,i<=xs.length->Pv i acc H2->H2 p=some (.lst acc)/\acc.length<=i/\aF K H2 a xs)
   (hs:∀i x acc H2,xs[i]?=some x->Pv i acc H2->li g tif te (cO js σ) p acc (Pv (i+1)) x H2) (hd:∀acc H2,Pv xs.length acc H2->Q (.ref p) H2) :
   gy (jK K a) g tif te js σ Q p H:=by
 refine#[λi m acc H=>m=xs.length - i/\i<=xs.length/\Pv i acc H,#[xs.length,by simp,J2 _,h0],?_];rintro i m acc H2 ⟨rfl,hi,q⟩;obtain⟨q1,q2,q3⟩:=hl i acc H2 hi q;refine#[q1,?_];by_cases hlt:i<xs.length
 . refine .inr #[#[xs,xs[i],q3,by simp [hlt]],?_,Pv (i+1),λacc' H' p'=>#[xs.length - (i+1),by omega,rfl,hlt,p'],λx H' y=>?_]
   . have:(1000000:Nat)<sizeLine:=by decide
     omega
   . obtain⟨e,y⟩:=y;subst e;exact hs i x acc _ (y xs q3) q
 . have e:i=xs.length:=by omega
   subst e;exact .inl #[#[xs,q3,Ib _],hd acc H2 q]
end
section
variable {X:Cx}
theorem GW {h:Heap} {sl:Addr} {vl vu:Value} {lo hi:Option Int} (hs:h.IsSliceOf sl vl vu .none) (pl:IsPart vl lo) (pu:IsPart vu hi):∃l u:Option (Int×Tok),l.map (·.1)=lo/\u.map (·.1)=hi/\h.IsSlice sl l u none:=by
 obtain⟨o,ho,hc,hd⟩:=hs;cases pl with
 | none =>
   cases pu with
   | none=>exact#[none,none,rfl,rfl,o,ho,hc,hd]
   | int j t=>exact#[none,some (j,t),rfl,rfl,o,ho,hc,hd]
 | int i t =>
   cases pu with
   | none=>exact#[some (i,t),none,rfl,rfl,o,ho,hc,hd]
   | int j t'=>exact#[some (i,t),some (j,t'),rfl,rfl,o,ho,hc,hd]
noncomputable def BU:V->Option Int->Option Int->Hp->VK->Prop:=λx lo hi H Q=>∃z,x=.str z/\z.length<=sizeLine/\Q (.str (Txt.slice z lo hi)) H
theorem wQ:fj X BU:=by
 intro pins s σ H x v vl vu lo hi sl Q I rx hs pl pu h;obtain⟨z,rfl,hz,q⟩:=h;obtain⟨t,rfl⟩:=rx;obtain⟨l,u,rfl,rfl,hsl⟩:=GW hs pl pu;refine#["str",_,F.slot_str_getitem.lookup,typeIs_str _ _ _,wpAny_getItem_str_slice (l:=l) (u:=u) (st:=none) hsl rfl
   (post_val_or_str #[J7 (Txt.slice_le z _ _) hz,λt' k=>#[.str (Txt.slice z (l.map (·.1)) (u.map (·.1))),H,I.tok _,#[_,rfl],q]])]
theorem Ar {ys:List Str}:∀{us:List Value},ax (ys.map V.str) us->StrsAre us ys:=by
 induction ys with
 | nil=>intro us h; cases h; exact .nil
 | cons y r ih =>
   intro us h;cases h with
   | cons r1 h =>
     obtain⟨t,rfl⟩:=r1;exact .cons y t (ih h)
noncomputable def DR (K:W.Frag):V->List V->Hp->VK->Prop:=λx xs H Q=>∃sep p ys,x=.str sep/\xs=[.ref p]/\aJ K H p (ys.map V.str)/\(ys.map (·.length)).sum+ys.length * sep.length<=16777216/\Q (.str (Txt.join sep ys)) H
theorem C3:lr X "str.join" (DR X.K):=by intro pins s σ H x xs v us Q I rx r h;obtain⟨sep,p,ys,rfl,rfl,hp,hl,q⟩:=h;obtain⟨t,rfl⟩:=rx;obtain⟨u,rfl,ru⟩:=gY r;cases (show u=Value.ref p from ru);obtain⟨its,rv,pl,hz⟩:=I.list hp;exact join_list pl.isList (by simpa using Ar rv) hl λt' k=>#[.str (Txt.join sep ys),H,I.tok _,#[_,rfl],q]
theorem lX:bt X (.builtin "isinstance") (λxs H Q=>∃x c t b,xs=[x,.ty c]/\TyOf X.K H x t/\PySem.W.kitOne X.K t (.type c)=some b/\Q (.bl b) H):=by intro pins s σ H xs us Q I r h;obtain⟨x,c,t,b,rfl,ty,hk,q⟩:=h;obtain⟨u,w',rfl,rx,rc⟩:=HJ r;cases (show w'=Value.type c from rc);exact BN I rx ty hk λtk=>#[.bl b,H,I.tok _,rfl,q]
end
noncomputable def ji:Expr->Option V
 | .Constant (.str x) _ _=>some (.str x)
 | .Constant (.int i) _ _=>some (.int i)
 | .Constant (.bool b) _ _=>some (.bl b)
 | .Constant .none _ _=>some .non
 | _=>none
noncomputable def mH:List Expr->Option (List V)
 | []=>some []
 | e :: r=>match ji e,mH r with
   | some v,some vs=>some (v :: vs)
   | _,_=>none
theorem ED {e:Expr} {v:V} (h:ji e=some v):PE X e (tC v):=by
 unfold ji at h;split at h
 . cases h; exact aS
 . cases h; exact aD
 . cases h; exact dL
 . cases h; exact eK
 . cases h
theorem Am {e:Expr} {es:List Expr} {v:V} (h:ji e=some v):starEach (e :: es) X.env=(false,eval e X.env) :: starEach es X.env:=by unfold ji at h;split at h <;> first|rfl|cases h
theorem tU {X:Cx}:∀{es:List Expr} {vs:List V},mH es=some vs->PA X es (λ_ H Q=>Q vs H)
 | [],vs,h=>by cases h;exact aE
 | e :: r,vs,h=>by
   unfold mH at h;split at h
   . rename_i v vs' h1 h2
     cases h;exact aO (ED h1) (tU h2) (Am h1)
   . cases h
theorem aB.tup {K:W.Frag} {H H':Hp} {a:Addr} {xs:List V} (e:aB H H') (h:aF K H a xs):aF K H' a xs:=by
 rcases h with(h|⟨o,h⟩)|h
 . exact .inl (.inl (e _ _ h))
 . exact .inl (.inr #[o,e _ _ h])
 . exact .inr h
theorem aB.new {o:HO} (h:H p=none):aB H (upd H p o):=λb u e=>by rw[aw (cS e h)];exact e
theorem aB.upd {H':Hp}{o:HO} (e:aB H H') (h:H p=none):aB H (upd H' p o):=λb u q=>by rw[aw (cS q h)];exact e b u q
structure DefOk (K:W.Frag) (mg:Str->Option Value) (name:Str) (st:Stmt) (ps:List Str) (f:Addr) (fd:FuncData):Prop where
 F:Fun K name name st f fd
 g:mg name=some (.ref f)
 b:fH K fd ps []
section
variable {X:Cx} {k:Nat} {f:Addr} {fd:FuncData} {ps:List Str} {sp:Sp} {x:Str} {st:Stmt} {p pos:Pos} {e:Expr} {es:List Expr} {t:TA}
theorem bG (D:DefOk X.K X.mg x st ps f fd) (G:FnOk X.prog X.w X.K X.mg X.base CX0 k f fd ps sp) (hr:Room k X.A) (ha:PA X (e :: es) t) (hg:Gl X x:=by rfl)
   (hdb:(x==("__debug__":Str))=false:=by decide) (he:starEach (e :: es) X.env=(false,eval e X.env) :: starEach es X.env:=by rfl) (hpl:(backTo pos (starEach es X.env)).any (·.1)=false:=by rfl) :
   PE X (.Call (.Name x p) (e :: es) [] pos) (wy sp [] E0 t):=F8 G hr hg D.g D.F.kp D.b .nil cq ha hdb he hpl
theorem oS {z:Int} (h:∃t,X.mg x=some (.int z t)) (hg:Gl X x:=by rfl) (hd:(x==("__debug__":Str))=false:=by decide):PE X (.Name x pos) (tC (.int z)):=by obtain⟨t,h⟩:=h;exact sJ hg h #[t,rfl] hd
theorem iB {a:Addr} (h:X.mg x=some (.ref a)) (hg:Gl X x:=by rfl) (hd:(x==("__debug__":Str))=false:=by decide):PE X (.Name x pos) (tC (.ref a)):=sJ hg h rfl hd
end
theorem Bf {K:W.Frag} {mg:Str->Option Value} {h:Heap} {name:Str} {st:Stmt} {ps:List Str} {f:Addr} {oc:Value} {od an:Option Addr} {osl:Array (Option Value)} {kV doc pm cdv ct:Value} (X:K.In h) (G:h.Ns mainGlobals mg)
   (a:PySem.W.nsIn K mainGlobals name=some (some (.ref f))) (l:K.lookup f=some #[oc,od,.func (PySem.W.fnOf name name (d8 st) (bP st) (b6 st) .none kV doc pm an cdv ct),osl]) (c:PySem.W.codeIn K cdv name=true) (k:PySem.W.keepIn K (.ref f)=true)
   (b:∀(kV doc pm:Value) (an:Option Addr) (cdv ct:Value) (us:List Value),us.length=ps.length->bindArgs (PySem.W.fnOf name name (d8 st) (bP st) (b6 st) .none kV doc pm an cdv ct) #[us,[]]=pure (ps.zip us)) :
   DefOk K mg name st ps f (PySem.W.fnOf name name (d8 st) (bP st) (b6 st) .none kV doc pm an cdv ct) :=
 #[jH l c k,PySem.W.mg_of X G a,(jH l c k).binds b]
theorem sQ {α:Type} {xs:List α} {i:Int} (h0:0<=i) (h1:i<xs.length):∃v,bI xs i=some v/\v∈xs:=by
 have hi:i.toNat<xs.length:=by omega
 refine#[xs[i.toNat],?_,Ju hi];have:=c7 (xs:=xs) (j:=i.toNat) (v:=xs[i.toNat]) (by simp [hi]);have e:((i.toNat:Nat):Int)=i:=by omega
 rwa [e] at this
theorem zu {ns:List Int} {i:Int} (h0:0<=i) (h1:i<ns.length):∃z,bI (ns.map V.int) i=some (.int z):=by obtain⟨v,e,hv⟩:=sQ (xs:=ns.map V.int) h0 (by rw[IX]; exact h1);obtain⟨z,_,rfl⟩:=J3.mp hv;exact#[z,e]
theorem bD {p:Prop} [Decidable p] (h:decide p=true):p:=K1 h
theorem aP {c A B:Prop} [Decidable c] (hc:c) (h:A):if c then A else B:=by rw[Ig hc];exact h
theorem ak {c A B:Prop} [Decidable c] (hc:¬ c) (h:B):if c then A else B:=by rw[IW hc];exact h
end L2
namespace L2
open PySem
theorem ci:bootBuiltins "len"=some (.builtin "len"):=by decide +kernel
theorem mh:bootBuiltins "isinstance"=some (.builtin "isinstance"):=by decide +kernel
theorem nP:bootBuiltins "str"=some (.type "str"):=by decide +kernel
theorem iG:bootBuiltins "int"=some (.type "int"):=by decide +kernel
theorem BL:bootBuiltins "bool"=some (.type "bool"):=by decide +kernel
theorem i7:bootBuiltins "list"=some (.type "list"):=by decide +kernel
theorem kN:bootBuiltins "tuple"=some (.type "tuple"):=by decide +kernel
theorem lj:bootBuiltins "dict"=some (.type "dict"):=by decide +kernel
theorem Do:bootBuiltins "enumerate"=some (.type "enumerate"):=by decide +kernel
theorem vB:bootBuiltins "zip"=some (.type "zip"):=by decide +kernel
theorem AX {b:Bool} (h:b=false):¬ b=true:=by rw[h]; decide
end L2
namespace L2
open PySem PySem.Spec PyProof.Rows
mutual
noncomputable def bC (K:W.Frag) (H:Hp):PyData->V->Prop
 | .none,v=>v=.non
 | .bool b,v=>v=.bl b
 | .int i,v=>v=.int i
 | .str x,v=>v=.str x
 | .list ds,v=>∃a xs,v=.ref a/\aJ K H a xs/\bK K H ds xs
 | .tuple ds,v=>∃a xs,v=.ref a/\aF K H a xs/\bK K H ds xs
 | .dict _,_=>False
noncomputable def bK (K:W.Frag) (H:Hp):List PyData->List V->Prop
 | [],xs=>xs=[]
 | d :: ds,xs=>∃x r,xs=x :: r/\bC K H d x/\bK K H ds r
end
section
variable {X:Cx} {pins:List (Addr×Obj)} {σ:St} {H:Hp} {s:Shared}
mutual
theorem kF (I:Inv X pins σ H s):∀(d:PyData) (v:V) (u:Value),bC X.K H d v->bE v u->∃as,Reads s.heap u d as
 | .none,v,u,h,r=>by unfold bC at h;subst h;cases (show u=Value.none from r);exact#[_,.none]
 | .bool b,v,u,h,r=>by unfold bC at h;subst h;cases (show u=Value.bool b from r);exact#[_,.bool b]
 | .int i,v,u,h,r=>by
   unfold bC at h;subst h;obtain⟨t,rfl⟩:=(show ∃t,u=Value.int i t from r)
   exact#[_,.int i t]
 | .str x,v,u,h,r=>by
   unfold bC at h;subst h;obtain⟨t,rfl⟩:=(show ∃t,u=Value.str x t from r)
   exact#[_,.str x t]
 | .list ds,v,u,h,r=>by unfold bC at h;obtain⟨a,xs,rfl,hq,hd⟩:=h;cases (show u=Value.ref a from r);obtain⟨its,rv,⟨o,n,ho,hc,_,hdt⟩,_⟩:=I.list hq;obtain⟨as,ra⟩:=pj I ds xs its hd rv;exact#[_,.list ho hc hdt (by simpa using ra)]
 | .tuple ds,v,u,h,r=>by unfold bC at h;obtain⟨a,xs,rfl,hq,hd⟩:=h;cases (show u=Value.ref a from r);obtain⟨its,rv,⟨o,ho,hc,n,hdt⟩,_⟩:=I.tuple hq;obtain⟨as,ra⟩:=pj I ds xs its hd rv;exact#[_,.tuple ho hc hdt (by simpa using ra)]
 | .dict _,v,u,h,r=>by unfold bC at h;exact h.elim
theorem pj (I:Inv X pins σ H s):∀(ds:List PyData) (xs:List V) (us:List Value),bK X.K H ds xs->ax xs us->∃as,ReadsAll s.heap us ds as
 | [],xs,us,h,r=>by unfold bK at h;subst h;cases r;exact#[_,.nil]
 | d :: ds,xs,us,h,r=>by
   unfold bK at h;obtain⟨x,rest,rfl,hd,hds⟩:=h;cases r with
   | cons r1 r2 =>
     obtain⟨as,ra⟩:=kF I d _ _ hd r1;obtain⟨bs,rb⟩:=pj I ds _ _ hds r2;exact#[_,.cons ra rb]
end
end
noncomputable def j1 (K:W.Frag):R2:=λx y H Q=>∃d e,bC K H d x/\bC K H e y/\SeqAt.shaped d=true/\SeqAt.shaped e=true/\Q (.bl (PyData.eqv d e)) H
noncomputable def gL (K:W.Frag):R2:=λx y H Q=>∃d e,bC K H d x/\bC K H e y/\SeqAt.shaped d=true/\SeqAt.shaped e=true/\Q (.bl (!PyData.eqv d e)) H
variable {X:Cx}
theorem kO (hu:X.A.units+64<cLine):bT X (compareOp .Eq) (j1 X.K):=by intro pins s σ H x y v u Q I rx ry h;obtain⟨d,e,hd,he,sd,se,q⟩:=h;obtain⟨as,ra⟩:=kF I d x v hd rx;obtain⟨bs,rb⟩:=kF I e y u he ry;exact SeqAt.compareEq_shaped ra rb sd se hu #[.bl _,H,I,rfl,q]
theorem gS (hu:X.A.units+64<cLine):bT X (compareOp .NotEq) (gL X.K):=by intro pins s σ H x y v u Q I rx ry h;obtain⟨d,e,hd,he,sd,se,q⟩:=h;obtain⟨as,ra⟩:=kF I d x v hd rx;obtain⟨bs,rb⟩:=kF I e y u he ry;exact SeqAt.compareNe_shaped ra rb sd se hu #[.bl _,H,I,rfl,q]
theorem x3 :bT X (binaryOp .FloorDiv) (rI (λ_ j=>0<j/\j<2 ^ 64) λi j=>.int (i / j)):=kE λi j _ _ _ _ _ hc q=>by
 have h1:(0:Int)<j:=hc.1;have h2:j<2 ^ 64:=hc.2;refine floordiv_int (by omega) (by rw[L5 i (by omega)]; exact q) (.inl (PyProof.noPylong_of_log2 ?_));have h0:j.natAbs≠0:=by omega
 refine Nat.lt_trans (m:=64) ((Nat.log2_lt h0).mpr ?_) (by decide);have:(2:Int) ^ 64=((2 ^ 64:Nat):Int):=by decide
 omega
section
variable {κ:Type} [DecidableEq κ]
noncomputable def bN (kvs:List (κ×V)) (k:κ):Option V:=(kvs.find? λkv=>decide (kv.1=k)).map (·.2)
noncomputable def ao (kvs:List (κ×V)) (k:κ) (v:V):List (κ×V) :=
 if(kvs.any λkv=>decide (kv.1=k))=true then kvs.map (λkv=>if kv.1=k then(kv.1,v) else kv) else kvs++[(k,v)]
theorem fI {p:κ×V} {r:List (κ×V)} {k:κ} (e:p.1=k):bN (p :: r) k=some p.2:=by simp [bN,KB,e]
theorem fC {p:κ×V} {r:List (κ×V)} {k:κ} (e:¬ p.1=k):bN (p :: r) k=bN r k:=by simp [bN,KB,e]
theorem j8 (k:κ):∀kvs:List (κ×V),(kvs.any λkv=>decide (kv.1=k))=(bN kvs k).isSome
 | []=>rfl
 | p :: r=>by
   rw[Ki];by_cases e:p.1=k
   . simp only[fI e,IV e,Bool.true_or,Option.isSome_some]
   . rw[fC e,Ih e,Bool.false_or]; exact j8 k r
theorem uS (k j:κ) (y:V):∀kvs:List (κ×V),bN (kvs.map λkv=>if kv.1=k then(kv.1,y) else kv) j=(bN kvs j).map λx=>if j=k then y else x
 | []=>rfl
 | p :: r=>by
   have ih:=uS k j y r;rw[Ix];by_cases h:p.1=k
   . rw[Ig h];by_cases e:p.1=j
     . rw[fI (p:=(p.1,y)) e,fI e,Kp,Ig (e.symm.trans h)]
     . rw[fC (p:=(p.1,y)) e,fC e,ih]
   . rw[IW h];by_cases e:p.1=j
     . rw[fI (p:=p) e,fI e,Kp,IW (λz=>h (e.trans z))]
     . rw[fC (p:=p) e,fC e,ih]
theorem nc (k j:κ) (y:V):∀kvs:List (κ×V),bN kvs k=none->bN (kvs++[(k,y)]) j=if j=k then some y else bN kvs j
 | [],_=>by
   by_cases e:k=j
   . rw[Ig e.symm]; exact fI (p:=(k,y)) e
   . rw[IW (λz=>e z.symm)]; exact fC (p:=(k,y)) e
 | p :: r,hn=>by
   rw[List.cons_append];have hk:¬ p.1=k:=λz=>by rw[fI z] at hn; cases hn
   rw[fC hk] at hn;have ih:=nc k j y r hn;by_cases e:p.1=j
   . rw[fI e,fI e,IW (λz=>hk (e.trans z))]
   . rw[fC e,fC e,ih]
theorem valV_put (kvs:List (κ×V)) (k j:κ) (y:V):bN (ao kvs k y) j=if j=k then some y else bN kvs j:=by
 unfold ao;by_cases a:(kvs.any λkv=>decide (kv.1=k))=true
 . rw[Ig a,uS];rw[j8] at a;by_cases e:j=k
   . obtain⟨x,hx⟩:=KO.mp a;rw[Ig e,e,hx,Kp,Ig rfl]
   . rw[IW e];cases bN kvs j with
     | none=>rfl
     | some x=>rw[Kp,IW e]
 . rw[IW a];refine nc k j y kvs ?_;rw[j8] at a;cases q:bN kvs k with
   | none=>rfl
   | some x=>rw[q] at a; exact(a rfl).elim
theorem dh (kvs:List (κ×V)) (k:κ) (v:V):(ao kvs k v).length<=kvs.length+1:=by
 unfold ao;split
 . rw[IX]; omega
 . rw[Il,J6,KC]; omega
theorem qS {kvs:List (κ×V)} {k:κ} (v:V) (h:bN kvs k=none):ao kvs k v=kvs++[(k,v)]:=by unfold ao;rw[j8,h];exact IW (by decide)
theorem dB.isSome_eq {o:Option V} {u:Option Value} (r:dB o u):o.isSome=u.isSome:=by
 cases o with
 | none=>cases u with
   | none=>rfl
   | some _=>exact(show False from r).elim
 | some _=>cases u with
   | none=>exact(show False from r).elim
   | some _=>rfl
theorem dB.getD {o:Option V} {u:Option Value} {d:V} {d':Value} (r:dB o u) (rd:bE d d'):bE (o.getD d) (u.getD d'):=by
 cases o with
 | none=>cases u with
   | none=>exact rd
   | some _=>exact(show False from r).elim
 | some _=>cases u with
   | none=>exact(show False from r).elim
   | some _=>exact r
theorem KV.val {kvs:List (κ×V)} {vs:List (κ×Value)} (r:KV kvs vs) (k:κ):dB (bN kvs k) (valueAt vs k):=by
 unfold KV at r
 induction r with
 | nil=>exact True.intro
 | @cons p q ps qs h t ih =>
   obtain⟨h1,h2⟩:=h;by_cases e:p.1=k
   . have e':q.1=k:=h1.symm.trans e;have b:valueAt (q :: qs) k=some q.2:=by simp [valueAt,KB,e']
     rw[fI e,b]; exact h2
   . have e':¬ q.1=k:=λz=>e (h1.trans z);have b:valueAt (q :: qs) k=valueAt qs k:=by simp [valueAt,KB,e']
     rw[fC e,b]; exact ih
theorem KV.any {kvs:List (κ×V)} {vs:List (κ×Value)} (r:KV kvs vs) (k:κ):(kvs.any λkv=>decide (kv.1=k))=vs.any λkv=>decide (kv.1=k):=by
 unfold KV at r
 induction r with
 | nil=>rfl
 | cons h t ih=>rw[Ki,Ki,ih,h.1]
variable {u:Value} {y:V}
theorem KV.repl {kvs:List (κ×V)} {vs:List (κ×Value)} (r:KV kvs vs) (k:κ) (ry:bE y u) :
   KV (kvs.map λkv=>if kv.1=k then(kv.1,y) else kv) (vs.map λkv=>if kv.1=k then(kv.1,u) else kv):=by
 unfold KV at r ⊢
 induction r with
 | nil=>exact .nil
 | @cons p q ps qs h t ih =>
   rw[Ix,Ix];refine .cons ?_ ih;obtain⟨h1,h2⟩:=h;by_cases e:p.1=k
   . rw[Ig e,Ig (h1.symm.trans e)]; exact#[h1,ry]
   . rw[IW e,IW (λz=>e (h1.trans z))]; exact#[h1,h2]
theorem KV.put {kvs:List (κ×V)} {vs:List (κ×Value)} (r:KV kvs vs) (k:κ) (ry:bE y u):KV (ao kvs k y) (stored vs k u):=by
 unfold ao stored;rw[r.any k];by_cases e:(vs.any λkv=>decide (kv.1=k))=true
 . rw[Ig e,Ig e]; exact r.repl k ry
 . rw[IW e,IW e]; exact Paired.snoc r #[rfl,ry]
theorem KV.length {kvs:List (κ×V)} {vs:List (κ×Value)} (r:KV kvs vs):kvs.length=vs.length:=Paired.length r
end
variable {w:World}
theorem gq {P:Program} {k:aL} (r:bE (kV k) u):(cJ P w).is k u=true:=by
 cases k with
 | inl i=>obtain⟨t,e⟩:=(show ∃t,u=Value.int i t from r); subst e; exact Ev P w i t
 | inr x=>obtain⟨t,e⟩:=(show ∃t,u=Value.str x t from r); subst e; exact Eu P w x t
theorem tI {P:Program} {w:World}:∀{ks:List aL} {us:List Value},ax (ks.map kV) us->ItemsAre (cJ P w) ks us
 | [],_,r=>by rw[Ji] at r; cases r; exact .nil
 | k :: ks,_,r=>by
   rw[Ix] at r;cases r with
   | cons h t=>exact .cons (gq h) (tI t)
noncomputable abbrev KT (H:Hp):List (List aL×V)->List (List aL×Addr×Value)->Prop:=Paired λp q=>p.1=q.1/\H q.2.1=some (.tup (p.1.map kV))/\bE p.2 q.2.2
variable {H:Hp}
theorem KT.val {kvs:List (List aL×V)} {xs:List (List aL×Addr×Value)} (r:KT H kvs xs) (k:List aL):dB (bN kvs k) ((atKey xs k).map (·.2)):=by
 induction r with
 | nil=>exact True.intro
 | @cons p q ps qs h t ih =>
   obtain⟨h1,_,h2⟩:=h;by_cases e:p.1=k
   . have e':q.1=k:=h1.symm.trans e;have b:atKey (q :: qs) k=some q.2:=by simp [atKey,KB,e']
     rw[fI e,b]; exact h2
   . have e':¬ q.1=k:=λz=>e (h1.trans z);have b:atKey (q :: qs) k=atKey qs k:=by simp [atKey,KB,e']
     rw[fC e,b]; exact ih
theorem KT.repl {kvs:List (List aL×V)} {xs:List (List aL×Addr×Value)} (r:KT H kvs xs) (k:List aL) (ry:bE y u) :
   KT H (kvs.map λkv=>if kv.1=k then(kv.1,y) else kv) (xs.map (putAt k u)):=by
 induction r with
 | nil=>exact .nil
 | @cons p q ps qs h t ih =>
   rw[Ix,Ix];refine .cons ?_ ih;obtain⟨h1,h2,h3⟩:=h;unfold putAt;by_cases e:p.1=k
   . rw[Ig e,Ig (h1.symm.trans e)]; exact#[h1,h2,ry]
   . rw[IW e,IW (λz=>e (h1.trans z))]; exact#[h1,h2,h3]
theorem KT.put {kvs:List (List aL×V)} {xs:List (List aL×Addr×Value)} (r:KT H kvs xs) (k:List aL) {b:Addr} (hb:H b=some (.tup (k.map kV))) (ry:bE y u) :
   KT H (ao kvs k y) (storedH xs k b u):=by
 have e:(kvs.any λkv=>decide (kv.1=k))=(atKey xs k).isSome:=by rw[j8,(r.val k).isSome_eq,Option.isSome_map]
 unfold ao storedH;rw[e];by_cases q:(atKey xs k).isSome=true
 . rw[Ig q,Ig q]; exact r.repl k ry
 . rw[IW q,IW q]; exact Paired.snoc r #[rfl,hb,ry]
variable {H':Hp}
theorem KT.keeps {kvs:List (List aL×V)} {xs:List (List aL×Addr×Value)} (r:KT H kvs xs) (ht:∀b ys,H b=some (.tup ys)->H' b=some (.tup ys)):KT H' kvs xs :=
 Paired.mapP r λ_ _ z=>#[z.1,ht _ _ z.2.1,z.2.2]
section
variable {P:Program} {w:World} {H:Hp} {h:Heap} {a:Addr}
theorem vS {u:HO} (ok:c9 P w H h) (e:Rd H a u):cF P w H h a u:=e.ok ok
theorem im {kvs:List (aL×V)} (ok:c9 P w H h) (e:Rd H a (.dK kvs)):kvs.length<=sizeLine/\(a==sysModules)=false/\∃vs,KV kvs vs/\h.DictOf (cJ P w) a vs :=
 show cF P w H h a (.dK kvs) from vS ok e
theorem jo {kvs:List (aL×V)} (ok:c9 P w H h) (e:H a=some (.dK kvs)):kvs.length<=sizeLine/\(a==sysModules)=false/\∃vs,KV kvs vs/\h.DictOf (cJ P w) a vs:=im ok (.inl e)
theorem jW {ks:List aL} (ok:c9 P w H h) (e:H a=some (.tup (ks.map kV))):(tupleKind (cJ P w)).is h ks a:=by
 obtain⟨_,its,r,o,h1,h2,n,h3⟩:=(show cF P w H h a (.tup (ks.map kV)) from ok a _ e)
 exact#[o,its.toArray,n,h1,h2,h3,by simpa using tI r]
theorem iZ {kvs:List (List aL×V)} (ok:c9 P w H h) (e:Rd H a (.dT kvs)):kvs.length<=sizeLine/\(a==sysModules)=false /\
   ∃xs,KT H kvs xs/\h.DictOfH (tupleKind (cJ P w)) a xs:=by
 obtain⟨z,y,xs,r,o,es,ep,h1,h2,h3,h4,h5⟩:=(show cF P w H h a (.dT kvs) from vS ok e)
 refine#[z,y,xs,r,o,es,ep,h1,h2,h3,h4,λx hx=>?_,h5];have all:∀{l:List (List aL×V)} {m:List (List aL×Addr×Value)},KT H l m->∀x∈m,(tupleKind (cJ P w)).is h x.1 x.2.1:=by
   intro l m q
   induction q with
   | nil=>intro x hx; exact nomatch hx
   | @cons p q ps qs hq t ih =>
     intro x hx;rcases Io.mp hx with e|hx
     . subst e;exact jW ok (by rw[<- hq.1]; exact hq.2.1)
     . exact ih x hx
 exact all r x hx
theorem Dj {kvs:List (List aL×V)} (ok:c9 P w H h) (e:H a=some (.dT kvs)):kvs.length<=sizeLine/\(a==sysModules)=false /\
   ∃xs,KT H kvs xs/\h.DictOfH (tupleKind (cJ P w)) a xs:=iZ ok (.inl e)
end
noncomputable def d7 (H:Hp) (a:Addr) (y:V) (r:Option V):Prop :=
 (∃kvs k,Rd H a (.dK kvs)/\y=kV k/\r=bN kvs k)\/∃kvs k b,Rd H a (.dT kvs)/\y=.ref b/\H b=some (.tup (k.map kV))/\r=bN kvs k
noncomputable def dC (H:Hp) (a:Addr) (y v:V) (H':Hp):Prop :=
 (∃kvs k,H a=some (.dK kvs)/\y=kV k/\kvs.length<sizeLine/\H'=upd H a (.dK (ao kvs k v))) \/
 ∃kvs k b,H a=some (.dT kvs)/\y=.ref b/\H b=some (.tup (k.map kV))/\kvs.length<sizeLine/\H'=upd H a (.dT (ao kvs k v))
theorem d7.k {H:Hp} {a:Addr} {kvs:List (aL×V)} {k:aL} (e:H a=some (.dK kvs)):d7 H a (kV k) (bN kvs k):=.inl #[kvs,k,.inl e,rfl,rfl]
theorem dC.k {H:Hp} {a:Addr} {kvs:List (aL×V)} {k:aL} {v:V} (e:H a=some (.dK kvs)) (hl:kvs.length<sizeLine):dC H a (kV k) v (upd H a (.dK (ao kvs k v))):=.inl #[kvs,k,e,rfl,hl,rfl]
section
variable {X:Cx} {pins:List (Addr×Obj)} {σ:St} {H:Hp} {s:Shared} {a:Addr} {y v:V} {u r:Value} {o:Option V} {A:Around} {E:Value->Shared->Prop}
theorem Inv.big (I:Inv X pins σ H s):sysModules<s.heap.objs.size:=by have h:mainGlobals<s.heap.objs.size:=(I.mod.glob.keeps I.bk).lt;exact Nat.lt_trans (by decide) h
theorem CV {Q:Value->Shared->Prop} (hu:A.units+1<cLine) (I:Inv X pins σ H s) (g:d7 H a y (some v)) (ry:bE y u) (h:∀w' s',Inv X pins σ H s'->bE v w'->Q w' s') :
   wpAny (model X.prog X.w) A (getItem (.ref a) u) Q E s:=by
 rcases g with⟨kvs,k,e,ey,l⟩|⟨kvs,k,b,e,ey,eb,l⟩
 . subst ey;obtain⟨z,hd,vs,rel,dd⟩:=im I.hok e;obtain⟨w',hw,rw'⟩:=dB.some_of (v:=v) (o:=valueAt vs k) (by rw[l]; exact rel.val k);exact wpAny_getItem_of (gq ry) dd.mapOf hw (h w' _ (I.tok _) rw')
 . subst ey;cases (show u=Value.ref b from ry);obtain⟨z,hd,xs,rel,dd⟩:=iZ I.hok e;obtain⟨w',hw,rw'⟩:=dB.some_of (v:=v) (o:=(atKey xs k).map (·.2)) (by rw[l]; exact rel.val k);obtain⟨p,hp,hp2⟩:=Jd.mp hw;refine wpAny_getItem_heap (tupleKind_room_in1 hu) (jW I.hok eb) dd hp ?_;rw[hp2];exact h w' _ (I.tok _) rw'
theorem Hk {Q:Value->Shared->Prop} (hu:A.units+1<cLine) (I:Inv X pins σ H s) (g:d7 H a y o) (ry:bE y u) (h:∀s',Inv X pins σ H s'->Q (.bool o.isSome) s') :
   wpAny (model X.prog X.w) A (compareOp .In u (.ref a)) Q E s:=by
 rcases g with⟨kvs,k,e,ey,l⟩|⟨kvs,k,b,e,ey,eb,l⟩
 . subst ey;obtain⟨z,hd,vs,rel,dd⟩:=im I.hok e;refine wpAny_in_of (gq ry) hd dd.mapOf ?_;rw[<- (rel.val k).isSome_eq,<- l];exact h _ (I.tok _)
 . subst ey;cases (show u=Value.ref b from ry);obtain⟨z,hd,xs,rel,dd⟩:=iZ I.hok e;refine wpAny_in_heap (tupleKind_room_in1 hu) (jW I.hok eb) hd dd ?_;have q:=(rel.val k).isSome_eq;rw[Option.isSome_map] at q;rw[<- q,<- l];exact h _ (I.tok _)
theorem jc {h':Heap} {t':Nat} {ob:HO} (I:Inv X pins σ H s) (mu:kC (H a)) (hs:Heap.SameBut a s.heap h') (he:∃q,h'.get? a=some q) (new:cF X.prog X.w (upd H a ob) h' a ob) :
   Inv X pins σ (upd H a ob) { s with heap:=h',toks:=t' } :=
 I.write (x:=a) (e:=a) mu (.inl rfl) (λb q hb z=>(hs.2 b hb).trans z) he new
theorem mI {P:Program} {h':Heap} {kvs:List (aL×V)} {vs:List (aL×Value)} (z:kvs.length<=sizeLine) (hd:(a==sysModules)=false) (rel:KV kvs vs) (dd:h'.DictOf (cJ P w) a vs) :
   cF P w H' h' a (.dK kvs):=#[z,hd,vs,rel,dd]
theorem FI {Q:Unit->Shared->Prop} (hu:A.units+1<cLine) (I:Inv X pins σ H s) (g:dC H a y v H') (ry:bE y u) (rv:bE v r) (h:∀s',Inv X pins σ H' s'->Q () s') :
   wpAny (model X.prog X.w) A (setItem (.ref a) u r) Q E s:=by
 rcases g with⟨kvs,k,e,ey,l,eH⟩|⟨kvs,k,b,e,ey,eb,l,eH⟩
 . subst ey eH;obtain⟨z,hd,vs,rel,dd⟩:=jo I.hok e;have hz:vs.length<=sizeLine:=by rw[<- rel.length]; exact z
   have hl:(ao kvs k v).length<=sizeLine:=by have:=dh kvs k v; omega
   refine wpAny_setItem_pairs (hsz:=hz) (gq ry) dd λh' dd' hs=>h _ ?_;have he:∃q,h'.get? a=some q:=let ⟨q,_,_,hq,_⟩:=dd'; #[q,hq]
   exact jc I (by rw[e]; exact True.intro) hs he (mI hl hd (rel.put k rv) dd')
 . subst ey eH;cases (show u=Value.ref b from ry);obtain⟨z,hd,xs,rel,dd⟩:=Dj I.hok e;have hz:xs.length<=sizeLine:=by rw[<- Paired.length rel]; exact z
   have hl:(ao kvs k v).length<=sizeLine:=by have:=dh kvs k v; omega
   refine wpAny_setItem_heap (hsz:=hz) (tupleKind_room_in1 hu) (jW I.hok eb) dd λh' dd' hs=>h _ ?_;obtain⟨q,es,ep,hq,h2,h3,h4,_,h5⟩:=dd';refine jc I (by rw[e]; exact True.intro) hs #[q,hq] #[hl,hd,_,(rel.put k eb rv).keeps λc ys ec=>?_,q,es,ep,hq,h2,h3,h4,h5];rw[aw (fL ec e (λz=>nomatch z))];exact ec
end
noncomputable def wD (i:Expr):Prop:=∀ov iv,subscripted i false ov iv=operate [ov,iv] (getItem ov iv)
theorem Fh {prog:Program} {A:Around} {E:Value->Shared->Prop} {s:Shared} {env:Env} {value slice:Expr} {pos:Pos} {T id:String} {Q:Value->Shared->Prop}
   (hl:typeLookup (.type T) "__getitem__"=pure (some (.builtin id))) (hs:wD slice)
   (h:wpAny (model prog w) A (eval value env) (λo s₁=>wpAny (model prog w) A (eval slice env) (λi s₂=>s₂.TypeIs o T/\wpAny (model prog w) A (getItem o i) Q E s₂) E s₁) E s) :
   wpAny (model prog w) A (eval (.Subscript value slice pos) env) Q E s:=by
 refine Subscript_ (KS h (λo s₁ h₁=>KS h₁ (λi s₂ h₂=>?_) λ_ _ x=>x) λ_ _ x=>x);obtain⟨hT,h₂⟩:=h₂;unfold subscriptTail;refine IU ?_;rw[getitemInPython_of_ne hT.not_modules];refine IU (wpAny_specialOf hT hl ?_);have fin:wpAny (model prog w) A (subscripted slice false o i) (λr s₃=>wpAny (model prog w) A (letTemporaryGo value o r >>= λ_=>pure r) Q E s₃) E s₂:=by rw[hs o i];exact wpAny_operating (KS h₂ (λr s₃ h₃=>IU (wpAny_letTemporaryGo (Ie h₃))) λ_ _ x=>x)
 first
   | exact Ie (IU fin)
   | exact IU (Ie (IU fin))
   | exact IU fin
theorem Fp {pins:List (Addr×Obj)} {σ:St} {s:Shared} {a:Addr} {o:Option V} (I:Inv X pins σ H s) (g:d7 H a y o):s.TypeIs (.ref a) "dict":=by
 rcases g with⟨kvs,k,e,_,_⟩|⟨kvs,k,b,e,_,_,_⟩
 . obtain⟨_,_,vs,_,dd⟩:=im I.hok e;exact dd.typeIs
 . obtain⟨_,_,xs,_,dd⟩:=iZ I.hok e;exact dd.typeIs
noncomputable def Ai (td ty:TE):TE:=λσ H Q=>td σ H λx H1=>ty σ H1 λy H2=>∃a v,x=.ref a/\d7 H2 a y (some v)/\Q v H2
noncomputable def HM (ty td:TE):TE:=λσ H Q=>ty σ H λy H1=>td σ H1 λx H2=>∃a o,x=.ref a/\d7 H2 a y o/\Q (.bl o.isSome) H2
noncomputable def DI (td ty tv:TE):TS:=λD σ H=>tv σ H λv H1=>td σ H1 λx H2=>ty σ H2 λy H3=>∃a H4,x=.ref a/\dC H3 a y v H4/\D.nx σ H4
section
variable {X:Cx} {o i e value:Expr} {pos pos' tpos:Pos} {td ty tv:TE}
theorem fi (hu:X.A.units+1<cLine) (ho:PE X o td) (hi:PE X i ty) (hs:wD i):PE X (.Subscript o i pos) (Ai td ty):=by intro pins s σ H Q I h;refine Fh PySem.F.slot_dict_getitem.lookup hs (am (ho pins s σ H _ I h) λu s1 ⟨x,H1,I1,rx,q1⟩=>am (hi pins s1 σ H1 _ I1 q1) λiv s2 ⟨y,H2,I2,ry,a,v,ex,g,q2⟩=>?_);subst ex;obtain rfl:u=Value.ref a:=rx;exact#[Fp I2 g,CV hu I2 g ry λw' s3 I3 rw'=>#[v,H2,I3,rw',q2]]
theorem GK (hu:X.A.units+1<cLine) (hi:PE X i ty) (ho:PE X o td):PC X .In i o (HM ty td):=by intro pins s σ H Q I h;refine am (hi pins s σ H _ I h) λiv s1 ⟨y,H1,I1,ry,q1⟩=>am (ho pins s1 σ H1 _ I1 q1) λu s2 ⟨x,H2,I2,rx,a,ov,ex,g,q2⟩=>?_;subst ex;obtain rfl:u=Value.ref a:=rx;exact Hk hu I2 g ry λs3 I3=>#[.bl ov.isSome,H2,I3,rfl,q2]
theorem eQ (hu:X.A.units+1<cLine) (ho:PE X o td) (hi:PE X i ty) (hv:PE X value tv) (hs:swapsWith value (some (.Subscript o i pos')) pos.line X.env=pure false) :
   PS X (.Assign [.Subscript o i pos'] value pos) (DI td ty tv):=by
 intro pins s σ H D I h;refine wpAny_Assign_Subscript (am (hv pins s σ H _ I h) λr s1 ⟨v,H1,I1,rv,q1⟩=>am (ho pins s1 σ H1 _ I1 q1) λu s2 ⟨x,H2,I2,rx,q2⟩=>am (hi pins s2 σ H2 _ I2 q2) λiv s3 ⟨y,H3,I3,ry,a,H4,ex,g,q3⟩=>?_) hs;subst ex;obtain rfl:u=Value.ref a:=rx;exact FI hu I3 g ry rv λs4 I4=>#[σ,H4,I4,q3]
end
theorem nz {P:Program} (h:Heap) (hb:sysModules<h.objs.size):cF P w H (h.push { cls:=.type "dict",data:=.dict (List.toArray []) }) h.objs.size (.dK []) :=
 #[J2 _,beq_eq_false_iff_ne.mpr (Ne.symm (J8 hb)),[],.nil,Heap.DictOf.new h]
noncomputable def Fc:TE:=λ_ H Q=>∀p,H p=none->Q (.ref p) (upd H p (.dK []))
section
variable {X:Cx} {pos:Pos}
theorem gH:PE X (.Dict [] [] pos) Fc:=λpins s σ H Q I h =>
 wpAny_Dict_empty #[.ref s.heap.objs.size,_,I.laid (a:=s.heap.objs.size) (o:=.dK []) (t':=s.toks) (λ_ _ q=>IZ _ q) (Ib _) (nz s.heap I.big),rfl,h _ (I.hok.fresh (Ib _))]
end
structure M2 (X:Cx) (o:Expr) (m:Str) (apos:Pos) (e f:Expr) (cpos:Pos):Prop where
 base:attributeBase o m X.env (eval o X.env)=eval o X.env
 few:((backTo cpos (starEach [e,f] X.env)).all (λx=>!x.1)&&(backToKw cpos (keywordEach [] X.env)).all (λx=>x.1.isSome)
   && decide (([e,f]:List Expr).length+([]:List Keyword).length+(if([]:List Keyword).isEmpty then 0 else 1)<30))=true
 line:(apos.endLine==cpos.line)=true
 trees:backTo cpos (starEach [e,f] X.env)=[(false,eval e X.env),(false,eval f X.env)]
noncomputable def oC (H:Hp) (a:Addr):Prop:=(∃kvs,Rd H a (.dK kvs))\/∃kvs,Rd H a (.dT kvs)
theorem w9 {pins:List (Addr×Obj)} {σ:St} {s:Shared} {a:Addr} (I:Inv X pins σ H s) (d:oC H a) :
   s.TypeIs (.ref a) "dict"/\(∀b,Value.ref a=.ref b->∃ob,s.heap.get? b=some ob/\ob.dict=none)/\(a==sysModules)=false:=by
 rcases d with⟨kvs,e⟩|⟨kvs,e⟩
 . obtain⟨_,hd,vs,_,dd⟩:=im I.hok e;refine#[dd.typeIs,λb q=>?_,hd];cases q;obtain⟨ob,_,_,h1,h2,_⟩:=dd;exact#[ob,h1,h2.2.1]
 . obtain⟨_,hd,xs,_,dd⟩:=iZ I.hok e;refine#[dd.typeIs,λb q=>?_,hd];cases q;obtain⟨ob,_,_,h1,h2,_⟩:=dd;exact#[ob,h1,h2.2.1]
section
variable {X:Cx} {pins:List (Addr×Obj)} {σ:St} {H:Hp} {s:Shared} {a:Addr} {y d:V} {u r:Value} {o:Option V} {A:Around} {E:Value->Shared->Prop}
theorem FB {Q:Value->Shared->Prop} (hu:A.units+1<cLine) (I:Inv X pins σ H s) (g:d7 H a y o) (ry:bE y u) (rd:bE d r) (h:∀w' s',Inv X pins σ H s'->bE (o.getD d) w'->Q w' s') :
   wpAny (model X.prog X.w) A (call (.builtin "dict.get") [.ref a,u,r]) Q E s:=by
 rcases g with⟨kvs,k,e,ey,l⟩|⟨kvs,k,b,e,ey,eb,l⟩
 . subst ey;obtain⟨z,hd,vs,rel,dd⟩:=im I.hok e;refine call_meetsIn Kl dd.typeIs PySem.F.entry_dict_get (LP _ _ _) (meets_dict_get_default (cJ X.prog X.w) a (gq ry) hd r) #[_,dd.mapOf,h _ _ (I.tok _) ?_];rw[l];exact(rel.val k).getD rd
 . subst ey;cases (show u=Value.ref b from ry);obtain⟨z,hd,xs,rel,dd⟩:=iZ I.hok e;refine call_meetsIn Kl dd.typeIs PySem.F.entry_dict_get (LP _ _ _) (meetsH_dict_get_default (tupleKind (cJ X.prog X.w)) a b hd r) #[tupleKind_room_in1 hu,k,xs,jW I.hok eb,dd,h _ _ (I.tok _) ?_];rw[l];exact(rel.val k).getD rd
end
noncomputable def Bs (td ty tx:TE):TE:=λσ H Q=>td σ H λx H1=>∃a,x=.ref a/\oC H1 a/\ty σ H1 λy H2=>tx σ H2 λz H3=>∃o,d7 H3 a y o/\Q (o.getD z) H3
section
variable {X:Cx} {o e f:Expr} {apos cpos:Pos} {td ty tx:TE}
theorem oE (hu:X.A.units+1<cLine) (ho:PE X o td) (he:PE X e ty) (hf:PE X f tx) (m:M2 X o "get" apos e f cpos):PE X (.Call (.Attribute o "get" apos) [e,f] [] cpos) (Bs td ty tx):=by
 intro pins s σ H Q I h;refine wpAny_Call_method m.base m.few m.line KW Kl PySem.F.type_dict_get (am (ho pins s σ H _ I h) λu s1 ⟨x,H1,I1,rx,a,ex,d,q1⟩=>?_);subst ex;obtain rfl:u=Value.ref a:=rx;obtain⟨t1,t2,_⟩:=w9 I1 d;refine#[t1,t2,?_];rw[m.trees];refine Calls.callWith_builtin rfl (Calls.evalArgs_plain (Calls.spliced_cons (am (he pins s1 σ H1 _ I1 q1) λiv s2 ⟨y,H2,I2,ry,q2⟩ =>
   Calls.spliced_cons (am (hf pins s2 σ H2 _ I2 q2) λfv s3 ⟨z,H3,I3,rz,ov,g,q3⟩=>Calls.spliced_nil ?_))))
 exact FB hu I3 g ry rz λw' s4 I4 rw'=>#[_,H3,I4,rw',q3]
end
end L2
namespace PySem
theorem Fe:typeLookup (.type "list") "keys"=pure none:=by rw[typeLookup_type,builtinLookup_eq_fast]; kernel_rfl
theorem mR:entryFor table "dict.update.loop"=some Builtin.«dict.update.loop»:=entryFor_of_tree (by kernel_rfl)
theorem gw:plainId "dict.update.loop"=true:=by decide +kernel
theorem Ch {prog:Program} {w:World} {A:Around} {E:Value->Shared->Prop} {s:Shared} {a:Addr} {o:Obj} {xs:Array Value} {k:Nat} {Q:Option Value->Shared->Prop}
   (hx:s.heap.get? a=some o) (hc:o.cls=.type "list") (hdat:o.data=.seq xs k) (hd:o.dict=none) (hA:A.handled=none)
   (h:∀h' tk,(∀b ob,s.heap.get? b=some ob->h'.get? b=some ob)->Q none { s with heap:=h',toks:=tk }) :
   wpAny (model prog w) A (getAttr? (.ref a) "keys") Q E s:=by
 obtain⟨c,dct,dat,sl⟩:=o;simp only at hc hdat hd;subst hc hdat hd;obtain⟨hp,g,d,tk,os⟩:=s;have hT:∀tk',(⟨hp,g,d,tk',os⟩:Shared).TypeIs (.ref a) "list":=λ_=>#[_,hx,rfl]
 have f1:=sub_AttributeError;have f3:=KR.lookup;have f4:=KR.bind (.ref a);have f5:=am_list_getattr_none;unfold getAttr? getAttrBy? getAttrBy
 repeat (any_goals (first|assumption|exact hT _|((with_reducible show wpAny _ _ (call (Value.builtin "list.__getattribute__") _ _) _ _ _); refine call_meets KR (hT _) am_entry_list_getattribute (F.args_list_getattribute_2 _ _) (meets_getattribute_miss_list a xs k sl "keys" _ Fe (by decide +kernel) (by decide +kernel)) #[hx,hA,λh' tk' e hx'=>?_])|wp_step))
 obtain⟨t',u',he⟩:=hx'.there
 try (show wpAny _ _ (getattributeRaised _ _ _ _ _ _ _) _ _ _)
 try unfold getattributeRaised
 repeat (any_goals (first|assumption|wp_step))
 all_goals (first|exact h _ _ hx'.keeps|trace_state)
end PySem
namespace L2
open PySem PySem.Spec PyProof.Rows
section
variable {X:Cx} {pins:List (Addr×Obj)} {σ:St} {H:Hp}
theorem lU {α β:Type} {F:α->β->Prop}:∀{l:List α} {m:List β},Paired F l m->∀{i:Nat} (h1:i<l.length) (h2:i<m.length),F l[i] m[i]
 | _,_,.cons h _,0,_,_=>h
 | _,_,.cons _ t,i+1,h1,h2=>by have:=lU t (i:=i) (by simpa using h1) (by simpa using h2);simpa using this
theorem Fi {A:Around} {R:Result->Shared->Prop} {p D it:Addr} {ps:List Addr} {kvs:List (aL×V)} (hA:A.handled=none) (hpD:p≠D) (hS:aJ X.K H p (ps.map V.ref)) (hps:Paired (λa (kv:aL×V)=>aF X.K H a [kV kv.1,kv.2]) ps kvs)
   (hD:H D=none) (hz:kvs.length<=100000) (hit0:it≠D)
   (hR:∀s',Inv X pins σ (upd H D (.dK (kvs.foldl (λacc kv=>ao acc kv.1 kv.2) []))) s'->R (.ok (.ret .none)) s') :
   ∀(k i:Nat) (t:Tok) (s:Shared),kvs.length - i=k->i<=kvs.length->Inv X pins σ (upd H D (.dK ((kvs.take i).foldl (λacc kv=>ao acc kv.1 kv.2) []))) s->s.heap.IsListIter it p i ->
     (∀H',H' it=none->eo X pins H' it)->H it=none->codeAny (model X.prog X.w) A (.builtin "dict.update.loop" #[[.ref D,.ref it,.int (i:Nat) t,.none],[]]) R s:=by
 have sameD:∀o,aB H (upd H D o):=λo=>aB.new hD;have hlen:ps.length=kvs.length:=hps.length;have flen:∀(l:List (aL×V)) (acc:List (aL×V)),(l.foldl (λacc kv=>ao acc kv.1 kv.2) acc).length<=acc.length+l.length:=by
   intro l
   induction l with
   | nil=>intro acc; simp
   | cons x r ih =>
     intro acc;rw[KA];have h1:=ih (ao acc x.1 x.2);have h2:=dh acc x.1 x.2;simp only[J6];omega
 have big:(100000:Nat)<sizeLine:=by decide
 intro k
 induction k with
 | zero =>
   intro i t s hk hi I hit hfp hHit;have e:i=kvs.length:=by omega
   subst e;rw[JJ] at I;obtain⟨its,rv,pl,hz'⟩:=I.list ((sameD _).seq hS);obtain⟨f0,f1,f2,f3,f4,f5⟩:=hfp (upd H D (.dK (kvs.foldl (λacc kv=>ao acc kv.1 kv.2) []))) (by rw[aw hit0]; exact hHit);refine Kq mR ?_;rw[Around.under_plainId gw _];show wpAny _ A.in1 (pyNext (.ref it) >>= _) _ _ s;have hl:=rv.length;rw[IX] at hl;refine IU (wpAny_pyNext_list_end hA hit pl.isList (by simp; omega) λh' eb=>?_);have I1:Inv X pins σ (upd H D (.dK (kvs.foldl (λacc kv=>ao acc kv.1 kv.2) []))) { s with heap:=h' }:=I.turned (t':=s.toks) (λb o hb e=>eb b o hb e) f0 f1 f3 f4 f5;show wpAny _ _ (Builtin.Dict.addKeywords D [] >>= _) _ _ _;exact IU (Ie (Ie (hR _ I1)))
 | succ k ih =>
   intro i t s hk hi I hit hfp hHit;have hlt:i<kvs.length:=by omega
   obtain⟨its,rv,pl,hz'⟩:=I.list ((sameD _).seq hS);have hpi:(ps.map V.ref)[i]?=some (.ref (ps[i]'(by omega))):=by simp [show i<ps.length by omega]
   obtain⟨u,hu,ru⟩:=rv.get hpi;cases (show u=Value.ref _ from ru);obtain⟨f0,f1,f2,f3,f4,f5⟩:=hfp (upd H D (.dK ((kvs.take i).foldl (λacc kv=>ao acc kv.1 kv.2) []))) (by rw[aw hit0]; exact hHit);refine Kq mR ?_;rw[Around.under_plainId gw _];show wpAny _ A.in1 (pyNext (.ref it) >>= _) _ _ s;refine IU (wpAny_pyNext_list_item hit pl.isList (x:=.ref ps[i]) (by simpa using hu) λh' hit' sb=>?_);have I1:Inv X pins σ (upd H D (.dK ((kvs.take i).foldl (λacc kv=>ao acc kv.1 kv.2) []))) { s with heap:=h' }:=I.turned (t':=s.toks) (λb o hb e=>(sb.2 b hb).trans e) f0 f1 f3 f4 f5;have hpair:aF X.K H ps[i] [kV (kvs[i]).1,(kvs[i]).2]:=lU hps (by omega) hlt;obtain⟨its2,rv2,⟨o2,ho2,hc2,n2,hd2⟩,_⟩:=I1.tuple ((sameD _).tup hpair);cases rv2 with
   | cons r1 rr =>
     cases rr with
     | cons r2 rr =>
       cases rr
       rename_i ku vu
       refine IU (JO (IU (wpAny_tryCatch ?_)));show wpAny _ _ (Builtin.Dict.pairItems (.ref ps[i])) _ _ _;unfold Builtin.Dict.pairItems;refine IU (KE (T:="tuple") #[o2,ho2,hc2] ?_);rw[Ig (by decide)];refine IU ?_;show wpAny _ _ (load ps[i] >>= _) _ _ _;refine IU (wpAny_load ho2 ?_);rw[hd2];refine Ie (Ie ?_);show wpAny _ _ (holding [ku,vu] (dictSet D ku vu)) _ _ _;refine JO ?_;obtain⟨z,hd,vs,rel,dd⟩:=jo I1.hok aI;have hl1:=flen (kvs.take i) [];have hl2:(kvs.take i).length<=kvs.length:=by rw[JC]; omega
       simp only[KC,Nat.zero_add] at hl1;have hzv:vs.length<=sizeLine:=by rw[<- rel.length]; exact z
       refine wpAny_dictSet_pairs (hsz:=hzv) (gq r1) dd λh2 dd2 hs2=>?_;have he:∃q,h2.get? D=some q:=let ⟨q,_,_,hq,_⟩:=dd2; #[q,hq]
       have hl3:(ao ((kvs.take i).foldl (λacc kv=>ao acc kv.1 kv.2) []) (kvs[i]).1 (kvs[i]).2).length<=sizeLine:=by have:=dh ((kvs.take i).foldl (λacc kv=>ao acc kv.1 kv.2) []) (kvs[i]).1 (kvs[i]).2;omega
       have I2:=jc (t':=({ s with heap:=h' }:Shared).toks+1) I1 (by rw[aI]; exact True.intro) hs2 he (mI hl3 hd (rel.put (kvs[i]).1 r2) dd2);rw[om] at I2;have e3:(kvs.take (i+1)).foldl (λacc kv=>ao acc kv.1 kv.2) []=ao ((kvs.take i).foldl (λacc kv=>ao acc kv.1 kv.2) []) (kvs[i]).1 (kvs[i]).2:=by rw[Je,JG];simp [hlt]
       rw[<- e3] at I2;have hit2:h2.IsListIter it p (i+1):=by obtain⟨oi,hoi,ri⟩:=hit';exact#[oi,(hs2.2 it hit0).trans hoi,ri]
       refine Ie #[plainId_quiet gw _,?_];have:=ih (i+1) 0 _ (by omega) (by omega) I2 hit2 hfp hHit;exact this
end
section
variable {X:Cx}
noncomputable def FO (K:W.Frag):List V->Hp->VK->Prop:=λxs H Q=>∃(p:Addr) (ps:List Addr) (kvs:List (aL×V)),xs=[.ref p]/\aJ K H p (ps.map V.ref)/\Paired (λa (kv:aL×V)=>aF K H a [kV kv.1,kv.2]) ps kvs/\kvs.length<=100000 /\
 ∀d,H d=none->Q (.ref d) (upd H d (.dK (kvs.foldl (λacc kv=>ao acc kv.1 kv.2) [])))
theorem vf (hc:X.calm=true):bt X (.type "dict") (FO X.K):=by
 intro pins s σ H xs us Q I r h;obtain⟨p,ps,kvs,rfl,hS,hps,hz,q⟩:=h;obtain⟨u,rfl,ru⟩:=gY r;cases (show u=Value.ref p from ru);have hA:=I.ok.hd hc;have hD:H s.heap.objs.size=none:=I.hok.fresh (Ib _);obtain⟨its,rv,pl,_⟩:=I.list hS;have hplt:p<s.heap.objs.size:=pl.lt;have I0:Inv X pins σ (upd H s.heap.objs.size (.dK [])) { s with heap:=s.heap.push { cls:=.type "dict",data:=.dict (List.toArray []) } } :=
   I.laid (a:=s.heap.objs.size) (o:=.dK []) (t':=s.toks) (λ_ _ q=>IZ _ q) (Ib _) (nz s.heap I.big)
 refine callType_codes (Q₁:=λobj s₁=>obj=.ref s.heap.objs.size/\s₁={ s with heap:=s.heap.push { cls:=.type "dict",data:=.dict (List.toArray []) } }) PySem.F.kt_called_dict (L6 _) LQ (kt_code_dict_new _ #[rfl,rfl]) ?_;rintro obj s₁ ⟨rfl,rfl⟩;have hnew:(s.heap.push { cls:=.type "dict",data:=.dict (List.toArray []) }).DictOf (cJ X.prog X.w) s.heap.objs.size []:=Heap.DictOf.new s.heap;refine#[hnew.typeIs,LK _ _,?_];unfold Builtin.«dict.__init__»;refine IU ?_;unfold Builtin.Dict.selfAndRest;refine IU (wpAny_notOrdered_dict hnew.typeIs ?_);show wpAny _ _ (pure (s.heap.objs.size,[Value.ref p])) _ _ _;refine Ie ?_;show wpAny _ _ (Builtin.Dict.updateFrom "dict.__init__" s.heap.objs.size (.ref p) [] .none) _ _ _;unfold Builtin.Dict.updateFrom;obtain⟨o,n,ho,hcl,hdi,hda⟩:=pl;have ho1:(s.heap.push { cls:=.type "dict",data:=.dict (List.toArray []) }).get? p=some o:=IZ _ ho;refine IU (KE (T:="list") #[o,ho1,hcl] ?_);rw[Ig (by decide)];refine IU (Ch (s:={ s with heap:=s.heap.push { cls:=.type "dict",data:=.dict (List.toArray []) } }) ho1 hcl hda hdi hA λh' tk hk=>?_);have I1:Inv X pins σ (upd H s.heap.objs.size (.dK [])) { s with heap:=h',toks:=tk }:=I0.kept hk;rw[Ig (by rfl)];refine IU (Kr ?_);have ho2:h'.get? p=some o:=hk _ _ ho1;refine IU (K0 (s:={ s with heap:=h',toks:=tk }) (items:=its.toArray) #[o,ho2,hcl,n,hda] ?_);have I2:Inv X pins σ (upd H s.heap.objs.size (.dK [])) { s with heap:=h'.push { cls:=.type "list_iterator",data:=.fields (List.toArray [.ref p,.int 0 0]) },toks:=tk }:=I1.kept (t':=tk) λb o e=>IZ _ e;have hsz:s.heap.objs.size<h'.objs.size:=by have e:(s.heap.push { cls:=.type "dict",data:=.dict (List.toArray []) }).get? s.heap.objs.size=some { cls:=.type "dict",data:=.dict (List.toArray []) }:=Iz _ rfl;exact Ip (hk _ _ e)
 have hit0:h'.objs.size≠s.heap.objs.size:=K6 hsz;have hHit:H h'.objs.size=none:=I.hok.fresh (LH hsz);refine Ie #[plainId_quiet gw _,?_];refine Fi (A:=X.A.in1) (it:=h'.objs.size) hA (J8 hplt) hS hps hD hz hit0 (λs' J=>#[rfl,.ref s.heap.objs.size,_,J,rfl,q _ hD]) kvs.length 0 0 _ (by omega) (J2 _) (by simpa using I2) #[_,Iz _ rfl,rfl,rfl] (λH' hn=>I1.fpOk (Ib _) hn) hHit
theorem wx:∀(xs:List V) (us:List Value),xs.length=us.length->(∀(i:Nat) (x:V) (u:Value),xs[i]?=some x->us[i]?=some u->bE x u)->ax xs us
 | [],[],_,_=>.nil
 | [],_ :: _,h,_=>by simp at h
 | _ :: _,[],h,_=>by simp at h
 | x :: xs,u :: us,h,k=>.cons (k 0 x u rfl rfl) (wx xs us (by simpa using h) λi y v e1 e2=>k (i+1) y v (by simpa using e1) (by simpa using e2))
theorem sr {P:Program} {w:World} {k:aL} {v:Value} (h:(cJ P w).is k v=true):bE (kV k) v:=by
 rcases gI (show iI k v=true from h) with⟨i,t,rfl,rfl⟩|⟨x,t,rfl,rfl⟩
 . exact#[t,rfl]
 . exact#[t,rfl]
theorem GG {P:Program} {w:World} {kvs:List (aL×V)} {vs:List (aL×Value)} {acc:Array Value} (rel:KV kvs vs) (h:ItemsOf (λi v=>∃k x,vs[i]?=some (k,x)/\(cJ P w).is k v=true) acc vs.length) :
   ax (kvs.map λkv=>kV kv.1) acc.toList:=by
 have hl:=rel.length;have el:acc.toList.length=acc.size:=by simp
 have hlen:(kvs.map λkv=>kV kv.1).length=acc.toList.length:=by rw[IX,el,h.1]; exact hl
 refine wx _ _ hlen λi x u e1 e2=>?_;obtain⟨k,y,e3,e4⟩:=h.2 i u (by simpa using e2);rw[Iu] at e1;cases e5:kvs[i]? with
 | none=>rw[e5] at e1; cases e1
 | some kv =>
   rw[e5] at e1;have e1:kV kv.1=x:=by simpa using e1
   have e6:kv.1=k:=by
     have h1:i<kvs.length:=(Ic.mp e5).1;have h2:i<vs.length:=by omega
     have e7:=lU rel h1 h2;have e8:kvs[i]=kv:=by have:=Ic.mp e5; exact this.2
     have e9:vs[i]=(k,y):=by have:=Ic.mp e3; exact this.2
     rw[e8,e9] at e7;exact e7.1
   rw[<- e1,e6];exact sr e4
theorem Bq (hc:X.calm=true):bt X (.type "list") (λxs H Q=>∃d kvs,xs=[.ref d]/\H d=some (.dK kvs)/\∀l,H l=none->Q (.ref l) (upd H l (.lst (kvs.map λkv=>kV kv.1)))):=by intro pins s σ H xs us Q I r h;obtain⟨d,kvs,rfl,hd,q⟩:=h;obtain⟨u,rfl,ru⟩:=gY r;cases (show u=Value.ref d from ru);obtain⟨z,lo,vs,rel,dd⟩:=jo I.hok hd;have hlen:=rel.length;obtain⟨ep,dat⟩:∃ep,s.heap.DictAt (cJ X.prog X.w) d vs ep:=dd.dictAt;refine PySem.W.kdl_call (PySem.W.kdl_dict (knd:=cJ X.prog X.w) (kvs:=vs) (ep:=ep) lo) (I.ok.hd hc) dat (by rw[<- hlen]; exact z) λh' tk acc' c' hk hS hit=>?_;have hv:ax (kvs.map λkv=>kV kv.1) acc'.toList:=GG rel hit;refine#[.ref s.heap.objs.size,_,I.laid (a:=s.heap.objs.size) (o:=.lst (kvs.map λkv=>kV kv.1)) hk (Ib _) #[by rw[IX]; exact z,acc'.toList,c',hv,by simpa using hS],rfl,q _ (I.hok.fresh (Ib _))]
end
end L2
namespace L2
open PySem PySem.Spec PyProof.Rows PySem.W
section
variable {prog:Program} {w:World} {A:Around} {E:Value->Shared->Prop} {s:Shared} {δ:Type} {R:δ->Value->Prop} {a:Addr} {D:List (Str×δ)} {k:Str} {tk:Tok} {d:δ}
theorem lE (T:KTD.TabOf R s.heap a D):s.TypeIs (.ref a) "dict":=let ⟨_,o,_,_,ho,hc,_⟩:=T; #[o,ho,hc.1]
theorem wA {Q:Value->Shared->Prop} (T:KTD.TabOf R s.heap a D) (hd:KTD.datumAt k D=some d) (h:∀v,R d v->Q v { s with toks:=s.toks+1 }) :
   wpAny (model prog w) A (getItem (.ref a) (.str k tk)) Q E s:=by
 have ty:=lE T;obtain⟨_,o,es,ep,ho,hc,hdt,hr⟩:=T;unfold getItem
 try with_reducible refine JO ?_
 refine IU (LB ty (by decide) ?_);refine IU (wpAny_callSpecial?_slot (name:=Str.ofString "__getitem__") ty slot_dict_getitem
   (JU slot_dict_getitem ty entry_dict_getitem ?_ (args_dict_getitem _ _)))
 show wpAny _ _ (dictGet a (.str k tk) >>= _) _ _ s;refine IU ?_;unfold dictGet
 try with_reducible refine JO ?_
 refine IU (LG (IU (KTD.kt_dictFind_strs (s:={ s with toks:=s.toks+1 }) ho hdt (by obtain⟨l⟩:=es; simpa using hr.exact) ?_)));have hq:∃v,findBy (λk v=>v.isStr k) es k=some v/\R d v:=by
   have hf:findBy (λk v=>v.isStr k) es k=(es.toList.find? λe=>e.key.isStr k).map (·.val):=by obtain⟨l⟩:=es;simp [findBy]
   rw[hf];exact hr.find_some hd
 obtain⟨v,hv,hR⟩:=hq;rw[findBy_of_findIdx?] at hv;cases hi:es.findIdx? λe=>e.key.isStr k with
 | none=>rw[hi] at hv; cases hv
 | some i =>
   rw[hi] at hv;have hv:es[i]?.map (·.val)=some v:=hv;refine IU (wpAny_dictEntries (s:={ s with toks:=s.toks+1 }) ho hdt (Ie ?_));show wpAny _ _ _ _ _ _;rw[hv];exact Ie #[v,rfl,Ie (h v hR)]
end
noncomputable def qj (K:W.Frag) (d:Addr) (rows:List (Str×List V)):Prop :=
 ∃(o:Obj) (es:Array DictEntry) (ep:Nat),K.lookup d=some o/\(d==sysModules)=false/\o.ExactDict/\o.data=.dict es ep/\KTD.Rows (λ(xs:List V) v=>∃a,v=.ref a/\∀H:Hp,aF K H a xs) es.toList rows
noncomputable def F' (K:W.Frag):R2:=λx y H Q=>∃d rows k xs,x=.ref d/\y=.str k/\qj K d rows/\KTD.datumAt k rows=some xs/\∀a,aF K H a xs->Q (.ref a) H
theorem E5 {X:Cx}:aH X (F' X.K):=by
 intro value slice pins s σ H x y v u Q I rx ry h hs;obtain⟨d,rows,k,xs,rfl,rfl,⟨o,es,ep,ho,lo,hc,hd,hr⟩,hk,q⟩:=h;cases (show v=Value.ref d from rx);obtain⟨t,rfl⟩:=(show ∃t,u=Value.str k t from ry)
 have T:KTD.TabOf (λ(xs:List V) v=>∃a,v=.ref a/\∀H:Hp,aF X.K H a xs) s.heap d rows:=#[lo,o,es,ep,I.kIn d o ho,hc,hd,hr]
 refine tail_any (lE T) slot_dict_getitem.lookup (wA T hk λv hv=>?_) hs;obtain⟨a,rfl,hsq⟩:=hv;exact#[.ref a,H,I.tok _,rfl,q a (hsq H)]
end L2
namespace L2
open PySem PySem.Spec PyProof.Rows
noncomputable def oq:V->Value->Bool
 | .non,.none=>true
 | .bl b,.bool c=>b==c
 | .int i,.int j _=>i==j
 | .str x,.str y _=>x==y
 | _,_=>false
theorem Cy:∀{x:V} {v:Value},oq x v=true->bE x v:=by
 intro x v h;unfold oq at h;split at h
 . rfl
 . obtain rfl:=beq_iff_eq.mp h; rfl
 . obtain rfl:=beq_iff_eq.mp h; exact#[_,rfl]
 . obtain rfl:=beq_iff_eq.mp h; exact#[_,rfl]
 . cases h
noncomputable def jE:List V->List Value->Bool
 | [],[]=>true
 | x :: xs,v :: vs=>oq x v&&jE xs vs
 | _,_=>false
theorem sI:∀{xs:List V} {vs:List Value},jE xs vs=true->ax xs vs
 | [],[],_=>.nil
 | x :: xs,v :: vs,h=>by simp only[jE,J4] at h;exact .cons (Cy h.1) (sI h.2)
 | [],_ :: _,h=>by simp [jE] at h
 | _ :: _,[],h=>by simp [jE] at h
noncomputable def lI (K:W.Frag) (xs:List V) (v:Value):Bool:=match v with
 | .ref a=>match K.lookup a with
   | some o=>o.cls==.type "tuple"&&(match o.data with | .seq its _=>decide (its.size<=sizeLine)&&jE xs its.toList|_=>false)
   | none=>false
 | _=>false
theorem HV {K:W.Frag} (xs:List V) (v:Value) (h:lI K xs v=true):∃a,v=.ref a/\∀H:Hp,aF K H a xs:=by
 unfold lI at h;split at h
 . rename_i a
   split at h
   . rename_i o ho
     rw[J4] at h;obtain⟨h1,h2⟩:=h;split at h2
     . rename_i its n hd
       rw[J4] at h2;exact#[a,rfl,λH=>.inr #[o,its,n,ho,beq_iff_eq.mp h1,hd,K1 h2.1,sI h2.2]]
     . cases h2
   . cases h
 . cases h
theorem Aq {K:W.Frag} {d:Addr} {rows:List (Str×List V)} (h:KTD.tabLook (lI K) (λa=>K.lookup a) d rows=true):qj K d rows:=by
 simp only[KTD.tabLook,J4] at h;obtain⟨h0,hl⟩:=h;split at hl
 . rename_i o ho
   simp only[J4] at hl;obtain⟨⟨⟨e1,e2⟩,e3⟩,e4⟩:=hl;split at e4
   . rename_i es ep hd
     exact#[o,es,ep,ho,by simpa using h0,#[beq_iff_eq.mp e1,by simpa using e2,by simpa using e3],hd,KTD.rows_of_look HV e4]
   . cases e4
 . cases hl
end L2
namespace L2
open PySem
noncomputable def vh:Expr->Option (List V)
 | .List es _=>mH es
 | _=>none
theorem Ct {X:Cx} {e:Expr} {vs:List V} (h:vh e=some vs):PE X e (wa λ_ H Q=>Q vs H):=by
 unfold vh at h;split at h
 . exact bu (tU h)
 . cases h
end L2
namespace L2
open PySem PySem.Spec PyProof.Rows
section
variable {prog:Program} {w:World} {A:Around} {E:Value->Shared->Prop} {s:Shared}
theorem gx_nextOf_tup {it t:Addr} {i:Nat} {items:Array Value} {x:Value} {Q:Value->Shared->Prop} (hit:s.heap.IsTupleIter it t i) (ht:s.heap.IsTuple t items) (hx:items[i]?=some x)
   (hQ:∀h',h'.IsTupleIter it t (i+1)->Heap.SameBut it s.heap h'->Q x { s with heap:=h' }):wpAny (model prog w) A (Builtin.SmallTypes.nextOf (.ref it)) Q E s:=by
 obtain⟨⟨o,ho,hc,hd⟩,⟨ol,hol,_,nl,hdl⟩⟩:=(#[id hit,ht]:_/\_)
 unfold Builtin.SmallTypes.nextOf; refine IU (wpAny_callSpecial?_slot (name:=Str.ofString "__next__") hit.typeIs J' (JU J' hit.typeIs L3 ?_ (Ky _)));show wpAny (model prog w) _ (field (.ref it) 0 >>= _) _ _ s; refine IU (JH ho hd (x:=.ref t) rfl ?_);show wpAny (model prog w) _ (if(Value.ref t==Value.none)=true then _ else _) _ _ s; rw[IW (by exact Iy)];show wpAny (model prog w) _ (field (.ref it) 1 >>= _) _ _ s; refine IU (JH ho hd (x:=.int i 0) rfl ?_);show wpAny (model prog w) _ (seqItems? (.ref t) >>= _) _ _ s; refine IU (Jg hol hdl ?_); simp only[JF,hx];refine IU (wpAny_setField ho hd (by simp) (Ie #[x,rfl,Ie (hQ _ #[_,Heap.get?_update_self _ ho (Obj.isFreed_of_fields (Obj.data_mapFields hd _)),(Obj.cls_mapFields ..).trans hc,by rw[Obj.data_mapFields hd]; simp [rawInt]] (Heap.SameBut.update ..))]))
theorem gx_nextOf_tup_end {it t:Addr} {i:Nat} {items:Array Value} {Q:Value->Shared->Prop} (hh:A.handled=none) (hit:s.heap.IsTupleIter it t i) (ht:s.heap.IsTuple t items) (hx:items[i]?=none)
   (hE:∀h' e,Heap.ExtBut it s.heap h'->(∃o,h'.get? e=some o/\o.cls=.type "StopIteration")->E (.ref e) { s with heap:=h' }):wpAny (model prog w) A (Builtin.SmallTypes.nextOf (.ref it)) Q E s:=by
 obtain⟨⟨o,ho,hc,hd⟩,⟨ol,hol,_,nl,hdl⟩⟩:=(#[id hit,ht]:_/\_)
 unfold Builtin.SmallTypes.nextOf; refine IU (wpAny_callSpecial?_slot (name:=Str.ofString "__next__") hit.typeIs J' (JU J' hit.typeIs L3 ?_ (Ky _)));show wpAny (model prog w) _ (field (.ref it) 0 >>= _) _ _ s; refine IU (JH ho hd (x:=.ref t) rfl ?_);show wpAny (model prog w) _ (if(Value.ref t==Value.none)=true then _ else _) _ _ s; rw[IW (by exact Iy)];show wpAny (model prog w) _ (field (.ref it) 1 >>= _) _ _ s; refine IU (JH ho hd (x:=.int i 0) rfl ?_);show wpAny (model prog w) _ (seqItems? (.ref t) >>= _) _ _ s; refine IU (Jg hol hdl ?_); simp only[JF,hx];refine IU (Kr (IU (wpAny_setField ho hd (by simp) ?_))); show wpAny (model prog w) _ (newExc (.type "StopIteration") [] >>= _) _ _ _;refine IU ?_; simp only[newExc,newTuple]; refine IU (Jq ?_ (by size_fits));refine IU (m:=firstArgMember _ _) (wpAny_of_eq (a:=Value.none) (by first|rfl|(simp only[firstArgMember]; rfl)) (Jq ?_ (by size_fits)));simp only[raiseNew]; refine IU (wpAny_handled ?_); first|rw[show A.in1.handled=none from hh] | rw[hh]
 refine IU (Ie (wpAny_throw (hE _ _ (((Heap.SameBut.update ..).extBut.push _).push _) #[_,Iz _ rfl,rfl])))
end
variable {w:World}
theorem vT {prog:Program} {A:Around} (hh:A.handled=none) (it t:Addr) (hne:t≠it) (items:Array Value) :
   Draws prog w A it [it,t] items.size (λi v=>items[i]?=some v) (λi h=>h.IsTupleIter it t i/\h.IsTuple t items) where
 live:=λ_ _ ⟨⟨o,ho,_⟩,_⟩=>#[o,ho]
 frame:=λ_ _ _ ⟨⟨o,ho,r⟩,⟨o2,ho2,r2⟩⟩ hk=>#[#[o,hk it (by simp) o ho,r],#[o2,hk t (by simp) o2 ho2,r2]]
 item:=λi s Q E hi ⟨s1,s2⟩ hQ=>gx_nextOf_tup s1 s2 (x:=items[i]) (by simp [hi]) λh' hit' hs'=>hQ _ h' s.toks (by simp [hi]) #[hit',s2.extBut hs'.extBut hne] hs'
 done:=λs Q E ⟨s1,s2⟩ hE=>gx_nextOf_tup_end hh s1 s2 (by simp) hE
section
variable {X:Cx} {pins:List (Addr×Obj)} {σ:St} {H:Hp} {s:Shared} {h':Heap}
theorem Inv.turnedL {t':Nat} {ch:List Addr} (I:Inv X pins σ H s) (k:∀b o,b ∉ ch->s.heap.get? b=some o->h'.get? b=some o) (hf:∀b∈ch,eo X pins H b):Inv X pins σ H { s with heap:=h',toks:=t' }:=by
 have nit:∀b u,H b=some u->b ∉ ch:=λb u e z=>by rw[(hf b z).1] at e; cases e
 refine I.step (g':=s.gens) (d':=s.drawn) (ch:=ch) (λb hb=>#[(hf b hb).2.2.2.1,(hf b hb).2.1,(hf b hb).2.2.2.2.1,(hf b hb).2.2.2.2.2]) (λb o _ _ hc e _=>k b o hc e) (λb o _ _ hc e _=>#[o.slots,k b o hc e]) (λ_ _ _ _ n=>n) (λb o hc e=>#[o,k b o hc e]) (λ_ _ e=>e) (λ_ _ _ e=>e) (λb ps e=>#[(List.toArray []),by rw[e]; simp]) (λm hm=>?_) (λb u e=>?_) I.bare
 . obtain⟨o,es,ep,ho,r⟩:=hm;exact#[o,es,ep,k _ _ (λz=>(hf _ z).2.1 rfl) ho,r]
 . have key:∀c,c=b\/H c=some (.own b)->c ∉ ch:=λc hc=>by
     rcases hc with z|z
     . subst z; exact nit _ u e
     . exact nit c _ z
   exact(I.hok b u e).stay (λc v hc q=>k c v (key c hc) q) (λ_ q=>q) λ_ _ q=>q
theorem Inv.turnLaid {t':Nat} {ch:List Addr} {a:Addr} {o:HO} (I:Inv X pins σ H s) (k:∀b o,b ∉ ch->s.heap.get? b=some o->h'.get? b=some o) (hf:∀b∈ch,eo X pins H b) (hp:s.heap.objs.size<=a) (new:cF X.prog X.w (upd H a o) h' a o) :
   Inv X pins σ (upd H a o) { s with heap:=h',toks:=t' }:=by
 have nit:∀b u,H b=some u->b ∉ ch:=λb u e z=>by rw[(hf b z).1] at e; cases e
 have hn:H a=none:=I.hok.fresh hp;refine I.step (g':=s.gens) (d':=s.drawn) (ch:=ch) (λb hb=>#[(hf b hb).2.2.2.1,(hf b hb).2.1,(hf b hb).2.2.2.2.1,(hf b hb).2.2.2.2.2]) (λb o _ _ hc e _=>k b o hc e) (λb o _ _ hc e _=>#[o.slots,k b o hc e]) (λb u _ q n=>by rw[aw (λz=>by subst z; exact absurd (J1 (Ip q) hp) (JN _))]; exact n) (λb o hc e=>#[o,k b o hc e]) (λb xs q=>by rw[aw (cS q hn)]; exact q) (λb u xs q=>by rw[aw (cS q hn)]; exact q) (λb ps q=>#[(List.toArray []),by rw[aw (cS q hn),q]; simp]) (λm hm=>?_) (λb u e=>?_) I.bare
 . obtain⟨o,es,ep,ho,r⟩:=hm;exact#[o,es,ep,k _ _ (λz=>(hf _ z).2.1 rfl) ho,r]
 . by_cases hb:b=a
   . subst hb;rw[aI] at e;cases e;exact new
   . rw[aw hb] at e;have key:∀c,c=b\/H c=some (.own b)->c ∉ ch:=λc hc=>by
       rcases hc with z|z
       . subst z; exact nit _ u e
       . exact nit c _ z
     exact(I.hok b u e).stay (λc v hc q=>k c v (key c hc) q) (λc q=>(aw (cS q hn)).trans q) λc xs q=>(aw (cS q hn)).trans q
end
theorem IF (l:Addr) (items:Array Value) (n:Nat) (dct:Option Addr) (sl:Array (Option Value)) :
   Meets (Builtin.«enumerate.__new__» #[[.type "enumerate",.ref l],[]]) (λ_ R s=>s.heap.get? l=some { cls:=.type "tuple",dict:=dct,data:=.seq items n,slots:=sl } /\
     R (.ok (.ret (.ref (s.heap.push { cls:=.type "tuple_iterator",data:=.fields (List.toArray [.ref l,.int 0 0]) }).objs.size)))
       { s with heap:=(s.heap.push { cls:=.type "tuple_iterator",data:=.fields (List.toArray [.ref l,.int 0 0]) }).push { cls:=.type "enumerate",data:=.fields (List.toArray [.none,.bool false,.ref s.heap.objs.size,rawInt 0,.none,.none]) } }) :=
 .of_wp λprog w A R s h=>by
   obtain⟨h0,g0,d0,t0,o0⟩:=s;obtain⟨hl,h⟩:=h;have hsub:=sub_enumerate;have hL:Heap.IsTuple (Shared.heap ⟨h0,g0,d0,t0,o0⟩) l items:=#[_,hl,rfl,n,rfl]
   wp_walk using AutoSeq1.wpAny_loadPart' hl
   refine wpAny_stack_any λst=>Ie ?_;split
   . rename_i c _ _ _ _ _
     cases (c==Value.type "enumerate") <;> (wp_walk using AutoSeq1.wpAny_loadPart' hl,Jl hL; exact#[_,rfl,h])
   . wp_walk using AutoSeq1.wpAny_loadPart' hl,Jl hL; exact#[_,rfl,h]
theorem EH {prog:Program} {A:Around} {E:Value->Shared->Prop} {s:Shared} {l:Addr} {items:Array Value} {Q:Value->Shared->Prop} (hL:s.heap.IsTuple l items)
   (h:∀h',IsEnum h' (s.heap.objs.size+1) s.heap.objs.size 0 .none->h'.IsTupleIter s.heap.objs.size l 0->(∀b o,s.heap.get? b=some o->h'.get? b=some o)->Q (.ref (s.heap.objs.size+1)) { s with heap:=h' }) :
   wpAny (model prog w) A (call (.type "enumerate") [.ref l]) Q E s:=by
 obtain⟨⟨c,dct,dt,sl⟩,hl,hc,n,hd⟩:=hL;cases (show c=.type "tuple" from hc); cases (show dt=.seq items n from hd);refine callType_new F.called_enumerate (by decide) (F.typeCall_enumerate_1 _) (F.newCall_enumerate_1 _) (λobj=>F.args_object_init_2 obj _) F.entry_enumerate_new (IF l items n dct sl) #[hl,?_];have hz:(s.heap.push { cls:=.type "tuple_iterator",data:=.fields (List.toArray [.ref l,.int 0 0]) }).objs.size=s.heap.objs.size+1:=Jf ..;have he:IsEnum ((s.heap.push { cls:=.type "tuple_iterator",data:=.fields (List.toArray [.ref l,.int 0 0]) }).push { cls:=.type "enumerate",data:=.fields (List.toArray [.none,.bool false,.ref s.heap.objs.size,rawInt 0,.none,.none]) }) (s.heap.objs.size+1) s.heap.objs.size 0 .none:=by have e:=Iz (s.heap.push { cls:=.type "tuple_iterator",data:=.fields (List.toArray [.ref l,.int 0 0]) }) (o:={ cls:=.type "enumerate",data:=.fields (List.toArray [.none,.bool false,.ref s.heap.objs.size,rawInt 0,.none,.none]) }) rfl;rw[hz] at e;exact e
 show _/\_;rw[hz];exact#[#[_,he,rfl],h _ he #[_,IZ _ (Iz _ rfl),rfl,rfl] λb o x=>IZ _ (IZ _ x)]
noncomputable def jj (K:W.Frag) (a:Addr):It :=
 #[λi H=>∃xs x,aF K H a xs/\xs[i]?=some x,λi H y H'=>∃b,y=.ref b/\H b=none/\∀xs x,aF K H a xs->xs[i]?=some x->H'=upd H b (.tup [.int i,x]),λi H=>∃xs,aF K H a xs/\xs.length=i]
variable {elts:List Expr} {pos:Pos}
theorem Cz {P:Program} {K:W.Frag} {k:Nat} (a e it:Addr) (hne:e≠it):Turn P w K (.Tuple elts k pos) (jj K a) [e,it] e (λi h=>(∃old,IsEnum h e it i old)/\h.IsTupleIter it a i) where
 mem:=by simp
 obj:=λi h st b hb=>by
   obtain⟨⟨old,he⟩,⟨o,ho,hc,hd⟩⟩:=st;rcases Io.mp hb with z|z
   . subst z;exact#[_,he,λv z=>by cases (show Data.fields _=Data.cell v from z)]
   . have z:b=it:=by simpa using z
     subst z;exact#[o,ho,λv z=>by rw[hd] at z; cases z]
 keep:=λi h h' st kk=>by obtain⟨⟨old,he⟩,⟨o,ho,r⟩⟩:=st;exact#[#[old,kk e (by simp) _ he],#[o,kk it (by simp) o ho,r]]
 item:=by
   intro X hP hw hK hc i pins s σ H E I hf st hg;subst hP hw hK;obtain⟨⟨old,he⟩,hit⟩:=st;obtain⟨xs,x,hq,hx⟩:=hg;obtain⟨its,rv,p,hz⟩:=I.tuple hq;have pt:s.heap.IsTuple a its.toArray:=p;obtain⟨u,hu,ru⟩:=rv.get hx;have hia:a≠it:=λz=>by
     subst z;obtain⟨o1,h1,c1,_⟩:=hit;obtain⟨o2,h2,c2,_⟩:=pt;rw[h1] at h2;cases h2;rw[c1] at c2;injection c2 with c2
     exact absurd c2 (by decide)
   have hea:e ∉ [it,a]:=λz=>by
     rcases Io.mp z with z|z
     . exact hne z
     . have z:e=a:=by simpa using z
       subst z;obtain⟨o2,h2,c2,_⟩:=pt;rw[he] at h2;cases h2;injection (show Value.type "enumerate"=Value.type "tuple" from c2) with c2
       exact absurd c2 (by decide)
   have hlt:i<its.toArray.size:=by have:=(Ic.mp hu).1;simpa using this
   refine LR (vT (A:=X.A.in1) (I.ok.hd hc) it a hia its.toArray) he #[hit,pt] hlt hne hea λy h' tk hy hout hst hT hsz hk=>?_;refine#[_,rfl,L7 hout λh2 he2 hs2=>?_];have hs2:Heap.SameBut e h' h2:=hs2;have hyu:y=u:=by
     have hy:its.toArray[i]?=some y:=hy;have:its[i]?=some y:=by simpa using hy
     rw[hu] at this;exact(Option.some.inj this).symm
   subst hyu;have helt:e<s.heap.objs.size:=Ip he;have hfr:H s.heap.objs.size=none:=I.hok.fresh (Ib _);have hnS:s.heap.objs.size≠e:=K6 helt;have hT2:h2.get? s.heap.objs.size=some { cls:=.type "tuple",data:=.seq (List.toArray [.int i tk,y]) }:=(hs2.2 _ hnS).trans hT;refine#[.ref s.heap.objs.size,upd H s.heap.objs.size (.tup [.int i,x]),I.turnLaid (t':=tk+1) (ch:=[e,it]) (λb o hb q=>?_) hf (Ib _) ?_,rfl,#[s.heap.objs.size,rfl,hfr,λxs' x' hq' hx'=>?_],#[#[y,by exact_mod_cast he2],?_],λb hb=>?_]
   . have h1:b≠e:=λz=>hb (by simp [z]);have h3:b≠it:=λz=>hb (by simp [z]);exact(hs2.2 b h1).trans (hk b o h1 h3 q)
   . exact#[by show 2<=sizeLine; decide,[.int i tk,y],.cons #[tk,rfl] (.cons ru .nil),#[_,hT2,rfl,_,rfl]]
   . have:=I.tuple_inj hq' hq;subst this;rw[hx] at hx';cases hx';rfl
   . obtain⟨⟨o,ho,r⟩,_⟩:=hst;exact#[o,(hs2.2 it hne.symm).trans ho,r]
   . have hb0:=(hf b hb).1;rw[aw]
     . exact hb0
     . intro z;subst z;obtain⟨o,ho,_⟩:=hit;rcases Io.mp hb with z|z
       . exact hnS z
       . have z:s.heap.objs.size=it:=by simpa using z
         exact absurd (Ip ho) (by rw[<- z]; exact JN _)
 done:=by
   intro X hP hw hK hc i pins s σ H E I hf st hg;subst hP hw hK;obtain⟨⟨old,he⟩,hit⟩:=st;obtain⟨xs,hq,hx⟩:=hg;obtain⟨its,rv,p,hz⟩:=I.tuple hq;have pt:s.heap.IsTuple a its.toArray:=p;have hl:=rv.length;have hia:a≠it:=λz=>by
     subst z;obtain⟨o1,h1,c1,_⟩:=hit;obtain⟨o2,h2,c2,_⟩:=pt;rw[h1] at h2;cases h2;rw[c1] at c2;injection c2 with c2
     exact absurd c2 (by decide)
   have hi:i=its.toArray.size:=by simp; omega
   refine wpAny_pyNext_enum_endD (vT (A:=X.A.in1) (I.ok.hd hc) it a hia its.toArray) he (by rw[<- hi]; exact#[hit,pt]) λh' eb=>#[rfl,?_]
   exact I.turnedL (t':=s.toks) (ch:=[e,it]) (λb o hb q=>eb b o (λz=>hb (by simp [z])) q) hf
 self:=λ_ _ _ _ _ st h=>by obtain⟨⟨old,he⟩,_⟩:=st;exact Kc he h
variable {tb:TS} {σ:St} {H:Hp}
section
variable {X:Cx}
theorem uX:bootBuiltins "enumerate"=some (.type "enumerate"):=Do
noncomputable def E6 (K:W.Frag) (ta:TA):TI:=λσ H R=>ta σ H λvs H1=>∃a,vs=[.ref a]/\(∃xs,aF K H1 a xs)/\R (jj K a) H1
theorem vc {a:Expr} {ta:TA} {p tpos:Pos}{k:Nat} (hg:Gl X "enumerate") (hm:X.mg "enumerate"=none) (ha:PA X [a] ta) (hs:starEach [a] X.env=[(false,eval a X.env)]:=by rfl):PI X (.Tuple elts k tpos) (.Call (.Name "enumerate" p) [a] [] pos) (E6 X.K ta):=by
 intro pins s σ H R I h;refine Call_ (gE I hg hm uX (JL (am (ha pos pins s σ H _ I h) λus s1 ⟨vs,H1,I1,r1,q1⟩=>?_) hs rfl));obtain⟨a,e,⟨xs,hq⟩,q⟩:=q1;subst e;cases r1 with
 | cons r rr =>
   cases rr;cases r;obtain⟨its,rv,p,hz⟩:=I1.tuple hq;refine EH (show s1.heap.IsTuple a its.toArray from p) λh' he hit hk=>?_;refine Kc he ?_;refine#[s1.heap.objs.size+1,[s1.heap.objs.size+1,s1.heap.objs.size],_,_,H1,rfl,I1.kept (t':=s1.toks) hk,Cz a (s1.heap.objs.size+1) s1.heap.objs.size (Nat.succ_ne_self _),#[#[.none,he],hit],λb hb=>?_,q];rcases Io.mp hb with z|z
   . subst z;exact I1.fpOk (Kf _) (I1.hok.fresh (Kf _))
   . have z:b=s1.heap.objs.size:=by simpa using z
     subst z;exact I1.fpOk (Ib _) (I1.hok.fresh (Ib _))
theorem vX {K:W.Frag} {a:Addr} {xs:List V} {g:TG} {D:c8} (Pv:Nat->St->Hp->Prop) (h0:Pv 0 σ H) (hl:∀i σ H,i<=xs.length->Pv i σ H->aF K H a xs)
   (hs:∀i x σ H b,xs[i]?=some x->Pv i σ H->H b=none->g (.ref b) σ (upd H b (.tup [.int i,x])) λσ2 H2=>tb { D with nx:=Pv (i+1),ct:=Pv (i+1),bk:=D.nx } σ2 H2) (hd:∀σ H,Pv xs.length σ H->D.nx σ H) :
   ∃W:Nat->Nat->St->Hp->Prop,(∃m,W 0 m σ H)/\∀i m σ H,W i m σ H->((jj K a).stop i H/\D.nx σ H)\/((jj K a).go i H/\∃N:St->Hp->Prop,(∀σ' H',N σ' H'->∃m',m'<m/\W (i+1) m' σ' H')/\∀x H',(jj K a).yld i H x H'->g x σ H' λσ2 H2=>tb { D with nx:=N,ct:=N,bk:=D.nx } σ2 H2):=by
 refine#[λi m σ H=>m=xs.length - i/\i<=xs.length/\Pv i σ H,#[xs.length,by simp,J2 _,h0],?_];rintro i m σ H ⟨rfl,hi,p⟩;have q:=hl i σ H hi p;by_cases hlt:i<xs.length
 . refine .inr #[#[xs,xs[i],q,by simp [hlt]],Pv (i+1),λσ' H' p'=>#[xs.length - (i+1),by omega,rfl,hlt,p'],λx H' y=>?_];obtain⟨b,rfl,hb,y⟩:=y;rw[y xs xs[i] q (by simp [hlt])];exact hs i xs[i] σ H b (by simp [hlt]) p hb
 . have e:i=xs.length:=by omega
   subst e;exact .inl #[#[xs,q,rfl],hd σ H p]
end
section
variable {X:Cx} {pins:List (Addr×Obj)} {σ:St} {H:Hp} {s:Shared}
theorem Inv.freeze {d:Addr} {kvs:List (aL×V)} (I:Inv X pins σ H s) (e:H d=some (.dK kvs)):∃o,s.heap.get? d=some o/\Inv X pins σ (upd H d (.frz o (.dK kvs))) s:=by
 obtain⟨z,hd,vs,rel,⟨o,es,ep,ho,r⟩⟩:=I.hok d _ e;refine#[o,ho,?_];have nd:∀b u,H b=some u->u≠.dK kvs->b≠d:=λb u q n z=>by subst z;rw[e] at q;cases q;exact n rfl
 refine I.step (g':=s.gens) (t':=s.toks) (d':=s.drawn) (h':=s.heap) (ch:=[]) (λ_ z=>nomatch z) (λb o _ _ _ q _=>q) (λb o _ _ _ q _=>#[o.slots,q]) (λb o _ _ n=>?_) (λb o _ q=>#[o,q]) (λb xs q=>?_) (λb o u q=>?_) (λb ps q=>#[(List.toArray []),?_]) (λm hm=>hm) (λb u q=>?_) I.bare
 . rw[aw (λz=>by subst z; rw[e] at n; cases n)];exact n
 . rw[aw (nd b _ q (by intro z; cases z))];exact q
 . rw[aw (nd b _ q (by intro z; cases z))];exact q
 . rw[aw (nd b _ q (by intro z; cases z)),q];simp
 . have own:∀c b,H c=some (.own b)->(upd H d (.frz o (.dK kvs))) c=some (.own b):=λc b q=>(aw (nd c _ q (by intro z; cases z))).trans q;have tup:∀c xs,H c=some (.tup xs)->(upd H d (.frz o (.dK kvs))) c=some (.tup xs):=λc xs q=>(aw (nd c _ q (by intro z; cases z))).trans q;by_cases hb:b=d
   . subst hb;rw[aI] at q;cases q;exact#[ho,(I.hok _ _ e).stay (λ_ _ _ q=>q) (λc q=>own c _ q) tup]
   . rw[aw hb] at q;exact(I.hok b u q).stay (λ_ _ _ q=>q) (λc q=>own c _ q) tup
end
theorem HS:entryFor table "dict_itemiterator.__iter__"=some Builtin.«dict_keyiterator.__iter__»:=entryFor_alias (id':="dict_keyiterator.__iter__") (by kernel_rfl) (by first|rfl|decide +kernel|(unfold String.splitOn; simp +decide [String.splitOnAux])) (by decide +kernel) (by kernel_rfl)
noncomputable def g7 (o:Obj) (d:Addr) (kvs:List (aL×V)):It :=
 #[λi H=>H d=some (.frz o (.dK kvs))/\i<kvs.length,λi H y H'=>∃b,y=.ref b/\H b=none/\∀kv,kvs[i]?=some kv->H'=upd H b (.tup [kV kv.1,kv.2]),λi H=>H d=some (.frz o (.dK kvs))/\i=kvs.length]
theorem oW {X:Cx} {pins:List (Addr×Obj)} {s:Shared} {o:Obj} {d:Addr} {kvs:List (aL×V)} (I:Inv X pins σ H s) (e:H d=some (.frz o (.dK kvs))) {es0:Array DictEntry} {ep:Nat} (hep:o.data=.dict es0 ep) :
   ∃vs,KV kvs vs/\s.heap.DictAt (cJ X.prog X.w) d vs ep:=by
 obtain⟨h1,z,hd,vs,rel,⟨o',es,ep',ho,hx,hdat,r⟩⟩:=I.hok d _ e;rw[h1] at ho;cases ho;rw[hep] at hdat;cases hdat;exact#[vs,rel,o,es0,h1,hx,hep,r]
theorem Ey {P:Program} {K:W.Frag} {k:Nat} (o:Obj) (d it:Addr) (kvs:List (aL×V)) (es0:Array DictEntry) (ep:Nat) (hep:o.data=.dict es0 ep) :
   Turn P w K (.Tuple elts k pos) (g7 o d kvs) [it] it (λi h=>∃ok ov,IsItemIter h it d i kvs.length ep ok ov) where
 mem:=by simp
 obj:=λi h st b hb=>by
   obtain⟨ok,ov,he⟩:=st;have z:b=it:=by simpa using hb
   subst z;exact#[_,he,λv z=>by cases (show Data.fields _=Data.cell v from z)]
 keep:=λi h h' st kk=>by obtain⟨ok,ov,he⟩:=st;exact#[ok,ov,kk it (by simp) _ he]
 item:=by
   intro X hP hw hK hc i pins s σ H E I hf st hg;subst hP hw hK;obtain⟨ok,ov,he⟩:=st;obtain⟨hfz,hi⟩:=hg;obtain⟨vs,rel,hD⟩:=oW I hfz hep;have hlen:kvs.length=vs.length:=KV.length rel;have hi':i<vs.length:=by omega
   have rk:kvs[i].1=vs[i].1/\bE kvs[i].2 vs[i].2:=lU rel hi hi';refine wpAny_pyNext_items_item (knd:=cJ X.prog X.w) (k:=vs[i].1) (v:=vs[i].2) (kvs:=vs) (by rw[<- hlen]; exact he) hD (by simp [hi']) λkey h' hkey hout hT hsz hk=>?_;refine#[_,rfl,wpAny_letOwnedTupleGo_items hout λh2 he2 hs2=>?_];have hs2:Heap.SameBut it h' h2:=hs2;have hilt:it<s.heap.objs.size:=Ip he;have hnS:s.heap.objs.size≠it:=K6 hilt;have hfr:H s.heap.objs.size=none:=I.hok.fresh (Ib _);have hT2:h2.get? s.heap.objs.size=some { cls:=.type "tuple",data:=.seq (List.toArray [key,vs[i].2]) }:=(hs2.2 _ hnS).trans hT;refine#[.ref s.heap.objs.size,upd H s.heap.objs.size (.tup [kV kvs[i].1,kvs[i].2]),I.turnLaid (t':=s.toks) (ch:=[it]) (λb o hb q=>?_) hf (Ib _) ?_,rfl,#[s.heap.objs.size,rfl,hfr,λkv hkv=>?_],#[_,_,by rw[hlen]; exact he2],λb hb=>?_]
   . have h1:b≠it:=λz=>hb (by simp [z]);exact(hs2.2 b h1).trans (hk b o h1 q)
   . exact#[by show 2<=sizeLine; decide,[key,vs[i].2],.cons (by rw[rk.1]; exact sr hkey) (.cons rk.2 .nil),#[_,hT2,rfl,_,rfl]]
   . have:kvs[i]=kv:=by simpa [hi] using hkv
     rw[<- this]
   . have z:b=it:=by simpa using hb
     subst z;rw[aw hnS.symm];exact(hf _ hb).1
 done:=by
   intro X hP hw hK hc i pins s σ H E I hf st hg;subst hP hw hK;obtain⟨ok,ov,he⟩:=st;obtain⟨hfz,hi⟩:=hg;obtain⟨vs,rel,hD⟩:=oW I hfz hep;have hlen:kvs.length=vs.length:=KV.length rel;refine wpAny_pyNext_items_end (knd:=cJ X.prog X.w) (kvs:=vs) (I.ok.hd hc) (by rw[<- hlen]; exact he) hD (by simp; omega) λh' eb=>#[rfl,?_]
   exact I.turnedL (t':=s.toks) (ch:=[it]) (λb o hb q=>eb b o (λz=>hb (by simp [z])) q) hf
 self:=λA i s Q E st h=>by
   obtain⟨ok,ov,he⟩:=st;have hT:s.TypeIs (.ref it) "dict_itemiterator":=#[_,he,rfl]
   exact wpAny_pyIter_slot hT Ku (JU Ku hT HS (show wpAny _ _ (ret (.ref it)) _ _ s from Ie #[_,rfl,"dict_itemiterator",_,hT,F.slot_dict_itemiterator_next.lookup,h]) (F.args_dict_itemiterator_iter_1 _))
section
variable {X:Cx}
noncomputable def Ds (td:TE):TI:=λσ H R=>td σ H λx H1=>∃d kvs,x=.ref d/\((H1 d=some (.dK kvs)/\∀o,R (g7 o d kvs) (upd H1 d (.frz o (.dK kvs))))\/∃o,H1 d=some (.frz o (.dK kvs))/\R (g7 o d kvs) H1)
theorem qG {l:Expr} {td:TE} {apos cpos tpos:Pos} {k:Nat} (hl:PE X l td) (hbase:attributeBase l "items" X.env (eval l X.env)=eval l X.env:=by rfl) (hline:(apos.endLine==cpos.line)=true:=by rfl) :
   PI X (.Tuple elts k tpos) (.Call (.Attribute l "items" apos) [] [] cpos) (Ds td):=by
 intro pins s σ H R I h;refine LO hbase hline (am (hl pins s σ H _ I h) λv s1 ⟨x,H1,I1,r1,q1⟩=>?_);obtain⟨d,kvs,rfl,q1⟩:=q1;cases r1;have key:∃o H2,Inv X pins σ H2 s1/\H2 d=some (.frz o (.dK kvs))/\R (g7 o d kvs) H2:=by
   rcases q1 with⟨e,q⟩|⟨o,e,q⟩
   . obtain⟨o,ho,I2⟩:=I1.freeze e;exact#[o,_,I2,aI,q o]
   . exact#[o,H1,I1,e,q]
 obtain⟨o,H2,I2,e2,q⟩:=key;obtain⟨ho,z,hd,vs,rel,dd⟩:=I2.hok d _ e2;obtain⟨o',es,ep,ho',hx,hdat,r⟩:=id dd;rw[ho] at ho';cases ho';refine#["dict","dict.items",KW,LS,PySem.F.type_dict_items,dd.typeIs,λb q=>?_,Calls.callWith_builtin rfl (PySem.evalArgs_none ?_)]
 . cases q;exact#[o,ho,hx.2.1]
 refine call_meetsIn LS dd.typeIs PySem.F.entry_dict_items (PySem.F.args_dict_items_1 _) (meets_dict_items (cJ X.prog X.w) d hd) #[#[vs,dd],?_];have I3:Inv X pins σ H2 { s1 with heap:=s1.heap.push { cls:=.type "dict_items",data:=.fields (List.toArray [.ref d]) } }:=I2.kept (t':=s1.toks) λb o e=>IZ _ e;obtain⟨vs3,rel3,hD3⟩:=oW I3 e2 hdat;refine wpAny_pyIter_items (knd:=cJ X.prog X.w) (kvs:=vs3) (ep:=ep) #[_,Iz _ rfl,rfl,rfl] hD3 ?_;have hlen:kvs.length=vs3.length:=KV.length rel3;rw[<- hlen];generalize hh3:s1.heap.push { cls:=.type "dict_items",data:=.fields (List.toArray [.ref d]) }=h3 at I3 ⊢;refine#[h3.objs.size,[h3.objs.size],_,_,H2,rfl,I3.kept (t':=s1.toks) λb o e=>IZ _ e,Ey o d h3.objs.size kvs es ep hdat,#[_,_,Iz _ rfl],λb hb=>?_,q];have z:b=h3.objs.size:=by simpa using hb
 subst z;exact I3.fpOk (Ib _) (I3.hok.fresh (Ib _))
theorem oN {o:Obj} {d:Addr} {kvs:List (aL×V)} {g:TG} {D:c8} (Pv:Nat->St->Hp->Prop) (h0:Pv 0 σ H) (hl:∀i σ H,i<=kvs.length->Pv i σ H->H d=some (.frz o (.dK kvs)))
   (hs:∀i kv σ H b,kvs[i]?=some kv->Pv i σ H->H b=none->g (.ref b) σ (upd H b (.tup [kV kv.1,kv.2])) λσ2 H2=>tb { D with nx:=Pv (i+1),ct:=Pv (i+1),bk:=D.nx } σ2 H2) (hd:∀σ H,Pv kvs.length σ H->D.nx σ H) :
   ∃W:Nat->Nat->St->Hp->Prop,(∃m,W 0 m σ H)/\∀i m σ H,W i m σ H->((g7 o d kvs).stop i H/\D.nx σ H)\/((g7 o d kvs).go i H/\∃N:St->Hp->Prop,(∀σ' H',N σ' H'->∃m',m'<m/\W (i+1) m' σ' H')/\∀x H',(g7 o d kvs).yld i H x H'->g x σ H' λσ2 H2=>tb { D with nx:=N,ct:=N,bk:=D.nx } σ2 H2):=by
 refine#[λi m σ H=>m=kvs.length - i/\i<=kvs.length/\Pv i σ H,#[kvs.length,by simp,J2 _,h0],?_];rintro i m σ H ⟨rfl,hi,p⟩;have q:=hl i σ H hi p;by_cases hlt:i<kvs.length
 . refine .inr #[#[q,hlt],Pv (i+1),λσ' H' p'=>#[kvs.length - (i+1),by omega,rfl,hlt,p'],λx H' y=>?_];obtain⟨b,rfl,hb,y⟩:=y;rw[y kvs[i] (by simp [hlt])];exact hs i kvs[i] σ H b (by simp [hlt]) p hb
 . have e:i=kvs.length:=by omega
   subst e;exact .inl #[#[q,rfl],hd σ H p]
end
section
variable {X:Cx} {o e f:Expr} {apos cpos:Pos} {td ty tx:TE}
noncomputable def Ht (td ty tx:TE):TE:=λσ H Q=>td σ H λx H1=>∃a,x=.ref a/\oC H1 a/\ty σ H1 λy H2=>tx σ H2 λz H3=>∃kvs k,H3 a=some (.dK kvs)/\y=kV k/\kvs.length<sizeLine /\
 (∀v,bN kvs k=some v->Q v H3)/\(bN kvs k=none->Q z (upd H3 a (.dK (ao kvs k z))))
theorem Dw (ho:PE X o td) (he:PE X e ty) (hf:PE X f tx) (m:M2 X o "setdefault" apos e f cpos):PE X (.Call (.Attribute o "setdefault" apos) [e,f] [] cpos) (Ht td ty tx):=by
 intro pins s σ H Q I h;refine wpAny_Call_method m.base m.few m.line KW Kz PySem.F.type_dict_setdefault (am (ho pins s σ H _ I h) λu s1 ⟨x,H1,I1,rx,a,ex,d,q1⟩=>?_);subst ex;obtain rfl:u=Value.ref a:=rx;obtain⟨t1,t2,_⟩:=w9 I1 d;refine#[t1,t2,?_];rw[m.trees];refine Calls.callWith_builtin rfl (Calls.evalArgs_plain (Calls.spliced_cons (am (he pins s1 σ H1 _ I1 q1) λiv s2 ⟨y,H2,I2,ry,q2⟩=>Calls.spliced_cons (am (hf pins s2 σ H2 _ I2 q2) λfv s3 ⟨z,H3,I3,rz,kvs,k,ea,ey,hl,q3,q4⟩=>Calls.spliced_nil ?_))));subst ey;obtain⟨hz,hd,vs,rel,dd⟩:=jo I3.hok ea;refine call_meetsIn Kz dd.typeIs PySem.F.entry_dict_setdefault (PySem.F.args_dict_setdefault_3 _ _ _) (kt_meets_setdefault (cJ X.prog X.w) a (gq ry) hd fv) #[vs,dd,by rw[<- rel.length]; exact hz,λv hv=>?_,λhn h' dd' hs=>?_]
 . have rv:=rel.val k;rw[hv] at rv;cases l:bN kvs k with
   | none=>rw[l] at rv; exact absurd rv (by intro z; cases z)
   | some v' =>
     rw[l] at rv;exact#[v',H3,I3.tok _,rv,q3 v' l]
 . have rv:=rel.val k;rw[hn] at rv;have l:bN kvs k=none:=by
     cases l:bN kvs k with
     | none=>rfl
     | some v'=>rw[l] at rv; exact absurd rv (by intro z; cases z)
   have hex:∃q,h'.get? a=some q:=let ⟨q,_,_,hq,_⟩:=dd'; #[q,hq]
   have hlp:(ao kvs k z).length<=sizeLine:=by have:=dh kvs k z; omega
   exact#[z,_,jc I3 (by rw[ea]; exact True.intro) hs hex (mI hlp hd (rel.put k rz) dd'),rz,q4 l]
end
noncomputable def jr (hi:Int) (n:Nat):It:=#[λi _=>i<n,λi H x H'=>H'=H/\x=.int (hi - i),λi _=>n<=i]
theorem Ej {P:Program} {K:W.Frag} {tg:Expr} (it:Addr) (hi:Int) (n:Nat):Turn P w K tg (jr hi n) [it] it (λi h=>IsRangeIter h it (hi+(i:Nat) * (-1)) ((n:Int) - (i:Nat)) (-1)) where
 mem:=by simp
 obj:=λi h st b hb=>by
   have e:b=it:=by simpa using hb
   subst e;exact#[_,st,λv z=>by cases (show Data.fields _=Data.cell v from z)]
 keep:=λi h h' st k=>k it (by simp) _ st
 item:=by
   intro X hP hw hK hc i pins s σ H E I hf st hg;subst hP hw hK;refine(Walks.range (prog:=X.prog) (w:=X.w) (I.ok.hd hc) it hi (-1) n).item i s _ _ hg st λv h' tk hv st' kk=>?_;obtain⟨t,rfl⟩:=hv;have I1:Inv X pins σ H { s with heap:=h',toks:=tk }:=I.turnedL (ch:=[it]) (λb o hb e=>kk b o hb e) hf;have e:hi+(i:Int) * (-1)=hi - (i:Int):=by omega
   exact#[_,rfl,lC (s:={ s with heap:=h',toks:=tk }) (n:="range_iterator") st' rfl rfl (by decide) #[.int (hi - i),H,I1,#[t,by rw[e]],#[rfl,rfl],st',λb hb=>(hf b hb).1]]
 done:=by intro X hP hw hK hc i pins s σ H E I hf st hg;subst hP hw hK;exact wpAny_pyNext_range_end (I.ok.hd hc) st (by have:n<=i:=hg; omega) λh' eb=>#[rfl,I.turnedL (t':=s.toks) (ch:=[it]) (λb o hb e=>eb b o (λz=>hb (by simp [z])) e) hf]
 self:=λ_ _ _ _ _ st h=>wpAny_pyIter_rangeiter st h
theorem wg (a b:Int):Builtin.Range.rangeSize a b (-1)=if b<a then a - b else 0:=by
 unfold Builtin.Range.rangeSize;rw[IW (by decide)];have:(-(-1):Int)=1:=by decide
 rw[this];rw[Int.ediv_one];by_cases h:b<a
 . rw[Ig h,Ig h]; omega
 . rw[IW h,IW h]
theorem GV {a b:Int} (ha:-(2 ^ 60)<=a) (ha':a<2 ^ 60) (hb:-(2 ^ 60)<=b) (hb':b<2 ^ 60):Builtin.Range.small a b (-1)=true:=by
 unfold Builtin.Range.small;rw[wg];simp only[Builtin.Range.rangeFitsLong,J4,Bool.or_eq_true,JX,LF,show ¬ ((-1:Int) > 0) by decide,if_false];by_cases h:b<a
 . simp only[Ig h]; omega
 . simp only[IW h]; omega
section
variable {X:Cx} {tg:Expr}
noncomputable def CA (ta:TA):TI:=λσ H R=>ta σ H λvs H1=>∃i j:Int,vs=[.int i,.int j,.int (-1)]/\(-(2 ^ 60)<=i/\i<2 ^ 60/\-(2 ^ 60)<=j/\j<2 ^ 60)/\R (jr i (i - j).toNat) H1
theorem DP {a b c:Expr} {ta:TA} {p:Pos}(hg:Gl X "range") (hm:X.mg "range"=none) (ha:PA X [a,b,c] ta) (hs:starEach [a,b,c] X.env=(false,eval a X.env) :: starEach [b,c] X.env:=by rfl) (hs2:(backTo pos (starEach [b,c] X.env)).any (·.1)=false:=by rfl) :
   PI X tg (.Call (.Name "range" p) [a,b,c] [] pos) (CA ta):=by
 intro pins s σ H R I h;refine Call_ (gE I hg hm boot_range (JL (am (ha pos pins s σ H _ I h) λus s1 ⟨vs,H1,I1,r1,q1⟩=>?_) hs hs2));obtain⟨i,j,e,⟨q1,q2,q3,q4⟩,q⟩:=q1;subst e;cases r1 with
 | cons r rr =>
   cases rr with
   | cons r' rr =>
     cases rr with
     | cons r'' rr =>
       cases rr;obtain⟨t,rfl⟩:=r;obtain⟨t',rfl⟩:=r';obtain⟨t'',rfl⟩:=r'';refine call_range_3 (by decide) ?_ (.inl (PyProof.noPylong_small (by omega)));refine wpAny_pyIter_range (IsRange.new ..) (GV q1 q2 q3 q4) ?_;have I2:Inv X pins σ H1 { s1 with heap:=s1.heap.push { cls:=.type "range",data:=.fields (List.toArray [.int i t,.int j t',.int (-1) t'']) },toks:=s1.toks }:=I1.kept λb o e=>IZ _ e;refine#[_,[(s1.heap.push { cls:=.type "range",data:=.fields (List.toArray [.int i t,.int j t',.int (-1) t'']) }).objs.size],_,_,H1,rfl,I2.kept (t':=s1.toks) λb o e=>IZ _ e,Ej _ i (i - j).toNat,?_,λb hb=>?_,q]
       . have e1:i+((0:Nat):Int) * (-1)=i:=by omega
         have e2:(((i - j).toNat:Nat):Int) - ((0:Nat):Int)=Builtin.Range.rangeSize i j (-1):=by rw[wg]; split <;> omega
         show IsRangeIter _ _ (i+((0:Nat):Int) * (-1)) ((((i - j).toNat:Nat):Int) - ((0:Nat):Int)) (-1);rw[e1,e2];exact Iz _ rfl
       . have e:b=(s1.heap.push { cls:=.type "range",data:=.fields (List.toArray [.int i t,.int j t',.int (-1) t'']) }).objs.size:=by simpa using hb
         subst e;exact I2.fpOk (Ib _) (I2.hok.fresh (Ib _))
theorem Gc {hi:Int} {n:Nat} {g:TG} {D:c8} (Pv:Nat->St->Hp->Prop) (h0:Pv 0 σ H) (hs:∀i σ H,i<n->Pv i σ H->g (.int (hi - i)) σ H λσ2 H2=>tb { D with nx:=Pv (i+1),ct:=Pv (i+1),bk:=D.nx } σ2 H2) (hd:∀σ H,Pv n σ H->D.nx σ H) :
   ∃W:Nat->Nat->St->Hp->Prop,(∃m,W 0 m σ H)/\∀i m σ H,W i m σ H->((jr hi n).stop i H/\D.nx σ H)\/((jr hi n).go i H/\∃N:St->Hp->Prop,(∀σ' H',N σ' H'->∃m',m'<m/\W (i+1) m' σ' H')/\∀x H',(jr hi n).yld i H x H'->g x σ H' λσ2 H2=>tb { D with nx:=N,ct:=N,bk:=D.nx } σ2 H2):=by
 refine#[λi m σ H=>m=n - i/\i<=n/\Pv i σ H,#[n,by simp,J2 _,h0],?_];rintro i m σ H ⟨rfl,hi',p⟩;by_cases hlt:i<n
 . refine .inr #[hlt,Pv (i+1),λσ' H' p'=>#[n - (i+1),by omega,rfl,hlt,p'],λx H' y=>?_];obtain⟨e,y⟩:=y;subst e y;exact hs i σ _ hlt p
 . have e:i=n:=by omega
   subst e;exact .inl #[Ib _,hd σ H p]
end
noncomputable def tJ (K:W.Frag):R2:=λx y H Q=>∃a b ys,x=.ref a/\y=.ref b/\aF K H a []/\aF K H b ys/\Q (.ref b) H
theorem BS {X:Cx}:bT X (binaryOp .Add) (tJ X.K):=by
 intro pins s σ H x y v u Q I rx ry h;obtain⟨a,b,ys,rfl,rfl,ha,hb,q⟩:=h;cases rx;cases ry;obtain⟨its,r1,p1,_⟩:=I.tuple ha;obtain⟨its2,r2,p2,_⟩:=I.tuple hb;obtain⟨⟨cls,dd,data,sl⟩,ho,hc,n,hd⟩:=id p1;obtain⟨⟨cls2,dd2,data2,sl2⟩,ho2,hc2,n2,hd2⟩:=id p2;simp only at hc hd hc2 hd2;subst hc hd hc2 hd2;exact concat_meets #[_,ho,rfl] #[_,ho2,rfl] noFill_tuple_add seq_tuple_add Kg KU (KQ _ _)
   (tuple_addW0 a b its.toArray its2.toArray n n2 dd dd2 sl sl2 (by simp [r1.nil_iff.mpr rfl])) #[ho,ho2,#[.ref b,H,I,rfl,q]]
theorem Eb {X:Cx} {st:Stmt} {rest:List Stmt} {t u:TS} (h1:PS X st t) (h2:bQ X rest u):bQ X (st :: rest) (λD σ H=>∃M:St->Hp->Prop,t { D with nx:=M } σ H/\∀σ' H',M σ' H'->u D σ' H'):=by
 intro pins s σ H D I h;obtain⟨M,h,hm⟩:=h;refine LI (am (h1 pins s σ H { D with nx:=M } I h) λf s1 q=>?_);cases f with
 | next =>
   obtain⟨σ',H',I',q⟩:=q;exact h2 pins s1 σ' H' D I' (hm _ _ q)
 | ret v=>exact q
 | brk=>exact q
 | cont=>exact q
end L2
namespace L2
open PySem PySem.Spec PyProof.Rows PySem.W
theorem Paired.len {α β:Type} {R:α->β->Prop}:∀{xs:List α} {ys:List β},Paired R xs ys->xs.length=ys.length
 | _,_,.nil=>rfl
 | _,_,.cons _ r=>by rw[J6,J6,Paired.len r]
noncomputable def Ea:List V->Hp->VK->Prop:=λxs H Q=>∃a kvs,xs=[.ref a]/\H a=some (.dK kvs)/\∀d,H d=none->Q (.ref d) (upd H d (.dK kvs))
theorem Gn {X:Cx}:bt X (.type "dict") Ea:=by intro pins s σ H xs us Q I r h;obtain⟨a,kvs,rfl,hH,q⟩:=h;obtain⟨u,rfl,ru⟩:=gY r;cases (show u=Value.ref a from ru);obtain⟨z,ha,vs,rel,da⟩:=I.hok a _ hH;refine kt_call_dict ha da (by rw[<- Paired.len rel]; exact z) λh' hm hs=>?_;have hk:∀b u,s.heap.get? b=some u->h'.get? b=some u:=λb u e=>hs.extBut b u (J8 (Ip e)) (IZ _ e);exact#[.ref s.heap.objs.size,_,I.laid (a:=s.heap.objs.size) (o:=.dK kvs) (t':=s.toks) hk (Ib _) #[z,beq_eq_false_iff_ne.mpr (Ne.symm (J8 I.big)),vs,rel,hm],rfl,q _ (I.hok.fresh (Ib _))]
end L2
namespace L2
open PySem PySem.Spec PyProof.Rows
noncomputable def bF (n:Nat) (d:PyData):Prop:=PyData.canLay0 d=true/\PyData.depth d<=n
variable {n:Nat}
theorem bF.int (i:Int):bF n (.int i):=#[by unfold PyData.canLay0; rfl,by unfold PyData.depth; exact J2 _]
theorem bF.bool (b:Bool):bF n (.bool b):=#[by unfold PyData.canLay0; rfl,by unfold PyData.depth; exact J2 _]
theorem bF.none :bF n .none:=#[by unfold PyData.canLay0; rfl,by unfold PyData.depth; exact J2 _]
theorem bF.str {x:Str} (h:PyData.strOk x=true):bF n (.str x):=#[by unfold PyData.canLay0; exact h,by unfold PyData.depth; exact J2 _]
theorem pU {n:Nat}:∀{ds:List PyData},(∀d∈ds,bF n d)->PyData.canLayAll0 ds=true/\PyData.depthAll ds<=n
 | [],_=>#[by unfold PyData.canLayAll0; rfl,by unfold PyData.depthAll; exact J2 _]
 | d :: ds,h=>by
   have h1:=h d Ii;have h2:=pU (λx hx=>h x (Im _ hx));constructor
   . unfold PyData.canLayAll0; rw[h1.1,h2.1]; rfl
   . unfold PyData.depthAll; exact Nat.max_le.mpr #[h1.2,h2.2]
theorem bF.list {ds:List PyData} (h:∀d∈ds,bF n d):bF (n+1) (.list ds):=by have h2:=pU h;exact#[by unfold PyData.canLay0; exact h2.1,by unfold PyData.depth; have:=h2.2; omega]
theorem bF.tuple {ds:List PyData} (h:∀d∈ds,bF n d):bF (n+1) (.tuple ds):=by have h2:=pU h;exact#[by unfold PyData.canLay0; exact h2.1,by unfold PyData.depth; have:=h2.2; omega]
theorem bF.shaped {n:Nat} {d:PyData} (h:bF n d) (hn:n<=64):SeqAt.shaped d=true:=by unfold SeqAt.shaped;rw[h.1,IV (J7 h.2 hn)];rfl
theorem bF.refl {d:PyData} (h:bF n d):PyData.eqv d d=true:=SeqAt.eqv_refl d h.1
theorem bF.mono {m:Nat}{d:PyData} (h:bF n d) (hn:n<=m):bF m d:=#[h.1,J7 h.2 hn]
variable {H:Hp}
theorem DW {K:W.Frag} {x y:V} {Q:VK} {d:PyData} (hn:n<=64) (l:bF n d) (hx:bC K H d x) (hy:bC K H d y) (q:Q (.bl true) H):j1 K x y H Q :=
 #[d,d,hx,hy,l.shaped hn,l.shaped hn,by rw[l.refl]; exact q]
mutual
theorem bC.mono {K:W.Frag} {H H':Hp} (e:aB H H'):∀(d:PyData) (v:V),bC K H d v->bC K H' d v
 | .none,v,h=>by unfold bC at h ⊢; exact h
 | .bool b,v,h=>by unfold bC at h ⊢; exact h
 | .int i,v,h=>by unfold bC at h ⊢; exact h
 | .str x,v,h=>by unfold bC at h ⊢; exact h
 | .list ds,v,h=>by unfold bC at h ⊢;obtain⟨a,xs,rfl,hq,hd⟩:=h;exact#[a,xs,rfl,e.seq hq,bK.mono e ds xs hd]
 | .tuple ds,v,h=>by unfold bC at h ⊢;obtain⟨a,xs,rfl,hq,hd⟩:=h;exact#[a,xs,rfl,e.tup hq,bK.mono e ds xs hd]
 | .dict _,v,h=>by unfold bC at h; exact h.elim
theorem bK.mono {K:W.Frag} {H H':Hp} (e:aB H H'):∀(ds:List PyData) (xs:List V),bK K H ds xs->bK K H' ds xs
 | [],xs,h=>by unfold bK at h ⊢; exact h
 | d :: ds,xs,h=>by unfold bK at h ⊢;obtain⟨x,r,rfl,hd,hds⟩:=h;exact#[x,r,rfl,bC.mono e d x hd,bK.mono e ds r hds]
end
noncomputable def ers (l:Addr) (H:Hp):Hp:=λb=>if b=l then none else H b
theorem cC {l b:Addr} (h:b≠l):ers l H b=H b:=by unfold ers; rw[IW h]
theorem dq {l:Addr} :aB (ers l H) H:=λb o h=>by
 unfold ers at h;split at h
 . cases h
 . exact h
theorem gt {l:Addr} {o:HO}:ers l (upd H l o)=ers l H:=by funext b;unfold ers upd;split <;> rfl
theorem aB.ers {l:Addr} {H H':Hp} (e:aB H H'):aB (ers l H) (ers l H'):=λb o h=>by
 unfold L2.ers at h ⊢;split at h
 . cases h
 . rename_i hb
   rw[IW hb];exact e b o h
section
variable {g:TG} {tif:TT} {te:TE} {js:List (Option Nat)} {σ:St} {H:Hp} {Q:VK}
theorem BC {lo:Int} {p:Addr} (f:Nat->V) (hn:n<=1000000) (hp:H p=none)
   (hs:∀i H2 (R:VK),i<n->aB H H2->R (f i) H2->g (.int (lo+i)) (cO js σ) H2 λσ2 H3=>tif σ2 H3 λc H4=>if c=true then te σ2 H4 R else False)
   (hd:∀H2,aB H H2->H2 p=some (.lst ((List.range n).map f))->Q (.ref p) H2) (mono:∀x H2 (M M':St->Hp->Prop),(∀σ' H',M σ' H'->M' σ' H')->g x (cO js σ) H2 M->g x (cO js σ) H2 M':=by intro _ _ _ _ h z; exact h _ _ z) (mon2:∀σ2 H2 (M M':Bool->Hp->Prop),(∀c H',M c H'->M' c H')->tif σ2 H2 M->tif σ2 H2 M':=by intro _ _ _ _ h z; exact h _ _ z) :
   gy (gT lo n) g tif te js σ Q p H:=by
 refine qm hn (λi acc H2=>aB H H2/\H2 p=some (.lst acc)/\acc=(List.range i).map f) #[aB.new hp,aI,rfl] ?_ ?_ ?_
 . rintro i acc H2 hi ⟨s2,e2,rfl⟩;exact#[e2,by rw[IX,K2]; exact Ib _]
 . rintro i acc H2 hi ⟨s2,e2,rfl⟩;refine mono _ _ _ _ (λσ' H' z=>?_) (hs i H2 (λy H5=>H5 p=some (.lst ((List.range i).map f))/\(aB H (upd H5 p (.lst ((List.range i).map f++[y])))/\upd H5 p (.lst ((List.range i).map f++[y])) p=some (.lst ((List.range i).map f++[y]))/\(List.range i).map f++[y]=(List.range (i+1)).map f)) hi s2 #[e2,s2.upd hp,aI,?_])
   . refine mon2 _ _ _ _ (λc H'' zz=>?_) z;cases c with
     | true=>exact zz
     | false=>exact zz.elim
   . rw[List.range_succ,J0];rfl
 . rintro acc H2 ⟨s2,e2,rfl⟩;exact hd H2 s2 e2
end
end L2
namespace Gx
open PySem L2
theorem dw:0<=sizeLine:=by decide
theorem dE:1<=sizeLine:=by decide
theorem ay:2<=sizeLine:=by decide
theorem cV:3<=sizeLine:=by decide
theorem eI:4<=sizeLine:=by decide
theorem oF:5<=sizeLine:=by decide
theorem cb {n:Nat} (h:n<1000000):n<=sizeLine:=by
 have:(1000000:Nat)<sizeLine:=by decide
 omega
theorem at0 {x:V} {r:List V}:bI (x :: r) 0=some x:=by unfold bI cX;rw[Ig (by decide),Ig (by simp)];rfl
theorem gh (z n:Int) (h:0<n):0<=z%n/\z%n<n:=#[KD _ (by omega),Jw _ h]
theorem FJ {α:Type} {es:List α} {f:α->V} {i:Nat} {x:V} (h:(es.map f)[i]?=some x):∃e,es[i]?=some e/\e∈es/\x=f e:=by
 rw[Iu] at h;cases he:es[i]? with
 | none=>rw[he] at h; cases h
 | some e=>rw[he] at h; cases h; exact#[e,rfl,Ij he,rfl]
end Gx
namespace L2
open PySem PySem.Spec PyProof.Rows
noncomputable def CH (K:W.Frag) (ta:TE):TT:=λσ H Q=>ta σ H λx H'=>∃k,oj K x H' k/\Q k H'
theorem qu {X:Cx} {K:W.Frag} {a:Expr} {ta:TE} (hK:X.K=K) (ha:PE X a ta) (he:∀whole,isTrue a X.env whole=(do let v <- whole; standAt a.pos; holding [v] (truthy v))):PT X a (CH K ta):=by subst hK;exact F7 ha he
end L2
namespace Gx
open PySem L2
noncomputable def tx (l:List Nat):Str:=#[l.toArray]
theorem jf (l:List Nat):(tx l).cps.toList=l:=by unfold tx; simp
theorem gA (l:List Nat):(tx l).length=l.length:=by unfold tx Str.length; simp
theorem jX (a b:List Nat):tx a++tx b=tx (a++b):=by show(#[_++_]:Str)=_;unfold tx;simp
theorem lT {a b:List Nat} (h:tx a=tx b):a=b:=by rw[<- jf a,h,jf]
theorem CL (y:Str) (ys:List Str):PySem.Txt.join "" (y :: ys)=y++PySem.Txt.join "" ys:=by
 show PySem.Builtin.Str.glued ("":Str) (y :: ys)=y++PySem.Builtin.Str.glued ("":Str) ys;rw[PySem.StrLaws.glued_eq_join,PySem.StrLaws.glued_eq_join];cases ys with
 | nil =>
   show y=y++Str.empty;cases y;show _=(#[_++(List.toArray [])]:Str);simp
 | cons z zs =>
   show y++""++Str.join "" (z :: zs)=_;have:y++("":Str)=y:=by cases y;show(#[_++(List.toArray [])]:Str)=_;simp
   rw[this]
theorem uZ:∀(ls:List (List Nat)),PySem.Txt.join "" (ls.map tx)=tx ls.flatten
 | []=>by show PySem.Builtin.Str.glued ("":Str) []=_;rw[PySem.StrLaws.glued_eq_join];rfl
 | l :: ls=>by rw[Ix,CL,uZ ls,jX,Jr]
end Gx
namespace L2
open PySem PySem.Spec PyProof.Rows
noncomputable def kR (K:W.Frag) (a:Addr):It :=
 #[λi H=>∃xs x,aJ K H a xs/\xs[i]?=some x,λi H y H'=>∃b,y=.ref b/\H b=none/\∀xs x,aJ K H a xs->xs[i]?=some x->H'=upd H b (.tup [.int i,x]),λi H=>∃xs,aJ K H a xs/\xs.length=i]
theorem FP {P:Program} {w:World} {K:W.Frag} {elts:List Expr} {k:Nat} {pos:Pos} (a e it:Addr) (hne:e≠it):Turn P w K (.Tuple elts k pos) (kR K a) [e,it] e (λi h=>(∃old,IsEnum h e it i old)/\h.IsListIter it a i) where
 mem:=by simp
 obj:=λi h st b hb=>by
   obtain⟨⟨old,he⟩,⟨o,ho,hc,hd⟩⟩:=st;rcases Io.mp hb with z|z
   . subst z;exact#[_,he,λv z=>by cases (show Data.fields _=Data.cell v from z)]
   . have z:b=it:=by simpa using z
     subst z;exact#[o,ho,λv z=>by rw[hd] at z; cases z]
 keep:=λi h h' st kk=>by obtain⟨⟨old,he⟩,⟨o,ho,r⟩⟩:=st;exact#[#[old,kk e (by simp) _ he],#[o,kk it (by simp) o ho,r]]
 item:=by
   intro X hP hw hK hc i pins s σ H E I hf st hg;subst hP hw hK;obtain⟨⟨old,he⟩,hit⟩:=st;obtain⟨xs,x,hq,hx⟩:=hg;obtain⟨its,rv,p,hz⟩:=I.list hq;have pt:s.heap.IsList a its.toArray:=p.isList;obtain⟨u,hu,ru⟩:=rv.get hx;have hia:a≠it:=λz=>by
     subst z;obtain⟨o1,h1,c1,_⟩:=hit;obtain⟨o2,h2,c2,_⟩:=pt;rw[h1] at h2;cases h2;rw[c1] at c2;injection c2 with c2
     exact absurd c2 (by decide)
   have hea:e ∉ [it,a]:=λz=>by
     rcases Io.mp z with z|z
     . exact hne z
     . have z:e=a:=by simpa using z
       subst z;obtain⟨o2,h2,c2,_⟩:=pt;rw[he] at h2;cases h2;injection (show Value.type "enumerate"=Value.type "list" from c2) with c2
       exact absurd c2 (by decide)
   have hlt:i<its.toArray.size:=by have:=(Ic.mp hu).1;simpa using this
   refine LR (Draws.list (A:=X.A.in1) (I.ok.hd hc) it a hia its.toArray) he #[hit,pt] hlt hne hea λy h' tk hy hout hst hT hsz hk=>?_;refine#[_,rfl,L7 hout λh2 he2 hs2=>?_];have hs2:Heap.SameBut e h' h2:=hs2;have hyu:y=u:=by
     have hy:its.toArray[i]?=some y:=hy;have:its[i]?=some y:=by simpa using hy
     rw[hu] at this;exact(Option.some.inj this).symm
   subst hyu;have helt:e<s.heap.objs.size:=Ip he;have hfr:H s.heap.objs.size=none:=I.hok.fresh (Ib _);have hnS:s.heap.objs.size≠e:=K6 helt;have hT2:h2.get? s.heap.objs.size=some { cls:=.type "tuple",data:=.seq (List.toArray [.int i tk,y]) }:=(hs2.2 _ hnS).trans hT;refine#[.ref s.heap.objs.size,upd H s.heap.objs.size (.tup [.int i,x]),I.turnLaid (t':=tk+1) (ch:=[e,it]) (λb o hb q=>?_) hf (Ib _) ?_,rfl,#[s.heap.objs.size,rfl,hfr,λxs' x' hq' hx'=>?_],#[#[y,by exact_mod_cast he2],?_],λb hb=>?_]
   . have h1:b≠e:=λz=>hb (by simp [z]);have h3:b≠it:=λz=>hb (by simp [z]);exact(hs2.2 b h1).trans (hk b o h1 h3 q)
   . exact#[by show 2<=sizeLine; decide,[.int i tk,y],.cons #[tk,rfl] (.cons ru .nil),#[_,hT2,rfl,_,rfl]]
   . have:=I.list_inj hq' hq;subst this;rw[hx] at hx';cases hx';rfl
   . obtain⟨⟨o,ho,r⟩,_⟩:=hst;exact#[o,(hs2.2 it hne.symm).trans ho,r]
   . have hb0:=(hf b hb).1;rw[aw]
     . exact hb0
     . intro z;subst z;obtain⟨o,ho,_⟩:=hit;rcases Io.mp hb with z|z
       . exact hnS z
       . have z:s.heap.objs.size=it:=by simpa using z
         exact absurd (Ip ho) (by rw[<- z]; exact JN _)
 done:=by
   intro X hP hw hK hc i pins s σ H E I hf st hg;subst hP hw hK;obtain⟨⟨old,he⟩,hit⟩:=st;obtain⟨xs,hq,hx⟩:=hg;obtain⟨its,rv,p,hz⟩:=I.list hq;have pt:s.heap.IsList a its.toArray:=p.isList;have hl:=rv.length;have hia:a≠it:=λz=>by
     subst z;obtain⟨o1,h1,c1,_⟩:=hit;obtain⟨o2,h2,c2,_⟩:=pt;rw[h1] at h2;cases h2;rw[c1] at c2;injection c2 with c2
     exact absurd c2 (by decide)
   have hi:i=its.toArray.size:=by simp; omega
   refine wpAny_pyNext_enum_endD (Draws.list (A:=X.A.in1) (I.ok.hd hc) it a hia its.toArray) he (by rw[<- hi]; exact#[hit,pt]) λh' eb=>#[rfl,?_]
   exact I.turnedL (t':=s.toks) (ch:=[e,it]) (λb o hb q=>eb b o (λz=>hb (by simp [z])) q) hf
 self:=λ_ _ _ _ _ st h=>by obtain⟨⟨old,he⟩,_⟩:=st;exact Kc he h
section
variable {X:Cx}
noncomputable def zn (K:W.Frag) (ta:TA):TI:=λσ H R=>ta σ H λvs H1=>∃a,vs=[.ref a]/\(∃xs,aJ K H1 a xs)/\R (kR K a) H1
theorem Ad {a:Expr} {ta:TA} {p pos tpos:Pos} {elts:List Expr} {k:Nat} (hg:Gl X "enumerate") (hm:X.mg "enumerate"=none) (ha:PA X [a] ta) (hs:starEach [a] X.env=[(false,eval a X.env)]:=by rfl):PI X (.Tuple elts k tpos) (.Call (.Name "enumerate" p) [a] [] pos) (zn X.K ta):=by
 intro pins s σ H R I h;refine Call_ (gE I hg hm uX (JL (am (ha pos pins s σ H _ I h) λus s1 ⟨vs,H1,I1,r1,q1⟩=>?_) hs rfl));obtain⟨a,e,⟨xs,hq⟩,q⟩:=q1;subst e;cases r1 with
 | cons r rr =>
   cases rr;cases r;obtain⟨its,rv,p,hz⟩:=I1.list hq;refine call_enumerate_list p.isList λh' he hit _ hk=>?_;refine Kc he ?_;refine#[s1.heap.objs.size+1,[s1.heap.objs.size+1,s1.heap.objs.size],_,_,H1,rfl,I1.kept (t':=s1.toks) hk,FP a (s1.heap.objs.size+1) s1.heap.objs.size (Nat.succ_ne_self _),#[#[.none,he],hit],λb hb=>?_,q];rcases Io.mp hb with z|z
   . subst z;exact I1.fpOk (Kf _) (I1.hok.fresh (Kf _))
   . have z:b=s1.heap.objs.size:=by simpa using z
     subst z;exact I1.fpOk (Ib _) (I1.hok.fresh (Ib _))
theorem AU {K:W.Frag} {a:Addr} {xs:List V} {g:TG} {tb:TS} {D:c8} {σ:St} {H:Hp} (Pv:Nat->St->Hp->Prop) (h0:Pv 0 σ H) (hl:∀i σ H,i<=xs.length->Pv i σ H->aJ K H a xs)
   (hs:∀i x σ H b,xs[i]?=some x->Pv i σ H->H b=none->g (.ref b) σ (upd H b (.tup [.int i,x])) λσ2 H2=>tb { D with nx:=Pv (i+1),ct:=Pv (i+1),bk:=D.nx } σ2 H2) (hd:∀σ H,Pv xs.length σ H->D.nx σ H) :
   ∃W:Nat->Nat->St->Hp->Prop,(∃m,W 0 m σ H)/\∀i m σ H,W i m σ H->((kR K a).stop i H/\D.nx σ H)\/((kR K a).go i H/\∃N:St->Hp->Prop,(∀σ' H',N σ' H'->∃m',m'<m/\W (i+1) m' σ' H')/\∀x H',(kR K a).yld i H x H'->g x σ H' λσ2 H2=>tb { D with nx:=N,ct:=N,bk:=D.nx } σ2 H2):=by
 refine#[λi m σ H=>m=xs.length - i/\i<=xs.length/\Pv i σ H,#[xs.length,by simp,J2 _,h0],?_];rintro i m σ H ⟨rfl,hi,p⟩;have q:=hl i σ H hi p;by_cases hlt:i<xs.length
 . refine .inr #[#[xs,xs[i],q,by simp [hlt]],Pv (i+1),λσ' H' p'=>#[xs.length - (i+1),by omega,rfl,hlt,p'],λx H' y=>?_];obtain⟨b,rfl,hb,y⟩:=y;rw[y xs xs[i] q (by simp [hlt])];exact hs i xs[i] σ H b (by simp [hlt]) p hb
 . have e:i=xs.length:=by omega
   subst e;exact .inl #[#[xs,q,rfl],hd σ H p]
end
end L2
namespace PySem
open Sem (wp)
noncomputable def bV (b:Bool) (h:Heap) (it l:Addr) (k:Nat):Prop:=match b with|true=>h.IsTupleIter it l k|false=>h.IsListIter it l k
noncomputable def br (b:Bool) (h:Heap) (l:Addr) (xs:Array Value):Prop:=match b with|true=>h.IsTuple l xs|false=>h.IsList l xs
variable {b:Bool} {h h':Heap} {it l:Addr}
theorem bV.at {k:Nat} (p:bV b h it l k) (e:∀o,h.get? it=some o->h'.get? it=some o):bV b h' it l k:=by cases b <;> (obtain⟨o,ho,r⟩:=p; exact#[o,e o ho,r])
variable {xs:Array Value}
theorem br.at (p:br b h l xs) (e:∀o,h.get? l=some o->h'.get? l=some o):br b h' l xs:=by cases b <;> (obtain⟨o,ho,r⟩:=p; exact#[o,e o ho,r])
theorem bV.extBut {c:Addr}{k:Nat} (p:bV b h it l k) (e:Heap.ExtBut c h h') (n:it≠c):bV b h' it l k:=p.at λo ho=>e _ _ n ho
theorem br.extBut {c:Addr}(p:br b h l xs) (e:Heap.ExtBut c h h') (n:l≠c):br b h' l xs:=p.at λo ho=>e _ _ n ho
theorem bV.lt {k:Nat} (p:bV b h it l k):it<h.objs.size:=by cases b <;> (obtain⟨o,ho,r⟩:=p; exact Ip ho)
variable {b1 b2:Bool} {z i1 i2 l1 l2:Addr} {k1 k2:Nat} {ys:Array Value}
section
variable {prog:Program} {w:World} {A:Around} {E:Value->Shared->Prop} {s:Shared}
theorem jI {i:Nat} {items:Array Value} {x:Value} {Q:Value->Shared->Prop} (p:bV b s.heap it l i) (q:br b s.heap l items) (hx:items[i]?=some x)
   (hQ:∀h',bV b h' it l (i+1)->Heap.SameBut it s.heap h'->Q x { s with heap:=h' }):wpAny (model prog w) A (Builtin.SmallTypes.nextOf (.ref it)) Q E s:=by
 cases b with
 | true=>exact L2.gx_nextOf_tup p q hx hQ
 | false=>exact wpAny_nextOf_list_item p q hx hQ
theorem mC {i:Nat} {items:Array Value} {Q:Value->Shared->Prop} (hh:A.handled=none) (p:bV b s.heap it l i) (q:br b s.heap l items) (hx:items[i]?=none)
   (hE:∀h' e,Heap.ExtBut it s.heap h'->(∃o,h'.get? e=some o/\o.cls=.type "StopIteration")->E (.ref e) { s with heap:=h' }):wpAny (model prog w) A (Builtin.SmallTypes.nextOf (.ref it)) Q E s:=by
 cases b with
 | true=>exact L2.gx_nextOf_tup_end hh p q hx hE
 | false=>exact wpAny_nextOf_list_end hh p q hx hE
theorem Fg {TI TO:Addr}{x y a b:Value} {Q:Value->Shared->Prop} (D:ZipApart z TI TO i1 i2 l1 l2)
   (zZ:IsZip s.heap z TI TO .none) (zI:IsPair s.heap TI (.ref i1) (.ref i2)) (zO:IsPair s.heap TO a b)
   (p1:bV b1 s.heap i1 l1 k1) (p2:bV b2 s.heap i2 l2 k2) (q1:br b1 s.heap l1 xs) (q2:br b2 s.heap l2 ys) (hx:xs[k1]?=some x) (hy:ys[k2]?=some y)
   (hQ:∀h',IsZip h' z TI TO (rawInt s.heap.objs.size)->IsPair h' TO x y->bV b1 h' i1 l1 (k1+1)->bV b2 h' i2 l2 (k2+1)->IsPair h' s.heap.objs.size x y->h'.objs.size=s.heap.objs.size+1 ->
     (∀c o,c≠z->c≠TO->c≠i1->c≠i2->s.heap.get? c=some o->h'.get? c=some o)->Q (.ref s.heap.objs.size) { s with heap:=h' }) :
   wpAny (model prog w) A (Builtin.«zip.__next__» #[[.ref z],[]]) (λfin s'=>∃v,fin=.done (.ret v)/\Q v s') E s:=by
 show wpAny _ _ (field (.ref z) 2 >>= _) _ _ _; refine IU (JH zZ rfl (x:=.bool false) rfl ?_); show wpAny _ _ (field (.ref z) 3 >>= _) _ _ _; refine IU (JH zZ rfl (x:=.ref TI) rfl ?_); refine IU (Jg zI rfl ?_); show wpAny _ _ (Builtin.SmallTypes.ownedTupleIsFree (.ref z) >>= _) _ _ _; refine IU ?_; unfold Builtin.SmallTypes.ownedTupleIsFree; refine IU (JH zZ rfl (x:=.none) rfl (Ie ?_)); simp only[if_true]; refine IU (Kr ?_); refine IU (JH zZ rfl (x:=.ref TO) rfl ?_);refine IU (Jm zZ (by simp) λh₁ zZ₁ hs₁=>?_); replace zZ₁:IsZip h₁ z TI TO .ellipsis:=zZ₁; refine IU ?_; simp only[List.zipIdx_cons,List.zipIdx_nil,KN,K'];refine IU (IU (L8 ?_)); show wpAny _ _ (Builtin.SmallTypes.nextOf (.ref i1) >>= _) _ _ _; refine IU (jI (p1.extBut hs₁.extBut D.i1z) (q1.extBut hs₁.extBut D.l1z) hx λh₂ h1₂ hs₂=>Ie ?_); have hTO₂:IsPair h₂ TO a b:=hs₂.extBut _ _ D.TOi1 (hs₁.extBut _ _ D.TOz zO); refine IU (Jg hTO₂ rfl ?_); refine IU (Ks hTO₂ λh₃ hTO₃ hs₃=>?_); replace hTO₃:IsPair h₃ TO x b:=hTO₃; refine IU (wpAny_letGo (Ie ?_))
 refine IU (IU (L8 ?_)); show wpAny _ _ (Builtin.SmallTypes.nextOf (.ref i2) >>= _) _ _ _; refine IU (jI (((p2.extBut hs₁.extBut D.i2z).extBut hs₂.extBut D.i12.symm).extBut hs₃.extBut D.TOi2.symm)
   (((q2.extBut hs₁.extBut D.l2z).extBut hs₂.extBut D.l2i1).extBut hs₃.extBut D.l2TO) hy λh₄ h2₄ hs₄=>Ie ?_)
 have hTO₄:IsPair h₄ TO x b:=hs₄.extBut _ _ D.TOi2 hTO₃; refine IU (Jg hTO₄ rfl ?_); refine IU (Ks hTO₄ λh₅ hTO₅ hs₅=>?_); replace hTO₅:IsPair h₅ TO x y:=hTO₅; refine IU (wpAny_letGo (Ie (Ie ?_)));refine IU (Jg hTO₅ rfl ?_); refine IU (wpAny_newTuple ?_); have hsz:h₅.objs.size=s.heap.objs.size:=(by rw[hs₅.1,hs₄.1,hs₃.1,hs₂.1,hs₁.1]); have hz₅:IsZip h₅ z TI TO .ellipsis:=hs₅.extBut _ _ D.TOz.symm (hs₄.extBut _ _ D.i2z.symm (hs₃.extBut _ _ D.TOz.symm (hs₂.extBut _ _ D.i1z.symm zZ₁))); have hk₅:∀c o,c≠z->c≠TO->c≠i1->c≠i2->s.heap.get? c=some o->h₅.get? c=some o:=λc o c1 c2 c3 c4 e =>
   hs₅.extBut _ _ c2 (hs₄.extBut _ _ c4 (hs₃.extBut _ _ c2 (hs₂.extBut _ _ c3 (hs₁.extBut _ _ c1 e))))
 have h1₅:bV b1 h₅ i1 l1 (k1+1):=((h1₂.extBut hs₃.extBut D.TOi1.symm).extBut hs₄.extBut D.i12).extBut hs₅.extBut D.TOi1.symm; have h2₅:bV b2 h₅ i2 l2 (k2+1):=h2₄.extBut hs₅.extBut D.TOi2.symm; have hzlt:z<h₅.objs.size:=Ip hz₅; have hTOlt:TO<h₅.objs.size:=Ip hTO₅; have hi1lt:i1<h₅.objs.size:=bV.lt h1₅; have hi2lt:i2<h₅.objs.size:=bV.lt h2₅; show wpAny _ _ (Builtin.SmallTypes.ownedTupleHandOut (.ref z) (.ref h₅.objs.size) >>= _) _ _ _; refine IU ?_; unfold Builtin.SmallTypes.ownedTupleHandOut; have hz₆:IsZip (h₅.push { cls:=.type "tuple",data:=.seq (List.toArray [x,y]) }) z TI TO .ellipsis:=IZ _ hz₅
 refine IU (Jm hz₆ (by simp) λh₇ hz₇ hs₇=>?_); replace hz₇:IsZip h₇ z TI TO (rawInt h₅.objs.size):=hz₇; refine Jm hz₇ (by simp) λh₈ hz₈ hs₈=>?_; replace hz₈:IsZip h₈ z TI TO (rawInt h₅.objs.size):=hz₈; have up:∀c o,c≠z->h₅.get? c=some o->h₈.get? c=some o:=λc o c1 e=>hs₈.extBut _ _ c1 (hs₇.extBut _ _ c1 (IZ _ e)); have hT₈:IsPair h₈ h₅.objs.size x y:=hs₈.extBut _ _ (K6 hzlt) (hs₇.extBut _ _ (K6 hzlt) (Iz _ rfl)); have hz8:h₈.objs.size=h₅.objs.size+1:=(by rw[hs₈.1,hs₇.1,Jf])
 rw[hsz] at hz₈ hT₈ hz8;refine Ie #[_,rfl,?_]; show Q (.ref h₅.objs.size) _;rw[hsz];exact hQ h₈ hz₈ (up _ _ D.TOz hTO₅) (h1₅.at λo e=>up _ o D.i1z e) (h2₅.at λo e=>up _ o D.i2z e) hT₈ hz8 λc o c1 c2 c3 c4 e=>up c o c1 (hk₅ c o c1 c2 c3 c4 e)
theorem Cs {TI TO:Addr}{a b:Value} {Q:Fin->Shared->Prop} (hh:A.handled=none) (D:ZipApart z TI TO i1 i2 l1 l2)
   (zZ:IsZip s.heap z TI TO .none) (zI:IsPair s.heap TI (.ref i1) (.ref i2)) (zO:IsPair s.heap TO a b)
   (p1:bV b1 s.heap i1 l1 k1) (p2:bV b2 s.heap i2 l2 k2) (q1:br b1 s.heap l1 xs) (q2:br b2 s.heap l2 ys) (hend:xs[k1]?=none\/ys[k2]?=none)
   (hE:∀h' e,(∀c o,c≠z->c≠TO->c≠i1->c≠i2->s.heap.get? c=some o->h'.get? c=some o)->(∃o,h'.get? e=some o/\o.cls=.type "StopIteration")->E (.ref e) { s with heap:=h' }) :
   wpAny (model prog w) A (Builtin.«zip.__next__» #[[.ref z],[]]) Q E s:=by
 show wpAny _ _ (field (.ref z) 2 >>= _) _ _ _; refine IU (JH zZ rfl (x:=.bool false) rfl ?_); show wpAny _ _ (field (.ref z) 3 >>= _) _ _ _; refine IU (JH zZ rfl (x:=.ref TI) rfl ?_); refine IU (Jg zI rfl ?_); show wpAny _ _ (Builtin.SmallTypes.ownedTupleIsFree (.ref z) >>= _) _ _ _; refine IU ?_; unfold Builtin.SmallTypes.ownedTupleIsFree; refine IU (JH zZ rfl (x:=.none) rfl (Ie ?_)); simp only[if_true]; refine IU (Kr ?_); refine IU (JH zZ rfl (x:=.ref TO) rfl ?_);refine IU (Jm zZ (by simp) λh₁ zZ₁ hs₁=>?_); replace zZ₁:IsZip h₁ z TI TO .ellipsis:=zZ₁; refine IU ?_; simp only[List.zipIdx_cons,List.zipIdx_nil,KN,K']; refine IU (IU (L8 ?_)); show wpAny _ _ (Builtin.SmallTypes.nextOf (.ref i1) >>= _) _ _ _;cases hx:xs[k1]? with
 | none =>
   refine IU (mC hh (p1.extBut hs₁.extBut D.i1z) (q1.extBut hs₁.extBut D.l1z) hx λh₂ e hs₂ he=>?_); obtain⟨oe,hoe,hce⟩:=he; have hz₂:IsZip h₂ z TI TO .ellipsis:=hs₂ _ _ D.i1z.symm zZ₁; have hez:e≠z:=(λx=>by subst x; rw[hz₂] at hoe; cases hoe; simp at hce); refine Jm hz₂ (by simp) λh₃ _ hs₃=>hE h₃ e (λc o c1 _ c3 _ x=>hs₃.extBut _ _ c1 (hs₂ _ _ c3 (hs₁.extBut _ _ c1 x))) #[oe,hs₃.extBut _ _ hez hoe,hce]
 | some x =>
   have hy:ys[k2]?=none:=(by rcases hend with h|h; rw[hx] at h; cases h; exact h); refine IU (jI (p1.extBut hs₁.extBut D.i1z) (q1.extBut hs₁.extBut D.l1z) hx λh₂ h1₂ hs₂=>Ie ?_); have hTO₂:IsPair h₂ TO a b:=hs₂.extBut _ _ D.TOi1 (hs₁.extBut _ _ D.TOz zO); refine IU (Jg hTO₂ rfl ?_); refine IU (Ks hTO₂ λh₃ hTO₃ hs₃=>?_); refine IU (wpAny_letGo (Ie ?_)); refine IU (IU (L8 ?_)); show wpAny _ _ (Builtin.SmallTypes.nextOf (.ref i2) >>= _) _ _ _; refine IU (mC hh (((p2.extBut hs₁.extBut D.i2z).extBut hs₂.extBut D.i12.symm).extBut hs₃.extBut D.TOi2.symm)
     (((q2.extBut hs₁.extBut D.l2z).extBut hs₂.extBut D.l2i1).extBut hs₃.extBut D.l2TO) hy λh₄ e hs₄ he=>?_)
   obtain⟨oe,hoe,hce⟩:=he; have hz₄:IsZip h₄ z TI TO .ellipsis:=hs₄ _ _ D.i2z.symm (hs₃.extBut _ _ D.TOz.symm (hs₂.extBut _ _ D.i1z.symm zZ₁)); have hez:e≠z:=(λx=>by subst x; rw[hz₄] at hoe; cases hoe; simp at hce); refine Jm hz₄ (by simp) λh₅ _ hs₅=>hE h₅ e (λc o c1 c2 c3 c4 x=>hs₅.extBut _ _ c1 (hs₄ _ _ c4 (hs₃.extBut _ _ c2 (hs₂.extBut _ _ c3 (hs₁.extBut _ _ c1 x))))) #[oe,hs₅.extBut _ _ hez hoe,hce]
theorem wH {TI TO:Addr}{x y a b:Value} {Q:Option Value->Shared->Prop} (D:ZipApart z TI TO i1 i2 l1 l2)
   (zZ:IsZip s.heap z TI TO .none) (zI:IsPair s.heap TI (.ref i1) (.ref i2)) (zO:IsPair s.heap TO a b)
   (p1:bV b1 s.heap i1 l1 k1) (p2:bV b2 s.heap i2 l2 k2) (q1:br b1 s.heap l1 xs) (q2:br b2 s.heap l2 ys) (hx:xs[k1]?=some x) (hy:ys[k2]?=some y)
   (hQ:∀h',IsZip h' z TI TO (rawInt s.heap.objs.size)->IsPair h' TO x y->bV b1 h' i1 l1 (k1+1)->bV b2 h' i2 l2 (k2+1)->IsPair h' s.heap.objs.size x y->h'.objs.size=s.heap.objs.size+1 ->
     (∀c o,c≠z->c≠TO->c≠i1->c≠i2->s.heap.get? c=some o->h'.get? c=some o)->Q (some (.ref s.heap.objs.size)) { s with heap:=h' }) :
   wpAny (model prog w) A (pyNext (.ref z)) Q E s:=by
 have hT:s.TypeIs (.ref z) "zip":=#[_,zZ,rfl]; unfold pyNext;exact IU (L9 (wpAny_callSpecial?_slot (name:=Str.ofString "__next__") hT Jo
   (JU Jo hT Kj
     (Fg D zZ zI zO p1 p2 q1 q2 hx hy λh' a1 a2 a3 a4 a5 a6 a7=>Ie (hQ h' a1 a2 a3 a4 a5 a6 a7)) (Kd _))))
theorem wO {TI TO:Addr}{a b:Value} {Q:Option Value->Shared->Prop} (hh:A.handled=none) (D:ZipApart z TI TO i1 i2 l1 l2)
   (zZ:IsZip s.heap z TI TO .none) (zI:IsPair s.heap TI (.ref i1) (.ref i2)) (zO:IsPair s.heap TO a b)
   (p1:bV b1 s.heap i1 l1 k1) (p2:bV b2 s.heap i2 l2 k2) (q1:br b1 s.heap l1 xs) (q2:br b2 s.heap l2 ys) (hend:xs[k1]?=none\/ys[k2]?=none)
   (hQ:∀h',(∀c o,c≠z->c≠TO->c≠i1->c≠i2->s.heap.get? c=some o->h'.get? c=some o)->Q none { s with heap:=h' }):wpAny (model prog w) A (pyNext (.ref z)) Q E s:=by
 have hT:s.TypeIs (.ref z) "zip":=#[_,zZ,rfl]; unfold pyNext; refine IU (L9 (wpAny_callSpecial?_slot (name:=Str.ofString "__next__") hT Jo
   (JU Jo hT Kj (Cs hh D zZ zI zO p1 p2 q1 q2 hend λh' e hk he=>?_) (Kd _))))
 obtain⟨o,ho,hc⟩:=he; refine IU (wpAny_isInstance (T:="StopIteration") (b:=true) #[o,ho,hc] isSubtype_stop ?_);exact Ie (hQ _ hk)
end
noncomputable def dm (b:Bool) (l:Addr):Obj:={ cls:=.type (match b with|true=>"tuple_iterator" | false=>"list_iterator"),data:=.fields (List.toArray [.ref l,.int 0 0]) }
theorem DQ (b1 b2:Bool) (l1 l2:Addr) (xs ys:Array Value) :
   Meets (Builtin.«zip.__new__» #[[.type "zip",.ref l1,.ref l2],[]]) (λ_ R s=>br b1 s.heap l1 xs/\br b2 s.heap l2 ys /\
     R (.ok (.ret (.ref ((((s.heap.push (dm b1 l1)).push (dm b2 l2)).push { cls:=.type "tuple",data:=.seq (List.toArray [.ref s.heap.objs.size,.ref (s.heap.push (dm b1 l1)).objs.size]) }).push { cls:=.type "tuple",data:=.seq (List.toArray [.none,.none]) }).objs.size)))
       { s with heap:=(((((s.heap.push (dm b1 l1)).push (dm b2 l2)).push { cls:=.type "tuple",data:=.seq (List.toArray [.ref s.heap.objs.size,.ref (s.heap.push (dm b1 l1)).objs.size]) }).push { cls:=.type "tuple",data:=.seq (List.toArray [.none,.none]) }).push
         { cls:=.type "zip",data:=.fields (List.toArray [.none,.bool false,.bool false,.ref ((s.heap.push (dm b1 l1)).push (dm b2 l2)).objs.size,.ref (((s.heap.push (dm b1 l1)).push (dm b2 l2)).push { cls:=.type "tuple",data:=.seq (List.toArray [.ref s.heap.objs.size,.ref (s.heap.push (dm b1 l1)).objs.size]) }).objs.size]) }) }) :=
 .of_wp λprog w A R s h=>by
   obtain⟨hp,g,d,tk,os⟩:=s; obtain⟨q1,q2,h⟩:=h;have hsub:=sub_zip;have q2':br b2 (hp.push (dm b1 l1)) l2 ys:=q2.at λo e=>IZ _ e;cases b1 with
   | true =>
     have hL1:Heap.IsTuple (Shared.heap ⟨hp,g,d,tk,os⟩) l1 xs:=q1;cases b2 with
     | true =>
       have hL2:Heap.IsTuple (Shared.heap ⟨hp.push { cls:=.type "tuple_iterator",data:=.fields (List.toArray [.ref l1,.int 0 0]) },g,d,tk,os⟩) l2 ys:=q2'
       wp_walk using Jl hL1,Jl hL2; exact#[_,rfl,h]
     | false =>
       have hL2:Heap.IsList (Shared.heap ⟨hp.push { cls:=.type "tuple_iterator",data:=.fields (List.toArray [.ref l1,.int 0 0]) },g,d,tk,os⟩) l2 ys:=q2'
       wp_walk using Jl hL1,K0 hL2; exact#[_,rfl,h]
   | false =>
     have hL1:Heap.IsList (Shared.heap ⟨hp,g,d,tk,os⟩) l1 xs:=q1;cases b2 with
     | true =>
       have hL2:Heap.IsTuple (Shared.heap ⟨hp.push { cls:=.type "list_iterator",data:=.fields (List.toArray [.ref l1,.int 0 0]) },g,d,tk,os⟩) l2 ys:=q2'
       wp_walk using K0 hL1,Jl hL2; exact#[_,rfl,h]
     | false =>
       have hL2:Heap.IsList (Shared.heap ⟨hp.push { cls:=.type "list_iterator",data:=.fields (List.toArray [.ref l1,.int 0 0]) },g,d,tk,os⟩) l2 ys:=q2'
       wp_walk using K0 hL1,K0 hL2; exact#[_,rfl,h]
section
variable {prog:Program} {w:World} {A:Around} {E:Value->Shared->Prop} {s:Shared}
theorem tj (e:h.get? it=some (dm b l)):bV b h it l 0:=by cases b <;> exact#[_,e,rfl,rfl]
theorem x4 {Q:Value->Shared->Prop} (q1:br b1 s.heap l1 xs) (q2:br b2 s.heap l2 ys)
   (h:∀h' (n:Nat),n=s.heap.objs.size->IsZip h' (n+4) (n+2) (n+3) .none->IsPair h' (n+2) (.ref n) (.ref (n+1))->IsPair h' (n+3) .none .none->bV b1 h' n l1 0->bV b2 h' (n+1) l2 0 ->
     (∀c o,s.heap.get? c=some o->h'.get? c=some o)->Q (.ref (n+4)) { s with heap:=h' }) :
   wpAny (model prog w) A (call (.type "zip") [.ref l1,.ref l2]) Q E s:=by
 refine callType_new F.called_zip (by decide) (F.typeCall_zip_2 _ _) (F.newCall_zip_2 _ _) (λobj=>F.args_object_init_3 obj _ _) F.entry_zip_new (DQ b1 b2 l1 l2 xs ys) #[q1,q2,?_];generalize ho1:dm b1 l1=o1;generalize ho2:dm b2 l2=o2;have z1:(s.heap.push o1).objs.size=s.heap.objs.size+1:=Jf ..;have z2:((s.heap.push o1).push o2).objs.size=s.heap.objs.size+2:=by rw[Jf,z1]
 rw[z1,z2];generalize hT1:({ cls:=.type "tuple",data:=.seq (List.toArray [.ref s.heap.objs.size,.ref (s.heap.objs.size+1)]) }:Obj)=t1;generalize hT2:({ cls:=.type "tuple",data:=.seq (List.toArray [.none,.none]) }:Obj)=t2;have z3:(((s.heap.push o1).push o2).push t1).objs.size=s.heap.objs.size+3:=by rw[Jf,z2]
 have z4:((((s.heap.push o1).push o2).push t1).push t2).objs.size=s.heap.objs.size+4:=by rw[Jf,z3]
 rw[z3,z4];generalize hZ:({ cls:=.type "zip",data:=.fields (List.toArray [.none,.bool false,.bool false,.ref (s.heap.objs.size+2),.ref (s.heap.objs.size+3)]) }:Obj)=tz;have g5:=Iz ((((s.heap.push o1).push o2).push t1).push t2) (o:=tz) (by rw[<- hZ]; rfl);have g4:=IZ tz (Iz (((s.heap.push o1).push o2).push t1) (o:=t2) (by rw[<- hT2]; rfl));have g3:=IZ tz (IZ t2 (Iz ((s.heap.push o1).push o2) (o:=t1) (by rw[<- hT1]; rfl)));have g2:=IZ tz (IZ t2 (IZ t1 (Iz (s.heap.push o1) (o:=o2) (by rw[<- ho2]; rfl))));have g1:=IZ tz (IZ t2 (IZ t1 (IZ o2 (Iz s.heap (o:=o1) (by rw[<- ho1]; rfl)))));rw[z4] at g5;rw[z3] at g4;rw[z2] at g3;rw[z1] at g2;subst hZ hT1 hT2 ho1 ho2;exact#[#[_,g5,rfl],h _ s.heap.objs.size rfl g5 g3 g4 (tj g1) (tj g2) λc o x =>
   IZ _ (IZ _ (IZ _ (IZ _ (IZ _ x))))]
end
end PySem
namespace L2
open PySem PySem.Spec PyProof.Rows
noncomputable def cg (b:Bool) (K:W.Frag) (H:Hp) (l:Addr) (xs:List V):Prop:=match b with|true=>aF K H l xs|false=>aJ K H l xs
variable {X:Cx} {H:Hp} {xs:List V}
theorem Inv.sqv {pins:List (Addr×Obj)} {σ:St} {s:Shared} {b:Bool} {l:Addr} (I:Inv X pins σ H s) (h:cg b X.K H l xs):∃its:List Value,ax xs its/\br b s.heap l its.toArray:=by
 cases b with
 | true=>obtain⟨its,r,p,_⟩:=I.tuple h; exact#[its,r,p]
 | false=>obtain⟨its,r,p,_⟩:=I.list h; exact#[its,r,p.isList]
theorem Inv.sqv_inj {pins:List (Addr×Obj)} {σ:St} {s:Shared} {b:Bool} {l:Addr} {ys:List V}(I:Inv X pins σ H s) (h:cg b X.K H l xs) (h':cg b X.K H l ys):xs=ys:=by
 cases b with
 | true=>exact I.tuple_inj h h'
 | false=>exact I.list_inj h h'
theorem br.lt {b:Bool} {h:Heap} {l:Addr} {xs:Array Value} (p:br b h l xs):l<h.objs.size:=by cases b <;> (obtain⟨o,ho,r⟩:=p; exact Ip ho)
noncomputable def ii (K:W.Frag) (b1 b2:Bool) (l1 l2:Addr):It :=
 #[λi H=>∃xs ys x y,cg b1 K H l1 xs/\cg b2 K H l2 ys/\xs[i]?=some x/\ys[i]?=some y,
  λi H v H'=>∃b,v=.ref b/\H b=none/\∀xs ys x y,cg b1 K H l1 xs->cg b2 K H l2 ys->xs[i]?=some x->ys[i]?=some y->H'=upd H b (.tup [x,y]),
  λi H=>∃xs ys,cg b1 K H l1 xs/\cg b2 K H l2 ys/\(xs[i]?=none\/ys[i]?=none)]
variable {K:W.Frag}
theorem DB {P:Program} {w:World} {elts:List Expr} {k:Nat} {pos:Pos} (b1 b2:Bool) (z TI TO i1 i2 l1 l2:Addr) (D:ZipApart z TI TO i1 i2 l1 l2) :
   Turn P w K (.Tuple elts k pos) (ii K b1 b2 l1 l2) [z,TI,TO,i1,i2] z (λi h=>IsZip h z TI TO .none/\IsPair h TI (.ref i1) (.ref i2)/\(∃a b,IsPair h TO a b)/\bV b1 h i1 l1 i/\bV b2 h i2 l2 i) where
 mem:=by simp
 obj:=λi h st b hb=>by
   obtain⟨hz,hTI,⟨a,c,hTO⟩,h1,h2⟩:=st;simp only[Io,JK,or_false] at hb;rcases hb with rfl|rfl|rfl|rfl|rfl
   . exact#[_,hz,λv z=>by cases (show Data.fields _=Data.cell v from z)]
   . exact#[_,hTI,λv z=>by cases (show Data.seq _ _=Data.cell v from z)]
   . exact#[_,hTO,λv z=>by cases (show Data.seq _ _=Data.cell v from z)]
   . cases b1 <;> (obtain⟨o,ho,hc,hd⟩:=h1; exact#[o,ho,λv z=>by rw[hd] at z; cases z])
   . cases b2 <;> (obtain⟨o,ho,hc,hd⟩:=h2; exact#[o,ho,λv z=>by rw[hd] at z; cases z])
 keep:=λi h h' st kk=>by obtain⟨hz,hTI,⟨a,c,hTO⟩,h1,h2⟩:=st;exact#[kk _ (by simp) _ hz,kk _ (by simp) _ hTI,#[a,c,kk _ (by simp) _ hTO],h1.at λo e=>kk _ (by simp) o e,h2.at λo e=>kk _ (by simp) o e]
 item:=by
   intro X hP hw hK hc i pins s σ H E I hf st hg;subst hP hw hK;obtain⟨hz,hTI,⟨oa,ob,hTO⟩,h1,h2⟩:=st;obtain⟨xs,ys,x,y,e1,e2,hx,hy⟩:=hg;obtain⟨is1,r1,p1⟩:=I.sqv e1;obtain⟨is2,r2,p2⟩:=I.sqv e2;obtain⟨u,hu,ru⟩:=r1.get hx;obtain⟨v,hv,rv⟩:=r2.get hy;refine wH D hz hTI hTO h1 h2 p1 p2 (by simpa using hu) (by simpa using hv) λh' a1 a2 a3 a4 a5 a6 hk=>?_;refine#[_,rfl,wpAny_letOwnedTupleGo_zip a1 λh3 hz3 hs3=>?_];have hs3:Heap.SameBut z h' h3:=hs3;have hzlt:z<s.heap.objs.size:=Ip hz;have hfr:H s.heap.objs.size=none:=I.hok.fresh (Ib _);have hnS:s.heap.objs.size≠z:=K6 hzlt;have hT3:IsPair h3 s.heap.objs.size u v:=(hs3.2 _ hnS).trans a5;refine#[.ref s.heap.objs.size,upd H s.heap.objs.size (.tup [x,y]),I.turnLaid (t':=s.toks) (ch:=[z,TI,TO,i1,i2]) (λb o hb q=>?_) hf (Ib _) ?_,rfl,#[s.heap.objs.size,rfl,hfr,λxs' ys' x' y' q1 q2 hx' hy'=>?_],#[hz3,?_,#[u,v,?_],?_,?_],λb hb=>?_]
   . have n1:b≠z:=λzz=>hb (by simp [zz]);have n3:b≠TO:=λzz=>hb (by simp [zz]);have n4:b≠i1:=λzz=>hb (by simp [zz]);have n5:b≠i2:=λzz=>hb (by simp [zz]);exact(hs3.2 b n1).trans (hk b o n1 n3 n4 n5 q)
   . exact#[by show 2<=sizeLine; decide,[u,v],.cons ru (.cons rv .nil),#[_,hT3,rfl,_,rfl]]
   . have t1:=I.sqv_inj q1 e1;have t2:=I.sqv_inj q2 e2;subst t1 t2;rw[hx] at hx';rw[hy] at hy';cases hx';cases hy';rfl
   . exact(hs3.2 _ D.TIz).trans (hk _ _ D.TIz D.TITO D.TIi1 D.TIi2 hTI)
   . exact(hs3.2 _ D.TOz).trans a2
   . exact a3.at λo e=>(hs3.2 _ D.i1z).trans e
   . exact a4.at λo e=>(hs3.2 _ D.i2z).trans e
   . have hb0:=(hf b hb).1;rw[aw]
     . exact hb0
     . intro zz;subst zz;simp only[Io,JK,or_false] at hb;rcases hb with e|e|e|e|e
       . exact hnS e
       . exact absurd (Ip hTI) (by rw[<- e]; exact JN _)
       . exact absurd (Ip hTO) (by rw[<- e]; exact JN _)
       . exact absurd h1.lt (by rw[<- e]; exact JN _)
       . exact absurd h2.lt (by rw[<- e]; exact JN _)
 done:=by
   intro X hP hw hK hc i pins s σ H E I hf st hg;subst hP hw hK;obtain⟨hz,hTI,⟨oa,ob,hTO⟩,h1,h2⟩:=st;obtain⟨xs,ys,e1,e2,hend⟩:=hg;obtain⟨is1,r1,p1⟩:=I.sqv e1;obtain⟨is2,r2,p2⟩:=I.sqv e2;refine wO (I.ok.hd hc) D hz hTI hTO h1 h2 p1 p2 ?_ λh' hk=>#[rfl,?_]
   . rcases hend with h|h
     . left; have:=r1.none_of h; simpa using this
     . right; have:=r2.none_of h; simpa using this
   . exact I.turnedL (t':=s.toks) (ch:=[z,TI,TO,i1,i2]) (λb o hb q=>hk b o (λzz=>hb (by simp [zz])) (λzz=>hb (by simp [zz])) (λzz=>hb (by simp [zz])) (λzz=>hb (by simp [zz])) q) hf
 self:=λ_ _ _ _ _ st h=>LL st.1 h
section
variable {X:Cx}
noncomputable def D4 (b1 b2:Bool) (K:W.Frag) (ta:TA):TI:=λσ H R=>ta σ H λvs H1=>∃l1 l2,vs=[.ref l1,.ref l2]/\(∃xs,cg b1 K H1 l1 xs)/\(∃ys,cg b2 K H1 l2 ys)/\R (ii K b1 b2 l1 l2) H1
theorem my (b1 b2:Bool) {a b:Expr} {ta:TA} {p pos tpos:Pos} {elts:List Expr} {k:Nat} (hg:Gl X "zip") (hm:X.mg "zip"=none) (ha:PA X [a,b] ta) (hs:starEach [a,b] X.env=(false,eval a X.env) :: starEach [b] X.env:=by rfl) (hs2:(backTo pos (starEach [b] X.env)).any (·.1)=false:=by rfl) :
   PI X (.Tuple elts k tpos) (.Call (.Name "zip" p) [a,b] [] pos) (D4 b1 b2 X.K ta):=by
 intro pins s σ H R I h;refine Call_ (gE I hg hm vB (JL (am (ha pos pins s σ H _ I h) λus s1 ⟨vs,H1,I1,r1,q1⟩=>?_) hs hs2));obtain⟨l1,l2,e,⟨xs,hx⟩,⟨ys,hy⟩,q⟩:=q1;subst e;cases r1 with
 | cons r rr =>
   cases rr with
   | cons r' rr =>
     cases rr;cases r;cases r';obtain⟨is1,v1,p1⟩:=I1.sqv hx;obtain⟨is2,v2,p2⟩:=I1.sqv hy;refine x4 p1 p2 λh' n hn hz hTI hTO h1 h2 hk=>?_;subst hn;refine LL hz ?_;refine#[s1.heap.objs.size+4,[s1.heap.objs.size+4,s1.heap.objs.size+2,s1.heap.objs.size+3,s1.heap.objs.size,s1.heap.objs.size+1],_,_,H1,rfl,I1.kept (t':=s1.toks) hk,DB b1 b2 _ _ _ _ _ l1 l2 (zipApart_new (br.lt p1) (br.lt p2)),#[hz,hTI,#[_,_,hTO],h1,h2],λb hb=>?_,q];have hb':s1.heap.objs.size<=b:=by simp only[Io,JK,or_false] at hb;rcases hb with e|e|e|e|e <;> rw[e] <;> first|exact Ib _|exact Nat.le_add_right _ _
     exact I1.fpOk hb' (I1.hok.fresh hb')
theorem qw {b1 b2:Bool} {l1 l2:Addr} {ys:List V}{g:TG} {tb:TS} {D:c8} {σ:St} (Pv:Nat->St->Hp->Prop) (h0:Pv 0 σ H) (hl:∀i σ H,i<=min xs.length ys.length->Pv i σ H->cg b1 K H l1 xs/\cg b2 K H l2 ys)
   (hs:∀i x y σ H b,xs[i]?=some x->ys[i]?=some y->Pv i σ H->H b=none->g (.ref b) σ (upd H b (.tup [x,y])) λσ2 H2=>tb { D with nx:=Pv (i+1),ct:=Pv (i+1),bk:=D.nx } σ2 H2) (hd:∀σ H,Pv (min xs.length ys.length) σ H->D.nx σ H) :
   ∃W:Nat->Nat->St->Hp->Prop,(∃m,W 0 m σ H)/\∀i m σ H,W i m σ H->((ii K b1 b2 l1 l2).stop i H/\D.nx σ H)\/((ii K b1 b2 l1 l2).go i H/\∃N:St->Hp->Prop,(∀σ' H',N σ' H'->∃m',m'<m/\W (i+1) m' σ' H')/\∀x H',(ii K b1 b2 l1 l2).yld i H x H'->g x σ H' λσ2 H2=>tb { D with nx:=N,ct:=N,bk:=D.nx } σ2 H2):=by
 refine#[λi m σ H=>m=min xs.length ys.length - i/\i<=min xs.length ys.length/\Pv i σ H,#[min xs.length ys.length,by simp,J2 _,h0],?_];rintro i m σ H ⟨rfl,hi,p⟩;obtain⟨q1,q2⟩:=hl i σ H hi p;by_cases hlt:i<min xs.length ys.length
 . have l1':i<xs.length:=by omega
   have l2':i<ys.length:=by omega
   refine .inr #[#[xs,ys,xs[i],ys[i],q1,q2,by simp [l1'],by simp [l2']],Pv (i+1),λσ' H' p'=>#[min xs.length ys.length - (i+1),by omega,rfl,hlt,p'],λx H' y=>?_];obtain⟨b,rfl,hb,y⟩:=y;rw[y xs ys xs[i] ys[i] q1 q2 (by simp [l1']) (by simp [l2'])];exact hs i xs[i] ys[i] σ H b (by simp [l1']) (by simp [l2']) p hb
 . have e:i=min xs.length ys.length:=by omega
   subst e;refine .inl #[#[xs,ys,q1,q2,?_],hd σ H p];rcases Nat.le_total xs.length ys.length with h|h
   . left; rw[LV h]; exact Jy (Ib _)
   . right; rw[LM h]; exact Jy (Ib _)
end
structure ClsOk (K:W.Frag) (mg:Str->Option Value) (name:Str) (C:Addr):Prop where
 cl:Cls K C
 g:mg name=some (.ref C)
structure MetOk (K:W.Frag) (C:Addr) (m qual:Str) (st:Stmt) (ps:List Str) (f:Addr) (fd:FuncData):Prop where
 F:Fun K m qual st f fd
 b:fH K fd ps []
 m:Meth K C m f
structure IniOk (K:W.Frag) (C:Addr) (qual:Str) (st:Stmt) (ps:List Str) (f:Addr) (fd:FuncData):Prop where
 F:Fun K "__init__" qual st f fd
 b:fH K fd ps []
 M:Mk K C f
section
variable {X:Cx} {k:Nat} {C f:Addr} {fd:FuncData} {ps:List Str} {sp:Sp} {x m qual:Str} {st:Stmt} {p pos apos:Pos} {o e:Expr} {es:List Expr} {ta:TE} {t:TA}
theorem wY (Cc:ClsOk X.K X.mg x C) (D:IniOk X.K C qual st ps f fd) (G:FnOk X.prog X.w X.K X.mg X.base CX0 k f fd ps sp) (hr:Room (k+1) X.A) (ha:PA X (e :: es) t) (hg:Gl X x:=by rfl)
   (hdb:(x==("__debug__":Str))=false:=by decide) (he:starEach (e :: es) X.env=(false,eval e X.env) :: starEach es X.env:=by rfl) (hpl:(backTo pos (starEach es X.env)).any (·.1)=false:=by rfl) :
   PE X (.Call (.Name x p) (e :: es) [] pos) (wz C sp [] E0 t):=E1 D.M G hr hg Cc.g D.b .nil cq ha hdb he hpl
theorem Bj {C:Addr} {m qual:Str} {st:Stmt} {ps:List Str} {f:Addr} {oc:Value} {od an:Option Addr} {osl:Array (Option Value)} {kV doc pm cdv ct:Value}
   (a:PySem.W.findIn K (.ref C) m=some (some (.ref f))) (i:PySem.W.isFn K (.ref f)=true) (l:K.lookup f=some #[oc,od,.func (PySem.W.fnOf m qual (d8 st) (bP st) (b6 st) .none kV doc pm an cdv ct),osl]) (c:PySem.W.codeIn K cdv qual=true) (k:PySem.W.keepIn K (.ref f)=true)
   (b:∀(kV doc pm:Value) (an:Option Addr) (cdv ct:Value) (us:List Value),us.length=ps.length->bindArgs (PySem.W.fnOf m qual (d8 st) (bP st) (b6 st) .none kV doc pm an cdv ct) #[us,[]]=pure (ps.zip us)) :
   MetOk K C m qual st ps f (PySem.W.fnOf m qual (d8 st) (bP st) (b6 st) .none kV doc pm an cdv ct) :=
 #[jH l c k,(jH l c k).binds b,#[a,i,k]]
theorem CG {C:Addr} {qual:Str} {st:Stmt} {ps:List Str} {f:Addr} {oc:Value} {od an:Option Addr} {osl:Array (Option Value)} {kV doc pm cdv ct:Value}
   (mk:PySem.W.makesIn K C=true) (kc:PySem.W.keepIn K (.ref C)=true) (a:PySem.W.findIn K (.ref C) "__init__"=some (some (.ref f))) (i:PySem.W.isFn K (.ref f)=true) (l:K.lookup f=some #[oc,od,.func (PySem.W.fnOf "__init__" qual (d8 st) (bP st) (b6 st) .none kV doc pm an cdv ct),osl]) (c:PySem.W.codeIn K cdv qual=true) (k:PySem.W.keepIn K (.ref f)=true)
   (b:∀(kV doc pm:Value) (an:Option Addr) (cdv ct:Value) (us:List Value),us.length=ps.length->bindArgs (PySem.W.fnOf "__init__" qual (d8 st) (bP st) (b6 st) .none kV doc pm an cdv ct) #[us,[]]=pure (ps.zip us)) :
   IniOk K C qual st ps f (PySem.W.fnOf "__init__" qual (d8 st) (bP st) (b6 st) .none kV doc pm an cdv ct) :=
 #[jH l c k,(jH l c k).binds b,#[mk,a,i,kc]]
end
theorem cK {A:Around} (h:A.units+64<cLine):A.units+1<cLine:=by omega
section
variable {prog:Program} {w:World} {A:Around} {E:Value->Shared->Prop} {s:Shared}
open HT in
theorem C8 {t sl:Addr} {items:Array Value} {vl vu:Value} {lo hi:Option Int} {Q:Value->Shared->Prop} (ht:IsTup s.heap t items) (hs:s.heap.IsSliceOf sl vl vu .none) (pl:IsPart vl lo) (pu:IsPart vu hi)
   (hw:sIx items.size 0 lo=0/\sIx items.size items.size hi=items.size) (h:Q (.ref t) s):wpAny (model prog w) A (getItem (.ref t) (.ref sl)) Q E s:=by
 obtain⟨os,hos,hcs,hds⟩:=id hs;have tS:s.TypeIs (.ref sl) "slice":=#[os,hos,hcs]
 unfold getItem; try with_reducible refine JO ?_
 first|refine IU (Ie ?_)|skip
 refine IU (LB ht.typeIs (by decide) ?_); refine IU (wpAny_callSpecial?_slot (name:=Str.ofString "__getitem__") ht.typeIs JS (JU JS ht.typeIs entry_tuple_getitem ?_ (args_tuple_getitem _ _)));show wpAny _ _ (Builtin.Tuple.tupleItemsOf (.ref t) >>= _) _ _ s; refine IU (tupleItemsOf_ ht ?_); refine IU (KE tS ?_); rw[Ig (by decide)]; refine IU (tF hs pl pu ?_);have yes:(((sIx items.size 0 lo:Nat):Int)==0&&(1:Int)==1&&(sIx items.size items.size hi - sIx items.size 0 lo)==items.size)=true:=by rw[hw.1,hw.2];simp
 show wpAny _ _ (if(((sIx items.size 0 lo:Nat):Int)==0&&(1:Int)==1&&(sIx items.size items.size hi - sIx items.size 0 lo)==items.size)=true then _ else _) _ _ s; rw[Ig yes];show wpAny _ _ (Builtin.Tuple.tupleIsExact (.ref t) >>= _) _ _ s;unfold Builtin.Tuple.tupleIsExact;refine IU (IU (KE ht.typeIs (Ie ?_)));rw[Ig (by decide)];exact IU (Kr (IU (Ie (Ie #[_,rfl,Ie h]))))
end
noncomputable def x5 (K:W.Frag):V->Option Int->Option Int->Hp->VK->Prop:=λx lo hi H Q=>∃a xs,x=.ref a/\aF K H a xs /\
 (HT.sIx xs.length 0 lo=0/\HT.sIx xs.length xs.length hi=xs.length)/\Q (.ref a) H
theorem Ag :fj X (x5 X.K):=by
 intro pins s σ H x v vl vu lo hi sl Q I rx hs pl pu h;obtain⟨a,xs,rfl,hx,hw,q⟩:=h;cases rx;obtain⟨its,r,ht,hz⟩:=I.tuple hx;have hlen:its.toArray.size=xs.length:=by rw[Ir]; exact r.length.symm
 refine#["tuple",_,JS.lookup,ht.typeIs,C8 ht hs pl pu (by rw[hlen]; exact hw) #[.ref a,H,I,rfl,q]]
noncomputable def uE (K:W.Frag):V->Option Int->Option Int->Hp->VK->Prop:=λx lo hi H Q=>wU K x lo hi H Q\/x5 K x lo hi H Q
theorem m8 :fj X (uE X.K):=GR.or Ag
theorem lQ {Q:VK} {a:Addr} {lo hi:Option Int} (h:aF K H a xs) (q:∀p H',aB H H'->aF K H' p (ck xs lo hi)->Q (.ref p) H'):uE K (.ref a) lo hi H Q:=by
 by_cases hw:HT.sIx xs.length 0 lo=0/\HT.sIx xs.length xs.length hi=xs.length
 . refine .inr #[a,xs,rfl,h,hw,q a H (aB.refl _) ?_];have:ck xs lo hi=xs:=by unfold ck;rw[hw.1,hw.2,LY,Nat.sub_zero,JJ]
   rw[this];exact h
 . exact .inl #[a,xs,rfl,h,hw,λp hp=>q p _ (aB.new hp) (aF.of aI)]
end L2
namespace K12
open PySem L2
noncomputable def step (acc:List Str) (s:Str):List Str:=if s∈acc then acc else acc++[s]
noncomputable def onceL (ss:List Str):List Str:=ss.foldl step []
noncomputable def strsOf (as:List V):List Str:=as.filterMap λv=>match v with | .str s=>some s|_=>none
theorem Eo (a b:List V):strsOf (a++b)=strsOf a++strsOf b:=List.filterMap_append ..
theorem E2 (i:Int):strsOf [.int i]=[]:=rfl
theorem Bp (acc:List Str) (s:Str):∀x∈acc,x∈step acc s:=λx hx=>by
 unfold step;split
 . exact hx
 . exact KG _ hx
theorem Gv (acc:List Str) (s:Str):s∈step acc s:=by
 unfold step;split
 . assumption
 . exact J9 _ (by simp)
theorem vK:∀(ss acc:List Str),∀x∈acc,x∈ss.foldl step acc
 | [],acc,x,hx=>hx
 | s :: ss,acc,x,hx=>vK ss _ x (Bp acc s x hx)
theorem w6:∀(ss acc:List Str),∀x∈ss,x∈ss.foldl step acc
 | s :: ss,acc,x,hx=>by
   rcases Io.mp hx with e|e
   . subst e;exact vK ss _ _ (Gv acc _)
   . exact w6 ss _ x e
theorem vt:∀(B:List Str) (acc C:List Str),(B.foldl step C).foldl step acc=B.foldl step (C.foldl step acc)
 | [],acc,C=>rfl
 | s :: B,acc,C=>by
   rw[KA,vt B acc (step C s),KA];congr 1;unfold step;by_cases h:s∈C
   . rw[Ig h];have h2:s∈C.foldl step acc:=w6 C acc s h;have h2':s∈List.foldl (λacc s=>if s∈acc then acc else acc++[s]) acc C:=h2;rw[Ig h2']
   . rw[IW h,JG];rfl
theorem HW (A B C:List Str):onceL (A++onceL B++C)=onceL (A++B++C):=by unfold onceL;rw[JG,JG,JG,JG];have e:=vt B (A.foldl step []) [];rw[e];rfl
theorem Ah (acc:List Str) (s:Str):(step acc s).length<=acc.length+1:=by
 unfold step;split
 . omega
 . simp
theorem FW (ss:List Str):(onceL ss).length<=ss.length:=by
 have key:∀(ss acc:List Str),(ss.foldl step acc).length<=acc.length+ss.length:=by
   intro ss
   induction ss with
   | nil=>intro acc; simp
   | cons s ss ih =>
     intro acc;have h1:=ih (step acc s);have h2:=Ah acc s;rw[KA];simp only[J6];omega
 have:=key ss [];unfold onceL;simpa using this
noncomputable def cZ (ss:List Str):List (aL×V):=ss.map λs=>(Sum.inr s,V.bl true)
theorem DT (acc:List Str) (s:Str):ao (cZ acc) (Sum.inr s) (.bl true)=cZ (step acc s):=by
 unfold ao step;have e:((cZ acc).any λkv=>decide (kv.1=(Sum.inr s:aL)))=decide (s∈acc):=by
   unfold cZ;rw[List.any_map];rw[JQ,List.any_eq_true];simp only[Function.comp,JX];constructor
   . rintro ⟨x,hx,h⟩;have:x=s:=Sum.inr.inj h;rw[<- this];exact hx
   . intro h;exact#[s,h,rfl]
 rw[e];by_cases h:s∈acc
 . rw[IV h,Ig rfl,Ig h];unfold cZ;rw[Jc];apply List.map_congr_left;intro x _;show(if(Sum.inr x:aL)=Sum.inr s then((Sum.inr x:aL),V.bl true) else(Sum.inr x,V.bl true))=_;split <;> rfl
 . rw[Ih h,IW (by decide),IW h];unfold cZ;rw[J0];rfl
theorem vQ:∀(ss acc:List Str),(cZ ss).foldl (λacc kv=>ao acc kv.1 kv.2) (cZ acc)=cZ (ss.foldl step acc)
 | [],acc=>rfl
 | s :: ss,acc=>by show(cZ ss).foldl _ (ao (cZ acc) (Sum.inr s) (.bl true))=_;rw[DT];exact vQ ss (step acc s)
theorem C7 (ss:List Str):(cZ ss).foldl (λacc kv=>ao acc kv.1 kv.2) []=cZ (onceL ss):=vQ ss []
theorem EZ (ss:List Str):((cZ ss).map λkv=>kV kv.1)=ss.map V.str:=by unfold cZ;rw[Jc];rfl
theorem Ci {K:W.Frag} {H:Hp} {a q:Addr} {xs l l':List V} (h:aF K H a xs) (hq:H q=some (.lst l)):aF K (upd H q (.lst l')) a xs:=by
 rcases h with(h|⟨o,h⟩)|h
 . exact .inl (.inl (by rw[aw (fL h hq (by intro z; cases z))]; exact h))
 . exact .inl (.inr #[o,by rw[aw (fL h hq (by intro z; cases z))]; exact h])
 . exact .inr h
noncomputable def Nm (s:Str):Prop:=s.length<=1000/\PyData.strOk s=true
end K12
namespace K12
open PySem L2 PySem.W PyProof.Rows
inductive RowS (K:W.Frag) (H:Hp):List V->Option Str->List V->Prop
 | copy (x:Str) (a:V):RowS K H [.str "copy",.str x,a] (some x) [a]
 | op (x s:Str) (a b:V):RowS K H [.str "op",.str x,.str s,a,b] (some x) [a,b]
 | new (x:Str):RowS K H [.str "new",.str x] (some x) []
 | get (x:Str) (a:V) (f:Str):RowS K H [.str "get",.str x,a,.str f] (some x) [a]
 | put (a:V) (f:Str) (b:V):RowS K H [.str "put",a,.str f,b] none [a,b]
 | call (x f:Str) (p:Addr) (as:List V):aF K H p as->RowS K H [.str "call",.str x,.str f,.ref p] (some x) as
 | out (a:V):RowS K H [.str "out",a] none [a]
 | back (a:V):RowS K H [.str "back",a] none [a]
 | ifs (a:V):RowS K H [.str "if",a] none [a]
 | whl (a:V):RowS K H [.str "while",a] none [a]
 | els:RowS K H [.str "else"] none []
 | fin:RowS K H [.str "end"] none []
theorem RowS.mono {K:W.Frag} {H H':Hp} {xs:List V} {g:Option Str} {as:List V} (h:RowS K H xs g as) (e:aB H H'):RowS K H' xs g as:=by
 cases h with
 | call x f p as hp=>exact .call x f p as (e.tup hp)
 | copy x a=>exact .copy x a
 | op x s a b=>exact .op x s a b
 | new x=>exact .new x
 | get x a f=>exact .get x a f
 | put a f b=>exact .put a f b
 | out a=>exact .out a
 | back a=>exact .back a
 | ifs a=>exact .ifs a
 | whl a=>exact .whl a
 | els=>exact .els
 | fin=>exact .fin
noncomputable def tabl:List (Str×List V):=[("copy",[.int 2]),("op",[.int 3,.int 4]),("new",[]),("get",[.int 2]),("put",[.int 1,.int 3]),("out",[.int 1]),("back",[.int 1]),("if",[.int 1]),("while",[.int 1]),("else",[]),("end",[])]
noncomputable def giving:List Str:=["copy","op","new","get","call"]
theorem AE {K:W.Frag} {H:Hp} {xs:List V} {g:Option Str} {as:List V} (h:RowS K H xs g as):∃kd:Str,bI xs 0=some (.str kd) /\
   ((kd="call"/\∃p,bI xs 3=some (.ref p)/\aF K H p as)\/(kd≠"call"/\∃pl:List Int,KTD.datumAt kd tabl=some (pl.map V.int)/\pl.length=as.length/\∀(i:Nat) (a:V),as[i]?=some a->∃p,pl[i]?=some p/\bI xs p=some a)):=by
 cases h with
 | call x f p as hp=>exact#["call",rfl,.inl #[rfl,p,rfl,hp]]
 | copy x a=>exact#["copy",rfl,.inr #[by decide +kernel,[2],by decide +kernel,rfl,λi a' e=>by match i,e with|0,e=>exact⟨2,rfl,e⟩]]
 | op x s a b=>exact#["op",rfl,.inr #[by decide +kernel,[3,4],by decide +kernel,rfl,λi a' e=>by match i,e with|0,e=>exact⟨3,rfl,e⟩|1,e=>exact⟨4,rfl,e⟩]]
 | new x=>exact#["new",rfl,.inr #[by decide +kernel,[],by decide +kernel,rfl,λi a' e=>by simp at e]]
 | get x a f=>exact#["get",rfl,.inr #[by decide +kernel,[2],by decide +kernel,rfl,λi a' e=>by match i,e with|0,e=>exact⟨2,rfl,e⟩]]
 | put a f b=>exact#["put",rfl,.inr #[by decide +kernel,[1,3],by decide +kernel,rfl,λi a' e=>by match i,e with|0,e=>exact⟨1,rfl,e⟩|1,e=>exact⟨3,rfl,e⟩]]
 | out a=>exact#["out",rfl,.inr #[by decide +kernel,[1],by decide +kernel,rfl,λi a' e=>by match i,e with|0,e=>exact⟨1,rfl,e⟩]]
 | back a=>exact#["back",rfl,.inr #[by decide +kernel,[1],by decide +kernel,rfl,λi a' e=>by match i,e with|0,e=>exact⟨1,rfl,e⟩]]
 | ifs a=>exact#["if",rfl,.inr #[by decide +kernel,[1],by decide +kernel,rfl,λi a' e=>by match i,e with|0,e=>exact⟨1,rfl,e⟩]]
 | whl a=>exact#["while",rfl,.inr #[by decide +kernel,[1],by decide +kernel,rfl,λi a' e=>by match i,e with|0,e=>exact⟨1,rfl,e⟩]]
 | els=>exact#["else",rfl,.inr #[by decide +kernel,[],by decide +kernel,rfl,λi a' e=>by simp at e]]
 | fin=>exact#["end",rfl,.inr #[by decide +kernel,[],by decide +kernel,rfl,λi a' e=>by simp at e]]
noncomputable def xv:Option Str->V
 | some x=>.str x
 | none=>.non
theorem Ap {K:W.Frag} {H:Hp} {xs:List V} {g:Option Str} {as:List V} (h:RowS K H xs g as):∃kd:Str,bI xs 0=some (.str kd) /\
   ((∃x,g=some x/\gj (.str kd) (giving.map V.str)=true/\bI xs 1=some (.str x))\/(g=none/\gj (.str kd) (giving.map V.str)=false)):=by
 cases h with
 | call x f p as hp=>exact#["call",rfl,.inl #[x,rfl,by decide +kernel,rfl]]
 | copy x a=>exact#["copy",rfl,.inl #[x,rfl,by decide +kernel,rfl]]
 | op x s a b=>exact#["op",rfl,.inl #[x,rfl,by decide +kernel,rfl]]
 | new x=>exact#["new",rfl,.inl #[x,rfl,by decide +kernel,rfl]]
 | get x a f=>exact#["get",rfl,.inl #[x,rfl,by decide +kernel,rfl]]
 | put a f b=>exact#["put",rfl,.inr #[rfl,by decide +kernel]]
 | out a=>exact#["out",rfl,.inr #[rfl,by decide +kernel]]
 | back a=>exact#["back",rfl,.inr #[rfl,by decide +kernel]]
 | ifs a=>exact#["if",rfl,.inr #[rfl,by decide +kernel]]
 | whl a=>exact#["while",rfl,.inr #[rfl,by decide +kernel]]
 | els=>exact#["else",rfl,.inr #[rfl,by decide +kernel]]
 | fin=>exact#["end",rfl,.inr #[rfl,by decide +kernel]]
theorem GC:(giving.map V.str).all ee=true:=by decide +kernel
noncomputable def Atom (v:V):Prop:=(∃s,v=.str s/\Nm s)\/∃i,v=.int i
structure RowD where
 r:Addr
 e:Addr
 a:Addr
 gx:Option Str
 as:List V
structure RowAt (K:W.Frag) (H:Hp) (d:RowD):Prop where
 row:∃xs,aF K H d.r xs/\RowS K H xs d.gx d.as
 ats:∀v∈d.as,Atom v
 len:d.as.length<=10
 nm:∀x,d.gx=some x->Nm x
theorem RowAt.mono {K:W.Frag} {H H':Hp} {d:RowD} (h:RowAt K H d) (e:aB H H'):RowAt K H' d :=
 #[let ⟨xs,h1,h2⟩:=h.row; #[xs,e.tup h1,h2.mono e],h.ats,h.len,h.nm]
structure FunAt (K:W.Frag) (H:Hp) (f:Addr) (ps:List Str) (ds:List RowD):Prop where
 fn:∃n b p r,aF K H f [n,b,.ref p,.ref r]/\aF K H p (ps.map V.str)/\aF K H r (ds.map λd=>V.ref d.r)
 rows:∀d∈ds,RowAt K H d
 pn:∀s∈ps,Nm s
 pl:ps.length<=100
 dl:ds.length<=100
theorem FunAt.mono {K:W.Frag} {H H':Hp} {f:Addr} {ps:List Str} {ds:List RowD} (h:FunAt K H f ps ds) (e:aB H H'):FunAt K H' f ps ds :=
 #[let ⟨n,b,p,r,h1,h2,h3⟩:=h.fn; #[n,b,p,r,e.tup h1,e.tup h2,e.tup h3],λd hd=>(h.rows d hd).mono e,h.pn,h.pl,h.dl]
noncomputable def rowStrs (d:RowD):List Str:=d.gx.toList++strsOf d.as
noncomputable def allOf (ps:List Str) (ds:List RowD):List Str:=ps++ds.flatMap rowStrs
theorem nX (as:List V):(strsOf as).length<=as.length:=List.length_filterMap_le _ _
end K12
namespace K12
open PySem L2
section
variable {P:Program} {w:World} {K:W.Frag} {mg:Str->Option Value} {base:Heap}
noncomputable def Gives (H:Hp) (Q:VK) (vs:List V):Prop:=∀l H',aB H H'->H l=none->H' l=some (.lst vs)->Q (.ref l) H'
noncomputable def sp_gives (K:W.Frag):Sp:=λvs H Q _=>∃(r:Addr) (xs:List V) (g:Option Str) (as:List V),vs=[.ref r]/\aF K H r xs/\RowS K H xs g as/\Q (xv g) H
noncomputable def sp_atoms_of (K:W.Frag):Sp:=λvs H Q _=>∃(r:Addr) (xs:List V) (g:Option Str) (as:List V),vs=[.ref r]/\aF K H r xs/\RowS K H xs g as/\as.length<=10/\Gives H Q as
noncomputable def sp_each_once (K:W.Frag):Sp:=λvs H Q _=>∃(p:Addr) (ss:List Str),vs=[.ref p]/\aJ K H p (ss.map V.str)/\ss.length<=5000/\Gives H Q ((onceL ss).map V.str)
noncomputable def sp_reads (K:W.Frag):Sp:=λvs H Q _=>∃(r:Addr) (xs:List V) (g:Option Str) (as:List V),vs=[.ref r]/\aF K H r xs/\RowS K H xs g as/\as.length<=10/\(∀v∈as,Atom v)/\Gives H Q ((onceL (strsOf as)).map V.str)
noncomputable def sp_names_of (K:W.Frag):Sp:=λvs H Q _=>∃(f:Addr) (ps:List Str) (ds:List RowD),vs=[.ref f]/\FunAt K H f ps ds/\Gives H Q ((onceL (allOf ps ds)).map V.str)
noncomputable def Gg (K:W.Frag):List V->Hp->VK->Prop:=λxs H Q=>∃x c t b,xs=[x,.ty c]/\TyOf K H x t/\W.kitOne K t (.type c)=some b/\Q (.bl b) H
theorem cb {n:Nat} (h:n<1000000):n<=sizeLine:=by
 have:(1000000:Nat)<sizeLine:=by decide
 omega
theorem lt_line' {n:Nat} (h:n<1000000):n<sizeLine:=by
 have:(1000000:Nat)<sizeLine:=by decide
 omega
theorem uO {fs P G B:List Str} (h:onceL fs=onceL P):onceL (fs++G++onceL B)=onceL (P++(G++B)):=by have e:=HW (fs++G) B [];rw[JI,JI] at e;rw[e,JP];unfold onceL at h ⊢;rw[JG,h,<- JG]
noncomputable def lets:Str:="abcdefghijklmnopqrstuvwxyz"
theorem lets_ok:PyData.strOk lets=true:=by decide +kernel
end
end K12
namespace K13
open PySem L2
noncomputable def isO (s:Str):Bool:=decide (s="if") || decide (s="while")
noncomputable def isE (s:Str):Bool:=decide (s="else") || decide (s="end")
noncomputable def push (st:List Nat) (i:Nat) (s:Str):List Nat:=if isO s=true then i :: st else if s="end" then st.tail else st
noncomputable def kd (ks:List Str) (i:Nat):Str:=ks.getD i ""
noncomputable def stk (ks:List Str):Nat->List Nat
 | 0=>[]
 | i+1=>push (stk ks i) i (kd ks i)
theorem dQ (ks:List Str) (i:Nat):stk ks (i+1)=push (stk ks i) i (kd ks i):=rfl
theorem gi (ks:List Str):∀i,∀x∈stk ks i,x<i/\isO (kd ks x)=true
 | 0,x,h=>by cases h
 | i+1,x,h=>by
   rw[dQ] at h;unfold push at h;split at h
   . rcases Io.mp h with e|e
     . subst e;exact#[Jt _,by assumption]
     . have:=gi ks i x e;exact#[by omega,this.2]
   . split at h
     . have:=gi ks i x (List.mem_of_mem_tail h);exact#[by omega,this.2]
     . have:=gi ks i x h;exact#[by omega,this.2]
variable {s:Str}
theorem Bl (h:isO s=true):¬ s="end":=by intro e;subst e;revert h;decide +kernel
theorem Eg (h:isO s=true):¬ s="else":=by intro e;subst e;revert h;decide +kernel
theorem nr:isO ("end":Str)=false:=by decide +kernel
structure Wf (ks:List Str):Prop where
 open_:∀i,i<ks.length->isE (kd ks i)=true->stk ks i≠[]
 els:∀i b r,i<ks.length->kd ks i="else"->stk ks i=b :: r->kd ks b="if"
 shut:stk ks ks.length=[]
 last:∀i,i+1=ks.length->kd ks i="back"
 pos:0<ks.length
noncomputable def At (ks:List Str) (b j d:Nat):Prop:=∃pre,stk ks j=pre++b :: stk ks b/\pre.length+1=d
variable {ks:List Str} {b:Nat}
theorem tR (h:isO (kd ks b)=true):At ks b (b+1) 1:=#[[],by rw[dQ]; unfold push; rw[Ig h]; rfl,rfl]
variable {j d:Nat}
theorem Ba (h:At ks b j d) (ho:isO (kd ks j)=true):At ks b (j+1) (d+1):=by obtain⟨pre,e,l⟩:=h;exact#[j :: pre,by rw[dQ]; unfold push; rw[Ig ho,e]; rfl,by simp [l]]
theorem AR (h:At ks b j (d+1)) (hd:0<d) (he:kd ks j="end"):At ks b (j+1) d:=by
 obtain⟨pre,e,l⟩:=h;cases pre with
 | nil=>simp at l; omega
 | cons p pre =>
   refine#[pre,?_,by simpa using l];rw[dQ];unfold push;rw[he,IW (by rw[nr]; decide),Ig rfl,e];rfl
theorem Db (h:At ks b j d) (ho:¬ isO (kd ks j)=true) (he:¬ kd ks j="end"):At ks b (j+1) d:=by obtain⟨pre,e,l⟩:=h;exact#[pre,by rw[dQ]; unfold push; rw[IW ho,IW he,e],l]
theorem C4 (h:At ks b j 1):stk ks j=b :: stk ks b:=by
 obtain⟨pre,e,l⟩:=h;cases pre with
 | nil=>exact e
 | cons p pre=>simp at l
theorem vR (w:Wf ks) (h:At ks b j d) (hj:j<=ks.length):j<ks.length:=by
 rcases JM j ks.length with q|q
 . exact q
 . have e:j=ks.length:=by omega
   subst e;obtain⟨pre,e,_⟩:=h;rw[w.shut] at e;simp at e
theorem EV (h:At ks b j d):0<d:=by obtain⟨pre,_,l⟩:=h;omega
noncomputable def c8 (ks:List Str) (b e:Nat):Prop:=b<e/\e<ks.length/\kd ks e="end"/\stk ks e=b :: stk ks b/\∀j,b<j->j<=e->∃d,At ks b j d
variable {e:Nat}
theorem A1 {e':Nat}(h:c8 ks b e) (h':c8 ks b e'):e=e':=by
 have key:∀{e e':Nat},c8 ks b e->c8 ks b e'->¬ e<e':=by
   intro e e' h h' hlt;obtain⟨h1,h2,h3,h4,h5⟩:=h;obtain⟨d,pre,q,_⟩:=h'.2.2.2.2 (e+1) (by omega) hlt;rw[dQ] at q;unfold push at q;rw[h3,IW (by rw[nr]; decide),Ig rfl,h4] at q;have:(stk ks b).length=(pre++b :: stk ks b).length:=by rw[<- q]; rfl
   simp at this;omega
 have a:=key h h';have b:=key h' h;omega
theorem wF {ks:List Str} (w:Wf ks) {b:Nat}:∀(m j d:Nat),m=ks.length - j->j<=ks.length->b<j->(∀i,b<i->i<=j->∃d,At ks b i d)->At ks b j d->∃e,j<=e/\c8 ks b e
 | 0,j,d,hm,hj,hb,hall,h=>absurd (vR w h hj) (by omega)
 | m+1,j,d,hm,hj,hb,hall,h=>by
   have hlt:=vR w h hj;have go:∀d',At ks b (j+1) d'->∃e,j<=e/\c8 ks b e:=λd' h'=>by
     obtain⟨e,he,q⟩:=wF w m (j+1) d' (by omega) (by omega) (by omega) (λi h1 h2=>by
       rcases JM j i with z|z
       . have:i=j+1:=by omega
         subst this;exact#[d',h']
       . exact hall i h1 z) h'
     exact#[e,by omega,q]
   by_cases ho:isO (kd ks j)=true
   . exact go _ (Ba h ho)
   by_cases he:kd ks j="end"
   . have hp:=EV h;by_cases hd:d=1
     . subst hd;exact#[j,Ib _,hb,hlt,he,C4 h,hall]
     . obtain⟨d',rfl⟩:∃d',d=d'+1:=#[d - 1,by omega]
       exact go _ (AR h (by omega) he)
   . exact go _ (Db h ho he)
theorem uo (w:Wf ks) (hb:b<ks.length) (ho:isO (kd ks b)=true):∃e,c8 ks b e:=by
 obtain⟨e,_,h⟩:=wF w (ks.length - (b+1)) (b+1) 1 rfl (by omega) (by omega) (λi h1 h2=>by
   have:i=b+1:=by omega
   subst this;exact#[1,tR ho]) (tR ho)
 exact#[e,h]
noncomputable def cu (ks:List Str) (b k:Nat):Prop:=isE (kd ks k)=true/\(stk ks k).head?=some b
theorem pi {k:Nat}(h:cu ks b k):b<k/\isO (kd ks b)=true:=gi ks k b (List.mem_of_mem_head? h.2)
theorem oz (h:c8 ks b e):cu ks b e:=by
 refine#[?_,?_]
 . rw[h.2.2.1]; decide +kernel
 . rw[h.2.2.2.1]; rfl
theorem vg {ks:List Str} {b e:Nat} (h:c8 ks b e):∀j,e<j->b ∉ stk ks j
 | 0,hj,_=>by omega
 | j+1,hj,hm=>by
   rcases JM e j with q|q
   . have ih:=vg h j q;rw[dQ] at hm;unfold push at hm;split at hm
     . rcases Io.mp hm with z|z
       . have:=h.1;omega
       . exact ih z
     . split at hm
       . exact ih (List.mem_of_mem_tail hm)
       . exact ih hm
   . have e1:j=e:=by omega
     subst e1;rw[dQ] at hm;unfold push at hm;rw[h.2.2.1,IW (by rw[nr]; decide),Ig rfl,h.2.2.2.1] at hm;have:=(gi ks b b hm).1;omega
theorem vC {k:Nat}(h:c8 ks b e) (hk:cu ks b k):k<=e:=by
 rcases JM e k with q|q
 . exact absurd (List.mem_of_mem_head? hk.2) (vg h k q)
 . exact q
noncomputable def one (ks:List Str) (i:Nat):List (Nat×Nat):=if isE (kd ks i)=true then(match stk ks i with | []=>[] | b :: _=>[(i,b)]) else []
noncomputable def bc (ks:List Str):Nat->List (Nat×Nat)
 | 0=>[]
 | i+1=>bc ks i++one ks i
noncomputable def fE (L:List (Nat×Nat)) (b:Nat):Option Nat:=L.foldl (λacc p=>if p.2=b then some p.1 else acc) none
noncomputable def cW (L:List (Nat×Nat)) (b:Nat):Option Nat:=L.foldl (λacc p=>if acc.isSome=true then acc else if p.2=b then some p.1 else none) none
theorem iR (ks:List Str) (i:Nat):(∃b,one ks i=[(i,b)]/\cu ks b i)\/(one ks i=[]/\∀b,¬ cu ks b i):=by
 unfold one cu;by_cases h:isE (kd ks i)=true
 . rw[Ig h];cases q:stk ks i with
   | nil=>exact .inr #[rfl,λb z=>by simp at z]
   | cons b r=>exact .inl #[b,rfl,h,rfl]
 . rw[IW h];exact .inr #[rfl,λb z=>h z.1]
theorem wm (L:List (Nat×Nat)) (p:Nat×Nat) (b:Nat):fE (L++[p]) b=if p.2=b then some p.1 else fE L b:=by unfold fE; rw[JG]; rfl
theorem vz (L:List (Nat×Nat)) (p:Nat×Nat) (b:Nat):cW (L++[p]) b=if(cW L b).isSome=true then cW L b else if p.2=b then some p.1 else none:=by unfold cW; rw[JG]; rfl
theorem lO {b' k:Nat}(h:cu ks b k) (h':cu ks b' k):b=b':=by have:=h.2.symm.trans h'.2;simpa using this
theorem tq (ks:List Str) (b:Nat):∀i,(∀m,fE (bc ks i) b=some m->m<i/\cu ks b m/\∀k,m<k->k<i->¬ cu ks b k)/\(fE (bc ks i) b=none->∀k,k<i->¬ cu ks b k)
 | 0=>#[λm h=>(by cases h),λ_ k hk=>(by omega)]
 | i+1=>by
   obtain⟨ih1,ih2⟩:=tq ks b i;show(∀m,fE (bc ks i++one ks i) b=some m->_)/\(fE (bc ks i++one ks i) b=none->_)
   rcases iR ks i with⟨b',e,hh⟩|⟨e,hn⟩
   . rw[e,wm];by_cases hb:b'=b
     . rw[Ig hb];subst hb;exact#[λm h=>by cases h; exact#[Jt _,hh,λk h1 h2=>by omega],λh=>by cases h]
     . rw[IW hb];refine#[λm h=>?_,λh k hk=>?_]
       . obtain⟨h1,h2,h3⟩:=ih1 m h;refine#[by omega,h2,λk q1 q2 hk=>?_];rcases JM k i with z|z
         . exact h3 k q1 z hk
         . have:k=i:=by omega
           subst this;exact hb (lO hh hk)
       . intro hk';rcases JM k i with z|z
         . exact ih2 h k z hk'
         . have:k=i:=by omega
           subst this;exact hb (lO hh hk')
   . rw[e,JI];refine#[λm h=>?_,λh k hk hk'=>?_]
     . obtain⟨h1,h2,h3⟩:=ih1 m h;refine#[by omega,h2,λk q1 q2 hk=>?_];rcases JM k i with z|z
       . exact h3 k q1 z hk
       . have:k=i:=by omega
         subst this;exact hn b hk
     . rcases JM k i with z|z
       . exact ih2 h k z hk'
       . have:k=i:=by omega
         subst this;exact hn b hk'
theorem mf (ks:List Str) (b:Nat):∀i,(∀m,cW (bc ks i) b=some m->m<i/\cu ks b m/\∀k,k<m->¬ cu ks b k)/\(cW (bc ks i) b=none->∀k,k<i->¬ cu ks b k)
 | 0=>#[λm h=>(by cases h),λ_ k hk=>(by omega)]
 | i+1=>by
   obtain⟨ih1,ih2⟩:=mf ks b i;show(∀m,cW (bc ks i++one ks i) b=some m->_)/\(cW (bc ks i++one ks i) b=none->_)
   rcases iR ks i with⟨b',e,hh⟩|⟨e,hn⟩
   . rw[e,vz];cases hf:cW (bc ks i) b with
     | some m0 =>
       rw[Ig (show(some m0).isSome=true from rfl)];obtain⟨h1,h2,h3⟩:=ih1 m0 hf;exact#[λm h=>by cases h; exact#[by omega,h2,h3],λh=>by cases h]
     | none =>
       rw[IW (show ¬ (none:Option Nat).isSome=true by decide)];have hno:=ih2 hf;by_cases hb:b'=b
       . rw[Ig hb];subst hb;exact#[λm h=>by cases h; exact#[Jt _,hh,λk hk=>hno k hk],λh=>by cases h]
       . rw[IW hb];refine#[λm h=>(by cases h),λ_ k hk hk'=>?_];rcases JM k i with z|z
         . exact hno k z hk'
         . have:k=i:=by omega
           subst this;exact hb (lO hh hk')
   . rw[e,JI];refine#[λm h=>?_,λh k hk hk'=>?_]
     . obtain⟨h1,h2,h3⟩:=ih1 m h;exact#[by omega,h2,h3]
     . rcases JM k i with z|z
       . exact ih2 h k z hk'
       . have:k=i:=by omega
         subst this;exact hn b hk'
theorem EW (h:c8 ks b e):fE (bc ks ks.length) b=some e:=by
 obtain⟨h1,h2⟩:=tq ks b ks.length;cases q:fE (bc ks ks.length) b with
 | none=>exact absurd (oz h) (h2 q e h.2.1)
 | some m =>
   obtain⟨q1,q2,q3⟩:=h1 m q;have:=vC h q2;rcases JM m e with z|z
   . exact absurd (oz h) (q3 e z h.2.1)
   . have:m=e:=by omega
     rw[this]
noncomputable def iE (ks:List Str) (b f:Nat):Prop:=f<ks.length/\cu ks b f/\∀k,k<f->¬ cu ks b k
theorem sK {f f':Nat}(h:iE ks b f) (h':iE ks b f'):f=f':=by
 rcases Nat.lt_trichotomy f f' with z|z|z
 . exact absurd h.2.1 (h'.2.2 f z)
 . exact z
 . exact absurd h'.2.1 (h.2.2 f' z)
theorem DA {f:Nat}(h:iE ks b f):cW (bc ks ks.length) b=some f:=by
 obtain⟨h1,h2⟩:=mf ks b ks.length;cases q:cW (bc ks ks.length) b with
 | none=>exact absurd h.2.1 (h2 q f h.1)
 | some m =>
   obtain⟨q1,q2,q3⟩:=h1 m q;rw[sK (#[q1,q2,q3]:iE ks b m) h]
theorem GB (h:¬ isO (kd ks b)=true):cW (bc ks ks.length) b=none:=by
 obtain⟨h1,h2⟩:=mf ks b ks.length;cases q:cW (bc ks ks.length) b with
 | none=>rfl
 | some m=>exact absurd (pi (h1 m q).2.1).2 h
inductive Beh (ks:List Str):Nat->Nat->Prop
 | els {k b e r:Nat}:kd ks (k+1)="else"->(stk ks (k+1)).head?=some b->c8 ks b e->Beh ks e r->Beh ks k r
 | whl {k b:Nat}:kd ks (k+1)="end"->(stk ks (k+1)).head?=some b->kd ks b="while"->Beh ks k b
 | fin {k b r:Nat}:kd ks (k+1)="end"->(stk ks (k+1)).head?=some b->¬ kd ks b="while"->Beh ks (k+1) r->Beh ks k r
 | oth {k:Nat}:¬ kd ks (k+1)="else"->¬ kd ks (k+1)="end"->Beh ks k (k+1)
theorem jU:¬ (("else":Str)="end"):=by decide +kernel
theorem Beh.uniq {k r:Nat} (h:Beh ks k r):∀{r':Nat},Beh ks k r'->r=r':=by
 induction h with
 | els h1 h2 h3 h4 ih =>
   intro r' h';cases h' with
   | els g1 g2 g3 g4 =>
     have hb:=Option.some.inj (h2.symm.trans g2);subst hb;have he:=A1 h3 g3;subst he;exact ih g4
   | whl g1 _ _=>exact absurd (h1.symm.trans g1) jU
   | fin g1 _ _ _=>exact absurd (h1.symm.trans g1) jU
   | oth g1 _=>exact absurd h1 g1
 | whl h1 h2 h3 =>
   intro r' h';cases h' with
   | els g1 _ _ _=>exact absurd (g1.symm.trans h1) jU
   | whl g1 g2 g3=>exact Option.some.inj (h2.symm.trans g2)
   | fin g1 g2 g3 _ =>
     have hb:=Option.some.inj (h2.symm.trans g2);subst hb;exact absurd h3 g3
   | oth _ g2=>exact absurd h1 g2
 | fin h1 h2 h3 h4 ih =>
   intro r' h';cases h' with
   | els g1 _ _ _=>exact absurd (g1.symm.trans h1) jU
   | whl g1 g2 g3 =>
     have hb:=Option.some.inj (h2.symm.trans g2);subst hb;exact absurd g3 h3
   | fin g1 g2 g3 g4=>exact ih g4
   | oth _ g2=>exact absurd h1 g2
 | oth h1 h2 =>
   intro r' h';cases h' with
   | els g1 _ _ _=>exact absurd g1 h1
   | whl g1 _ _=>exact absurd g1 h2
   | fin g1 _ _ _=>exact absurd g1 h2
   | oth _ _=>rfl
theorem uV:¬ (("back":Str)="else")/\¬ (("back":Str)="end"):=by decide +kernel
theorem nZ (h:isO s=true):¬ isE s=true:=by unfold isE;rw[Ih (Eg h),Ih (Bl h)];decide
theorem F5 (h1:¬ s="else") (h2:¬ s="end"):¬ isE s=true:=by unfold isE;rw[Ih h1,Ih h2];decide
inductive Due (ks:List Str):Nat->Option (List Nat)->Prop
 | no {k:Nat}:isE (kd ks k)=true->Due ks k none
 | back {k:Nat}:kd ks k="back"->Due ks k (some [])
 | two {k f r1 r2:Nat}:isO (kd ks k)=true->iE ks k f->Beh ks k r1->Beh ks f r2->Due ks k (some [r1,r2])
 | one {k r:Nat}:¬ isE (kd ks k)=true->¬ kd ks k="back"->¬ isO (kd ks k)=true->Beh ks k r->Due ks k (some [r])
theorem lg:¬ isE ("back":Str)=true:=by decide +kernel
theorem qY:¬ isO ("back":Str)=true:=by decide +kernel
theorem Due.uniq {ks:List Str} {k:Nat} {o o':Option (List Nat)} (h:Due ks k o) (h':Due ks k o'):o=o':=by
 cases h with
 | no h =>
   cases h' with
   | no _=>rfl
   | back g=>rw[g] at h; exact absurd h lg
   | two g _ _ _=>exact absurd h (nZ g)
   | one g _ _ _=>exact absurd h g
 | back h =>
   cases h' with
   | no g=>rw[h] at g; exact absurd g lg
   | back _=>rfl
   | two g _ _ _=>rw[h] at g; exact absurd g qY
   | one _ g _ _=>exact absurd h g
 | two h1 h2 h3 h4 =>
   cases h' with
   | no g=>exact absurd g (nZ h1)
   | back g=>rw[g] at h1; exact absurd h1 qY
   | two g1 g2 g3 g4 =>
     have:=sK h2 g2;subst this;rw[h3.uniq g3,h4.uniq g4]
   | one _ _ g _=>exact absurd h1 g
 | one h1 h2 h3 h4 =>
   cases h' with
   | no g=>exact absurd g h1
   | back g=>exact absurd g h2
   | two g _ _ _=>exact absurd g h3
   | one _ _ _ g=>rw[h4.uniq g]
theorem EL (h:c8 ks b e):∃f,iE ks b f:=by
 obtain⟨h1,h2⟩:=mf ks b ks.length;cases q:cW (bc ks ks.length) b with
 | none=>exact absurd (oz h) (h2 q e h.2.1)
 | some m =>
   obtain⟨q1,q2,q3⟩:=h1 m q;exact#[m,q1,q2,q3]
theorem ug (w:Wf ks) {k:Nat} (hk:k<ks.length) (h:¬ kd ks k="back"):k+1<ks.length:=by
 rcases JM (k+1) ks.length with z|z
 . exact z
 . exact absurd (w.last k (by omega)) h
theorem He (w:Wf ks) {f:Nat}(h:iE ks b f):f+1<ks.length:=by refine ug w h.1 λz=>?_;have:=h.2.1.1;rw[z] at this;exact lg this
theorem iz {ys:List Str}{i:Nat} (h:i<ks.length):kd (ks++ys) i=kd ks i:=by unfold kd;rw[JT,JT,K4 h]
theorem Ck (ks ys:List Str) (i:Nat):kd (ks++ys) (ks.length+i)=kd ys i:=by unfold kd;rw[JT,JT,Jb (Nat.le_add_right _ _),Nat.add_sub_cancel_left]
theorem mF (ks:List Str) (x:Str):kd (ks++[x]) ks.length=x:=by have:=Ck ks [x] 0;rw[Nat.add_zero] at this;rw[this];rfl
theorem nG (ks ys:List Str):∀i,i<=ks.length->stk (ks++ys) i=stk ks i
 | 0,_=>rfl
 | i+1,h=>by rw[dQ,dQ,nG ks ys i (by omega),iz (by omega)]
structure Good (ks os:List Str):Prop where
 open_:∀i,i<ks.length->isE (kd ks i)=true->stk ks i≠[]
 els:∀i b r,i<ks.length->kd ks i="else"->stk ks i=b :: r->kd ks b="if"
 len:(stk ks ks.length).length=os.length
 mt:∀(i b:Nat),(stk ks ks.length)[i]?=some b->os[i]?=some "if"->kd ks b="if"
theorem good_nil:Good [] []:=#[λi h=>absurd h (JR i),λi _ _ h=>absurd h (JR i),rfl,λi b h=>by cases h]
theorem x6 (ks:List Str) (x:Str):stk (ks++[x]) (ks++[x]).length=push (stk ks ks.length) ks.length x:=by rw[Il];show stk (ks++[x]) (ks.length+1)=_;rw[dQ,nG _ _ _ (Ib _),mF]
theorem Good.snoc {os os':List Str}{x:Str} (g:Good ks os) (ho:isE x=true->os≠[]) (he:x="else"->∃r,os=("if":Str) :: r)
   (hl:(push (stk ks ks.length) ks.length x).length=os'.length) (hm:∀(i b:Nat),(push (stk ks ks.length) ks.length x)[i]?=some b->os'[i]?=some "if"->kd (ks++[x]) b="if"):Good (ks++[x]) os':=by
 have hn:(ks++[x]).length=ks.length+1:=by rw[Il]; rfl
 refine#[λi h hE=>?_,λi b r h hE hs=>?_,by rw[x6]; exact hl,by rw[x6]; exact hm]
 . rw[nG _ _ _ (by omega)];rcases JM i ks.length with z|z
   . rw[iz z] at hE;exact g.open_ i z hE
   . have:i=ks.length:=by omega
     subst this;rw[mF] at hE;intro e;have:=g.len;rw[e] at this;exact ho hE (KY.mp this.symm)
 . rw[nG _ _ _ (by omega)] at hs;rcases JM i ks.length with z|z
   . rw[iz z] at hE;have hb:=(gi ks i b (by rw[hs]; exact Ii)).1;rw[iz (by omega)];exact g.els i b r z hE hs
   . have:i=ks.length:=by omega
     subst this;rw[mF] at hE;obtain⟨r',e⟩:=he hE;have hb:=(gi ks ks.length b (by rw[hs]; exact Ii)).1;rw[iz hb];exact g.mt 0 b (by rw[hs]; rfl) (by rw[e]; rfl)
theorem Good.keep {os:List Str}(g:Good ks os) (x:Str) {i:Nat}(h:(stk ks ks.length)[i]?=some b) (h':os[i]?=some "if"):kd (ks++[x]) b="if":=by have hb:=(gi ks ks.length b (Ij h)).1;rw[iz hb];exact g.mt i b h h'
theorem Good.plain {os:List Str}{x:Str} (g:Good ks os) (h1:¬ isO x=true) (h2:¬ isE x=true) (h3:¬ x="end"):Good (ks++[x]) os:=by
 have e:push (stk ks ks.length) ks.length x=stk ks ks.length:=by unfold push; rw[IW h1,IW h3]
 refine g.snoc (λz=>absurd z h2) (λz=>absurd (by rw[z]; decide +kernel) h2) (by rw[e,g.len]) ?_;rw[e];intro i b h h';exact g.keep x h h'
theorem Good.back (g:Good ks []):Wf (ks++[("back":Str)]):=by
 have hs:stk ks ks.length=[]:=KY.mp g.len;have g':=g.plain qY lg (by decide +kernel);refine#[g'.open_,g'.els,KY.mp g'.len,λi h=>?_,by rw[Il]; exact Nat.succ_pos _];have:i=ks.length:=by rw[Il] at h; simpa using h
 rw[this,mF]
structure RowsAt (K:W.Frag) (H:Hp) (a:Addr) (ks:List Str):Prop where
 ex:∃rs:List Addr,aF K H a (rs.map V.ref)/\rs.length=ks.length/\∀i r,rs[i]?=some r->∃rest,aF K H r (V.str (kd ks i) :: rest)
variable {H:Hp}
theorem RowsAt.mono {K:W.Frag} {H':Hp}{a:Addr} (h:RowsAt K H a ks) (e:aB H H'):RowsAt K H' a ks :=
 #[let ⟨rs,h1,h2,h3⟩:=h.ex; #[rs,e.tup h1,h2,λi r q=>let ⟨rest,z⟩:=h3 i r q; #[rest,e.tup z]]]
theorem at0 {x:V} {r:List V}:bI (x :: r) 0=some x:=by unfold bI cX;rw[Ig (by decide),Ig (by simp)];rfl
theorem ixk {K:W.Frag} {Q:VK} {a:Addr} {i:Int} (h:RowsAt K H a ks) (h0:0<=i) (h1:i<ks.length) (q:Q (.str (kd ks i.toNat)) H):pq K (.ref a) (.int i) H λx H1=>pq K x (.int 0) H1 Q:=by
 obtain⟨rs,e1,e2,e3⟩:=h.ex;have hi:i.toNat<rs.length:=by omega
 obtain⟨rest,hr⟩:=e3 i.toNat rs[i.toNat] (by simp [hi]);refine#[a,_,i,.ref rs[i.toNat],rfl,rfl,e1,?_,rs[i.toNat],_,0,_,rfl,rfl,hr,at0,q];have e:bI (rs.map V.ref) i=some (V.ref rs[i.toNat]):=by unfold bI cX;rw[Ig h0,Ig (by rw[IX]; omega),LN,Iu];simp [hi]
 exact e
noncomputable def ft (L:List (Nat×Nat)):List (aL×V):=L.map λp=>(Sum.inl (p.1:Int),V.int (p.2:Int))
noncomputable def bg (ks:List Str) (i:Nat):List (aL×V):=ft (bc ks i)
theorem sP (ks:List Str):∀i,∀p∈bc ks i,p.1<i
 | 0,p,h=>by cases h
 | i+1,p,h=>by
   rcases Iv.mp h with h|h
   . have:=sP ks i p h;omega
   . rcases iR ks i with⟨b,e,_⟩|⟨e,_⟩
     . rw[e] at h;have:p=(i,b):=by simpa using h
       rw[this];exact Jt _
     . rw[e] at h;cases h
theorem Ep (ks:List Str) (i:Nat):bN (bg ks i) (Sum.inl (i:Int):aL)=none:=by
 have h:=j8 (Sum.inl (i:Int):aL) (bg ks i);cases q:bN (bg ks i) (Sum.inl (i:Int):aL) with
 | none=>rfl
 | some v =>
   rw[q] at h;obtain⟨kv,hm,e⟩:=List.any_eq_true.mp h;obtain⟨p,hp,rfl⟩:=J3.mp hm;have e:=K1 e;have:(p.1:Int)=(i:Int):=Sum.inl.inj e;have:=sP ks i p hp;omega
theorem mE {i:Nat}(h:cu ks b i):ao (bg ks i) (Sum.inl (i:Int):aL) (V.int (b:Int))=bg ks (i+1):=by
 rw[qS _ (Ep ks i)];rcases iR ks i with⟨b',e,h'⟩|⟨e,h'⟩
 . show ft (bc ks i)++_=ft (bc ks i++one ks i);rw[e,lO h h'];unfold ft;rw[J0];rfl
 . exact absurd h (h' b)
theorem vM {i:Nat} (h:¬ isE (kd ks i)=true):bg ks (i+1)=bg ks i:=by
 rcases iR ks i with⟨b',e,h'⟩|⟨e,h'⟩
 . exact absurd h'.1 h
 . show ft (bc ks i++one ks i)=_;rw[e,JI];rfl
theorem pN (ks:List Str):∀i,(bc ks i).length<=i
 | 0=>Ib _
 | i+1=>by have:=pN ks i;show(bc ks i++one ks i).length<=i+1;rw[Il];rcases iR ks i with⟨b',e,h'⟩|⟨e,h'⟩ <;> rw[e] <;> simp <;> omega
theorem qy (ks:List Str) (i:Nat):(bg ks i).length<=i:=by unfold bg ft; rw[IX]; exact pN ks i
noncomputable def eX (ks:List Str) (i:Nat):List V:=(stk ks i).reverse.map λ(n:Nat)=>V.int (n:Int)
theorem D1 (ks:List Str):∀i,(eX ks i).length<=i:=by
 intro i;unfold eX;rw[IX,List.length_reverse]
 induction i with
 | zero=>exact Ib _
 | succ i ih =>
   rw[dQ];unfold push;split
   . simp; omega
   . split
     . simp; omega
     . omega
theorem inO (s:Str):gj (.str s) [V.str "if",V.str "while"]=isO s:=by show((("if":Str)==s) || ((("while":Str)==s) || false))=isO s;unfold isO;rw[La];congr 1 <;> (rw[JQ,LF,JX]; exact eq_comm)
theorem inE (s:Str):gj (.str s) [V.str "else",V.str "end"]=isE s:=by show((("else":Str)==s) || ((("end":Str)==s) || false))=isE s;unfold isE;rw[La];congr 1 <;> (rw[JQ,LF,JX]; exact eq_comm)
theorem dw:0<=sizeLine:=by decide
theorem dE:1<=sizeLine:=by decide
theorem ay:2<=sizeLine:=by decide
theorem lt_line' {n:Nat} (h:n<1000000):n<sizeLine:=by
 have:(1000000:Nat)<sizeLine:=by decide
 omega
theorem vD {i:Nat}{r:List Nat} (h:stk ks i=b :: r):bI (eX ks i) (-1)=some (.int (b:Int))/\(eX ks i)[(eX ks i).length - 1]?=some (.int (b:Int))/\(eX ks i).dropLast=r.reverse.map λ(n:Nat)=>V.int (n:Int):=by
 have e:eX ks i=(r.reverse.map λ(n:Nat)=>V.int (n:Int))++[V.int (b:Int)]:=by unfold eX;rw[h,List.reverse_cons,J0];rfl
 rw[e];refine#[?_,by simp,by simp];unfold bI cX;rw[IW (by decide),Ig (by simp; omega),LN];have:((-1:Int)+(((r.reverse.map λ(n:Nat)=>V.int (n:Int))++[V.int (b:Int)]).length:Int)).toNat=(r.reverse.map λ(n:Nat)=>V.int (n:Int)).length:=by rw[Il];simp;omega
 rw[this];simp
theorem vP {K:W.Frag} {a q:Addr} {xs:List V} {kvs:List (aL×V)} {o:HO} (h:aF K H a xs) (hq:H q=some (.dK kvs)):aF K (upd H q o) a xs:=by
 rcases h with(h|⟨o,h⟩)|h
 . exact .inl (.inl (by rw[aw (fL h hq (by intro z; cases z))]; exact h))
 . exact .inl (.inr #[o,by rw[aw (fL h hq (by intro z; cases z))]; exact h])
 . exact .inr h
theorem RowsAt.frz {K:W.Frag} {H:Hp} {a q:Addr} {ks:List Str} {kvs:List (aL×V)} {o:HO} (h:RowsAt K H a ks) (hq:H q=some (.dK kvs)):RowsAt K (upd H q o) a ks :=
 #[let ⟨rs,h1,h2,h3⟩:=h.ex; #[rs,vP h1 hq,h2,λi r z=>let ⟨rest,y⟩:=h3 i r z; #[rest,vP y hq]]]
noncomputable def uN (H:Hp) (l:Addr) (ks:List Str):Prop:=∃bs,H l=some (.lst bs)/\bs.length=ks.length/\∀k,k+1<ks.length->∃r:Nat,Beh ks k r/\bs[k]?=some (.int (r:Int))
noncomputable def sR (n:Nat):List V:=(List.replicate n [V.non]).flatten
theorem AB (n:Nat):(sR n).length=n:=by unfold sR; rw[pH]; simp
theorem uP {k:Nat}(n:Nat) (hk:k<n) (h:cu ks b k):bN (bg ks n) (Sum.inl (k:Int):aL)=some (.int (b:Int)):=by
 induction n with
 | zero=>omega
 | succ n ih =>
   rcases JM k n with z|z
   . rcases iR ks n with⟨b',e,h'⟩|⟨e,h'⟩
     . rw[<- mE h',valV_put,IW (λz'=>by have:(k:Int)=(n:Int):=Sum.inl.inj z'; omega)];exact ih z
     . have:bg ks (n+1)=bg ks n:=by show ft (bc ks n++one ks n)=_;rw[e,JI];rfl
       rw[this];exact ih z
   . have:k=n:=by omega
     subst this;rw[<- mE h,valV_put,Ig rfl]
theorem rV {n i:Nat} {kv:aL×V} (h:(bg ks n)[i]?=some kv):∃p:Nat×Nat,(bc ks n)[i]?=some p/\kv=(Sum.inl (p.1:Int),V.int (p.2:Int)):=by
 unfold bg ft at h;rw[Iu] at h;cases q:(bc ks n)[i]? with
 | none=>rw[q] at h; cases h
 | some p=>rw[q] at h; exact#[p,rfl,by simpa using h.symm]
noncomputable def natsV (l:List Nat):List V:=l.map λ(n:Nat)=>V.int (n:Int)
noncomputable def fZ (H:Hp) (v:V):Option (List Nat)->Prop
 | none=>v=.non
 | some l=>∃p,v=.ref p/\H p=some (.tup (natsV l))
theorem fZ.mono {H':Hp}{v:V} {o:Option (List Nat)} (h:fZ H v o) (e:aB H H'):fZ H' v o:=by
 cases o with
 | none=>exact h
 | some l=>obtain⟨p,h1,h2⟩:=h; exact#[p,h1,e _ _ h2]
theorem fZ.lst {H:Hp} {q:Addr} {l l':List V} {v:V} {o:Option (List Nat)} (h:fZ H v o) (hq:H q=some (.lst l)):fZ (upd H q (.lst l')) v o:=by
 cases o with
 | none=>exact h
 | some l=>obtain⟨p,h1,h2⟩:=h; exact#[p,h1,by rw[aw (fL h2 hq (by intro z; cases z))]; exact h2]
noncomputable def FoundN (H:Hp) (l:Addr) (ks:List Str) (i:Nat):Prop:=∃vs:List V,H l=some (.lst vs)/\vs.length=i/\∀k v,vs[k]?=some v->∃o,Due ks k o/\fZ H v o
theorem FoundN.mono {H H':Hp} {l:Addr} {ks:List Str} {i:Nat} (h:FoundN H l ks i) (e:aB H H'):FoundN H' l ks i :=
 let ⟨vs,h1,h2,h3⟩:=h; #[vs,e _ _ h1,h2,λk v q=>let ⟨o,d,z⟩:=h3 k v q; #[o,d,z.mono e]]
theorem FoundN.push {l:Addr} {i:Nat} {vs:List V} {v:V} {o:Option (List Nat)} (h1:H l=some (.lst vs)) (h2:vs.length=i) (h3:∀k v,vs[k]?=some v->∃o,Due ks k o/\fZ H v o) (hd:Due ks i o) (hv:fZ H v o):FoundN (upd H l (.lst (vs++[v]))) l ks (i+1):=by
 refine#[_,aI,by rw[Il,h2]; rfl,λk v' q=>?_];rcases JM k vs.length with z|z
 . rw[K4 z] at q;obtain⟨o',d,y⟩:=h3 k v' q;exact#[o',d,y.lst h1]
 . rw[Jb z] at q;have hk:k - vs.length=0:=by
     rcases Nat.eq_zero_or_pos (k - vs.length) with y|y
     . exact y
     . rw[Jy (by simp; omega)] at q;cases q
   rw[hk] at q;have hv':v=v':=by simpa using q
   subst hv';have:k=i:=by omega
   subst this;exact#[o,hd,hv.lst h1]
section
variable {P:Program} {w:World} {K:W.Frag} {mg:Str->Option Value} {base:Heap}
noncomputable def sp_begins_of (K:W.Frag):Sp:=λvs H Q _=>∃(a:Addr) (ks:List Str),vs=[.ref a]/\RowsAt K H a ks/\Wf ks/\ks.length<=1000/\∀d H',aB H H'->H d=none->H' d=some (.dK (bg ks ks.length))->Q (.ref d) H'
noncomputable def sp_firsts_behind (K:W.Frag):Sp:=λvs H Q _=>∃(a d:Addr) (ks:List Str),vs=[.ref a,.ref d]/\RowsAt K H a ks/\Wf ks/\ks.length<=1000/\H d=some (.dK (bg ks ks.length))/\∀l o H',aB (upd H d (.frz o (.dK (bg ks ks.length)))) H'->H l=none->uN H' l ks->Q (.ref l) H'
noncomputable def sp_ways (K:W.Frag):Sp:=λvs H Q _=>∃(a:Addr) (ks:List Str),vs=[.ref a]/\RowsAt K H a ks/\Wf ks/\ks.length<=1000/\∀l H',aB H H'->H l=none->FoundN H' l ks ks.length->Q (.ref l) H'
theorem cb {n:Nat} (h:n<1000000):n<=sizeLine:=by
 have:(1000000:Nat)<sizeLine:=by decide
 omega
end
end K13
namespace Fl
open PySem L2 Gx
structure Rw where
 r:Addr
 k:Str
 c:Str
structure Fd where
 name:Str
 fa:Addr
 ra:Addr
 rs:List Rw
noncomputable def jJ (K:W.Frag) (H:Hp) (w:Rw):Prop:=∃rest,aF K H w.r (V.str w.k :: rest)/\(w.k="call"->∃x y,rest=[x,.str w.c,y])
variable {H:Hp}
theorem jJ.mono {K:W.Frag} {H':Hp}{w:Rw} (e:aB H H') (h:jJ K H w):jJ K H' w:=let ⟨rest,h1,h2⟩:=h; #[rest,e.tup h1,h2]
structure FnAt (K:W.Frag) (H:Hp) (f:Fd):Prop where
 fn:∃fo pa,aF K H f.fa [.str f.name,fo,.ref pa,.ref f.ra]
 rw_:aF K H f.ra (f.rs.map λw=>V.ref w.r)
 rk:∀w∈f.rs,jJ K H w
 fu:∃ps ds,K12.FunAt K H f.fa ps ds
 wf:K13.Wf (f.rs.map (·.k))
 len:f.rs.length<=100
theorem FnAt.mono {K:W.Frag} {H H':Hp} {f:Fd} (e:aB H H') (h:FnAt K H f):FnAt K H' f :=
 #[let ⟨a,b,z⟩:=h.fn; #[a,b,e.tup z],e.tup h.rw_,λw hw=>(h.rk w hw).mono e,let ⟨a,b,z⟩:=h.fu; #[a,b,z.mono e],h.wf,h.len]
theorem FnAt.rows {K:W.Frag} {f:Fd} (h:FnAt K H f):K13.RowsAt K H f.ra (f.rs.map (·.k)):=by
 refine#[f.rs.map (·.r),by rw[Jc]; exact h.rw_,by rw[IX,IX],λi r hr=>?_];rw[Iu] at hr;cases e:f.rs[i]? with
 | none=>rw[e] at hr; cases hr
 | some w =>
   rw[e] at hr;cases hr;obtain⟨rest,h1,_⟩:=h.rk w (Ij e);refine#[rest,?_];have:K13.kd (f.rs.map (·.k)) i=w.k:=by unfold K13.kd;rw[JT,Iu,e];rfl
   rw[this];exact h1
structure FS (C:Addr) (H:Hp) (x dx:Addr) (fs:List (Str×V)) (d:Nat->Addr) (kv:Nat->List (aL×V)):Prop where
 ob:H x=some (.ins C dx fs)
 dc:∀j,j<6->H (d j)=some (.dK (kv j))
theorem FS.mono {C:Addr} {H':Hp}{x dx:Addr} {fs:List (Str×V)} {d:Nat->Addr} {kv:Nat->List (aL×V)} (e:aB H H') (h:FS C H x dx fs d kv):FS C H' x dx fs d kv:=#[e _ _ h.ob,λj hj=>e _ _ (h.dc j hj)]
theorem FS.put {C:Addr} {x dx:Addr} {fs:List (Str×V)} {d:Nat->Addr} {kv:Nat->List (aL×V)} (h:FS C H x dx fs d kv) (inj:∀i j,i<6->j<6->d i=d j->i=j) (j:Nat) (hj:j<6) (k':List (aL×V)):FS C (upd H (d j) (.dK k')) x dx fs d (λi=>if i=j then k' else kv i):=by
 refine#[?_,λi hi=>?_]
 . rw[aw (fL h.ob (h.dc j hj) (by intro z; cases z))]; exact h.ob
 . by_cases e:i=j
   . subst e;rw[aI,Ig rfl]
   . rw[aw (λz=>e (inj i j hi hj z)),IW e];exact h.dc i hi
noncomputable def du (v:V) (d:Nat->Addr):List (Str×V):=aY "ways_in" (.ref (d 5)) (aY "names_in" (.ref (d 4)) (aY "rows_of" (.ref (d 3)) (aY "params_of" (.ref (d 2)) (aY "folded_of" (.ref (d 1)) (aY "number_of" (.ref (d 0)) (aY "last" v []))))))
theorem zy (v:V) (d:Nat->Addr):(du v d).lookup ("number_of":Str)=some (.ref (d 0)):=by unfold du;rw[cY,IW (by decide +kernel),cY,IW (by decide +kernel),cY,IW (by decide +kernel),cY,IW (by decide +kernel),cY,IW (by decide +kernel),cY,Ig rfl]
theorem Cr (v:V) (d:Nat->Addr):(du v d).lookup ("folded_of":Str)=some (.ref (d 1)):=by unfold du;rw[cY,IW (by decide +kernel),cY,IW (by decide +kernel),cY,IW (by decide +kernel),cY,IW (by decide +kernel),cY,Ig rfl]
theorem IL (v:V) (d:Nat->Addr):(du v d).lookup ("params_of":Str)=some (.ref (d 2)):=by unfold du;rw[cY,IW (by decide +kernel),cY,IW (by decide +kernel),cY,IW (by decide +kernel),cY,Ig rfl]
theorem vi (v:V) (d:Nat->Addr):(du v d).lookup ("rows_of":Str)=some (.ref (d 3)):=by unfold du;rw[cY,IW (by decide +kernel),cY,IW (by decide +kernel),cY,Ig rfl]
theorem tQ (v:V) (d:Nat->Addr):(du v d).lookup ("names_in":Str)=some (.ref (d 4)):=by unfold du;rw[cY,IW (by decide +kernel),cY,Ig rfl]
theorem sT (v:V) (d:Nat->Addr):(du v d).lookup ("ways_in":Str)=some (.ref (d 5)):=by unfold du;rw[cY,Ig rfl]
noncomputable def dd (d0 d1 d2 d3 d4 d5:Addr):Nat->Addr
 | 0=>d0
 | 1=>d1
 | 2=>d2
 | 3=>d3
 | 4=>d4
 | _=>d5
theorem bY {a b:Addr} {o:HO} (h:upd H a o b=none):b≠a/\H b=none:=by
 have hn:b≠a:=λz=>by rw[z,aI] at h; cases h
 rw[aw hn] at h;exact#[hn,h]
theorem bR {a b:Addr} {o o':HO} (h:H b=some o) (hn:b≠a):upd H a o' b=some o:=by rw[aw hn]; exact h
theorem eR (f:Str) (v:V) (l:List (Str×V)) (k:Nat) (h:l.length<=k):(aY f v l).length<=k+1:=J7 (nO f v l) (by omega)
theorem t5 {α:Type} {l:List α} {f:α->V} {r:Int} {a:α} (h0:0<=r) (h:l[r.toNat]?=some a):bI (l.map f) r=some (f a):=by obtain⟨j,rfl⟩:=Ja h0;refine c7 ?_;rw[JF] at h;rw[Iu,h];rfl
end Fl
namespace L2
open PySem
noncomputable def hl (H:Hp):Hp:=λb=>match H b with
 | some (.lst xs)=>some (.lst xs)
 | some (.tup xs)=>some (.tup xs)
 | _=>none
variable {H:Hp}
theorem oZ :aB (hl H) H:=λb o h=>by
 unfold hl at h;split at h
 . rename_i e; rw[e]; exact h
 . rename_i e; rw[e]; exact h
 . cases h
theorem uJ {b:Addr} {xs:List V} (h:H b=some (.lst xs)):hl H b=some (.lst xs):=by unfold hl; rw[h]
theorem DM {b:Addr} {xs:List V} (h:H b=some (.tup xs)):hl H b=some (.tup xs):=by unfold hl; rw[h]
theorem aB.hl {H H':Hp} (e:aB H H'):aB (hl H) (hl H'):=λb o h=>by have h1:=oZ _ _ h;have h2:=e _ _ h1;unfold L2.hl at h ⊢;rw[h1] at h;rw[h2];exact h
theorem FU {a:Addr} {o:HO} (h:∀xs,H a≠some (.lst xs)/\H a≠some (.tup xs)) (ho:∀xs,o≠.lst xs/\o≠.tup xs):hl (upd H a o)=hl H:=by
 funext b;unfold hl upd;by_cases hb:b=a
 . subst hb;rw[Ig rfl];cases o with
   | lst xs=>exact absurd rfl (ho xs).1
   | tup xs=>exact absurd rfl (ho xs).2
   | _ =>
     cases e:H b with
     | none=>rfl
     | some u=>cases u with
       | lst xs=>exact absurd e (h xs).1
       | tup xs=>exact absurd e (h xs).2
       | _=>rfl
 . rw[IW hb]
theorem jB {a:Addr} {kvs kvs':List (aL×V)} (h:H a=some (.dK kvs)):hl (upd H a (.dK kvs'))=hl H :=
 FU (λxs=>#[(by rw[h]; intro z; cases z),(by rw[h]; intro z; cases z)]) λxs=>#[(by intro z; cases z),(by intro z; cases z)]
end L2
namespace K13
open PySem L2
theorem FoundN.hl {H:Hp} {l:Addr} {ks:List Str} {i:Nat} (h:FoundN H l ks i):FoundN (L2.hl H) l ks i:=by
 obtain⟨vs,h1,h2,h3⟩:=h;refine#[vs,uJ h1,h2,λk v q=>?_];obtain⟨o,d,z⟩:=h3 k v q;refine#[o,d,?_];cases o with
 | none=>exact z
 | some l=>obtain⟨p,z1,z2⟩:=z; exact#[p,z1,DM z2]
end K13
namespace F2
open PySem L2 Gx Fl
structure Fd where
 name:Str
 fo:V
 fa:Addr
 pa:Addr
 ra:Addr
 ps:List Str
 rs:List Rw
 ds:List K12.RowD
structure FnAt (K:W.Frag) (H:Hp) (f:Fd):Prop where
 fn:aF K H f.fa [.str f.name,f.fo,.ref f.pa,.ref f.ra]
 pr:aF K H f.pa (f.ps.map V.str)
 rw_:aF K H f.ra (f.rs.map λw=>V.ref w.r)
 rk:∀w∈f.rs,jJ K H w
 fu:K12.FunAt K H f.fa f.ps f.ds
 wf:K13.Wf (f.rs.map (·.k))
 len:f.rs.length<=100
theorem FnAt.mono {K:W.Frag} {H H':Hp} {f:Fd} (e:aB H H') (h:FnAt K H f):FnAt K H' f :=
 #[e.tup h.fn,e.tup h.pr,e.tup h.rw_,λw hw=>(h.rk w hw).mono e,h.fu.mono e,h.wf,h.len]
noncomputable def toF (f:Fd):Fl.Fd:=#[f.name,f.fa,f.ra,f.rs]
theorem FnAt.old {K:W.Frag} {H:Hp} {f:Fd} (h:FnAt K H f):Fl.FnAt K H (toF f):=#[#[_,_,h.fn],h.rw_,h.rk,#[_,_,h.fu],h.wf,h.len]
noncomputable def nms (f:Fd):List Str:=K12.onceL (K12.allOf f.ps f.ds)
noncomputable def kds (f:Fd):List Str:=f.rs.map (·.k)
noncomputable def kD (g:Nat->Fd->V) (fns:List Fd):List (aL×V):=fns.mapIdx λi f=>(Sum.inr f.name,g i f)
theorem Dx (g:Nat->Fd->V) (fns:List Fd) (f:Fd):kD g (fns++[f])=kD g fns++[(Sum.inr f.name,g fns.length f)]:=by unfold kD;rw[List.mapIdx_append];simp
variable {fns:List Fd}
theorem De {g g':Nat->Fd->V} (h:∀i f,i<fns.length->g i f=g' i f):kD g fns=kD g' fns:=by unfold kD;refine List.ext_getElem (by simp) λi h1 h2=>?_;simp only[List.getElem_mapIdx];rw[h i _ (by simpa using h1)]
theorem Hn (g:Nat->Fd->V) {s:Str} (h:s ∉ fns.map (·.name)):bN (kD g fns) (Sum.inr s:aL)=none:=by
 unfold bN;rw[Option.map_eq_none_iff,List.find?_eq_none];intro kv hkv z;unfold kD at hkv;obtain⟨i,hi,e⟩:=List.mem_mapIdx.mp hkv;subst e;have z:(Sum.inr fns[i].name:aL)=Sum.inr s:=by simpa using z
 exact h (J3.mpr #[fns[i],Ju hi,Sum.inr.inj z])
theorem ud {f:Fd} {i:Nat} (h:fns[i]?=some f) (nd:(fns.map (·.name)).Nodup):f.name ∉ (fns.take i).map (·.name):=by
 intro z;obtain⟨g,hg,e⟩:=J3.mp z;obtain⟨j,hj⟩:=Jp hg;have hji:j<i:=by have:=(Ic.mp hj).1;rw[JC] at this;omega
 rw[KP hji] at hj;have h1:(fns.map (·.name))[i]?=some f.name:=by rw[Iu,h]; rfl
 have h2:(fns.map (·.name))[j]?=some f.name:=by rw[Iu,hj]; exact Iq some e
 have:=(List.getElem?_inj (Ic.mp h2).1 nd).mp (h2.trans h1.symm);omega
theorem iH {g g':Nat->Fd->V} {f:Fd} {i:Nat} {v:V} (h:fns[i]?=some f) (nd:(fns.map (·.name)).Nodup) (hg:∀j f,j<i->g j f=g' j f) (hv:v=g' i f):ao (kD g (fns.take i)) (Sum.inr f.name:aL) v=kD g' (fns.take (i+1)):=by
 have hi:i<fns.length:=(Ic.mp h).1;have hl:(fns.take i).length=i:=by rw[JC]; omega
 rw[qS _ (Hn g (ud h nd)),Je,h];show _=kD g' (fns.take i++[f]);rw[Dx,hl,<- hv,De (g:=g) (g':=g') λj f hj=>hg j f (by omega)]
theorem kD_at (g:Nat->Fd->V):∀{fns:List Fd} {i:Nat} {f:Fd},(fns.map (·.name)).Nodup->fns[i]?=some f->bN (kD g fns) (Sum.inr f.name:aL)=some (g i f):=by
 intro fns i f nd h;have hi:i<fns.length:=(Ic.mp h).1;have key:∀k,i<k->k<=fns.length->bN (kD g (fns.take k)) (Sum.inr f.name:aL)=some (g i f):=by
   intro k
   induction k with
   | zero=>intro h0; exact absurd h0 (JR _)
   | succ k ih =>
     intro hk hk';obtain⟨f',hf'⟩:∃f',fns[k]?=some f':=#[fns[k],Iw (by omega)]
     rw[<- iH (g:=g) (g':=g) hf' nd (λ_ _ _=>rfl) rfl,valV_put];by_cases e:i=k
     . subst e;rw[h] at hf';cases hf';rw[Ig rfl]
     . have hn:¬ (Sum.inr f.name:aL)=Sum.inr f'.name:=λz=>ud hf' nd (J3.mpr #[f,Ij (by rw[KP (show i<k by omega)]; exact h),Sum.inr.inj z]);rw[IW hn];exact ih (by omega) (by omega)
 have:=key fns.length hi (Ib _);rw[JJ] at this;exact this
structure FlowsAt (K:W.Frag) (C:Addr) (H:Hp) (x:Addr) (fns:List Fd):Prop where
 all:∀f∈fns,FnAt K H f
 nd:(fns.map (·.name)).Nodup
 ob:∃dx fz d kv,∃nl wl:Nat->Addr,fns[fns.length - 1]?=some fz/\FS C H x dx (du (V.str fz.name) d) d kv/\kv 0=kD (λi _=>.int i) fns/\kv 1=kD (λ_ f=>f.fo) fns/\kv 2=kD (λ_ f=>.ref f.pa) fns/\kv 3=kD (λ_ f=>.ref f.ra) fns /\
   kv 4=kD (λi _=>.ref (nl i)) fns/\kv 5=kD (λi _=>.ref (wl i)) fns/\∀i f,fns[i]?=some f->H (nl i)=some (.lst ((nms f).map V.str))/\K13.FoundN H (wl i) (kds f) (kds f).length
theorem FlowsAt.mono {K:W.Frag} {C:Addr} {H H':Hp} {x:Addr} {fns:List Fd} (e:aB H H') (h:FlowsAt K C H x fns):FlowsAt K C H' x fns:=by obtain⟨dx,fz,d,kv,nl,wl,h0,h1,h2,h3,h4,h5,h6,h7,h8⟩:=h.ob;exact#[λf hf=>(h.all f hf).mono e,h.nd,#[dx,fz,d,kv,nl,wl,h0,h1.mono e,h2,h3,h4,h5,h6,h7,λi f hi=>#[e _ _ (h8 i f hi).1,(h8 i f hi).2.mono e]]]
end F2
namespace K21
open PySem L2
noncomputable abbrev wide:Int:=281474976710656
noncomputable def bw (s:Str) (a b:Int):Int:=if s="&" then Builtin.bitAnd a b else if s="|" then Builtin.bitOr a b else Builtin.bitXor a b
noncomputable def jk (s:Str) (x y:Int):Int:=if s="&" then x * y else if s="|" then x+y - x * y else(x+y)%2
theorem lV (x:Int):x%2=0\/x%2=1:=by omega
theorem BZ (s:Str) (a b:Int):0<=jk s (a%2) (b%2)/\jk s (a%2) (b%2)<=1:=by unfold jk;rcases lV a with h|h <;> rcases lV b with h' | h' <;> rw[h,h'] <;> (split; decide; split <;> decide)
theorem Cm {x y:Int} (hx:0<=x) (hy:0<=y):Builtin.bitAnd x y=2 * Builtin.bitAnd (x / 2) (y / 2)+(x%2) * (y%2):=by
 obtain⟨n,rfl⟩:=Ja hx;obtain⟨m,rfl⟩:=Ja hy;rw[PyProof.Rows.bitAnd_pp hx hy,PyProof.Rows.bitAnd_pp (by omega) (by omega)];have e1:(Int.ofNat n).toNat=n:=rfl;have e2:(Int.ofNat m).toNat=m:=rfl;have e3:((n:Int) / 2).toNat=n / 2:=by omega
 have e4:((m:Int) / 2).toNat=m / 2:=by omega
 have a1:((n &&& m) / 2)=(n / 2) &&& (m / 2):=Nat.and_div_two;have a2:(n &&& m)%2=(n%2) * (m%2):=by have h1:=Nat.and_mod_two_eq_one (a:=n) (b:=m);rcases LA n with h|h <;> rcases LA m with h' | h' <;> rw[h,h'] at h1 ⊢ <;> omega
 have a3:=Nat.div_add_mod (n &&& m) 2;show((n &&& m:Nat):Int)=_;rw[e3,e4,<- a1];have a4:((n:Int)%2) * ((m:Int)%2)=(((n%2) * (m%2):Nat):Int):=by rw[LW];rfl
 show _=2 * (((n &&& m) / 2:Nat):Int)+((n:Int)%2) * ((m:Int)%2);rw[a4,<- a2];omega
theorem CY (s:Str) {a b:Int} (ha:0<=a) (hb:0<=b):bw s a b=2 * bw s (a / 2) (b / 2)+jk s (a%2) (b%2):=by
 have h:=Cm ha hb;unfold bw jk;split
 . exact h
 . split
   . rw[Kh,Kh,h];omega
   . have e:∀x y:Int,Builtin.bitXor x y=x+y - 2 * Builtin.bitAnd x y:=λx y=>by unfold Builtin.bitXor;rw[Kh];omega
     rw[e,e,h];rcases lV a with p|p <;> rcases lV b with p' | p' <;> rw[p,p'] <;> omega
theorem CO (s:Str):bw s 0 0=0:=by
 unfold bw;split
 . rfl
 . split <;> rfl
theorem vI (s:Str):∀(n:Nat) {a b:Int},0<=a->0<=b->a<2 ^ n->b<2 ^ n->0<=bw s a b/\bw s a b<2 ^ n
 | 0,a,b,h1,h2,h3,h4=>by
   have e1:a=0:=by simp at h3; omega
   have e2:b=0:=by simp at h4; omega
   subst e1 e2;rw[CO];decide
 | n+1,a,b,h1,h2,h3,h4=>by rw[Int.pow_succ] at h3 h4 ⊢;have ih:=vI s n (a:=a / 2) (b:=b / 2) (by omega) (by omega) (by omega) (by omega);have st:=CY s h1 h2;have bb:=BZ s a b;omega
noncomputable def valOf (s:Str) (a b:Int):Int :=
 if s="+" then(a+b)%wide else if s="-" then(a - b)%wide else if s="*" then(a * b)%wide else if s="/" then(if b=0 then 0 else a / b)
 else if s="<" then(if a<b then 1 else 0) else if s="=" then(if a=b then 1 else 0) else bw s a b
theorem AZ (s:Str) {a b:Int} (ha:0<=a) (hb:0<=b) (ha':a<wide) (hb':b<wide):0<=valOf s a b/\valOf s a b<wide:=by
 have m:∀z:Int,0<=z%wide/\z%wide<wide:=λz=>#[KD _ (by decide),Jw _ (by decide)]
 unfold valOf;split
 . exact m _
 split
 . exact m _
 split
 . exact m _
 split
 . split
   . decide
   . have h1:0<=a / b:=Int.ediv_nonneg ha hb;have h2:a / b<=a:=Int.ediv_le_self b ha;omega
 split
 . split <;> decide
 split
 . split <;> decide
 exact vI s 48 ha hb ha' hb'
end K21
namespace Rk2
open PySem L2 K21
inductive Tr where
 | box (k:Int):Tr
 | num (v:Int):Tr
 | op (s:Str) (l r:Tr):Tr
 deriving DecidableEq
noncomputable def lvs:Tr->List (Bool×Int)
 | .box k=>[(true,k)]
 | .num v=>[(false,v)]
 | .op _ l r=>lvs l++lvs r
noncomputable def dp:Tr->Nat
 | .box _=>0
 | .num _=>0
 | .op _ l r=>max (dp l) (dp r)+1
noncomputable def RAt (H:Hp):Tr->V->Prop
 | .box k,v=>∃p,v=.ref p/\H p=some (.tup [.str "box",.int k])
 | .num n,v=>∃p,v=.ref p/\H p=some (.tup [.str "num",.int n])
 | .op s l r,v=>∃p x y,v=.ref p/\H p=some (.tup [.str s,x,y])/\¬ s="box"/\¬ s="num"/\RAt H l x/\RAt H r y
theorem RAt.mono {H H':Hp} (e:aB H H'):∀{t:Tr} {v:V},RAt H t v->RAt H' t v
 | .box k,v,h=>let ⟨p,h1,h2⟩:=h; #[p,h1,e _ _ h2]
 | .num n,v,h=>let ⟨p,h1,h2⟩:=h; #[p,h1,e _ _ h2]
 | .op s l r,v,h=>let ⟨p,x,y,h1,h2,h3,h4,h5,h6⟩:=h; #[p,x,y,h1,e _ _ h2,h3,h4,RAt.mono e h5,RAt.mono e h6]
variable {H:Hp}
theorem qp {a q:Addr} {xs l:List V} {o:HO} (h:H a=some (.tup xs)) (hq:H q=some (.lst l)):(upd H q o) a=some (.tup xs):=by rw[aw (fL h hq (by intro z; cases z))];exact h
theorem RAt.lst {H:Hp} {q:Addr} {l:List V} {o:HO} (hq:H q=some (.lst l)):∀{t:Tr} {v:V},RAt H t v->RAt (upd H q o) t v
 | .box k,v,h=>let ⟨p,h1,h2⟩:=h; #[p,h1,qp h2 hq]
 | .num n,v,h=>let ⟨p,h1,h2⟩:=h; #[p,h1,qp h2 hq]
 | .op s l r,v,h=>let ⟨p,x,y,h1,h2,h3,h4,h5,h6⟩:=h; #[p,x,y,h1,qp h2 hq,h3,h4,RAt.lst hq h5,RAt.lst hq h6]
theorem RAt.upd {H:Hp} {q:Addr} {o o':HO} (hq:H q=some o') (hn:∀xs,o'≠.tup xs):∀{t:Tr} {v:V},RAt H t v->RAt (upd H q o) t v
 | .box k,v,h=>let ⟨p,h1,h2⟩:=h; #[p,h1,by rw[aw (fL h2 hq (λz=>hn _ z.symm))]; exact h2]
 | .num n,v,h=>let ⟨p,h1,h2⟩:=h; #[p,h1,by rw[aw (fL h2 hq (λz=>hn _ z.symm))]; exact h2]
 | .op s l r,v,h=>let ⟨p,x,y,h1,h2,h3,h4,h5,h6⟩:=h; #[p,x,y,h1,by rw[aw (fL h2 hq (λz=>hn _ z.symm))]; exact h2,h3,h4,RAt.upd hq hn h5,RAt.upd hq hn h6]
noncomputable def Ps {α:Type} (R:α->V->Prop):List V->List α->Prop
 | [],[]=>True
 | v :: us,t :: ts=>R t v/\Ps R us ts
 | _,_=>False
variable {α:Type} {R R':α->V->Prop}
theorem Ps.imp (f:∀t v,R t v->R' t v):∀{us:List V} {ts:List α},Ps R us ts->Ps R' us ts
 | [],[],_=>trivial
 | v :: us,t :: ts,h=>#[f _ _ h.1,Ps.imp f h.2]
 | [],_ :: _,h=>h.elim
 | _ :: _,[],h=>h.elim
theorem Ps.len:∀{us:List V} {ts:List α},Ps R us ts->us.length=ts.length
 | [],[],_=>rfl
 | v :: us,t :: ts,h=>by rw[J6,J6,Ps.len h.2]
 | [],_ :: _,h=>h.elim
 | _ :: _,[],h=>h.elim
theorem Ps.app:∀{us us':List V} {ts ts':List α},Ps R us ts->Ps R us' ts'->Ps R (us++us') (ts++ts')
 | [],_,[],_,_,h=>h
 | v :: us,_,t :: ts,_,h,h'=>#[h.1,Ps.app h.2 h']
 | [],_,_ :: _,_,h,_=>h.elim
 | _ :: _,_,[],_,h,_=>h.elim
theorem Ps.at:∀{us:List V} {ts:List α} {n:Nat},Ps R us ts->n<ts.length->∃u t,us[n]?=some u/\ts[n]?=some t/\R t u
 | v :: us,t :: ts,0,h,_=>#[v,t,rfl,rfl,h.1]
 | v :: us,t :: ts,n+1,h,hn=>by obtain⟨u,t',h1,h2,h3⟩:=Ps.at (n:=n) h.2 (by simpa using hn);exact#[u,t',by simpa using h1,by simpa using h2,h3]
 | [],[],_,_,hn=>absurd hn (JR _)
 | [],_ :: _,_,h,_=>h.elim
 | _ :: _,[],_,h,_=>h.elim
theorem Ee (c:Nat):¬ (#[(List.toArray [c])]:Str)="box"/\¬ (#[(List.toArray [c])]:Str)="num":=by
 refine#[λz=>?_,λz=>?_]
 . have:=Iq Str.length z;exact absurd this (by show ¬ (1=Str.length "box"); decide +kernel)
 . have:=Iq Str.length z;exact absurd this (by show ¬ (1=Str.length "num"); decide +kernel)
noncomputable def kB (s:Str) (k:Int):PyData:=.tuple [.str s,.int k]
theorem oP {K:W.Frag} {p:Addr} {s:Str} {k:Int} (h:aF K H p [.str s,.int k]):bC K H (kB s k) (.ref p):=by unfold kB bC;refine#[p,_,rfl,h,?_];unfold bK;refine#[_,_,rfl,(by unfold bC; rfl),?_];unfold bK;refine#[_,_,rfl,(by unfold bC; rfl),?_];unfold bK;rfl
theorem Aw (s s':Str) (k b:Int):PyData.eqv (kB s k) (kB s' b)=(decide (s=s')&&decide (k=b)):=by unfold kB PyData.eqv PyData.eqvAll;unfold PyData.eqvAll PyData.eqv;unfold PyData.eqvAll;rw[JQ];simp
theorem RAt.head {tr:Tr} {v:V} (h:RAt H tr v):∃p hd rest,v=.ref p/\H p=some (.tup (.str hd :: rest))/\(hd="num"->∃k,tr=.num k/\rest=[.int k])/\(¬ hd="num"->∀k,tr≠.num k):=by
 cases tr with
 | box k =>
   obtain⟨p,rfl,e⟩:=h;exact#[p,_,_,rfl,e,λz=>absurd z (by decide +kernel),λ_ k z=>by cases z]
 | num k =>
   obtain⟨p,rfl,e⟩:=h;exact#[p,_,_,rfl,e,λ_=>#[k,rfl,rfl],λz=>absurd rfl z]
 | op s l r =>
   obtain⟨p,x,y,rfl,e,n1,n2,_,_⟩:=h;exact#[p,_,_,rfl,e,λz=>absurd z n2,λ_ k z=>by cases z]
noncomputable def tog (s:Str):Tr->Tr->Tr
 | .num x,.num y=>.num (valOf s x y)
 | a,b=>.op s a b
theorem rS {s:Str} {a b:Tr} (h:(∀k,a≠.num k)\/∀k,b≠.num k):tog s a b=.op s a b:=by
 unfold tog;split
 . rcases h with h|h
   . exact absurd rfl (h _)
   . exact absurd rfl (h _)
 . rfl
noncomputable def okl (l:List (Bool×Int)):Prop:=∀v,(false,v)∈l->0<=v/\v<wide
theorem ij {v:Int} (h:okl (lvs (.num v))):0<=v/\v<wide:=h v Ii
theorem vq {Q:VK} {x y:V} (h:x=y) (q:Q y H):Q x H:=by subst h; exact q
theorem pw48:((2:Int) ^ (48:Int).toNat)=wide:=by decide
theorem pos48:(0:Int)<(2:Int) ^ (48:Int).toNat:=by decide
theorem ay:2<=sizeLine:=by decide
theorem cV:3<=sizeLine:=by decide
theorem lt_line' {n:Nat} (h:n<1000000):n<sizeLine:=by
 have:(1000000:Nat)<sizeLine:=by decide
 omega
theorem at0 {x:V} {r:List V}:bI (x :: r) 0=some x:=by unfold bI cX;rw[Ig (by decide),Ig (by simp)];rfl
theorem An:PyData.strOk "box"=true:=by decide +kernel
theorem Hr:PyData.strOk "num"=true:=by decide +kernel
theorem wX:¬ (("num":Str)="box"):=by decide +kernel
theorem wG:¬ (("box":Str)="num"):=by decide +kernel
theorem CZ:((("+-*/<=&|^":Str).cps.toList.length:Nat):Int)=9:=by decide +kernel
theorem GJ:("+-*/<=&|^":Str).length<=sizeLine:=by decide +kernel
noncomputable def Sg (s:Str):Prop:=¬ s="box"/\¬ s="num"
theorem CK {i:Int} (h0:0<=i) (h1:i<9):∃ch,bI ("+-*/<=&|^":Str).cps.toList i=some ch:=by obtain⟨ch,hch,_⟩:=sQ (xs:=("+-*/<=&|^":Str).cps.toList) (i:=i) h0 (by rw[CZ]; exact h1);exact#[ch,hch]
theorem mj {a b:List (Bool×Int)} (h:okl (a++b)):okl a/\okl b:=#[λv hv=>h v (Iv.mpr (.inl hv)),λv hv=>h v (Iv.mpr (.inr hv))]
theorem no_dk {l:List (aL×V)}:∀xs,HO.dK l≠.tup xs:=λxs z=>by cases z
theorem putK_len (kvs:List (aL×V)) (k:aL) (v:V):(ao kvs k v).length<=kvs.length+1:=by
 unfold ao;split
 . rw[IX]; omega
 . rw[Il]; exact Ib _
end Rk2
namespace Rk2
open PySem L2 K21
noncomputable def pt (g:Int->Option Tr):Tr->Tr
 | .num v=>.num v
 | .box k=>(g k).getD (.box k)
 | .op s l r=>tog s (pt g l) (pt g r)
noncomputable def NV (H:Hp) (kvs:List (aL×V)) (g:Int->Option Tr):Prop:=∀k,match g k with|none=>bN kvs (Sum.inl k:aL)=none|some t=>∃x,bN kvs (Sum.inl k:aL)=some x/\RAt H t x
variable {H:Hp}
theorem NV.no {kvs:List (aL×V)} {g:Int->Option Tr} (h:NV H kvs g) {k:Int} (e:g k=none):bN kvs (Sum.inl k:aL)=none:=by have:=h k;rw[e] at this;exact this
theorem NV.yes {kvs:List (aL×V)} {g:Int->Option Tr} (h:NV H kvs g) {k:Int} {t:Tr} (e:g k=some t):∃x,bN kvs (Sum.inl k:aL)=some x/\RAt H t x:=by have:=h k;rw[e] at this;exact this
theorem NV.of {kvs:List (aL×V)} {g:Int->Option Tr} (h1:∀k,g k=none->bN kvs (Sum.inl k:aL)=none) (h2:∀k t,g k=some t->∃x,bN kvs (Sum.inl k:aL)=some x/\RAt H t x):NV H kvs g:=λk=>by
 cases e:g k with
 | none=>exact h1 k e
 | some t=>exact h2 k t e
theorem NV.mono {H H':Hp} {kvs:List (aL×V)} {g:Int->Option Tr} (h:NV H kvs g) (s:aB H H'):NV H' kvs g :=
 .of (λk e=>h.no e) λk t e=>let ⟨x,h1,h2⟩:=h.yes e; #[x,h1,h2.mono s]
theorem NV.upd {H:Hp} {q:Addr} {o o':HO} {kvs:List (aL×V)} {g:Int->Option Tr} (h:NV H kvs g) (hq:H q=some o') (hn:∀xs,o'≠.tup xs):NV (upd H q o) kvs g :=
 .of (λk e=>h.no e) λk t e=>let ⟨x,h1,h2⟩:=h.yes e; #[x,h1,h2.upd hq hn]
noncomputable def setG (g:Int->Option Tr) (k:Int) (t:Tr):Int->Option Tr:=λj=>if j=k then some t else g j
theorem NV.put {kvs:List (aL×V)} {g:Int->Option Tr} (h:NV H kvs g) {k:Int} {t:Tr} {x:V} (r:RAt H t x):NV H (ao kvs (Sum.inl k:aL) x) (setG g k t):=by
 refine .of (λj e=>?_) λj t' e=>?_
 . unfold setG at e;split at e
   . cases e
   . rename_i hj
     rw[valV_put,IW (λz=>hj (Sum.inl.inj z))];exact h.no e
 . unfold setG at e;split at e
   . rename_i hj
     cases e;exact#[x,by rw[valV_put,Ig (by rw[hj])],r]
   . rename_i hj
     obtain⟨y,h1,h2⟩:=h.yes e;exact#[y,by rw[valV_put,IW (λz=>hj (Sum.inl.inj z))]; exact h1,h2]
theorem Fw {s:Str} {a b:Tr} (ha:okl (lvs a)) (hb:okl (lvs b)):okl (lvs (tog s a b)):=by
 unfold tog;split
 . rename_i x y
   have h1:=ij ha;have h2:=ij hb;have h3:=AZ s h1.1 h2.1 h1.2 h2.2;intro v hv;have:=Ik.mp hv;cases this;exact h3
 . intro v hv;rcases Iv.mp hv with hv|hv
   . exact ha v hv
   . exact hb v hv
theorem j5 {g:Int->Option Tr} (hg:∀k t,g k=some t->okl (lvs t)):∀{tr:Tr},okl (lvs tr)->okl (lvs (pt g tr))
 | .num v,h=>h
 | .box k,h=>by
   show okl (lvs ((g k).getD (.box k)));cases e:g k with
   | none=>exact h
   | some t=>exact hg k t e
 | .op s l r,h=>Fw (j5 hg (mj h).1) (j5 hg (mj h).2)
theorem Gu {s:Str} {a b:Tr} {n:Nat} (h1:dp a<=n) (h2:dp b<=n):dp (tog s a b)<=n+1:=by
 unfold tog;split
 . exact J2 _
 . show max (dp a) (dp b)+1<=n+1;omega
theorem lq {g:Int->Option Tr} {m:Nat} (hg:∀k t,g k=some t->dp t<=m):∀(tr:Tr),dp (pt g tr)<=dp tr+m
 | .num v=>J2 _
 | .box k=>by
   show dp ((g k).getD (.box k))<=_;cases e:g k with
   | none=>exact J2 _
   | some t=>have:=hg k t e; show dp t<=0+m; omega
 | .op s l r=>by have h1:=lq hg l;have h2:=lq hg r;have:=Gu (s:=s) (a:=pt g l) (b:=pt g r) (n:=max (dp l) (dp r)+m) (by omega) (by omega);show dp (tog s (pt g l) (pt g r))<=max (dp l) (dp r)+1+m;omega
theorem vY {v:Int} (h0:0<=v) (h1:v<wide):okl (lvs (.num v)):=λw hw=>by have h:=Ik.mp hw;cases h;exact#[h0,h1]
theorem okl_box (k:Int):okl (lvs (.box k)):=λw hw=>by have h:=Ik.mp hw;cases h
theorem ot {x y i:Int} (h0:0<=i) (h1:i<2):bI [V.int x,V.int y] i=some (.int (if i=0 then x else y)):=by
 have:i=0\/i=1:=by omega
 rcases this with e|e <;> subst e <;> rfl
end Rk2
namespace K41
open PySem L2 Gx Fl
structure RR where
 w:Rw
 d:K12.RowD
noncomputable def iM (K:W.Frag) (H:Hp) (x:RR):Prop:=x.w.r=x.d.r/\jJ K H x.w/\K12.RowAt K H x.d
theorem rh {ks os:List Str} {x:Str} (g:K13.Good ks os) (h1:¬ K13.isO x=true) (h2:¬ K13.isE x=true) (h3:¬ x="end"):∀n,K13.Good (ks++List.replicate n x) os
 | 0=>by rw[List.replicate_zero,JI]; exact g
 | n+1=>by rw[List.replicate_succ',<- JP]; exact(rh g h1 h2 h3 n).plain h1 h2 h3
noncomputable def lc (z:Int):Nat:=K12.lets.cps.toList.getD z.toNat 0
theorem t8:K12.lets.cps.toList.length=26:=by decide +kernel
variable {z:Int}
theorem sY (h0:0<=z) (h1:z<26):bI K12.lets.cps.toList z=some (lc z):=by
 obtain⟨j,rfl⟩:=Ja h0;have hj:j<K12.lets.cps.toList.length:=by rw[t8]; omega
 refine c7 ?_;unfold lc;rw[JF,JT,Iw hj];rfl
theorem tD (h0:0<=z) (h1:z<26):lc z∈K12.lets.cps.toList:=by
 have hj:z.toNat<K12.lets.cps.toList.length:=by rw[t8]; omega
 unfold lc;rw[JT,Iw hj];exact Ju hj
theorem Fn {x y:Int} (x0:0<=x) (x1:x<26) (y0:0<=y) (y1:y<26) (h:lc x=lc y):x=y:=by
 have key:∀i<26,∀j<26,K12.lets.cps.toList.getD i 0=K12.lets.cps.toList.getD j 0->i=j:=by decide +kernel
 have:=key x.toNat (by omega) y.toNat (by omega) h;omega
theorem wr {l:List Nat} (h:∀c∈l,c∈K12.lets.cps.toList):PyData.strOk (tx l)=true:=by
 have hz:=K12.lets_ok;unfold PyData.strOk at hz ⊢;rw[Array.all_eq_true'] at hz ⊢;intro x hx;have hx:x∈l:=by simpa [tx] using hx
 exact hz x (by simpa using h x hx)
noncomputable def ir:List V:=[V.str "fn",V.str "in",V.str "new",V.str "get",V.str "put",V.str "call",V.str "out",V.str "if",V.str "while",V.str "else",V.str "end",V.str "back"]
noncomputable def eN (W:List Nat) (a:Nat) (z:Int) (k:Nat):List Nat:=W.take a++[lc ((z+k)%26)]++W.drop a
noncomputable def dY (W:List Nat) (a:Nat) (z:Int) (k:Nat):Str:=if gj (.str (tx (eN W a z k))) ir=true then tx (eN W a z k++[120]) else tx (eN W a z k)
theorem lP (W:List Nat) (a:Nat) (z:Int) (k:Nat):(eN W a z k).length=W.length+1:=by unfold eN;rw[Il,Il,JC,K7];simp;omega
variable {j:Nat}
theorem vO {W:List Nat} {a:Nat} {i:Nat}(hi:i<26) (hj:j<26) (h:eN W a z i=eN W a z j):i=j:=by unfold eN at h;rw[JP,JP] at h;have h:=List.append_cancel_left h;have h:=(List.cons.inj h).1;have b1:=gh (z+i) 26 (by decide);have b2:=gh (z+j) 26 (by decide);have:=Fn b1.1 b1.2 b2.1 b2.2 h;omega
theorem DV {W:List Nat} {a:Nat} {i:Nat}(hi:i<26) (hj:j<26) (h:dY W a z i=dY W a z j):i=j:=by
 have l1:=lP W a z i;have l2:=lP W a z j;unfold dY at h;split at h
 . split at h
   . have:=lT h;exact vO hi hj (List.append_cancel_right this)
   . have:=Iq List.length (lT h);rw[Il] at this;simp at this;omega
 . split at h
   . have:=Iq List.length (lT h);rw[Il] at this;simp at this;omega
   . exact vO hi hj (lT h)
theorem FA {W:List Nat} {a:Nat} {k:Nat} (hW:∀c∈W,c∈K12.lets.cps.toList) (hl:W.length<=10):K12.Nm (dY W a z k):=by
 have b1:=gh (z+k) 26 (by decide);have hm:∀c∈eN W a z k,c∈K12.lets.cps.toList:=λc hc=>by
   unfold eN at hc;rcases Iv.mp hc with h|h
   . rcases Iv.mp h with h|h
     . exact hW c (List.mem_of_mem_take h)
     . rw[Ik.mp h]; exact tD b1.1 b1.2
   . exact hW c (List.mem_of_mem_drop h)
 have l1:=lP W a z k;unfold dY;split
 . refine#[by rw[gA,Il,l1]; simp; omega,wr λc hc=>?_];rcases Iv.mp hc with h|h
   . exact hm c h
   . rw[Ik.mp h]; decide +kernel
 . exact#[by rw[gA,l1]; omega,wr hm]
theorem Bo {l:List Nat} (h:j<=l.length):PySem.Txt.slice (tx l) none (some (j:Int))=tx (l.take j):=by have:=PyProof.Rows.slice_closes_to (x:=tx l) (j:=(j:Int)) #[by omega,by rw[jf]; omega];rw[LF,jf] at this;rw[this];simp [tx]
theorem Bk {l:List Nat} (h:j<=l.length):PySem.Txt.slice (tx l) (some (j:Int)) none=tx (l.drop j):=by
 have:=PyProof.Rows.slice_from_eq (x:=tx l) (i:=(j:Int)) (b:=(l.length:Int)) (by omega) (by rw[gA]; omega) (by rw[gA]);rw[this,jf];have e:((l.length:Int) - (j:Int)).toNat=(l.drop j).length:=by rw[K7]; omega
 rw[e,JF,JJ];rfl
end K41
namespace Bg
open PySem L2 Gx Rk2
noncomputable def bS:Tr->PyData
 | .box k=>.tuple [.str "box",.int k]
 | .num v=>.tuple [.str "num",.int v]
 | .op s l r=>.tuple [.str s,bS l,bS r]
noncomputable def eJ:Tr->Prop
 | .op s l r=>PyData.strOk s=true/\eJ l/\eJ r
 | _=>True
theorem gn:∀{t:Tr},eJ t->bF (dp t+1) (bS t)
 | .box k,_=>by
   unfold bS dp;refine bF.tuple λd hd=>?_;rcases Io.mp hd with rfl|hd
   . exact bF.str An
   . cases Ik.mp hd; exact bF.int _
 | .num v,_=>by
   unfold bS dp;refine bF.tuple λd hd=>?_;rcases Io.mp hd with rfl|hd
   . exact bF.str Hr
   . cases Ik.mp hd; exact bF.int _
 | .op s l r,h=>by
   have h1:=gn h.2.1;have h2:=gn h.2.2;unfold bS dp;refine bF.tuple λd hd=>?_;rcases Io.mp hd with rfl|hd
   . exact bF.str h.1
   . rcases Io.mp hd with rfl|hd
     . exact h1.mono (by have:=Nat.le_max_left (dp l) (dp r); omega)
     . cases Ik.mp hd; exact h2.mono (by have:=Nat.le_max_right (dp l) (dp r); omega)
theorem dD {K:W.Frag} {H:Hp}:∀{t:Tr} {v:V},RAt H t v->bC K H (bS t) v
 | .box k,v,h=>by obtain⟨p,rfl,e⟩:=h;unfold bS bC;refine#[p,_,rfl,aF.of e,?_];unfold bK;refine#[_,_,rfl,by unfold bC; rfl,?_];unfold bK;refine#[_,_,rfl,by unfold bC; rfl,?_];unfold bK;rfl
 | .num k,v,h=>by obtain⟨p,rfl,e⟩:=h;unfold bS bC;refine#[p,_,rfl,aF.of e,?_];unfold bK;refine#[_,_,rfl,by unfold bC; rfl,?_];unfold bK;refine#[_,_,rfl,by unfold bC; rfl,?_];unfold bK;rfl
 | .op s l r,v,h=>by obtain⟨p,x,y,rfl,e,n1,n2,hx,hy⟩:=h;have ix:=dD (K:=K) hx;have iy:=dD (K:=K) hy;unfold bS bC;refine#[p,_,rfl,aF.of e,?_];unfold bK;refine#[_,_,rfl,by unfold bC; rfl,?_];unfold bK;refine#[_,_,rfl,ix,?_];unfold bK;refine#[_,_,rfl,iy,?_];unfold bK;rfl
theorem gP (s s':Str) (k b:Int):PyData.eqv (.tuple [.str s,.int k]) (.tuple [.str s',.int b])=(decide (s=s')&&decide (k=b)):=Aw s s' k b
theorem pz (t:Tr) (k:Int):PyData.eqv (bS t) (bS (.box k))=decide (t=.box k):=by
 cases t with
 | box j =>
   refine(gP _ _ _ _).trans ?_;rw[IV rfl,JY,JQ,JX,JX];exact#[λe=>by rw[e],λe=>Tr.box.inj e]
 | num v =>
   refine(gP _ _ _ _).trans ?_;rw[Ih wX,Kx];exact(Ih (λz=>by cases z)).symm
 | op s l r =>
   rw[Ih (by intro z; cases z)];unfold bS PyData.eqv PyData.eqvAll;unfold PyData.eqvAll;unfold PyData.eqvAll;rw[JB,JB]
theorem Hd (t:Tr) (k:Int):PyData.eqv (bS t) (bS (.num k))=decide (t=.num k):=by
 cases t with
 | num j =>
   refine(gP _ _ _ _).trans ?_;rw[IV rfl,JY,JQ,JX,JX];exact#[λe=>by rw[e],λe=>Tr.num.inj e]
 | box v =>
   refine(gP _ _ _ _).trans ?_;rw[Ih wG,Kx];exact(Ih (λz=>by cases z)).symm
 | op s l r =>
   rw[Ih (by intro z; cases z)];unfold bS PyData.eqv PyData.eqvAll;unfold PyData.eqvAll;unfold PyData.eqvAll;rw[JB,JB]
theorem Da {s:Str} (hs:PyData.strOk s=true) {a b:Tr} (ha:eJ a) (hb:eJ b):eJ (tog s a b):=by cases a <;> cases b <;> first|exact trivial|exact#[hs,ha,hb]
theorem mM {g:Int->Option Tr} (hg:∀k u,g k=some u->eJ u):∀{t:Tr},eJ t->eJ (pt g t)
 | .num v,_=>trivial
 | .box k,_=>by
   unfold pt;cases e:g k with
   | none=>exact trivial
   | some u=>exact hg k u e
 | .op s l r,h=>Da h.1 (mM hg h.2.1) (mM hg h.2.2)
noncomputable def aZ (H:Hp):Option Tr->V->Prop
 | none,v=>v=.non
 | some t,v=>RAt H t v
theorem aZ.mono {H H':Hp} {o:Option Tr} {v:V} (h:aZ H o v) (e:aB H H'):aZ H' o v:=by
 cases o with
 | none=>exact h
 | some t=>exact RAt.mono e h
theorem aZ.lst {H:Hp} {q:Addr} {l:List V} {o:HO} (hq:H q=some (.lst l)) {u:Option Tr} {v:V} (h:aZ H u v):aZ (upd H q o) u v:=by
 cases u with
 | none=>exact h
 | some t=>exact RAt.lst hq h
noncomputable def TOk (t:Tr):Prop:=okl (lvs t)/\eJ t/\dp t<=8/\∀k,(true,k)∈lvs t->0<=k/\k<128
noncomputable def fT (n:Nat) (t:Tr):Prop:=okl (lvs t)/\eJ t/\dp t<=n/\∀k,(true,k)∈lvs t->0<=k/\k<128
variable {n:Nat}
theorem fT.ok {t:Tr} (h:fT n t) (hn:n<=8):TOk t:=#[h.1,h.2.1,J7 h.2.2.1 hn,h.2.2.2]
theorem tM {k:Int} (h:0<=k/\k<128):fT n (.box k):=#[okl_box k,trivial,J2 _,λj hj=>by cases Ik.mp hj; exact h]
theorem vH {v:Int} (h0:0<=v) (h1:v<K21.wide):fT n (.num v):=#[vY h0 h1,trivial,J2 _,λj hj=>by cases Ik.mp hj]
theorem lD {s:Str} {a b:Tr} (hs:PyData.strOk s=true) (ha:fT n a) (hb:fT n b):fT (n+1) (.op s a b) :=
 #[λv hv=>(Iv.mp hv).elim (ha.1 v) (hb.1 v),#[hs,ha.2.1,hb.2.1],Nat.succ_le_succ (Nat.max_le.mpr #[ha.2.2.1,hb.2.2.1]),λk hk=>(Iv.mp hk).elim (ha.2.2.2 k) (hb.2.2.2 k)]
theorem mz {i:Int} {ch:Nat} (h:bI ("+-*/<=&|^":Str).cps.toList i=some ch):PyData.strOk (#[(List.toArray [ch])]:Str)=true:=by
 have hm:ch∈("+-*/<=&|^":Str).cps.toList:=by
   unfold bI at h;cases e:cX ("+-*/<=&|^":Str).cps.toList.length i with
   | none=>rw[e] at h; cases h
   | some j=>rw[e] at h; exact Ij h
 have key:∀c∈("+-*/<=&|^":Str).cps.toList,PyData.strOk (⟨(List.toArray [c])⟩:Str)=true:=by decide +kernel
 exact key ch hm
theorem dP (a b:Int) (h:0<b):0<=a%b/\a%b<b:=#[KD _ (Int.ne_of_gt h),Jw _ h]
noncomputable def gX (bs:List Int):Prop:=bs.length=8/\∀b∈bs,0<=b/\b<128
theorem m5 {bs:List Int} (h:gX bs) (z:Int):∃b,(0:Int)<((bs.map V.int).length:Nat)/\bI (bs.map V.int) (z%((bs.map V.int).length:Nat))=some (.int b)/\0<=b/\b<128:=by
 have hl:(bs.map V.int).length=8:=by rw[IX]; exact h.1
 have hz:=dP z ((bs.map V.int).length:Nat) (by omega);obtain⟨j,ej⟩:=Ja hz.1;have hj:j<bs.length:=by have:=h.1; omega
 refine#[bs[j],by omega,?_,(h.2 _ (Ju hj)).1,(h.2 _ (Ju hj)).2];rw[ej];refine c7 ?_;rw[Iu,Iw hj];rfl
end Bg
namespace L2
open PySem PySem.Spec PyProof.Rows
noncomputable def sB:Stmt->List Stmt
 | .For _ _ b _ _=>b
 | .While _ b _ _=>b
 | .If _ b _ _=>b
 | _=>[]
inductive WVar (i:Nat) (σ:St) (H:Hp) (Q:VK):Prop
 | mk (v:V) (h:σ[i]?=some (some v)) (q:Q v H):WVar i σ H Q
noncomputable def HP (i:Nat):TE:=λσ H Q=>WVar i σ H Q
variable {X:Cx}
theorem a9 (i:Nat) {x:Str} {pos:Pos} (hN:X.N[i]?=some x:=by rfl) (hv:lh X.env.scope x:=by first|exact Or.inl rfl|exact Or.inr (Or.inl rfl)|exact Or.inr (Or.inr rfl)) (hd:(x==("__debug__":Str))=false:=by decide)
   (hcd:(x==("__classdict__":Str))=false:=by decide):PE X (.Name x pos) (HP i):=λpins s σ H Q I h=>pv i hN hv hd hcd pins s σ H Q I (let ⟨v,e,q⟩:=h; #[v,e,q])
inductive WIxL (K:W.Frag) (x y:V) (H:Hp) (Q:VK):Prop
 | mk (p:Addr) (xs:List V) (i:Int) (v:V) (h1:x=.ref p) (h2:y=.int i) (h3:aJ K H p xs) (h4:bI xs i=some v) (q:Q v H):WIxL K x y H Q
inductive WIxT (K:W.Frag) (x y:V) (H:Hp) (Q:VK):Prop
 | mk (p:Addr) (xs:List V) (i:Int) (v:V) (h1:x=.ref p) (h2:y=.int i) (h3:aF K H p xs) (h4:bI xs i=some v) (q:Q v H):WIxT K x y H Q
noncomputable def af (K:W.Frag):R2:=λx y H Q=>WIxL K x y H Q
noncomputable def aQ (K:W.Frag):R2:=λx y H Q=>WIxT K x y H Q
theorem aH.imp {r r':R2} (h:aH X r) (f:∀x y H Q,r' x y H Q->r x y H Q):aH X r':=λa b pins s σ H x y v u Q I r1 r2 q z=>h a b pins s σ H x y v u Q I r1 r2 (f x y H Q q) z
theorem bT.imp {g:Value->Value->Sem Value} {r r':R2} (h:bT X g r) (f:∀x y H Q,r' x y H Q->r x y H Q):bT X g r':=λpins s σ H x y v u Q I r1 r2 q=>h pins s σ H x y v u Q I r1 r2 (f x y H Q q)
theorem bt.imp {g:Value} {r r':List V->Hp->VK->Prop} (h:bt X g r) (f:∀xs H Q,r' xs H Q->r xs H Q):bt X g r':=λpins s σ H xs us Q I r1 q=>h pins s σ H xs us Q I r1 (f xs H Q q)
theorem ag :aH X (af X.K):=j6.imp λx y H Q h=>let ⟨p,xs,i,v,h1,h2,h3,h4,q⟩:=h; #[p,xs,i,v,h1,h2,h3,h4,q]
theorem aR :aH X (aQ X.K):=iJ.imp λx y H Q h=>let ⟨p,xs,i,v,h1,h2,h3,h4,q⟩:=h; #[p,xs,i,v,h1,h2,h3,h4,q]
inductive WI (C:Int->Int->Prop) (g:Int->Int->V) (x y:V) (H:Hp) (Q:VK):Prop
 | mk (i j:Int) (h1:x=.int i) (h2:y=.int j) (h3:C i j) (q:Q (g i j) H):WI C g x y H Q
inductive WI0 (g:Int->Int->V) (x y:V) (H:Hp) (Q:VK):Prop
 | mk (i j:Int) (h1:x=.int i) (h2:y=.int j) (q:Q (g i j) H):WI0 g x y H Q
noncomputable def cI (C:Int->Int->Prop) (g:Int->Int->V):R2:=λx y H Q=>WI C g x y H Q
noncomputable def cI0 (g:Int->Int->V):R2:=λx y H Q=>WI0 g x y H Q
theorem aU {f:Value->Value->Sem Value} {C:Int->Int->Prop} {g:Int->Int->V} (h:bT X f (rI C g)):bT X f (cI C g):=h.imp λx y H Q h=>let ⟨i,j,h1,h2,h3,q⟩:=h; #[i,j,h1,h2,h3,q]
theorem bo {f:Value->Value->Sem Value} {g:Int->Int->V} (h:bT X f (gC g)):bT X f (cI0 g):=h.imp λx y H Q h=>let ⟨i,j,h1,h2,q⟩:=h; #[i,j,h1,h2,q]
inductive WLen (K:W.Frag) (xs:List V) (H:Hp) (Q:VK):Prop
 | mk (p:Addr) (ys:List V) (h1:xs=[.ref p]) (h2:aJ K H p ys\/aF K H p ys) (q:Q (.int ys.length) H):WLen K xs H Q
noncomputable def cr (K:W.Frag):List V->Hp->VK->Prop:=λxs H Q=>WLen K xs H Q
theorem d9 :bt X (.builtin "len") (cr X.K):=oV.imp λxs H Q h=>let ⟨p,ys,h1,h2,q⟩:=h; #[p,ys,h1,h2,q]
inductive WApp (x:V) (vs:List V) (H:Hp) (Q:VK):Prop
 | mk (l:Addr) (xs:List V) (y:V) (h1:x=.ref l) (h2:vs=[y]) (h3:H l=some (.lst xs)) (h4:xs.length<sizeLine) (q:Q .non (upd H l (.lst (xs++[y])))):WApp x vs H Q
noncomputable def FT:V->List V->Hp->VK->Prop:=λx vs H Q=>WApp x vs H Q
theorem j0 :lA X "list.append" FT:=λpins s σ H x xs v us Q I r1 r2 q=>iX pins s σ H x xs v us Q I r1 r2 (let ⟨l,xs,y,h1,h2,h3,h4,q⟩:=q; #[l,xs,y,h1,h2,h3,h4,q])
inductive WBl (x:V) (H:Hp) (Q:Bool->Hp->Prop):Prop
 | mk (k:Bool) (h:x=.bl k) (q:Q k H):WBl x H Q
noncomputable def wP (t:TE):TT:=λσ H Q=>t σ H λx H'=>WBl x H' Q
section
variable {X:Cx} {a b:Expr} {ta tb:TE} {pos:Pos}
theorem ae {op:CmpOp} {r:R2} (ho:bT X (compareOp op) r) (ha:PE X a ta) (hb:PE X b tb) (hm:behindInMarks op b=false):PT X (.Compare a [op] [b] pos) (wP (kS r ta tb)):=by
 intro pins s σ H Q I h;refine Kk (am (ha pins s σ H _ I h) λv s1 ⟨x,H1,I1,r1,q1⟩=>am (hb pins s1 σ H1 _ I1 q1) λu s2 ⟨y,H2,I2,r2,q2⟩ =>
   am (ho pins s2 σ H2 x y v u _ I2 r1 r2 q2) λc s3 ⟨z,H3,I3,r3,w⟩=>?_) hm
 obtain⟨k,e,q3⟩:=w;subst e;cases r3;exact JW #[H3,I3,q3]
theorem qh {e:Expr} {t:TE} (h:PE X e t) (he:∀whole,isTrue e X.env whole=(do let v <- whole; standAt e.pos; holding [v] (truthy v)):=by intro _; rfl):PT X e (wP t):=by intro pins s σ H Q I hw;refine isTrue_plain (am (h pins s σ H _ I hw) λv s1 ⟨x,H1,I1,r1,q1⟩=>?_) (he _);obtain⟨d,rfl,q⟩:=q1;cases r1;exact JW #[H1,I1,q]
end
noncomputable def A8 (t u:TS):TS:=λD σ H=>∃M:St->Hp->Prop,t { D with nx:=M } σ H/\∀σ' H',M σ' H'->u D σ' H'
theorem cx {X:Cx} {st:Stmt} {rest:List Stmt} {t u:TS} (h1:PS X st t) (h2:bQ X rest u):bQ X (st :: rest) (A8 t u):=Eb h1 h2
end L2
namespace Bg
open PySem L2 Gx K41
noncomputable def bJ (K:W.Frag) (H:Hp) (n:Nat) (v:V):Prop:=∃d,bF n d/\bC K H d v
noncomputable def bp (K:W.Frag) (H:Hp) (n:Nat) (xs:List V):Prop:=∃ds,(∀d∈ds,bF n d)/\bK K H ds xs
theorem bJ.mono {K:W.Frag} {H H':Hp} {n:Nat} {v:V} (h:bJ K H n v) (e:aB H H'):bJ K H' n v:=let ⟨d,l,z⟩:=h; #[d,l,bC.mono e d v z]
variable {K:W.Frag} {H:Hp} {n:Nat}
theorem bJ.up {m:Nat}{v:V} (h:bJ K H n v) (e:n<=m):bJ K H m v:=let ⟨d,l,z⟩:=h; #[d,l.mono e,z]
theorem bJ.str {K:W.Frag} {H:Hp} {n:Nat} {s:Str} (h:PyData.strOk s=true):bJ K H n (.str s):=#[.str s,bF.str h,by unfold bC; rfl]
theorem bJ.int {K:W.Frag} {H:Hp} {n:Nat} {i:Int}:bJ K H n (.int i):=#[.int i,bF.int i,by unfold bC; rfl]
theorem bJ.bl {b:Bool}:bJ K H n (.bl b):=#[.bool b,bF.bool b,by unfold bC; rfl]
theorem bJ.non :bJ K H n .non:=#[.none,bF.none,by unfold bC; rfl]
theorem bp.nil :bp K H n []:=#[[],λd h=>(by cases h),by unfold bK; rfl]
theorem bp.cons {K:W.Frag} {H:Hp} {n:Nat} {x:V} {xs:List V} (h:bJ K H n x) (t:bp K H n xs):bp K H n (x :: xs):=by obtain⟨d,l,z⟩:=h;obtain⟨ds,ls,zs⟩:=t;refine#[d :: ds,λe he=>(Io.mp he).elim (λz=>z ▸ l) (ls e),?_];unfold bK;exact#[_,_,rfl,z,zs]
theorem bp.of {K:W.Frag} {H:Hp} {n:Nat}:∀{xs:List V},(∀x∈xs,bJ K H n x)->bp K H n xs
 | [],_=>.nil
 | x :: xs,h=>.cons (h x Ii) (bp.of λy hy=>h y (Im _ hy))
theorem bJ.tup {K:W.Frag} {H:Hp} {n:Nat} {a:Addr} {xs:List V} (h:aF K H a xs) (t:bp K H n xs):bJ K H (n+1) (.ref a):=by obtain⟨ds,ls,zs⟩:=t;refine#[.tuple ds,bF.tuple ls,?_];unfold bC;exact#[a,xs,rfl,h,zs]
theorem bJ.lst {K:W.Frag} {H:Hp} {n:Nat} {a:Addr} {xs:List V} (h:aJ K H a xs) (t:bp K H n xs):bJ K H (n+1) (.ref a):=by obtain⟨ds,ls,zs⟩:=t;refine#[.list ds,bF.list ls,?_];unfold bC;exact#[a,xs,rfl,h,zs]
noncomputable def ca (K:W.Frag) (H:Hp) (n:Nat) (x y:V):Prop:=∃d,bF n d/\bC K H d x/\bC K H d y
noncomputable def dn (K:W.Frag) (H:Hp) (n:Nat) (xs ys:List V):Prop:=∃ds,(∀d∈ds,bF n d)/\bK K H ds xs/\bK K H ds ys
theorem ca.of {x:V} (h:bJ K H n x):ca K H n x x:=let ⟨d,l,z⟩:=h; #[d,l,z,z]
theorem ca.up {m:Nat}{x y:V} (h:ca K H n x y) (e:n<=m):ca K H m x y:=let ⟨d,l,z⟩:=h; #[d,l.mono e,z]
theorem dn.nil :dn K H n [] []:=#[[],λd h=>(by cases h),(by unfold bK; rfl),(by unfold bK; rfl)]
theorem dn.cons {K:W.Frag} {H:Hp} {n:Nat} {x y:V} {xs ys:List V} (h:ca K H n x y) (t:dn K H n xs ys):dn K H n (x :: xs) (y :: ys):=by
 obtain⟨d,l,z1,z2⟩:=h;obtain⟨ds,ls,zs1,zs2⟩:=t;refine#[d :: ds,λe he=>(Io.mp he).elim (λz=>z ▸ l) (ls e),?_,?_]
 . unfold bK;exact#[_,_,rfl,z1,zs1]
 . unfold bK;exact#[_,_,rfl,z2,zs2]
theorem dn.of {xs:List V} (h:bp K H n xs):dn K H n xs xs:=let ⟨ds,l,z⟩:=h; #[ds,l,z,z]
theorem ca.tup {K:W.Frag} {H:Hp} {n:Nat} {a b:Addr} {xs ys:List V} (h1:aF K H a xs) (h2:aF K H b ys) (t:dn K H n xs ys):ca K H (n+1) (.ref a) (.ref b):=by
 obtain⟨ds,ls,z1,z2⟩:=t;refine#[.tuple ds,bF.tuple ls,?_,?_]
 . unfold bC;exact#[a,xs,rfl,h1,z1]
 . unfold bC;exact#[b,ys,rfl,h2,z2]
theorem ca.lst {K:W.Frag} {H:Hp} {n:Nat} {a b:Addr} {xs ys:List V} (h1:aJ K H a xs) (h2:aJ K H b ys) (t:dn K H n xs ys):ca K H (n+1) (.ref a) (.ref b):=by
 obtain⟨ds,ls,z1,z2⟩:=t;refine#[.list ds,bF.list ls,?_,?_]
 . unfold bC;exact#[a,xs,rfl,h1,z1]
 . unfold bC;exact#[b,ys,rfl,h2,z2]
theorem ca.eq {K:W.Frag} {H:Hp} {Q:VK} {n:Nat} {x y:V} (h:ca K H n x y) (hn:n<=64) (q:Q (.bl true) H):j1 K x y H Q:=let ⟨d,l,z1,z2⟩:=h; DW hn l z1 z2 q
theorem iM.mono {K:W.Frag} {H H':Hp} {x:RR} (h:iM K H x) (e:aB H H'):iM K H' x:=#[h.1,h.2.1.mono e,h.2.2.mono e]
theorem uT {nk:Str} {fa tr qC:Addr} {fo:V} {ps:List Str} (rr:List RR) (h1:aF K H fa [.str nk,fo,.ref qC,.ref tr]) (h2:aF K H tr (rr.map λx=>V.ref x.w.r)) (h3:∀x∈rr,iM K H x) (h4:aF K H qC (ps.map V.str)) (h5:∀s∈ps,K12.Nm s) (h6:ps.length<=100) (h7:rr.length<=100) (wf:K13.Wf (rr.map λx=>x.w.k)) :
   F2.FnAt K H #[nk,fo,fa,qC,tr,ps,rr.map (·.w),rr.map (·.d)]:=by
 refine#[h1,h4,by show aF K H tr ((rr.map (·.w)).map λw=>V.ref w.r); rw[Jc]; exact h2,λw hw=>?_,#[#[_,_,_,_,h1,h4,?_],λd hd=>?_,h5,h6,by show(rr.map (·.d)).length<=100; rw[IX]; exact h7],by show K13.Wf ((rr.map (·.w)).map (·.k)); rw[Jc]; exact wf,by show(rr.map (·.w)).length<=100; rw[IX]; exact h7]
 . obtain⟨x,hx,rfl⟩:=J3.mp hw;exact(h3 x hx).2.1
 . show aF K H tr ((rr.map (·.d)).map λd=>V.ref d.r);rw[Jc];have:(rr.map λx=>V.ref x.w.r)=rr.map ((λd=>V.ref d.r) ∘ (·.d)):=List.map_congr_left λx hx=>by show V.ref x.w.r=V.ref x.d.r;rw[(h3 x hx).1]
   rw[<- this];exact h2
 . obtain⟨x,hx,rfl⟩:=J3.mp hd;exact(h3 x hx).2.2
noncomputable def mY (K:W.Frag) (H:Hp) (x:RR):Prop:=iM K H x/\bJ K H 3 (.ref x.w.r)
theorem mY.mono {K:W.Frag} {H H':Hp} {x:RR} (h:mY K H x) (e:aB H H'):mY K H' x:=#[iM.mono h.1 e,h.2.mono e]
end Bg
namespace Ex
open PySem PySem.W PyProof.Rows PySem.Spec
section
variable {prog:Program} {w:World} {A:Around} {E:Value->Shared->Prop} {R:Result->Shared->Prop} {h:Heap} {g:Array GenState} {d:Drawn} {t:Nat} {os:OsState}
 {nm q:Str} {C N:Addr} {bs bm:List Value} {hdct:Bool} {sn:List Str} {sub:List Value} {ab:Bool} {col:Option Bool} {dd:Option Addr} {k0 k1 k2 k3 k5:Option Value}
end
end Ex
namespace L2
open PySem PySem.Spec PyProof.Rows
section
variable {P:Program} {w:World} {K:W.Frag} {mg:Str->Option Value} {base:Heap} {N:List Str} {qual:Str} {sc:Scope} {f:Addr} {cd:Value} {A:Around} {outer:List Env} {s0 s:Shared} {H0 H:Hp} {E:XK}
 {pins:List (Addr×Obj)} {σ:St} {cls:Value} {d:Option Addr} {e:Addr}
end
end L2
namespace Ex
open PySem PySem.W PyProof.Rows PySem.Spec
section
variable {prog:Program} {w:World} {A:Around} {E:Value->Shared->Prop} {R:Result->Shared->Prop} {h:Heap} {g:Array GenState} {d:Drawn} {t:Nat} {os:OsState}
 {nm q:Str} {C N:Addr} {bs bm:List Value} {hdct:Bool} {sn:List Str} {sub:List Value} {ab:Bool} {col:Option Bool} {dd:Option Addr} {k0 k1 k2 k3 k5:Option Value}
end
end Ex
namespace L2
open PySem PySem.Spec PyProof.Rows
open PySem.Builtin
theorem Gs:fillsNumberSlot (.type "tuple") "mul"=pure false :=
 PySem.fillsNumberSlot_seq (id:="tuple.__mul__") (r:=some (.builtin "tuple.__rmul__")) KH.lookup (by decide +kernel) F.slot_tuple_rmul.lookup (by decide +kernel)
theorem E9:seqRepeat? (.type "tuple")=pure (some (.builtin "tuple.__mul__")):=by unfold seqRepeat?;rw[PySem.seqSlot_of (T:="tuple") (name:="__mul__") (id:="tuple.__mul__") KH.lookup (by decide +kernel),PySem.seqSlot_of (T:="tuple") (name:="__rmul__") (id:="tuple.__rmul__") F.slot_tuple_rmul.lookup (by decide +kernel)];rfl
theorem HG (a:Int) (t:Tok) (l:Addr) (items:Array Value) (n:Nat) (dd:Option Addr) (sl:Array (Option Value)) :
   Meets (Builtin.«int.__rmul__» #[[.int a t,.ref l],[]]) (λ_ R s=>s.heap.get? l=some { cls:=.type "tuple",dict:=dd,data:=.seq items n,slots:=sl }/\R (.ok (.ret Value.notImplemented)) s) :=
 .of_wp λprog w A R s h=>by obtain⟨hp,g,d,tk,os⟩:=s; obtain⟨hl,h⟩:=h; wp_walk; exact#[_,rfl,h]
theorem A0 (l:Addr) (items:Array Value) (n:Nat) (dd:Option Addr) (sl:Array (Option Value)) (u:Tok) :
   Meets (Builtin.«tuple.__mul__» #[[.ref l,.int 1 u],[]]) (λ_ R s=>s.heap.get? l=some { cls:=.type "tuple",dict:=dd,data:=.seq items n,slots:=sl }/\R (.ok (.ret (.ref l))) s) :=
 .of_wp λprog w A R s h=>by
   obtain⟨hp,g,d,tk,os⟩:=s; obtain⟨hl,h⟩:=h; have f1:=AutoSeq1.idx_int; have f2:=AutoSeq1.sub_tuple_tuple
   wp_walk using AutoSeq1.wpAny_loadPart' hl
   exact#[_,rfl,h]
theorem Hw (l:Addr) (items:Array Value) (n:Nat) (dd:Option Addr) (sl:Array (Option Value)) (u:Tok) (hc:¬ items.isEmpty=true) :
   Meets (Builtin.«tuple.__mul__» #[[.ref l,.int 0 u],[]]) (λ_ R s=>s.heap.get? l=some { cls:=.type "tuple",dict:=dd,data:=.seq items n,slots:=sl }/\R (.ok (.ret (.ref s.heap.objs.size))) { s with heap:=s.heap.push { cls:=Value.type "tuple",data:=Data.seq (List.toArray []) } }) :=
 .of_wp λprog w A R s h=>by
   obtain⟨hp,g,d,tk,os⟩:=s; obtain⟨hl,h⟩:=h; have f1:=AutoSeq1.idx_int; have f2:=AutoSeq1.sub_tuple_tuple
   have hc':items.isEmpty=false:=Bool.eq_false_iff.mpr hc
   wp_walk using AutoSeq1.wpAny_loadPart' hl
   exact#[_,rfl,h]
theorem Cv (l:Addr) (items:Array Value) (n:Nat) (dd:Option Addr) (sl:Array (Option Value)) (x:Int) (u:Tok) (hc:¬ items.isEmpty=true) (h2:2<=x) (hz:(items.size:Int) * x<=1000) (hx:x<=1000) :
   Meets (Builtin.«tuple.__mul__» #[[.ref l,.int x u],[]]) (λ_ R s=>s.heap.get? l=some { cls:=.type "tuple",dict:=dd,data:=.seq items n,slots:=sl }/\R (.ok (.ret (.ref s.heap.objs.size))) { s with heap:=s.heap.push { cls:=Value.type "tuple",data:=Data.seq (List.foldl (λx1 x2=>x1++x2) (List.toArray []) (List.replicate x.toNat items)) } }) :=
 .of_wp λprog w A R s h=>by
   obtain⟨hp,g,d,tk,os⟩:=s; obtain⟨hl,h⟩:=h; have f1:=AutoSeq1.idx_int; have f2:=AutoSeq1.sub_tuple_tuple
   have hc':items.isEmpty=false:=Bool.eq_false_iff.mpr hc;have c1:¬ (decide (x < -(2 ^ 63)) || decide (x>=2 ^ 63))=true:=by simp; omega
   have c2:¬ (items.isEmpty || x==1)=true:=by rw[hc']; simp; omega
   have c3:¬ (decide (x<=0) || items.isEmpty)=true:=by rw[hc']; simp; omega
   have c4:¬ (items.size:Int) * x > (2 ^ 63 - 1) / 8:=by omega
   have c5:¬ Builtin.Tuple.tupleTooMany ((items.size:Int) * x)=true:=by
     unfold Builtin.Tuple.tupleTooMany;rw[JX];have:(1000:Int)<(sizeLine:Int):=by decide
     omega
   have c6:¬ (List.foldl (λx1 x2=>x1++x2) (List.toArray []) (List.replicate x.toNat items)).size > sizeLine:=by
     have h1:=AutoSeq1.size_joined items x.toNat (List.toArray []);have h3:(1000:Nat)<sizeLine:=by decide
     have h4:((x.toNat * items.size:Nat):Int)=(items.size:Int) * x:=by rw[LW,Int.toNat_of_nonneg (by omega),Int.mul_comm]
     have h5:((List.toArray []):Array Value).size=0:=rfl;omega
   wp_walk using AutoSeq1.wpAny_loadPart' hl
   refine Kt (Ih c1) ?_
   wp_walk using AutoSeq1.wpAny_loadPart' hl
   refine Kt (Ih c2) ?_
   wp_walk using AutoSeq1.wpAny_loadPart' hl
   refine Kt (Ih c3) ?_
   wp_walk using AutoSeq1.wpAny_loadPart' hl
   refine Kt (Ih c4) ?_
   wp_walk using AutoSeq1.wpAny_loadPart' hl
   exact#[_,rfl,h]
noncomputable def BR (K:W.Frag):R2:=λx y H Q=>∃a k xs,x=.ref a/\y=.int k/\aF K H a xs/\xs≠[]/\0<=k/\k<=1000/\(xs.length:Int) * k<=1000 /\
 (k=1->Q (.ref a) H)/\(k≠1->∀p,H p=none->Q (.ref p) (upd H p (.tup (List.replicate k.toNat xs).flatten)))
theorem Af {X:Cx}:bT X (binaryOp .Mult) (BR X.K):=by
 intro pins s σ H x y v u Q I rx ry h;obtain⟨a,k,xs,rfl,rfl,ha,hx,k0,k1,hz,q1,q2⟩:=h;cases rx;obtain⟨t,rfl⟩:=ry;obtain⟨its,r1,p1,hl⟩:=I.tuple ha;obtain⟨⟨cls,dd,data,sl⟩,ho,hc,n,hd⟩:=id p1;simp only at hc hd;subst hc hd;have hne:¬ its.toArray.isEmpty=true:=by have:its≠[]:=λz=>hx (r1.nil_iff.mp z);simpa using this
 have hsz:(its.toArray.size:Int) * k<=1000:=by rw[Ir,<- r1.length]; exact hz
 have road:wpAny (model X.prog X.w) X.A (call (.builtin "tuple.__mul__") [.ref a,.int k t]) (EP X pins σ Q) X.xe s:=by
   by_cases e1:k=1
   . subst e1;exact call_meets KH #[_,ho,rfl] LC (L4 _ _) (A0 a its.toArray n dd sl t) #[ho,#[.ref a,H,I,rfl,q1 rfl]]
   . by_cases e0:k=0
     . subst e0;refine call_meets KH #[_,ho,rfl] LC (L4 _ _) (Hw a its.toArray n dd sl t hne) #[ho,?_];refine#[.ref s.heap.objs.size,_,I.laid (t':=s.toks) (o:=.tup []) (λb ob q=>IZ _ q) (Ib _) ?_,rfl,q2 e1 _ (I.hok.fresh (Ib _))];exact#[J2 _,[],.nil,IsTup.new _ _]
     . refine call_meets KH #[_,ho,rfl] LC (L4 _ _) (Cv a its.toArray n dd sl k t hne (by omega) hsz k1) #[ho,?_];have hnew:List.foldl (λx1 x2=>x1++x2) (List.toArray []) (List.replicate k.toNat its.toArray)=(List.replicate k.toNat its).flatten.toArray:=by have:=oQ its k.toNat [];rw[Km] at this;exact this
       rw[hnew];refine#[.ref s.heap.objs.size,_,I.laid (t':=s.toks) (o:=.tup (List.replicate k.toNat xs).flatten) (λb ob q=>IZ _ q) (Ib _) ?_,rfl,q2 e1 _ (I.hok.fresh (Ib _))];refine#[?_,_,r1.rep k.toNat,IsTup.new _ _];rw[pH];have h4:((k.toNat * xs.length:Nat):Int)=(xs.length:Int) * k:=by rw[LW,Int.toNat_of_nonneg k0,Int.mul_comm]
       have h3:(1000:Nat)<sizeLine:=by decide
       omega
 exact LD (T:="tuple") (U:="int") (by decide) #[_,ho,rfl] (λs'=>typeIs_int s' k t) Gs F.fills_int_mul Ko E9 F.slot_int_index.lookup
   (call_meets Ko (typeIs_int s k t) F.entry_int_rmul (F.args_int_rmul_2 _ _) (HG k t a its.toArray n dd sl) #[ho,rfl,#[_,ho,rfl],road])
end L2
namespace Sk
open PySem PySem.Spec PyProof.Rows
mutual
noncomputable def qQ (w:World):PyData->Int
 | .int i=>hashInt i
 | .str x=>hashStr w x
 | .bool b=>hashInt (if b then 1 else 0)
 | .tuple ds=>reduceHash (Builtin.Tuple.tupleHashOf (rW w ds))
 | _=>0
noncomputable def rW (w:World):List PyData->List Int
 | []=>[]
 | d :: ds=>qQ w d :: rW w ds
end
mutual
noncomputable def drw:PyData->Nat
 | .tuple ds=>uq ds+1
 | _=>1
noncomputable def uq:List PyData->Nat
 | []=>0
 | d :: ds=>drw d+uq ds
end
end Sk
namespace L2
open PySem PySem.Spec PyProof.Rows
noncomputable def Ga (K:W.Frag):V->List V->Hp->VK->Prop:=λx xs H Q=>∃p ys y j,x=.ref p/\xs=[y]/\aJ K H p ys/\ee y=true/\ys.all ee=true/\j<1000/\(∃z,ys[j]?=some z/\eO z y=true)/\(∀m z,m<j->ys[m]?=some z->eO z y=false)/\Q (.int (j:Nat)) H
theorem qz {X:Cx}:lr X "list.index" (Ga X.K):=by
 intro pins s σ H x vs v us Q I rx rv h;obtain⟨p,ys,y,j,rfl,rfl,hT,fy,fs,hj0,⟨z,hz,ez⟩,hno,q⟩:=h;cases rx;obtain⟨u,rfl,ru⟩:=rv.one;obtain⟨its,r,⟨⟨cls,dd,data,sl⟩,n,ho,hc,_,hd⟩,hl⟩:=I.list hT;simp only at hc hd;subst hc hd;obtain⟨uz,huz,rz⟩:=r.get hz;have hj:j<its.toArray.size:=by rw[Ir];exact(Ic.mp huz).1
 have eU:∀(m:Nat) (hm:m<its.toArray.size) (zz:V),ys[m]?=some zz->fK y its.toArray[m]=eO zz y:=λm hm zz hzz=>by
   obtain⟨uu,huu,ruu⟩:=r.get hzz;have:its.toArray[m]=uu:=by have h2:=(Ic.mp huu).2;simpa using h2
   rw[this];exact oM ruu (Jk.mp fs zz (Ij hzz))
 refine call_meets F.slot_list_index #[_,ho,rfl] F.entry_list_index (F.args_list_index_2 _ _) (SeqAt.list_indexAt p its.toArray n dd sl u (fK y) j hj (by omega) (by rw[eU j hj z hz]; exact ez) λm hm hmj=>?_) #[ho,λw hw=>mi ru fy r fs w (by simpa using hw),?_]
 . have hm':m<ys.length:=by rw[r.length]; simpa using hm
   rw[eU m hm ys[m] (Iw hm')];exact hno m _ hmj (Iw hm')
 . exact#[.int j,H,I.tok _,#[_,rfl],q]
end L2
namespace PySem
theorem Dc:typeLookup (.type "zip") "keys"=pure none:=by rw[typeLookup_type,builtinLookup_eq_fast]; kernel_rfl
theorem HD:typeLookup (.type "zip") "__getattr__"=pure none:=by rw[typeLookup_type,builtinLookup_eq_fast]; kernel_rfl
theorem Hg:entryFor table "zip.__getattribute__"=some Builtin.«object.__getattribute__» :=
 entryFor_alias (id':="object.__getattribute__") (by kernel_rfl) (by decide +kernel) (by decide +kernel) (by kernel_rfl)
theorem ES (a:Addr) (xs:Array Value) (sl:Array (Option Value)) (name:Str) (u:Tok) (hmiss:typeLookup (.type "zip") name=pure none) (hname:(["__module__","__name__","__qualname__","__doc__","__annotations__"]:List Str).contains name=false) (hsz:name.length+100<=sizeLine:=by size_fits) :
   Meets (Builtin.«object.__getattribute__» #[[.ref a,.str name u],[]]) (λA R s=>s.heap.get? a=some { cls:=.type "zip",dict:=none,data:=.fields xs,slots:=sl }/\raisesAttr (.ref a) name A R s) :=
 Meets.of_wp λprog w A R s hs=>by
   obtain⟨hp,g,d,tk,os⟩:=s;obtain⟨hx,hs⟩:=hs;have hT:(⟨hp,g,d,tk,os⟩:Shared).TypeIs (.ref a) "zip":=#[_,hx,rfl]
   unfold Builtin.«object.__getattribute__»
   repeat (any_goals (first|assumption|wp_step))
   simp only[hname,Bool.false_eq_true,if_false]
   repeat (any_goals (first|assumption|wp_step))
   exact wpAny_raiseAttrError hs.1 hs.2 (attrMsg_fits (by decide +kernel) hsz)
theorem FN {prog:Program} {w:World} {A:Around} {E:Value->Shared->Prop} {s:Shared} {a:Addr} {o:Obj} {xs:Array Value} {Q:Option Value->Shared->Prop}
   (hx:s.heap.get? a=some o) (hc:o.cls=.type "zip") (hdat:o.data=.fields xs) (hd:o.dict=none) (hA:A.handled=none)
   (h:∀h' tk,(∀b ob,s.heap.get? b=some ob->h'.get? b=some ob)->Q none { s with heap:=h',toks:=tk }) :
   wpAny (model prog w) A (getAttr? (.ref a) "keys") Q E s:=by
 obtain⟨c,dct,dat,sl⟩:=o;simp only at hc hdat hd;subst hc hdat hd;obtain⟨hp,g,d,tk,os⟩:=s;have hT:∀tk',(⟨hp,g,d,tk',os⟩:Shared).TypeIs (.ref a) "zip":=λ_=>#[_,hx,rfl]
 have f1:=sub_AttributeError;have f3:=KZ.lookup;have f4:=KZ.bind (.ref a);have f5:=HD;unfold getAttr? getAttrBy? getAttrBy
 repeat (any_goals (first|assumption|exact hT _|((with_reducible show wpAny _ _ (call (Value.builtin "zip.__getattribute__") _ _) _ _ _); refine call_meets KZ (hT _) Hg (F.args_zip_getattribute_2 _ _) (ES a xs sl "keys" _ Dc (by decide +kernel) (by decide +kernel)) #[hx,hA,λh' tk' e hx'=>?_])|wp_step))
 obtain⟨t',u',he⟩:=hx'.there
 try (show wpAny _ _ (getattributeRaised _ _ _ _ _ _ _) _ _ _)
 try unfold getattributeRaised
 repeat (any_goals (first|assumption|wp_step))
 all_goals (first|exact h _ _ hx'.keeps|trace_state)
end PySem
namespace PySem
open Sem (wp)
noncomputable abbrev iC (h:Heap) (z TI TO T:Addr) (fb:Bool):Prop :=
 h.get? z=some { cls:=.type "zip",dict:=none,data:=.fields (List.toArray [rawInt T,.bool fb,.bool false,.ref TI,.ref TO]),slots:=(List.toArray []) }
variable {z i1 i2 l1 l2:Addr} {b1 b2:Bool} {k1 k2:Nat}
section
variable {prog:Program} {w:World} {A:Around} {E:Value->Shared->Prop} {s:Shared}
theorem F6 {a:Addr} {Q:Option Obj->Shared->Prop} (h:Q (s.heap.get? a) s):wpAny (model prog w) A (loadIfAlive a) Q E s:=λΓ p _=>by unfold loadIfAlive;rw[Sem.wp_loadIfAlive];exact(by simpa using h)
theorem rm {TI TO T:Addr}{fb:Bool} {Q:Bool->Shared->Prop} (zZ:iC s.heap z TI TO T fb) (aT:∃o,s.heap.get? T=some o)
   (hQ:∀h',iC h' z TI TO T true->Heap.SameBut z s.heap h'->Q false { s with heap:=h' }):wpAny (model prog w) A (Builtin.SmallTypes.ownedTupleIsFree (.ref z)) Q E s:=by
 unfold Builtin.SmallTypes.ownedTupleIsFree;refine IU (JH zZ rfl (x:=rawInt T) rfl ?_);show wpAny _ _ (loadIfAlive _ >>= _) _ _ _;refine IU (F6 ?_);obtain⟨o,ho⟩:=aT;rw[show(T:Int).toNat=T from rfl,ho];rw[IW (by simp)];refine IU (JH zZ rfl (x:=.bool fb) rfl ?_);cases fb with
 | true=>exact Ie (hQ _ zZ #[rfl,λ_ _=>rfl])
 | false=>exact IU (Jm zZ (by simp) λh₁ zZ₁ hs₁=>Ie (hQ h₁ zZ₁ hs₁))
theorem EB {TI TO T:Addr}{fb:Bool} {xs ys:Array Value} {x y:Value} {Q:Value->Shared->Prop} (D:ZipApart z TI TO i1 i2 l1 l2)
   (zZ:iC s.heap z TI TO T fb) (aT:∃o,s.heap.get? T=some o) (zI:IsPair s.heap TI (.ref i1) (.ref i2))
   (p1:bV b1 s.heap i1 l1 k1) (p2:bV b2 s.heap i2 l2 k2) (q1:br b1 s.heap l1 xs) (q2:br b2 s.heap l2 ys) (hx:xs[k1]?=some x) (hy:ys[k2]?=some y)
   (hQ:∀h',iC h' z TI TO T true->bV b1 h' i1 l1 (k1+1)->bV b2 h' i2 l2 (k2+1)->IsPair h' s.heap.objs.size x y->h'.objs.size=s.heap.objs.size+1 ->
     (∀c o,c≠z->c≠i1->c≠i2->s.heap.get? c=some o->h'.get? c=some o)->Q (.ref s.heap.objs.size) { s with heap:=h' }) :
   wpAny (model prog w) A (Builtin.«zip.__next__» #[[.ref z],[]]) (λfin s'=>∃v,fin=.done (.ret v)/\Q v s') E s:=by
 show wpAny _ _ (field (.ref z) 2 >>= _) _ _ _;refine IU (JH zZ rfl (x:=.bool false) rfl ?_);show wpAny _ _ (field (.ref z) 3 >>= _) _ _ _;refine IU (JH zZ rfl (x:=.ref TI) rfl ?_);refine IU (Jg zI rfl ?_);show wpAny _ _ (Builtin.SmallTypes.ownedTupleIsFree (.ref z) >>= _) _ _ _;refine IU (rm zZ aT λh₁ zZ₁ hs₁=>?_);rw[IW (by simp)];refine IU ?_;simp only[List.forIn_toArray,KN,K'];refine IU (IU (JO ?_));show wpAny _ _ (Builtin.SmallTypes.nextOf (.ref i1) >>= _) _ _ _;refine IU (jI (p1.extBut hs₁.extBut D.i1z) (q1.extBut hs₁.extBut D.l1z) hx λh₂ h1₂ hs₂=>Ie (Ie ?_));refine IU (IU (JO ?_));show wpAny _ _ (Builtin.SmallTypes.nextOf (.ref i2) >>= _) _ _ _;refine IU (jI ((p2.extBut hs₁.extBut D.i2z).extBut hs₂.extBut D.i12.symm) ((q2.extBut hs₁.extBut D.l2z).extBut hs₂.extBut D.l2i1) hy λh₃ h2₃ hs₃=>Ie (Ie (Ie ?_)));have hsz:h₃.objs.size=s.heap.objs.size:=by rw[hs₃.1,hs₂.1,hs₁.1]
 have hk:∀c o,c≠z->c≠i1->c≠i2->s.heap.get? c=some o->h₃.get? c=some o:=λc o c1 c3 c4 e=>hs₃.extBut _ _ c4 (hs₂.extBut _ _ c3 (hs₁.extBut _ _ c1 e));show wpAny _ _ (newTuple [x,y] >>= _) _ _ _;refine IU (wpAny_newTuple ?_);have hz₃:iC h₃ z TI TO T true:=hs₃.extBut _ _ D.i2z.symm (hs₂.extBut _ _ D.i1z.symm zZ₁);refine Ie #[_,rfl,?_];show Q (.ref h₃.objs.size) _;have hp:IsPair (h₃.push { cls:=.type "tuple",data:=.seq (List.toArray [x,y]) }) s.heap.objs.size x y:=by rw[<- hsz]; exact Iz _ rfl
 rw[hsz];exact hQ _ (IZ _ hz₃) ((h1₂.extBut hs₃.extBut D.i12).at λo e=>IZ _ e) (h2₃.at λo e=>IZ _ e) hp (by rw[Jf,hsz]) λc o c1 c3 c4 e=>IZ _ (hk c o c1 c3 c4 e)
theorem A3 {TI TO T:Addr}{fb:Bool} {xs ys:Array Value} {Q:Fin->Shared->Prop} (hh:A.handled=none) (D:ZipApart z TI TO i1 i2 l1 l2)
   (zZ:iC s.heap z TI TO T fb) (aT:∃o,s.heap.get? T=some o) (zI:IsPair s.heap TI (.ref i1) (.ref i2))
   (p1:bV b1 s.heap i1 l1 k1) (p2:bV b2 s.heap i2 l2 k2) (q1:br b1 s.heap l1 xs) (q2:br b2 s.heap l2 ys) (hend:xs[k1]?=none\/ys[k2]?=none)
   (hE:∀h' e,(∀c o,c≠z->c≠i1->c≠i2->s.heap.get? c=some o->h'.get? c=some o)->(∃o,h'.get? e=some o/\o.cls=.type "StopIteration")->E (.ref e) { s with heap:=h' }) :
   wpAny (model prog w) A (Builtin.«zip.__next__» #[[.ref z],[]]) Q E s:=by
 show wpAny _ _ (field (.ref z) 2 >>= _) _ _ _;refine IU (JH zZ rfl (x:=.bool false) rfl ?_);show wpAny _ _ (field (.ref z) 3 >>= _) _ _ _;refine IU (JH zZ rfl (x:=.ref TI) rfl ?_);refine IU (Jg zI rfl ?_);show wpAny _ _ (Builtin.SmallTypes.ownedTupleIsFree (.ref z) >>= _) _ _ _;refine IU (rm zZ aT λh₁ zZ₁ hs₁=>?_);rw[IW (by simp)];refine IU ?_;simp only[List.forIn_toArray,KN,K'];refine IU (IU (JO ?_));show wpAny _ _ (Builtin.SmallTypes.nextOf (.ref i1) >>= _) _ _ _;cases hx:xs[k1]? with
 | none=>exact IU (mC hh (p1.extBut hs₁.extBut D.i1z) (q1.extBut hs₁.extBut D.l1z) hx λh₂ e hs₂ he=>hE h₂ e (λc o c1 c3 _ x=>hs₂ _ _ c3 (hs₁.extBut _ _ c1 x)) he)
 | some x =>
   have hy:ys[k2]?=none:=by rcases hend with h|h; rw[hx] at h; cases h; exact h
   refine IU (jI (p1.extBut hs₁.extBut D.i1z) (q1.extBut hs₁.extBut D.l1z) hx λh₂ h1₂ hs₂=>Ie (Ie ?_));refine IU (IU (JO ?_));show wpAny _ _ (Builtin.SmallTypes.nextOf (.ref i2) >>= _) _ _ _;exact IU (mC hh ((p2.extBut hs₁.extBut D.i2z).extBut hs₂.extBut D.i12.symm) ((q2.extBut hs₁.extBut D.l2z).extBut hs₂.extBut D.l2i1) hy λh₃ e hs₃ he=>hE h₃ e (λc o c1 c3 c4 x=>hs₃ _ _ c4 (hs₂.extBut _ _ c3 (hs₁.extBut _ _ c1 x))) he)
noncomputable def i8 (h:Heap) (z TI TO:Addr):Option Addr->Prop
 | none=>IsZip h z TI TO .none/\∃a b,IsPair h TO a b
 | some T=>(∃fb,iC h z TI TO T fb)/\∃o,h.get? T=some o
theorem GH {TI TO:Addr}{m:Option Addr} {xs ys:Array Value} {x y:Value} {Q:Option Value->Shared->Prop} (D:ZipApart z TI TO i1 i2 l1 l2)
   (zZ:i8 s.heap z TI TO m) (hm:∀T,m=some T->T≠z/\T≠i1/\T≠i2) (zI:IsPair s.heap TI (.ref i1) (.ref i2))
   (p1:bV b1 s.heap i1 l1 k1) (p2:bV b2 s.heap i2 l2 k2) (q1:br b1 s.heap l1 xs) (q2:br b2 s.heap l2 ys) (hx:xs[k1]?=some x) (hy:ys[k2]?=some y)
   (hQ:∀h',i8 h' z TI TO (some (m.getD s.heap.objs.size))->bV b1 h' i1 l1 (k1+1)->bV b2 h' i2 l2 (k2+1)->IsPair h' s.heap.objs.size x y->h'.objs.size=s.heap.objs.size+1 ->
     (∀c o,c≠z->c≠TO->c≠i1->c≠i2->s.heap.get? c=some o->h'.get? c=some o)->Q (some (.ref s.heap.objs.size)) { s with heap:=h' }) :
   wpAny (model prog w) A (pyNext (.ref z)) Q E s:=by
 cases m with
 | none =>
   obtain⟨hz,a,b,hTO⟩:=zZ;exact wH D hz zI hTO p1 p2 q1 q2 hx hy λh' a1 a2 a3 a4 a5 a6 a7=>hQ h' #[#[false,a1],_,a5] a3 a4 a5 a6 a7
 | some T =>
   obtain⟨⟨fb,hz⟩,o,ho⟩:=zZ;have hT:s.TypeIs (.ref z) "zip":=#[_,hz,rfl]
   obtain⟨t1,t2,t3⟩:=hm T rfl;unfold pyNext;exact IU (L9 (wpAny_callSpecial?_slot (name:=Str.ofString "__next__") hT Jo
     (JU Jo hT Kj
       (EB D hz #[o,ho] zI p1 p2 q1 q2 hx hy λh' a1 a3 a4 a5 a6 a7=>Ie (hQ h' #[#[true,a1],o,a7 _ _ t1 t2 t3 ho] a3 a4 a5 a6 λc o c1 _ c3 c4 e=>a7 c o c1 c3 c4 e)) (Kd _))))
theorem C5 {TI TO:Addr}{m:Option Addr} {xs ys:Array Value} {Q:Option Value->Shared->Prop} (hh:A.handled=none) (D:ZipApart z TI TO i1 i2 l1 l2)
   (zZ:i8 s.heap z TI TO m) (zI:IsPair s.heap TI (.ref i1) (.ref i2))
   (p1:bV b1 s.heap i1 l1 k1) (p2:bV b2 s.heap i2 l2 k2) (q1:br b1 s.heap l1 xs) (q2:br b2 s.heap l2 ys) (hend:xs[k1]?=none\/ys[k2]?=none)
   (hQ:∀h',(∀c o,c≠z->c≠TO->c≠i1->c≠i2->s.heap.get? c=some o->h'.get? c=some o)->Q none { s with heap:=h' }):wpAny (model prog w) A (pyNext (.ref z)) Q E s:=by
 cases m with
 | none =>
   obtain⟨hz,a,b,hTO⟩:=zZ;exact wO hh D hz zI hTO p1 p2 q1 q2 hend hQ
 | some T =>
   obtain⟨⟨fb,hz⟩,o,ho⟩:=zZ;have hT:s.TypeIs (.ref z) "zip":=#[_,hz,rfl]
   unfold pyNext;refine IU (L9 (wpAny_callSpecial?_slot (name:=Str.ofString "__next__") hT Jo
     (JU Jo hT Kj (A3 hh D hz #[o,ho] zI p1 p2 q1 q2 hend λh' e hk he=>?_) (Kd _))))
   obtain⟨o',ho',hc'⟩:=he;refine IU (wpAny_isInstance (T:="StopIteration") (b:=true) #[o',ho',hc'] isSubtype_stop ?_);exact Ie (hQ _ λc o c1 _ c3 c4 e=>hk c o c1 c3 c4 e)
theorem i8.at {h h':Heap} {TI TO:Addr}{m:Option Addr} (p:i8 h z TI TO m) (ez:∀o,h.get? z=some o->h'.get? z=some o) (eT:∀o,h.get? TO=some o->h'.get? TO=some o) (em:∀T,m=some T->∀o,h.get? T=some o->h'.get? T=some o):i8 h' z TI TO m:=by
 cases m with
 | none=>obtain⟨a,b,c,d⟩:=p; exact#[ez _ a,b,c,eT _ d]
 | some T=>obtain⟨⟨fb,a⟩,o,ho⟩:=p; exact#[#[fb,ez _ a],o,em T rfl _ ho]
end
end PySem
namespace L2
open PySem PySem.Spec PyProof.Rows
section
variable {X:Cx} {pins:List (Addr×Obj)} {σ:St} {H:Hp}
theorem E3 {A:Around} {R:Result->Shared->Prop} {b1 b2:Bool} {D z TI TO i1 i2 l1 l2:Addr} {ks:List aL} {ys:List V} (hA:A.handled=none) (ap:ZipApart z TI TO i1 i2 l1 l2)
   (h1:cg b1 X.K H l1 (ks.map kV)) (h2:cg b2 X.K H l2 ys) (hD:H D=none) (hz:ks.length<=100000) (nD:∀b∈[z,TI,TO,i1,i2],b≠D) (fp:∀b∈[z,TI,TO,i1,i2],∀H',H' b=none->eo X pins H' b)
   (hR:∀s' H',Inv X pins σ H' s'->aB H H'->H' D=some (.dK ((ks.zip ys).foldl (λacc kv=>ao acc kv.1 kv.2) []))->R (.ok (.ret .none)) s') :
   ∀(k i:Nat) (t:Tok) (s:Shared) (Hi:Hp) (m:Option Addr),(ks.zip ys).length - i=k->i<=(ks.zip ys).length->Inv X pins σ Hi s->aB H Hi->Hi D=some (.dK (((ks.zip ys).take i).foldl (λacc kv=>ao acc kv.1 kv.2) [])) ->
     i8 s.heap z TI TO m->(∀T,m=some T->∃xs,Hi T=some (.tup xs))->IsPair s.heap TI (.ref i1) (.ref i2)->bV b1 s.heap i1 l1 i->bV b2 s.heap i2 l2 i->(∀b∈[z,TI,TO,i1,i2],Hi b=none)->TO<s.heap.objs.size ->
     codeAny (model X.prog X.w) A (.builtin "dict.update.loop" #[[.ref D,.ref z,.int (i:Nat) t,.none],[]]) R s:=by
 have flen:∀(l:List (aL×V)) (acc:List (aL×V)),(l.foldl (λacc kv=>ao acc kv.1 kv.2) acc).length<=acc.length+l.length:=by
   intro l
   induction l with
   | nil=>intro acc; simp
   | cons x r ih =>
     intro acc;rw[KA];have h1:=ih (ao acc x.1 x.2);have h2:=dh acc x.1 x.2;simp only[J6];omega
 have big:(100000:Nat)<sizeLine:=by decide
 have hzl:(ks.zip ys).length=min ks.length ys.length:=Jz;have sqS:∀{b:Bool} {l:Addr} {xs:List V} {Hi:Hp},aB H Hi->cg b X.K H l xs->cg b X.K Hi l xs:=λ{b} {l} {xs} {Hi} sm h=>by
   cases b with
   | true=>exact sm.tup h
   | false=>exact sm.seq h
 intro k
 induction k with
 | zero =>
   intro i t s Hi m hk hi I sm eD zs hm zI p1 p2 fr lTO;have e:i=(ks.zip ys).length:=by omega
   rw[e,JJ] at eD;obtain⟨is1,r1,q1⟩:=I.sqv (sqS sm h1);obtain⟨is2,r2,q2⟩:=I.sqv (sqS sm h2);have hl1:=r1.length;have hl2:=r2.length;rw[IX] at hl1;refine Kq mR ?_;rw[Around.under_plainId gw _];show wpAny _ A.in1 (pyNext (.ref z) >>= _) _ _ s;refine IU (C5 (A:=A.in1) hA ap zs zI p1 p2 q1 q2 ?_ λh' hk=>?_)
   . have:ks.length<=i\/ys.length<=i:=by rw[e,hzl]; omega
     rcases this with h|h
     . left; simp; omega
     . right; simp; omega
   . have I1:Inv X pins σ Hi { s with heap:=h' }:=I.turnedL (t':=s.toks) (ch:=[z,TI,TO,i1,i2]) (λb o hb q=>hk b o (λzz=>hb (by simp [zz])) (λzz=>hb (by simp [zz])) (λzz=>hb (by simp [zz])) (λzz=>hb (by simp [zz])) q) λb hb=>fp b hb Hi (fr b hb);show wpAny _ _ (Builtin.Dict.addKeywords D [] >>= _) _ _ _;exact IU (Ie (Ie (hR _ _ I1 sm eD)))
 | succ k ih =>
   intro i t s Hi m hk hi I sm eD zs hm zI p1 p2 fr lTO;have hlt:i<(ks.zip ys).length:=by omega
   have hi1:i<ks.length:=by omega
   have hi2:i<ys.length:=by omega
   obtain⟨is1,r1,q1⟩:=I.sqv (sqS sm h1);obtain⟨is2,r2,q2⟩:=I.sqv (sqS sm h2);obtain⟨u,hu,ru⟩:=r1.get (show(ks.map kV)[i]?=some (kV ks[i]) by simp [hi1]);obtain⟨v,hv,rv⟩:=r2.get (show ys[i]?=some ys[i] by simp [hi2]);have hp:∀b∈[z,TI,TO,i1,i2],∀T,m=some T->T≠b:=λb hb T eT q=>by obtain⟨xs,hT⟩:=hm T eT;rw[q,fr b hb] at hT;cases hT
   refine Kq mR ?_;rw[Around.under_plainId gw _];show wpAny _ A.in1 (pyNext (.ref z) >>= _) _ _ s;refine IU (GH (A:=A.in1) ap zs (λT eT=>#[hp z (by simp) T eT,hp i1 (by simp) T eT,hp i2 (by simp) T eT]) zI p1 p2 q1 q2 (by simpa using hu) (by simpa using hv) λh' zs' p1' p2' pr hs' hk=>?_);have hN:Hi s.heap.objs.size=none:=I.hok.fresh (Ib _);have I1:Inv X pins σ (upd Hi s.heap.objs.size (.tup [kV ks[i],ys[i]])) { s with heap:=h' }:=I.turnLaid (t':=s.toks) (ch:=[z,TI,TO,i1,i2]) (λb o hb q=>hk b o (λzz=>hb (by simp [zz])) (λzz=>hb (by simp [zz])) (λzz=>hb (by simp [zz])) (λzz=>hb (by simp [zz])) q) (λb hb=>fp b hb Hi (fr b hb)) (Ib _)
     #[by show 2<=sizeLine; decide,[u,v],.cons ru (.cons rv .nil),#[_,pr,rfl,_,rfl]]
   have nN:∀b∈[z,TI,TO,i1,i2],b<s.heap.objs.size:=by
     have a1:z<s.heap.objs.size:=by
       cases m with
       | none=>exact Ip zs.1
       | some T=>obtain⟨⟨fb,a⟩,_⟩:=zs; exact Ip a
     intro b hb;simp only[Io,JK,or_false] at hb;rcases hb with e|e|e|e|e
     . rw[e]; exact a1
     . rw[e]; exact Ip zI
     . rw[e]; exact lTO
     . rw[e]; exact p1.lt
     . rw[e]; exact p2.lt
   have nDN:D≠s.heap.objs.size:=λq=>by rw[q,hN] at eD; cases eD
   have eD1:upd Hi s.heap.objs.size (.tup [kV ks[i],ys[i]]) D=some (.dK (((ks.zip ys).take i).foldl (λacc kv=>ao acc kv.1 kv.2) [])):=by rw[aw nDN]; exact eD
   refine IU (JO (IU (wpAny_tryCatch ?_)));show wpAny _ _ (Builtin.Dict.pairItems (.ref s.heap.objs.size)) _ _ _;unfold Builtin.Dict.pairItems;refine IU (KE (T:="tuple") #[_,pr,rfl] ?_);rw[Ig (by decide)];refine IU ?_;show wpAny _ _ (load s.heap.objs.size >>= _) _ _ _;refine IU (wpAny_load pr ?_);refine Ie (Ie ?_);show wpAny _ _ (holding [u,v] (dictSet D u v)) _ _ _;refine JO ?_;obtain⟨z',hd,vs,rel,dd⟩:=jo I1.hok eD1;have hl1:=flen ((ks.zip ys).take i) [];have hl2:((ks.zip ys).take i).length<=(ks.zip ys).length:=by rw[JC]; omega
   simp only[KC,Nat.zero_add] at hl1;have hzv:vs.length<=sizeLine:=by rw[<- rel.length]; exact z'
   refine wpAny_dictSet_pairs (hsz:=hzv) (gq ru) dd λh2' dd2 hs2=>?_;have he:∃q,h2'.get? D=some q:=let ⟨q,_,_,hq,_⟩:=dd2; #[q,hq]
   have hl3:(ao (((ks.zip ys).take i).foldl (λacc kv=>ao acc kv.1 kv.2) []) ks[i] ys[i]).length<=sizeLine:=by have:=dh (((ks.zip ys).take i).foldl (λacc kv=>ao acc kv.1 kv.2) []) ks[i] ys[i];omega
   have I2:=jc (t':=({ s with heap:=h' }:Shared).toks+1) I1 (by rw[eD1]; exact True.intro) hs2 he (mI hl3 hd (rel.put ks[i] rv) dd2);have e3:((ks.zip ys).take (i+1)).foldl (λacc kv=>ao acc kv.1 kv.2) []=ao (((ks.zip ys).take i).foldl (λacc kv=>ao acc kv.1 kv.2) []) ks[i] ys[i]:=by rw[Je,JG,Iw hlt,List.getElem_zip];rfl
   rw[<- e3] at I2;refine Ie #[plainId_quiet gw _,?_];have up:∀c,c≠D->∀o,h'.get? c=some o->h2'.get? c=some o:=λc hc o e=>(hs2.2 c hc).trans e;refine ih (i+1) 0 _ _ (some (m.getD s.heap.objs.size)) (by omega) (by omega) I2 (aB.upd (sm.trans (aB.new hN)) hD) aI (zs'.at (up _ (nD z (by simp))) (up _ (nD TO (by simp))) λT eT=>up T ?_) (λT eT=>?_) ?_ ?_ ?_ (λb hb=>?_) ?_
   . cases eT;cases m with
     | none=>exact λq=>nDN q.symm
     | some T =>
       obtain⟨xs,hT⟩:=hm T rfl;intro q;rw[show T=D from q,eD] at hT;cases hT
   . cases eT;cases m with
     | none=>exact#[[kV ks[i],ys[i]],by show upd (upd Hi s.heap.objs.size _) D _ s.heap.objs.size=_; rw[aw (λq=>nDN q.symm)]; exact aI]
     | some T =>
       obtain⟨xs,hT⟩:=hm T rfl;refine#[xs,?_];show upd (upd Hi s.heap.objs.size _) D _ T=_;rw[aw (show T≠D from λq=>by rw[q,eD] at hT; cases hT)];rw[aw (show T≠s.heap.objs.size from λq=>by rw[q,hN] at hT; cases hT)];exact hT
   . exact up _ (nD TI (by simp)) _ (hk _ _ ap.TIz ap.TITO ap.TIi1 ap.TIi2 zI)
   . exact p1'.at (up _ (nD i1 (by simp)))
   . exact p2'.at (up _ (nD i2 (by simp)))
   . rw[aw (nD b hb),aw (J8 (nN b hb))];exact fr b hb
   . show TO<h2'.objs.size;rw[hs2.1];show TO<h'.objs.size;rw[hs'];exact Nat.lt_succ_of_lt lTO
noncomputable def qE (b1 b2:Bool) (K:W.Frag):List V->Hp->VK->Prop:=λxs H Q=>∃(l1 l2:Addr) (ks:List aL) (ys:List V),xs=[.ref l1,.ref l2]/\cg b1 K H l1 (ks.map kV)/\cg b2 K H l2 ys/\ks.length<=100000 /\
 ∀d H',H d=none->aB H H'->H' d=some (.dK ((ks.zip ys).foldl (λacc kv=>ao acc kv.1 kv.2) []))->Q (.ref d) H'
theorem Hj {s:Shared} {b1 b2:Bool} {l1 l2:Addr} {Q:VK} (hc:X.calm=true) (I:Inv X pins σ H s) (h:qE b1 b2 X.K [.ref l1,.ref l2] H Q) :
   wpAny (model X.prog X.w) X.A (call (.type "zip") [.ref l1,.ref l2]) (λv s1=>wpAny (model X.prog X.w) X.A (call (.type "dict") [v]) (EP X pins σ Q) X.xe s1) X.xe s:=by
 obtain⟨l1',l2',ks,ys,e,h1,h2,hz,q⟩:=h;cases e;obtain⟨is1,v1,p1⟩:=I.sqv h1;obtain⟨is2,v2,p2⟩:=I.sqv h2;refine x4 p1 p2 λh' n hn hzp hTI hTO i1 i2 hk=>?_;subst hn;have hA:=I.ok.hd hc;generalize hs1:({ s with heap:=h' }:Shared)=s1;have ehp:s1.heap=h':=by rw[<- hs1]
 have I0:Inv X pins σ H s1:=by rw[<- hs1]; exact I.kept (t':=s.toks) hk
 have hD:H s1.heap.objs.size=none:=I0.hok.fresh (Ib _);have I1:Inv X pins σ (upd H s1.heap.objs.size (.dK [])) { s1 with heap:=s1.heap.push { cls:=.type "dict",data:=.dict (List.toArray []) } } :=
   I0.laid (a:=s1.heap.objs.size) (o:=.dK []) (t':=s1.toks) (λ_ _ q=>IZ _ q) (Ib _) (nz s1.heap I0.big)
 refine callType_codes (Q₁:=λobj s₁=>obj=.ref s1.heap.objs.size/\s₁={ s1 with heap:=s1.heap.push { cls:=.type "dict",data:=.dict (List.toArray []) } }) PySem.F.kt_called_dict (L6 _) LQ (kt_code_dict_new _ #[rfl,rfl]) ?_;rintro obj s₁ ⟨rfl,rfl⟩;have hnew:(s1.heap.push { cls:=.type "dict",data:=.dict (List.toArray []) }).DictOf (cJ X.prog X.w) s1.heap.objs.size []:=Heap.DictOf.new s1.heap;refine#[hnew.typeIs,LK _ _,?_];unfold Builtin.«dict.__init__»;refine IU ?_;unfold Builtin.Dict.selfAndRest;refine IU (wpAny_notOrdered_dict hnew.typeIs ?_);show wpAny _ _ (pure (s1.heap.objs.size,[Value.ref (s.heap.objs.size+4)])) _ _ _;refine Ie ?_;show wpAny _ _ (Builtin.Dict.updateFrom "dict.__init__" s1.heap.objs.size (.ref (s.heap.objs.size+4)) [] .none) _ _ _;unfold Builtin.Dict.updateFrom;have hzp1:(s1.heap.push { cls:=.type "dict",data:=.dict (List.toArray []) }).get? (s.heap.objs.size+4)=some { cls:=.type "zip",dict:=none,data:=.fields (List.toArray [.none,.bool false,.bool false,.ref (s.heap.objs.size+2),.ref (s.heap.objs.size+3)]),slots:=(List.toArray []) }:=IZ _ (by rw[ehp]; exact hzp);refine IU (KE (T:="zip") #[_,hzp1,rfl] ?_);rw[Ig (by decide)];refine IU (FN (s:={ s1 with heap:=s1.heap.push { cls:=.type "dict",data:=.dict (List.toArray []) } }) hzp1 rfl rfl rfl hA λh3 tk hk3=>?_);have I2:Inv X pins σ (upd H s1.heap.objs.size (.dK [])) { s1 with heap:=h3,toks:=tk }:=I1.kept hk3;rw[Ig (by rfl)];refine IU (Kr ?_);have up:∀b o,h'.get? b=some o->h3.get? b=some o:=λb o e=>hk3 _ _ (IZ _ (show s1.heap.get? b=some o by rw[ehp]; exact e));refine IU (LL (s:={ s1 with heap:=h3,toks:=tk }) (up _ _ hzp) ?_);have eI:∀b∈[s.heap.objs.size+4,s.heap.objs.size+2,s.heap.objs.size+3,s.heap.objs.size,s.heap.objs.size+1],s.heap.objs.size<=b/\b<s1.heap.objs.size:=λb hb=>by
   have h4:s.heap.objs.size+4<s1.heap.objs.size:=by rw[ehp]; exact Ip hzp
   simp only[Io,JK,or_false] at hb;rcases hb with e|e|e|e|e <;> (rw[e]; constructor <;> omega)
 refine Ie #[plainId_quiet gw _,?_];have fpk:∀b∈[s.heap.objs.size+4,s.heap.objs.size+2,s.heap.objs.size+3,s.heap.objs.size,s.heap.objs.size+1],∀H',H' b=none->eo X pins H' b:=λb hb H' hn=>I.fpOk (eI b hb).1 hn;refine E3 (A:=X.A.in1) (H:=H) (D:=s1.heap.objs.size) hA (zipApart_new (br.lt p1) (br.lt p2)) h1 h2 hD hz (λb hb=>J8 (eI b hb).2) fpk (λs' H' J sm eD=>#[rfl,.ref s1.heap.objs.size,H',J,rfl,q _ H' hD sm eD])
   (ks.zip ys).length 0 0 _ (upd H s1.heap.objs.size (.dK [])) none (by omega) (J2 _) I2 (aB.new hD) (by rw[aI]; rfl) #[up _ _ hzp,_,_,up _ _ hTO] (λT z=>by cases z) (up _ _ hTI) (i1.at λo e=>up _ o e) (i2.at λo e=>up _ o e) (λb hb=>?_) ?_
 . rw[aw (J8 (eI b hb).2)];exact I.hok.fresh (eI b hb).1
 . exact Ip (up _ _ hTO)
theorem BH (b1 b2:Bool) {a b:Expr} {ta:TA} {p pos p' pos':Pos} (hc:X.calm=true) (hg:Gl X "dict") (hm:X.mg "dict"=none) (hg2:Gl X "zip") (hm2:X.mg "zip"=none) (ha:PA X [a,b] ta)
   (hs:starEach [a,b] X.env=(false,eval a X.env) :: starEach [b] X.env:=by rfl) (hs2:(backTo pos' (starEach [b] X.env)).any (·.1)=false:=by rfl)
   (he:starEach [.Call (.Name "zip" p') [a,b] [] pos'] X.env=[(false,eval (.Call (.Name "zip" p') [a,b] [] pos') X.env)]:=by rfl) :
   PE X (.Call (.Name "dict" p) [.Call (.Name "zip" p') [a,b] [] pos'] [] pos) (m7 (qE b1 b2 X.K) ta):=by
 intro pins s σ H Q I h;refine K9 (gE I hg hm lj ?_);refine JL ?_ he rfl;rw[he];show wpAny _ _ (spliced [(false,eval (.Call (.Name "zip" p') [a,b] [] pos') X.env)]) _ _ s;refine Calls.spliced_cons (Call_ (gE I hg2 hm2 vB (JL (am (ha pos' pins s σ H _ I h) λus s1 ⟨vs,H1,I1,r1,q1⟩=>?_) hs hs2)));obtain⟨l1,l2,ks,ys,e,q⟩:=id q1;subst e;cases r1 with
 | cons r rr =>
   cases rr with
   | cons r' rr =>
     cases rr;cases r;cases r';exact am (Hj hc I1 q1) λv s2 q2=>Calls.spliced_nil q2
end
variable {p:Addr}
section
variable {g:TG} {tif:TT} {te:TE} {js:List (Option Nat)} {σ:St} {H:Hp} {Q:VK}
noncomputable def mJ (H:Hp) (p:Addr) (T:Nat->Hp->V->Prop) (i:Nat) (acc:List V) (H2:Hp):Prop:=aB H H2/\H2 p=some (.lst acc)/\acc.length=i/\∀(j:Nat) v,acc[j]?=some v->T j (ers p H2) v
theorem Ab {H:Hp} {o:HO}:ers p (upd H p o)=ers p H:=by
 funext b;unfold ers;by_cases h:b=p
 . rw[Ig h,Ig h]
 . rw[IW h,IW h,aw h]
theorem rq {T:Nat->Hp->V->Prop} {i:Nat} {acc:List V} {H2 H3:Hp} {v:V} (tm:∀i v H H',aB H H'->T i H v->T i H' v) (hp:H p=none) (r:mJ H p T i acc H2) (s3:aB H2 H3) (hv:T i (ers p H3) v) :
   H3 p=some (.lst acc)/\mJ H p T (i+1) (acc++[v]) (upd H3 p (.lst (acc++[v]))):=by
 obtain⟨s2,e2,rfl,ht⟩:=r;refine#[s3 _ _ e2,(s2.trans s3).upd hp,aI,by simp,λj u hu=>?_];rw[Ab];by_cases hj:j<acc.length
 . rw[K4 hj] at hu;exact tm _ _ _ _ (aB.ers s3) (ht j u hu)
 . have:j=acc.length:=by have:=(Ic.mp hu).1;simp at this;omega
   subst this;rw[Jb (Ib _)] at hu;simp at hu;rw[<- hu];exact hv
theorem pC {K:W.Frag} {a:Addr} {xs:List V} (T:Nat->Hp->V->Prop) (tm:∀i v H H',aB H H'->T i H v->T i H' v) (hn:xs.length<=1000000) (hS:aJ K H a xs) (hp:H p=none)
   (hs:∀i x H2 (R:VK),xs[i]?=some x->aB H H2->(∃acc,H2 p=some (.lst acc))->(∀v H3,aB H2 H3->T i (ers p H3) v->R v H3)->g x (cO js σ) H2 λσ2 H3=>tif σ2 H3 λc H4=>if c=true then te σ2 H4 R else False)
   (hd:∀H2 vs,aB H H2->H2 p=some (.lst vs)->vs.length=xs.length->(∀(i:Nat) v,vs[i]?=some v->T i (ers p H2) v)->Q (.ref p) H2) (mono:∀x H2 (M M':St->Hp->Prop),(∀σ' H',M σ' H'->M' σ' H')->g x (cO js σ) H2 M->g x (cO js σ) H2 M':=by intro _ _ _ _ h z; exact h _ _ z) (mon2:∀σ2 H2 (M M':Bool->Hp->Prop),(∀c H',M c H'->M' c H')->tif σ2 H2 M->tif σ2 H2 M':=by intro _ _ _ _ h z; exact h _ _ z) :
   gy (i6 K a) g tif te js σ Q p H:=by
 refine mo hn (mJ H p T) #[aB.new hp,aI,rfl,λj v h=>by simp at h] ?_ ?_ ?_
 . rintro i acc H2 hi ⟨s2,e2,l2,_⟩;exact#[e2,by omega,s2.seq hS]
 . rintro i x acc H2 hx r;refine mono _ _ _ _ (λσ' H' z=>?_) (hs i x H2 _ hx r.1 #[acc,r.2.1] λv H3 s3 t3=>rq tm hp r s3 t3);refine mon2 _ _ _ _ (λc H'' zz=>?_) z;cases c with
   | true=>exact zz
   | false=>exact zz.elim
 . rintro acc H2 ⟨s2,e2,l2,t2⟩;exact hd H2 acc s2 e2 l2 t2
theorem AJ {lo:Int} {n:Nat} (T:Nat->Hp->V->Prop) (tm:∀i v H H',aB H H'->T i H v->T i H' v) (hn:n<=1000000) (hp:H p=none)
   (hs:∀i H2 (R:VK),i<n->aB H H2->(∃acc,H2 p=some (.lst acc))->(∀v H3,aB H2 H3->T i (ers p H3) v->R v H3)->g (.int (lo+i)) (cO js σ) H2 λσ2 H3=>tif σ2 H3 λc H4=>if c=true then te σ2 H4 R else False)
   (hd:∀H2 vs,aB H H2->H2 p=some (.lst vs)->vs.length=n->(∀(i:Nat) v,vs[i]?=some v->T i (ers p H2) v)->Q (.ref p) H2) (mono:∀x H2 (M M':St->Hp->Prop),(∀σ' H',M σ' H'->M' σ' H')->g x (cO js σ) H2 M->g x (cO js σ) H2 M':=by intro _ _ _ _ h z; exact h _ _ z) (mon2:∀σ2 H2 (M M':Bool->Hp->Prop),(∀c H',M c H'->M' c H')->tif σ2 H2 M->tif σ2 H2 M':=by intro _ _ _ _ h z; exact h _ _ z) :
   gy (gT lo n) g tif te js σ Q p H:=by
 refine qm hn (mJ H p T) #[aB.new hp,aI,rfl,λj v h=>by simp at h] ?_ ?_ ?_
 . rintro i acc H2 hi ⟨s2,e2,l2,_⟩;exact#[e2,by omega]
 . rintro i acc H2 hx r;refine mono _ _ _ _ (λσ' H' z=>?_) (hs i H2 _ hx r.1 #[acc,r.2.1] λv H3 s3 t3=>rq tm hp r s3 t3);refine mon2 _ _ _ _ (λc H'' zz=>?_) z;cases c with
   | true=>exact zz
   | false=>exact zz.elim
 . rintro acc H2 ⟨s2,e2,l2,t2⟩;exact hd H2 acc s2 e2 l2 t2
end
end L2
namespace Wk
open PySem L2 Gx Fl
noncomputable def gg (F:F2.Fd) (k j r:Nat):Prop:=∃l,K13.Due (F2.kds F) k (some l)/\l[j]?=some r
section
variable {K:W.Frag} {C x:Addr} {H:Hp} {fns:List F2.Fd} {F:F2.Fd}
noncomputable def oJ (C:Addr) (H:Hp) (x:Addr) (fld:Str) (n:Str) (v:V):Prop:=∃dx fs d kvs,H x=some (.ins C dx fs)/\fs.lookup fld=some (.ref d)/\H d=some (.dK kvs)/\bN kvs (Sum.inr n:aL)=some v
theorem jd {H:Hp} {d:Addr} {kvs:List (aL×V)} {n:Str} {v:V} (h:H d=some (.dK kvs)) (hv:bN kvs (Sum.inr n:aL)=some v):d7 H d (.str n) (some v):=by have:=d7.k (k:=(Sum.inr n:aL)) h;rw[hv] at this;exact this
theorem Ew (h:F2.FlowsAt K C H x fns) (hF:F∈fns):oJ C H x "rows_of" F.name (.ref F.ra):=by obtain⟨i,hi⟩:=Jp hF;obtain⟨dx,fz,d,kv,nl,wl,h0,hO,h2,h3,h4,h5,h6,h7,h8⟩:=h.ob;have hd:=hO.dc 3 (by decide);rw[h5] at hd;exact#[dx,_,_,_,hO.ob,vi _ _,hd,F2.kD_at _ h.nd hi]
theorem Hm (h:F2.FlowsAt K C H x fns) (hF:F∈fns):∃nl,oJ C H x "names_in" F.name (.ref nl)/\H nl=some (.lst ((F2.nms F).map V.str)):=by obtain⟨i,hi⟩:=Jp hF;obtain⟨dx,fz,d,kv,nl,wl,h0,hO,h2,h3,h4,h5,h6,h7,h8⟩:=h.ob;have hd:=hO.dc 4 (by decide);rw[h6] at hd;exact#[nl i,#[dx,_,_,_,hO.ob,tQ _ _,hd,F2.kD_at _ h.nd hi],(h8 i F hi).1]
theorem Gz (h:F2.FlowsAt K C H x fns) (hF:F∈fns) {k j r:Nat} (hk:k<F.rs.length) (hw:gg F k j r):∃wl tp vs l,oJ C H x "ways_in" F.name (.ref wl)/\H wl=some (.lst vs)/\vs[k]?=some (.ref tp)/\H tp=some (.tup (K13.natsV l))/\l[j]?=some r:=by
 obtain⟨i,hi⟩:=Jp hF;obtain⟨dx,fz,d,kv,nl,wl,h0,hO,h2,h3,h4,h5,h6,h7,h8⟩:=h.ob;have hd:=hO.dc 5 (by decide);rw[h7] at hd;obtain⟨vs,e1,e2,e3⟩:=(h8 i F hi).2;have hl:(F2.kds F).length=F.rs.length:=by unfold F2.kds; rw[IX]
 have ev:vs[k]?=some vs[k]:=Iw (by omega);obtain⟨o,due,vo⟩:=e3 k _ ev;obtain⟨l,dl,hl'⟩:=hw;rw[K13.Due.uniq due dl] at vo;obtain⟨p,ep,hp⟩:=vo;exact#[wl i,p,vs,l,#[dx,_,_,_,hO.ob,sT _ _,hd,F2.kD_at _ h.nd hi],e1,by rw[ev,ep],hp,hl']
end
theorem EY (kvs:List (aL×V)) (k:aL) (v:V):(ao kvs k v).length<=kvs.length+1:=by
 induction kvs with
 | nil=>simp [ao]
 | cons p r ih =>
   unfold ao;split <;> simp <;> omega
end Wk
namespace L2
open PySem PySem.Spec PyProof.Rows
theorem bT.or2 {X:Cx} {f:Value->Value->Sem Value} {r1 r2:R2} (h1:bT X f r1) (h2:bT X f r2):bT X f (λx y H Q=>r1 x y H Q\/r2 x y H Q):=by
 intro pins s σ H x y v u Q I rx ry h;rcases h with h|h
 . exact h1 pins s σ H x y v u Q I rx ry h
 . exact h2 pins s σ H x y v u Q I rx ry h
noncomputable def jT (K:W.Frag):R2:=λx y H Q=>tJ K x y H Q\/sX K x y H Q
theorem ma {X:Cx}:bT X (binaryOp .Add) (jT X.K):=bT.or2 BS tW
theorem jt {K:W.Frag} {H:Hp} {a b:Addr} {xs ys:List V} {Q:VK} (ha:aF K H a xs) (hb:H b=some (.tup ys)) (hy:ys≠[]) (hl:xs.length+ys.length<=sizeLine) (q:∀p H',aB H H'->H' p=some (.tup (xs++ys))->Q (.ref p) H'):jT K (.ref a) (.ref b) H Q:=by
 by_cases hx:xs=[]
 . subst hx;exact .inl #[a,b,ys,rfl,rfl,ha,aF.of hb,q b H (aB.refl _) hb]
 . exact .inr #[a,b,xs,ys,rfl,rfl,ha,aF.of hb,hx,hl,λz=>absurd z hy,λ_ p hp=>q p _ (aB.new hp) aI]
end L2
namespace Wk
open PySem L2 Gx Fl K41 Bg
inductive RG where
 | out (a:V)|copy (x:Str) (a:V)|op (x s:Str) (a b:V)|back (a:V)|new (x:Str)|get (x:Str) (a:V) (f:Str)|put (a:V) (f:Str) (b:V)|call (x g:Str) (p:Addr) (as:List V)|ifs (a:V)|whl (a:V)
noncomputable def RG.items:RG->List V
 | .out a=>[.str "out",a]
 | .copy x a=>[.str "copy",.str x,a]
 | .op x s a b=>[.str "op",.str x,.str s,a,b]
 | .back a=>[.str "back",a]
 | .new x=>[.str "new",.str x]
 | .get x a f=>[.str "get",.str x,a,.str f]
 | .put a f b=>[.str "put",a,.str f,b]
 | .call x g p _=>[.str "call",.str x,.str g,.ref p]
 | .ifs a=>[.str "if",a]
 | .whl a=>[.str "while",a]
noncomputable def RG.kind:RG->Str
 | .out _=>"out"
 | .copy _ _=>"copy"
 | .op _ _ _ _=>"op"
 | .back _=>"back"
 | .new _=>"new"
 | .get _ _ _=>"get"
 | .put _ _ _=>"put"
 | .call _ _ _ _=>"call"
 | .ifs _=>"if"
 | .whl _=>"while"
noncomputable def RG.gx:RG->Option Str
 | .copy x _=>some x
 | .op x _ _ _=>some x
 | .new x=>some x
 | .get x _ _=>some x
 | .call x _ _ _=>some x
 | _=>none
noncomputable def RG.as:RG->List V
 | .out a=>[a]
 | .copy _ a=>[a]
 | .op _ _ a b=>[a,b]
 | .back a=>[a]
 | .new _=>[]
 | .get _ a _=>[a]
 | .put a _ b=>[a,b]
 | .call _ _ _ as=>as
 | .ifs a=>[a]
 | .whl a=>[a]
noncomputable def RG.cl:RG->Str
 | .call _ g _ _=>g
 | _=>""
noncomputable def RG.rr (r:Addr) (rg:RG):RR:=#[#[r,rg.kind,rg.cl],#[r,0,0,rg.gx,rg.as]]
noncomputable def RG.parts (rg:RG):List V:=(rg.gx.toList.map V.str)++rg.as
structure RGAt (K:W.Frag) (H:Hp) (r:Addr) (rg:RG):Prop where
 it:aF K H r rg.items
 ar:∀x g p as,rg=.call x g p as->aF K H p as
structure RG.Ok (rg:RG):Prop where
 at_:∀v∈rg.parts,K12.Atom v
 sg:∀x s a b,rg=.op x s a b->PyData.strOk s=true
 fl:(∀x a f,rg=.get x a f->PyData.strOk f=true)/\∀a f b,rg=.put a f b->PyData.strOk f=true
 cl:∀x g p as,rg=.call x g p as->PyData.strOk g=true/\as.length<=10
theorem gat {x:Str} (h:K12.Atom (.str x)):K12.Nm x:=by
 rcases h with⟨s,e,h⟩|⟨i,e⟩
 . cases e; exact h
 . cases e
variable {rg:RG}
theorem Bi {K:W.Frag} {H:Hp} {r:Addr} (h:RGAt K H r rg):K12.RowS K H rg.items rg.gx rg.as:=by
 cases rg with
 | out a=>exact .out a
 | copy x a=>exact .copy x a
 | op x s a b=>exact .op x s a b
 | back a=>exact .back a
 | new x=>exact .new x
 | get x a f=>exact .get x a f
 | put a f b=>exact .put a f b
 | call x g p as=>exact .call x g p as (h.ar x g p as rfl)
 | ifs a=>exact .ifs a
 | whl a=>exact .whl a
theorem BB (ok:rg.Ok):rg.as.length<=10:=by
 cases rg with
 | call x g p as=>exact(ok.cl x g p as rfl).2
 | _=>simp [RG.as]
theorem il {K:W.Frag} {H:Hp} {r:Addr} (h:RGAt K H r rg) (ok:rg.Ok):iM K H (rg.rr r):=by
 refine#[rfl,?_,#[#[_,h.it,Bi h],λv hv=>ok.at_ v (J9 _ hv),BB ok,λx hx=>?_]]
 . have ne:∀k∈([("out":Str),"copy","op","back","new","get","put","if","while"]:List Str),¬ k="call":=by decide +kernel
   cases rg with
   | call x g p as=>exact#[_,h.it,λ_=>#[_,_,rfl]]
   | out a=>exact#[_,h.it,λz=>absurd z (ne "out" (by simp))]
   | copy x a=>exact#[_,h.it,λz=>absurd z (ne "copy" (by simp))]
   | op x s a b=>exact#[_,h.it,λz=>absurd z (ne "op" (by simp))]
   | back a=>exact#[_,h.it,λz=>absurd z (ne "back" (by simp))]
   | new x=>exact#[_,h.it,λz=>absurd z (ne "new" (by simp))]
   | get x a f=>exact#[_,h.it,λz=>absurd z (ne "get" (by simp))]
   | put a f b=>exact#[_,h.it,λz=>absurd z (ne "put" (by simp))]
   | ifs a=>exact#[_,h.it,λz=>absurd z (ne "if" (by simp))]
   | whl a=>exact#[_,h.it,λz=>absurd z (ne "while" (by simp))]
 . have hx:rg.gx=some x:=hx;refine gat (ok.at_ (.str x) (KG _ ?_));rw[hx];simp
end Wk
namespace L2
open PySem PySem.Spec PyProof.Rows
theorem nw {H X:Hp} {a:Addr} {o:HO} (e:upd H a o=X) (h:H a=none):aB H X/\X a=some o:=by subst e; exact#[aB.new h,aI]
theorem iN {c A B:Prop} [Decidable c] (h:B) (hc:¬ c:=by decide +kernel):if c then A else B:=ak hc h
theorem iP {c A B:Prop} [Decidable c] (h:A) (hc:c:=by decide +kernel):if c then A else B:=aP hc h
theorem jN {c A B:Prop} [Decidable c] (h:B) (hc:¬ c:=by decide):if c then A else B:=ak hc h
section
variable {g:TG} {tif:TT} {te:TE} {js:List (Option Nat)} {σ:St} {H:Hp} {Q:VK}
theorem D7 {b1 b2:Bool} {K:W.Frag} {l1 l2:Addr} {xs ys:List V} {p:Addr} (hn:xs.length<=1000000) (Pv:Nat->List V->Hp->Prop) (h0:Pv 0 [] (upd H p (.lst [])))
   (hl:∀i acc H2,i<=min xs.length ys.length->Pv i acc H2->H2 p=some (.lst acc)/\acc.length<=i/\cg b1 K H2 l1 xs/\cg b2 K H2 l2 ys)
   (hs:∀i x y acc H2 b,xs[i]?=some x->ys[i]?=some y->Pv i acc H2->H2 b=none->li g tif te (cO js σ) p acc (Pv (i+1)) (.ref b) (upd H2 b (.tup [x,y]))) (hd:∀acc H2,Pv (min xs.length ys.length) acc H2->Q (.ref p) H2) :
   gy (ii K b1 b2 l1 l2) g tif te js σ Q p H:=by
 refine#[λi m acc H=>m=min xs.length ys.length - i/\i<=min xs.length ys.length/\Pv i acc H,#[min xs.length ys.length,by simp,J2 _,h0],?_];rintro i m acc H2 ⟨rfl,hi,q⟩;obtain⟨q1,q2,q3,q4⟩:=hl i acc H2 hi q;refine#[q1,?_];by_cases hlt:i<min xs.length ys.length
 . have l1':i<xs.length:=by omega
   have l2':i<ys.length:=by omega
   refine .inr #[#[xs,ys,xs[i],ys[i],q3,q4,by simp [l1'],by simp [l2']],?_,Pv (i+1),λacc' H' p'=>#[min xs.length ys.length - (i+1),by omega,rfl,hlt,p'],λx H' y=>?_]
   . have:(1000000:Nat)<sizeLine:=by decide
     omega
   . obtain⟨b,rfl,hb,y⟩:=y;rw[y xs ys xs[i] ys[i] q3 q4 (by simp [l1']) (by simp [l2'])];exact hs i xs[i] ys[i] acc H2 b (by simp [l1']) (by simp [l2']) q hb
 . have e:i=min xs.length ys.length:=by omega
   subst e;refine .inl #[#[xs,ys,q3,q4,?_],hd acc H2 q];rcases Nat.le_total xs.length ys.length with h|h
   . left; rw[LV h]; exact Jy (Ib _)
   . right; rw[LM h]; exact Jy (Ib _)
end
end L2
namespace L2
open PySem PySem.Spec PyProof.Rows PySem.W
section
variable {prog:Program} {w:World} {A:Around} {E:Value->Shared->Prop} {s:Shared} {δ:Type} {R:δ->Value->Prop} {a:Addr} {D:List (Str×δ)} {k:Str} {tk:Tok} {d:δ}
theorem DF {Q:Value->Shared->Prop} (T:KTD.TabOf R s.heap a D) (h:Q (.bool (KTD.datumAt k D).isSome) { s with toks:=s.toks+1 }) :
   wpAny (model prog w) A (compareOp .In (.str k tk) (.ref a)) Q E s:=by
 have ty:=lE T;obtain⟨hsm,o,es,ep,ho,hc,hdt,hr⟩:=T;unfold compareOp;show wpAny _ _ (contains (.ref a) (.str k tk) >>= λb=>pure (Value.bool b)) _ _ s;refine IU (wpAny_contains_slot ty slot_dict_contains (JU slot_dict_contains ty entry_dict_contains ?_ (args_dict_contains _ _)));unfold Builtin.«dict.__contains__»;show wpAny _ _ (dictGet a (.str k tk) >>= λr=>if r.isSome=true then ret (Value.bool true) else Builtin.Dict.pendingKey? a (.str k tk) >>= λr=>match r with|some _=>ret (Value.bool true)|none=>ret (Value.bool false)) _ _ s;have hf:findBy (λk v=>v.isStr k) es k=(es.toList.find? λe=>e.key.isStr k).map (·.val):=by obtain⟨l⟩:=es;simp [findBy]
 refine IU ?_;unfold dictGet
 try with_reducible refine JO ?_
 refine IU (LG (IU (KTD.kt_dictFind_strs (s:={ s with toks:=s.toks+1 }) ho hdt (by obtain⟨l⟩:=es; simpa using hr.exact) ?_)));rw[findBy_of_findIdx?] at hf;cases hq:KTD.datumAt k D with
 | some d =>
   obtain⟨v,hv,_⟩:=hr.find_some hq;rw[hv] at hf;cases hi:es.findIdx? λe=>e.key.isStr k with
   | none=>rw[hi] at hf; cases hf
   | some i =>
     rw[hi] at hf;have hf:es[i]?.map (·.val)=some v:=hf;refine IU (wpAny_dictEntries (s:={ s with toks:=s.toks+1 }) ho hdt (Ie ?_));show wpAny _ _ _ _ _ _;rw[hf];show wpAny _ _ (ret (Value.bool true)) _ _ _;rw[hq] at h;exact Ie #[_,rfl,JW (Ie h)]
 | none =>
   have hv:=hr.find_none hq;rw[hv] at hf;cases hi:es.findIdx? λe=>e.key.isStr k with
   | some i =>
     exfalso;rw[hi] at hf;have hf:es[i]?.map (·.val)=none:=hf;have:=(Array.findIdx?_eq_some_iff_getElem.mp hi).1;rw[Array.getElem?_eq_getElem this] at hf;cases hf
   | none =>
     refine Ie ?_;show wpAny _ _ (Builtin.Dict.pendingKey? a (.str k tk) >>= λr=>match r with|some _=>ret (Value.bool true)|none=>ret (Value.bool false)) _ _ _;unfold Builtin.Dict.pendingKey?;rw[hq] at h;dsimp only;rw[IW (by rw[hsm]; exact Iy)];exact IU (Ie (Ie #[_,rfl,JW (Ie h)]))
end
noncomputable def m6 (K:W.Frag) (d:Addr) (rows:List (Str×Int)):Prop :=
 ∃(o:Obj) (es:Array DictEntry) (ep:Nat),K.lookup d=some o/\(d==sysModules)=false/\o.ExactDict/\o.data=.dict es ep/\KTD.Rows (λ(i:Int) v=>∃t,v=.int i t) es.toList rows
noncomputable def Eh (K:W.Frag):R2:=λx y H Q=>∃d rows k i,x=.ref d/\y=.str k/\m6 K d rows/\KTD.datumAt k rows=some i/\Q (.int i) H
theorem Cn {X:Cx}:aH X (Eh X.K):=by
 intro value slice pins s σ H x y v u Q I rx ry h hs;obtain⟨d,rows,k,i,rfl,rfl,⟨o,es,ep,ho,lo,hc,hd,hr⟩,hk,q⟩:=h;cases (show v=Value.ref d from rx);obtain⟨t,rfl⟩:=(show ∃t,u=Value.str k t from ry)
 have T:KTD.TabOf (λ(i:Int) v=>∃t,v=.int i t) s.heap d rows:=#[lo,o,es,ep,I.kIn d o ho,hc,hd,hr]
 refine tail_any (lE T) slot_dict_getitem.lookup (wA T hk λv hv=>?_) hs;obtain⟨t',rfl⟩:=hv;exact#[.int i,H,I.tok _,#[_,rfl],q]
noncomputable def GS (K:W.Frag):R2:=λx y H Q=>∃d rows k,x=.str k/\y=.ref d/\m6 K d rows/\Q (.bl (KTD.datumAt k rows).isSome) H
theorem AL {X:Cx}:bT X (compareOp .In) (GS X.K):=by
 intro pins s σ H x y v u Q I rx ry h;obtain⟨d,rows,k,rfl,rfl,⟨o,es,ep,ho,lo,hc,hd,hr⟩,q⟩:=h;cases (show u=Value.ref d from ry);obtain⟨t,rfl⟩:=(show ∃t,v=Value.str k t from rx)
 have T:KTD.TabOf (λ(i:Int) v=>∃t,v=.int i t) s.heap d rows:=#[lo,o,es,ep,I.kIn d o ho,hc,hd,hr]
 exact DF T #[.bl _,H,I.tok _,rfl,q]
end L2
namespace L2
open PySem PySem.Spec PyProof.Rows
noncomputable def md (K:W.Frag) (i:Int) (v:Value):Bool:=match v with
 | .int j _=>decide (i=j)
 | _=>false
theorem EO {K:W.Frag} (i:Int) (v:Value) (h:md K i v=true):∃t,v=.int i t:=by
 unfold md at h;split at h
 . rename_i j t
   exact#[t,by rw[K1 h]]
 . cases h
theorem Ff {K:W.Frag} {d:Addr} {rows:List (Str×Int)} (h:KTD.tabLook (md K) (λa=>K.lookup a) d rows=true):m6 K d rows:=by
 simp only[KTD.tabLook,J4] at h;obtain⟨h0,hl⟩:=h;split at hl
 . rename_i o ho
   simp only[J4] at hl;obtain⟨⟨⟨e1,e2⟩,e3⟩,e4⟩:=hl;split at e4
   . rename_i es ep hd
     exact#[o,es,ep,ho,by simpa using h0,#[beq_iff_eq.mp e1,by simpa using e2,by simpa using e3],hd,KTD.rows_of_look EO e4]
   . cases e4
 . cases hl
end L2
namespace St
open PySem L2 Gx Rk2 Bg Fl Wk
noncomputable def iA (K:W.Frag) (H:Hp) (c:Str×Nat) (v:V):Prop:=∃p,v=.ref p/\aF K H p [.str c.1,.int c.2]
noncomputable def cT (K:W.Frag) (H:Hp) (ch:List (Str×Nat)) (v:V):Prop:=∃p cs,v=.ref p/\aF K H p cs/\Ps (iA K H) cs ch
noncomputable def gM (K:W.Frag) (H:Hp) (vw:List (Option Tr)) (v:V):Prop:=∃l us,v=.ref l/\aJ K H l us/\Ps (aZ H) us vw
structure Mrk where
 ch:List (Str×Nat)
 vs:List (List (Option Tr))
noncomputable def gG (K:W.Frag) (H:Hp) (m:Mrk) (v:V):Prop:=∃p c w ws,v=.ref p/\aF K H p [c,.ref w]/\cT K H m.ch c/\aJ K H w ws/\Ps (gM K H) ws m.vs
noncomputable abbrev Lv:=Str->Option (Option Tr)
variable {v:V}
section
variable {K:W.Frag} {H H':Hp}
theorem iA.mono {c:Str×Nat} (e:aB H H') (h:iA K H c v):iA K H' c v:=let ⟨p,h1,h2⟩:=h; #[p,h1,e.tup h2]
theorem cT.mono {ch:List (Str×Nat)} {v:V} (e:aB H H') (h:cT K H ch v):cT K H' ch v:=let ⟨p,cs,h1,h2,h3⟩:=h; #[p,cs,h1,e.tup h2,Ps.imp (λ_ _ z=>z.mono e) h3]
theorem gM.mono {vw:List (Option Tr)} {v:V} (e:aB H H') (h:gM K H vw v):gM K H' vw v:=let ⟨l,us,h1,h2,h3⟩:=h; #[l,us,h1,e.seq h2,Ps.imp (λ_ _ z=>aZ.mono z e) h3]
theorem gG.mono {m:Mrk} {v:V} (e:aB H H') (h:gG K H m v):gG K H' m v:=let ⟨p,c,w,ws,h1,h2,h3,h4,h5⟩:=h; #[p,c,w,ws,h1,e.tup h2,h3.mono e,e.seq h4,Ps.imp (λ_ _ z=>z.mono e) h5]
theorem Ps.split1 {α:Type} {R:α->V->Prop}:∀{ts:List α} {t:α} {us:List V},Ps R us (ts++[t])->∃ws u,us=ws++[u]/\Ps R ws ts/\R t u
 | [],t,us,h=>by
   match us,h with
   | [u],h=>exact#[[],u,rfl,trivial,h.1]
   | [],h=>exact h.elim
   | u :: u' :: us,h=>exact h.2.elim
 | a :: ts,t,us,h=>by
   match us,h with
   | u :: us,h =>
     obtain⟨ws,x,rfl,h1,h2⟩:=Ps.split1 h.2;exact#[u :: ws,x,rfl,#[h.1,h1],h2]
   | [],h=>exact h.elim
end
theorem i3 (xs:List V) (v:V):bI (xs++[v]) (-1)=some v:=by
 unfold bI;have:cX (xs++[v]).length (-1)=some xs.length:=by unfold cX;rw[IW (by decide),Ig (by rw[Il]; simp; omega)];congr 1;rw[Il];simp;omega
 rw[this];show(xs++[v])[xs.length]?=_;rw[Jb (Ib _),Nat.sub_self];rfl
theorem uU (xs:List V) (v:V):ck (xs++[v]) none (some (-1))=xs:=by unfold ck;show((xs++[v]).drop 0).take (HT.sIx (xs++[v]).length (xs++[v]).length (some (-1)) - 0)=_;rw[LY,Nat.sub_zero];have e:HT.sIx (xs++[v]).length (xs++[v]).length (some (-1))=((-1:Int)+((xs++[v]).length:Int)).toNat:=rfl;rw[e,show((-1:Int)+((xs++[v]).length:Int)).toNat=xs.length by rw[Il]; simp; omega,List.take_left]
theorem Dl {kvs:List (aL×V)} {k k':aL} :bN (ao kvs k v) k'=if k'=k then some v else bN kvs k':=L2.valV_put kvs k k' v
variable {H:Hp}
theorem gJ :∀{t:Tr} {v:V},RAt H t v->∃p,v=.ref p
 | .box _,_,h=>let ⟨p,e,_⟩:=h; #[p,e]
 | .num _,_,h=>let ⟨p,e,_⟩:=h; #[p,e]
 | .op _ _ _,_,h=>let ⟨p,_,_,e,_⟩:=h; #[p,e]
noncomputable def cU (f:Lv):V->Option (Option Tr)
 | .str n=>f n
 | .int i=>some (some (.num i))
 | _=>none
noncomputable def gV (f:Lv) (n:Str) (o:Option Tr):Lv:=λm=>if m=n then some o else f m
noncomputable def both (s:Str):Option Tr->Option Tr->Option Tr
 | some l,some r=>some (tog s l r)
 | _,_=>none
theorem iQ {H':Hp}{z:Addr} (e:aB H H') (h:H z=none):aB H (ers z H'):=λb o hb=>by rw[cC (λy=>by rw[y,h] at hb; cases hb)]; exact e _ _ hb
theorem ue (ss:List Str):(K12.onceL ss).Nodup:=by
 have key:∀(ss acc:List Str),acc.Nodup->(ss.foldl K12.step acc).Nodup:=by
   intro ss
   induction ss with
   | nil=>intro acc h; exact h
   | cons s ss ih =>
     intro acc h;refine ih _ ?_;unfold K12.step;split
     . exact h
     . rename_i hs
       rw[List.nodup_append];refine#[h,by simp,λa ha b hb=>?_];have:b=s:=by simpa using hb
       subst this;exact λz=>hs (z ▸ ha)
 exact key ss [] List.nodup_nil
noncomputable def kz (ns:List Str) (us:List V):List (aL×V):=(ns.map λn=>(Sum.inr n:aL)).zip us
theorem ut:∀{ns:List Str} {us:List V} {acc:List (aL×V)},ns.Nodup->(∀n∈ns,bN acc (Sum.inr n:aL)=none)->(kz ns us).foldl (λacc kv=>ao acc kv.1 kv.2) acc=acc++kz ns us
 | [],us,acc,_,_=>(JI _).symm
 | n :: ns,[],acc,_,_=>(JI _).symm
 | n :: ns,u :: us,acc,nd,h=>by
   show(kz ns us).foldl _ (ao acc (Sum.inr n) u)=acc++(Sum.inr n,u) :: kz ns us;rw[qS u (h n Ii)];rw[Jh] at nd;rw[ut nd.2 λm hm=>?_,JP]
   . rfl
   . rw[nc _ _ _ _ (h n Ii),IW (λz=>nd.1 (by rw[<- Sum.inr.inj z]; exact hm))];exact h m (Im _ hm)
noncomputable def lk:List Str->List (Option Tr)->Lv
 | n :: ns,v :: vs,m=>if m=n then some v else lk ns vs m
 | _,_,_=>none
theorem uj {H:Hp}:∀{ns:List Str} {us:List V} {vw:List (Option Tr)},Ps (aZ H) us vw->∀n o,lk ns vw n=some o->∃v,bN (kz ns us) (Sum.inr n:aL)=some v/\aZ H o v
 | [],_,_,_,_,_,h=>by cases h
 | n :: ns,[],[],_,_,_,h=>by cases h
 | n :: ns,u :: us,v :: vw,hp,m,o,h=>by
   show ∃w,bN ((Sum.inr n,u) :: kz ns us) _=some w/\_;unfold lk at h;by_cases e:m=n
   . rw[Ig e] at h;cases h;exact#[u,fI (by rw[e]),hp.1]
   . rw[IW e] at h;rw[fC (λz=>e (Sum.inr.inj z).symm)];exact uj hp.2 m o h
structure Lev where
 F:F2.Fd
 r:Nat
 vw:List (Option Tr)
noncomputable def Lev.fr (e:Lev):Str×Nat:=(e.F.name,e.r)
noncomputable def Lev.lv (e:Lev):Lv:=lk (F2.nms e.F) e.vw
structure LevOk (fns:List F2.Fd) (e:Lev):Prop where
 m:e.F∈fns
 r:e.r<e.F.rs.length
 l:e.vw.length=(F2.nms e.F).length
 b:(F2.nms e.F).length<=1000
noncomputable def di (L:List Lev):Mrk:=#[L.map Lev.fr,L.map Lev.vw]
noncomputable def je (H0 H:Hp) (e:Lev) (v:V):Prop:=∃d us,v=.ref d/\H0 d=none/\H d=some (.dK (kz (F2.nms e.F) us))/\Ps (aZ H) us e.vw
noncomputable def pw (H0 H:Hp) (L:List Lev) (v:V):Prop:=∃l ds,v=.ref l/\H l=some (.lst ds)/\Ps (je H0 H) ds L
noncomputable def LeA (H:Hp) (e:Lev) (v:V):Prop:=∃d us,v=.ref d/\H d=some (.dK (kz (F2.nms e.F) us))/\Ps (aZ H) us e.vw
noncomputable def LsE (H:Hp) (L:List Lev) (v:V):Prop:=∃l ds,v=.ref l/\H l=some (.lst ds)/\Ps (LeA H) ds L
theorem Ps.map {α β:Type} {R:α->V->Prop} {R':β->V->Prop} (g:α->β):∀{us:List V} {ts:List α},(∀t∈ts,∀v,R t v->R' (g t) v)->Ps R us ts->Ps R' us (ts.map g)
 | [],[],_,_=>trivial
 | u :: us,t :: ts,f,h=>#[f t Ii u h.1,Ps.map g (λt ht=>f t (Im _ ht)) h.2]
theorem pw.old {H0:Hp}{L:List Lev} (h:pw H0 H L v):LsE H L v:=let ⟨l,ds,h1,h2,h3⟩:=h; #[l,ds,h1,h2,Ps.imp (λ_ _ z=>let ⟨d,us,z1,_,z3,z4⟩:=z; #[d,us,z1,z3,z4]) h3]
theorem je.mono {H0 H H':Hp} {e:Lev} {v:V} (s:aB H H') (h:je H0 H e v):je H0 H' e v:=let ⟨d,us,h1,h0,h2,h3⟩:=h; #[d,us,h1,h0,s _ _ h2,Ps.imp (λ_ _ z=>aZ.mono z s) h3]
noncomputable def fh (K:W.Frag) (H:Hp) (b:Int×Tr) (v:V):Prop:=∃p x,v=.ref p/\aF K H p [.int b.1,x]/\RAt H b.2 x
theorem fh.mono {K:W.Frag} {H H':Hp} {b:Int×Tr} {v:V} (e:aB H H') (h:fh K H b v):fh K H' b v:=let ⟨p,x,h1,h2,h3⟩:=h; #[p,x,h1,e.tup h2,h3.mono e]
noncomputable def fY (K:W.Frag) (H:Hp) (ps:List (Int×Tr)) (a:Addr) (v:V):Prop:=∃p l xs,v=.ref p/\aF K H p [.ref l,.ref a]/\aJ K H l xs/\Ps (fh K H) xs ps
theorem fY.mono {K:W.Frag} {H H':Hp} {ps:List (Int×Tr)} {a:Addr} {v:V} (e:aB H H') (h:fY K H ps a v):fY K H' ps a v:=let ⟨p,l,xs,h1,h2,h3,h4⟩:=h; #[p,l,xs,h1,e.tup h2,e.seq h3,Ps.imp (λ_ _ z=>z.mono e) h4]
noncomputable def bz (ps:List (Int×Tr)):Int->Option Tr:=ps.foldl (λg b=>setG g b.1 b.2) (λ_=>none)
theorem uL {K:W.Frag} {H:Hp}:∀{xs:List V} {ps:List (Int×Tr)},Ps (fh K H) xs ps->∃(as:List Addr) (kvs:List (aL×V)),xs=as.map V.ref/\Paired (λa (kv:aL×V)=>aF K H a [kV kv.1,kv.2]) as kvs/\kvs.length=ps.length/\∀H' acc g,aB H H'->NV H' acc g->NV H' (kvs.foldl (λacc kv=>ao acc kv.1 kv.2) acc) (ps.foldl (λg b=>setG g b.1 b.2) g)
 | [],[],_=>#[[],[],rfl,.nil,rfl,λ_ _ _ _ h=>h]
 | x :: xs,b :: ps,h=>by obtain⟨⟨p,y,rfl,h1,h2⟩,h3⟩:=h;obtain⟨as,kvs,rfl,z1,z2,z3⟩:=uL h3;exact#[p :: as,(Sum.inl b.1,y) :: kvs,rfl,.cons h1 z1,by rw[J6,J6,z2],λH' acc g e n=>z3 H' _ _ e (n.put (h2.mono e))]
structure Stp where
 fl:Addr
 sp:Addr
 mt:Addr
 a:Addr
 r:Addr
 d:Addr
 cv:V
 av:V
noncomputable def stF (S:Stp):List (Str×V):=aY "news" (.ref S.d) (aY "row" (.ref S.r) (aY "ahead" S.av (aY "chain" S.cv (aY "act" (.ref S.a) (aY "marks" (.ref S.mt) (aY "spots" (.ref S.sp) (aY "flows" (.ref S.fl) [])))))))
noncomputable def i4 (K:W.Frag) (H:Hp) (kd:Str) (v:V):Prop:=∃p l a r,v=.ref p/\aF K H p [l,.ref a]/\aF K H a (.str kd :: r)
variable {K:W.Frag}
theorem i4.mono {H':Hp}{kd:Str} (e:aB H H') (h:i4 K H kd v):i4 K H' kd v:=let ⟨p,l,a,r,h1,h2,h3⟩:=h; #[p,l,a,r,h1,e.tup h2,e.tup h3]
structure TbA (K:W.Frag) (C:Addr) (H:Hp) (fl sp mk:Addr) (fns:List F2.Fd) (svs mvs:List V) (ks:List Str) (Ms:List (List Lev)):Prop where
 f:F2.FlowsAt K C H fl fns
 s:aJ K H sp svs
 ss:Ps (i4 K H) svs ks
 m:aJ K H mk mvs
 ms:Ps (λL v=>gG K H (di L) v) mvs Ms
 l:∀L∈Ms,L.length<=11/\∀e∈L,LevOk fns e
theorem TbA.mono {K:W.Frag} {C:Addr} {H H':Hp} {fl sp mk:Addr} {fns:List F2.Fd} {svs mvs:List V} {ks:List Str} {Ms:List (List Lev)} (e:aB H H') (h:TbA K C H fl sp mk fns svs mvs ks Ms):TbA K C H' fl sp mk fns svs mvs ks Ms :=
 #[h.f.mono e,e.seq h.s,Ps.imp (λ_ _ z=>z.mono e) h.ss,e.seq h.m,Ps.imp (λ_ _ z=>z.mono e) h.ms,h.l]
theorem fM {G:Hp}{x:Addr} {o:HO} (e:aB (ers x H) G):aB (ers x H) (upd G x o):=λb o' h=>by
 have hb:b≠x:=λz=>by rw[z] at h; unfold ers at h; rw[Ig rfl] at h; cases h
 rw[aw hb];exact e _ _ h
section
variable {H:Hp} {x c dx:Addr} {fs:List (Str×V)}
theorem j9 {a:Addr} {o:HO} (hx:H x=some (.ins c dx fs)) (h:H a=some o) (ho:∀c dx fs,o≠.ins c dx fs):ers x H a=some o:=by rw[cC (λz=>by rw[z,hx] at h; cases h; exact ho _ _ _ rfl)];exact h
theorem qH {o:HO}:aB (ers x H) (upd H x o):=fM dq
end
structure Ak where
 S:Stp
 fns:List F2.Fd
 svs:List V
 mvs:List V
 ks:List Str
 Ms:List (List Lev)
 L0:List Lev
 e:Lev
 ps:List (Int×Tr)
 as:List V
noncomputable def ga (t:Tr):Option Tr->Bool
 | none=>false
 | some u=>PyData.eqv (bS t) (bS u)
noncomputable def gz (g:Int->Option Tr) (b:Lv) (n:Str):Option Tr->Bool
 | none=>true
 | some t=>match b n with|some o=>ga (pt g t) o|none=>false
noncomputable def eW (g:Int->Option Tr) (e:Lev) (b:Lv):Bool:=((F2.nms e.F).zip e.vw).all λnv=>gz g b nv.1 nv.2
noncomputable def iq (g:Int->Option Tr) (L:List Lev) (ch:List (Str×Nat)) (fs:List Lv):Bool:=decide (L.map Lev.fr=ch)&&(L.zip fs).all λeb=>eW g eb.1 eb.2
noncomputable def gW (A:Ak) (k:Nat) (ch:List (Str×Nat)) (fs:List Lv):Bool:=match A.ks[k]?,A.Ms[k]? with
 | some kd,some L=>!decide (kd="wait")&&iq (bz A.ps) L ch fs
 | _,_=>false
noncomputable def bZ (t:Tr):Prop:=okl (lvs t)/\eJ t/\dp t<10
structure LvlOk (fns:List F2.Fd) (ch:List (Str×Nat)) (fs:List Lv):Prop where
 n:∀c∈ch,PyData.strOk c.1=true
 l:∀(i:Nat) (c:Str×Nat) (f:Lv),ch[i]?=some c->fs[i]?=some f->∀F∈fns,F.name=c.1->∀n∈F2.nms F,∃o,f n=some o/\∀t,o=some t->bZ t
noncomputable def Ak.at (A:Ak) (n:Nat):List (Str×Nat):=A.L0.map Lev.fr++[(A.e.F.name,n)]
noncomputable def Ak.fs (A:Ak):List Lv:=(A.L0++[A.e]).map Lev.lv
noncomputable def Ak.give (A:Ak) (n:Str) (o:Option Tr):List Lv:=A.L0.map Lev.lv++[gV A.e.lv n o]
noncomputable def fD (c:Str×Nat):PyData:=.tuple [.str c.1,.int (c.2:Int)]
noncomputable def cD (ch:List (Str×Nat)):PyData:=.tuple (ch.map fD)
theorem t9:∀a b:List (Str×Nat),PyData.eqvAll (a.map fD) (b.map fD)=decide (a=b)
 | [],[]=>by rw[Ji]; unfold PyData.eqvAll; rw[IV rfl]
 | [],b :: bs=>by rw[Ji,Ix]; unfold PyData.eqvAll; rw[Ih (by intro z; cases z)]
 | a :: as,[]=>by rw[Ji,Ix]; unfold PyData.eqvAll; rw[Ih (by intro z; cases z)]
 | a :: as,b :: bs=>by rw[Ix,Ix];unfold PyData.eqvAll;rw[show PyData.eqv (fD a) (fD b)=(decide (a.1=b.1)&&decide ((a.2:Int)=b.2)) from gP _ _ _ _,t9 as bs,JQ];obtain⟨a1,a2⟩:=a;obtain⟨b1,b2⟩:=b;simp [and_assoc];intro _ _;exact#[λz=>by omega,λz=>by rw[z]]
theorem DU (a b:List (Str×Nat)):PyData.eqv (cD a) (cD b)=decide (a=b):=by unfold cD PyData.eqv;exact t9 a b
theorem wE {K:W.Frag} {H:Hp}:∀{cs:List V} {ch:List (Str×Nat)},Ps (iA K H) cs ch->bK K H (ch.map fD) cs
 | [],[],_=>by rw[Ji]; unfold bK; rfl
 | c :: cs,f :: ch,h=>by rw[Ix];unfold bK;obtain⟨⟨p,rfl,h1⟩,h2⟩:=h;exact#[_,_,rfl,oP h1,wE h2]
theorem cT.dat {ch:List (Str×Nat)} (h:cT K H ch v):bC K H (cD ch) v:=by obtain⟨p,cs,rfl,h1,h2⟩:=h;unfold cD bC;exact#[p,cs,rfl,h1,wE h2]
theorem ox {ch:List (Str×Nat)} (h:∀c∈ch,PyData.strOk c.1=true):bF 2 (cD ch):=by
 unfold cD;refine bF.tuple λd hd=>?_;obtain⟨f,hf,rfl⟩:=J3.mp hd;unfold fD;refine bF.tuple λd hd=>?_;rcases Io.mp hd with rfl|hd
 . exact bF.str (h f hf)
 . cases Ik.mp hd; exact bF.int _
theorem Em (t:Tr):PyData.eqv (bS t) .none=false:=by cases t <;> (unfold bS PyData.eqv; rfl)
noncomputable def cL (H0 H H':Hp):Prop:=∀a o,H a=some o->H' a=some o\/∃kvs oo,o=.dK kvs/\H0 a=none/\H' a=some (.frz oo (.dK kvs))
section
variable {H0 H H1 H2:Hp}
theorem cL.of (s:aB H H1):cL H0 H H1:=λa o h=>.inl (s _ _ h)
theorem cL.trans (f:cL H0 H H1) (s:aB H1 H2):cL H0 H H2:=λa o h=>(f a o h).elim (λz=>.inl (s _ _ z)) λ⟨k,oo,e,n,z⟩=>.inr #[k,oo,e,n,s _ _ z]
theorem cL.frz {d:Addr} {kvs:List (aL×V)} {oo:Obj} (f:cL H0 H H1) (n:H0 d=none) (e:H1 d=some (.dK kvs)):cL H0 H (upd H1 d (.frz oo (.dK kvs))):=λa o h=>by
 by_cases z:a=d
 . subst z;rcases f a o h with g|⟨k,o2,g1,g2,g3⟩
   . rw[e] at g; cases g;exact .inr #[kvs,oo,rfl,n,aI]
   . rw[e] at g3; cases g3
 . rw[aw z];exact f a o h
theorem cL.same (s:aB H0 H) (f:cL H0 H H1):aB H0 H1:=λa o h=>(f a o (s _ _ h)).elim id λ⟨_,_,_,n,_⟩=>by rw[n] at h; cases h
theorem cL.lst {l:Addr} {xs:List V} (f:cL H0 H H1) (h:H l=some (.lst xs)):H1 l=some (.lst xs):=(f _ _ h).elim id λ⟨_,_,e,_,_⟩=>by cases e
theorem cL.tup {l:Addr} {xs:List V} (f:cL H0 H H1) (h:H l=some (.tup xs)):H1 l=some (.tup xs):=(f _ _ h).elim id λ⟨_,_,e,_,_⟩=>by cases e
theorem cL.dk {d:Addr} {kvs:List (aL×V)} (f:cL H0 H H1) (h:H d=some (.dK kvs)):H1 d=some (.dK kvs)\/∃o,H1 d=some (.frz o (.dK kvs)):=(f _ _ h).elim .inl λ⟨_,oo,e,_,z⟩=>.inr #[oo,by cases e; exact z]
theorem cL.rat (f:cL H0 H H1):∀{t:Tr} {v:V},RAt H t v->RAt H1 t v
 | .box _,_,h=>let ⟨p,e,z⟩:=h; #[p,e,f.tup z]
 | .num _,_,h=>let ⟨p,e,z⟩:=h; #[p,e,f.tup z]
 | .op _ _ _,_,h=>let ⟨p,a,b,e,z,z1,z2,z3,z4⟩:=h; #[p,a,b,e,f.tup z,z1,z2,f.rat z3,f.rat z4]
theorem cL.vat (f:cL H0 H H1):∀{o:Option Tr} {v:V},aZ H o v->aZ H1 o v
 | none,_,h=>h
 | some _,_,h=>f.rat h
end
noncomputable abbrev ni (g:TG) (tb:TS) (D:c8) (σ:L2.St) (J:It) (H1:Hp):Prop:=∃W:Nat->Nat->L2.St->Hp->Prop,(∃m,W 0 m σ H1)/\∀i m σ H,W i m σ H->(J.stop i H/\D.nx σ H)\/(J.go i H/\∃N:L2.St->Hp->Prop,(∀σ' H',N σ' H'->∃m',m'<m/\W (i+1) m' σ' H')/\∀x H',J.yld i H x H'->g x σ H' λσ2 H2=>tb { D with nx:=N,ct:=N,bk:=D.nx } σ2 H2)
theorem FG {H0 H1 G:Hp} {d:Addr} {kvs:List (aL×V)} {g:TG} {tb:TS} {D:c8} {σ:L2.St} (fz:cL H0 H1 G) (n:H0 d=none) (e:H1 d=some (.dK kvs)) (m:∀o G2,cL H0 H1 G2->G2 d=some (.frz o (.dK kvs))->ni g tb D σ (g7 o d kvs) G2):∃d' kvs',V.ref d=.ref d'/\((G d'=some (.dK kvs')/\∀o,ni g tb D σ (g7 o d' kvs') (upd G d' (.frz o (.dK kvs'))))\/∃o,G d'=some (.frz o (.dK kvs'))/\ni g tb D σ (g7 o d' kvs') G) :=
 (fz.dk e).elim (λz=>#[d,kvs,rfl,.inl #[z,λo=>m o _ (fz.frz n z) aI]]) λ⟨o,z⟩=>#[d,kvs,rfl,.inr #[o,z,m o _ fz z]]
theorem t6 {H:Hp}:∀{ns:List Str} {us:List V} {vw:List (Option Tr)} {j:Nat} {kv:aL×V},Ps (aZ H) us vw->(kz ns us)[j]?=some kv->∃n o u,kv=(Sum.inr n,u)/\(ns.zip vw)[j]?=some (n,o)/\aZ H o u
 | [],_,_,j,_,_,h=>by cases j <;> cases h
 | n :: ns,[],[],j,_,_,h=>by cases j <;> cases h
 | n :: ns,u :: us,v :: vw,0,kv,hp,h=>by cases h; exact#[n,v,u,rfl,rfl,hp.1]
 | n :: ns,u :: us,v :: vw,j+1,kv,hp,h=>t6 (ns:=ns) (us:=us) (j:=j) hp.2 h
theorem BV {ns:List Str} {us:List V} {vw:List (Option Tr)} (hp:Ps (aZ H) us vw):(kz ns us).length=(ns.zip vw).length:=by unfold kz;rw[Jz,Jz,IX,Ps.len hp]
theorem wq:∀{ps:List (Int×Tr)} {g:Int->Option Tr},(∀b∈ps,bZ b.2)->(∀k t,g k=some t->bZ t)->∀k t,ps.foldl (λg b=>setG g b.1 b.2) g k=some t->bZ t
 | [],_,_,hg,k,t,h=>hg k t h
 | b :: ps,g,hp,hg,k,t,h=>wq (λc hc=>hp c (Im _ hc)) (λj u e=>by
     have e:(if j=b.1 then some b.2 else g j)=some u:=e;split at e
     . cases e; exact hp b Ii
     . exact hg j u e) k t h
theorem pY {ps:List (Int×Tr)} (h:∀b∈ps,bZ b.2):∀k t,bz ps k=some t->bZ t:=wq h (λ_ _ e=>by cases e)
theorem bZ.lay {t:Tr} (h:bZ t):bF 10 (bS t):=(gn h.2.1).mono (by have:=h.2.2; omega)
theorem sh {g:Int->Option Tr} {t:Tr} (hg:∀k u,g k=some u->bZ u) (h:bZ t):bF 20 (bS (pt g t)):=(gn (mM (λk u e=>(hg k u e).2.1) h.2.1)).mono (by have:=lq (g:=g) (m:=9) (λk u e=>by have:=(hg k u e).2.2; omega) t; have:=h.2.2; omega)
theorem vL {Q:VK} {t:Tr} {o:Option Tr} {x y:V} (ht:bF 20 (bS t)) (ho:∀u,o=some u->bZ u) (hx:RAt H t x) (hy:aZ H o y) (q:Q (.bl (!ga t o)) H):gL K x y H Q:=by
 cases o with
 | none =>
   cases hy;exact#[bS t,.none,dD hx,(by unfold bC; rfl),ht.shaped (by decide),(bF.none (n:=1)).shaped (by decide),by rw[Em]; exact q]
 | some u=>exact#[bS t,bS u,dD hx,dD hy,ht.shaped (by decide),(ho u rfl).lay.shaped (by decide),q]
theorem vd {Q:VK} {a b:List (Str×Nat)} {x y:V} (ha:∀c∈a,PyData.strOk c.1=true) (hb:∀c∈b,PyData.strOk c.1=true) (hx:cT K H a x) (hy:cT K H b y) (q:Q (.bl (!decide (a=b))) H):gL K x y H Q :=
 #[cD a,cD b,hx.dat,hy.dat,(ox ha).shaped (by decide),(ox hb).shaped (by decide),by rw[DU]; exact q]
theorem EJ {p:Addr} {s:Str} (h:aF K H p [.str s]):bC K H (.tuple [.str s]) (.ref p):=by unfold bC;refine#[p,_,rfl,h,?_];unfold bK;refine#[_,_,rfl,by unfold bC; rfl,?_];unfold bK;rfl
theorem Dy (s s':Str):PyData.eqv (.tuple [.str s]) (.tuple [.str s'])=decide (s=s'):=by unfold PyData.eqv PyData.eqvAll;rw[show PyData.eqvAll [] []=true by unfold PyData.eqvAll; rfl,Lb];unfold PyData.eqv;rfl
noncomputable def oD:Option Tr->PyData
 | none=>.none
 | some u=>bS u
theorem CW :∀{o:Option Tr} {v:V},aZ H o v->bC K H (oD o) v
 | none,_,h=>by cases h; unfold oD bC; rfl
 | some _,_,h=>dD h
theorem uB:∀{o:Option Tr},(∀u,o=some u->bZ u)->bF 10 (oD o)
 | none,_=>bF.none
 | some u,h=>(h u rfl).lay
structure TbB (K:W.Frag) (H:Hp) (sp mk:Addr) (A:Ak):Prop where
 s:aJ K H sp A.svs
 ss:Ps (i4 K H) A.svs A.ks
 m:aJ K H mk A.mvs
 ms:Ps (λL v=>gG K H (di L) v) A.mvs A.Ms
 l:∀L∈A.Ms,L.length<=11/\∀e∈L,LevOk A.fns e
theorem TbB.mono {K:W.Frag} {H H':Hp} {sp mk:Addr} {A:Ak} (e:aB H H') (h:TbB K H sp mk A):TbB K H' sp mk A :=
 #[e.seq h.s,Ps.imp (λ_ _ z=>z.mono e) h.ss,e.seq h.m,Ps.imp (λ_ _ z=>z.mono e) h.ms,h.l]
noncomputable def Ak.to (A:Ak) (S:Stp):Ak:={ A with S:=S }
end St
namespace Br
open PySem L2 Gx Rk2 Bg St
noncomputable def RB (K:W.Frag) (ab:Addr) (H:Hp):Tr->V->Prop
 | .box k,v=>(k=-1/\v=.ref ab/\aF K H ab [.str "brought"])\/(¬ k=-1/\∃p,v=.ref p/\H p=some (.tup [.str "box",.int k]))
 | .num i,v=>∃p,v=.ref p/\H p=some (.tup [.str "num",.int i])
 | .op s l r,v=>∃p a b,v=.ref p/\H p=some (.tup [.str s,a,b])/\¬ s="box"/\¬ s="num"/\RB K ab H l a/\RB K ab H r b
noncomputable def cM:Tr->Prop
 | .box k=>¬ k=-1
 | .num _=>True
 | .op _ l r=>cM l/\cM r
section
variable {K:W.Frag} {ab:Addr} {H H':Hp}
theorem RB.mono (e:aB H H'):∀{t:Tr} {v:V},RB K ab H t v->RB K ab H' t v
 | .box _,_,h=>h.elim (λ⟨a,b,c⟩=>.inl #[a,b,e.tup c]) λ⟨a,p,b,c⟩=>.inr #[a,p,b,e _ _ c]
 | .num _,_,h=>let ⟨p,a,b⟩:=h; #[p,a,e _ _ b]
 | .op _ _ _,_,h=>let ⟨p,a,b,h1,h2,h3,h4,h5,h6⟩:=h; #[p,a,b,h1,e _ _ h2,h3,h4,h5.mono e,h6.mono e]
theorem RB.of:∀{t:Tr} {v:V},cM t->RAt H t v->RB K ab H t v
 | .box _,_,n,h=>.inr #[n,h]
 | .num _,_,_,h=>h
 | .op _ _ _,_,n,h=>let ⟨p,a,b,h1,h2,h3,h4,h5,h6⟩:=h; #[p,a,b,h1,h2,h3,h4,RB.of n.1 h5,RB.of n.2 h6]
theorem RB.head {tr:Tr} {v:V} (h:RB K ab H tr v):∃p hd rest,v=.ref p/\aF K H p (.str hd :: rest)/\(hd="num"->∃k,tr=.num k/\rest=[.int k])/\(¬ hd="num"->∀k,tr≠.num k):=by
 cases tr with
 | box k =>
   rcases h with⟨_,rfl,e⟩|⟨_,p,rfl,e⟩
   . exact#[ab,_,_,rfl,e,λz=>absurd z (by decide +kernel),λ_ k z=>by cases z]
   . exact#[p,_,_,rfl,aF.of e,λz=>absurd z (by decide +kernel),λ_ k z=>by cases z]
 | num k =>
   obtain⟨p,rfl,e⟩:=h;exact#[p,_,_,rfl,aF.of e,λ_=>#[k,rfl,rfl],λz=>absurd rfl z]
 | op s l r =>
   obtain⟨p,x,y,rfl,e,n1,n2,_,_⟩:=h;exact#[p,_,_,rfl,aF.of e,λz=>absurd z n2,λ_ k z=>by cases z]
noncomputable def VB (K:W.Frag) (ab:Addr) (H:Hp):Option Tr->V->Prop
 | none,v=>v=.non
 | some t,v=>RB K ab H t v
theorem VB.mono (e:aB H H'):∀{o:Option Tr} {v:V},VB K ab H o v->VB K ab H' o v
 | none,_,h=>h
 | some _,_,h=>RB.mono e h
theorem VB.of:∀{o:Option Tr} {v:V},(∀t,o=some t->cM t)->aZ H o v->VB K ab H o v
 | none,_,_,h=>h
 | some t,_,n,h=>RB.of (n t rfl) h
noncomputable def NB (K:W.Frag) (ab:Addr) (H:Hp) (kvs:List (aL×V)) (g:Int->Option Tr):Prop:=∀k,match g k with|none=>bN kvs (Sum.inl k:aL)=none|some t=>∃x,bN kvs (Sum.inl k:aL)=some x/\RB K ab H t x
theorem NB.no {kvs:List (aL×V)} {g:Int->Option Tr} (h:NB K ab H kvs g) {k:Int} (e:g k=none):bN kvs (Sum.inl k:aL)=none:=by have:=h k;rw[e] at this;exact this
theorem NB.yes {kvs:List (aL×V)} {g:Int->Option Tr} (h:NB K ab H kvs g) {k:Int} {t:Tr} (e:g k=some t):∃x,bN kvs (Sum.inl k:aL)=some x/\RB K ab H t x:=by have:=h k;rw[e] at this;exact this
theorem NB.of {kvs:List (aL×V)} {g:Int->Option Tr} (h1:∀k,g k=none->bN kvs (Sum.inl k:aL)=none) (h2:∀k t,g k=some t->∃x,bN kvs (Sum.inl k:aL)=some x/\RB K ab H t x):NB K ab H kvs g:=λk=>by
 cases e:g k with
 | none=>exact h1 k e
 | some t=>exact h2 k t e
theorem NB.mono {kvs:List (aL×V)} {g:Int->Option Tr} (h:NB K ab H kvs g) (s:aB H H'):NB K ab H' kvs g:=.of (λk e=>h.no e) λk t e=>let ⟨x,h1,h2⟩:=h.yes e; #[x,h1,h2.mono s]
theorem NB.put {kvs:List (aL×V)} {g:Int->Option Tr} (h:NB K ab H kvs g) {k:Int} {t:Tr} {x:V} (r:RB K ab H t x):NB K ab H (ao kvs (Sum.inl k:aL) x) (setG g k t):=by
 refine .of (λj e=>?_) λj t' e=>?_
 . unfold setG at e;split at e
   . cases e
   . rename_i hj
     rw[valV_put,IW (λz=>hj (Sum.inl.inj z))];exact h.no e
 . unfold setG at e;split at e
   . rename_i hj
     cases e;rw[valV_put,Ig (by rw[hj])];exact#[x,rfl,r]
   . rename_i hj
     rw[valV_put,IW (λz=>hj (Sum.inl.inj z))];exact h.yes e
theorem NB.of_nv {kvs:List (aL×V)} {g:Int->Option Tr} (n:∀k t,g k=some t->cM t) (h:NV H kvs g):NB K ab H kvs g:=.of (λk e=>h.no e) λk t e=>let ⟨x,h1,h2⟩:=h.yes e; #[x,h1,RB.of (n k t e) h2]
end
noncomputable def cE:Tr->PyData
 | .box k=>if k=-1 then .tuple [.str "brought"] else .tuple [.str "box",.int k]
 | .num i=>.tuple [.str "num",.int i]
 | .op s l r=>.tuple [.str s,cE l,cE r]
theorem vG (s s':Str) (a b a' b':PyData):PyData.eqv (.tuple [.str s,a,b]) (.tuple [.str s',a',b'])=(decide (s=s')&&(PyData.eqv a a'&&PyData.eqv b b')):=by rw[PyData.eqv,PyData.eqvAll,PyData.eqvAll,PyData.eqvAll,PyData.eqvAll,Lb,show PyData.eqv (.str s) (.str s')=decide (s=s') by unfold PyData.eqv; rfl]
theorem jg:∀a b:Tr,PyData.eqv (bS a) (bS b)=decide (a=b)
 | a,.box k=>pz a k
 | a,.num k=>Hd a k
 | .op s l r,.op s' l' r'=>by show PyData.eqv (.tuple [.str s,bS l,bS r]) (.tuple [.str s',bS l',bS r'])=_;rw[vG,jg l l',jg r r',JQ];simp
 | .box k,.op s' l' r'=>by show PyData.eqv (.tuple [.str "box",.int k]) (.tuple [.str s',bS l',bS r'])=_;rw[Ih (by intro z; cases z),PyData.eqv,PyData.eqvAll,PyData.eqvAll,PyData.eqvAll,JB,JB]
 | .num k,.op s' l' r'=>by show PyData.eqv (.tuple [.str "num",.int k]) (.tuple [.str s',bS l',bS r'])=_;rw[Ih (by intro z; cases z),PyData.eqv,PyData.eqvAll,PyData.eqvAll,PyData.eqvAll,JB,JB]
theorem fq:cE (.box (-1))=.tuple [.str "brought"]:=Ig rfl
theorem gD {k:Int} (h:¬ k=-1):cE (.box k)=.tuple [.str "box",.int k]:=IW h
theorem mG (s s':Str) (a:PyData):PyData.eqv (.tuple [.str s]) (.tuple [.str s',a])=false/\PyData.eqv (.tuple [.str s',a]) (.tuple [.str s])=false:=by constructor <;> rw[PyData.eqv,PyData.eqvAll,PyData.eqvAll,JB]
theorem sZ (s s':Str) (a b:PyData):PyData.eqv (.tuple [.str s]) (.tuple [.str s',a,b])=false/\PyData.eqv (.tuple [.str s',a,b]) (.tuple [.str s])=false:=by constructor <;> rw[PyData.eqv,PyData.eqvAll,PyData.eqvAll,JB]
theorem lJ (s s':Str) (a b c:PyData):PyData.eqv (.tuple [.str s,c]) (.tuple [.str s',a,b])=false/\PyData.eqv (.tuple [.str s',a,b]) (.tuple [.str s,c])=false:=by constructor <;> rw[PyData.eqv,PyData.eqvAll,PyData.eqvAll,PyData.eqvAll,JB,JB]
theorem lB:∀a b:Tr,PyData.eqv (cE a) (cE b)=decide (a=b)
 | .box k,.box j=>by
   by_cases h:k=-1
   . subst h;rw[fq];by_cases h':j=-1
     . subst h';rw[fq,Dy,IV rfl,IV rfl]
     . rw[gD h',(mG _ _ _).1,Ih (λz=>h' (Tr.box.inj z).symm)]
   . rw[gD h];by_cases h':j=-1
     . subst h';rw[fq,(mG _ _ _).2,Ih (λz=>h (Tr.box.inj z))]
     . rw[gD h',gP,IV rfl,JY];exact decide_eq_decide.mpr #[λz=>by rw[z],λz=>Tr.box.inj z]
 | .box k,.num j=>by
   rw[Ih (by intro z; cases z)];show PyData.eqv (cE (.box k)) (.tuple [.str "num",.int j])=_;by_cases h:k=-1
   . subst h; rw[fq]; exact(mG _ _ _).1
   . rw[gD h,gP,Ih (by decide +kernel)]; rfl
 | .num j,.box k=>by
   rw[Ih (by intro z; cases z)];show PyData.eqv (.tuple [.str "num",.int j]) (cE (.box k))=_;by_cases h:k=-1
   . subst h; rw[fq]; exact(mG _ _ _).2
   . rw[gD h,gP,Ih (by decide +kernel)]; rfl
 | .num i,.num j=>by show PyData.eqv (.tuple [.str "num",.int i]) (.tuple [.str "num",.int j])=_;rw[gP,IV rfl,JY];exact decide_eq_decide.mpr #[λz=>by rw[z],λz=>Tr.num.inj z]
 | .box k,.op s l r=>by
   rw[Ih (by intro z; cases z)];show PyData.eqv (cE (.box k)) (.tuple [.str s,cE l,cE r])=_;by_cases h:k=-1
   . subst h; rw[fq]; exact(sZ _ _ _ _).1
   . rw[gD h]; exact(lJ _ _ _ _ _).1
 | .op s l r,.box k=>by
   rw[Ih (by intro z; cases z)];show PyData.eqv (.tuple [.str s,cE l,cE r]) (cE (.box k))=_;by_cases h:k=-1
   . subst h; rw[fq]; exact(sZ _ _ _ _).2
   . rw[gD h]; exact(lJ _ _ _ _ _).2
 | .num j,.op s l r=>by rw[Ih (by intro z; cases z)];exact(lJ _ _ _ _ _).1
 | .op s l r,.num j=>by rw[Ih (by intro z; cases z)];exact(lJ _ _ _ _ _).2
 | .op s l r,.op s' l' r'=>by show PyData.eqv (.tuple [.str s,cE l,cE r]) (.tuple [.str s',cE l',cE r'])=_;rw[vG,lB l l',lB r r',JQ];simp
theorem jw:∀{t:Tr},eJ t->bF (dp t+1) (cE t)
 | .box k,_=>by
   by_cases h:k=-1
   . subst h;rw[fq];exact bF.tuple λd hd=>by cases Ik.mp hd; exact bF.str (by decide +kernel)
   . rw[gD h];exact gn (t:=.box k) trivial
 | .num k,_=>gn (t:=.num k) trivial
 | .op s l r,h=>by
   have h1:=jw h.2.1;have h2:=jw h.2.2;refine bF.tuple λd hd=>?_;simp only[Io,JK,or_false] at hd;rcases hd with rfl|rfl|rfl
   . exact bF.str h.1
   . exact h1.mono (by show dp l+1<=max (dp l) (dp r)+1; omega)
   . exact h2.mono (by show dp r+1<=max (dp l) (dp r)+1; omega)
theorem jG {K:W.Frag} {ab:Addr} {H:Hp}:∀{t:Tr} {v:V},RB K ab H t v->bC K H (cE t) v
 | .box k,v,h=>by
   rcases h with⟨rfl,rfl,e⟩|⟨n,p,rfl,e⟩
   . rw[fq]; exact EJ e
   . rw[gD n]; exact oP (aF.of e)
 | .num k,v,h=>by obtain⟨p,rfl,e⟩:=h;exact oP (aF.of e)
 | .op s l r,v,h=>by obtain⟨p,a,b,rfl,e,_,_,h1,h2⟩:=h;show bC K H (.tuple [.str s,cE l,cE r]) (.ref p);unfold bC;refine#[p,_,rfl,aF.of e,?_];unfold bK;refine#[_,_,rfl,by unfold bC; rfl,?_];unfold bK;refine#[_,_,rfl,jG h1,?_];unfold bK;refine#[_,_,rfl,jG h2,?_];unfold bK;rfl
theorem wR (t:Tr):PyData.eqv (cE t) .none=false:=by
 cases t with
 | box k =>
   by_cases h:k=-1
   . subst h; rw[fq]; unfold PyData.eqv; rfl
   . rw[gD h]; unfold PyData.eqv; rfl
 | num k=>show PyData.eqv (.tuple _) .none=false; unfold PyData.eqv; rfl
 | op s l r=>show PyData.eqv (.tuple _) .none=false; unfold PyData.eqv; rfl
theorem Ec {K:W.Frag} {ab:Addr} {H:Hp} {Q:VK} {t:Tr} {o:Option Tr} {x y:V} (ht:bF 20 (cE t)) (ho:∀u,o=some u->bZ u) (hx:RB K ab H t x) (hy:VB K ab H o y) (q:Q (.bl (!ga t o)) H):gL K x y H Q:=by
 cases o with
 | none =>
   cases hy;exact#[cE t,.none,jG hx,(by unfold bC; rfl),ht.shaped (by decide),(bF.none (n:=1)).shaped (by decide),by rw[wR]; exact q]
 | some u =>
   refine#[cE t,cE u,jG hx,jG hy,ht.shaped (by decide),((jw (ho u rfl).2.1).mono (by have:=(ho u rfl).2.2; omega:dp u+1<=20)).shaped (by decide),?_];rw[lB,<- jg];exact q
end Br
namespace Br
open PySem L2 Gx Rk2 Bg Fl Wk St
section
variable (K:W.Frag) (ab:Addr)
noncomputable def ic (b:Nat) (H:Hp) (f:Lv) (d:Addr):Prop:=∃kvs,H d=some (.dK kvs)/\kvs.length<=b/\∀n o,f n=some o->∃v,bN kvs (Sum.inr n:aL)=some v/\VB K ab H o v
noncomputable def i9 (b:Nat) (H:Hp) (f:Lv) (v:V):Prop:=∃d,v=.ref d/\ic K ab b H f d
noncomputable def dj (b:Nat) (H:Hp) (fs:List Lv) (v:V):Prop:=∃l ds,v=.ref l/\H l=some (.lst ds)/\Ps (i9 K ab b H) ds fs
end
section
variable {K:W.Frag} {ab:Addr} {H H':Hp}
theorem ic.mono {b:Nat} {f:Lv} {d:Addr} (e:aB H H') (h:ic K ab b H f d):ic K ab b H' f d:=let ⟨kvs,h1,h2,h3⟩:=h; #[kvs,e _ _ h1,h2,λn o z=>let ⟨v,a,b⟩:=h3 n o z; #[v,a,b.mono e]]
theorem i9.mono {b:Nat} {f:Lv} {v:V} (e:aB H H') (h:i9 K ab b H f v):i9 K ab b H' f v:=let ⟨d,h1,h2⟩:=h; #[d,h1,h2.mono e]
theorem dj.mono {b:Nat} {fs:List Lv} {v:V} (e:aB H H') (h:dj K ab b H fs v):dj K ab b H' fs v:=let ⟨l,ds,h1,h2,h3⟩:=h; #[l,ds,h1,e _ _ h2,Ps.imp (λ_ _ z=>z.mono e) h3]
theorem i9.up {b c:Nat} {f:Lv} {v:V} (hb:b<=c) (h:i9 K ab b H f v):i9 K ab c H f v:=let ⟨d,h1,kvs,h2,h3,h4⟩:=h; #[d,h1,kvs,h2,J7 h3 hb,h4]
theorem dj.up {b c:Nat} {fs:List Lv} {v:V} (hb:b<=c) (h:dj K ab b H fs v):dj K ab c H fs v:=let ⟨l,ds,h1,h2,h3⟩:=h; #[l,ds,h1,h2,Ps.imp (λ_ _ z=>z.up hb) h3]
noncomputable def cQ (vw:List (Option Tr)):Prop:=∀t,some t∈vw->cM t
theorem El {fns:List F2.Fd} {L:List Lev} {v:V} (hk:∀e∈L,LevOk fns e) (hn:∀e∈L,cQ e.vw) (h:LsE H L v):dj K ab 1000 H (L.map Lev.lv) v:=by
 obtain⟨l,ds,h1,h2,h3⟩:=h;refine#[l,ds,h1,h2,St.Ps.map Lev.lv (λe he v z=>?_) h3];obtain⟨d,us,z1,z2,z3⟩:=z;refine#[d,z1,_,z2,?_,λn o ho=>?_]
 . unfold kz;rw[Jz,IX];have:=(hk e he).b;omega
 . obtain⟨v,a,b⟩:=uj z3 n o ho;refine#[v,a,VB.of (λt et=>?_) b];subst et;have key:∀{ns:List Str} {vw:List (Option Tr)} {n:Str} {o:Option Tr},lk ns vw n=some o->o∈vw:=by
     intro ns
     induction ns with
     | nil=>intro vw n o h; cases h
     | cons m ns ih =>
       intro vw n o h;cases vw with
       | nil=>cases h
       | cons v vw =>
         unfold lk at h;split at h
         . cases h; exact Ii
         . exact Im _ (ih h)
   exact hn e he t (key ho)
end
noncomputable def jv (as:List V) (fb:Option Int):Prop:=∃k r,as=.str k :: r/\(
 (PyProof.Rows.KTD.datumAt k [("get",(3:Int)),("new",1),("wait",1)]=none/\fb=none) \/
 (k="get"/\∃x y b r',r=x :: y :: b :: r'/\(b=.non/\fb=none\/∃i,b=.int i/\fb=some i)) \/
 (k="new"/\∃b r',r=b :: r'/\(b=.non/\fb=none\/∃i,b=.int i/\fb=some i)))
noncomputable def eV (fb:Option Int):List (Int×Tr):=match fb with
 | none=>[]
 | some i=>[(i,.box (-1))]
theorem sH (ps:List (Int×Tr)) (i:Int):bz (ps++eV (some i))=setG (bz ps) i (.box (-1)):=by unfold bz;rw[JG];rfl
structure StpB (K:W.Frag) (ab:Addr) (CS CF:Addr) (H:Hp) (x:Addr) (A:Ak):Prop where
 ob:∃dx,H x=some (.ins CS dx (stF A.S))
 tb:TbA K CF H A.S.fl A.S.sp A.S.mt A.fns A.svs A.mvs A.ks A.Ms
 ac:aF K H A.S.a A.as
 ch:cT K H ((A.L0++[A.e]).map Lev.fr) A.S.cv
 ah:dj K ab 1000 H ((A.L0++[A.e]).map Lev.lv) A.S.av
 ok:∀e'∈A.L0++[A.e],LevOk A.fns e'
 ln:A.L0.length<=10
 row:∃w,A.e.F.rs[A.e.r]?=some w/\A.S.r=w.r
 nw:∃kvs,H A.S.d=some (.dK kvs)/\NB K ab H kvs (bz A.ps)
theorem StpB.mono {K:W.Frag} {ab CS CF:Addr} {H H':Hp} {x:Addr} {A:Ak} (s:aB H H') (h:StpB K ab CS CF H x A):StpB K ab CS CF H' x A :=
 #[let ⟨dx,z⟩:=h.ob; #[dx,s _ _ z],h.tb.mono s,s.tup h.ac,h.ch.mono s,h.ah.mono s,h.ok,h.ln,h.row,let ⟨kvs,z1,z2⟩:=h.nw; #[kvs,s _ _ z1,z2.mono s]]
structure AkB (A:Ak):Prop where
 l:A.ks.length=A.Ms.length
 n:∀F∈A.fns,PyData.strOk F.name=true
 g:∀b∈A.ps,bZ b.2
 v:∀L∈A.Ms,∀e∈L,∀t,some t∈e.vw->bZ t/\cM t
section
variable {K:W.Frag} {ab:Addr} {H:Hp} {x c dx:Addr} {fs:List (Str×V)}
theorem m9 (ha:∀H:Hp,aF K H ab [.str "brought"]) (hx:H x=some (.ins c dx fs)):∀{t:Tr} {v:V},RB K ab H t v->RB K ab (ers x H) t v
 | .box _,_,h=>h.elim (λ⟨a,b,_⟩=>.inl #[a,b,ha _]) λ⟨a,p,b,z⟩=>.inr #[a,p,b,j9 hx z (λ_ _ _ y=>by cases y)]
 | .num _,_,h=>let ⟨p,e,z⟩:=h; #[p,e,j9 hx z (λ_ _ _ y=>by cases y)]
 | .op _ _ _,_,h=>let ⟨p,a,b,e,z,z1,z2,z3,z4⟩:=h; #[p,a,b,e,j9 hx z (λ_ _ _ y=>by cases y),z1,z2,m9 ha hx z3,m9 ha hx z4]
theorem AM (ha:∀H:Hp,aF K H ab [.str "brought"]) (hx:H x=some (.ins c dx fs)):∀{o:Option Tr} {v:V},VB K ab H o v->VB K ab (ers x H) o v
 | none,_,h=>h
 | some _,_,h=>m9 ha hx h
theorem Ca (ha:∀H:Hp,aF K H ab [.str "brought"]) {b:Nat} {gs:List Lv} {v:V} (hx:H x=some (.ins c dx fs)) (h:dj K ab b H gs v):dj K ab b (ers x H) gs v :=
 let ⟨l,ds,h1,h2,h3⟩:=h
 #[l,ds,h1,j9 hx h2 (λ_ _ _ y=>by cases y),Ps.imp (λ_ _ z=>let ⟨d,z1,kvs,z2,z3,z4⟩:=z; #[d,z1,kvs,j9 hx z2 (λ_ _ _ y=>by cases y),z3,λn o y=>let ⟨v,y1,y2⟩:=z4 n o y; #[v,y1,AM ha hx y2]]) h3]
theorem IA (ha:∀H:Hp,aF K H ab [.str "brought"]) {kvs:List (aL×V)} {g:Int->Option Tr} (hx:H x=some (.ins c dx fs)) (h:NB K ab H kvs g):NB K ab (ers x H) kvs g:=.of (λk e=>h.no e) λk t e=>let ⟨u,y1,y2⟩:=h.yes e; #[u,y1,m9 ha hx y2]
end
theorem EN {g:Int->Option Tr} {t:Tr} (hg:∀k u,g k=some u->bZ u) (h:bZ t):bF 20 (cE (pt g t)):=(jw (mM (λk u e=>(hg k u e).2.1) h.2.1)).mono (by have:=lq (g:=g) (m:=9) (λk u e=>by have:=(hg k u e).2.2; omega) t; have:=h.2.2; omega)
theorem ui:∀{ps:List (Int×Tr)} {g:Int->Option Tr},(∀b∈ps,cM b.2)->(∀k t,g k=some t->cM t)->∀k t,ps.foldl (λg b=>setG g b.1 b.2) g k=some t->cM t
 | [],_,_,hg,k,t,h=>hg k t h
 | b :: ps,g,hp,hg,k,t,h=>ui (λc hc=>hp c (Im _ hc)) (λj u e=>by
     have e:(if j=b.1 then some b.2 else g j)=some u:=e;split at e
     . cases e; exact hp b Ii
     . exact hg j u e) k t h
theorem A9 {ps:List (Int×Tr)} (h:∀b∈ps,cM b.2):∀k t,bz ps k=some t->cM t:=ui h (λ_ _ e=>by cases e)
theorem qW {K:W.Frag} {ab:Addr} {H:Hp} {d:Addr} {kvs:List (aL×V)} {o:HO} (ha:∀H:Hp,aF K H ab [.str "brought"]) (hd:H d=some (.dK kvs)):∀{t:Tr} {v:V},RB K ab H t v->RB K ab (upd H d o) t v
 | .box _,_,h=>h.elim (λ⟨a,b,_⟩=>.inl #[a,b,ha _]) λ⟨a,p,b,z⟩=>.inr #[a,p,b,by rw[aw (λy=>by rw[y,hd] at z; cases z)]; exact z]
 | .num _,_,h=>let ⟨p,e,z⟩:=h; #[p,e,by rw[aw (λy=>by rw[y,hd] at z; cases z)]; exact z]
 | .op _ _ _,_,h=>let ⟨p,a,b,e,z,z1,z2,z3,z4⟩:=h; #[p,a,b,e,(by rw[aw (λy=>by rw[y,hd] at z; cases z)]; exact z),z1,z2,qW ha hd z3,qW ha hd z4]
variable {K:W.Frag} {ab:Addr} {H:Hp}
theorem Dn {d:Addr} {kvs kvs':List (aL×V)} {o:HO} {g:Int->Option Tr} (ha:∀H:Hp,aF K H ab [.str "brought"]) (hd:H d=some (.dK kvs)) (h:NB K ab H kvs' g):NB K ab (upd H d o) kvs' g:=.of (λk e=>h.no e) λk t e=>let ⟨x,h1,h2⟩:=h.yes e; #[x,h1,qW ha hd h2]
theorem wc:∀(kvs acc:List (aL×V)),(kvs.foldl (λacc kv=>ao acc kv.1 kv.2) acc).length<=acc.length+kvs.length
 | [],acc=>by simp
 | kv :: kvs,acc=>by have h1:=wc kvs (ao acc kv.1 kv.2);have h2:=putK_len acc kv.1 kv.2;show(kvs.foldl _ (ao acc kv.1 kv.2)).length<=acc.length+(kvs.length+1);omega
inductive Ce where
 | s (x:Str)
 | p (o:Option Tr)
noncomputable def fU (K:W.Frag) (ab:Addr) (H:Hp):Ce->V->Prop
 | .s x,v=>v=.str x
 | .p o,v=>VB K ab H o v
theorem fU.mono {K:W.Frag} {ab:Addr} {H H':Hp} (e:aB H H'):∀{c:Ce} {v:V},fU K ab H c v->fU K ab H' c v
 | .s _,_,h=>h
 | .p _,_,h=>VB.mono e h
noncomputable def hJ (f:Lv):RG->Option (List Ce)
 | .out a=>(cU f a).map λo=>[.s "out",.p o]
 | .get _ a w=>(cU f a).map λo=>[.s "get",.p o,.s w]
 | .put a w b=>(cU f a).bind λo=>(cU f b).map λo'=>[.s "put",.p o,.s w,.p o']
 | .new _=>some [.s "new"]
 | _=>none
noncomputable def oB:Option Tr->PyData
 | none=>.none
 | some t=>cE t
noncomputable def cG:Ce->PyData
 | .s x=>.str x
 | .p o=>oB o
noncomputable def dG:Ce->Prop
 | .s x=>PyData.strOk x=true
 | .p o=>∀t,o=some t->bZ t
theorem AW :∀{o:Option Tr} {v:V},VB K ab H o v->bC K H (oB o) v
 | none,_,h=>by cases h; unfold oB bC; rfl
 | some _,_,h=>jG h
theorem zv :∀{c:Ce} {v:V},fU K ab H c v->bC K H (cG c) v
 | .s _,_,h=>by cases h; unfold cG bC; rfl
 | .p _,_,h=>AW h
theorem nE {K:W.Frag} {ab:Addr} {H:Hp}:∀{vs:List V} {cs:List Ce},Ps (fU K ab H) vs cs->bK K H (cs.map cG) vs
 | [],[],_=>by rw[Ji]; unfold bK; rfl
 | v :: vs,c :: cs,h=>by rw[Ix];unfold bK;exact#[_,_,rfl,zv h.1,nE h.2]
theorem DX:∀{c:Ce},dG c->bF 10 (cG c)
 | .s _,h=>bF.str h
 | .p none,_=>bF.none
 | .p (some t),h=>(jw (h t rfl).2.1).mono (by have:=(h t rfl).2.2; omega)
theorem pQ {cs:List Ce} (h:∀c∈cs,dG c):bF 11 (.tuple (cs.map cG)):=bF.tuple λd hd=>by obtain⟨c,hc,rfl⟩:=J3.mp hd;exact DX (h c hc)
noncomputable def cz:List Ce->List Ce->Bool
 | [],[]=>true
 | c :: cs,d :: ds=>PyData.eqv (cG c) (cG d)&&cz cs ds
 | _,_=>false
theorem uM:∀cs ds:List Ce,PyData.eqvAll (cs.map cG) (ds.map cG)=cz cs ds
 | [],[]=>by rw[Ji]; unfold PyData.eqvAll; rfl
 | [],_ :: _=>by rw[Ji,Ix]; unfold PyData.eqvAll; rfl
 | _ :: _,[]=>by rw[Ji,Ix]; unfold PyData.eqvAll; rfl
 | c :: cs,d :: ds=>by rw[Ix,Ix]; unfold PyData.eqvAll; rw[uM cs ds]; rfl
theorem ER {Q:VK} {p q:Addr} {vs us:List V} {cs ds:List Ce} (h1:aF K H p vs) (h2:aF K H q us) (hc:Ps (fU K ab H) vs cs) (hd:Ps (fU K ab H) us ds) (oc:∀c∈cs,dG c) (od:∀c∈ds,dG c) (h:Q (.bl (!cz cs ds)) H):gL K (.ref p) (.ref q) H Q:=by refine#[.tuple (cs.map cG),.tuple (ds.map cG),(by unfold bC; exact#[p,vs,rfl,h1,nE hc]),(by unfold bC; exact#[q,us,rfl,h2,nE hd]),(pQ oc).shaped (by decide),(pQ od).shaped (by decide),?_];rw[show PyData.eqv (.tuple (cs.map cG)) (.tuple (ds.map cG))=cz cs ds by unfold PyData.eqv; exact uM cs ds];exact h
theorem B0 {Q:VK} {p q:Addr} {s s':Str} {vs us:List V} {ds:List Ce} (h1:aF K H p (.str s :: vs)) (h2:aF K H q us) (ha:bp K H 20 (.str s :: vs)) (hd:Ps (fU K ab H) us (.s s' :: ds)) (od:∀c∈(.s s' :: ds:List Ce),dG c) (n:¬ s=s') (h:Q (.bl true) H):gL K (.ref p) (.ref q) H Q:=by
 obtain⟨es,le,de⟩:=ha;refine#[.tuple es,.tuple ((.s s' :: ds:List Ce).map cG),(by unfold bC; exact#[p,_,rfl,h1,de]),(by unfold bC; exact#[q,us,rfl,h2,nE hd]),(bF.tuple le).shaped (by decide),(pQ od).shaped (by decide),?_];have e:PyData.eqv (.tuple es) (.tuple ((.s s' :: ds:List Ce).map cG))=false:=by
   cases es with
   | nil=>unfold bK at de; cases de
   | cons e es =>
     unfold bK at de;obtain⟨x,xs,e1,e2,_⟩:=de;cases e1;have:e=.str s:=by cases e <;> (unfold bC at e2; first|(cases e2; rfl)|(obtain⟨_,_,z,_⟩:=e2; cases z)|cases e2)
     subst this;rw[Ix];unfold PyData.eqv PyData.eqvAll;rw[show PyData.eqv (.str s) (cG (.s s'))=decide (s=s') by show PyData.eqv (.str s) (.str s')=_; unfold PyData.eqv; rfl,Ih n];rfl
 rw[e];exact h
noncomputable def jz:RG->Prop
 | .out _=>True
 | .get _ _ _=>True
 | .put _ _ _=>True
 | .new _=>True
 | _=>False
noncomputable def iK (A:Ak):RG->List Lv
 | .get x _ _=>A.give x (some (.box (-1)))
 | .new x=>A.give x (some (.box (-1)))
 | _=>A.fs
inductive S4 (K:W.Frag) (ab:Addr) (H:Hp) (A:Ak) (rg:RG):Bool->Prop
 | go {k to_:Nat} {x w:Str} {a:V}:A.as=[.str "go",.int k]->k<A.Ms.length->rg=.get x a w->gg A.e.F A.e.r 0 to_->LvlOk A.fns (A.at to_) (A.give x none)->S4 K ab H A rg (gW A k (A.at to_) (A.give x none))
 | gf {k:Nat}:A.as=[.str "go",.int k]->k<A.Ms.length->(∀x a w,rg≠.get x a w)->S4 K ab H A rg false
 | ne {kd s':Str} {rest:List V} {ds:List Ce}:A.as=.str kd :: rest->¬ kd="wait"->¬ kd="go"->hJ A.e.lv rg=some (.s s' :: ds)->¬ kd=s'->bp K H 20 (.str kd :: rest)->(∀c∈(.s s' :: ds:List Ce),dG c)->S4 K ab H A rg false
 | eq {kd:Str} {vs mid:List V} {cs ds:List Ce} {k to_:Nat}:A.as=.str kd :: (vs++mid++[.int k])->¬ kd="wait"->¬ kd="go"->hJ A.e.lv rg=some ds->Ps (fU K ab H) (.str kd :: vs) cs->cs.length=ds.length->(∀c∈cs,dG c)->(∀c∈ds,dG c)->k<A.Ms.length->gg A.e.F A.e.r 0 to_->LvlOk A.fns (A.at to_) (iK A rg)->S4 K ab H A rg (cz cs ds&&gW A k (A.at to_) (iK A rg))
theorem t7 (xs:List V) (n:Nat):ck xs none (some (n:Int))=xs.take n:=by
 unfold ck;rw[show HT.sIx xs.length xs.length (some ((n:Nat):Int))=min n xs.length from HT.sIx_nat _ _ n,HT.sIx_none,LY,Nat.sub_zero];by_cases h:n<=xs.length
 . rw[LV h]
 . rw[LM (by omega),List.take_of_length_le (Ib _),List.take_of_length_le (by omega)]
theorem vV {K:W.Frag} {H:Hp} {n:Nat}:∀{xs:List V} (m:Nat),bp K H n xs->bp K H n (xs.take m)
 | [],m,_=>by rw[List.take_nil]; exact .nil
 | x :: xs,0,_=>.nil
 | x :: xs,m+1,h=>by
   obtain⟨ds,ls,z⟩:=h;cases ds with
   | nil=>unfold bK at z; cases z
   | cons d ds =>
     unfold bK at z;obtain⟨_,_,e,z1,z2⟩:=z;cases e;exact .cons #[d,ls d Ii,z1] (vV m #[ds,λd hd=>ls d (Im _ hd),z2])
theorem wn {H':Hp}{n:Nat} {xs:List V} (e:aB H H') (h:bp K H n xs):bp K H' n xs:=let ⟨ds,l,z⟩:=h; #[ds,l,bK.mono e ds xs z]
theorem S4.mono {K:W.Frag} {ab:Addr} {H H':Hp} {A:Ak} {rg:RG} {b:Bool} (s:aB H H') (h:S4 K ab H A rg b):S4 K ab H' A rg b:=by
 cases h with
 | go a b c d e=>exact .go a b c d e
 | gf a b c=>exact .gf a b c
 | ne a b c d e f g=>exact .ne a b c d e (wn s f) g
 | eq a b c d e f g h i j k=>exact .eq a b c d (Ps.imp (λ_ _ z=>z.mono s) e) f g h i j k
theorem S4.to {K:W.Frag} {ab:Addr} {H:Hp} {A:Ak} {rg:RG} {b:Bool} (S:Stp) (h:S4 K ab H A rg b):S4 K ab H (A.to S) rg b:=by
 have e:iK (A.to S) rg=iK A rg:=by cases rg <;> rfl
 cases h with
 | go a b c d e=>exact .go (A:=A.to S) a b c d e
 | gf a b c=>exact .gf (A:=A.to S) a b c
 | ne a b c d e f g=>exact .ne (A:=A.to S) a b c d e f g
 | eq a b c d e' f g h i j k=>rw[<- e] at k ⊢; exact .eq (A:=A.to S) a b c d e' f g h i j k
end Br
namespace St
open PySem L2 Gx Rk2 Bg Fl Wk K41
noncomputable def fG (ws:List Str) (a:V):Prop:=(∃z,a=.int z/\0<=z/\z<K21.wide)\/∃n∈ws,a=.str n
noncomputable def d6 (o:Option Tr):Prop:=∀u,o=some u->bZ u
noncomputable def bx (vw:List (Option Tr)):Prop:=∀o∈vw,d6 o
variable {t:Tr}
theorem TOk.tr (h:TOk t):bZ t:=#[h.1,h.2.1,by have:=h.2.2.1; omega]
theorem d6.no:d6 none:=λu h=>by cases h
theorem d6.of (h:bZ t):d6 (some t):=λu e=>by cases e; exact h
theorem l8 {m n:Str} (ns:List Str) (h:m≠n):(m :: ns).idxOf n=ns.idxOf n+1:=by rw[List.idxOf_cons,beq_eq_false_iff_ne.mpr h];rfl
theorem mS:∀{ns:List Str} {vw:List (Option Tr)} {x:Str},x∈ns->vw.length=ns.length->∃o,lk ns vw x=some o/\o∈vw
 | [],_,_,h,_=>by cases h
 | n :: ns,[],_,_,h=>by cases h
 | n :: ns,v :: vw,x,h,hl=>by
   unfold lk;by_cases e:x=n
   . exact#[v,Ig e,Ii]
   . obtain⟨o,h1,h2⟩:=mS (ns:=ns) (vw:=vw) ((Io.mp h).resolve_left e) (by simpa using hl);exact#[o,by rw[IW e]; exact h1,Im _ h2]
theorem oX:∀{ns:List Str} {vw:List (Option Tr)} {x:Str} {i:Nat} {o:Option Tr},ns.idxOf x=i->x∈ns->vw[i]?=some o->lk ns vw x=some o
 | [],_,_,_,_,_,h,_=>by cases h
 | n :: ns,[],_,i,_,_,_,h=>by simp at h
 | n :: ns,v :: vw,x,i,o,hi,hx,h=>by
   unfold lk;by_cases e:x=n
   . subst e;rw[K5] at hi;subst hi;rw[Ig rfl];exact h
   . rw[IW e];rw[l8 _ (λz=>e z.symm)] at hi;subst hi;exact oX rfl ((Io.mp hx).resolve_left e) (by simpa using h)
theorem mQ:∀{ns:List Str} {vw:List (Option Tr)} {x:Str} {o:Option Tr},x∈ns->vw.length=ns.length->lk ns (vw.set (ns.idxOf x) o)=gV (lk ns vw) x o
 | [],_,_,_,h,_=>by cases h
 | n :: ns,[],_,_,_,h=>by cases h
 | n :: ns,v :: vw,x,o,hx,hl=>by
   funext m;unfold gV;by_cases e:x=n
   . subst e;rw[K5];show lk (x :: ns) (o :: vw) m=_;unfold lk;by_cases em:m=x
     . rw[Ig em,Ig em]
     . rw[IW em,IW em,IW em]
   . rw[l8 _ (λz=>e z.symm)];show lk (n :: ns) (v :: vw.set (ns.idxOf x) o) m=_;have ih:=congrFun (mQ (ns:=ns) (vw:=vw) (o:=o) ((Io.mp hx).resolve_left e) (by simpa using hl)) m;unfold gV at ih;unfold lk;by_cases em:m=n
     . rw[Ig em,Ig em,IW (λz=>e (z.symm.trans em))]
     . rw[IW em,IW em,ih]
noncomputable def Tr9 (t:Tr):Prop:=okl (lvs t)/\eJ t/\dp t<9
noncomputable def eY (vw:List (Option Tr)):Prop:=∀t,some t∈vw->Tr9 t
theorem Tr9.ok (h:Tr9 t):bZ t:=#[h.1,h.2.1,Nat.lt_trans h.2.2 (by decide)]
theorem TOk.tr9 (h:TOk t):Tr9 t:=#[h.1,h.2.1,by have:=h.2.2.1; omega]
theorem eY.ok {vw:List (Option Tr)} (h:eY vw):bx vw:=λo ho u e=>(h u (e ▸ ho)).ok
theorem Tr9.num {z:Int} (h0:0<=z) (h1:z<K21.wide):Tr9 (.num z):=#[vY h0 h1,trivial,by show 0<9; decide]
variable {ws:List Str}
theorem hX {vw:List (Option Tr)} {a:V} (h:fG ws a) (hl:vw.length=ws.length) (hv:eY vw):∃o,cU (lk ws vw) a=some o/\∀u,o=some u->Tr9 u:=by
 rcases h with⟨z,rfl,h0,h1⟩|⟨n,hn,rfl⟩
 . exact#[_,rfl,λu e=>by cases e; exact .num h0 h1]
 . obtain⟨o,h1,h2⟩:=mS hn hl;exact#[o,h1,λu e=>hv u (e ▸ h2)]
theorem pe {α:Type} {l:List α} {i:Nat} {a b:α} (h:b∈l.set i a):b=a\/b∈l:=by
 rcases List.mem_or_eq_of_mem_set h with h|h
 . exact .inr h
 . exact .inl h
noncomputable def iu (g:Int->Option Tr) (p o:Option Tr):Bool:=match p with
 | none=>true
 | some t=>ga (pt g t) o
noncomputable def gU (g:Int->Option Tr) (vw kn:List (Option Tr)):Bool:=(vw.zip kn).all λpo=>iu g po.1 po.2
noncomputable def gu (g:Int->Option Tr) (vs Kn:List (List (Option Tr))):Bool:=(vs.zip Kn).all λp=>gU g p.1 p.2
noncomputable def ia (g:Int->Option Tr) (kd:Str) (L:List Lev) (ch:List (Str×Nat)) (Kn:List (List (Option Tr))):Bool:=!decide (kd="wait")&&(decide (L.map Lev.fr=ch)&&gu g (L.map Lev.vw) Kn)
structure HldOk (L:List Lev) (ch:List (Str×Nat)) (Kn:List (List (Option Tr))):Prop where
 n:∀e∈L,PyData.strOk e.F.name=true
 v:∀e∈L,bx e.vw
 c:∀c∈ch,PyData.strOk c.1=true
 k:∀kn∈Kn,bx kn
theorem nu:∀{fns:List F2.Fd} {F G:F2.Fd},(fns.map (·.name)).Nodup->F∈fns->G∈fns->F.name=G.name->F=G
 | [],_,_,_,h,_,_=>by cases h
 | f :: fns,F,G,nd,h1,h2,e=>by
   rw[Ix,Jh] at nd;rcases Io.mp h1 with z1|g1
   . rcases Io.mp h2 with z2|g2
     . rw[z1,z2]
     . exact absurd (J3.mpr #[G,g2,by rw[<- e,z1]]) nd.1
   . rcases Io.mp h2 with z2|g2
     . exact absurd (J3.mpr #[F,g1,by rw[e,z2]]) nd.1
     . exact nu nd.2 g1 g2 e
theorem tZ (g:Int->Option Tr):∀{ns:List Str} {vw kn:List (Option Tr)} {b:Lv},(∀(i:Nat) n,ns[i]?=some n->∀o,kn[i]?=some o->b n=some o)->vw.length=ns.length->kn.length=ns.length->((ns.zip vw).all λnv=>gz g b nv.1 nv.2)=gU g vw kn
 | [],[],[],_,_,_,_=>rfl
 | n :: ns,v :: vw,k :: kn,b,h,h1,h2=>by
   have ih:=tZ g (ns:=ns) (vw:=vw) (kn:=kn) (b:=b) (λi m hm o ho=>h (i+1) m (by simpa using hm) o (by simpa using ho)) (by simpa using h1) (by simpa using h2);show(gz g b n v&&(ns.zip vw).all λnv=>gz g b nv.1 nv.2)=(iu g v k&&gU g vw kn);rw[ih];congr 1;cases v with
   | none=>rfl
   | some t =>
     show(match b n with|some o=>ga (pt g t) o|none=>false)=_;rw[h 0 n rfl k rfl];rfl
 | [],_ :: _,_,_,_,h,_=>by cases h
 | [],[],_ :: _,_,_,_,h=>by cases h
 | _ :: _,[],_,_,_,h,_=>by cases h
 | _ :: _,_ :: _,[],_,_,_,h=>by cases h
theorem tV:∀{ns:List Str} {i:Nat} {n:Str},ns.Nodup->ns[i]?=some n->ns.idxOf n=i
 | [],i,_,_,h=>by simp at h
 | m :: ns,0,n,_,h=>by
   have:m=n:=by simpa using h
   subst this;exact K5
 | m :: ns,i+1,n,nd,h=>by
   rw[Jh] at nd;have h:ns[i]?=some n:=by simpa using h
   have:m≠n:=λz=>nd.1 (z ▸ Ij h);rw[l8 _ this,tV nd.2 h]
theorem BX (g:Int->Option Tr) {e:Lev} {kn:List (Option Tr)} (h1:e.vw.length=(F2.nms e.F).length) (h2:kn.length=(F2.nms e.F).length):eW g e (lk (F2.nms e.F) kn)=gU g e.vw kn :=
 tZ g (λi n hn o ho=>oX (tV (ue _) hn) (Ij hn) ho) h1 h2
noncomputable def fe (Fs:List F2.Fd) (Kn:List (List (Option Tr))):List Lv:=(Fs.zip Kn).map λp=>lk (F2.nms p.1) p.2
structure FK (fns Fs:List F2.Fd) (Kn:List (List (Option Tr))):Prop where
 m:∀F∈Fs,F∈fns
 l:Kn.length=Fs.length
 k:∀p∈Fs.zip Kn,p.2.length=(F2.nms p.1).length
theorem uF (g:Int->Option Tr) {fns:List F2.Fd} (nd:(fns.map (·.name)).Nodup):∀{L:List Lev} {Fs:List F2.Fd} {Kn:List (List (Option Tr))},(∀e∈L,LevOk fns e)->FK fns Fs Kn->L.map (λe=>e.F.name)=Fs.map (·.name)->((L.zip (fe Fs Kn)).all λeb=>eW g eb.1 eb.2)=gu g (L.map Lev.vw) Kn
 | [],[],[],_,_,_=>rfl
 | [],[],_ :: _,_,h,_=>by have:=h.l; cases this
 | [],_ :: _,_,_,_,h=>by cases h
 | _ :: _,[],_,_,_,h=>by cases h
 | _ :: _,_ :: _,[],_,h,_=>by have:=h.l; cases this
 | e :: L,F :: Fs,kn :: Kn,hL,hF,hn=>by rw[Ix,Ix] at hn;have hn1:e.F.name=F.name:=(List.cons.inj hn).1;have eF:e.F=F:=nu nd (hL e Ii).m (hF.m F Ii) hn1;have ih:=uF g nd (L:=L) (Fs:=Fs) (Kn:=Kn) (λe he=>hL e (Im _ he)) #[λF h=>hF.m F (Im _ h),by simpa using hF.l,λp hp=>hF.k p (Im _ hp)] (List.cons.inj hn).2;show(eW g e (lk (F2.nms F) kn)&&(L.zip (fe Fs Kn)).all λeb=>eW g eb.1 eb.2)=(gU g e.vw kn&&gu g (L.map Lev.vw) Kn);rw[ih,<- eF,BX g (hL e Ii).l (by have:=hF.k (F,kn) Ii; rw[eF]; exact this)]
theorem BO {A:Ak} {k:Nat} {kd:Str} {L:List Lev} {ch:List (Str×Nat)} {Fs:List F2.Fd} {Kn:List (List (Option Tr))} (nd:(A.fns.map (·.name)).Nodup) (h1:A.ks[k]?=some kd) (h2:A.Ms[k]?=some L) (hL:∀e∈L,LevOk A.fns e) (hF:FK A.fns Fs Kn) (hn:ch.map (·.1)=Fs.map (·.name)):gW A k ch (fe Fs Kn)=ia (bz A.ps) kd L ch Kn:=by
 unfold gW ia;rw[h1,h2];show(!decide (kd="wait")&&iq (bz A.ps) L ch (fe Fs Kn))=_;congr 1;unfold iq;by_cases e:L.map Lev.fr=ch
 . rw[IV e,JY,JY];refine uF _ nd hL hF ?_;rw[<- hn,<- e,Jc];rfl
 . rw[Ih e];rfl
theorem BG {fns:List F2.Fd} (nd:(fns.map (·.name)).Nodup) (sn:∀F∈fns,PyData.strOk F.name=true) {ch:List (Str×Nat)} {Fs:List F2.Fd} {Kn:List (List (Option Tr))} (hF:FK fns Fs Kn) (hv:∀kn∈Kn,bx kn) (hn:ch.map (·.1)=Fs.map (·.name)):LvlOk fns ch (fe Fs Kn):=by
 refine#[λc hc=>?_,λi c f hc hf F hFm e n hn'=>?_]
 . have:c.1∈Fs.map (·.name):=by rw[<- hn]; exact List.mem_map_of_mem hc
   obtain⟨F,hm,he⟩:=J3.mp this;rw[<- he];exact sn F (hF.m F hm)
 . unfold fe at hf;rw[Iu,Jd] at hf;obtain⟨p,hp,rfl⟩:=hf;have hz:=JV.mp hp;have:p.1.name=c.1:=by
     have h1:(Fs.map (·.name))[i]?=some p.1.name:=by rw[Iu,hz.1]; rfl
     rw[<- hn,Iu,hc] at h1;exact(Option.some.inj h1).symm
   have eF:F=p.1:=nu nd hFm (hF.m _ (Ij hz.1)) (e.trans this.symm);subst eF;obtain⟨o,h1,h2⟩:=mS hn' (hF.k p (Ij hp));exact#[o,h1,hv _ (Ij hz.2) o h2]
theorem uW (h:0<ws.length) (z:Int):∃n,(0:Int)<((ws.map V.str).length:Nat)/\bI (ws.map V.str) (z%((ws.map V.str).length:Nat))=some (.str n)/\n∈ws:=by
 have hl:(0:Int)<((ws.map V.str).length:Nat):=by rw[IX]; omega
 have b0:=KD z (Int.ne_of_gt hl);have b1:=Jw z hl;have hj:(z%((ws.map V.str).length:Nat)).toNat<ws.length:=by rw[IX] at b1 ⊢; rw[IX] at b0; omega
 exact#[ws[(z%((ws.map V.str).length:Nat)).toNat],hl,t5 b0 (Iw hj),Ju hj]
theorem vN:∀{ws:List Str} {m:Nat} {n:Str},ws[m]?=some n->ws.idxOf n<=m
 | [],m,_,h=>by simp at h
 | w :: ws,0,n,h=>by
   have:w=n:=by simpa using h
   subst this;rw[K5];exact J2 _
 | w :: ws,m+1,n,h=>by
   by_cases e:w=n
   . subst e;rw[K5];exact J2 _
   . rw[l8 _ e];have:=vN (ws:=ws) (m:=m) (n:=n) (by simpa using h);omega
theorem nU {n:Str} (hn:n∈ws) (hl:ws.length<=100):ee (.str n)=true/\(ws.map V.str).all ee=true/\ws.idxOf n<1000/\(∃z,(ws.map V.str)[ws.idxOf n]?=some z/\eO z (.str n)=true)/\∀m z,m<ws.idxOf n->(ws.map V.str)[m]?=some z->eO z (.str n)=false:=by
 have hi:ws.idxOf n<ws.length:=KF hn;refine#[rfl,?_,by omega,#[.str n,?_,IV rfl],λm z hm hz=>?_]
 . rw[Jk];intro v hv;obtain⟨s,_,rfl⟩:=J3.mp hv;rfl
 . rw[Iu,Iw hi,List.getElem_idxOf];rfl
 . rw[Iu,Jd] at hz;obtain⟨s,hs,rfl⟩:=hz;refine Ih λe=>?_;have e:s=n:=e;subst e;have:=vN hs;omega
variable {us:List V} {H:Hp}
theorem By {ko:List (Option Tr)} (h:0<us.length) (hp:Ps (aZ H) us ko) (z:Int):∃u o,(0:Int)<(us.length:Nat)/\bI us (z%(us.length:Nat))=some u/\o∈ko/\aZ H o u:=by
 have hl:(0:Int)<(us.length:Nat):=by omega
 have b0:=KD z (Int.ne_of_gt hl);have b1:=Jw z hl;obtain⟨u,o,a1,a2,a3⟩:=Ps.at hp (n:=(z%(us.length:Nat)).toNat) (by have:=Ps.len hp; omega);refine#[u,o,hl,?_,Ij a2,a3];have:z%(us.length:Nat)=(((z%(us.length:Nat)).toNat:Nat):Int):=by omega
 rw[this];exact c7 a1
theorem px {K:W.Frag} {H:Hp}:∀{us:List V} {ko:List (Option Tr)},Ps (aZ H) us ko->bK K H (ko.map oD) us
 | [],[],_=>by rw[Ji]; unfold bK; rfl
 | u :: us,o :: ko,h=>by rw[Ix];unfold bK;exact#[_,_,rfl,CW h.1,px h.2]
theorem GA {ko:List (Option Tr)} (h:bx ko):bF 11 (.list (ko.map oD)):=bF.list λd hd=>by obtain⟨o,ho,rfl⟩:=J3.mp hd;exact uB (h o ho)
variable {K:W.Frag} {Q:VK}
theorem F4 {l q:Addr} {ko:List (Option Tr)} (h1:aJ K H l us) (h2:Ps (aZ H) us ko) (h3:bx ko) (hq:aJ K H q []) (h:Q (.bl (!decide (us=[]))) H):gL K (.ref l) (.ref q) H Q:=by
 refine#[_,.list [],(by unfold bC; exact#[l,us,rfl,h1,px h2]),(by unfold bC; exact#[q,[],rfl,hq,by unfold bK; rfl]),(GA h3).shaped (by decide),bF.shaped (n:=1) (bF.list λd hd=>by cases hd) (by decide),?_];have e:PyData.eqv (.list (ko.map oD)) (.list [])=decide (us=[]):=by
   cases us with
   | nil=>cases ko with
     | nil=>unfold PyData.eqv PyData.eqvAll; rfl
     | cons=>exact h2.elim
   | cons u us=>cases ko with
     | nil=>exact h2.elim
     | cons o ko=>rw[Ix]; unfold PyData.eqv PyData.eqvAll; rfl
 rw[e];exact h
variable {x:V}
theorem Gk {q:Addr} {k:Int} (ht:bZ t) (hx:RAt H t x) (hq:H q=some (.tup [.str "box",.int k])) (h:Q (.bl (!decide (t=.box k))) H):gL K x (.ref q) H Q :=
 #[bS t,bS (.box k),dD hx,dD (t:=.box k) #[q,rfl,hq],ht.lay.shaped (by decide),(gn (t:=.box k) trivial).shaped (show 0+1<=64 by decide),by rw[pz]; exact h]
theorem GN {q:Addr} {k:Int} (ht:bZ t) (hx:RAt H t x) (hq:H q=some (.tup [.str "box",.int k])) (h:Q (.bl (decide (t=.box k))) H):j1 K x (.ref q) H Q :=
 #[bS t,bS (.box k),dD hx,dD (t:=.box k) #[q,rfl,hq],ht.lay.shaped (by decide),(gn (t:=.box k) trivial).shaped (show 0+1<=64 by decide),by rw[pz]; exact h]
theorem EU {u:Tr}{y:V}(ht:bZ t) (hu:bZ u) (hx:RAt H t x) (hy:RAt H u y) (h:Q (.bl (PyData.eqv (bS t) (bS u))) H):j1 K x y H Q :=
 #[bS t,bS u,dD hx,dD hy,ht.lay.shaped (by decide),hu.lay.shaped (by decide),h]
noncomputable def dM (H:Hp) (vw:List (Option Tr)) (v:V):Prop:=∃l us,v=.ref l/\H l=some (.lst us)/\Ps (aZ H) us vw
theorem dM.mono {H H':Hp} {vw:List (Option Tr)} {v:V} (e:aB H H') (h:dM H vw v):dM H' vw v:=let ⟨l,us,h1,h2,h3⟩:=h; #[l,us,h1,e _ _ h2,Ps.imp (λ_ _ z=>aZ.mono z e) h3]
noncomputable def jP (H0 H:Hp) (vw:List (Option Tr)) (v:V):Prop:=∃l us,v=.ref l/\H0 l=none/\H l=some (.lst us)/\Ps (aZ H) us vw
theorem jP.mono {H0 H H':Hp} {vw:List (Option Tr)} {v:V} (e:aB H H') (h:jP H0 H vw v):jP H0 H' vw v:=let ⟨l,us,h1,h0,h2,h3⟩:=h; #[l,us,h1,h0,e _ _ h2,Ps.imp (λ_ _ z=>aZ.mono z e) h3]
variable {v:V}
theorem dM.a {vw:List (Option Tr)} (h:dM H vw v):gM K H vw v:=let ⟨l,us,h1,h2,h3⟩:=h; #[l,us,h1,aJ.of h2,h3]
theorem bx.app {a b:List (Option Tr)} (h:bx a) (h':bx b):bx (a++b):=λo ho=>(Iv.mp ho).elim (h o) (h' o)
theorem Dk {α:Type} (xs:List α) (v:α):cX (xs++[v]).length (-1)=some xs.length:=by unfold cX;rw[IW (by decide),Ig (by rw[Il]; simp; omega)];congr 1;rw[Il];simp;omega
theorem Bb {α:Type} (xs:List α) (v w:α):(xs++[v]).set xs.length w=xs++[w]:=by rw[List.set_append_right _ _ (Ib _),Nat.sub_self];rfl
theorem pW {α:Type} {P:Nat->α->V->Prop}:∀{vs:List V},(∀(i:Nat) v,vs[i]?=some v->∃x,P i x v)->∃xs:List α,xs.length=vs.length/\(∀(i:Nat) x,xs[i]?=some x->∃v,vs[i]?=some v/\P i x v)/\Ps (λx v=>∃i,P i x v) vs xs
 | [],_=>#[[],rfl,λi x h=>by simp at h,trivial]
 | v :: vs,h=>by
   obtain⟨x,hx⟩:=h 0 v rfl;obtain⟨xs,h1,h2,h3⟩:=pW (P:=λi=>P (i+1)) (vs:=vs) λi w hw=>h (i+1) w (by simpa using hw);refine#[x :: xs,by rw[J6,J6,h1],λi y hy=>?_,#[0,hx],Ps.imp (λ_ _ ⟨i,z⟩=>#[i+1,z]) h3];rcases i with _|i
   . have:x=y:=by simpa using hy
     subst this;exact#[v,rfl,hx]
   . obtain⟨w,a,b⟩:=h2 i y (by simpa using hy);exact#[w,by simpa using a,b]
theorem BM {α β:Type} {xs:List (List α)} {ys:List (List β)} (h:xs.length=ys.length) (f:∀(i:Nat) x,xs[i]?=some x->∃y,ys[i]?=some y/\x.length=y.length):xs.map List.length=ys.map List.length:=by
 refine List.ext_getElem? λi=>?_;rw[Iu,Iu];cases e:xs[i]? with
 | none =>
   have:ys[i]?=none:=by rw[KJ] at e ⊢;omega
   rw[this];rfl
 | some x =>
   obtain⟨y,h1,h2⟩:=f i x e;rw[h1];exact Iq some h2
theorem lR {H:Hp} {l:Addr} {xs:List V} (hl:H l=some (.lst xs)):∀{t:Tr} {v:V},RAt H t v->RAt (ers l H) t v
 | .box _,_,h=>let ⟨p,e,z⟩:=h; #[p,e,by rw[cC (λy=>by rw[y,hl] at z; cases z)]; exact z]
 | .num _,_,h=>let ⟨p,e,z⟩:=h; #[p,e,by rw[cC (λy=>by rw[y,hl] at z; cases z)]; exact z]
 | .op _ _ _,_,h=>let ⟨p,a,b,e,z,z1,z2,z3,z4⟩:=h; #[p,a,b,e,(by rw[cC (λy=>by rw[y,hl] at z; cases z)]; exact z),z1,z2,lR hl z3,lR hl z4]
theorem nF {l:Addr} {xs:List V} (hl:H l=some (.lst xs)):∀{o:Option Tr} {v:V},aZ H o v->aZ (ers l H) o v
 | none,_,h=>h
 | some _,_,h=>lR hl h
theorem dM.erl {p l:Addr} {acc:List V}{vw:List (Option Tr)} (hp:H p=some (.lst acc)) (hl:H l=some (.lst us)) (n:l≠p) (h:Ps (aZ H) us vw):dM (ers p H) vw (.ref l):=#[l,us,rfl,by rw[cC n]; exact hl,Ps.imp (λ_ _ z=>nF hp z) h]
theorem vp {bs:List Int} (h:gX bs) (z:Int):∃b,bI (bs.map V.int) (z%8)=some (.int b)/\0<=b/\b<128:=by obtain⟨b,e1,e2,e3⟩:=m5 h z;rw[IX,h.1] at e2;exact#[b,e2,e3]
theorem IN {acc:List Str} {s:Str} (h:s∈acc):K12.step acc s=acc:=Ig h
theorem tO:∀{ss acc:List Str},(∀s∈ss,s∈acc)->ss.foldl K12.step acc=acc
 | [],_,_=>rfl
 | s :: ss,acc,h=>by show ss.foldl K12.step (K12.step acc s)=acc;rw[IN (h s Ii)];exact tO λt ht=>h t (Im _ ht)
theorem rf:∀{ss acc:List Str},(acc++ss).Nodup->ss.foldl K12.step acc=acc++ss
 | [],acc,_=>(JI acc).symm
 | s :: ss,acc,h=>by
   have hs:s ∉ acc:=λz=>by rw[List.nodup_append] at h;exact h.2.2 s z s Ii rfl
   show ss.foldl K12.step (K12.step acc s)=_;rw[show K12.step acc s=acc++[s] from IW hs,rf (by rw[JP]; exact h),JP];rfl
theorem sD {ps:List Str} {ds:List K12.RowD} (nd:ps.Nodup) (h:∀d∈ds,∀s∈K12.rowStrs d,s∈ps):K12.onceL (K12.allOf ps ds)=ps:=by unfold K12.onceL K12.allOf;rw[JG,rf (acc:=[]) (by simpa using nd),Km];refine tO λs hs=>?_;obtain⟨d,hd,hs⟩:=List.mem_flatMap.mp hs;exact h d hd s hs
noncomputable def dI (K:W.Frag) (H:Hp) (ws:List Str) (x:RR):Prop:=mY K H x/\∀s∈K12.rowStrs x.d,s∈ws
theorem dI.mono {K:W.Frag} {H H':Hp} {ws:List Str} {x:RR} (e:aB H H') (h:dI K H ws x):dI K H' ws x:=#[h.1.mono e,h.2]
noncomputable def dA (ws:List Str) (v:V):Prop:=(∃i,v=.int i)\/∃n∈ws,v=.str n
theorem fG.i {a:V} (h:fG ws a):dA ws a:=h.elim (λ⟨z,e,_⟩=>.inl #[z,e]) .inr
theorem dA.atom (hw:∀w∈ws,K12.Nm w) (h:dA ws v):K12.Atom v:=h.elim .inr λ⟨n,hn,e⟩=>.inl #[n,e,hw n hn]
theorem dA.has {n:Nat} (hw:∀w∈ws,K12.Nm w) (h:dA ws v):bJ K H n v:=by
 rcases h with⟨i,rfl⟩|⟨s,hs,rfl⟩
 . exact .int
 . exact .str (hw s hs).2
theorem kK {as:List V} (h:∀v∈as,dA ws v):∀s∈K12.strsOf as,s∈ws:=λs hs=>by
 unfold K12.strsOf at hs;obtain⟨v,hv,e⟩:=L1.mp hs;rcases h v hv with⟨i,rfl⟩|⟨n,hn,rfl⟩
 . simp at e
 . have:n=s:=by simpa using e
   rw[<- this]; exact hn
section
variable {K:W.Frag} {H:Hp} {ws:List Str}
theorem jl {r:Addr} {a:V} (hw:∀w∈ws,K12.Nm w) (rg:RG) (hg:rg=.out a\/rg=.back a\/rg=.ifs a\/rg=.whl a) (h:aF K H r rg.items) (ha:dA ws a):dI K H ws (rg.rr r):=by
 have e1:rg.as=[a]/\rg.gx=none/\rg.items=[.str rg.kind,a]/\PyData.strOk rg.kind=true:=by
   rcases hg with rfl|rfl|rfl|rfl
   . exact#[rfl,rfl,rfl,show PyData.strOk "out"=true by decide +kernel]
   . exact#[rfl,rfl,rfl,show PyData.strOk "back"=true by decide +kernel]
   . exact#[rfl,rfl,rfl,show PyData.strOk "if"=true by decide +kernel]
   . exact#[rfl,rfl,rfl,show PyData.strOk "while"=true by decide +kernel]
 have ok:rg.Ok:=by
   refine#[λv hv=>?_,?_,#[?_,?_],?_]
   . unfold RG.parts at hv;rw[e1.1,e1.2.1] at hv;have:v=a:=by simpa using hv
     rw[this]; exact ha.atom hw
   all_goals (intros; rcases hg with rfl|rfl|rfl|rfl <;> simp_all)
 refine#[#[il #[h,?_] ok,bJ.tup h ?_],λs hs=>?_]
 . intros; rcases hg with rfl|rfl|rfl|rfl <;> simp_all
 . rw[e1.2.2.1];exact .cons (.str e1.2.2.2) (.cons (ha.has hw) .nil)
 . have hs:s∈rg.gx.toList++K12.strsOf rg.as:=hs;rw[e1.1,e1.2.1] at hs;exact kK (λv hv=>by cases Ik.mp hv; exact ha) s (by simpa using hs)
theorem FD {r:Addr} {x:Str} {a:V} (hw:∀w∈ws,K12.Nm w) (h:aF K H r [.str "copy",.str x,a]) (hx:x∈ws) (ha:dA ws a):dI K H ws ((RG.copy x a).rr r):=by
 refine#[#[il #[h,λx g p as e=>by cases e] #[λv hv=>?_,λ_ _ _ _ e=>(by cases e),#[λ_ _ _ e=>(by cases e),λ_ _ _ e=>(by cases e)],λ_ _ _ _ e=>(by cases e)],bJ.tup h (.cons (.str (by decide +kernel)) (.cons (.str (hw x hx).2) (.cons (ha.has hw) .nil)))],λs hs=>?_]
 . have hv:v∈[V.str x,a]:=hv;rcases Io.mp hv with rfl|hv
   . exact dA.atom hw (.inr #[x,hx,rfl])
   . cases Ik.mp hv; exact ha.atom hw
 . have hs:s∈[x]++K12.strsOf [a]:=hs;rcases Iv.mp hs with hs|hs
   . cases Ik.mp hs; exact hx
   . exact kK (λv hv=>by cases Ik.mp hv; exact ha) s hs
theorem rY {r p:Addr} {x g:Str} {as:List V} (hw:∀w∈ws,K12.Nm w) (h:aF K H r [.str "call",.str x,.str g,.ref p]) (hp:aF K H p as) (hx:x∈ws) (hg:K12.Nm g) (ha:∀v∈as,dA ws v) (hl:as.length<=10):dI K H ws ((RG.call x g p as).rr r):=by
 refine#[#[il #[h,λx g p as e=>by cases e; exact hp] #[λv hv=>?_,λ_ _ _ _ e=>(by cases e),#[λ_ _ _ e=>(by cases e),λ_ _ _ e=>(by cases e)],λ_ _ _ _ e=>(by cases e; exact#[hg.2,hl])],bJ.tup h (.cons (.str (by decide +kernel)) (.cons (.str (hw x hx).2) (.cons (.str hg.2) (.cons (bJ.tup (n:=1) hp (bp.of λv hv=>(ha v hv).has hw)) .nil))))],λs hs=>?_]
 . have hv:v∈[V.str x]++as:=hv;rcases Iv.mp hv with hv|hv
   . cases Ik.mp hv; exact dA.atom hw (.inr #[x,hx,rfl])
   . exact(ha v hv).atom hw
 . have hs:s∈[x]++K12.strsOf as:=hs;rcases Iv.mp hs with hs|hs
   . cases Ik.mp hs; exact hx
   . exact kK ha s hs
end
theorem Co {xs:List V} {a b:Option Int}:∀v∈ck xs a b,v∈xs:=λv hv=>by unfold ck at hv;exact List.mem_of_mem_drop (List.mem_of_mem_take hv)
theorem Ay {xs:List V} {a b:Option Int}:(ck xs a b).length<=xs.length:=by unfold ck;rw[JC,K7];omega
noncomputable def n9 (n:Nat):List Str:=List.replicate n "copy"
theorem Gf (n:Nat):K13.Good (n9 n) []:=by have:=rh K13.good_nil (x:="copy") (by decide +kernel) (by decide +kernel) (by decide +kernel) n;rw[Km] at this;exact this
theorem al {H:Hp}:∀{us:List V} {vw:List (Option Tr)} (i:Nat) {o:Option Tr} {v:V},Ps (aZ H) us vw->aZ H o v->Ps (aZ H) (us.set i v) (vw.set i o)
 | [],[],_,_,_,_,_=>trivial
 | u :: us,w :: vw,0,_,_,h,hv=>#[hv,h.2]
 | u :: us,w :: vw,i+1,_,_,h,hv=>#[h.1,al i h.2 hv]
theorem ka {n j:Nat} (h:j<n):cX n (j:Int)=some j:=by unfold cX;rw[Ig (by omega),Ig (by omega)];congr 1
theorem Bc {y:V}{i:Int} (h0:0<=i) (h1:i<2):∃v,bI [x,y] i=some v/\(v=x\/v=y):=by
 obtain rfl|rfl:i=0\/i=1:=by omega
 . exact#[x,rfl,.inl rfl]
 . exact#[y,rfl,.inr rfl]
theorem qc {α:Type} (n:Nat) (x:α):(List.replicate n [x]).flatten=List.replicate n x:=by
 induction n with
 | zero=>rfl
 | succ n ih=>rw[Js,Jr,ih]; rfl
theorem IG (n:Nat) (c:RR) (tail:List RR):(List.replicate n c++tail).map (λx=>V.ref x.w.r)=List.replicate n (V.ref c.w.r)++tail.map λx=>V.ref x.w.r:=by rw[J0,Jn]
theorem fV {cs:List Int} {j:Nat} (h:j<cs.length):∃c,bI (cs.map V.int) (j:Int)=some (.int c):=#[cs[j],c7 (by rw[Iu,Iw h]; rfl)]
theorem Ps.get {α:Type} {R:α->V->Prop} {us:List V} {ts:List α} {i:Nat} {x:α} (h:Ps R us ts) (e:ts[i]?=some x):∃u,us[i]?=some u/\R x u:=by obtain⟨u,t,a,b,c⟩:=Ps.at h (n:=i) (Ic.mp e).1;rw[e] at b;cases b;exact#[u,a,c]
noncomputable def dU (K:W.Frag) (H:Hp) (m:Mrk) (v:V):Prop:=∃p c w ws,v=.ref p/\H p=some (.tup [c,.ref w])/\cT K H m.ch c/\H w=some (.lst ws)/\Ps (dM H) ws m.vs
theorem dU.mono {K:W.Frag} {H H':Hp} {m:Mrk} {v:V} (e:aB H H') (h:dU K H m v):dU K H' m v:=let ⟨p,c,w,ws,h1,h2,h3,h4,h5⟩:=h; #[p,c,w,ws,h1,e _ _ h2,h3.mono e,e _ _ h4,Ps.imp (λ_ _ z=>z.mono e) h5]
theorem dU.a {K:W.Frag} {H:Hp} {m:Mrk} {v:V} (h:dU K H m v):gG K H m v:=let ⟨p,c,w,ws,h1,h2,h3,h4,h5⟩:=h; #[p,c,w,ws,h1,aF.of h2,h3,aJ.of h4,Ps.imp (λ_ _ z=>z.a) h5]
noncomputable def iS (K:W.Frag) (H G:Hp) (o v:V):Prop:=∃lo us l,o=.ref lo/\H lo=some (.lst us)/\v=.ref l/\G l=some (.lst us)
noncomputable def gQ (K:W.Frag) (H G:Hp) (o v:V):Prop:=∃po c w ws q w' vs,o=.ref po/\H po=some (.tup [c,.ref w])/\H w=some (.lst ws)/\v=.ref q/\G q=some (.tup [c,.ref w'])/\G w'=some (.lst vs)/\Ps (iS K H G) vs ws
section
variable {K:W.Frag} {H G G':Hp}
theorem iS.mono {o:V}(e:aB G G') (h:iS K H G o v):iS K H G' o v:=let ⟨a,b,c,d1,d2,d3,d4⟩:=h; #[a,b,c,d1,d2,d3,e _ _ d4]
theorem gQ.mono {o v:V} (e:aB G G') (h:gQ K H G o v):gQ K H G' o v:=let ⟨a,b,c,d,f,g,i,h1,h2,h3,h4,h5,h6,h7⟩:=h; #[a,b,c,d,f,g,i,h1,h2,h3,h4,e _ _ h5,e _ _ h6,Ps.imp (λ_ _ z=>z.mono e) h7]
theorem sw:∀{os vs:List V} {vws:List (List (Option Tr))},aB H G->Ps (dM H) os vws->Ps (iS K H G) vs os->Ps (gM K G) vs vws
 | [],[],[],_,_,_=>trivial
 | o :: os,v :: vs,vw :: vws,e,h1,h2=>by obtain⟨⟨lo,us,rfl,a1,a2⟩,h1⟩:=h1;obtain⟨⟨lo',us',l,eq,b1,rfl,b2⟩,h2⟩:=h2;cases eq;rw[a1] at b1;cases b1;exact#[#[l,_,rfl,aJ.of b2,Ps.imp (λ_ _ z=>aZ.mono z e) a2],sw e h1 h2]
 | [],_ :: _,_,_,_,h=>h.elim
 | _ :: _,[],_,_,_,h=>h.elim
 | [],[],_ :: _,_,h,_=>h.elim
 | _ :: _,_ :: _,[],_,h,_=>h.elim
theorem zp {m:Mrk} {o:V}(e:aB H G) (h1:dU K H m o) (h2:gQ K H G o v):gG K G m v:=by obtain⟨p,c,w,ws,rfl,a1,a2,a3,a4⟩:=h1;obtain⟨po,c',w1,ws',q,w',vs,eq,b1,b2,rfl,b3,b4,b5⟩:=h2;cases eq;rw[a1] at b1;cases b1;rw[a3] at b2;cases b2;exact#[q,c,w',vs,rfl,aF.of b3,a2.mono e,aJ.of b4,sw e a4 b5]
theorem Dq {vw:List (Option Tr)} (ok:bx vw) (h:Ps (aZ H) us vw):bp K H 10 us:=#[vw.map oD,λd hd=>by obtain⟨o,ho,rfl⟩:=J3.mp hd; exact uB (ok o ho),px h]
theorem bp.mono {n:Nat} {xs:List V} (e:aB H G) (h:bp K H n xs):bp K G n xs:=let ⟨ds,l,z⟩:=h; #[ds,l,bK.mono e ds xs z]
theorem rZ:∀{os vs:List V} {vws:List (List (Option Tr))},aB H G->(∀vw∈vws,bx vw)->Ps (dM H) os vws->Ps (iS K H G) vs os->dn K G 11 vs os
 | [],[],[],_,_,_,_=>.nil
 | o :: os,v :: vs,vw :: vws,e,ok,h1,h2=>by obtain⟨⟨lo,us,rfl,a1,a2⟩,h1⟩:=h1;obtain⟨⟨lo',us',l,eq,b1,rfl,b2⟩,h2⟩:=h2;cases eq;rw[a1] at b1;cases b1;exact .cons (ca.lst (aJ.of b2) (aJ.of (e _ _ a1)) (dn.of (bp.mono e (Dq (ok vw Ii) a2)))) (rZ e (λvw h=>ok vw (Im _ h)) h1 h2)
 | [],_ :: _,_,_,_,_,h=>h.elim
 | _ :: _,[],_,_,_,_,h=>h.elim
 | [],[],_ :: _,_,_,h,_=>h.elim
 | _ :: _,_ :: _,[],_,_,h,_=>h.elim
theorem AS {m:Mrk} {o:V}(e:aB H G) (ok:∀vw∈m.vs,bx vw) (sn:∀c∈m.ch,PyData.strOk c.1=true) (h1:dU K H m o) (h2:gQ K H G o v):ca K G 13 v o:=by obtain⟨p,c,w,ws,rfl,a1,a2,a3,a4⟩:=h1;obtain⟨po,c',w1,ws',q,w',vs,eq,b1,b2,rfl,b3,b4,b5⟩:=h2;cases eq;rw[a1] at b1;cases b1;rw[a3] at b2;cases b2;exact ca.tup (aF.of b3) (aF.of (e _ _ a1)) (.cons (ca.of (n:=12) #[_,(ox sn).mono (by decide),(a2.mono e).dat]) (.cons (ca.lst (aJ.of b4) (aJ.of (e _ _ a3)) (rZ e ok a4 b5)) .nil))
end
noncomputable def Ak.mv (A:Ak) (mvs:List V):Ak:={ A with mvs:=mvs }
theorem Ps.of_at {α:Type} {R:α->V->Prop}:∀{vs:List V} {os:List α},vs.length=os.length->(∀(i:Nat) v o,vs[i]?=some v->os[i]?=some o->R o v)->Ps R vs os
 | [],[],_,_=>trivial
 | v :: vs,o :: os,h,f=>#[f 0 v o rfl rfl,Ps.of_at (by simpa using h) λi v o a b=>f (i+1) v o (by simpa using a) (by simpa using b)]
 | [],_ :: _,h,_=>by cases h
 | _ :: _,[],h,_=>by cases h
theorem w5 {K:W.Frag} {H G:Hp}:∀{os vs:List V} {Ms:List (List Lev)},aB H G->Ps (λL v=>dU K H (di L) v) os Ms->Ps (gQ K H G) vs os->Ps (λL v=>gG K G (di L) v) vs Ms
 | [],[],[],_,_,_=>trivial
 | o :: os,v :: vs,L :: Ms,e,h1,h2=>#[zp e h1.1 h2.1,w5 e h1.2 h2.2]
 | [],_ :: _,_,_,_,h=>h.elim
 | _ :: _,[],_,_,_,h=>h.elim
 | [],[],_ :: _,_,h,_=>h.elim
 | _ :: _,_ :: _,[],_,h,_=>h.elim
theorem wZ {K:W.Frag} {H G:Hp}:∀{os vs:List V} {Ms:List (List Lev)},aB H G->(∀L∈Ms,∀e∈L,bx e.vw/\PyData.strOk e.F.name=true)->Ps (λL v=>dU K H (di L) v) os Ms->Ps (gQ K H G) vs os->dn K G 13 vs os
 | [],[],[],_,_,_,_=>.nil
 | o :: os,v :: vs,L :: Ms,e,ok,h1,h2=>.cons (AS e (λvw h=>by obtain⟨l,hl,rfl⟩:=J3.mp h; exact(ok L Ii l hl).1) (λc h=>by obtain⟨l,hl,rfl⟩:=J3.mp h; exact(ok L Ii l hl).2) h1.1 h2.1) (wZ e (λL h=>ok L (Im _ h)) h1.2 h2.2)
 | [],_ :: _,_,_,_,_,h=>h.elim
 | _ :: _,[],_,_,_,_,h=>h.elim
 | [],[],_ :: _,_,_,h,_=>h.elim
 | _ :: _,_ :: _,[],_,_,h,_=>h.elim
end St
namespace St
open PySem L2
noncomputable def gF (H:Hp):List (Addr×HO)->Prop
 | []=>True
 | x :: L=>H x.1=some x.2/\gF H L
noncomputable def Al (H0 H:Hp) (L:List (Addr×HO)):Prop:=aB H0 H/\gF H L
section
variable {H0 H H':Hp} {L:List (Addr×HO)} {q:Addr} {o:HO}
theorem gF.mono (s:aB H H'):∀{L:List (Addr×HO)},gF H L->gF H' L
 | [],_=>trivial
 | _ :: _,h=>#[s _ _ h.1,gF.mono s h.2]
theorem Al.nil:Al H H []:=#[aB.refl _,trivial]
theorem Al.mono (h:Al H0 H L) (s:aB H H'):Al H0 H' L:=#[h.1.trans s,h.2.mono s]
theorem Al.re (h:Al H0 H L):Al H H L:=#[aB.refl _,h.2]
theorem Al.add (h:Al H0 H L) (e:H q=some o):Al H0 H ((q,o) :: L):=#[h.1,e,h.2]
theorem Al.new (h:Al H0 H L) (k:H q=none):Al H0 (upd H q o) ((q,o) :: L):=(h.mono (aB.new k)).add aI
end
end St
namespace St
open PySem L2 Gx Rk2 Bg Fl Wk K41
noncomputable def bf (s m:Addr) (H:Hp):Hp:=ers m (ers s H)
variable {o:HO}
section
variable {s m:Addr} {H H':Hp}
theorem pG:aB (bf s m H) H:=dq.trans dq
theorem eM (e:aB H H'):aB (bf s m H) (bf s m H'):=aB.ers (aB.ers e)
theorem jL :bf s m (upd H s o)=bf s m H:=by unfold bf; rw[gt]
theorem jM :bf s m (upd H m o)=bf s m H:=by
 funext b;unfold bf ers;by_cases h:b=m
 . rw[Ig h,Ig h]
 . rw[IW h,IW h];by_cases h':b=s
   . rw[Ig h',Ig h']
   . rw[IW h',IW h',aw h]
theorem si {b:Addr} (h1:b≠s) (h2:b≠m):bf s m H b=H b:=by unfold bf; rw[cC h2,cC h1]
theorem D8 {xs ys:List V} (hs:H s=some (.lst xs)) (hm:H m=some (.lst ys)) {o:Option Tr} {v:V} (h:aZ H o v):aZ (bf s m H) o v:=by
 have h1:=nF hs h;unfold bf;by_cases e:m=s
 . subst e;have:ers m (ers m H)=ers m H:=by funext b; unfold ers; split <;> rfl
   rw[this]; exact h1
 . exact nF (by rw[cC e]; exact hm) h1
end
theorem A6 (bL:List Lev) (F:F2.Fd) (kn:List (Option Tr)):fe (bL.map Lev.F++[F]) (bL.map Lev.vw++[kn])=bL.map Lev.lv++[lk (F2.nms F) kn]:=by
 unfold fe;rw[List.zip_append (by rw[IX,IX]),J0];congr 1
 induction bL with
 | nil=>rfl
 | cons e bL ih=>rw[Ix,Ix,Ix,List.zip_cons_cons,Ix,ih]; rfl
theorem C1 {fns:List F2.Fd} {bL:List Lev} {F:F2.Fd} {kn:List (Option Tr)} (hb:∀e∈bL,LevOk fns e) (hF:F∈fns) (hk:kn.length=(F2.nms F).length):FK fns (bL.map Lev.F++[F]) (bL.map Lev.vw++[kn]):=by
 refine#[λG hG=>?_,by simp,λp hp=>?_]
 . rcases Iv.mp hG with h|h
   . obtain⟨e,he,rfl⟩:=J3.mp h;exact(hb e he).m
   . cases Ik.mp h; exact hF
 . rw[List.zip_append (by rw[IX,IX])] at hp;rcases Iv.mp hp with h|h
   . have key:∀{bL:List Lev},p∈(bL.map Lev.F).zip (bL.map Lev.vw)->∃e∈bL,p=(e.F,e.vw):=by
       intro bL
       induction bL with
       | nil=>intro h; cases h
       | cons e bL ih =>
         intro h;rcases Io.mp h with h|h
         . exact#[e,Ii,h]
         . obtain⟨e',h1,h2⟩:=ih h;exact#[e',Im _ h1,h2]
     obtain⟨e,he,rfl⟩:=key h;exact(hb e he).l
   . cases Ik.mp h; exact hk
theorem mZ {α:Type} {R:α->V->Prop} {x:α} {v:V} (h:R x v):∀m,Ps R (List.replicate m v) (List.replicate m x)
 | 0=>trivial
 | m+1=>#[h,mZ h m]
theorem Ps.set {α:Type} {R:α->V->Prop}:∀{us:List V} {ts:List α} (i:Nat) {x:α} {v:V},Ps R us ts->R x v->Ps R (us.set i v) (ts.set i x)
 | [],[],_,_,_,_,_=>trivial
 | u :: us,w :: vw,0,_,_,h,hv=>#[hv,h.2]
 | u :: us,w :: vw,i+1,_,_,h,hv=>#[h.1,Ps.set i h.2 hv]
noncomputable def dv (K:W.Frag) (H:Hp) (kd:Str) (v:V):Prop:=i4 K H kd v/\bJ K H 13 v
theorem dv.mono {K:W.Frag} {H H':Hp} {kd:Str} {v:V} (e:aB H H') (h:dv K H kd v):dv K H' kd v:=#[h.1.mono e,h.2.mono e]
theorem AH {fns:List F2.Fd} {F1 Fo:F2.Fd} {n r m:Nat} {Vs:List (List (Option Tr))} (h1:F1∈fns) (ho:Fo∈fns) (m1:m<=1) (hr:r<F1.rs.length) (hro:0<Fo.rs.length) (nm1:(F2.nms F1).length=n) (nmo:(F2.nms Fo).length=2) (hn:n<=1000) (hl:Vs.map List.length=List.replicate m 2++[n]) (hv:∀vw∈Vs,bx vw):∃L:List Lev,L.map Lev.fr=List.replicate m (Fo.name,0)++[(F1.name,r)]/\L.map Lev.vw=Vs/\L.length<=11/\∀e∈L,LevOk fns e/\bx e.vw:=by
 obtain rfl|rfl:m=0\/m=1:=by omega
 . match Vs,hl with
   | [v],hl =>
     have l1:v.length=n:=by simpa using hl
     refine#[[#[F1,r,v]],rfl,rfl,by simp,λe he=>?_];cases Ik.mp he;exact#[#[h1,hr,l1.trans nm1.symm,by rw[nm1]; exact hn],hv v Ii]
 . have h2:Vs.length=2:=by simpa using Iq List.length hl
   obtain⟨u,v,rfl⟩:∃u v,Vs=[u,v]:=by match Vs,h2 with | [u,v],_=>exact⟨u,v,rfl⟩
   . have l1:u.length=2/\v.length=n:=by simpa using hl
     refine#[[#[Fo,0,u],#[F1,r,v]],rfl,rfl,by simp,λe he=>?_];simp only[Io,JK,or_false] at he;rcases he with rfl|rfl
     . exact#[#[ho,hro,l1.1.trans nmo.symm,by rw[nmo]; decide],hv u Ii]
     . exact#[#[h1,hr,l1.2.trans nm1.symm,by rw[nm1]; exact hn],hv v (Im _ Ii)]
theorem sN {K:W.Frag} {H:Hp}:∀{xs:List V} {ps:List (Int×Tr)},(∀b∈ps,bZ b.2)->Ps (fh K H) xs ps->bp K H 11 xs
 | [],[],_,_=>.nil
 | x :: xs,b :: ps,ok,h=>by obtain⟨⟨p,y,rfl,h1,h2⟩,h3⟩:=h;exact .cons (bJ.tup h1 (.cons .int (.cons #[bS b.2,(ok b Ii).lay,dD h2] .nil))) (sN (λc hc=>ok c (Im _ hc)) h3)
variable {H:Hp}
theorem dX {l q:Addr} (h:H l=some o) (n:H q=none):q≠l:=λz=>by rw[z,h] at n; cases n
theorem Hc {a b:Addr} :ers a (ers b H)=ers b (ers a H):=by
 funext x;unfold ers;by_cases h1:x=a
 . rw[Ig h1]; split <;> rfl
 . rw[IW h1,IW h1]
theorem kQ {a b q:Addr} (n:q≠a/\q≠b) (h:H q=some o):ers a (ers b H) q=some o:=by rw[cC n.1,cC n.2]; exact h
theorem sf {K:W.Frag} {H:Hp}:∀{svs:List V} {ks:List Str},Ps (dv K H) svs ks->bp K H 13 svs
 | [],[],_=>.nil
 | v :: svs,k :: ks,h=>.cons h.1.2 (sf h.2)
theorem wo {K:W.Frag} {u w y x:Addr} (h1:H u=some (.tup [.ref w,.ref y])) (h2:H w=some (.lst [])) (h3:H y=some (.tup [.str "back",.ref x])) (h4:H x=some (.tup [.str "num",.int 0])):dv K H "back" (.ref u) :=
 #[#[u,_,y,_,rfl,aF.of h1,aF.of h3],bJ.tup (n:=12) (aF.of h1) (.cons (bJ.lst (n:=11) (aJ.of h2) .nil) (.cons (bJ.tup (n:=11) (aF.of h3) (.cons (.str (by decide +kernel)) (.cons (bJ.tup (n:=10) (aF.of h4) (.cons (.str (by decide +kernel)) (.cons .int .nil))) .nil))) .nil))]
theorem GF {K:W.Frag} {u w y:Addr} (h1:H u=some (.tup [.ref w,.ref y])) (h2:H w=some (.lst [])) (h3:H y=some (.tup [.str "go",.int 0])):dv K H "go" (.ref u) :=
 #[#[u,_,y,_,rfl,aF.of h1,aF.of h3],bJ.tup (n:=12) (aF.of h1) (.cons (bJ.lst (n:=11) (aJ.of h2) .nil) (.cons (bJ.tup (n:=11) (aF.of h3) (.cons (.str (by decide +kernel)) (.cons .int .nil))) .nil))]
end St
namespace Br
open PySem L2 Gx Rk2 Bg Fl Wk St
theorem oO:∀{t:Tr},(∀k,(true,k)∈lvs t->0<=k/\k<128)->cM t
 | .box k,h=>λz=>by have:=h k (Ik.mpr rfl); omega
 | .num _,_=>trivial
 | .op _ l r,h=>#[oO λk hk=>h k (Iv.mpr (.inl hk)),oO λk hk=>h k (Iv.mpr (.inr hk))]
theorem j4 {t:Tr} (h:TOk t):cM t:=oO h.2.2.2
noncomputable def dR (o:Option Tr):Prop:=∀t,o=some t->cM t
noncomputable def KnO (o:Option Tr):Prop:=∀t,o=some t->bZ t/\(t=.box (-1)\/cM t)
noncomputable def dH (vw:List (Option Tr)):Prop:=∀o∈vw,KnO o
theorem dH.ok {vw:List (Option Tr)} (h:dH vw):bx vw:=λo ho t e=>(h o ho t e).1
theorem dH.app {a b:List (Option Tr)} (h:dH a) (h':dH b):dH (a++b):=λo ho=>(Iv.mp ho).elim (h o) (h' o)
theorem dH.of {vw:List (Option Tr)} (h:bx vw) (n:cQ vw):dH vw:=λo ho t e=>#[h o ho t e,.inr (n t (e ▸ ho))]
noncomputable def nh (t:Tr):Prop:=bZ t/\(t=.box (-1)\/cM t)
theorem dR.no:dR none:=λt e=>by cases e
theorem dR.of {t:Tr} (h:cM t):dR (some t):=λu e=>by cases e; exact h
end Br
namespace Br
open PySem L2 Gx Rk2 Bg Fl Wk St K41
noncomputable def fP (ws fw:List Str):RG->Prop
 | .get x a w=>x∈ws/\fG ws a/\w∈fw
 | .new x=>x∈ws
 | .put a w b=>fG ws a/\w∈fw/\fG ws b
 | .out a=>fG ws a
 | _=>False
variable {ws fw:List Str} {rg:RG}
theorem fP.row (h:fP ws fw rg):jz rg:=by cases rg <;> first|trivial|exact h.elim
noncomputable def Bv (bv:V) (fb:Option Int):Prop:=bv=.non/\fb=none\/∃i,bv=.int i/\fb=some i/\¬ i=-1
structure Tr4 (H:Hp) (t:Tr) (v:V):Prop where
 r:RAt H t v
 o:bZ t
 n:cM t
theorem Tr4.mono {H H':Hp} {t:Tr} {v:V} (e:aB H H') (h:Tr4 H t v):Tr4 H' t v:=#[h.r.mono e,h.o,h.n]
inductive Act4 (H:Hp) (on:Nat):List V->Option Int->Prop
 | go:Act4 H on [.str "go",.int (on:Int)] none
 | out {t:Tr} {v:V}:Tr4 H t v->Act4 H on [.str "out",v,.int (on:Int)] none
 | new {bv:V} {fb:Option Int}:Bv bv fb->Act4 H on [.str "new",bv,.int (on:Int)] fb
 | get {t:Tr} {v bv:V} {w:Str} {fb:Option Int}:Tr4 H t v->K12.Nm w->Bv bv fb->Act4 H on [.str "get",v,.str w,bv,.int (on:Int)] fb
 | put {t t':Tr} {v u:V} {w:Str}:Tr4 H t v->K12.Nm w->Tr4 H t' u->Act4 H on [.str "put",v,.str w,u,.int (on:Int)] none
theorem Act4.mono {H H':Hp} {on:Nat} {as:List V} {fb:Option Int} (e:aB H H') (h:Act4 H on as fb):Act4 H' on as fb:=by
 cases h with
 | go=>exact .go
 | out a=>exact .out (a.mono e)
 | new a=>exact .new a
 | get a b c=>exact .get (a.mono e) b c
 | put a b c=>exact .put (a.mono e) b (c.mono e)
noncomputable def cc (ws:List Str) (vw:List (Option Tr)) (rg:RG) (kd:Str):List (Option Tr):=match rg with
 | .get x _ _=>if kd="go" then vw.set (ws.idxOf x) none else if kd="get" then vw.set (ws.idxOf x) (some (.box (-1))) else vw
 | .new x=>if kd="new" then vw.set (ws.idxOf x) (some (.box (-1))) else vw
 | _=>vw
theorem jV {vw:List (Option Tr)} {a:V} (h:fG ws a) (hl:vw.length=ws.length) (hv:eY vw) (hn:cQ vw):∃o,cU (lk ws vw) a=some o/\(∀u,o=some u->Tr9 u)/\dR o:=by
 rcases h with⟨z,rfl,h0,h1⟩|⟨n,hm,rfl⟩
 . exact#[_,rfl,(λu e=>by cases e; exact .num h0 h1),.of trivial]
 . obtain⟨o,h1,h2⟩:=mS hm hl;exact#[o,h1,(λu e=>hv u (e ▸ h2)),λu e=>hn u (e ▸ h2)]
noncomputable def jO (H:Hp):Ce->V->Prop
 | .s x,v=>v=.str x
 | .p (some t),v=>Tr4 H t v
 | .p none,_=>False
theorem jO.mono {H H':Hp} (e:aB H H'):∀{c:Ce} {v:V},jO H c v->jO H' c v
 | .s _,_,h=>h
 | .p (some _),_,h=>Tr4.mono e h
inductive Fit4 (H:Hp) (rg:RG) (ds:List Ce) (as:List V):Bool->Prop
 | go {x w:Str} {a:V} {r:List V}:rg=.get x a w->as=.str "go" :: r->Fit4 H rg ds as true
 | gf {r:List V}:(∀x a w,rg≠.get x a w)->as=.str "go" :: r->Fit4 H rg ds as false
 | ne {kd s':Str} {r:List V} {ds':List Ce}:as=.str kd :: r->¬ kd="go"->ds=.s s' :: ds'->¬ kd=s'->Fit4 H rg ds as false
 | eq {kd:Str} {vs mid:List V} {k:Nat} {cs:List Ce}:as=.str kd :: (vs++mid++[.int (k:Int)])->¬ kd="go"->Ps (jO H) (.str kd :: vs) cs->cs.length=ds.length->kd=rg.kind->(∀c∈cs,dG c)->Fit4 H rg ds as (cz cs ds)
theorem Fit4.mono {H H':Hp} {rg:RG} {ds:List Ce} {as:List V} {b:Bool} (e:aB H H') (h:Fit4 H rg ds as b):Fit4 H' rg ds as b:=by
 cases h with
 | go a b=>exact .go a b
 | gf a b=>exact .gf a b
 | ne a b c d=>exact .ne a b c d
 | eq a b c d f g=>exact .eq a b (Ps.imp (λ_ _ z=>jO.mono e z) c) d f g
variable {r:Addr}
section
variable {K:W.Frag} {H:Hp} {ws:List Str}
theorem GL {x w:Str} {a:V} (hw:∀w∈ws,K12.Nm w) (h:aF K H r [.str "get",.str x,a,.str w]) (hx:x∈ws) (hf:K12.Nm w) (ha:dA ws a):dI K H ws ((RG.get x a w).rr r):=by
 refine#[#[il #[h,λx g p as e=>by cases e] #[λv hv=>?_,λ_ _ _ _ e=>(by cases e),#[λ_ _ _ e=>(by cases e; exact hf.2),λ_ _ _ e=>(by cases e)],λ_ _ _ _ e=>(by cases e)],bJ.tup h (.cons (.str (by decide +kernel)) (.cons (.str (hw x hx).2) (.cons (ha.has hw) (.cons (.str hf.2) .nil))))],λs hs=>?_]
 . have hv:v∈[V.str x,a]:=hv;rcases Io.mp hv with rfl|hv
   . exact dA.atom hw (.inr #[x,hx,rfl])
   . cases Ik.mp hv; exact ha.atom hw
 . have hs:s∈[x]++K12.strsOf [a]:=hs;rcases Iv.mp hs with hs|hs
   . cases Ik.mp hs; exact hx
   . exact kK (λv hv=>by cases Ik.mp hv; exact ha) s hs
theorem Az {x:Str} (hw:∀w∈ws,K12.Nm w) (h:aF K H r [.str "new",.str x]) (hx:x∈ws):dI K H ws ((RG.new x).rr r):=by
 refine#[#[il #[h,λx g p as e=>by cases e] #[λv hv=>?_,λ_ _ _ _ e=>(by cases e),#[λ_ _ _ e=>(by cases e),λ_ _ _ e=>(by cases e)],λ_ _ _ _ e=>(by cases e)],bJ.tup h (.cons (.str (by decide +kernel)) (.cons (.str (hw x hx).2) .nil))],λs hs=>?_]
 . have hv:v∈[V.str x]:=hv;cases Ik.mp hv; exact dA.atom hw (.inr #[x,hx,rfl])
 . have hs:s∈[x]++K12.strsOf []:=hs;rcases Iv.mp hs with hs|hs
   . cases Ik.mp hs; exact hx
   . cases hs
theorem FC {w:Str} {a b:V} (hw:∀w∈ws,K12.Nm w) (h:aF K H r [.str "put",a,.str w,b]) (hf:K12.Nm w) (ha:dA ws a) (hb:dA ws b):dI K H ws ((RG.put a w b).rr r):=by
 have two:∀v∈[a,b],dA ws v:=λv hv=>by
   rcases Io.mp hv with rfl|hv
   . exact ha
   . cases Ik.mp hv; exact hb
 refine#[#[il #[h,λx g p as e=>by cases e] #[λv hv=>(two v hv).atom hw,λ_ _ _ _ e=>(by cases e),#[λ_ _ _ e=>(by cases e),λ_ _ _ e=>(by cases e; exact hf.2)],λ_ _ _ _ e=>(by cases e)],bJ.tup h (.cons (.str (by decide +kernel)) (.cons (ha.has hw) (.cons (.str hf.2) (.cons (hb.has hw) .nil))))],λs hs=>kK two s hs]
end
variable {H:Hp} {on:Nat} {fb:Option Int}
theorem Act4.kd {as:List V} (h:Act4 H on as fb):∃kd r,as=.str kd :: r/\(kd="go"->r=[.int (on:Int)]/\fb=none)/\(kd="get"->∃t v w bv,r=[v,.str w,bv,.int (on:Int)]/\Tr4 H t v/\K12.Nm w/\Bv bv fb)/\(kd="new"->∃bv,r=[bv,.int (on:Int)]/\Bv bv fb)/\(kd="out"->∃t v,r=[v,.int (on:Int)]/\Tr4 H t v)/\(kd="put"->∃t t' v u w,r=[v,.str w,u,.int (on:Int)]/\Tr4 H t v/\K12.Nm w/\Tr4 H t' u):=by
 cases h with
 | go=>exact#[_,_,rfl,λ_=>#[rfl,rfl],λz=>absurd z (by decide +kernel),λz=>absurd z (by decide +kernel),λz=>absurd z (by decide +kernel),λz=>absurd z (by decide +kernel)]
 | out a=>exact#[_,_,rfl,λz=>absurd z (by decide +kernel),λz=>absurd z (by decide +kernel),λz=>absurd z (by decide +kernel),λ_=>#[_,_,rfl,a],λz=>absurd z (by decide +kernel)]
 | new a=>exact#[_,_,rfl,λz=>absurd z (by decide +kernel),λz=>absurd z (by decide +kernel),λ_=>#[_,rfl,a],λz=>absurd z (by decide +kernel),λz=>absurd z (by decide +kernel)]
 | get a b c=>exact#[_,_,rfl,λz=>absurd z (by decide +kernel),λ_=>#[_,_,_,_,rfl,a,b,c],λz=>absurd z (by decide +kernel),λz=>absurd z (by decide +kernel),λz=>absurd z (by decide +kernel)]
 | put a b c=>exact#[_,_,rfl,λz=>absurd z (by decide +kernel),λz=>absurd z (by decide +kernel),λz=>absurd z (by decide +kernel),λz=>absurd z (by decide +kernel),λ_=>#[_,_,_,_,_,rfl,a,b,c]]
section
variable {K:W.Frag} {H:Hp} {Q:VK} {t u:Tr} {x y:V}
theorem vW (ht:bZ t) (hu:bZ u) (hx:RAt H t x) (hy:RAt H u y) (q:Q (.bl (decide (t=u))) H):j1 K x y H Q:=#[bS t,bS u,dD hx,dD hy,ht.lay.shaped (by decide),hu.lay.shaped (by decide),by rw[jg]; exact q]
theorem vb (ht:bZ t) (hu:bZ u) (hx:RAt H t x) (hy:RAt H u y) (q:Q (.bl (!decide (t=u))) H):gL K x y H Q:=#[bS t,bS u,dD hx,dD hy,ht.lay.shaped (by decide),hu.lay.shaped (by decide),by rw[jg]; exact q]
end
theorem HE (a b:Str):PyData.eqv (cG (.s a)) (cG (.s b))=decide (a=b):=by show PyData.eqv (.str a) (.str b)=_; unfold PyData.eqv; rfl
theorem dZ (a b:Str) (c d:List Ce):cz (.s a :: c) (.s b :: d)=(decide (a=b)&&cz c d):=by show(PyData.eqv (cG (.s a)) (cG (.s b))&&cz c d)=_;rw[HE]
theorem gc (t u:Tr) (c d:List Ce):cz (.p (some t) :: c) (.p (some u) :: d)=(decide (t=u)&&cz c d):=by show(PyData.eqv (cG (.p (some t))) (cG (.p (some u)))&&cz c d)=_;rw[show PyData.eqv (cG (.p (some t))) (cG (.p (some u)))=_ from lB t u]
theorem lL (t:Tr) (c d:List Ce):cz (.p (some t) :: c) (.p none :: d)=false:=by show(PyData.eqv (cG (.p (some t))) (cG (.p none))&&cz c d)=_;rw[show PyData.eqv (cG (.p (some t))) (cG (.p none))=_ from wR t];rfl
theorem nY:cz [] []=true:=rfl
theorem gr:∀c∈([]:List Ce),dG c:=λc h=>by cases h
theorem i' {c:Ce} {cs:List Ce} (h:dG c) (hs:∀c∈cs,dG c):∀d∈c :: cs,dG d:=λd hd=>(Io.mp hd).elim (λe=>e ▸ h) (hs d)
theorem fA {x:Str} {cs:List Ce} (h:PyData.strOk x=true) (hs:∀c∈cs,dG c):∀d∈Ce.s x :: cs,dG d:=i' (c:=.s x) h hs
theorem lF {t:Tr} {cs:List Ce} (h:bZ t) (hs:∀c∈cs,dG c):∀d∈Ce.p (some t) :: cs,dG d:=i' (c:=.p (some t)) (d6.of h) hs
theorem tL {vw:List (Option Tr)} {ds:List Ce} (ok:fP ws fw rg) (hf:∀w∈fw,K12.Nm w) (hl:vw.length=ws.length) (hv:eY vw) (h:hJ (lk ws vw) rg=some ds):(∀c∈ds,dG c)/\∃ds',ds=.s rg.kind :: ds':=by
 cases rg with
 | out a =>
   obtain⟨o,ho,k9⟩:=hX ok hl hv;have h:(cU (lk ws vw) a).map (λo=>[Ce.s "out",.p o])=some ds:=h;rw[ho] at h; cases h;exact#[fA (by decide +kernel) (i' (λt e=>(k9 t e).ok) gr),_,rfl]
 | get x a w =>
   obtain⟨o,ho,k9⟩:=hX ok.2.1 hl hv;have h:(cU (lk ws vw) a).map (λo=>[Ce.s "get",.p o,.s w])=some ds:=h;rw[ho] at h; cases h;exact#[fA (by decide +kernel) (i' (λt e=>(k9 t e).ok) (fA (hf w ok.2.2).2 gr)),_,rfl]
 | put a w b =>
   obtain⟨o,ho,k9⟩:=hX ok.1 hl hv;obtain⟨o',ho',k9'⟩:=hX ok.2.2 hl hv;have h:((cU (lk ws vw) a).bind λo=>(cU (lk ws vw) b).map λo'=>[Ce.s "put",.p o,.s w,.p o'])=some ds:=h;rw[ho,ho'] at h; cases h;exact#[fA (by decide +kernel) (i' (λt e=>(k9 t e).ok) (fA (hf w ok.2.1).2 (i' (λt e=>(k9' t e).ok) gr))),_,rfl]
 | new x =>
   cases h;exact#[fA (by decide +kernel) gr,_,rfl]
 | _=>exact ok.elim
theorem CP {vw:List (Option Tr)} (ok:fP ws fw rg) (hl:vw.length=ws.length) (hv:eY vw):∃ds,hJ (lk ws vw) rg=some ds:=by
 cases rg with
 | out a =>
   obtain⟨o,ho,_⟩:=hX ok hl hv;exact#[_,show(cU (lk ws vw) a).map _=_ by rw[ho]; rfl]
 | get x a w =>
   obtain⟨o,ho,_⟩:=hX ok.2.1 hl hv;exact#[_,show(cU (lk ws vw) a).map _=_ by rw[ho]; rfl]
 | put a w b =>
   obtain⟨o,ho,_⟩:=hX ok.1 hl hv;obtain⟨o',ho',_⟩:=hX ok.2.2 hl hv;exact#[_,show((cU (lk ws vw) a).bind _)=_ by rw[ho]; show(cU (lk ws vw) b).map _=_; rw[ho']; rfl]
 | new x=>exact#[_,rfl]
 | _=>exact ok.elim
theorem C0 {K:W.Frag} {ab:Addr} :∀{c:Ce} {v:V},jO H c v->fU K ab H c v
 | .s _,_,h=>h
 | .p (some _),_,h=>RB.of h.n h.r
theorem oT:bZ (.box (-1)):=#[λv hv=>absurd (Ik.mp hv) (λz=>by cases z),trivial,by show 0<10; decide]
theorem Gp (ws:List Str) (vw:List (Option Tr)) (x w:Str) (a:V):cc ws vw (.get x a w) "get"=vw.set (ws.idxOf x) (some (.box (-1))):=by show(if("get":Str)="go" then vw.set (ws.idxOf x) none else if("get":Str)="get" then vw.set (ws.idxOf x) (some (.box (-1))) else vw)=_;rw[IW (by decide +kernel),Ig rfl]
theorem ow (ws:List Str) (vw:List (Option Tr)) (rg:RG) (kd:Str):(cc ws vw rg kd).length=vw.length:=by
 unfold cc;split
 . split
   . exact JZ
   . split
     . exact JZ
     . rfl
 . split
   . exact JZ
   . rfl
 . rfl
theorem ve {vw:List (Option Tr)} {kd:Str} (h:eY vw) (n:cQ vw):dH (cc ws vw rg kd):=by
 have h0:dH vw:=.of h.ok n;have h1:∀i,dH (vw.set i none):=λi o ho=>(pe ho).elim (λe=>by rw[e]; intro t z; cases z) (h0 o);have h2:∀i,dH (vw.set i (some (.box (-1)))):=λi o ho=>(pe ho).elim (λe=>by rw[e]; intro t z; cases z; exact#[oT,.inl rfl]) (h0 o);unfold cc;split
 . split
   . exact h1 _
   . split
     . exact h2 _
     . exact h0
 . split
   . exact h2 _
   . exact h0
 . exact h0
theorem rX {K:W.Frag} {n:Nat}{as:List V} (hn:10<=n) (h:Act4 H on as fb):bp K H (n+1) as:=by
 have tr:∀{t v},Tr4 H t v->bJ K H (n+1) v:=λ{t v} a=>#[bS t,a.o.lay.mono (by omega),dD a.r]
 have bv:∀{bv fb},Bv bv fb->bJ K H (n+1) bv:=λ{bv fb} a=>by
   rcases a with⟨rfl,_⟩|⟨i,rfl,_⟩
   . exact .non
   . exact .int
 cases h with
 | go=>exact .cons (.str (by decide +kernel)) (.cons .int .nil)
 | out a=>exact .cons (.str (by decide +kernel)) (.cons (tr a) (.cons .int .nil))
 | new a=>exact .cons (.str (by decide +kernel)) (.cons (bv a) (.cons .int .nil))
 | get a b c=>exact .cons (.str (by decide +kernel)) (.cons (tr a) (.cons (.str b.2) (.cons (bv c) (.cons .int .nil))))
 | put a b c=>exact .cons (.str (by decide +kernel)) (.cons (tr a) (.cons (.str b.2) (.cons (tr c) (.cons .int .nil))))
theorem sV {kd:Str} {r:List V} (h:Act4 H on (.str kd :: r) fb):¬ kd="wait":=by generalize e:V.str kd :: r=as at h;cases h <;> (rw[V.str.inj (List.cons.inj e).1]; decide +kernel)
theorem CC {as:List V} (h:Act4 H on as fb):jv as fb:=by
 cases h with
 | go=>exact#[_,_,rfl,.inl #[by decide +kernel,rfl]]
 | out a=>exact#[_,_,rfl,.inl #[by decide +kernel,rfl]]
 | new a=>exact#[_,_,rfl,.inr (.inr #[rfl,_,_,rfl,a.imp_right λ⟨i,x,y,_⟩=>#[i,x,y]])]
 | get a b c=>exact#[_,_,rfl,.inr (.inl #[rfl,_,_,_,_,rfl,c.imp_right λ⟨i,x,y,_⟩=>#[i,x,y]])]
 | put a b c=>exact#[_,_,rfl,.inl #[by decide +kernel,rfl]]
theorem sL {A:Ak} (n:Nat):(A.at n).map (·.1)=(A.L0.map Lev.F++[A.e.F]).map (·.name):=by unfold Ak.at;rw[J0,J0,Jc,Jc];rfl
structure Db4 (H:Hp) (A:Ak) (ws fw:List Str) (rg:RG) (on:Nat) (kd:Str) (rest:List V) (fb:Option Int) (Kn:List (List (Option Tr))):Prop where
 nd:(A.fns.map (·.name)).Nodup
 sn:∀F∈A.fns,PyData.strOk F.name=true
 m:A.e.F∈A.fns
 b:∀e∈A.L0,LevOk A.fns e/\bx e.vw
 nm:F2.nms A.e.F=ws
 v:A.e.vw.length=ws.length
 v9:eY A.e.vw
 nv:cQ A.e.vw
 ok:fP ws fw rg
 fw_:∀w∈fw,K12.Nm w
 way:K13.Due (F2.kds A.e.F) A.e.r (some [A.e.r+1])
 on_:on<A.Ms.length
 ms:∀L∈A.Ms,∀e∈L,LevOk A.fns e
 as_:A.as=.str kd :: rest
 ac:Act4 H on A.as fb
 kn:Kn=A.L0.map Lev.vw++[cc ws A.e.vw rg kd]
theorem A7 {K:W.Frag} {ab:Addr} {A:Ak} {kd kd':Str} {rest:List V} {Kn:List (List (Option Tr))} {ds:List Ce} {L:List Lev} {b1:Bool} (h:Db4 H A ws fw rg on kd rest fb Kn) (hds:hJ (lk ws A.e.vw) rg=some ds) (f:Fit4 H rg ds A.as b1) (h1:A.ks[on]?=some kd') (h2:A.Ms[on]?=some L):S4 K ab H A rg (b1&&ia (bz A.ps) kd' L (A.at (A.e.r+1)) Kn):=by
 have alv:A.e.lv=lk ws A.e.vw:=by unfold Lev.lv; rw[h.nm]
 have fk:FK A.fns (A.L0.map Lev.F++[A.e.F]) Kn:=by rw[h.kn]; exact C1 (λe he=>(h.b e he).1) h.m (by rw[ow,h.v,h.nm])
 have hlv:fe (A.L0.map Lev.F++[A.e.F]) Kn=A.L0.map Lev.lv++[lk ws (cc ws A.e.vw rg kd)]:=by rw[h.kn,A6,h.nm]
 have lok:LvlOk A.fns (A.at (A.e.r+1)) (fe (A.L0.map Lev.F++[A.e.F]) Kn):=by
   refine BG h.nd h.sn fk (λkn hk=>?_) (sL _);rw[h.kn] at hk;rcases Iv.mp hk with hk|hk
   . obtain⟨e,he,rfl⟩:=J3.mp hk;exact(h.b e he).2
   . cases Ik.mp hk; exact(ve h.v9 h.nv).ok
 have hwy:gg A.e.F A.e.r 0 (A.e.r+1):=#[_,h.way,rfl]
 rw[<- BO h.nd h1 h2 (h.ms L (Ij h2)) fk (sL _)];rw[hlv] at lok ⊢;have hask:hJ A.e.lv rg=some ds:=by rw[alv]; exact hds
 obtain⟨kd2,r2,e2,ig0,-⟩:=h.ac.kd;cases f with
 | @go x_ w_ a_ _ e1 ea =>
   rw[ea] at e2;cases e2;obtain⟨rfl,-⟩:=ig0 rfl;have:kd="go":=(V.str.inj (List.cons.inj (h.as_.symm.trans ea)).1)
   subst this;subst e1;have e:A.L0.map Lev.lv++[lk ws (cc ws A.e.vw (.get x_ a_ w_) "go")]=A.give x_ none:=by show A.L0.map Lev.lv++[lk ws (A.e.vw.set _ none)]=A.L0.map Lev.lv++[gV A.e.lv x_ none];rw[mQ h.ok.1 h.v,alv]
   rw[e] at lok ⊢;rw[JY];exact .go ea h.on_ rfl hwy lok
 | gf hn ea =>
   rw[ea] at e2;cases e2;obtain⟨rfl,-⟩:=ig0 rfl;exact .gf ea h.on_ hn
 | ne ea ng ed nk =>
   subst ed;have hA:=h.ac;rw[ea] at hA;exact .ne ea (sV hA) ng hask nk (rX (n:=19) (by decide) hA) (tL h.ok h.fw_ h.v h.v9 hds).1
 | eq ea ng hc hl hk oc =>
   have hA:=h.ac;rw[ea] at hA;have:kd=rg.kind:=(V.str.inj (List.cons.inj (h.as_.symm.trans ea)).1).trans hk;have e:A.L0.map Lev.lv++[lk ws (cc ws A.e.vw rg kd)]=iK A rg:=by
     have ok:=h.ok;subst this;cases rg with
     | get x a w =>
       show A.L0.map Lev.lv++[lk ws (cc ws A.e.vw (.get x a w) "get")]=A.L0.map Lev.lv++[gV A.e.lv x (some (.box (-1)))];rw[Gp,mQ ok.1 h.v,alv]
     | new x =>
       show A.L0.map Lev.lv++[lk ws (A.e.vw.set (ws.idxOf x) (some (.box (-1))))]=A.L0.map Lev.lv++[gV A.e.lv x (some (.box (-1)))];rw[mQ ok h.v,alv]
     | put a w b =>
       show A.L0.map Lev.lv++[lk ws A.e.vw]=(A.L0++[A.e]).map Lev.lv;rw[J0,<- alv]; rfl
     | out a =>
       show A.L0.map Lev.lv++[lk ws A.e.vw]=(A.L0++[A.e]).map Lev.lv;rw[J0,<- alv]; rfl
     | _=>exact ok.elim
   rw[e] at lok ⊢;have hon:∃k:Nat,k=on:=#[_,rfl]
   have key:=ea
   rename_i kd3 vs mid k cs
   have hko:k=on:=by
     have:=i3 (V.str kd3 :: (vs++mid)) (V.int (k:Int));have e3:V.str kd3 :: (vs++mid)++[V.int (k:Int)]=A.as:=by rw[ea]; rfl
     rw[e3] at this;have h5:=h.ac;generalize A.as=as5 at this h5;cases h5 <;> (cases this; rfl)
   subst hko;exact .eq ea (sV hA) ng hask (Ps.imp (λ_ _ z=>C0 z) hc) hl oc (tL h.ok h.fw_ h.v h.v9 hds).1 h.on_ hwy lok
theorem S4.mv {K:W.Frag} {ab:Addr} {H:Hp} {A:Ak} {rg:RG} {b:Bool} (mvs:List V) (h:S4 K ab H A rg b):S4 K ab H (A.mv mvs) rg b:=by
 have e:iK (A.mv mvs) rg=iK A rg:=by cases rg <;> rfl
 cases h with
 | go a b c d e=>exact .go (A:=A.mv mvs) a b c d e
 | gf a b c=>exact .gf (A:=A.mv mvs) a b c
 | ne a b c d e f g=>exact .ne (A:=A.mv mvs) a b c d e f g
 | eq a b c d e' f g h i j k=>rw[<- e] at k ⊢; exact .eq (A:=A.mv mvs) a b c d e' f g h i j k
section
variable (n:Nat) (hn:n<3)
include hn
theorem CJ {k nx:Str} (hk:k="get"\/k="new"\/k="put"\/k="out") (hx:nx="out"\/nx="call"):K13.Wf (n9 n++[k,nx,"back"])/\K13.Due (n9 n++[k,nx,"back"]) n (some [n+1]):=by
 constructor
 . have p1:¬ K13.isO k=true/\¬ K13.isE k=true/\¬ k="end":=by rcases hk with rfl|rfl|rfl|rfl <;> decide +kernel
   have p2:¬ K13.isO nx=true/\¬ K13.isE nx=true/\¬ nx="end":=by rcases hx with rfl|rfl <;> decide +kernel
   have:=(((Gf n).plain p1.1 p1.2.1 p1.2.2).plain p2.1 p2.2.1 p2.2.2).back;simpa [JP] using this
 . match n,hn with
   | 0,_=>rcases hk with rfl|rfl|rfl|rfl <;> rcases hx with rfl|rfl <;> exact .one (by decide +kernel) (by decide +kernel) (by decide +kernel) (.oth (by decide +kernel) (by decide +kernel))
   | 1,_=>rcases hk with rfl|rfl|rfl|rfl <;> rcases hx with rfl|rfl <;> exact .one (by decide +kernel) (by decide +kernel) (by decide +kernel) (.oth (by decide +kernel) (by decide +kernel))
   | 2,_=>rcases hk with rfl|rfl|rfl|rfl <;> rcases hx with rfl|rfl <;> exact .one (by decide +kernel) (by decide +kernel) (by decide +kernel) (.oth (by decide +kernel) (by decide +kernel))
end
structure Rs4 (K:W.Frag) (H:Hp) (ws fw:List Str) (rr:List RR) (n:Nat) (rg:RG) (r:Addr):Prop where
 ok:∀x∈rr,dI K H ws x
 wf:K13.Wf (rr.map λx=>x.w.k)
 row:∃x,rr[n]?=some x/\x.w.r=r
 it:aF K H r rg.items
 rg_:fP ws fw rg
 ln:rr.length=n+3
 n3:n<3
 way:K13.Due (rr.map λx=>x.w.k) n (some [n+1])
theorem Rs4.mono {K:W.Frag} {H H':Hp} {ws fw:List Str} {rr:List RR} {n:Nat} {rg:RG} {r:Addr} (h:Rs4 K H ws fw rr n rg r) (e:aB H H'):Rs4 K H' ws fw rr n rg r :=
 #[λx hx=>(h.ok x hx).mono e,h.wf,h.row,e.tup h.it,h.rg_,h.ln,h.n3,h.way]
theorem Fb {K:W.Frag} {c nx bk:RR} {n:Nat} (hn:n<3) (hc:dI K H ws c) (hx:dI K H ws (rg.rr r)) (hy:dI K H ws nx) (hk:nx.w.k="out"\/nx.w.k="call") (hb:dI K H ws bk) (hr:aF K H r rg.items) (ok:fP ws fw rg) (hck:c.w.k="copy":=by rfl) (hbk:bk.w.k="back":=by rfl):Rs4 K H ws fw (List.replicate n c++[rg.rr r,nx,bk]) n rg r:=by
 have kk:(rg.rr r).w.k="get"\/(rg.rr r).w.k="new"\/(rg.rr r).w.k="put"\/(rg.rr r).w.k="out":=by
   cases rg with
   | get _ _ _=>exact .inl rfl
   | new _=>exact .inr (.inl rfl)
   | put _ _ _=>exact .inr (.inr (.inl rfl))
   | out _=>exact .inr (.inr (.inr rfl))
   | _=>exact ok.elim
 have ek:(List.replicate n c++[rg.rr r,nx,bk]).map (λx=>x.w.k)=n9 n++[(rg.rr r).w.k,nx.w.k,"back"]:=by rw[J0,Jn,hck,Ix,Ix,Ix,hbk];rfl
 have d:=CJ n hn kk hk;refine#[λy hy'=>?_,by rw[ek]; exact d.1,#[rg.rr r,?_,rfl],hr,ok,by rw[Il,JA]; rfl,hn,by rw[ek]; exact d.2]
 . rcases Iv.mp hy' with h|h
   . rw[(Jx.mp h).2]; exact hc
   . simp only[Io,JK,or_false] at h;rcases h with rfl|rfl|rfl
     . exact hx
     . exact hy
     . exact hb
 . rw[Jb (by rw[JA]; exact Ib _),JA,Nat.sub_self];rfl
structure Bd4 (K:W.Frag) (H:Hp) (ws fw:List Str) (rr:List RR) (n:Nat) (rg:RG) (r:Addr) (F1 Fo:F2.Fd) (n0 n1:Str) (os:List Str):Prop where
 r_:Rs4 K H ws fw rr n rg r
 f1:F2.FnAt K H F1
 fo:F2.FnAt K H Fo
 d1:bJ K H 6 (.ref F1.fa)
 d2:bJ K H 6 (.ref Fo.fa)
 nA:F1.name=n0
 mA:F2.nms F1=ws
 rA:F1.rs=rr.map (·.w)
 nB:Fo.name=n1
 mB:F2.nms Fo=os
 rB:0<Fo.rs.length
theorem Bd4.mono {K:W.Frag} {H H':Hp} {ws fw:List Str} {rr:List RR} {n:Nat} {rg:RG} {r:Addr} {F1 Fo:F2.Fd} {n0 n1:Str} {os:List Str} (h:Bd4 K H ws fw rr n rg r F1 Fo n0 n1 os) (s:aB H H'):Bd4 K H' ws fw rr n rg r F1 Fo n0 n1 os :=
 #[h.r_.mono s,F2.FnAt.mono s h.f1,F2.FnAt.mono s h.fo,h.d1.mono s,h.d2.mono s,h.nA,h.mA,h.rA,h.nB,h.mB,h.rB]
structure TwoM (K:W.Frag) (C:Hp) (sA mA:Addr) (fns:List F2.Fd) (G:Hp) (svs:List V) (ks:List Str) (mvs:List V) (Ms:List (List Lev)):Prop where
 b:aB C (bf sA mA G)
 c1:C sA=none
 c2:C mA=none
 s:G sA=some (.lst svs)
 m:G mA=some (.lst mvs)
 ne:sA≠mA
 ss:Ps (dv K (bf sA mA G)) svs ks
 sl:ks.length=3
 ms:Ps (λL v=>dU K (bf sA mA G) (di L) v) mvs Ms
 ml:Ms.length=3
 ok:∀L∈Ms,L.length<=11/\∀e∈L,LevOk fns e/\bx e.vw/\cQ e.vw
section
variable {K:W.Frag} {C:Hp} {sA mA:Addr} {fns:List F2.Fd} {G G':Hp} {svs:List V} {ks:List Str} {mvs:List V} {Ms:List (List Lev)}
theorem TwoM.mono (e:aB G G') (h:TwoM K C sA mA fns G svs ks mvs Ms):TwoM K C sA mA fns G' svs ks mvs Ms :=
 #[h.b.trans (eM e),h.c1,h.c2,e _ _ h.s,e _ _ h.m,h.ne,Ps.imp (λ_ _ z=>z.mono (eM e)) h.ss,h.sl,Ps.imp (λ_ _ z=>z.mono (eM e)) h.ms,h.ml,h.ok]
theorem TwoM.setS {i:Nat} {kd:Str} {v:V} (h:TwoM K C sA mA fns G svs ks mvs Ms) (hv:dv K (bf sA mA G) kd v):TwoM K C sA mA fns (upd G sA (.lst (svs.set i v))) (svs.set i v) (ks.set i kd) mvs Ms :=
 #[by rw[jL]; exact h.b,h.c1,h.c2,aI,by rw[aw h.ne.symm]; exact h.m,h.ne,by rw[jL]; exact Ps.set i h.ss hv,by rw[JZ]; exact h.sl,by rw[jL]; exact h.ms,h.ml,h.ok]
theorem TwoM.setM {i:Nat} {L:List Lev} {v:V} (h:TwoM K C sA mA fns G svs ks mvs Ms) (hv:dU K (bf sA mA G) (di L) v) (hL:L.length<=11/\∀e∈L,LevOk fns e/\bx e.vw/\cQ e.vw):TwoM K C sA mA fns (upd G mA (.lst (mvs.set i v))) svs ks (mvs.set i v) (Ms.set i L) :=
 #[by rw[jM]; exact h.b,h.c1,h.c2,by rw[aw h.ne]; exact h.s,aI,h.ne,by rw[jM]; exact h.ss,h.sl,by rw[jM]; exact Ps.set i h.ms hv,by rw[JZ]; exact h.ml,λM hM=>by
   rcases pe hM with rfl|hM
   . exact hL
   . exact h.ok M hM]
theorem TwoM.at_ {b:Addr} {xs:List V} (h:TwoM K C sA mA fns G svs ks mvs Ms) (e:G b=some (.tup xs)):bf sA mA G b=some (.tup xs):=by rw[si (λz=>by rw[z,h.s] at e; cases e) (λz=>by rw[z,h.m] at e; cases e)];exact e
theorem TwoM.new {b:Addr} {o:HO} {H0:Hp} (h:TwoM K C sA mA fns G svs ks mvs Ms) (h0:TwoM K C sA mA fns H0 svs ks mvs Ms) (n:H0 b=none) (e:G b=some o):bf sA mA G b=some o:=by rw[si (λz=>by rw[z,h0.s] at n; cases n) (λz=>by rw[z,h0.m] at n; cases n)];exact e
theorem TwoM.all (h:TwoM K C sA mA fns G svs ks mvs Ms):aB C G:=h.b.trans pG
end
theorem ot:∀{ws:List Str},2<=ws.length->∃x y,bI (ws.map V.str) 0=some (.str x)/\bI (ws.map V.str) 1=some (.str y)/\x∈ws/\y∈ws
 | x :: y :: l,_=>#[x,y,Gx.at0,c7 (j:=1) rfl,by simp,by simp]
theorem Ek {α:Type}:∀{l:List α},l.length=4->∃a b c d,l=[a,b,c,d]
 | [a,b,c,d],_=>#[a,b,c,d,rfl]
theorem Hv {α:Type}:∀{l:List α},l.length=2->∃a b,l=[a,b]
 | [a,b],_=>#[a,b,rfl]
theorem IK {α:Type}:∀{l:List α},2<=l.length->∃a b r,l=a :: b :: r
 | a :: b :: r,_=>#[a,b,r,rfl]
end Br
namespace St
open PySem L2 Gx Rk2 Bg Fl Wk
theorem gF.g {H:Hp}:∀{L:List (Addr×HO)} (i:Nat) {q:Addr} {o:HO},gF H L->L[i]?=some (q,o)->H q=some o
 | [],i,_,_,_,e=>by simp at e
 | x :: L,0,_,_,h,e=>by cases e; exact h.1
 | x :: L,i+1,_,_,h,e=>gF.g i h.2 e
theorem Al.g {H0 H:Hp} {L:List (Addr×HO)} (h:Al H0 H L) (i:Nat) {q:Addr} {o:HO} (e:L[i]?=some (q,o)):H q=some o:=gF.g i h.2 e
end St
namespace K44
open PySem L2 Gx Fl Bg Wk St Br
noncomputable def bO (i:Nat):Stmt:=PySem.Challenge.pw_stopglass_k44_records_and_sends_held.main.body.getD i (.Pass #[0,0,0,0])
noncomputable abbrev qR:Stmt:=bO 3
noncomputable abbrev pO:Stmt:=bO 4
noncomputable abbrev qi:Stmt:=bO 5
noncomputable abbrev pK:Stmt:=bO 6
noncomputable abbrev pB:Stmt:=bO 7
noncomputable abbrev kZ:Stmt:=bO 8
noncomputable abbrev pA:Stmt:=bO 9
noncomputable abbrev jh:Stmt:=bO 10
noncomputable abbrev mT:Stmt:=fS (bO 11) 0
noncomputable abbrev pk:Stmt:=fS (bO 11) 1
noncomputable abbrev pE:Stmt:=fS (bO 11) 2
noncomputable abbrev qt:Stmt:=bO 14
noncomputable abbrev oG:Stmt:=bO 16
noncomputable abbrev qo:Stmt:=bO 17
noncomputable abbrev oh:Stmt:=bO 21
noncomputable abbrev qM:Stmt:=bO 22
noncomputable abbrev qk:Stmt:=bO 23
noncomputable abbrev qv:Stmt:=bO 24
noncomputable abbrev oI:Stmt:=bO 25
noncomputable abbrev qI:Stmt:=bO 26
noncomputable abbrev qP:Stmt:=bO 27
noncomputable abbrev jY:Stmt:=bO 28
noncomputable abbrev pf:Stmt:=bO 29
noncomputable abbrev kH:Stmt:=fS (bO 30) 0
noncomputable abbrev ib:Stmt:=fS (bO 30) 1
noncomputable abbrev ja:Stmt:=fS (bO 30) 2
noncomputable abbrev nV:Stmt:=fS (bO 30) 3
noncomputable abbrev nT:Stmt:=fS (bO 30) 4
noncomputable abbrev pM:Stmt:=fS (bO 30) 5
noncomputable abbrev nj:Stmt:=fS (bO 30) 6
noncomputable abbrev qf:Stmt:=fS (bO 30) 7
noncomputable abbrev nQ:Stmt:=bO 32
noncomputable abbrev qT:Stmt:=bO 34
noncomputable abbrev ou:Stmt:=bO 35
noncomputable abbrev qN:Stmt:=bO 36
noncomputable abbrev nC:Stmt:=bO 37
noncomputable abbrev oY:Stmt:=bO 38
noncomputable abbrev qZ:Stmt:=bO 39
noncomputable abbrev mX:Stmt:=bO 40
noncomputable abbrev qg:Stmt:=bO 41
noncomputable abbrev kJ:Stmt:=bO 42
noncomputable abbrev oK:Stmt:=bO 43
noncomputable abbrev ph:Stmt:=bO 44
noncomputable abbrev p9:Stmt:=bO 45
noncomputable abbrev qB:Stmt:=bO 46
noncomputable abbrev nS:Stmt:=bO 47
noncomputable abbrev pJ:Stmt:=bO 48
noncomputable abbrev kY:Stmt:=bO 49
noncomputable abbrev pX:Stmt:=bO 50
noncomputable abbrev iT:Stmt:=bO 51
noncomputable abbrev jS:Stmt:=bO 52
noncomputable abbrev qe:Stmt:=bO 53
noncomputable abbrev pP:Stmt:=bO 54
noncomputable abbrev jD:Stmt:=bO 55
noncomputable abbrev mP:Stmt:=bO 56
noncomputable abbrev fg:Stmt:=bO 57
set_option genInjectivity false in
set_option genSizeOf false in
structure Adr where
 bX:Addr
 aa:Addr
 yC:Addr
 zE:FuncData
 yE:Addr
 zH:FuncData
 xV:Addr
 yd:FuncData
 xP:Addr
 yX:FuncData
 xS:Addr
 ya:FuncData
 yI:Addr
 zM:FuncData
 xQ:Addr
 yY:FuncData
 xU:Addr
 yc:FuncData
 xD:Addr
 yL:FuncData
 xE:Addr
 yM:FuncData
 xF:Addr
 yN:FuncData
 yH:Addr
 zL:FuncData
 yG:Addr
 zK:FuncData
 nH:Addr
 nJ:FuncData
 xz:Addr
 zB:FuncData
 yD:Addr
 zG:FuncData
 yB:Addr
 zD:FuncData
 yJ:Addr
 zN:FuncData
 yA:Addr
 zC:FuncData
 xT:Addr
 yb:FuncData
 xy:Addr
 zA:FuncData
 xO:Addr
 yW:FuncData
 xR:Addr
 yZ:FuncData
 xJ:Addr
 yR:FuncData
 xN:Addr
 yV:FuncData
 xI:Addr
 yQ:FuncData
 xL:Addr
 yT:FuncData
 xH:Addr
 yP:FuncData
 xG:Addr
 yO:FuncData
 xK:Addr
 yS:FuncData
 xM:Addr
 yU:FuncData
 yF:Addr
 zJ:FuncData
 xZ:Addr
 yh:FuncData
 xu:Addr
 z8:FuncData
 xi:Addr
 yo:FuncData
 xo:Addr
 yw:FuncData
 km:Addr
 kq:FuncData
 xw:Addr
 z9:FuncData
 xn:Addr
 yu:FuncData
 xj:Addr
 yp:FuncData
 xh:Addr
 yn:FuncData
 xf:Addr
 yl:FuncData
 xl:Addr
 yr:FuncData
 xt:Addr
 yz:FuncData
 xc:Addr
 yk:FuncData
 xY:Addr
 yg:FuncData
 xk:Addr
 yq:FuncData
 xm:Addr
 yt:FuncData
 xp:Addr
 yx:FuncData
 xW:Addr
 ye:FuncData
 xg:Addr
 ym:FuncData
 xa:Addr
 yi:FuncData
 xq:Addr
 yy:FuncData
 xb:Addr
 yj:FuncData
 xX:Addr
 yf:FuncData
 xx:Addr
 nI:FuncData
 rE:Addr
 bn:Addr
 rF:Addr
 iW:Addr
structure Txt (K:W.Frag) (mg:Str->Option Value) (t:Adr):Prop where
 names_of:DefOk K mg "names_of" qR ["function"] t.yC t.zE
 reads:DefOk K mg "reads" pO ["row"] t.yE t.zH
 gives:DefOk K mg "gives" qi ["row"] t.xV t.yd
 atoms_of:DefOk K mg "atoms_of" pK ["row"] t.xP t.yX
 each_once:DefOk K mg "each_once" pB ["names"] t.xS t.ya
 ways:DefOk K mg "ways" kZ ["rows"] t.yI t.zM
 begins_of:DefOk K mg "begins_of" pA ["rows"] t.xQ t.yY
 firsts_behind:DefOk K mg "firsts_behind" jh ["rows","begins"] t.xU t.yc
 xB:IniOk K t.bX "Flows.__init__" mT ["self","program"] t.xD t.yL
 ke:MetOk K t.bX "row_at" "Flows.row_at" pk ["self","frame"] t.xE t.yM
 r6:MetOk K t.bX "ways_at" "Flows.ways_at" pE ["self","frame"] t.xF t.yN
 value:DefOk K mg "value" qt ["sign","one","other"] t.yH t.zL
 together:DefOk K mg "together" oG ["sign","left","right"] t.yG t.zK
 put_through:DefOk K mg "put_through" qo ["one","news"] t.nH t.nJ
 levels_of:DefOk K mg "levels_of" oh ["flows","mark"] t.xz t.zB
 place_of:DefOk K mg "place_of" qM ["named","atom"] t.yD t.zG
 moved:DefOk K mg "moved" qk ["flows","chain","way"] t.yB t.zD
 with_given:DefOk K mg "with_given" qv ["levels","name","place"] t.yJ t.zN
 made_by:DefOk K mg "made_by" oI ["row","named"] t.yA t.zC
 entered:DefOk K mg "entered" qI ["flows","row","levels"] t.xT t.yb
 left_behind:DefOk K mg "left_behind" qP ["call","back","levels"] t.xy t.zA
 asked_act:DefOk K mg "asked_act" jY ["row","named"] t.xO t.yW
 boxes_behind:DefOk K mg "boxes_behind" pf ["spot"] t.xR t.yZ
 xC:IniOk K t.aa "Step.__init__" kH ["self","flows","spots","marks","k"] t.xJ t.yR
 rD:MetOk K t.aa "stands" "Step.stands" ib ["self"] t.xN t.yV
 r9:MetOk K t.aa "goes" "Step.goes" ja ["self","k"] t.xI t.yQ
 rC:MetOk K t.aa "parts" "Step.parts" nV ["self","yes","no"] t.xL t.yT
 fW:MetOk K t.aa "comes_on" "Step.comes_on" nT ["self","k","levels"] t.xH t.yP
 iV:MetOk K t.aa "arrives" "Step.arrives" pM ["self","k","chain","levels"] t.xG t.yO
 ki:MetOk K t.aa "is_wait" "Step.is_wait" nj ["self","k"] t.xK t.yS
 kj:MetOk K t.aa "shows" "Step.shows" qf ["self","k","chain","levels"] t.xM t.yU
 spot_holds:DefOk K mg "spot_holds" nQ ["program","spots","marks","k"] t.yF t.zJ
 zR:DefOk K mg "_law_cell_at" qT ["_law_script","_law_k"] t.xZ t.yh
 zg:DefOk K mg "_law_value" ou ["_law_sign","_law_one","_law_other"] t.xu t.z8
 nK:DefOk K mg "_law_names" qN ["_law_cell","_law_many"] t.xi t.yo
 kr:DefOk K mg "_law_some" nC ["_law_cell","_law_boxes"] t.xo t.yw
 jQ:DefOk K mg "_law_through" oY ["_law_one","_law_news_here"] t.km t.kq
 rL:DefOk K mg "_law_view" qZ ["_law_cell","_law_size","_law_boxes","_law_calm"] t.xw t.z9
 ze:DefOk K mg "_law_sets" mX ["_law_cell","_law_known_here","_law_boxes"] t.xn t.yu
 zY:DefOk K mg "_law_news" qg ["_law_sets_here","_law_box"] t.xj t.yp
 zX:DefOk K mg "_law_landing" kJ ["_law_cell","_law_known_here","_law_news_here","_law_boxes","_law_calm"] t.xh t.yn
 zV:DefOk K mg "_law_held" oK ["_law_spot","_law_mark","_law_chain","_law_known_here","_law_news_here"] t.xf t.yl
 za:DefOk K mg "_law_outer" ph ["_law_own","_law_outer_here","_law_many"] t.xl t.yr
 rK:DefOk K mg "_law_turned" p9 ["_law_one"] t.xt t.yz
 zU:DefOk K mg "_law_flat" qB ["_law_views"] t.xc t.yk
 rJ:DefOk K mg "_law_atom" nS ["_law_cell","_law_names_here"] t.xY t.yg
 l_of:DefOk K mg "_law_of" pJ ["_law_atom_here","_law_names_here","_law_view_here"] t.xk t.yq
 zd:DefOk K mg "_law_row" kY ["_law_cells","_law_names_here","_law_words"] t.xm t.yt
 nL:DefOk K mg "_law_taken" pX ["_law_atom_here","_law_names_here","_law_view_here","_law_cell","_law_boxes"] t.xp t.yx
 zP:DefOk K mg "_law_act" iT ["_law_row_here","_law_cells","_law_names_here","_law_view_here","_law_boxes","_law_words","_law_on"] t.xW t.ye
 zW:DefOk K mg "_law_known" jS ["_law_row_here","_law_act_here","_law_names_here","_law_view_here"] t.xg t.ym
 zS:DefOk K mg "_law_filled" qe ["_law_act_here"] t.xa t.yi
 zf:DefOk K mg "_law_tries" pP ["_law_cells","_law_calm"] t.xq t.yy
 zT:DefOk K mg "_law_fits" jD ["_law_row_here","_law_act_here","_law_names_here","_law_view_here"] t.xb t.yj
 zQ:DefOk K mg "_law_asked" mP ["_law_program","_law_spots","_law_marks","_law_k","_law_due"] t.xX t.yf
 law:DefOk K mg "law" fg ["_law_script"] t.xx t.nI
 cw:ClsOk K mg "Flows" t.bX
 az:ClsOk K mg "Step" t.aa
 IR:cf K t.bX "last"
 zi:cf K t.bX "number_of"
 zh:cf K t.bX "folded_of"
 zj:cf K t.bX "params_of"
 rN:cf K t.bX "rows_of"
 rM:cf K t.bX "names_in"
 rO:cf K t.bX "ways_in"
 rQ:cf K t.aa "flows"
 zm:cf K t.aa "spots"
 rR:cf K t.aa "marks"
 dO:cf K t.aa "act"
 rP:cf K t.aa "chain"
 i0:cf K t.aa "ahead"
 cP:cf K t.aa "row"
 zk:cf K t.aa "news"
 rH:∃tk,mg "WIDE"=some (.int 281474976710656 tk)
 IQ:mg "GIVING_KINDS"=some (.ref t.rE)
 IS:∀H:Hp,aF K H t.rE (K12.giving.map V.str)
 rG:mg "BROUGHT"=some (.ref t.bn)
 jR:∀H:Hp,aF K H t.bn [V.str "brought"]
 IP:mg "ATOM_PLACES"=some (.ref t.rF)
 IT:qj K t.rF K12.tabl
 yK:mg "FILLED_PLACES"=some (.ref t.iW)
 kt:m6 K t.iW [("get",3),("new",1),("wait",1)]
 b_len:mg "len"=none
 b_list:mg "list"=none
 b_tuple:mg "tuple"=none
 b_isinstance:mg "isinstance"=none
 b_range:mg "range"=none
 b_all:mg "all"=none
 b_enumerate:mg "enumerate"=none
 b_dict:mg "dict"=none
 b_str:mg "str"=none
 b_zip:mg "zip"=none
 b_bool:mg "bool"=none
 b_int:mg "int"=none
 b_max:mg "max"=none
 bl:∀(s:Shared) (u:Value),BindsTo s t.nI #[[u],[]] [("_law_script",u)]
section
variable {P:Program} {w:World} {K:W.Frag} {mg:Str->Option Value} {base:Heap} {t:Adr}
noncomputable def DZ (K:W.Frag) (t:Adr):Sp:=λvs H Q _=>∃(x dx p:Addr) (fns:List F2.Fd),vs=[.ref x,.ref p]/\H x=some (.ins t.bX dx [])/\aJ K (ers x H) p (fns.map λf=>V.ref f.fa)/\fns≠[]/\fns.length<=12/\(∀f∈fns,F2.FnAt K (ers x H) f)/\(fns.map (·.name)).Nodup /\
 ∀H',aB (ers x H) H'->F2.FlowsAt K t.bX H' x fns->Q .non H'
noncomputable def Bu (K:W.Frag):Sp:=λvs H Q _=>∃(s:Str) (a b:Int),vs=[.str s,.int a,.int b]/\0<=a/\0<=b/\a<K21.wide/\b<K21.wide/\Q (.int (K21.valOf s a b)) H
noncomputable def FY (K:W.Frag) (t:Adr):Sp:=λvs H Q _=>∃(s:Str) (tl tr:Rk2.Tr) (x y:V),vs=[.str s,x,y]/\Rk2.Sg s/\RB K t.bn H tl x/\RB K t.bn H tr y/\Rk2.okl (Rk2.lvs tl)/\Rk2.okl (Rk2.lvs tr)/\∀v H',aB H H'->RB K t.bn H' (Rk2.tog s tl tr) v->Q v H'
noncomputable def qq (K:W.Frag) (t:Adr) (n:Nat):Sp:=λvs H Q _=>∃(tr:Rk2.Tr) (v:V) (d:Addr) (kvs:List (aL×V)) (g:Int->Option Rk2.Tr),vs=[v,.ref d]/\Rk2.dp tr<n/\cM tr/\Rk2.RAt H tr v/\H d=some (.dK kvs)/\NB K t.bn H kvs g/\Rk2.okl (Rk2.lvs tr)/\(∀k t,g k=some t->Rk2.okl (Rk2.lvs t))/\∀v' H',aB H H'->RB K t.bn H' (Rk2.pt g tr) v'->Q v' H'
noncomputable def Gr (K:W.Frag) (t:Adr):Sp:=λvs H Q _=>∃(x fa:Addr) (fns:List F2.Fd) (F:F2.Fd) (r:Nat) (w:Rw),vs=[.ref x,.ref fa]/\F2.FlowsAt K t.bX H x fns/\F∈fns/\aF K H fa [.str F.name,.int r]/\F.rs[r]?=some w/\Q (.ref w.r) H
noncomputable def GD (K:W.Frag) (t:Adr):Sp:=λvs H Q _=>∃(x fa:Addr) (fns:List F2.Fd) (F:F2.Fd) (r j to_:Nat),vs=[.ref x,.ref fa]/\F2.FlowsAt K t.bX H x fns/\F∈fns/\aF K H fa [.str F.name,.int r]/\r<F.rs.length/\gg F r j to_/\∀tp l,aF K H tp (K13.natsV l)->l[j]?=some to_->Q (.ref tp) H
noncomputable def Bx (K:W.Frag) (t:Adr):Sp:=λvs H Q _=>∃(x:Addr) (cv:V) (fns:List F2.Fd) (ch:List (Str×Nat)) (F:F2.Fd) (r j to_:Nat),vs=[.ref x,cv,.int j]/\F2.FlowsAt K t.bX H x fns/\cT K H (ch++[(F.name,r)]) cv/\F∈fns/\r<F.rs.length/\gg F r j to_/\ch.length<=10/\∀cv' H',aB H H'->cT K H' (ch++[(F.name,to_)]) cv'->Q cv' H'
noncomputable def zo (K:W.Frag) (t:Adr):Sp:=λvs H Q _=>∃(b:Nat) (d:Addr) (f:Lv) (a:V) (o:Option Rk2.Tr),vs=[.ref d,a]/\ic K t.bn b H f d/\cU f a=some o/\∀v H',aB H H'->VB K t.bn H' o v->Q v H'
noncomputable def GY (K:W.Frag) (t:Adr):Sp:=λvs H Q _=>∃(lv pv:V) (n:Str) (fs:List Lv) (f:Lv) (o:Option Rk2.Tr),vs=[lv,.str n,pv]/\dj K t.bn 1000 H (fs++[f]) lv/\VB K t.bn H o pv/\fs.length<=10/\∀lv' H',aB H H'->dj K t.bn 1001 H' (fs++[gV f n o]) lv'->Q lv' H'
noncomputable def FQ (K:W.Frag) (t:Adr):Sp:=λvs H Q _=>∃(x:Addr) (m:V) (fns:List F2.Fd) (L:List Lev),vs=[.ref x,m]/\F2.FlowsAt K t.bX H x fns/\gG K H (di L) m/\(∀e∈L,LevOk fns e)/\L.length<=11/\∀v H',aB H H'->pw H H' L v->Q v H'
noncomputable def Hy (K:W.Frag) (t:Adr):Sp:=λvs H Q _=>∃(v:V) (ps:List (Int×Rk2.Tr)) (a:Addr) (as:List V) (fb:Option Int),vs=[v]/\fY K H ps a v/\aF K H a as/\jv as fb/\ps.length<=1000/\(∀b∈ps,cM b.2)/\∀d kvs H',aB H H'->H' d=some (.dK kvs)->NB K t.bn H' kvs (bz (ps++eV fb))->Q (.ref d) H'
noncomputable def HC (K:W.Frag) (t:Adr):Sp:=λvs H Q _=>∃(x dx fl sp mk a:Addr) (k:Nat) (fns:List F2.Fd) (svs mvs:List V) (ks:List Str) (Ms:List (List Lev)) (L0:List Lev) (e:Lev) (ps:List (Int×Rk2.Tr)) (as:List V) (v:V) (fb:Option Int),vs=[.ref x,.ref fl,.ref sp,.ref mk,.int (k:Int)]/\H x=some (.ins t.aa dx [])/\TbA K t.bX (ers x H) fl sp mk fns svs mvs ks Ms/\Ms[k]?=some (L0++[e])/\svs[k]?=some v/\fY K (ers x H) ps a v/\aF K (ers x H) a as/\jv as fb/\ps.length<=1000/\(∀b∈ps,cM b.2)/\(∀e'∈L0++[e],cQ e'.vw) /\
 ∀S H',aB (ers x H) H'->StpB K t.bn t.aa t.bX H' x #[S,fns,svs,mvs,ks,Ms,L0,e,ps++eV fb,as]->Q .non H'
noncomputable def Cu (K:W.Frag) (t:Adr):Sp:=λvs H Q _=>∃(x:Addr) (A:Ak) (k:Nat) (kd:Str),vs=[.ref x,.int (k:Int)]/\StpB K t.bn t.aa t.bX H x A/\A.ks[k]?=some kd/\Q (.bl (decide (kd="wait"))) H
noncomputable def IE (K:W.Frag) (t:Adr):Sp:=λvs H Q _=>∃(x:Addr) (A:Ak) (k:Nat) (L:List Lev) (ch:List (Str×Nat)) (fs:List Lv) (cv lv:V),vs=[.ref x,.int (k:Int),cv,lv]/\StpB K t.bn t.aa t.bX H x A/\AkB A/\A.Ms[k]?=some L/\cT K H ch cv/\dj K t.bn 1001 H fs lv/\LvlOk A.fns ch fs/\∀H',aB H H'->Q (.bl (iq (bz A.ps) L ch fs)) H'
noncomputable def AN (K:W.Frag) (t:Adr):Sp:=λvs H Q _=>∃(x:Addr) (A:Ak) (k:Nat) (ch:List (Str×Nat)) (fs:List Lv) (cv lv:V),vs=[.ref x,.int (k:Int),cv,lv]/\StpB K t.bn t.aa t.bX H x A/\AkB A/\k<A.Ms.length/\cT K H ch cv/\dj K t.bn 1001 H fs lv/\LvlOk A.fns ch fs/\∀H',aB H H'->Q (.bl (gW A k ch fs)) H'
noncomputable def F9 (K:W.Frag) (t:Adr):Sp:=λvs H Q _=>∃(x:Addr) (A:Ak) (k to_:Nat) (fs:List Lv) (lv:V),vs=[.ref x,.int (k:Int),lv]/\StpB K t.bn t.aa t.bX H x A/\AkB A/\k<A.Ms.length/\gg A.e.F A.e.r 0 to_/\dj K t.bn 1001 H fs lv/\LvlOk A.fns (A.L0.map Lev.fr++[(A.e.F.name,to_)]) fs/\∀H',aB H H'->Q (.bl (gW A k (A.L0.map Lev.fr++[(A.e.F.name,to_)]) fs)) H'
noncomputable def BW (K:W.Frag) (t:Adr):Sp:=λvs H Q _=>∃(r d:Addr) (rg:RG) (f:Lv) (b:Nat) (cs:List Ce),vs=[.ref r,.ref d]/\aF K H r rg.items/\ic K t.bn b H f d/\hJ f rg=some cs/\∀p vs' H',aB H H'->aF K H' p vs'->Rk2.Ps (fU K t.bn H') vs' cs->Q (.ref p) H'
noncomputable def Dz (K:W.Frag) (t:Adr):Sp:=λvs H Q _=>∃(x:Addr) (A:Ak) (k:Nat) (rg:RG),vs=[.ref x,.int (k:Int)]/\StpB K t.bn t.aa t.bX H x A/\AkB A/\aF K H A.S.r rg.items/\k<A.Ms.length/\jz rg /\
 (((∀x a w,rg≠.get x a w)/\∀H',aB H H'->Q (.bl false) H')\/∃y a w to_,rg=.get y a w/\gg A.e.F A.e.r 0 to_/\LvlOk A.fns (A.at to_) (A.give y none)/\∀H',aB H H'->Q (.bl (gW A k (A.at to_) (A.give y none))) H')
noncomputable def Gy (K:W.Frag) (t:Adr):Sp:=λvs H Q _=>∃(x:Addr) (A:Ak) (rg:RG) (b:Bool),vs=[.ref x]/\StpB K t.bn t.aa t.bX H x A/\AkB A/\aF K H A.S.r rg.items/\jz rg/\S4 K t.bn H A rg b/\∀H',aB H H'->Q (.bl b) H'
noncomputable def EE (K:W.Frag) (t:Adr):Sp:=λvs H Q _=>∃(p sp mk a:Addr) (k:Nat) (A:Ak) (ps:List (Int×Rk2.Tr)) (fb:Option Int) (rg:RG) (v:V) (w:Rw) (b:Bool),vs=[.ref p,.ref sp,.ref mk,.int (k:Int)]/\A.ps=ps++eV fb/\aJ K H p (A.fns.map λf=>V.ref f.fa)/\A.fns≠[]/\A.fns.length<=12/\(∀f∈A.fns,F2.FnAt K H f)/\(A.fns.map (·.name)).Nodup/\TbB K H sp mk A/\A.Ms[k]?=some (A.L0++[A.e])/\A.svs[k]?=some v/\fY K H ps a v/\aF K H a A.as/\jv A.as fb/\ps.length<=1000/\(∀b∈ps,cM b.2)/\(∀e'∈A.L0++[A.e],cQ e'.vw)/\AkB A/\A.e.F.rs[A.e.r]?=some w/\aF K H w.r rg.items/\jz rg/\S4 K t.bn H A rg b/\∀H',aB H H'->Q (.bl b) H'
noncomputable def DC (K:W.Frag):Sp:=λ_ _ _ _=>False
noncomputable def Gm (K:W.Frag) (t:Adr):Sp:=λ_ _ _ _=>False
noncomputable def BI (K:W.Frag) (t:Adr):Sp:=λ_ _ _ _=>False
noncomputable def Fu (K:W.Frag):Sp:=λ_ _ _ _=>False
noncomputable def CU (K:W.Frag):Sp:=λvs H Q _=>∃(a:Addr) (ns:List Int) (k:Int),vs=[.ref a,.int k]/\aJ K H a (ns.map V.int)/\ns.length<=63/\0<=k/\∀z,Q (.int z) H
noncomputable def G9 (K:W.Frag):Sp:=λvs H Q _=>∃(s:Str) (a b:Int),vs=[.str s,.int a,.int b]/\0<=a/\0<=b/\a<K21.wide/\b<K21.wide/\Q (.int (K21.valOf s a b)) H
noncomputable def IC (K:W.Frag):Sp:=λvs H Q _=>∃(c:Int) (mn:Nat),vs=[.int c,.int mn]/\mn<=20/\∀ws:List Str,ws.length=mn->ws.Nodup->(∀w∈ws,K12.Nm w)->K12.Gives H Q (ws.map V.str)
noncomputable def Ac (K:W.Frag):Sp:=λvs H Q _=>∃(c:Int) (bl:Addr) (bs:List Int),vs=[.int c,.ref bl]/\aJ K H bl (bs.map V.int)/\gX bs/\∀tr v H',aB H H'->Rk2.RAt H' tr v->TOk tr->Q v H'
noncomputable def mV (K:W.Frag) (n:Nat):Sp:=λvs H Q _=>∃(tr:Rk2.Tr) (v:V) (d:Addr) (kvs:List (aL×V)) (g:Int->Option Rk2.Tr),vs=[v,.ref d]/\Rk2.dp tr<n/\Rk2.RAt H tr v/\H d=some (.dK kvs)/\Rk2.NV H kvs g/\Rk2.okl (Rk2.lvs tr)/\(∀k t,g k=some t->Rk2.okl (Rk2.lvs t))/\∀v' H',aB H H'->Rk2.RAt H' (Rk2.pt g tr) v'->Q v' H'
noncomputable def mW (H:Hp) (Q:VK) (ok:List (Option Rk2.Tr)->Prop):Prop:=∀l us vw H',aB H H'->H l=none->H' l=some (.lst us)->Rk2.Ps (aZ H') us vw->ok vw->Q (.ref l) H'
noncomputable def Dv (K:W.Frag):Sp:=λvs H Q _=>∃(c:Int) (sz:Nat) (bl:Addr) (bs:List Int) (cm:Int),vs=[.int c,.int sz,.ref bl,.int cm]/\sz<=20/\aJ K H bl (bs.map V.int)/\gX bs/\0<=cm/\mW H Q (λvw=>vw.length=sz/\eY vw/\cQ vw)
noncomputable def FM (K:W.Frag):Sp:=λvs H Q _=>∃(c:Int) (kl bl:Addr) (us:List V) (ko:List (Option Rk2.Tr)) (bs:List Int),vs=[.int c,.ref kl,.ref bl]/\aJ K H kl us/\Rk2.Ps (aZ H) us ko/\dH ko/\ko.length<=100/\aJ K H bl (bs.map V.int)/\gX bs/\∀l xs ps H',aB H H'->H l=none->H' l=some (.lst xs)->Rk2.Ps (fh K H') xs ps->ps.length<=10->(∀b∈ps,bZ b.2/\cM b.2)->Q (.ref l) H'
noncomputable def zt (K:W.Frag):Sp:=λvs H Q _=>∃(l:Addr) (xs:List V) (ps:List (Int×Rk2.Tr)) (bv:V) (fb:Option Int),vs=[.ref l,bv]/\(bv=.non/\fb=none\/∃i,bv=.int i/\fb=some i)/\aJ K H l xs/\Rk2.Ps (fh K H) xs ps/\ps.length<=100/\∀d kvs H',aB H H'->H d=none->H' d=some (.dK kvs)->Rk2.NV H' kvs (bz (ps++eV fb))->Q (.ref d) H'
noncomputable def Ft (K:W.Frag):Sp:=λvs H Q _=>∃(o:Option Rk2.Tr) (v:V),vs=[v]/\aZ H o v/\d6 o/\dR o/\∀o' v' H',aB H H'->aZ H' o' v'->d6 o'->dR o'->(o=none->o'=none)->(∀u,o=some u->∃u',o'=some u')->Q v' H'
noncomputable def NwA (H:Hp) (d:Addr) (g:Int->Option Rk2.Tr):Prop:=(∃kvs,H d=some (.dK kvs)/\Rk2.NV H kvs g)/\∀k t,g k=some t->bZ t
noncomputable def Au (K:W.Frag):Sp:=λvs H Q _=>∃(c:Int) (kl nd bl:Addr) (us:List V) (ko:List (Option Rk2.Tr)) (g:Int->Option Rk2.Tr) (bs:List Int) (cm:Int),vs=[.int c,.ref kl,.ref nd,.ref bl,.int cm]/\aJ K H kl us/\Rk2.Ps (aZ H) us ko/\dH ko/\ko.length<=100/\NwA H nd g/\aJ K H bl (bs.map V.int)/\gX bs/\mW H Q (λvw=>vw.length=ko.length/\bx vw/\cQ vw)
noncomputable def Fj (K:W.Frag):Sp:=λvs H Q _=>∃(sv mv cv:V) (kA d:Addr) (kd:Str) (L:List Lev) (ch:List (Str×Nat)) (kl:List V) (Kn:List (List (Option Rk2.Tr))) (g:Int->Option Rk2.Tr),vs=[sv,mv,cv,.ref kA,.ref d]/\i4 K H kd sv/\gG K H (di L) mv/\cT K H ch cv/\aJ K H kA kl/\Rk2.Ps (gM K H) kl Kn/\NwA H d g/\HldOk L ch Kn/\∀H',aB H H'->Q (.bl (ia g kd L ch Kn)) H'
noncomputable def Fy (K:W.Frag):Sp:=λvs H Q _=>∃(l:Addr) (ws:List V) (Kn:List (List (Option Rk2.Tr))),vs=[.ref l]/\aJ K H l ws/\Rk2.Ps (dM H) ws Kn/\(∀kn∈Kn,dH kn/\kn.length<=20)/\Kn.length<=3/\mW H Q (λvw=>vw.length<=100/\dH vw)
noncomputable def Gb (K:W.Frag):Sp:=λvs H Q _=>∃(c:Int) (nl:Addr) (ws:List Str),vs=[.int c,.ref nl]/\aJ K H nl (ws.map V.str)/\0<ws.length/\∀a,fG ws a->Q a H
noncomputable def BE (K:W.Frag):Sp:=λvs H Q _=>∃(a:V) (nl vl:Addr) (ws:List Str) (us:List V) (vw:List (Option Rk2.Tr)) (o:Option Rk2.Tr),vs=[a,.ref nl,.ref vl]/\fG ws a/\aJ K H nl (ws.map V.str)/\aJ K H vl us/\Rk2.Ps (aZ H) us vw/\vw.length=ws.length/\ws.length<=100/\cU (lk ws vw) a=some o/\∀v H',aB H H'->aZ H' o v->Q v H'
noncomputable def Ax (K:W.Frag):Sp:=λvs H Q _=>∃(ol ul:Addr) (n0 n1 o0 o1:Str) (m:Nat),vs=[.ref ol,.ref ul,.int m]/\aJ K H ol [.str n0,.str n1]/\aJ K H ul [.str o0,.str o1]/\K12.Nm n0/\K12.Nm n1/\[o0,o1].Nodup/\(∀w∈[o0,o1],K12.Nm w)/\m<=5/\∀F H',aB H H'->F2.FnAt K H' F->F.name=n1->F2.nms F=[o0,o1]->0<F.rs.length->bJ K H' 6 (.ref F.fa)->Q (.ref F.fa) H'
noncomputable def Aj (K:W.Frag):Sp:=λvs H Q _=>∃(cl nl wl:Addr) (c0 c1:Int) (cs:List Int) (ws:List Str) (w0 w1:Str) (wt:List V),vs=[.ref cl,.ref nl,.ref wl]/\aJ K H cl ((c0 :: c1 :: cs).map V.int)/\aJ K H nl (ws.map V.str)/\aJ K H wl (.str w0 :: .str w1 :: wt)/\0<ws.length/\(∀w∈ws,K12.Nm w)/\K12.Nm w0/\K12.Nm w1/\∀r rg H',aB H H'->H r=none->aF K H' r rg.items->fP ws [w0,w1] rg->dI K H' ws (rg.rr r)->Q (.ref r) H'
noncomputable def EI (K:W.Frag):Sp:=λvs H Q _=>∃(a:Addr) (on:Nat) (as:List V) (fb:Option Int),vs=[.ref a]/\aF K H a as/\Act4 H on as fb/\∀bv,Bv bv fb->Q bv H
noncomputable def A' (K:W.Frag):Sp:=λvs H Q _=>∃(cl:Addr) (cs:List Int) (cm:Int),vs=[.ref cl,.int cm]/\aJ K H cl (cs.map V.int)/\14<cs.length/\cs.length<=63/\∀l a b c d,H l=none->Q (.ref l) (upd H l (.lst [.int a,.int b,.int c,.int d]))
noncomputable def Ae (K:W.Frag):Sp:=λvs H Q _=>∃(r a nl vl:Addr) (rg:RG) (kd:Str) (as:List V) (ws fw:List Str) (us:List V) (vw:List (Option Rk2.Tr)),vs=[.ref r,.ref a,.ref nl,.ref vl]/\aF K H r rg.items/\fP ws fw rg/\aF K H a (.str kd :: as)/\aJ K H nl (ws.map V.str)/\aJ K H vl us/\Rk2.Ps (aZ H) us vw/\vw.length=ws.length/\ws.length<=20/\mW H Q (λkn=>kn=cc ws vw rg kd)
noncomputable def EM (K:W.Frag):Sp:=λvs H Q _=>∃(a:V) (nl vl bl:Addr) (c:Int) (ws:List Str) (us:List V) (vw:List (Option Rk2.Tr)) (bs:List Int),vs=[a,.ref nl,.ref vl,.int c,.ref bl]/\fG ws a/\aJ K H nl (ws.map V.str)/\aJ K H vl us/\Rk2.Ps (aZ H) us vw/\vw.length=ws.length/\ws.length<=100/\eY vw/\cQ vw/\aJ K H bl (bs.map V.int)/\gX bs/\∀tr v H',aB H H'->Tr4 H' tr v->Q v H'
noncomputable def Hh (K:W.Frag):Sp:=λvs H Q _=>∃(r cl nl vl bl wl:Addr) (on:Nat) (rg:RG) (c0 c1 c2 c3:Int) (ws:List Str) (us:List V) (vw:List (Option Rk2.Tr)) (bs:List Int) (w0 w1:Str) (wt:List V),vs=[.ref r,.ref cl,.ref nl,.ref vl,.ref bl,.ref wl,.int (on:Int)]/\aF K H r rg.items/\fP ws [w0,w1] rg/\aJ K H cl [.int c0,.int c1,.int c2,.int c3]/\aJ K H nl (ws.map V.str)/\aJ K H vl us/\Rk2.Ps (aZ H) us vw/\vw.length=ws.length/\ws.length<=20/\eY vw/\cQ vw/\aJ K H bl (bs.map V.int)/\gX bs/\bs.length=8/\aJ K H wl (.str w0 :: .str w1 :: wt)/\K12.Nm w0/\K12.Nm w1/\∀p as fb H',aB H H'->aF K H' p as->Act4 H' on as fb->Q (.ref p) H'
noncomputable def Go (K:W.Frag):Sp:=λvs H Q _=>∃(r a nl vl:Addr) (on:Nat) (rg:RG) (as:List V) (fb:Option Int) (ws fw:List Str) (us:List V) (vw:List (Option Rk2.Tr)) (ds:List Ce),vs=[.ref r,.ref a,.ref nl,.ref vl]/\aF K H r rg.items/\fP ws fw rg/\aF K H a as/\Act4 H on as fb/\aJ K H nl (ws.map V.str)/\aJ K H vl us/\Rk2.Ps (aZ H) us vw/\vw.length=ws.length/\ws.length<=20/\eY vw/\cQ vw/\hJ (lk ws vw) rg=some ds/\∀b H',aB H H'->Fit4 H' rg ds as b->Q (.bl b) H'
noncomputable def EQ (K:W.Frag) (t:Adr):Sp:=λvs H Q _=>∃(p sp mk a:Addr) (k:Nat) (A:Ak) (ps:List (Int×Rk2.Tr)) (fb:Option Int) (rg:RG) (v:V) (w:Rw) (b:Bool),vs=[.ref p,.ref sp,.ref mk,.int (k:Int),.bl b]/\A.ps=ps++eV fb/\aJ K H p (A.fns.map λf=>V.ref f.fa)/\A.fns≠[]/\A.fns.length<=12/\(∀f∈A.fns,F2.FnAt K H f)/\(A.fns.map (·.name)).Nodup/\TbB K H sp mk A/\A.Ms[k]?=some (A.L0++[A.e])/\A.svs[k]?=some v/\fY K H ps a v/\aF K H a A.as/\jv A.as fb/\ps.length<=1000/\(∀b∈ps,cM b.2)/\(∀e'∈A.L0++[A.e],cQ e'.vw)/\AkB A/\A.e.F.rs[A.e.r]?=some w/\aF K H w.r rg.items/\jz rg/\S4 K t.bn H A rg b/\bp K H 13 (A.fns.map λf=>V.ref f.fa)/\bp K H 13 A.svs/\Rk2.Ps (λL v=>dU K H (di L) v) A.mvs A.Ms/\A.Ms.length<=100/\∀H',Q (.bl true) H'
noncomputable def DS (K:W.Frag):List V->Hp->VK->Prop:=λxs H Q=>∃p ys,xs=[.ref p]/\(aJ K H p ys\/aF K H p ys)/\∀l,H l=none->Q (.ref l) (upd H l (.lst ys))
theorem Gq {X:Cx} {K:W.Frag} {tg l:Expr} (f:W.Frag->TI) (h:X.K=K) (p:PI X tg l (f X.K)):PI X tg l (f K):=h ▸ p
noncomputable def sp_law (K:W.Frag):Sp:=λvs H Q _=>∃(a:Addr) (ns:List Int),vs=[.ref a]/\aJ K H a (ns.map V.int)/\ns.length<=63/\∀H',Q (.bl true) H'
theorem ly {W:TS} {D:c8} {σ:L2.St} {H:Hp} (f:let S:=σ; W D S H):W D σ H:=f
theorem lx {X:Cx} {L:List Stmt} {R:TS->Prop} (f:let XX:=X; ∃t,bQ XX L t/\R t):∃t,bQ X L t/\R t:=f
theorem wL {X:Cx} {K:W.Frag} {e:Expr} (f:W.Frag->TE) (h:X.K=K) (p:PE X e (f X.K)):PE X e (f K):=h ▸ p
end
end K44
namespace K44
open PySem L2 K12
section
variable {P:Program} {w:World} {K:W.Frag} {mg:Str->Option Value} {base:Heap} {t:Adr}
theorem BQ:FnScope ["names"] ["names"] (b6 pB):=by walk_at "s"
theorem vZ (T:Txt K mg t):FnOk P w K mg base CX0 1 t.xS t.ya ["names"] (K12.sp_each_once K):=by
 refine T.each_once.F.ok BQ (λvs H Q E h=>?_) (λcdv A outer s H vs Q E hr h=>?_)
 . obtain⟨p0,ss,rfl,hS,hl,q⟩:=h;rfl
 . obtain⟨p0,ss,rfl,hS,hl,q⟩:=h;refine#[_,(aK (@aV _ _ _ _ (ce (Bq rfl) (by rfl) T.b_list i7 (aC (ce (vf rfl) (by rfl) T.b_dict lj (aC (fX (N':=["name"]) (js:=[none]) (by kernel_rfl) rfl (gN (a9 0)) ff (λ_ _ _ _=>(bU (i:=0) (show(["name"]:List Str).Nodup by decide +kernel) rfl (Or.inl rfl) (.inr rfl))) (λ_ _ _ _=>gK) (λ_ _ _ _=>(aq (aC (a9 0) (aC dL aE rfl) rfl)))) aE rfl)) aE rfl))) ai),?_];refine#[_,rfl,p0,rfl,#[_,hS],λp hp=>mo (xs:=ss.map V.str) (by rw[IX]; omega) (λi acc H2=>i<=ss.length/\aB H H2/\H2 p=some (.lst acc)/\∃ps:List Addr,acc=ps.map V.ref/\Paired (λa (kv:aL×V)=>aF K H2 a [kV kv.1,kv.2]) ps (cZ (ss.take i))) #[J2 _,aB.new hp,aI,[],rfl,.nil] ?_ ?_ ?_]
   . rintro i acc H2 hi ⟨hi',s2,h2,ps,rfl,hps⟩;refine#[h2,?_,s2.seq hS];have:=Paired.length hps;rw[IX,this];unfold cZ;rw[IX,JC];omega
   . rintro i x acc H2 hx ⟨hi',s2,h2,ps,rfl,hps⟩;have hi:i<ss.length:=by have:=(Ic.mp hx).1;rw[IX] at this;exact this
     rw[Iu] at hx;have hx:V.str ss[i]=x:=by simpa [hi] using hx
     subst hx;refine#[_,rfl,(by show 2<=sizeLine; decide),λa ha=>?_];have hap:a≠p:=λz=>by rw[z,h2] at ha; cases ha
     have e:(upd H2 a (.tup [V.str ss[i],V.bl true])) p=some (.lst (ps.map V.ref)):=by rw[aw hap.symm]; exact h2
     refine#[e,hi,?_,aI,ps++[a],by rw[J0]; rfl,?_]
     . exact(s2.trans (aB.new ha)).upd hp
     . have e2:cZ (ss.take (i+1))=cZ (ss.take i)++[(Sum.inr ss[i],V.bl true)]:=by unfold cZ;rw[Je,J0];simp [hi]
       rw[e2];refine Paired.snoc (Paired.mapP hps λb kv z=>Ci ((aB.new ha).tup z) e) ?_;exact aF.of (by rw[aw hap]; exact aI)
   . rintro acc H2 ⟨hi',s2,h2,ps,rfl,hps⟩;have e0:ss.take (ss.map V.str).length=ss:=by rw[IX]; exact JJ
     rw[e0] at hps;refine#[p,ps,cZ ss,rfl,aJ.of h2,hps,by unfold cZ; rw[IX]; omega,λd hd=>?_];rw[C7];refine#[d,cZ (onceL ss),rfl,aI,λl hl'=>?_];rw[EZ];exact q l _ ((s2.trans (aB.new hd)).trans (aB.new hl')) (s2.free ((aB.new hd).free hl')) aI
theorem HZ:FnScope ["row"] ["row"] (b6 qi):=by walk_at "s"
theorem EK (T:Txt K mg t):FnOk P w K mg base CX0 1 t.xV t.yd ["row"] (K12.sp_gives K):=by
 refine T.gives.F.ok HZ (λvs H Q E h=>?_) (λcdv A outer s H vs Q E hr h=>?_)
 . obtain⟨r,xs,g,as,rfl,hr,hrow,q⟩:=h;rfl
 . obtain⟨r,xs,g,as,rfl,hr,hrow,q⟩:=h;refine#[_,(aK (@aV _ _ _ _ (@jA _ _ _ _ _ _ _ _ (ae fm (aG (show aH _ (aQ K) from aR) (a9 0) aD (λ_ _=>rfl)) (iB T.IQ) (by with_unfolding_all rfl)) (aG (show aH _ (aQ K) from aR) (a9 0) aD (λ_ _=>rfl)) eK)) ai),?_];obtain⟨kd,h0,hc⟩:=Ap hrow;refine#[_,rfl,r,xs,_,_,rfl,rfl,hr,h0,t.rE,giving.map V.str,rfl,.inr (T.IS H),rfl,GC,_,rfl,?_];rcases hc with⟨x,rfl,e,h1⟩|⟨rfl,e⟩
   . exact aP e #[_,rfl,r,xs,_,_,rfl,rfl,hr,h1,q]
   . exact ak (AX e) q
theorem Dr:FnScope ["row"] ["row"] (b6 pK):=by walk_at "s"
theorem Hq (T:Txt K mg t):FnOk P w K mg base CX0 1 t.xP t.yX ["row"] (K12.sp_atoms_of K):=by
 refine T.atoms_of.F.ok Dr (λvs H Q E h=>?_) (λcdv A outer s H vs Q E hr h=>?_)
 . obtain⟨r,xs,g,as,rfl,hr,hrow,hl,q⟩:=h;rfl
 . obtain⟨r,xs,g,as,rfl,hr,hrow,hl,q⟩:=h;refine#[_,(aK (aj (ae au (aG (show aH _ (aQ K) from aR) (a9 0) aD (λ_ _=>rfl)) aS (aX _)) (@aN _ _ _ (@aV _ _ _ _ (ce ie (by rfl) T.b_list i7 (aC (aG (show aH _ (aQ K) from aR) (a9 0) aD (λ_ _=>rfl)) aE rfl)))) ai) (@aN _ _ _ (@aV _ _ _ _ (fX (N':=["place","row"]) (js:=[none,some 0]) (by kernel_rfl) rfl (pd (aG E5 (iB T.IP) (aG (show aH _ (aQ K) from aR) (a9 0) aD (λ_ _=>rfl)) (λ_ _=>rfl))) ff (λ_ _ _ _=>(bU (i:=0) (show(["place","row"]:List Str).Nodup by decide +kernel) rfl (Or.inl rfl) (.inr rfl))) (λ_ _ _ _=>gK) (λ_ _ _ _=>(aG (show aH _ (aQ K) from aR) (a9 1) (a9 0) (λ_ _=>rfl))))))),?_];obtain⟨kd,h0,hc⟩:=AE hrow;refine#[_,rfl,r,xs,_,_,rfl,rfl,hr,h0,rfl,_,rfl,?_];rcases hc with⟨rfl,p,h3,hp⟩|⟨hne,pl,hk,hpl,hat⟩
   . exact aP (IV rfl) #[_,rfl,r,xs,_,_,rfl,rfl,hr,h3,p,as,rfl,.inr hp,λl hl=>q l _ (aB.new hl) hl aI]
   . refine ak (λh=>hne (V.str.inj (bD h))) ?_;refine#[_,rfl,r,xs,_,_,rfl,rfl,hr,h0,t.rF,tabl,_,_,rfl,rfl,T.IT,hk,λa ha=>?_];refine#[a,rfl,#[_,ha],λp hp=>FZ (xs:=pl.map V.int) (by rw[IX]; omega) (λi acc H2=>acc=as.take i/\H2=upd H p (.lst acc)) #[rfl,rfl] ?_ ?_ ?_]
     . rintro i acc H2 hi ⟨rfl,rfl⟩;exact#[aI,by rw[JC]; omega,(aB.new hp).tup ha]
     . rintro i x acc H2 hx ⟨rfl,rfl⟩;have hi:i<as.length:=by have:=(Ic.mp hx).1;rw[IX] at this;omega
       obtain⟨p1,hp1,hp2⟩:=hat i as[i] (by simp [hi]);rw[Iu,hp1] at hx;have hx:V.int p1=x:=by simpa using hx
       subst hx;refine#[_,rfl,_,rfl,r,xs,_,_,rfl,rfl,(aB.new hp).tup hr,hp2,aI,?_,om];rw[Je];simp [hi]
     . rintro acc H2 ⟨rfl,rfl⟩;have e:(as.take (pl.map V.int).length)=as:=by rw[IX,hpl]; exact JJ
       exact q p _ (aB.new hp) hp (by rw[aI,e])
theorem Ho:FnScope ["row"] ["row"] (b6 pO):=by walk_at "s"
theorem HI (T:Txt K mg t):FnOk P w K mg base CX0 2 t.yE t.zH ["row"] (K12.sp_reads K):=by
 have Qi:=vZ (P:=P) (w:=w) (base:=base) T;have Qt:=Hq (P:=P) (w:=w) (base:=base) T;refine T.reads.F.ok Ho (λvs H Q E h=>?_) (λcdv A outer s H vs Q E hr h=>?_)
 . obtain⟨r,xs,g,as,rfl,hrw,hrow,hl,hat,q⟩:=h;rfl
 . obtain⟨r,xs,g,as,rfl,hrw,hrow,hl,hat,q⟩:=h;refine#[_,(aK (@aV _ _ _ _ (bG T.each_once Qi (hr.mono (by decide)) (aC (fX (N':=["atom"]) (js:=[none]) (by kernel_rfl) rfl (gN (bG T.atoms_of Qt (hr.mono (by decide)) (aC (a9 0) aE rfl))) ff (λ_ _ _ _=>(bU (i:=0) (show(["atom"]:List Str).Nodup by decide +kernel) rfl (Or.inl rfl) (.inr rfl))) (λ_ _ _ _=>(tN (qh (cR (show bt _ (.builtin "isinstance") (Gg K) from lX) (by rfl) T.b_isinstance mh (aC (a9 0) (aC (mK (v:=V.ty "str") rfl T.b_str nP rfl) aE rfl) rfl))))) (λ_ _ _ _=>(a9 0))) aE rfl))) ai),?_];refine#[_,rfl,r,xs,g,as,rfl,hrw,hrow,hl,λl0 H1 s1 n1 e1=>?_];refine#[l0,rfl,#[_,aJ.of e1],λp hp=>mo (xs:=as) (by omega) (λi acc H2=>acc=(strsOf (as.take i)).map V.str/\H2=upd H1 p (.lst acc)) #[rfl,rfl] ?_ ?_ ?_]
   . rintro i acc H2 hi ⟨rfl,rfl⟩;refine#[aI,?_,(aB.new hp).seq (aJ.of e1)];have:=nX (as.take i);rw[IX];rw[JC] at this;omega
   . rintro i x acc H2 hx ⟨rfl,rfl⟩;have hi:i<as.length:=(Ic.mp hx).1;have e2:strsOf (as.take (i+1))=strsOf (as.take i)++strsOf [x]:=by rw[Je,hx,Eo];rfl
     rcases hat x (Ij hx) with⟨s,rfl,hn⟩|⟨z,rfl⟩
     . refine#[_,rfl,_,_,_,true,rfl,.str _,rfl,_,rfl,?_];refine#[_,rfl,aI,?_,om];rw[e2,J0];rfl
     . refine#[_,rfl,_,_,_,false,rfl,.int _,rfl,_,rfl,?_];refine#[?_,?_]
       . rw[e2,E2,JI]
       . rfl
   . rintro acc H2 ⟨rfl,rfl⟩;rw[JJ];have hle:=nX as;exact#[p,strsOf as,rfl,aJ.of aI,by omega,λl H3 s3 n3 e3=>q l H3 ((s1.trans (aB.new hp)).trans s3) (s1.free ((aB.new hp).free n3)) e3]
theorem mU:FnScope ["function","found","row","given"] ["function"] (b6 qR):=by walk_at "s"
theorem EA (T:Txt K mg t):FnOk P w K mg base CX0 3 t.yC t.zE ["function"] (K12.sp_names_of K):=by
 have Qi:=vZ (P:=P) (w:=w) (base:=base) T;have Qu:=EK (P:=P) (w:=w) (base:=base) T;have Qv:=HI (P:=P) (w:=w) (base:=base) T;refine T.names_of.F.ok mU (λvs H Q E h=>?_) (λcdv A outer s H vs Q E hr h=>?_)
 . obtain⟨f,ps,ds,rfl,hf,q⟩:=h;rfl
 . obtain⟨f,ps,ds,rfl,hf,q⟩:=h;refine#[_,(aK (@al _ _ 1 _ _ _ _ mU.nd rfl (Or.inl rfl) (ce ie (by rfl) T.b_list i7 (aC (aG (show aH _ (aQ K) from aR) (a9 0) aD (λ_ _=>rfl)) aE rfl)) (by rfl) (by walk_at "f")) (aK (cy PassesOwn.never rfl (pd (aG (show aH _ (aQ K) from aR) (a9 0) aD (λ_ _=>rfl))) (bU (i:=2) mU.nd rfl (Or.inl rfl)) (aK (@al _ _ 3 _ _ _ _ mU.nd rfl (Or.inl rfl) (bG T.gives Qu (hr.mono (by decide)) (aC (a9 2) aE rfl)) (by rfl) (by walk_at "f")) (aK (aj (fJ (g9 (a9 3))) (@aN _ _ _ (@fB _ _ _ _ (dg J5 JD JE j0 (a9 1) (aC (a9 3) aE rfl)) (by rfl))) ai) (@aN _ _ _ (@fB _ _ _ _ (dg J5 PySem.F.slot_list_extend PySem.F.type_list_extend E8 (a9 1) (aC (bG T.reads Qv (hr.mono (by decide)) (aC (a9 2) aE rfl)) aE rfl)) (by rfl)))))) (@aN _ _ _ (@aV _ _ _ _ (bG T.each_once Qi (hr.mono (by decide)) (aC (a9 1) aE rfl)))))),?_];obtain⟨n,b,pp,rr,hF,hP,hR⟩:=hf.fn;refine#[_,rfl,f,_,_,_,rfl,rfl,hF,rfl,pp,_,rfl,.inr hP,λl hl=>?_];refine#[_,rfl,f,_,_,_,rfl,rfl,(aB.new hl).tup hF,rfl,?_];refine#[rr,rfl,#[_,(aB.new hl).tup hR],HR (xs:=ds.map λd=>V.ref d.r) (λi σ H2=>aB H H2/\∃v1 v2 fs,σ=[some (.ref f),some (.ref l),v1,v2]/\H2 l=some (.lst (List.map V.str fs))/\onceL fs=onceL (ps++(ds.take i).flatMap rowStrs)/\fs.length<=100+11 * i) #[aB.new hl,_,_,ps,rfl,aI,by simp,by have:=hf.pl; omega] ?_ ?_ ?_]
   . rintro i σ H2 hi ⟨s2,_⟩;exact s2.tup hR
   . rintro i x σ H2 hx ⟨s2,v1,v2,fs,rfl,h2,ho,hlen⟩;have hi:i<ds.length:=by have:=(Ic.mp hx).1;rw[IX] at this;exact this
     rw[Iu] at hx;have hx:V.ref ds[i].r=x:=by simpa [hi] using hx
     subst hx;have hd:=hf.rows ds[i] (Ju hi);have hds:=hf.dl;have ef:(ds.take (i+1)).flatMap rowStrs=(ds.take i).flatMap rowStrs++rowStrs ds[i]:=by rw[Je,List.flatMap_append];simp [hi]
     have hol:=FW (strsOf ds[i].as);have hsl:=nX ds[i].as;have hal:=hd.len;obtain⟨xs,hr1,hr2⟩:=(hd.mono s2).row;refine#[_,rfl,ds[i].r,xs,_,_,rfl,hr1,hr2,?_];refine#[_,rfl,_,rfl,?_];cases hg:ds[i].gx with
     | none =>
       refine j2 #[_,rfl,.inl #[rfl,_,aJ.of h2],_,rfl,ds[i].r,xs,_,_,rfl,hr1,hr2,hd.len,hd.ats,λl4 H4 s4 n4 e4=>?_];refine#[l,l4,_,_,rfl,rfl,s4 _ _ h2,e4,cb (by rw[IX,IX]; omega),?_];refine#[(s2.trans s4).upd hl,_,_,fs++[]++onceL (strsOf ds[i].as),rfl,(by rw[aI,JI,J0]),?_,(by simp only[Il,KC]; omega)];rw[uO ho,ef,JP];unfold rowStrs;rw[hg];rfl
     | some x =>
       refine nR #[_,rfl,.inl #[rfl,_,aJ.of h2],_,rfl,l,_,_,rfl,rfl,h2,lt_line' (by rw[IX]; omega),?_];have s3:aB H (upd H2 l (.lst (List.map V.str fs++[V.str x]))):=s2.upd hl;obtain⟨xs',hr1',hr2'⟩:=(hd.mono s3).row;refine#[_,rfl,.inl #[rfl,_,aJ.of aI],_,rfl,ds[i].r,xs',_,_,rfl,hr1',hr2',hd.len,hd.ats,λl4 H4 s4 n4 e4=>?_];refine#[l,l4,_,_,rfl,rfl,s4 _ _ aI,e4,cb (by simp only[Il,IX,J6,KC]; omega),?_];refine#[(s3.trans s4).upd hl,_,_,fs++[x]++onceL (strsOf ds[i].as),rfl,(by rw[aI,J0,J0]; rfl),?_,(by simp only[Il,J6,KC]; omega)];rw[uO ho,ef,JP];unfold rowStrs;rw[hg];rfl
   . rintro σ H2 ⟨s2,v1,v2,fs,rfl,h2,ho,hlen⟩;rw[IX,JJ] at ho;rw[IX] at hlen;have hds:=hf.dl;refine#[_,rfl,l,fs,rfl,aJ.of h2,by omega,λl3 H3 s3 n3 e3=>q l3 H3 (s2.trans s3) (s2.free n3) ?_];rw[e3,ho];rfl
end
end K44
namespace K44
open PySem L2 K13
section
variable {P:Program} {w:World} {K:W.Frag} {mg:Str->Option Value} {base:Heap} {t:Adr}
theorem kP:FnScope ["rows","opened","begins","k","row"] ["rows"] (b6 pA):=by walk_at "s"
theorem Ez (T:Txt K mg t):FnOk P w K mg base CX0 1 t.xQ t.yY ["rows"] (K13.sp_begins_of K):=by
 refine T.begins_of.F.ok kP (λvs H Q E h=>?_) (λcdv A outer s H vs Q E hr h=>?_)
 . obtain⟨a,ks,rfl,hR,w,hn,q⟩:=h;rfl
 . obtain⟨a,ks,rfl,hR,w,hn,q⟩:=h;refine#[_,(aK (@al _ _ 1 _ _ _ _ kP.nd rfl (Or.inl rfl) (bu aE) (by rfl) (by walk_at "f")) (aK (@al _ _ 2 _ _ _ _ kP.nd rfl (Or.inl rfl) gH (by rfl) (by walk_at "f")) (aK (cy PassesOwn.never rfl (vc rfl T.b_enumerate (aC (a9 0) aE rfl)) (eE rfl (cH (bU (i:=3) kP.nd rfl (Or.inl rfl)) (cH (bU (i:=4) kP.nd rfl (Or.inl rfl)) eC))) (@aN _ _ _ (aj (ae fm (aG (show aH _ (aQ K) from aR) (a9 4) aD (λ_ _=>rfl)) (aq (aC aS (aC aS aE rfl) rfl)) (by with_unfolding_all rfl)) (@aN _ _ _ (@fB _ _ _ _ (dg J5 JD JE j0 (a9 1) (aC (a9 3) aE rfl)) (by rfl))) (@aN _ _ _ (aj (ae au (aG (show aH _ (aQ K) from aR) (a9 4) aD (λ_ _=>rfl)) aS (aX _)) (@aN _ _ _ (eQ (cK hr.units) (a9 2) (a9 3) (aG (show aH _ (af K) from ag) (a9 1) (cp cn aD) (λ_ _=>rfl)) (by rfl))) (@aN _ _ _ (aj (ae au (aG (show aH _ (aQ K) from aR) (a9 4) aD (λ_ _=>rfl)) aS (aX _)) (@aN _ _ _ (eQ (cK hr.units) (a9 2) (a9 3) (FE J5 PySem.F.slot_list_pop PySem.F.type_list_pop IH (a9 1)) (by rfl))) ai))))))) (@aN _ _ _ (@aV _ _ _ _ (a9 2)))))),?_];refine#[dw,λol hol=>λd hd=>?_];obtain⟨rs,e1,e2,e3⟩:=hR.ex;have hdo:d≠ol:=λz=>by rw[z,aI] at hd; cases hd
   have s0:aB H (upd (upd H ol (.lst [])) d (.dK [])):=(aB.new hol).trans (aB.new hd);have hd0:H d=none:=(aB.new hol).free hd;refine#[_,rfl,a,rfl,#[_,s0.tup e1],vX (xs:=rs.map V.ref) (λi σ H2=>i<=ks.length/\aB H H2/\∃v3 v4,σ=[some (.ref a),some (.ref ol),some (.ref d),v3,v4]/\H2 ol=some (.lst (eX ks i))/\H2 d=some (.dK (bg ks i))) #[J2 _,s0,_,_,rfl,by rw[aw hdo.symm]; exact aI,aI] ?_ ?_ ?_]
   . rintro i σ H2 hi ⟨_,s2,_⟩;exact s2.tup e1
   . rintro i x σ H2 b hx ⟨hi',s2,v3,v4,rfl,ho,hg⟩ hb;have hi:i<rs.length:=by have:=(Ic.mp hx).1;rw[IX] at this;exact this
     rw[Iu] at hx;have hx:V.ref rs[i]=x:=by simpa [hi] using hx
     subst hx;obtain⟨rest,hrow⟩:=e3 i rs[i] (by simp [hi]);have s3:aB H (upd H2 b (.tup [.int i,.ref rs[i]])):=s2.trans (aB.new hb);have ho3:=aB.new (o:=.tup [.int i,.ref rs[i]]) hb _ _ ho;have hg3:=aB.new (o:=.tup [.int i,.ref rs[i]]) hb _ _ hg;have sl:=D1 ks i;have bl:=qy ks i;refine#[b,_,rfl,aF.of aI,rfl,_,_,rfl,_,_,rfl,rfl,?_];refine#[_,rfl,rs[i],_,_,_,rfl,rfl,s3.tup hrow,at0,ay,λtw htw=>#[tw,[V.str "if",V.str "while"],rfl,.inr (aF.of aI),rfl,rfl,_,rfl,?_]];have s4:=s3.trans (aB.new (o:=.tup [V.str "if",V.str "while"]) htw);have ho4:=aB.new (o:=.tup [V.str "if",V.str "while"]) htw _ _ ho3;have hg4:=aB.new (o:=.tup [V.str "if",V.str "while"]) htw _ _ hg3;by_cases hO:isO (kd ks i)=true
     . refine aP ((inO _).trans hO) ?_;refine#[_,rfl,.inl #[rfl,_,aJ.of ho4],_,rfl,ol,_,_,rfl,rfl,ho4,lt_line' (by omega),?_];refine#[by omega,s4.upd hol,_,_,rfl,?_,?_]
       . rw[aI];have:stk ks (i+1)=i :: stk ks i:=by rw[dQ]; unfold push; rw[Ig hO]
         unfold eX;rw[this,List.reverse_cons,J0];rfl
       . rw[aw hdo,vM (nZ hO)];exact hg4
     refine ak (λz=>hO ((inO _).symm.trans z)) ?_;refine#[_,rfl,rs[i],_,_,_,rfl,rfl,s4.tup hrow,at0,rfl,_,rfl,?_];by_cases h1:kd ks i="else"
     . refine aP (IV (Iq V.str h1)) ?_;have hE:isE (kd ks i)=true:=by rw[h1]; decide +kernel
       obtain⟨t,r,ht⟩:∃t r,stk ks i=t :: r:=by
         cases z:stk ks i with
         | nil=>exact absurd z (w.open_ i (by omega) hE)
         | cons t r=>exact#[t,r,rfl]
       obtain⟨q1,q2,q3⟩:=vD ht;refine#[_,rfl,_,rfl,ol,_,_,_,rfl,rfl,aJ.of ho4,q1,_,rfl,_,rfl,d,_,rfl,dC.k (k:=Sum.inl (i:Int)) hg4 (lt_line' (by omega)),?_];refine#[by omega,s4.upd hd0,_,_,rfl,?_,?_]
       . rw[aw hdo.symm];have:stk ks (i+1)=stk ks i:=by rw[dQ]; unfold push; rw[IW hO,IW (by rw[h1]; exact jU)]
         unfold eX;rw[this];exact ho4
       . rw[aI,mE #[hE,by rw[ht]; rfl]]
     refine ak (λz=>h1 (V.str.inj (bD z))) ?_;refine#[_,rfl,rs[i],_,_,_,rfl,rfl,s4.tup hrow,at0,rfl,_,rfl,?_];by_cases h2:kd ks i="end"
     . refine aP (IV (Iq V.str h2)) ?_;have hE:isE (kd ks i)=true:=by rw[h2]; decide +kernel
       obtain⟨t,r,ht⟩:∃t r,stk ks i=t :: r:=by
         cases z:stk ks i with
         | nil=>exact absurd z (w.open_ i (by omega) hE)
         | cons t r=>exact#[t,r,rfl]
       obtain⟨q1,q2,q3⟩:=vD ht;refine#[_,rfl,.inl #[rfl,_,aJ.of ho4],ol,_,_,rfl,rfl,ho4,q2,_,rfl,_,rfl,d,_,rfl,dC.k (k:=Sum.inl (i:Int)) (by rw[aw hdo]; exact hg4) (lt_line' (by omega)),?_];refine#[by omega,(s4.upd hol).upd hd0,_,_,rfl,?_,?_]
       . rw[aw hdo.symm,aI,q3];have:stk ks (i+1)=r:=by rw[dQ]; unfold push; rw[IW hO,Ig h2,ht]; rfl
         unfold eX;rw[this]
       . rw[aI,mE #[hE,by rw[ht]; rfl]]
     refine ak (λz=>h2 (V.str.inj (bD z))) ?_;refine#[by omega,s4,_,_,rfl,?_,?_]
     . have:stk ks (i+1)=stk ks i:=by rw[dQ]; unfold push; rw[IW hO,IW h2]
       unfold eX;rw[this];exact ho4
     . rw[vM (F5 h1 h2)];exact hg4
   . rintro σ H2 ⟨_,s2,v3,v4,rfl,ho,hg⟩;rw[IX,e2] at hg;exact#[_,rfl,q d H2 s2 hd0 hg]
theorem gl:FnScope ["rows","begins","ends","k","begin","behind","follower","kind"] ["rows","begins"] (b6 jh):=by walk_at "s"
theorem HN (T:Txt K mg t):FnOk P w K mg base CX0 1 t.xU t.yc ["rows","begins"] (K13.sp_firsts_behind K):=by
 refine T.firsts_behind.F.ok gl (λvs H Q E h=>?_) (λcdv A outer s H vs Q E hr h=>?_)
 . obtain⟨a,d,ks,rfl,hR,w,hn,hd,q⟩:=h;rfl
 . skip
   refine lx ?_;intro XX;refine(let W3:TS:=_; have hW3:bQ XX ((bP jh).drop 3) W3:=(aK (cy PassesOwn.never rfl (DP rfl T.b_range (aC (@aM _ _ _ _ _ _ _ _ oy (cR oV (by rfl) T.b_len ci (aC (pv 0) aE rfl)) aD) (aC (cp cn aD) (aC (cp cn aD) aE rfl) rfl) rfl)) (bU (i:=3) gl.nd rfl (Or.inl rfl)) (aK (@al _ _ 6 _ _ _ _ gl.nd rfl (Or.inl rfl) (@aM _ _ _ _ _ _ _ _ cj (pv 3) aD) (by rfl) (by walk_at "f")) (aK (@al _ _ 7 _ _ _ _ gl.nd rfl (Or.inl rfl) (aG iJ (aG iJ (pv 0) (pv 6) (λ_ _=>rfl)) aD (λ_ _=>rfl)) (by rfl) (by walk_at "f")) (@aN _ _ _ (aj (ik au (pv 7) aS (aX _)) (@aN _ _ _ (eZ (aG j6 (pv 5) (fi (cK hr.units) (pv 2) (fi (cK hr.units) (pv 1) (pv 6) (λ_ _=>rfl)) (λ_ _=>rfl)) (λ_ _=>rfl)) (fQ (pv 5) (pv 3) fR))) (@aN _ _ _ (aj (@PW.pt _ _ _ (dN (ik au (pv 7) aS (aX _)) (dW (ik au (aG iJ (aG iJ (pv 0) (fi (cK hr.units) (pv 1) (pv 6) (λ_ _=>rfl)) (λ_ _=>rfl)) aD (λ_ _=>rfl)) aS (aX _))))) (@aN _ _ _ (eZ (fi (cK hr.units) (pv 1) (pv 6) (λ_ _=>rfl)) (fQ (pv 5) (pv 3) fR))) (@aN _ _ _ (aj (ik au (pv 7) aS (aX _)) (@aN _ _ _ (eZ (aG j6 (pv 5) (pv 6) (λ_ _=>rfl)) (fQ (pv 5) (pv 3) fR))) (@aN _ _ _ (eZ (pv 6) (fQ (pv 5) (pv 3) fR)))))))))))) (@aN _ _ _ (@aV _ _ _ _ (pv 5)))); ?_);refine(let W2:TS:=_; have hW2:bQ XX ((bP jh).drop 2) W2:=(aK (@al _ _ 5 _ _ _ _ gl.nd rfl (Or.inl rfl) (@aM _ _ _ _ _ _ _ _ lH (bu (aC eK aE rfl)) (cR oV (by rfl) T.b_len ci (aC (pv 0) aE rfl))) (by rfl) (by walk_at "f")) hW3); ?_);obtain⟨a,d,ks,rfl,hR,w,hn,hd,q⟩:=h;refine#[_,(aK (@al _ _ 2 _ _ _ _ gl.nd rfl (Or.inl rfl) gH (by rfl) (by walk_at "f")) (aK (cy PassesOwn.never rfl (qG (pv 1)) (eE rfl (cH (bU (i:=3) gl.nd rfl (Or.inl rfl)) (cH (bU (i:=4) gl.nd rfl (Or.inl rfl)) eC))) (@aN _ _ _ (eQ (cK hr.units) (pv 2) (pv 4) (pv 3) (by rfl)))) hW2)),?_];refine λed hed=>?_;have hde:d≠ed:=λz=>by rw[<- z,hd] at hed; cases hed
   refine#[_,rfl,d,bg ks ks.length,rfl,.inl #[aB.new hed _ _ hd,λo=>?_]];have sF:aB (upd H d (.frz o (.dK (bg ks ks.length)))) (upd (upd H ed (.dK [])) d (.frz o (.dK (bg ks ks.length)))):=λb u h=>by
     by_cases hb:b=d
     . subst hb;rw[aI] at h ⊢;exact h
     . rw[aw hb] at h ⊢;rw[aw (λz=>by rw[z,hed] at h; cases h)];exact h
   have hF:(upd H d (.frz o (.dK (bg ks ks.length)))) d=some (.frz o (.dK (bg ks ks.length))):=aI;have hedF:(upd H d (.frz o (.dK (bg ks ks.length)))) ed=none:=by rw[aw hde.symm]; exact hed
   have hRF:RowsAt K (upd H d (.frz o (.dK (bg ks ks.length)))) a ks:=hR.frz hd;have qF:∀l H',aB (upd H d (.frz o (.dK (bg ks ks.length)))) H'->(upd H d (.frz o (.dK (bg ks ks.length)))) l=none->uN H' l ks->Q (.ref l) H':=λl H' h1 h2 h3=>q l o H' h1 (by rw[aw (λz=>by rw[z,hF] at h2; cases h2)] at h2; exact h2) h3;generalize upd H d (.frz o (.dK (bg ks ks.length)))=HF at sF hF hedF hRF qF;have bl:=qy ks ks.length;have pl:=pN ks ks.length;refine oN (λi σ H2=>i<=(bg ks ks.length).length/\aB HF H2/\∃v3 v4 eds,σ=[some (.ref a),some (.ref d),some (.ref ed),v3,v4,none,none,none]/\H2 ed=some (.dK eds)/\eds.length<=i/\∀b:Nat,bN eds (Sum.inl (b:Int):aL)=(fE ((bc ks ks.length).take i) b).map λ(m:Nat)=>V.int (m:Int)) #[J2 _,sF,_,_,[],rfl,by rw[aw hde.symm]; exact aI,Ib _,λb=>rfl] ?_ ?_ ?_
   . rintro i σ H2 hi ⟨_,s2,_⟩;exact s2 _ _ hF
   . rintro i kv σ H2 b hkv ⟨hi,s2,v3,v4,eds,rfl,he,hel,hv⟩ hb;obtain⟨p,hp,rfl⟩:=rV hkv;have hlt:=(Ic.mp hkv).1;have he3:=aB.new (o:=.tup [V.int (p.1:Int),V.int (p.2:Int)]) hb _ _ he;refine#[b,_,rfl,aF.of aI,rfl,_,_,rfl,_,_,rfl,rfl,?_];refine#[_,rfl,_,rfl,_,rfl,ed,_,rfl,dC.k (k:=Sum.inl (p.2:Int)) he3 (lt_line' (by omega)),?_];refine#[hlt,(s2.trans (aB.new hb)).upd hedF,_,_,_,rfl,aI,?_,λb'=>?_]
     . exact J7 (dh _ _ _) (by omega)
     . rw[valV_put,Je,hp];show _=(fE ((bc ks ks.length).take i++[p]) b').map _;rw[wm,hv b'];by_cases h:p.2=b'
       . rw[Ig h,Ig (by rw[h])];rfl
       . rw[IW h,IW (λz=>h (by have:(b':Int)=(p.2:Int):=Sum.inl.inj z; omega))]
   . rintro σ H2 ⟨_,s2,v3,v4,eds,rfl,he,hel,hv⟩;have hv:∀b:Nat,bN eds (Sum.inl (b:Int):aL)=(fE (bc ks ks.length) b).map λ(m:Nat)=>V.int (m:Int):=λb=>by rw[hv b];unfold bg ft;rw[IX,JJ]
     obtain⟨rs,r1,r2,r3⟩:=hRF.ex;have rl:(rs.map V.ref).length=ks.length:=by rw[IX,r2]
     refine#[dE,λnl hnl=>#[_,rfl,a,_,rfl,.inr ((s2.trans (aB.new hnl)).tup r1),nl,_,_,rfl,rfl,aI,by omega,by rw[rl]; omega,by rw[rl]; exact cb (by simp; omega),λbl hbl=>?_]];have s3:=(s2.trans (aB.new (o:=.lst [V.non]) hnl)).trans (aB.new (o:=.lst (List.replicate (((rs.map V.ref).length:Int).toNat) [V.non]).flatten) hbl);have hbF:HF bl=none:=s2.free ((aB.new hnl).free hbl);have hbe:bl≠ed:=λz=>by have:=(aB.new hnl).free hbl;rw[z,he] at this;cases this
     have he3:=(aB.new (o:=.lst (List.replicate (((rs.map V.ref).length:Int).toNat) [V.non]).flatten) hbl) _ _ ((aB.new (o:=.lst [V.non]) hnl) _ _ he);refine#[_,rfl,a,_,rfl,.inr (s3.tup r1),_,_,rfl,rfl,_,rfl,_,rfl,(ks.length:Int) - 2,-1,by rw[rl],#[by omega,by omega,by omega,by omega],?_];have hnn:(((ks.length:Int) - 2) - -1).toNat=ks.length - 1:=by omega
     rw[hnn];refine Gc (λi σ H4=>aB HF H4/\∃v3 v4 v6 v7 bs,σ=[some (.ref a),some (.ref d),some (.ref ed),v3,v4,some (.ref bl),v6,v7]/\H4 ed=some (.dK eds)/\H4 bl=some (.lst bs)/\bs.length=ks.length/\∀k,k+1<ks.length->ks.length - 1 - i<=k->∃r:Nat,Beh ks k r/\bs[k]?=some (.int (r:Int))) #[s3,_,_,_,_,_,rfl,he3,aI,by rw[rl]; exact AB _,λk h1 h2=>by omega] ?_ ?_
     . rintro i σ H4 hi ⟨s4,v3,v4,v6,v7,bs,rfl,e4,b4,l4,hb4⟩;obtain⟨k,hk⟩:∃k:Nat,k+2+i=ks.length:=#[ks.length - 2 - i,by omega]
       have ek:((ks.length:Int) - 2) - (i:Int)=(k:Int):=by omega
       rw[ek];have hR4:=hRF.mono s4;have old:∀j,j+1<ks.length->k<j->∃r:Nat,Beh ks j r/\bs[j]?=some (.int (r:Int)):=λj h1 h2=>hb4 j h1 (by omega);have fin:∀(r:Nat) (v3 v4 v6 v7:Option V),Beh ks k r->aB HF (upd H4 bl (.lst (bs.set k (.int (r:Int)))))/\∃v3' v4' v6' v7' bs',([some (.ref a),some (.ref d),some (.ref ed),v3,v4,some (.ref bl),v6,v7]:St)=[some (.ref a),some (.ref d),some (.ref ed),v3',v4',some (.ref bl),v6',v7']/\(upd H4 bl (.lst (bs.set k (.int (r:Int))))) ed=some (.dK eds)/\(upd H4 bl (.lst (bs.set k (.int (r:Int))))) bl=some (.lst bs')/\bs'.length=ks.length/\∀j,j+1<ks.length->ks.length - 1 - (i+1)<=j->∃r:Nat,Beh ks j r/\bs'[j]?=some (.int (r:Int)):=λr v3 v4 v6 v7 hr=>by
         refine#[s4.upd hbF,_,_,_,_,_,rfl,by rw[aw hbe.symm]; exact e4,aI,by rw[JZ]; exact l4,λj h1 h2=>?_];by_cases hj:j=k
         . subst hj;exact#[r,hr,by rw[Jv (by omega)]]
         . obtain⟨r',q1,q2⟩:=old j h1 (by omega);exact#[r',q1,by rw[K3 (λz=>hj z.symm)]; exact q2]
       have hix:cX bs.length (k:Int)=some k:=by unfold cX;rw[Ig (by omega),Ig (by omega),JF]
       have at_bs:∀j r:Nat,bs[j]?=some (.int (r:Int))->bI bs (j:Int)=some (.int (r:Int)):=λj r h=>c7 h;refine#[_,rfl,_,_,rfl,rfl,?_];show j3 6 (V.int ((k:Int)+1)) _ _ _;rw[show((k:Int)+1)=((k+1:Nat):Int) by omega];refine#[_,rfl,_,rfl,ixk hR4 (by omega) (by omega) ?_];refine#[_,rfl,rfl,_,rfl,?_];have bO:isE (kd ks (k+1))=true->∃b,(stk ks (k+1)).head?=some b:=λh=>by
         cases z:stk ks (k+1) with
         | nil=>exact absurd z (w.open_ (k+1) (by omega) h)
         | cons b r=>exact#[b,rfl]
       have fz:Rd H4 d (.dK (bg ks ks.length)):=.inr #[o,s4 _ _ hF];by_cases h1:kd ks (k+1)="else"
       . refine aP (IV (Iq V.str h1)) ?_;have hE:isE (kd ks (k+1))=true:=by rw[h1]; decide +kernel
         obtain⟨b,hb⟩:=bO hE;have hbo:=pi (#[hE,hb]:cu ks b (k+1));obtain⟨e,hEn⟩:=uo w (by omega) hbo.2;have h5:k+1<=e:=vC hEn #[hE,hb];have h6:e+1<ks.length:=by
           rcases JM (e+1) ks.length with z|z
           . exact z
           . have:=w.last e (by have:=hEn.2.1; omega);rw[hEn.2.2.1] at this;exact absurd this.symm uV.2
         obtain⟨r,hr1,hr2⟩:=old e h6 (by omega);have g1:d7 H4 d (.int ((k+1:Nat):Int)) (some (.int (b:Int))):=.inl #[_,Sum.inl ((k+1:Nat):Int),fz,rfl,(uP ks.length (by omega) #[hE,hb]).symm];have g2:d7 H4 ed (.int (b:Int)) (some (.int (e:Int))):=.inl #[_,Sum.inl (b:Int),.inl e4,rfl,by rw[hv b,EW hEn]; rfl];exact#[_,rfl,_,rfl,_,rfl,_,rfl,d,_,rfl,g1,ed,_,rfl,g2,bl,_,_,_,rfl,rfl,aJ.of b4,at_bs e r hr2,_,rfl,_,rfl,bl,_,_,_,rfl,rfl,b4,hix,fin r _ _ _ _ (.els h1 hb hEn hr1)]
       refine ak (λz=>h1 (V.str.inj (bD z))) ?_;refine#[_,rfl,rfl,_,rfl,?_];by_cases h2:kd ks (k+1)="end"
       . have hE:isE (kd ks (k+1))=true:=by rw[h2]; decide +kernel
         obtain⟨b,hb⟩:=bO hE;have hbo:=pi (#[hE,hb]:cu ks b (k+1));have g1:d7 H4 d (.int ((k+1:Nat):Int)) (some (.int (b:Int))):=.inl #[_,Sum.inl ((k+1:Nat):Int),fz,rfl,(uP ks.length (by omega) #[hE,hb]).symm];refine aP (IV (Iq V.str h2)) ?_;refine#[_,rfl,_,rfl,_,rfl,d,_,rfl,g1,ixk hR4 (by omega) (by omega) #[rfl,_,rfl,?_]];by_cases h3:kd ks b="while"
         . refine aP (IV (Iq V.str h3)) ?_;exact#[_,rfl,_,rfl,d,_,rfl,g1,_,rfl,_,rfl,bl,_,_,_,rfl,rfl,b4,hix,fin b _ _ _ _ (.whl h2 hb h3)]
         . refine ak (λz=>h3 (V.str.inj (bD z))) ?_;refine#[_,rfl,rfl,_,rfl,aP (IV (Iq V.str h2)) ?_];have h6:k+1+1<ks.length:=by
             rcases JM (k+1+1) ks.length with z|z
             . exact z
             . have:=w.last (k+1) (by omega);rw[h2] at this;exact absurd this.symm uV.2
           obtain⟨r,hr1,hr2⟩:=old (k+1) h6 (by omega);exact#[_,rfl,_,rfl,bl,_,_,_,rfl,rfl,aJ.of b4,at_bs (k+1) r hr2,_,rfl,_,rfl,bl,_,_,_,rfl,rfl,b4,hix,fin r _ _ _ _ (.fin h2 hb h3 hr1)]
       . refine ak (λz=>h2 (V.str.inj (bD z))) (j2 ?_);refine#[_,rfl,rfl,_,rfl,ak (λz=>h2 (V.str.inj (bD z))) ?_];exact#[_,rfl,_,rfl,_,rfl,bl,_,_,_,rfl,rfl,b4,hix,fin (k+1) _ _ _ _ (.oth h1 h2)]
     . rintro σ H4 ⟨s4,v3,v4,v6,v7,bs,rfl,e4,b4,l4,hb4⟩;exact#[_,rfl,qF bl H4 s4 hbF #[bs,b4,l4,λk h1=>hb4 k h1 (by omega)]]
theorem gd:FnScope ["rows","begins","behind","turns","k","begin","found","row"] ["rows"] (b6 kZ):=by walk_at "s"
theorem AV (T:Txt K mg t):FnOk P w K mg base CX0 2 t.yI t.zM ["rows"] (K13.sp_ways K):=by
 have Qw:=Ez (P:=P) (w:=w) (base:=base) T;have Qx:=HN (P:=P) (w:=w) (base:=base) T;refine T.ways.F.ok gd (λvs H Q E h=>?_) (λcdv A outer s H vs Q E hr h=>?_)
 . obtain⟨a,ks,rfl,hR,w,hn,q⟩:=h;rfl
 . skip
   refine lx ?_;intro XX;refine(let W5:TS:=_; have hW5:bQ XX ((bP kZ).drop 5) W5:=(aK (cy PassesOwn.never rfl (vc rfl T.b_enumerate (aC (pv 0) aE rfl)) (eE rfl (cH (bU (i:=4) gd.nd rfl (Or.inl rfl)) (cH (bU (i:=7) gd.nd rfl (Or.inl rfl)) eC))) (@aN _ _ _ (aj (ik fm (aG iJ (pv 7) aD (λ_ _=>rfl)) (aq (aC aS (aC aS aE rfl) rfl)) (by with_unfolding_all rfl)) (@aN _ _ _ (@fB _ _ _ _ (dg J5 JD JE iX (pv 6) (aC eK aE rfl)) (by rfl))) (@aN _ _ _ (aj (ik au (aG iJ (pv 7) aD (λ_ _=>rfl)) aS (aX _)) (@aN _ _ _ (@fB _ _ _ _ (dg J5 JD JE iX (pv 6) (aC (aq aE) aE rfl)) (by rfl))) (@aN _ _ _ (aj (fJ (GK (cK hr.units) (pv 4) (pv 3))) (@aN _ _ _ (@fB _ _ _ _ (dg J5 JD JE iX (pv 6) (aC (aq (aC (aG j6 (pv 2) (pv 4) (λ_ _=>rfl)) (aC (aG j6 (pv 2) (fi (cK hr.units) (pv 3) (pv 4) (λ_ _=>rfl)) (λ_ _=>rfl)) aE rfl) rfl)) aE rfl)) (by rfl))) (@aN _ _ _ (@fB _ _ _ _ (dg J5 JD JE iX (pv 6) (aC (aq (aC (aG j6 (pv 2) (pv 4) (λ_ _=>rfl)) aE rfl)) aE rfl)) (by rfl)))))))))) (@aN _ _ _ (@aV _ _ _ _ (pv 6)))); ?_);refine(let W3:TS:=_; have hW3:bQ XX ((bP kZ).drop 3) W3:=(aK (cy PassesOwn.never rfl (qG (pv 1)) (eE rfl (cH (bU (i:=4) gd.nd rfl (Or.inl rfl)) (cH (bU (i:=5) gd.nd rfl (Or.inl rfl)) eC))) (@aN _ _ _ (@fB _ _ _ _ (Dw (pv 3) (pv 5) (pv 4) #[rfl,rfl,rfl,rfl]) (by rfl)))) (aK (@al _ _ 6 _ _ _ _ gd.nd rfl (Or.inl rfl) (bu aE) (by rfl) (by walk_at "f")) hW5)); ?_);obtain⟨a,ks,rfl,hR,w,hn,q⟩:=h;refine#[_,(aK (@al _ _ 1 _ _ _ _ gd.nd rfl (Or.inl rfl) (bG T.begins_of Qw (hr.mono (by decide)) (aC (pv 0) aE rfl)) (by rfl) (by walk_at "f")) (aK (@al _ _ 2 _ _ _ _ gd.nd rfl (Or.inl rfl) (bG T.firsts_behind Qx (hr.mono (by decide)) (aC (pv 0) (aC (pv 1) aE rfl) rfl)) (by rfl) (by walk_at "f")) (aK (@al _ _ 3 _ _ _ _ gd.nd rfl (Or.inl rfl) gH (by rfl) (by walk_at "f")) hW3))),?_];refine#[_,rfl,a,ks,rfl,hR,w,hn,λd H1 s1 n1 e1=>?_];refine#[_,rfl,_,rfl,a,d,ks,rfl,hR.mono s1,w,hn,e1,λl o H2 s2 n2 hB=>?_];have s02:aB H H2:=(s1.upd n1).trans s2;have hdF:H2 d=some (.frz o (.dK (bg ks ks.length))):=s2 _ _ aI;have hl0:H l=none:=s1.free n2;refine λtd htd=>?_;have bl:=qy ks ks.length;obtain⟨bs,hb1,hb2,hb3⟩:=hB;refine#[_,rfl,d,bg ks ks.length,rfl,.inr #[o,aB.new htd _ _ hdF,?_]];refine oN (λi σ H3=>i<=(bg ks ks.length).length/\aB H2 H3/\∃v4 v5 tds,σ=[some (.ref a),some (.ref d),some (.ref l),some (.ref td),v4,v5,none,none]/\H3 td=some (.dK tds)/\tds.length<=i/\∀b:Nat,bN tds (Sum.inl (b:Int):aL)=(cW ((bc ks ks.length).take i) b).map λ(m:Nat)=>V.int (m:Int)) #[J2 _,aB.new htd,_,_,[],rfl,aI,Ib _,λb=>rfl] ?_ ?_ ?_
   . rintro i σ H3 hi ⟨_,s3,_⟩;exact s3 _ _ hdF
   . rintro i kv σ H3 b hkv ⟨hi,s3,v4,v5,tds,rfl,he,hel,hv⟩ hb;obtain⟨p,hp,rfl⟩:=rV hkv;have hlt:=(Ic.mp hkv).1;have he3:=aB.new (o:=.tup [V.int (p.1:Int),V.int (p.2:Int)]) hb _ _ he;refine#[b,_,rfl,aF.of aI,rfl,_,_,rfl,_,_,rfl,rfl,?_];have tk:∀b',cW ((bc ks ks.length).take (i+1)) b'=if(cW ((bc ks ks.length).take i) b').isSome=true then cW ((bc ks ks.length).take i) b' else if p.2=b' then some p.1 else none:=λb'=>by rw[Je,hp];exact vz _ p b'
     refine#[_,rfl,td,rfl,.inl #[tds,.inl he3],_,rfl,_,rfl,tds,Sum.inl (p.2:Int),he3,rfl,lt_line' (by omega),λv hv'=>?_,λhv'=>?_]
     . refine#[hlt,s3.trans (aB.new hb),_,_,tds,rfl,he3,by omega,λb'=>?_];rw[hv b',tk b'];cases z:cW ((bc ks ks.length).take i) b' with
       | some m=>rfl
       | none =>
         rw[IW (show ¬ (none:Option Nat).isSome=true by decide),IW];intro h;rw[h,hv b',z] at hv';cases hv'
     . refine#[hlt,(s3.trans (aB.new hb)).upd htd,_,_,_,rfl,aI,J7 (dh _ _ _) (by omega),λb'=>?_];rw[valV_put,tk b'];by_cases h:p.2=b'
       . subst h;have z:cW ((bc ks ks.length).take i) p.2=none:=by
           rw[hv p.2] at hv';cases y:cW ((bc ks ks.length).take i) p.2 with
           | none=>rfl
           | some m=>rw[y] at hv'; cases hv'
         rw[Ig rfl,z,IW (show ¬ (none:Option Nat).isSome=true by decide),Ig rfl];rfl
       . rw[IW (λz=>h (by have:(b':Int)=(p.2:Int):=Sum.inl.inj z; omega)),hv b',IW h];cases z:cW ((bc ks ks.length).take i) b' with
         | some m=>rfl
         | none=>rfl
   . rintro σ H3 ⟨_,s3,v4,v5,tds,rfl,he,hel,hv⟩;have hv:∀b:Nat,bN tds (Sum.inl (b:Int):aL)=(cW (bc ks ks.length) b).map λ(m:Nat)=>V.int (m:Int):=λb=>by rw[hv b];unfold bg ft;rw[IX,JJ]
     obtain⟨rs,r1,r2,r3⟩:=hR.ex;refine#[dw,λfl hfl=>?_];have s03:=s02.trans s3;have hf2:H3 fl=none:=hfl;have htf:td≠fl:=λz=>by rw[<- z,he] at hfl; cases hfl
     have hf0:H fl=none:=s03.free hfl;refine#[_,rfl,a,rfl,#[_,(s03.trans (aB.new hfl)).tup r1],vX (xs:=rs.map V.ref) (λi σ H4=>i<=ks.length/\aB H3 H4/\(∃v4 v5 v7,σ=[some (.ref a),some (.ref d),some (.ref l),some (.ref td),v4,v5,some (.ref fl),v7])/\FoundN H4 fl ks i) #[J2 _,aB.new hfl,#[_,_,_,rfl],#[[],aI,rfl,λk v z=>by simp at z]] ?_ ?_ ?_]
     . rintro i σ H4 hi ⟨_,s4,_⟩;exact(s03.trans s4).tup r1
     . rintro i x σ H4 b hx ⟨hi',s4,⟨v4,v5,v7,rfl⟩,hF⟩ hb;have hi:i<rs.length:=by have:=(Ic.mp hx).1;rw[IX] at this;exact this
       rw[Iu] at hx;have hx:V.ref rs[i]=x:=by simpa [hi] using hx
       subst hx;obtain⟨rest,hrow⟩:=r3 i rs[i] (by simp [hi]);have s5:=s4.trans (aB.new (o:=.tup [.int i,.ref rs[i]]) hb);have hF5:=hF.mono (aB.new (o:=.tup [.int i,.ref rs[i]]) hb);refine#[b,_,rfl,aF.of aI,rfl,_,_,rfl,_,_,rfl,rfl,?_];refine#[_,rfl,rs[i],_,_,_,rfl,rfl,(s03.trans s5).tup hrow,at0,ay,λtw htw=>#[tw,[V.str "else",V.str "end"],rfl,.inr (aF.of aI),rfl,rfl,_,rfl,?_]];have s6:=s5.trans (aB.new (o:=.tup [V.str "else",V.str "end"]) htw);obtain⟨vs,f1,f2,f3⟩:=hF5.mono (aB.new (o:=.tup [V.str "else",V.str "end"]) htw);generalize upd (upd H4 b (.tup [.int i,.ref rs[i]])) tw (.tup [V.str "else",V.str "end"])=H6 at s6 f1 f3 ⊢;have s06:=s03.trans s6;have fin:∀{H7:Hp} {v:V} {oo:Option (List Nat)} (u4 u5 u7:Option V),aB H6 H7->Due ks i oo->fZ H7 v oo->i+1<=ks.length/\aB H3 (upd H7 fl (.lst (vs++[v])))/\(∃v4 v5 v7,([some (.ref a),some (.ref d),some (.ref l),some (.ref td),u4,u5,some (.ref fl),u7]:St)=[some (.ref a),some (.ref d),some (.ref l),some (.ref td),v4,v5,some (.ref fl),v7])/\FoundN (upd H7 fl (.lst (vs++[v]))) fl ks (i+1):=λu4 u5 u7 s7 hd hv=>by refine#[by omega,(s6.trans s7).upd hfl,#[_,_,_,rfl],FoundN.push (s7 _ _ f1) f2 (λk v z=>?_) hd hv];obtain⟨o',d',y⟩:=f3 k v z;exact#[o',d',y.mono s7]
       by_cases hE:isE (kd ks i)=true
       . refine aP ((inE _).trans hE) ?_;exact#[_,rfl,.inl #[rfl,_,aJ.of f1],fl,_,_,rfl,rfl,f1,lt_line' (by omega),fin _ _ _ (aB.refl _) (.no hE) rfl]
       refine ak (λz=>hE ((inE _).symm.trans z)) ?_;refine#[_,rfl,rs[i],_,_,_,rfl,rfl,s06.tup hrow,at0,rfl,_,rfl,?_];by_cases hbk:kd ks i="back"
       . refine aP (IV (Iq V.str hbk)) ?_;exact#[_,rfl,.inl #[rfl,_,aJ.of f1],dw,λp hp=>#[fl,_,_,rfl,rfl,aB.new hp _ _ f1,lt_line' (by omega),fin _ _ _ (aB.new hp) (.back hbk) #[p,rfl,aI]]]
       refine ak (λz=>hbk (V.str.inj (bD z))) ?_;have hlast:=ug w (by omega) hbk;obtain⟨r,hr1,hr2⟩:=hb3 i hlast;have hb6:=(s3.trans s6) _ _ hb1;have ht6:=s6 _ _ he;refine#[_,rfl,_,rfl,td,_,rfl,d7.k (k:=Sum.inl (i:Int)) ht6,_,rfl,?_];by_cases hO:isO (kd ks i)=true
       . obtain⟨e,hEn⟩:=uo w (by omega) hO;obtain⟨f,hf⟩:=EL hEn;obtain⟨r',hr3,hr4⟩:=hb3 f (He w hf);have hvi:bN tds (Sum.inl (i:Int):aL)=some (V.int (f:Int)):=by rw[hv i,DA hf]; rfl
         refine aP (by rw[hvi]; rfl) ?_;have g:d7 H6 td (.int (i:Int)) (some (V.int (f:Int))):=.inl #[_,Sum.inl (i:Int),.inl ht6,rfl,hvi.symm];exact#[_,rfl,.inl #[rfl,_,aJ.of f1],_,rfl,_,rfl,l,_,_,_,rfl,rfl,aJ.of hb6,c7 hr2,_,rfl,_,rfl,_,rfl,td,_,rfl,g,l,_,_,_,rfl,rfl,aJ.of hb6,c7 hr4,ay,λp hp=>#[fl,_,_,rfl,rfl,aB.new hp _ _ f1,lt_line' (by omega),fin _ _ _ (aB.new hp) (.two hO hf hr1 hr3) #[p,rfl,aI]]]
       . have hvi:bN tds (Sum.inl (i:Int):aL)=none:=by rw[hv i,GB hO]; rfl
         refine ak (by rw[hvi]; decide) ?_;exact#[_,rfl,.inl #[rfl,_,aJ.of f1],_,rfl,_,rfl,l,_,_,_,rfl,rfl,aJ.of hb6,c7 hr2,dE,λp hp=>#[fl,_,_,rfl,rfl,aB.new hp _ _ f1,lt_line' (by omega),fin _ _ _ (aB.new hp) (.one hE hbk hO hr1) #[p,rfl,aI]]]
     . rintro σ H4 ⟨_,s4,⟨v4,v5,v7,rfl⟩,hF⟩;rw[IX,r2] at hF;exact#[_,rfl,q fl H4 (s03.trans s4) hf0 hF]
end
end K44
namespace K44
open PySem L2 Gx Fl F2
section
variable {P:Program} {w:World} {K:W.Frag} {mg:Str->Option Value} {base:Heap} {t:Adr}
theorem qb:FnScope ["self","program","k","function"] ["self","program"] (b6 mT):=by walk_at "s"
theorem CD (T:Txt K mg t):FnOk P w K mg base CX0 4 t.xD t.yL ["self","program"] (DZ K t):=by
 have Qy:=EA (P:=P) (w:=w) (base:=base) T;have Qz:=AV (P:=P) (w:=w) (base:=base) T;refine T.xB.F.ok qb (λvs H Q E h=>?_) (λcdv A outer s H vs Q E hr h=>?_)
 . obtain⟨x,dx,p,fns,rfl,hx,hS,n0,n12,hE,nd,q⟩:=h;rfl
 . skip
   refine lx ?_;intro XX;refine(let W7:TS:=_; have hW7:bQ XX ((bP mT).drop 7) W7:=(@aN _ _ _ (cy PassesOwn.never rfl (Ad rfl T.b_enumerate (aC (a9 1) aE rfl)) (eE rfl (cH (bU (i:=2) qb.nd rfl (Or.inl rfl)) (cH (bU (i:=3) qb.nd rfl (Or.inl rfl)) eC))) (aK (eQ (cK hr.units) (bM (a9 0) (by rfl)) (aG (show aH _ (aQ K) from aR) (a9 3) aD (λ_ _=>rfl)) (a9 2) (by rfl)) (aK (eQ (cK hr.units) (bM (a9 0) (by rfl)) (aG (show aH _ (aQ K) from aR) (a9 3) aD (λ_ _=>rfl)) (aG (show aH _ (aQ K) from aR) (a9 3) aD (λ_ _=>rfl)) (by rfl)) (aK (eQ (cK hr.units) (bM (a9 0) (by rfl)) (aG (show aH _ (aQ K) from aR) (a9 3) aD (λ_ _=>rfl)) (aG (show aH _ (aQ K) from aR) (a9 3) aD (λ_ _=>rfl)) (by rfl)) (aK (eQ (cK hr.units) (bM (a9 0) (by rfl)) (aG (show aH _ (aQ K) from aR) (a9 3) aD (λ_ _=>rfl)) (aG (show aH _ (aQ K) from aR) (a9 3) aD (λ_ _=>rfl)) (by rfl)) (aK (eQ (cK hr.units) (bM (a9 0) (by rfl)) (aG (show aH _ (aQ K) from aR) (a9 3) aD (λ_ _=>rfl)) (bG T.names_of Qy (hr.mono (by decide)) (aC (a9 3) aE rfl)) (by rfl)) (@aN _ _ _ (eQ (cK hr.units) (bM (a9 0) (by rfl)) (aG (show aH _ (aQ K) from aR) (a9 3) aD (λ_ _=>rfl)) (bG T.ways Qz (hr.mono (by decide)) (aC (aG (show aH _ (aQ K) from aR) (a9 3) aD (λ_ _=>rfl)) aE rfl)) (by rfl)))))))))); ?_);obtain⟨x,dx,p,fns,rfl,hx,hS,n0,n12,hE,nd,q⟩:=h;refine#[_,(aK (dr (a9 0) (aG (show aH _ (aQ K) from aR) (aG (show aH _ (af K) from ag) (a9 1) (cp cn aD) (λ_ _=>rfl)) aD (λ_ _=>rfl)) (by rfl)) (aK (dr (a9 0) gH (by rfl)) (aK (dr (a9 0) gH (by rfl)) (aK (dr (a9 0) gH (by rfl)) (aK (dr (a9 0) gH (by rfl)) (aK (dr (a9 0) gH (by rfl)) (cx (dr (a9 0) gH (by rfl)) hW7))))))),?_];have fl:(fns.map λf=>V.ref f.fa).length=fns.length:=IX _;have np:0<fns.length:=List.length_pos_iff.mpr n0;obtain⟨fz,hz⟩:∃fz,fns[fns.length - 1]?=some fz:=#[fns[fns.length - 1],Iw (by omega)]
   have hzT:=(hE fz (Ij hz)).fn;have eL:bI (fns.map λf=>V.ref f.fa) (-1)=some (V.ref fz.fa):=by
     unfold bI cX;rw[IW (by decide),Ig (by rw[fl]; omega),LN];have:((-1:Int)+((fns.map λf=>V.ref f.fa).length:Int)).toNat=fns.length - 1:=by rw[fl]; omega
     rw[this,Iu,hz];rfl
   refine#[_,rfl,_,rfl,p,_,_,_,rfl,rfl,dq.seq hS,eL,fz.fa,_,_,_,rfl,rfl,dq.tup hzT,at0,_,rfl,x,t.bX,dx,_,rfl,hx,T.cw.cl,T.IR,(by show 0<1000; decide),?_];have sx:∀{b:Addr} {o:HO},ers x H b=some o->b≠x/\H b=some o:=λ{b o} e=>by
     have hb:b≠x:=λz=>by rw[z] at e; unfold ers at e; rw[Ig rfl] at e; cases e
     rw[cC hb] at e;exact#[hb,e]
   have l1:=eR "last" (V.str fz.name) [] 0 (Ib _);intro d0 h0;refine#[_,rfl,x,t.bX,dx,_,rfl,bR aI (Ne.symm (bY h0).1),T.cw.cl,T.zi,(by omega),?_];have l2:=eR "number_of" (.ref d0) _ 1 l1;intro d1 h1;refine#[_,rfl,x,t.bX,dx,_,rfl,bR aI (Ne.symm (bY h1).1),T.cw.cl,T.zh,(by omega),?_];have l3:=eR "folded_of" (.ref d1) _ 2 l2;intro d2 h2;refine#[_,rfl,x,t.bX,dx,_,rfl,bR aI (Ne.symm (bY h2).1),T.cw.cl,T.zj,(by omega),?_];have l4:=eR "params_of" (.ref d2) _ 3 l3;intro d3 h3;refine#[_,rfl,x,t.bX,dx,_,rfl,bR aI (Ne.symm (bY h3).1),T.cw.cl,T.rN,(by omega),?_];have l5:=eR "rows_of" (.ref d3) _ 4 l4;intro d4 h4;refine#[_,rfl,x,t.bX,dx,_,rfl,bR aI (Ne.symm (bY h4).1),T.cw.cl,T.rM,(by omega),?_];have l6:=eR "names_in" (.ref d4) _ 5 l5;refine#[λσ' G=>∃d:Nat->Addr,σ'=[some (.ref x),some (.ref p),none,none]/\FS t.bX G x dx (du (V.str fz.name) d) d (λ_=>[])/\(∀i j,i<6->j<6->d i=d j->i=j)/\aB (ers x H) G/\∀k,ers x H (d k)=none,?_,?_]
   . intro d5 h5;obtain⟨nx0,z0⟩:=bY h0;have q0:H d0=none:=z0;obtain⟨nx1,z1⟩:=bY h1;obtain⟨n10,w10⟩:=bY z1;obtain⟨_,y10⟩:=bY w10;have q1:H d1=none:=y10;obtain⟨nx2,z2⟩:=bY h2;obtain⟨n21,w21⟩:=bY z2;obtain⟨_,y21⟩:=bY w21;obtain⟨n20,w20⟩:=bY y21;obtain⟨_,y20⟩:=bY w20;have q2:H d2=none:=y20;obtain⟨nx3,z3⟩:=bY h3;obtain⟨n32,w32⟩:=bY z3;obtain⟨_,y32⟩:=bY w32;obtain⟨n31,w31⟩:=bY y32;obtain⟨_,y31⟩:=bY w31;obtain⟨n30,w30⟩:=bY y31;obtain⟨_,y30⟩:=bY w30;have q3:H d3=none:=y30;obtain⟨nx4,z4⟩:=bY h4;obtain⟨n43,w43⟩:=bY z4;obtain⟨_,y43⟩:=bY w43;obtain⟨n42,w42⟩:=bY y43;obtain⟨_,y42⟩:=bY w42;obtain⟨n41,w41⟩:=bY y42;obtain⟨_,y41⟩:=bY w41;obtain⟨n40,w40⟩:=bY y41;obtain⟨_,y40⟩:=bY w40;have q4:H d4=none:=y40;obtain⟨nx5,z5⟩:=bY h5;obtain⟨n54,w54⟩:=bY z5;obtain⟨_,y54⟩:=bY w54;obtain⟨n53,w53⟩:=bY y54;obtain⟨_,y53⟩:=bY w53;obtain⟨n52,w52⟩:=bY y53;obtain⟨_,y52⟩:=bY w52;obtain⟨n51,w51⟩:=bY y52;obtain⟨_,y51⟩:=bY w51;obtain⟨n50,w50⟩:=bY y51;obtain⟨_,y50⟩:=bY w50;have q5:H d5=none:=y50;have inj:∀i j,i<6->j<6->dd d0 d1 d2 d3 d4 d5 i=dd d0 d1 d2 d3 d4 d5 j->i=j:=λi j hi hj e=>by
       match i,j,hi,hj with
       | 0,0,_,_=>rfl
       | 0,1,_,_=>exact absurd e.symm n10
       | 0,2,_,_=>exact absurd e.symm n20
       | 0,3,_,_=>exact absurd e.symm n30
       | 0,4,_,_=>exact absurd e.symm n40
       | 0,5,_,_=>exact absurd e.symm n50
       | 1,0,_,_=>exact absurd e n10
       | 1,1,_,_=>rfl
       | 1,2,_,_=>exact absurd e.symm n21
       | 1,3,_,_=>exact absurd e.symm n31
       | 1,4,_,_=>exact absurd e.symm n41
       | 1,5,_,_=>exact absurd e.symm n51
       | 2,0,_,_=>exact absurd e n20
       | 2,1,_,_=>exact absurd e n21
       | 2,2,_,_=>rfl
       | 2,3,_,_=>exact absurd e.symm n32
       | 2,4,_,_=>exact absurd e.symm n42
       | 2,5,_,_=>exact absurd e.symm n52
       | 3,0,_,_=>exact absurd e n30
       | 3,1,_,_=>exact absurd e n31
       | 3,2,_,_=>exact absurd e n32
       | 3,3,_,_=>rfl
       | 3,4,_,_=>exact absurd e.symm n43
       | 3,5,_,_=>exact absurd e.symm n53
       | 4,0,_,_=>exact absurd e n40
       | 4,1,_,_=>exact absurd e n41
       | 4,2,_,_=>exact absurd e n42
       | 4,3,_,_=>exact absurd e n43
       | 4,4,_,_=>rfl
       | 4,5,_,_=>exact absurd e.symm n54
       | 5,0,_,_=>exact absurd e n50
       | 5,1,_,_=>exact absurd e n51
       | 5,2,_,_=>exact absurd e n52
       | 5,3,_,_=>exact absurd e n53
       | 5,4,_,_=>exact absurd e n54
       | 5,5,_,_=>rfl
       | n+6,_,h,_=>omega
       | _,n+6,_,h=>omega
     refine#[_,rfl,x,t.bX,dx,_,rfl,bR aI (Ne.symm nx5),T.cw.cl,T.rO,(by omega),dd d0 d1 d2 d3 d4 d5,rfl,#[aI,λj hj=>?_],inj,λb o e=>bR (bR (bR (bR (bR (bR (bR (bR (bR (bR (bR (bR (bR (sx e).2 (sx e).1) (cS (sx e).2 q0)) (sx e).1) (cS (sx e).2 q1)) (sx e).1) (cS (sx e).2 q2)) (sx e).1) (cS (sx e).2 q3)) (sx e).1) (cS (sx e).2 q4)) (sx e).1) (cS (sx e).2 q5)) (sx e).1,λk=>?_]
     . match j,hj with
       | 0,_=>exact bR (bR (bR (bR (bR (bR (bR (bR (bR (bR (bR aI nx0) (Ne.symm n10)) nx0) (Ne.symm n20)) nx0) (Ne.symm n30)) nx0) (Ne.symm n40)) nx0) (Ne.symm n50)) nx0
       | 1,_=>exact bR (bR (bR (bR (bR (bR (bR (bR (bR aI nx1) (Ne.symm n21)) nx1) (Ne.symm n31)) nx1) (Ne.symm n41)) nx1) (Ne.symm n51)) nx1
       | 2,_=>exact bR (bR (bR (bR (bR (bR (bR aI nx2) (Ne.symm n32)) nx2) (Ne.symm n42)) nx2) (Ne.symm n52)) nx2
       | 3,_=>exact bR (bR (bR (bR (bR aI nx3) (Ne.symm n43)) nx3) (Ne.symm n53)) nx3
       | 4,_=>exact bR (bR (bR aI nx4) (Ne.symm n54)) nx4
       | 5,_=>exact bR aI nx5
       | n+6,h=>omega
     . match k with
       | 0=>exact(cC nx0).trans q0
       | 1=>exact(cC nx1).trans q1
       | 2=>exact(cC nx2).trans q2
       | 3=>exact(cC nx3).trans q3
       | 4=>exact(cC nx4).trans q4
       | n+5=>exact(cC nx5).trans q5
   rintro σ' G ⟨d,rfl,hFS,inj,hsm,hfd⟩;refine#[_,rfl,p,rfl,#[_,hsm.seq hS],(let Jv1:Nat->St->Hp->Prop:=λi σ H2=>∃(v2 v3:Option V) (kv:Nat->List (aL×V)) (nl wl:Nat->Addr),σ=[some (.ref x),some (.ref p),v2,v3]/\aB (ers x H) H2/\FS t.bX H2 x dx (du (V.str fz.name) d) d kv/\kv 0=kD (λi _=>.int i) (fns.take i)/\kv 1=kD (λ_ f=>f.fo) (fns.take i)/\kv 2=kD (λ_ f=>.ref f.pa) (fns.take i)/\kv 3=kD (λ_ f=>.ref f.ra) (fns.take i)/\kv 4=kD (λi _=>.ref (nl i)) (fns.take i)/\kv 5=kD (λi _=>.ref (wl i)) (fns.take i)/\(∀j g,j<i->fns[j]?=some g->hl H2 (nl j)=some (.lst ((nms g).map V.str))/\K13.FoundN (hl H2) (wl j) (kds g) (kds g).length)/\∀j,j<6->(kv j).length<=i; AU (xs:=fns.map λf=>V.ref f.fa) Jv1 #[_,_,_,λ_=>0,λ_=>0,rfl,hsm,hFS,rfl,rfl,rfl,rfl,rfl,rfl,λj g h=>absurd h (JR _),λj hj=>Ib _] ?_ ?_ ?_)]
   . rintro i σ H2 hi ⟨v2,v3,kv,nlf,wlf,rfl,s2,_⟩;exact s2.seq hS
   . rintro i y σ H2 b hy ⟨v2,v3,kv,nlf,wlf,rfl,s2,o2,k0,k1,k2,k3,k4,k5,hnw,kl⟩ hb;obtain⟨f,hi,hm,rfl⟩:=FJ hy;have ilt:i<fns.length:=(Ic.mp hi).1;have hT:=(hE f hm).fn;have hfu:=(hE f hm).fu;have fit:∀{n:Nat},n<=i+1->n<sizeLine:=λ{n} h=>wC (by omega);refine#[b,_,rfl,aF.of aI,rfl,_,_,rfl,_,_,rfl,rfl,?_];have s3:=s2.trans (aB.new (o:=.tup [.int i,.ref f.fa]) hb);have o3:=o2.mono (aB.new (o:=.tup [.int i,.ref f.fa]) hb);refine#[_,rfl,_,rfl,x,t.bX,dx,_,_,rfl,o3.ob,T.cw.cl,T.zi,zy _ _,_,rfl,f.fa,_,_,_,rfl,rfl,s3.tup hT,at0,d 0,_,rfl,dC.k (k:=(Sum.inr f.name:aL)) (show _=some (HO.dK (kv 0)) from o3.dc 0 (by decide)) (fit (by have:=kl 0 (by decide); simpa using (by omega:_<=i+1))),?_];have s4:=aB.upd (o:=.dK (ao (kv 0) (Sum.inr f.name:aL) (V.int i))) s3 (hfd 0);have o4:=o3.put inj 0 (by decide) (ao (kv 0) (Sum.inr f.name:aL) (V.int i));refine#[_,rfl,f.fa,_,_,_,rfl,rfl,s4.tup hT,rfl,_,rfl,x,t.bX,dx,_,_,rfl,o4.ob,T.cw.cl,T.zh,Cr _ _,_,rfl,f.fa,_,_,_,rfl,rfl,s4.tup hT,at0,d 1,_,rfl,dC.k (k:=(Sum.inr f.name:aL)) (show _=some (HO.dK (kv 1)) from o4.dc 1 (by decide)) (fit (by have:=kl 1 (by decide); simpa using (by omega:_<=i+1))),?_];have s5:=aB.upd (o:=.dK (ao (kv 1) (Sum.inr f.name:aL) f.fo)) s4 (hfd 1);have o5:=o4.put inj 1 (by decide) (ao (kv 1) (Sum.inr f.name:aL) f.fo);refine#[_,rfl,f.fa,_,_,_,rfl,rfl,s5.tup hT,rfl,_,rfl,x,t.bX,dx,_,_,rfl,o5.ob,T.cw.cl,T.zj,IL _ _,_,rfl,f.fa,_,_,_,rfl,rfl,s5.tup hT,at0,d 2,_,rfl,dC.k (k:=(Sum.inr f.name:aL)) (show _=some (HO.dK (kv 2)) from o5.dc 2 (by decide)) (fit (by have:=kl 2 (by decide); simpa using (by omega:_<=i+1))),?_];have s6:=aB.upd (o:=.dK (ao (kv 2) (Sum.inr f.name:aL) (.ref f.pa))) s5 (hfd 2);have o6:=o5.put inj 2 (by decide) (ao (kv 2) (Sum.inr f.name:aL) (.ref f.pa));refine#[_,rfl,f.fa,_,_,_,rfl,rfl,s6.tup hT,rfl,_,rfl,x,t.bX,dx,_,_,rfl,o6.ob,T.cw.cl,T.rN,vi _ _,_,rfl,f.fa,_,_,_,rfl,rfl,s6.tup hT,at0,d 3,_,rfl,dC.k (k:=(Sum.inr f.name:aL)) (show _=some (HO.dK (kv 3)) from o6.dc 3 (by decide)) (fit (by have:=kl 3 (by decide); simpa using (by omega:_<=i+1))),?_];have s7:=aB.upd (o:=.dK (ao (kv 3) (Sum.inr f.name:aL) (.ref f.ra))) s6 (hfd 3);have o7:=o6.put inj 3 (by decide) (ao (kv 3) (Sum.inr f.name:aL) (.ref f.ra));refine#[_,rfl,f.fa,f.ps,f.ds,rfl,hfu.mono s7,λnl H8 e8 hnl hl8=>?_];have s8:=s7.trans e8;have o8:=o7.mono e8;refine#[_,rfl,x,t.bX,dx,_,_,rfl,o8.ob,T.cw.cl,T.rM,tQ _ _,_,rfl,f.fa,_,_,_,rfl,rfl,s8.tup hT,at0,d 4,_,rfl,dC.k (k:=(Sum.inr f.name:aL)) (show _=some (HO.dK (kv 4)) from o8.dc 4 (by decide)) (fit (by have:=kl 4 (by decide); simpa using (by omega:_<=i+1))),?_];have s9:=aB.upd (o:=.dK (ao (kv 4) (Sum.inr f.name:aL) (.ref nl))) s8 (hfd 4);have o9:=o8.put inj 4 (by decide) (ao (kv 4) (Sum.inr f.name:aL) (.ref nl));refine#[_,rfl,f.fa,_,_,_,rfl,rfl,s9.tup hT,rfl,f.ra,kds f,rfl,((hE f hm).old.mono s9).rows,(hE f hm).wf,(by unfold kds; rw[IX]; have:=(hE f hm).len; omega),λwl HA eA hwl hfn=>?_];have sA:=s9.trans eA;have oA:=o9.mono eA;refine#[_,rfl,x,t.bX,dx,_,_,rfl,oA.ob,T.cw.cl,T.rO,sT _ _,_,rfl,f.fa,_,_,_,rfl,rfl,sA.tup hT,at0,d 5,_,rfl,dC.k (k:=(Sum.inr f.name:aL)) (show _=some (HO.dK (kv 5)) from oA.dc 5 (by decide)) (fit (by have:=kl 5 (by decide); simpa using (by omega:_<=i+1))),?_];have sB:=aB.upd (o:=.dK (ao (kv 5) (Sum.inr f.name:aL) (.ref wl))) sA (hfd 5);have oB:=oA.put inj 5 (by decide) (ao (kv 5) (Sum.inr f.name:aL) (.ref wl));have c3:aB (hl H2) (hl H8):=by have z1:aB (hl H2) (hl (upd H2 b (.tup [.int i,.ref f.fa]))):=(aB.new (o:=.tup [.int i,.ref f.fa]) hb).hl;have z2:=e8.hl;rw[jB (o6.dc 3 (by decide)),jB (o5.dc 2 (by decide)),jB (o4.dc 1 (by decide)),jB (o3.dc 0 (by decide))] at z2;exact z1.trans z2
     have c4:aB (hl H8) (hl HA):=by have z2:=eA.hl;rw[jB (o8.dc 4 (by decide))] at z2;exact z2
     have c5:hl (upd HA (d 5) (.dK (ao (kv 5) (Sum.inr f.name:aL) (.ref wl))))=hl HA:=jB (oA.dc 5 (by decide));refine#[_,_,_,λj=>if j=i then nl else nlf j,λj=>if j=i then wl else wlf j,rfl,sB,oB,?_,?_,?_,?_,?_,?_,λj g hj hg=>?_,λj hj=>?_]
     . show ao (kv 0) (Sum.inr f.name:aL) (V.int i)=_;rw[k0];exact iH hi nd (λ_ _ _=>rfl) rfl
     . show ao (kv 1) (Sum.inr f.name:aL) f.fo=_;rw[k1];exact iH hi nd (λ_ _ _=>rfl) rfl
     . show ao (kv 2) (Sum.inr f.name:aL) (.ref f.pa)=_;rw[k2];exact iH hi nd (λ_ _ _=>rfl) rfl
     . show ao (kv 3) (Sum.inr f.name:aL) (.ref f.ra)=_;rw[k3];exact iH hi nd (λ_ _ _=>rfl) rfl
     . show ao (kv 4) (Sum.inr f.name:aL) (.ref nl)=_;rw[k4];exact iH hi nd (λj _ hj=>by show V.ref (nlf j)=V.ref (if j=i then nl else nlf j); rw[IW (by omega)]) (by show V.ref nl=V.ref (if i=i then nl else nlf i); rw[Ig rfl])
     . show ao (kv 5) (Sum.inr f.name:aL) (.ref wl)=_;rw[k5];exact iH hi nd (λj _ hj=>by show V.ref (wlf j)=V.ref (if j=i then wl else wlf j); rw[IW (by omega)]) (by show V.ref wl=V.ref (if i=i then wl else wlf i); rw[Ig rfl])
     . rw[c5];by_cases hji:j=i
       . subst hji;rw[hi] at hg;cases hg;refine#[?_,?_]
         . show hl HA (if j=j then nl else nlf j)=_;rw[Ig rfl];exact c4 _ _ (uJ hl8)
         . show K13.FoundN (hl HA) (if j=j then wl else wlf j) _ _;rw[Ig rfl];exact hfn.hl
       . obtain⟨y1,y2⟩:=hnw j g (by omega) hg;refine#[?_,?_]
         . show hl HA (if j=i then nl else nlf j)=_;rw[IW hji];exact c4 _ _ (c3 _ _ y1)
         . show K13.FoundN (hl HA) (if j=i then wl else wlf j) _ _;rw[IW hji];exact y2.mono (c3.trans c4)
     . have e:=kl j hj
       match j,hj with
       | 0,_=>exact J7 (dh _ _ _) (by omega)
       | 1,_=>exact J7 (dh _ _ _) (by omega)
       | 2,_=>exact J7 (dh _ _ _) (by omega)
       | 3,_=>exact J7 (dh _ _ _) (by omega)
       | 4,_=>exact J7 (dh _ _ _) (by omega)
       | 5,_=>exact J7 (dh _ _ _) (by omega)
       | n+6,h=>omega
   . rintro σ H2 ⟨v2,v3,kv,nlf,wlf,rfl,s2,o2,k0,k1,k2,k3,k4,k5,hnw,kl⟩;rw[fl,JJ] at k0 k1 k2 k3 k4 k5;exact q H2 s2 #[λf hf=>(hE f hf).mono s2,nd,dx,fz,d,kv,nlf,wlf,hz,o2,k0,k1,k2,k3,k4,k5,λi f hi=>let ⟨y1,y2⟩:=hnw i f (by rw[fl]; exact(Ic.mp hi).1) hi; #[oZ _ _ y1,y2.mono oZ]]
end
end K44
namespace K44
open PySem L2 Gx Fl Bg Wk St Br
section
variable {P:Program} {w:World} {K:W.Frag} {mg:Str->Option Value} {base:Heap} {t:Adr}
theorem AT:FnScope ["self","frame"] ["self","frame"] (b6 pk):=by walk_at "s"
theorem uk (T:Txt K mg t):FnOk P w K mg base CX0 1 t.xE t.yM ["self","frame"] (Gr K t):=by
 refine T.ke.F.ok AT (λvs H Q E h=>?_) (λcdv A outer s H vs Q E hr h=>?_)
 . obtain⟨x,fa,fns,F,r,w,rfl,hF,hm,hT,hW,q⟩:=h;rfl
 . obtain⟨x,fa,fns,F,r,w,rfl,hF,hm,hT,hW,q⟩:=h;refine#[_,(aK (@aV _ _ _ _ (aG (show aH _ (aQ K) from aR) (fi (cK hr.units) (bM (a9 0) (by rfl)) (aG (show aH _ (aQ K) from aR) (a9 1) aD (λ_ _=>rfl)) (λ_ _=>rfl)) (aG (show aH _ (aQ K) from aR) (a9 1) aD (λ_ _=>rfl)) (λ_ _=>rfl))) ai),?_];obtain⟨dx,fs,d,kvs,e1,e2,e3,e4⟩:=Ew hF hm;exact#[_,rfl,x,t.bX,dx,_,_,rfl,e1,T.cw.cl,T.rN,e2,_,rfl,fa,_,_,_,rfl,rfl,hT,at0,_,_,rfl,jd e3 e4,_,rfl,fa,_,_,_,rfl,rfl,hT,rfl,F.ra,_,_,_,rfl,rfl,(hF.all F hm).rw_,t5 (by omega) (by rw[JF]; exact hW),q]
theorem AC:FnScope ["self","frame"] ["self","frame"] (b6 pE):=by walk_at "s"
theorem Bt (T:Txt K mg t):FnOk P w K mg base CX0 1 t.xF t.yN ["self","frame"] (GD K t):=by
 refine T.r6.F.ok AC (λvs H Q E h=>?_) (λcdv A outer s H vs Q E hr h=>?_)
 . obtain⟨x,fa,fns,F,r,j,to_,rfl,hF,hm,hT,hr_,hw,q⟩:=h;rfl
 . obtain⟨x,fa,fns,F,r,j,to_,rfl,hF,hm,hT,hr_,hw,q⟩:=h;refine#[_,(aK (@aV _ _ _ _ (aG (show aH _ (af K) from ag) (fi (cK hr.units) (bM (a9 0) (by rfl)) (aG (show aH _ (aQ K) from aR) (a9 1) aD (λ_ _=>rfl)) (λ_ _=>rfl)) (aG (show aH _ (aQ K) from aR) (a9 1) aD (λ_ _=>rfl)) (λ_ _=>rfl))) ai),?_];obtain⟨wl,tp,vs,l,⟨dx,fs,d,kvs,e1,e2,e3,e4⟩,h1,h2,h3,h4⟩:=Gz hF hm hr_ hw;exact#[_,rfl,x,t.bX,dx,_,_,rfl,e1,T.cw.cl,T.rO,e2,_,rfl,fa,_,_,_,rfl,rfl,hT,at0,_,_,rfl,jd e3 e4,_,rfl,fa,_,_,_,rfl,rfl,hT,rfl,wl,_,_,_,rfl,rfl,aJ.of h1,c7 h2,q tp l (aF.of h3) h4]
end
end K44
namespace K44
open PySem L2 K21 Rk2
section
variable {P:Program} {w:World} {K:W.Frag} {mg:Str->Option Value} {base:Heap} {t:Adr}
theorem Dd:FnScope ["sign","one","other"] ["sign","one","other"] (b6 qt):=by walk_at "s"
theorem CN (T:Txt K mg t):FnOk P w K mg base CX0 1 t.yH t.zL ["sign","one","other"] (Bu K):=by
 refine T.value.F.ok Dd (λvs H Q E h=>?_) (λcdv A outer s H vs Q E hr h=>?_)
 . obtain⟨s,a,b,rfl,h1,h2,h3,h4,q⟩:=h;rfl
 . obtain⟨s,a,b,rfl,h1,h2,h3,h4,q⟩:=h;refine#[_,(aK (aj (ae au (a9 0) aS (aX _)) (@aN _ _ _ (@aV _ _ _ _ (@aM _ _ _ _ _ _ _ _ (aU bH) (@aM _ _ _ _ _ _ _ _ (bo cj) (a9 1) (a9 2)) (oS T.rH)))) ai) (aK (aj (ae au (a9 0) aS (aX _)) (@aN _ _ _ (@aV _ _ _ _ (@aM _ _ _ _ _ _ _ _ (aU bH) (@aM _ _ _ _ _ _ _ _ (bo oy) (a9 1) (a9 2)) (oS T.rH)))) ai) (aK (aj (ae au (a9 0) aS (aX _)) (@aN _ _ _ (@aV _ _ _ _ (@aM _ _ _ _ _ _ _ _ (aU bH) (@aM _ _ _ _ _ _ _ _ (aU db) (a9 1) (a9 2)) (oS T.rH)))) ai) (aK (aj (ae au (a9 0) aS (aX _)) (@aN _ _ _ (@aV _ _ _ _ (@jA _ _ _ _ _ _ _ _ (ae au (a9 2) aD (aX _)) aD (@aM _ _ _ _ _ _ _ _ (aU x3) (a9 1) (a9 2))))) ai) (aK (aj (ae au (a9 0) aS (aX _)) (@aN _ _ _ (@aV _ _ _ _ (@jA _ _ _ _ _ _ _ _ (ae (bo pc) (a9 1) (a9 2) (aX _)) aD aD))) ai) (aK (aj (ae au (a9 0) aS (aX _)) (@aN _ _ _ (@aV _ _ _ _ (@jA _ _ _ _ _ _ _ _ (ae au (a9 1) (a9 2) (aX _)) aD aD))) ai) (aK (aj (ae au (a9 0) aS (aX _)) (@aN _ _ _ (@aV _ _ _ _ (@aM _ _ _ _ _ _ _ _ (bo tY) (a9 1) (a9 2)))) ai) (aK (aj (ae au (a9 0) aS (aX _)) (@aN _ _ _ (@aV _ _ _ _ (@aM _ _ _ _ _ _ _ _ (bo vU) (a9 1) (a9 2)))) ai) (@aN _ _ _ (@aV _ _ _ _ (@aM _ _ _ _ _ _ _ _ (bo u9) (a9 1) (a9 2)))))))))))),?_];have hw:wide=281474976710656:=rfl;refine#[_,rfl,rfl,_,rfl,?_];by_cases k1:s="+"
   . refine aP (IV (Iq V.str k1)) ?_;have e:valOf s a b=(a+b)%wide:=by unfold valOf; rw[Ig k1]
     rw[e] at q;exact#[_,rfl,_,rfl,_,_,rfl,rfl,_,_,rfl,rfl,(show(0:Int)<281474976710656 by decide),q]
   refine ak (λz=>k1 (V.str.inj (bD z))) ?_;refine#[_,rfl,rfl,_,rfl,?_];by_cases k2:s="-"
   . refine aP (IV (Iq V.str k2)) ?_;have e:valOf s a b=(a - b)%wide:=by unfold valOf; rw[IW k1,Ig k2]
     rw[e] at q;exact#[_,rfl,_,rfl,_,_,rfl,rfl,_,_,rfl,rfl,(show(0:Int)<281474976710656 by decide),q]
   refine ak (λz=>k2 (V.str.inj (bD z))) ?_;refine#[_,rfl,rfl,_,rfl,?_];by_cases k3:s="*"
   . refine aP (IV (Iq V.str k3)) ?_;have e:valOf s a b=(a * b)%wide:=by unfold valOf; rw[IW k1,IW k2,Ig k3]
     rw[e] at q;exact#[_,rfl,_,rfl,_,_,rfl,rfl,.inl #[by omega,by omega],_,_,rfl,rfl,(show(0:Int)<281474976710656 by decide),q]
   refine ak (λz=>k3 (V.str.inj (bD z))) ?_;refine#[_,rfl,rfl,_,rfl,?_];by_cases k4:s="/"
   . refine aP (IV (Iq V.str k4)) ?_;have e:valOf s a b=if b=0 then 0 else a / b:=by unfold valOf; rw[IW k1,IW k2,IW k3,Ig k4]
     rw[e] at q;refine#[_,rfl,rfl,_,rfl,?_];by_cases hb:b=0
     . rw[Ig hb] at q;exact aP (IV (Iq V.int hb)) q
     . rw[IW hb] at q;exact ak (λz=>hb (V.int.inj (bD z))) #[_,rfl,_,rfl,_,_,rfl,rfl,#[by omega,by omega],q]
   refine ak (λz=>k4 (V.str.inj (bD z))) ?_;refine#[_,rfl,rfl,_,rfl,?_];by_cases k5:s="<"
   . refine aP (IV (Iq V.str k5)) ?_;have e:valOf s a b=if a<b then 1 else 0:=by unfold valOf; rw[IW k1,IW k2,IW k3,IW k4,Ig k5]
     rw[e] at q;refine#[_,rfl,_,rfl,_,_,rfl,rfl,_,rfl,?_];by_cases hb:a<b
     . rw[Ig hb] at q;exact aP (IV hb) q
     . rw[IW hb] at q;exact ak (λz=>hb (bD z)) q
   refine ak (λz=>k5 (V.str.inj (bD z))) ?_;refine#[_,rfl,rfl,_,rfl,?_];by_cases k6:s="="
   . refine aP (IV (Iq V.str k6)) ?_;have e:valOf s a b=if a=b then 1 else 0:=by unfold valOf; rw[IW k1,IW k2,IW k3,IW k4,IW k5,Ig k6]
     rw[e] at q;refine#[_,rfl,_,rfl,rfl,_,rfl,?_];by_cases hb:a=b
     . rw[Ig hb] at q;exact aP (IV (Iq V.int hb)) q
     . rw[IW hb] at q;exact ak (λz=>hb (V.int.inj (bD z))) q
   refine ak (λz=>k6 (V.str.inj (bD z))) ?_;refine#[_,rfl,rfl,_,rfl,?_];by_cases k7:s="&"
   . refine aP (IV (Iq V.str k7)) ?_;have e:valOf s a b=Builtin.bitAnd a b:=by unfold valOf bw; rw[IW k1,IW k2,IW k3,IW k4,IW k5,IW k6,Ig k7]
     rw[e] at q;exact#[_,rfl,_,rfl,_,_,rfl,rfl,q]
   refine ak (λz=>k7 (V.str.inj (bD z))) ?_;refine#[_,rfl,rfl,_,rfl,?_];by_cases k8:s="|"
   . refine aP (IV (Iq V.str k8)) ?_;have e:valOf s a b=Builtin.bitOr a b:=by unfold valOf bw; rw[IW k1,IW k2,IW k3,IW k4,IW k5,IW k6,IW k7,Ig k8]
     rw[e] at q;exact#[_,rfl,_,rfl,_,_,rfl,rfl,q]
   refine ak (λz=>k8 (V.str.inj (bD z))) ?_;have e:valOf s a b=Builtin.bitXor a b:=by unfold valOf bw; rw[IW k1,IW k2,IW k3,IW k4,IW k5,IW k6,IW k7,IW k8]
   rw[e] at q;exact#[_,rfl,_,rfl,_,_,rfl,rfl,q]
theorem Hl:FnScope ["sign","left","right"] ["sign","left","right"] (b6 oG):=by walk_at "s"
theorem Ef (T:Txt K mg t):FnOk P w K mg base CX0 2 t.yG t.zK ["sign","left","right"] (FY K t):=by
 have QA:=CN (P:=P) (w:=w) (base:=base) T;refine T.together.F.ok Hl (λvs H Q E h=>?_) (λcdv A outer s H vs Q E hr h=>?_)
 . obtain⟨s,tl,tr,x,y,rfl,sg,hL,hR,oL,oR,q⟩:=h;rfl
 . obtain⟨s,tl,tr,x,y,rfl,sg,hL,hR,oL,oR,q⟩:=h;refine#[_,(aK (aj (@PW.pt _ _ _ (dN (ae au (aG (show aH _ (aQ K) from aR) (a9 1) aD (λ_ _=>rfl)) aS (aX _)) (dW (ae au (aG (show aH _ (aQ K) from aR) (a9 2) aD (λ_ _=>rfl)) aS (aX _))))) (@aN _ _ _ (@aV _ _ _ _ (aq (aC aS (aC (bG T.value QA (hr.mono (by decide)) (aC (a9 0) (aC (aG (show aH _ (aQ K) from aR) (a9 1) aD (λ_ _=>rfl)) (aC (aG (show aH _ (aQ K) from aR) (a9 2) aD (λ_ _=>rfl)) aE rfl) rfl) rfl)) aE rfl) rfl)))) ai) (@aN _ _ _ (@aV _ _ _ _ (aq (aC (a9 0) (aC (a9 1) (aC (a9 2) aE rfl) rfl) rfl))))),?_];obtain⟨p1,g1,r1,rfl,e1,n1,m1⟩:=hL.head;obtain⟨p2,g2,r2,rfl,e2,n2,m2⟩:=hR.head;have opc:((∀k,tl≠.num k)\/∀k,tr≠.num k)->∀p,H p=none->Q (.ref p) (upd H p (.tup [.str s,.ref p1,.ref p2])):=λh p hp=>by refine q _ _ (aB.new hp) ?_;rw[rS h];exact#[p,_,_,rfl,aI,sg.1,sg.2,hL.mono (aB.new hp),hR.mono (aB.new hp)]
   refine#[_,rfl,p1,_,_,_,rfl,rfl,e1,at0,rfl,_,rfl,?_];by_cases k1:g1="num"
   . refine aP (IV (Iq V.str k1)) #[_,rfl,p2,_,_,_,rfl,rfl,e2,at0,rfl,_,rfl,?_];by_cases k2:g2="num"
     . refine aP (IV (Iq V.str k2)) ?_;obtain⟨a,rfl,rfl⟩:=n1 k1;obtain⟨b,rfl,rfl⟩:=n2 k2;have bA:=ij oL;have bB:=ij oR;exact#[_,rfl,_,rfl,p1,_,_,_,rfl,rfl,e1,rfl,_,rfl,p2,_,_,_,rfl,rfl,e2,rfl,s,a,b,rfl,bA.1,bB.1,bA.2,bB.2,ay,λp hp=>q _ _ (aB.new hp) #[p,rfl,aI]]
     . refine ak (λz=>k2 (V.str.inj (bD z))) #[_,rfl,_,rfl,_,rfl,cV,opc (.inr (m2 k2))]
   . refine ak (λz=>k1 (V.str.inj (bD z))) (j2 #[_,rfl,_,rfl,_,rfl,cV,opc (.inl (m1 k1))])
theorem rj:FnScope ["one","news"] ["one","news"] (b6 qo):=by walk_at "s"
theorem sO (T:Txt K mg t):∀n,FnOk P w K mg base CX0 (n+3) t.nH t.nJ ["one","news"] (qq K t n)
| 0=>T.put_through.F.ok rj (λvs H Q E h=>by obtain⟨tr,v,d,kvs,g,rfl,hd,nb_,hR,hD,nv,ok,og,q⟩:=h; exact absurd hd (JR _)) (λcdv A outer s H vs Q E hr h=>by obtain⟨tr,v,d,kvs,g,rfl,hd,nb_,hR,hD,nv,ok,og,q⟩:=h; exact absurd hd (JR _))
| n+1=>by
 have QB:=Ef (P:=P) (w:=w) (base:=base) T;have Qg:FnOk P w K mg base CX0 (n+3) t.nH t.nJ ["one","news"] (qq K t n):=sO T n;refine T.put_through.F.ok rj (λvs H Q E h=>?_) (λcdv A outer s H vs Q E hr h=>?_)
 . obtain⟨tr,v,d,kvs,g,rfl,hd,nb_,hR,hD,nv,ok,og,q⟩:=h;rfl
 . obtain⟨tr,v,d,kvs,g,rfl,hd,nb_,hR,hD,nv,ok,og,q⟩:=h;refine#[_,(aK (aj (ae au (aG (show aH _ (aQ K) from aR) (a9 0) aD (λ_ _=>rfl)) aS (aX _)) (@aN _ _ _ (@aV _ _ _ _ (a9 0))) ai) (aK (aj (ae au (aG (show aH _ (aQ K) from aR) (a9 0) aD (λ_ _=>rfl)) aS (aX _)) (@aN _ _ _ (@aV _ _ _ _ (oE (cK hr.units) (a9 1) (aG (show aH _ (aQ K) from aR) (a9 0) aD (λ_ _=>rfl)) (a9 0) #[rfl,rfl,rfl,rfl]))) ai) (@aN _ _ _ (@aV _ _ _ _ (bG T.together QB (hr.mono (by omega)) (aC (aG (show aH _ (aQ K) from aR) (a9 0) aD (λ_ _=>rfl)) (aC (bG T.put_through Qg (hr.mono (by omega)) (aC (aG (show aH _ (aQ K) from aR) (a9 0) aD (λ_ _=>rfl)) (aC (a9 1) aE rfl) rfl)) (aC (bG T.put_through Qg (hr.mono (by omega)) (aC (aG (show aH _ (aQ K) from aR) (a9 0) aD (λ_ _=>rfl)) (aC (a9 1) aE rfl) rfl)) aE rfl) rfl) rfl)))))),?_];cases tr with
   | num k =>
     have hR':=hR;obtain⟨p,rfl,e⟩:=hR;exact#[_,rfl,p,_,_,_,rfl,rfl,aF.of e,at0,rfl,_,rfl,aP (IV rfl) #[_,rfl,q _ _ (aB.refl _) (Br.RB.of nb_ hR')]]
   | box k =>
     have hR':=hR;obtain⟨p,rfl,e⟩:=hR;refine#[_,rfl,p,_,_,_,rfl,rfl,aF.of e,at0,rfl,_,rfl,ak (λz=>wG (V.str.inj (bD z))) ?_];refine#[_,rfl,p,_,_,_,rfl,rfl,aF.of e,at0,rfl,_,rfl,aP (IV rfl) ?_];refine#[_,rfl,d,rfl,.inl #[kvs,.inl hD],_,rfl,p,_,_,_,rfl,rfl,aF.of e,rfl,_,rfl,_,d7.k (k:=Sum.inl k) hD,q _ _ (aB.refl _) ?_];show Br.RB K t.bn H ((g k).getD (.box k)) _;cases eg:g k with
     | none=>rw[nv.no eg]; exact Br.RB.of nb_ hR'
     | some t =>
       obtain⟨x,h1,h2⟩:=nv.yes eg;rw[h1];exact h2
   | op s l r =>
     obtain⟨p,x,y,rfl,e,n1,n2,hx,hy⟩:=hR;have d1:dp l<n:=by have:max (dp l) (dp r)+1<n+1:=hd; omega
     have d2:dp r<n:=by have:max (dp l) (dp r)+1<n+1:=hd; omega
     obtain⟨o1,o2⟩:=mj ok;refine#[_,rfl,p,_,_,_,rfl,rfl,aF.of e,at0,rfl,_,rfl,ak (λz=>n2 (V.str.inj (bD z))) ?_];refine#[_,rfl,p,_,_,_,rfl,rfl,aF.of e,at0,rfl,_,rfl,ak (λz=>n1 (V.str.inj (bD z))) ?_];refine#[_,rfl,p,_,_,_,rfl,rfl,aF.of e,at0,_,rfl,p,_,_,_,rfl,rfl,aF.of e,rfl,_,rfl,l,x,d,kvs,g,rfl,d1,nb_.1,hx,hD,nv,o1,og,λv1 H1 s1 r1=>?_];refine#[_,rfl,p,_,_,_,rfl,rfl,aF.of (s1 _ _ e),rfl,_,rfl,r,y,d,kvs,g,rfl,d2,nb_.2,hy.mono s1,s1 _ _ hD,nv.mono s1,o2,og,λv2 H2 s2 r2=>?_];exact#[s,pt g l,pt g r,v1,v2,rfl,#[n1,n2],r1.mono s2,r2,j5 og o1,j5 og o2,λv3 H3 s3 r3=>q _ _ ((s1.trans s2).trans s3) r3]
end
end K44
namespace K44
open PySem L2 Gx Fl Bg Wk St Br
section
variable {P:Program} {w:World} {K:W.Frag} {mg:Str->Option Value} {base:Heap} {t:Adr}
theorem nM:FnScope ["flows","mark","chain","views"] ["flows","mark"] (b6 oh):=by walk_at "s"
theorem uh (T:Txt K mg t):FnOk P w K mg base CX0 1 t.xz t.zB ["flows","mark"] (FQ K t):=by
 refine T.levels_of.F.ok nM (λvs H Q E h=>?_) (λcdv A outer s H vs Q E hr h=>?_)
 . obtain⟨x,m,fns,L,rfl,hF,hM,hk,hL,q⟩:=h;rfl
 . obtain⟨x,m,fns,L,rfl,hF,hM,hk,hL,q⟩:=h;refine#[_,(aK (eZ (a9 1) (eE rfl (cH (bU (i:=2) nM.nd rfl (Or.inl rfl)) (cH (bU (i:=3) nM.nd rfl (Or.inl rfl)) eC)))) (@aN _ _ _ (@aV _ _ _ _ (fX (N':=["frame","places","flows"]) (js:=[none,none,some 0]) (by kernel_rfl) rfl (my true false rfl T.b_zip (aC (a9 2) (aC (a9 3) aE rfl) rfl)) (ux (lN (lN uI))) (λ_ _ _ _=>(show PG _ _ (mr K 2 _) from eE (n:=2) rfl (cH (bU (i:=0) (show(["frame","places","flows"]:List Str).Nodup by decide +kernel) rfl (Or.inl rfl) (.inr rfl)) (cH (bU (i:=1) (show(["frame","places","flows"]:List Str).Nodup by decide +kernel) rfl (Or.inl rfl) (.inr rfl)) eC)))) (λ_ _ _ _=>gK) (λ_ _ _ _=>(wL (λK=>m7 (qE false false K) _) rfl (BH false false rfl (by rfl) T.b_dict (by rfl) T.b_zip (aC (fi (cK hr.units) (wL (λK=>uC K _ "names_in") rfl (bM (a9 2) (by rfl))) (aG (show aH _ (aQ K) from aR) (a9 0) aD (λ_ _=>rfl)) (λ_ _=>rfl)) (aC (a9 1) aE rfl) rfl)))))))),?_];obtain⟨p,c,w,ws,rfl,hp,⟨cA,cs,rfl,hcs,hcp⟩,hw,hwp⟩:=hM;have hcp:Rk2.Ps (iA K H) cs (L.map Lev.fr):=hcp;have hwp:Rk2.Ps (gM K H) ws (L.map Lev.vw):=hwp;have lc:cs.length=L.length:=by have:=Rk2.Ps.len hcp; rwa [IX] at this
   have lw:ws.length=L.length:=by have:=Rk2.Ps.len hwp; rwa [IX] at this
   refine#[_,rfl,p,_,rfl,hp,rfl,_,_,rfl,_,_,rfl,rfl,?_];refine#[_,rfl,_,rfl,cA,w,rfl,#[_,hcs],#[_,hw],λpL hpL=>D7 (b1:=true) (b2:=false) (xs:=cs) (ys:=ws) (by omega) (λi acc H2=>aB H H2/\H2 pL=some (.lst acc)/\Rk2.Ps (je H (ers pL H2)) acc (L.take i)) #[aB.new hpL,aI,by rw[List.take_zero]; trivial] ?_ ?_ ?_]
   . rintro i acc H2 hi ⟨s2,e2,l2⟩;exact#[e2,by rw[Rk2.Ps.len l2,JC]; omega,s2.tup hcs,s2.seq hw]
   . rintro i y z acc H2 b hy hz ⟨s2,e2,l2⟩ hb;have hi:i<L.length:=by have:=(Ic.mp hy).1; omega
     obtain⟨e,he⟩:∃e,L[i]?=some e:=#[L[i],Iw hi]
     obtain⟨u1,c1,a1,a2,a3⟩:=Rk2.Ps.at hcp (n:=i) (by rw[IX]; exact hi);rw[Iu,he] at a2;cases a2;rw[hy] at a1;cases a1;obtain⟨u2,c2,b1,b2,b3⟩:=Rk2.Ps.at hwp (n:=i) (by rw[IX]; exact hi);rw[Iu,he] at b2;cases b2;rw[hz] at b1;cases b1;obtain⟨fp,rfl,hfr⟩:=a3;obtain⟨vl,us,rfl,hvl,hus⟩:=b3;have ok:=hk e (Ij he);have s3:=aB.new (o:=.tup [V.ref fp,V.ref vl]) hb;refine#[b,_,rfl,aF.of aI,rfl,_,_,rfl,_,_,rfl,rfl,?_];generalize upd H2 b (.tup [V.ref fp,V.ref vl])=H3 at s3 ⊢;have s03:=s2.trans s3;obtain⟨nl,⟨dx,fs,d,kvs,g1,g2,g3,g4⟩,g5⟩:=Hm (hF.mono s03) ok.m;refine#[_,rfl,x,t.bX,dx,_,_,rfl,g1,T.cw.cl,T.rM,g2,_,rfl,fp,_,_,_,rfl,rfl,s03.tup hfr,at0,_,_,rfl,jd g3 g4,_,rfl,nl,vl,(F2.nms e.F).map (λn=>(Sum.inr n:aL)),us,rfl,(by rw[Jc]; exact aJ.of g5),s03.seq hvl,(by rw[IX]; have:=ok.b; omega),λd2 H4 n4 s4 e4=>?_];have nd:d2≠pL:=λz=>by rw[z,s3 _ _ e2] at n4; cases n4
     refine#[s4 _ _ (s3 _ _ e2),(s03.trans s4).upd hpL,aI,?_];rw[show L.take (i+1)=L.take i++[e] by rw[List.take_succ,he]; rfl,gt];exact Rk2.Ps.app (Rk2.Ps.imp (λ_ _ z=>z.mono (aB.ers (s3.trans s4))) l2) #[#[d2,us,rfl,(s03.free n4),(by rw[cC nd]; exact e4.trans (Iq (λz=>some (HO.dK z)) (ut (us:=us) (acc:=[]) (ue _) λ_ _=>rfl))),Rk2.Ps.imp (λ_ _ z=>aZ.mono z (iQ (s03.trans s4) hpL)) hus],trivial]
   . rintro acc H2 ⟨s2,e2,l2⟩;rw[lc,lw,Nat.min_self,JJ] at l2;exact q _ _ s2 #[pL,acc,rfl,e2,Rk2.Ps.imp (λ_ _ z=>z.mono dq) l2]
theorem A5:FnScope ["named","atom"] ["named","atom"] (b6 qM):=by walk_at "s"
theorem CT (T:Txt K mg t):FnOk P w K mg base CX0 1 t.yD t.zG ["named","atom"] (zo K t):=by
 refine T.place_of.F.ok A5 (λvs H Q E h=>?_) (λcdv A outer s H vs Q E hr h=>?_)
 . obtain⟨b0,d,f,a,o,rfl,hL,ho,q⟩:=h;rfl
 . obtain⟨b0,d,f,a,o,rfl,hL,ho,q⟩:=h;refine#[_,(aK (@aV _ _ _ _ (@jA _ _ _ _ _ _ _ _ (qh (cR lX (by rfl) T.b_isinstance mh (aC (a9 1) (aC (mK (v:=V.ty "str") rfl T.b_str nP rfl) aE rfl) rfl))) (fi (cK hr.units) (a9 0) (a9 1) (λ_ _=>rfl)) (aq (aC aS (aC (a9 1) aE rfl) rfl)))) ai),?_];cases a with
   | str n =>
     obtain⟨kvs,e,_,h3⟩:=hL;obtain⟨v,h4,h5⟩:=h3 n o ho;exact#[_,rfl,_,"str",_,true,rfl,.str _,rfl,_,rfl,nR #[_,rfl,_,rfl,d,_,rfl,jd e h4,q v H (aB.refl _) h5]]
   | int i =>
     cases ho;exact#[_,rfl,_,"str",_,false,rfl,.int _,rfl,_,rfl,j2 #[_,rfl,ay,λp hp=>q _ _ (aB.new hp) #[p,rfl,aI]]]
   | _=>cases ho
theorem vy:FnScope ["flows","chain","way","last"] ["flows","chain","way"] (b6 qk):=by walk_at "s"
theorem wu (T:Txt K mg t):FnOk P w K mg base CX0 2 t.yB t.zD ["flows","chain","way"] (Bx K t):=by
 have QC:=Bt (P:=P) (w:=w) (base:=base) T;refine T.moved.F.ok vy (λvs H Q E h=>?_) (λcdv A outer s H vs Q E hr h=>?_)
 . obtain⟨x,cv,fns,ch,F,r,j,to_,rfl,hF,hC,hm,hr_,hw,h10,q⟩:=h;rfl
 . obtain⟨x,cv,fns,ch,F,r,j,to_,rfl,hF,hC,hm,hr_,hw,h10,q⟩:=h;refine#[_,(aK (@al _ _ 3 _ _ _ _ vy.nd rfl (Or.inl rfl) (aG (show aH _ (aQ K) from aR) (a9 1) (cp cn aD) (λ_ _=>rfl)) (by rfl) (by walk_at "f")) (@aN _ _ _ (@aV _ _ _ _ (@aM _ _ _ _ _ _ _ _ ma (gk m8 (a9 1) gm (hU (cp cn aD))) (aq (aC (aq (aC (aG (show aH _ (aQ K) from aR) (a9 3) aD (λ_ _=>rfl)) (aC (aG (show aH _ (aQ K) from aR) (dJ (a9 0) T.cw.cl T.r6.m QC (hr.mono (by decide)) T.r6.b .nil cq (aC (a9 3) aE rfl)) (a9 2) (λ_ _=>rfl)) aE rfl) rfl)) aE rfl)))))),?_];obtain⟨cA,cs,rfl,hcs,hp⟩:=hC;obtain⟨ws,u,rfl,h1,fa,rfl,hfa⟩:=St.Ps.split1 hp;have lw:ws.length=ch.length:=Rk2.Ps.len h1;refine#[_,rfl,_,rfl,cA,_,_,_,rfl,rfl,hcs,i3 _ _,?_];refine#[_,rfl,_,rfl,_,rfl,lQ hcs λqA HA sA hqA=>?_];rw[uU] at hqA;have hF':=hF.mono sA;obtain⟨dx,fz,d,kv,nl,wl,h0,hO,_⟩:=hF'.ob;refine#[_,rfl,fa,_,_,_,rfl,rfl,sA.tup hfa,at0,_,rfl,x,dx,_,rfl,hO.ob,(by rfl),_,rfl,x,fa,fns,F,r,j,to_,rfl,hF',hm,sA.tup hfa,hr_,hw,λtp l ht hl=>?_];refine#[_,rfl,tp,_,_,_,rfl,rfl,ht,c7 (j:=j) (by unfold K13.natsV; rw[Iu,hl]; rfl),ay,λp1 hp1=>#[dE,λp2 hp2=>?_]];have z1:=aB.new (o:=.tup [.str F.name,.int (to_:Int)]) hp1;have z2:=aB.new (o:=.tup [.ref p1]) hp2;refine jt ((z1.trans z2).tup hqA) aI (by simp) (cb (by show ws.length+1<_; omega)) λp3 H3 s3 e3=>?_;have s03:=((sA.trans z1).trans z2).trans s3;exact q _ H3 s03 #[p3,_,rfl,aF.of e3,Rk2.Ps.app (Rk2.Ps.imp (λ_ _ z=>z.mono s03) h1) #[#[p1,rfl,s3.tup (z2.tup (aF.of aI))],trivial]]
theorem sW:FnScope ["levels","name","place","named"] ["levels","name","place"] (b6 qv):=by walk_at "s"
theorem uR (T:Txt K mg t):FnOk P w K mg base CX0 1 t.yJ t.zN ["levels","name","place"] (GY K t):=by
 refine T.with_given.F.ok sW (λvs H Q E h=>?_) (λcdv A outer s H vs Q E hr h=>?_)
 . obtain⟨lv,pv,n,fs,f,o,rfl,hL,hv,h10,q⟩:=h;rfl
 . obtain⟨lv,pv,n,fs,f,o,rfl,hL,hv,h10,q⟩:=h;refine#[_,(aK (@al _ _ 3 _ _ _ _ sW.nd rfl (Or.inl rfl) (ce Gn (by rfl) T.b_dict lj (aC (aG (show aH _ (af K) from ag) (a9 0) (cp cn aD) (λ_ _=>rfl)) aE rfl)) (by rfl) (by walk_at "f")) (aK (eQ (cK hr.units) (a9 3) (a9 1) (a9 2) (by rfl)) (@aN _ _ _ (@aV _ _ _ _ (@aM _ _ _ _ _ _ _ _ kG (gk uY (a9 0) gm (hU (cp cn aD))) (bu (aC (a9 3) aE rfl))))))),?_];obtain⟨l,ds,rfl,el,hd⟩:=hL;obtain⟨ws,u,rfl,h1,d,rfl,kvs,e,hk,h3⟩:=St.Ps.split1 hd;have lw:ws.length=fs.length:=Rk2.Ps.len h1;refine#[_,rfl,_,rfl,l,_,_,_,rfl,rfl,aJ.of el,i3 _ _,d,kvs,rfl,e,λd2 hd2=>?_];have s1:=aB.new (o:=.dK kvs) hd2;refine#[_,rfl,_,rfl,_,rfl,d2,_,rfl,dC.k (k:=(Sum.inr n:aL)) aI (Rk2.lt_line' (n:=kvs.length) (by omega)),?_];have s2:aB H (upd (upd H d2 (.dK kvs)) d2 (.dK (ao kvs (Sum.inr n:aL) pv))):=s1.upd hd2;have e2:upd (upd H d2 (.dK kvs)) d2 (.dK (ao kvs (Sum.inr n:aL) pv)) d2=some (.dK (ao kvs (Sum.inr n:aL) pv)):=aI;generalize upd (upd H d2 (.dK kvs)) d2 (.dK (ao kvs (Sum.inr n:aL) pv))=H2 at s2 e2 ⊢;refine#[_,rfl,_,rfl,_,rfl,l,_,rfl,aJ.of (s2 _ _ el),λp1 hp1=>#[_,rfl,dE,λp2 hp2=>?_]];rw[uU] at hp2 ⊢;refine#[p1,p2,_,_,rfl,rfl,aB.new hp2 _ _ aI,aI,cb (by show ws.length+1<_; omega),λp3 hp3=>?_];have s3:=((aB.new (o:=.lst ws) hp1).trans (aB.new (o:=.lst [.ref d2]) hp2)).trans (aB.new (o:=.lst (ws++[.ref d2])) hp3);refine q _ _ (s2.trans s3) #[p3,_,rfl,aI,Rk2.Ps.app (Rk2.Ps.imp (λ_ _ z=>(z.mono (s2.trans s3)).up (by decide)) h1) #[#[d2,rfl,_,s3 _ _ e2,by have:=EY kvs (Sum.inr n:aL) pv; omega,λm o' hm=>?_],trivial]];rw[Dl];unfold gV at hm;by_cases hmn:m=n
   . rw[Ig hmn] at hm;cases hm;rw[Ig (by rw[hmn])];exact#[pv,rfl,hv.mono (s2.trans s3)]
   . rw[IW hmn] at hm;rw[IW (λz=>hmn (Sum.inr.inj z))];obtain⟨v,a1,a2⟩:=h3 m o' hm;exact#[v,a1,a2.mono (s2.trans s3)]
theorem CB:FnScope ["row","named","left","right"] ["row","named"] (b6 oI):=by walk_at "s"
theorem D0 (T:Txt K mg t):FnOk P w K mg base CX0 3 t.yA t.zC ["row","named"] (DC K):=T.made_by.F.ok CB (λvs H Q E h=>h.elim) (λcdv A outer s H vs Q E hr h=>h.elim)
theorem B':FnScope ["flows","row","levels","named","param","atom"] ["flows","row","levels"] (b6 qI):=by walk_at "s"
theorem AY (T:Txt K mg t):FnOk P w K mg base CX0 2 t.xT t.yb ["flows","row","levels"] (BI K t):=T.entered.F.ok B' (λvs H Q E h=>h.elim) (λcdv A outer s H vs Q E hr h=>h.elim)
theorem Gh:FnScope ["call","back","levels"] ["call","back","levels"] (b6 qP):=by walk_at "s"
theorem Dg (T:Txt K mg t):FnOk P w K mg base CX0 2 t.xy t.zA ["call","back","levels"] (Fu K):=T.left_behind.F.ok Gh (λvs H Q E h=>h.elim) (λcdv A outer s H vs Q E hr h=>h.elim)
theorem tP:FnScope ["row","named","kind"] ["row","named"] (b6 jY):=by walk_at "s"
theorem Gi (T:Txt K mg t):FnOk P w K mg base CX0 2 t.xO t.yW ["row","named"] (BW K t):=by
 have Qb:=CT (P:=P) (w:=w) (base:=base) T;refine T.asked_act.F.ok tP (λvs H Q E h=>?_) (λcdv A outer s H vs Q E hr h=>?_)
 . obtain⟨r,d,rg,f,b0,cs,rfl,hR,hL,ha,q⟩:=h;rfl
 . skip
   refine lx ?_;intro XX;refine(let W4:TS:=_; have hW4:bQ XX ((bP jY).drop 4) W4:=(aK (aj (ae au (a9 2) aS (aX _)) (@aN _ _ _ (@aV _ _ _ _ (aq (aC aS (aC (bG T.place_of Qb (hr.mono (by decide)) (aC (a9 1) (aC (aG (show aH _ (aQ K) from aR) (a9 0) aD (λ_ _=>rfl)) aE rfl) rfl)) (aC (aG (show aH _ (aQ K) from aR) (a9 0) aD (λ_ _=>rfl)) (aC (bG T.place_of Qb (hr.mono (by decide)) (aC (a9 1) (aC (aG (show aH _ (aQ K) from aR) (a9 0) aD (λ_ _=>rfl)) aE rfl) rfl)) aE rfl) rfl) rfl) rfl)))) ai) (aK (aj (ae au (a9 2) aS (aX _)) (@aN _ _ _ (@aV _ _ _ _ (aq (aC aS (aC (aG (show aH _ (aQ K) from aR) (a9 0) aD (λ_ _=>rfl)) (aC (ce jn (by rfl) T.b_tuple kN (aC (fX (N':=["atom","named"]) (js:=[none,some 1]) (by kernel_rfl) rfl (pd (aG (show aH _ (aQ K) from aR) (a9 0) aD (λ_ _=>rfl))) ff (λ_ _ _ _=>(bU (i:=0) (show(["atom","named"]:List Str).Nodup by decide +kernel) rfl (Or.inl rfl) (.inr rfl))) (λ_ _ _ _=>gK) (λ_ _ _ _=>(bG T.place_of Qb (hr.mono (by decide)) (aC (a9 1) (aC (a9 0) aE rfl) rfl)))) aE rfl)) aE rfl) rfl) rfl)))) ai) (aK (aj (ae au (a9 2) aS (aX _)) (@aN _ _ _ (@aV _ _ _ _ (aq (aC aS aE rfl)))) ai) (@aN _ _ _ (@aV _ _ _ _ (aq (aC aS aE rfl))))))); ?_);refine(let W2:TS:=_; have hW2:bQ XX ((bP jY).drop 2) W2:=(aK (aj (ae fm (a9 2) (aq (aC aS (aC aS aE rfl) rfl)) (by with_unfolding_all rfl)) (@aN _ _ _ (@aV _ _ _ _ (aq (aC aS (aC (bG T.place_of Qb (hr.mono (by decide)) (aC (a9 1) (aC (aG (show aH _ (aQ K) from aR) (a9 0) aD (λ_ _=>rfl)) aE rfl) rfl)) aE rfl) rfl)))) ai) (aK (aj (ae au (a9 2) aS (aX _)) (@aN _ _ _ (@aV _ _ _ _ (aq (aC aS (aC (bG T.place_of Qb (hr.mono (by decide)) (aC (a9 1) (aC (aG (show aH _ (aQ K) from aR) (a9 0) aD (λ_ _=>rfl)) aE rfl) rfl)) (aC (aG (show aH _ (aQ K) from aR) (a9 0) aD (λ_ _=>rfl)) aE rfl) rfl) rfl)))) ai) hW4)); ?_);obtain⟨r,d,rg,f,b0,cs,rfl,hR,hL,ha,q⟩:=h;refine#[_,(aK (@al _ _ 2 _ _ _ _ tP.nd rfl (Or.inl rfl) (aG (show aH _ (aQ K) from aR) (a9 0) aD (λ_ _=>rfl)) (by rfl) (by walk_at "f")) (aK (aj (ae fm (a9 2) (aq (aC aS (aC aS aE rfl) rfl)) (by with_unfolding_all rfl)) (@aN _ _ _ (@aV _ _ _ _ (aq (aC (a9 2) (aC (bG T.place_of Qb (hr.mono (by decide)) (aC (a9 1) (aC (aG (show aH _ (aQ K) from aR) (a9 0) aD (λ_ _=>rfl)) aE rfl) rfl)) aE rfl) rfl)))) ai) hW2)),?_];cases rg with
   | out a =>
     have ha:(cU f a).map (λo=>[Ce.s "out",.p o])=some cs:=ha;obtain⟨o,ho,rfl⟩:=Jd.mp ha;refine#[_,rfl,r,_,_,_,rfl,rfl,hR,at0,?_];refine#[_,rfl,ay,λp1 h1=>#[p1,_,rfl,.inr (aF.of aI),rfl,rfl,_,rfl,aP (by decide) ?_]];have s1:=aB.new (o:=.tup [V.str "out",V.str "back"]) h1;exact#[_,rfl,_,rfl,_,rfl,r,_,_,_,rfl,rfl,s1.tup hR,rfl,b0,d,f,a,o,rfl,hL.mono s1,ho,λv H3 s3 hv=>#[ay,λp3 h3=>q p3 _ _ ((s1.trans s3).trans (aB.new h3)) (aF.of aI) #[rfl,hv.mono (aB.new h3),trivial]]]
   | get x a w_ =>
     have ha:(cU f a).map (λo=>[Ce.s "get",.p o,.s w_])=some cs:=ha;obtain⟨o,ho,rfl⟩:=Jd.mp ha;refine#[_,rfl,r,_,_,_,rfl,rfl,hR,at0,?_];refine#[_,rfl,ay,λp1 h1=>#[p1,_,rfl,.inr (aF.of aI),rfl,rfl,_,rfl,jN ?_]];refine#[_,rfl,ay,λp2 h2=>#[p2,_,rfl,.inr (aF.of aI),rfl,rfl,_,rfl,jN ?_]];have s2:=(aB.new (o:=.tup [V.str "out",V.str "back"]) h1).trans (aB.new (o:=.tup [V.str "if",V.str "while"]) h2);exact#[_,rfl,rfl,_,rfl,aP (IV rfl) #[_,rfl,_,rfl,r,_,_,_,rfl,rfl,s2.tup hR,rfl,b0,d,f,a,o,rfl,hL.mono s2,ho,λv H3 s3 hv=>#[_,rfl,r,_,_,_,rfl,rfl,(s2.trans s3).tup hR,rfl,cV,λp3 h3=>q p3 _ _ ((s2.trans s3).trans (aB.new h3)) (aF.of aI) #[rfl,hv.mono (aB.new h3),rfl,trivial]]]]
   | put a w_ c =>
     have ha:((cU f a).bind λo=>(cU f c).map λo'=>[Ce.s "put",.p o,.s w_,.p o'])=some cs:=ha;obtain⟨o,ho,ha⟩:=Option.bind_eq_some_iff.mp ha;obtain⟨o',ho',rfl⟩:=Jd.mp ha;refine#[_,rfl,r,_,_,_,rfl,rfl,hR,at0,?_];refine#[_,rfl,ay,λp1 h1=>#[p1,_,rfl,.inr (aF.of aI),rfl,rfl,_,rfl,jN ?_]];refine#[_,rfl,ay,λp2 h2=>#[p2,_,rfl,.inr (aF.of aI),rfl,rfl,_,rfl,jN ?_]];have s2:=(aB.new (o:=.tup [V.str "out",V.str "back"]) h1).trans (aB.new (o:=.tup [V.str "if",V.str "while"]) h2);exact#[_,rfl,rfl,_,rfl,jN #[_,rfl,rfl,_,rfl,aP (IV rfl) #[_,rfl,_,rfl,r,_,_,_,rfl,rfl,s2.tup hR,rfl,b0,d,f,a,o,rfl,hL.mono s2,ho,λv H3 s3 hv=>#[_,rfl,r,_,_,_,rfl,rfl,(s2.trans s3).tup hR,rfl,_,rfl,_,rfl,r,_,_,_,rfl,rfl,(s2.trans s3).tup hR,rfl,b0,d,f,c,o',rfl,hL.mono (s2.trans s3),ho',λv4 H4 s4 hv4=>#[eI,λp3 h3=>q p3 _ _ (((s2.trans s3).trans s4).trans (aB.new h3)) (aF.of aI) #[rfl,hv.mono (s4.trans (aB.new h3)),rfl,hv4.mono (aB.new h3),trivial]]]]]]
   | new x =>
     cases ha;refine#[_,rfl,r,_,_,_,rfl,rfl,hR,at0,?_];refine#[_,rfl,ay,λp1 h1=>#[p1,_,rfl,.inr (aF.of aI),rfl,rfl,_,rfl,jN ?_]];refine#[_,rfl,ay,λp2 h2=>#[p2,_,rfl,.inr (aF.of aI),rfl,rfl,_,rfl,jN ?_]];exact#[_,rfl,rfl,_,rfl,jN #[_,rfl,rfl,_,rfl,jN #[_,rfl,rfl,_,rfl,jN #[_,rfl,rfl,_,rfl,aP (IV rfl) #[dE,λp3 h3=>q p3 _ _ (((aB.new h1).trans (aB.new h2)).trans (aB.new h3)) (aF.of aI) #[rfl,trivial]]]]]]
   | _=>cases ha
theorem kX:FnScope ["spot","sets","act","news","filled"] ["spot"] (b6 pf):=by walk_at "s"
theorem HL (T:Txt K mg t):FnOk P w K mg base CX0 1 t.xR t.yZ ["spot"] (Hy K t):=by
 refine T.boxes_behind.F.ok kX (λvs H Q E h=>?_) (λcdv A outer s H vs Q E hr h=>?_)
 . obtain⟨v,ps,a,as,fb,rfl,hS,ha,hf,h10,hnb,q⟩:=h;rfl
 . obtain⟨v,ps,a,as,fb,rfl,hS,ha,hf,h10,hnb,q⟩:=h;refine#[_,(aK (eZ (a9 0) (eE rfl (cH (bU (i:=1) kX.nd rfl (Or.inl rfl)) (cH (bU (i:=2) kX.nd rfl (Or.inl rfl)) eC)))) (aK (@al _ _ 3 _ _ _ _ kX.nd rfl (Or.inl rfl) (ce (vf rfl) (by rfl) T.b_dict lj (aC (a9 1) aE rfl)) (by rfl) (by walk_at "f")) (aK (@al _ _ 4 _ _ _ _ kX.nd rfl (Or.inl rfl) (@jA _ _ _ _ _ _ _ _ (ae AL (aG (show aH _ (aQ K) from aR) (a9 2) aD (λ_ _=>rfl)) (iB T.yK) (by with_unfolding_all rfl)) (aG (show aH _ (aQ K) from aR) (a9 2) (aG Cn (iB T.yK) (aG (show aH _ (aQ K) from aR) (a9 2) aD (λ_ _=>rfl)) (λ_ _=>rfl)) (λ_ _=>rfl)) eK) (by rfl) (by walk_at "f")) (aK (aj (fJ (g9 (a9 4))) (@aN _ _ _ (eQ (cK hr.units) (a9 3) (a9 4) (iB T.rG) (by rfl))) ai) (@aN _ _ _ (@aV _ _ _ _ (a9 3))))))),?_];obtain⟨p,l,xs,rfl,hp,hl,hxs⟩:=hS;obtain⟨as',kvs,rfl,z1,z2,z3⟩:=uL hxs;obtain⟨k,r,rfl,hk⟩:=hf;refine#[_,rfl,p,_,rfl,hp,rfl,_,_,rfl,_,_,rfl,rfl,?_];refine#[_,rfl,l,as',kvs,rfl,hl,z1,by omega,λd hd=>?_];have s1:=aB.new (o:=.dK (kvs.foldl (λacc kv=>ao acc kv.1 kv.2) [])) hd;have e1:upd H d (.dK (kvs.foldl (λacc kv=>ao acc kv.1 kv.2) [])) d=_:=aI;have nv:=NB.of_nv (K:=K) (ab:=t.bn) (λk u e=>A9 hnb k u e) (z3 _ [] (λ_=>none) s1 (λ_=>rfl));generalize upd H d (.dK (kvs.foldl (λacc kv=>ao acc kv.1 kv.2) []))=H1 at s1 e1 nv ⊢;have no:fb=none->Q (.ref d) H1:=λe=>q d _ H1 s1 e1 (by rw[e]; show NB K t.bn H1 _ (bz (ps++[])); rw[JI]; exact nv);have yes:∀i,fb=some i->Q (.ref d) (upd H1 d (.dK (ao (kvs.foldl (λacc kv=>ao acc kv.1 kv.2) []) (Sum.inl i:aL) (.ref t.bn)))):=λi e=>by have s2:aB H (upd H1 d (.dK (ao (kvs.foldl (λacc kv=>ao acc kv.1 kv.2) []) (Sum.inl i:aL) (.ref t.bn)))):=s1.upd hd;refine q d _ _ s2 aI ?_;rw[e,sH];exact NB.put (Dn (T.jR) e1 nv) (.inl #[rfl,rfl,T.jR _])
   have ln:(kvs.foldl (λacc kv=>ao acc kv.1 kv.2) []).length<=kvs.length:=by have:=wc kvs []; simpa using this
   rcases hk with⟨hk,hfb⟩|⟨rfl,x_,y_,b_,r',rfl,hb⟩|⟨rfl,b_,r',rfl,hb⟩
   . refine#[_,rfl,a,_,_,_,rfl,rfl,s1.tup ha,at0,t.iW,_,k,rfl,rfl,T.kt,_,rfl,ak (by rw[hk]; exact Iy) ?_];exact#[_,rfl,_,rfl,jN #[_,rfl,no hfb]]
   . refine#[_,rfl,a,_,_,_,rfl,rfl,s1.tup ha,at0,t.iW,_,"get",rfl,rfl,T.kt,_,rfl,iP ?_];refine#[_,rfl,_,rfl,a,_,_,_,rfl,rfl,s1.tup ha,at0,t.iW,_,"get",3,rfl,rfl,T.kt,rfl,a,_,_,b_,rfl,rfl,s1.tup ha,c7 (j:=3) rfl,_,rfl,_,rfl,?_];rcases hb with⟨rfl,hfb⟩|⟨i,rfl,hfb⟩
     . exact jN #[_,rfl,no hfb]
     . exact aP (by rfl) #[_,rfl,_,rfl,d,_,rfl,dC.k (k:=(Sum.inl i:aL)) e1 (Rk2.lt_line' (by omega)),_,rfl,yes i hfb]
   . refine#[_,rfl,a,_,_,_,rfl,rfl,s1.tup ha,at0,t.iW,_,"new",rfl,rfl,T.kt,_,rfl,iP ?_];refine#[_,rfl,_,rfl,a,_,_,_,rfl,rfl,s1.tup ha,at0,t.iW,_,"new",1,rfl,rfl,T.kt,rfl,a,_,_,b_,rfl,rfl,s1.tup ha,c7 (j:=1) rfl,_,rfl,_,rfl,?_];rcases hb with⟨rfl,hfb⟩|⟨i,rfl,hfb⟩
     . exact jN #[_,rfl,no hfb]
     . exact aP (by rfl) #[_,rfl,_,rfl,d,_,rfl,dC.k (k:=(Sum.inl i:aL)) e1 (Rk2.lt_line' (by omega)),_,rfl,yes i hfb]
theorem Cd:FnScope ["self","flows","spots","marks","k"] ["self","flows","spots","marks","k"] (b6 kH):=by walk_at "s"
theorem Cp (T:Txt K mg t):FnOk P w K mg base CX0 2 t.xJ t.yR ["self","flows","spots","marks","k"] (HC K t):=by
 have Qj:=uh (P:=P) (w:=w) (base:=base) T;have QD:=HL (P:=P) (w:=w) (base:=base) T;have Qk:=uk (P:=P) (w:=w) (base:=base) T;refine T.xC.F.ok Cd (λvs H Q E h=>?_) (λcdv A outer s H vs Q E hr h=>?_)
 . obtain⟨x,dx,fl,sp,mk,a,k,fns,svs,mvs,ks,Ms,L0,e,ps,as,v,fb,rfl,hx,hT,hM,hv,hS,ha,hf,h10,hnb,hno,q⟩:=h;rfl
 . skip
   refine lx ?_;intro XX;refine(let W5:TS:=_; have hW5:bQ XX ((bP kH).drop 5) W5:=(aK (dr (a9 0) (bG T.levels_of Qj (hr.mono (by decide)) (aC (a9 1) (aC (aG (show aH _ (af K) from ag) (a9 3) (a9 4) (λ_ _=>rfl)) aE rfl) rfl)) (by rfl)) (aK (dr (a9 0) (dJ (a9 1) T.cw.cl T.ke.m Qk (hr.mono (by decide)) T.ke.b .nil cq (aC (aG (show aH _ (aQ K) from aR) (bM (a9 0) (by rfl)) (cp cn aD) (λ_ _=>rfl)) aE rfl)) (by rfl)) (@aN _ _ _ (dr (a9 0) (bG T.boxes_behind QD (hr.mono (by decide)) (aC (aG (show aH _ (af K) from ag) (a9 2) (a9 4) (λ_ _=>rfl)) aE rfl)) (by rfl))))); ?_);refine(let W2:TS:=_; have hW2:bQ XX ((bP kH).drop 2) W2:=(aK (dr (a9 0) (a9 3) (by rfl)) (aK (dr (a9 0) (aG (show aH _ (aQ K) from aR) (aG (show aH _ (af K) from ag) (a9 2) (a9 4) (λ_ _=>rfl)) aD (λ_ _=>rfl)) (by rfl)) (aK (dr (a9 0) (aG (show aH _ (aQ K) from aR) (aG (show aH _ (af K) from ag) (a9 3) (a9 4) (λ_ _=>rfl)) aD (λ_ _=>rfl)) (by rfl)) hW5))); ?_);obtain⟨x,dx,fl,sp,mk,a,k,fns,svs,mvs,ks,Ms,L0,e,ps,as,v,fb,rfl,hx,hT,hM,hv,hS,ha,hf,h10,hnb,hno,q⟩:=h;refine#[_,(aK (dr (a9 0) (a9 1) (by rfl)) (aK (dr (a9 0) (a9 2) (by rfl)) hW2)),?_];obtain⟨p,l,xs,rfl,hp,hl,hxs⟩:=id hS;have kM:k<Ms.length:=(Ic.mp hM).1;obtain⟨mv,Lk,m1,m2,m3⟩:=Rk2.Ps.at hT.ms (n:=k) kM;rw[hM] at m2;cases m2;obtain⟨mp,cv,mw,ws,rfl,hmp,hch,_⟩:=id m3;have s0:aB (ers x H) H:=dq;refine#[_,rfl,_,rfl,x,t.aa,dx,_,rfl,hx,T.az.cl,T.rQ,(by show 0<1000; decide),?_];have l1:=eR "flows" (V.ref fl) [] 0 (Ib _);refine#[_,rfl,_,rfl,x,t.aa,dx,_,rfl,aI,T.az.cl,T.zm,(by omega),?_];have l2:=eR "spots" (V.ref sp) _ 1 l1;refine#[_,rfl,_,rfl,x,t.aa,dx,_,rfl,aI,T.az.cl,T.rR,(by omega),?_];have l3:=eR "marks" (V.ref mk) _ 2 l2;have s3:=fM (o:=.ins t.aa dx (aY "marks" (V.ref mk) (aY "spots" (V.ref sp) (aY "flows" (V.ref fl) [])))) (fM (o:=.ins t.aa dx (aY "spots" (V.ref sp) (aY "flows" (V.ref fl) []))) (fM (o:=.ins t.aa dx (aY "flows" (V.ref fl) [])) s0));have e3:upd (upd (upd H x (.ins t.aa dx (aY "flows" (V.ref fl) []))) x (.ins t.aa dx (aY "spots" (V.ref sp) (aY "flows" (V.ref fl) [])))) x (.ins t.aa dx (aY "marks" (V.ref mk) (aY "spots" (V.ref sp) (aY "flows" (V.ref fl) [])))) x=some (.ins t.aa dx (aY "marks" (V.ref mk) (aY "spots" (V.ref sp) (aY "flows" (V.ref fl) [])))):=aI;generalize upd (upd (upd H x (.ins t.aa dx (aY "flows" (V.ref fl) []))) x (.ins t.aa dx (aY "spots" (V.ref sp) (aY "flows" (V.ref fl) [])))) x (.ins t.aa dx (aY "marks" (V.ref mk) (aY "spots" (V.ref sp) (aY "flows" (V.ref fl) []))))=H3 at s3 e3 ⊢;refine#[_,rfl,_,rfl,sp,_,_,_,rfl,rfl,s3.seq hT.s,c7 hv,p,_,_,_,rfl,rfl,s3.tup hp,rfl,_,rfl,x,t.aa,dx,_,rfl,e3,T.az.cl,T.dO,(by omega),?_];have l4:=eR "act" (V.ref a) _ 3 l3;have s4:=fM (o:=.ins t.aa dx (aY "act" (V.ref a) (aY "marks" (V.ref mk) (aY "spots" (V.ref sp) (aY "flows" (V.ref fl) []))))) s3;refine#[_,rfl,_,rfl,mk,_,_,_,rfl,rfl,s4.seq hT.m,c7 m1,mp,_,_,_,rfl,rfl,s4.tup hmp,at0,_,rfl,x,t.aa,dx,_,rfl,aI,T.az.cl,T.rP,(by omega),?_];have l5:=eR "chain" cv _ 4 l4;have s5:=fM (o:=.ins t.aa dx (aY "chain" cv (aY "act" (V.ref a) (aY "marks" (V.ref mk) (aY "spots" (V.ref sp) (aY "flows" (V.ref fl) [])))))) s4;have hLk:=hT.l _ (Ij hM);refine#[_,rfl,_,rfl,_,rfl,mk,_,_,_,rfl,rfl,s5.seq hT.m,c7 m1,fl,.ref mp,fns,L0++[e],rfl,hT.f.mono s5,m3.mono s5,hLk.2,hLk.1,λav H6 s56 hA=>?_];have s6:=s5.trans s56;have e6:=s56 _ _ aI;refine#[_,rfl,x,t.aa,dx,_,rfl,e6,T.az.cl,T.i0,(by omega),?_];have l6:=eR "ahead" av _ 5 l5;have hA6:=Ca T.jR e6 (El (K:=K) (ab:=t.bn) hLk.2 hno hA.old);have s67:aB (ers x H6) (upd H6 x (.ins t.aa dx (aY "ahead" av (aY "chain" cv (aY "act" (V.ref a) (aY "marks" (V.ref mk) (aY "spots" (V.ref sp) (aY "flows" (V.ref fl) [])))))))):=qH;have s7:=fM (o:=.ins t.aa dx (aY "ahead" av (aY "chain" cv (aY "act" (V.ref a) (aY "marks" (V.ref mk) (aY "spots" (V.ref sp) (aY "flows" (V.ref fl) []))))))) s6;have e7:upd H6 x (.ins t.aa dx (aY "ahead" av (aY "chain" cv (aY "act" (V.ref a) (aY "marks" (V.ref mk) (aY "spots" (V.ref sp) (aY "flows" (V.ref fl) []))))))) x=some (.ins t.aa dx (aY "ahead" av (aY "chain" cv (aY "act" (V.ref a) (aY "marks" (V.ref mk) (aY "spots" (V.ref sp) (aY "flows" (V.ref fl) []))))))):=aI;generalize upd H6 x (.ins t.aa dx (aY "ahead" av (aY "chain" cv (aY "act" (V.ref a) (aY "marks" (V.ref mk) (aY "spots" (V.ref sp) (aY "flows" (V.ref fl) [])))))))=H7 at s67 s7 e7 ⊢;have hch':cT K (ers x H) ((L0++[e]).map Lev.fr) cv:=hch;obtain⟨cA,cs,rfl,hcs,hcp⟩:=id hch';rw[J0] at hcp;obtain⟨cs',u,rfl,-,fa,rfl,hfa⟩:=St.Ps.split1 (t:=e.fr) hcp;have oke:=hLk.2 e (J9 _ Ii);obtain⟨w,hw⟩:∃w,e.F.rs[e.r]?=some w:=#[_,Iw oke.r]
   have hF7:=hT.f.mono s7;obtain⟨dy,fz,d,kv,nl,wl,h0,hO,_⟩:=hF7.ob;refine#[_,rfl,fl,dy,_,rfl,hO.ob,(by rfl),_,rfl,x,t.aa,dx,_,_,rfl,e7,T.az.cl,T.rP,(by rfl),_,rfl,cA,_,_,_,rfl,rfl,s7.tup hcs,i3 _ _,fl,fa,fns,e.F,e.r,w,rfl,hF7,oke.m,s7.tup hfa,hw,_,rfl,x,t.aa,dx,_,rfl,e7,T.az.cl,T.cP,(by omega),?_];have l7:=eR "row" (V.ref w.r) _ 6 l6;have s8:=fM (o:=.ins t.aa dx (aY "row" (V.ref w.r) (aY "ahead" av (aY "chain" (V.ref cA) (aY "act" (V.ref a) (aY "marks" (V.ref mk) (aY "spots" (V.ref sp) (aY "flows" (V.ref fl) [])))))))) s7;have s68:=fM (o:=.ins t.aa dx (aY "row" (V.ref w.r) (aY "ahead" av (aY "chain" (V.ref cA) (aY "act" (V.ref a) (aY "marks" (V.ref mk) (aY "spots" (V.ref sp) (aY "flows" (V.ref fl) [])))))))) s67;refine#[_,rfl,_,rfl,sp,_,_,_,rfl,rfl,s8.seq hT.s,c7 hv,.ref p,ps,a,as,fb,rfl,hS.mono s8,s8.tup ha,hf,h10,hnb,λd' kvs H9 s89 e9 nv=>?_];have e9x:=s89 _ _ aI;refine#[_,rfl,x,t.aa,dx,_,rfl,e9x,T.az.cl,T.zk,(by omega),?_];have sF:=fM (o:=.ins t.aa dx (aY "news" (.ref d') (aY "row" (V.ref w.r) (aY "ahead" av (aY "chain" (V.ref cA) (aY "act" (V.ref a) (aY "marks" (V.ref mk) (aY "spots" (V.ref sp) (aY "flows" (V.ref fl) []))))))))) (s8.trans s89);refine q #[fl,sp,mk,a,w.r,d',.ref cA,av] _ sF #[#[dx,aI],hT.mono sF,sF.tup ha,hch'.mono sF,hA6.mono (fM (s68.trans s89)),hLk.2,?_,#[w,hw,rfl],kvs,qH _ _ (j9 e9x e9 (λ_ _ _ y=>by cases y)),(IA T.jR e9x nv).mono qH];have:=hLk.1;rw[Il] at this;simp at this;omega
theorem kT:FnScope ["self","k","chain","levels","shown","behind","name","place"] ["self","k","chain","levels"] (b6 qf):=by walk_at "s"
theorem tf (T:Txt K mg t):FnOk P w K mg base CX0 14 t.xM t.yU ["self","k","chain","levels"] (IE K t):=by
 have Qj:=uh (P:=P) (w:=w) (base:=base) T;have Qg:FnOk P w K mg base CX0 13 t.nH t.nJ ["one","news"] (qq K t 10):=sO T 10;refine T.kj.F.ok kT (λvs H Q E h=>?_) (λcdv A outer s H vs Q E hr h=>?_)
 . obtain⟨x,A_,k,L,ch,fs,cv,lv,rfl,hA,hO,hL,hC,hV,hB,q⟩:=h;rfl
 . obtain⟨x,A_,k,L,ch,fs,cv,lv,rfl,hA,hO,hL,hC,hV,hB,q⟩:=h;refine#[_,(aK (aj (ae (gS hr.units) (aG (show aH _ (aQ K) from aR) (aG (show aH _ (af K) from ag) (bM (a9 0) (by rfl)) (a9 1) (λ_ _=>rfl)) aD (λ_ _=>rfl)) (a9 2) (aX _)) (@aN _ _ _ (@aV _ _ _ _ dL)) ai) (aK (cy PassesOwn.never rfl (my false false rfl T.b_zip (aC (bG T.levels_of Qj (hr.mono (by decide)) (aC (bM (a9 0) (by rfl)) (aC (aG (show aH _ (af K) from ag) (bM (a9 0) (by rfl)) (a9 1) (λ_ _=>rfl)) aE rfl) rfl)) (aC (a9 3) aE rfl) rfl)) (eE rfl (cH (bU (i:=4) kT.nd rfl (Or.inl rfl)) (cH (bU (i:=5) kT.nd rfl (Or.inl rfl)) eC))) (@aN _ _ _ (cy PassesOwn.never rfl (qG (a9 4)) (eE rfl (cH (bU (i:=6) kT.nd rfl (Or.inl rfl)) (cH (bU (i:=7) kT.nd rfl (Or.inl rfl)) eC))) (@aN _ _ _ (aj (@PW.pt _ _ _ (dN (fJ (g9 (a9 7))) (dW (ae (gS hr.units) (bG T.put_through Qg (hr.mono (by decide)) (aC (a9 7) (aC (bM (a9 0) (by rfl)) aE rfl) rfl)) (fi (cK hr.units) (a9 5) (a9 6) (λ_ _=>rfl)) (aX _))))) (@aN _ _ _ (@aV _ _ _ _ dL)) ai))))) (@aN _ _ _ (@aV _ _ _ _ dL)))),?_];obtain⟨dx,ob⟩:=hA.ob;obtain⟨mv,L',a1,a2,hM⟩:=Rk2.Ps.at hA.tb.ms (n:=k) (Ic.mp hL).1;rw[hL] at a2;cases a2;obtain⟨mp,mc,w_,ws,rfl,hmp,hmc,hmw,hmws⟩:=id hM;have hLk:=hA.tb.l L (Ij hL);have hn1:∀c∈L.map Lev.fr,PyData.strOk c.1=true:=λc hc=>by obtain⟨e,he,rfl⟩:=J3.mp hc;exact hO.n _ (hLk.2 e he).m
   refine#[_,rfl,x,t.aa,dx,_,_,rfl,ob,T.az.cl,T.rR,(by rfl),_,rfl,A_.S.mt,_,_,_,rfl,rfl,hA.tb.m,c7 a1,mp,_,_,_,rfl,rfl,hmp,at0,_,rfl,vd hn1 hB.n hmc hC #[_,rfl,?_]];have eS:iq (bz A_.ps) L ch fs=(decide (L.map Lev.fr=ch)&&(L.zip fs).all λeb=>eW (bz A_.ps) eb.1 eb.2):=rfl;by_cases hch:L.map Lev.fr=ch
   case neg =>
     rw[Ih hch] at eS ⊢;rw[eS] at q;exact aP rfl (q H (aB.refl _))
   rw[IV hch,JY] at eS;rw[eS] at q;rw[IV hch];have gok:=pY hO.g;obtain⟨kg,eg,nvg⟩:=hA.nw;refine jN #[_,rfl,x,t.aa,dx,_,_,rfl,ob,T.az.cl,T.rQ,(by rfl),_,rfl,x,t.aa,dx,_,_,rfl,ob,T.az.cl,T.rR,(by rfl),_,rfl,A_.S.mt,_,_,_,rfl,rfl,hA.tb.m,c7 a1,A_.S.fl,.ref mp,A_.fns,L,rfl,hA.tb.f,hM,hLk.2,hLk.1,λlv1 H1 s1 hN=>?_];obtain⟨l1,ds,rfl,e1,hds⟩:=hN;obtain⟨l2,ds2,rfl,e2,hds2⟩:=hV;refine#[_,rfl,l1,l2,rfl,#[_,aJ.of e1],#[_,aJ.of (s1 _ _ e2)],(let Jv1:Nat->St->Hp->Prop:=λi σ G=>∃v4 v5 v6 v7:Option V,σ=[some (.ref x),some (.int (k:Int)),some cv,some (.ref l2),v4,v5,v6,v7]/\cL H H1 G/\∀j eb,j<i->(L.zip fs)[j]?=some eb->eW (bz A_.ps) eb.1 eb.2=true; qw (b1:=false) (b2:=false) (xs:=ds) (ys:=ds2) Jv1 #[_,_,_,_,rfl,cL.of (aB.refl _),λj eb hj=>absurd hj (JR j)] ?_ ?_ ?_)]
   . rintro i σ G hi ⟨v4,v5,v6,v7,rfl,fz,hb⟩;exact#[aJ.of (fz.lst e1),aJ.of (fz.same s1 _ _ e2)]
   . rintro i y z σ G b hy hz ⟨v4,v5,v6,v7,rfl,fz,hb⟩ nb;have iL:i<L.length:=by have:=(Ic.mp hy).1; have:=Rk2.Ps.len hds; omega
     have iF:i<fs.length:=by have:=(Ic.mp hz).1; have:=Rk2.Ps.len hds2; omega
     obtain⟨u1,e,b1,b2,d,us,rfl,n0,ed,hus⟩:=Rk2.Ps.at hds (n:=i) iL;rw[hy] at b1;cases b1;obtain⟨u2,f,c1,c2,d2,rfl,kv2,ed2,hk2,hf2⟩:=Rk2.Ps.at hds2 (n:=i) iF;rw[hz] at c1;cases c1;have oke:=hLk.2 e (Ij b2);have fz1:=fz.trans (aB.new (o:=.tup [V.ref d,V.ref d2]) nb);refine#[b,_,rfl,aF.of aI,rfl,_,_,rfl,_,_,rfl,rfl,?_];generalize upd G b (.tup [V.ref d,V.ref d2])=G1 at fz1 ⊢;refine#[_,rfl,FG fz1 n0 ed λo G2 fz2 ed2'=>oN (o:=o) (d:=d) (kvs:=kz (F2.nms e.F) us) (λj σ G3=>∃v6 v7:Option V,σ=[some (.ref x),some (.int (k:Int)),some cv,some (.ref l2),some (.ref d),some (.ref d2),v6,v7]/\cL H H1 G3/\G3 d=some (.frz o (.dK (kz (F2.nms e.F) us)))/\∀j' nv,j'<j->((F2.nms e.F).zip e.vw)[j']?=some nv->gz (bz A_.ps) f nv.1 nv.2=true) #[_,_,rfl,fz2,ed2',λj nv hj=>absurd hj (JR j)] ?_ ?_ ?_]
     . rintro j σ G3 hj ⟨v6,v7,rfl,fz3,z3,h3⟩;exact z3
     . rintro j kv σ G3 b3 hkv ⟨v6,v7,rfl,fz3,z3,h3⟩ nb3;obtain⟨n,pl,u,rfl,hz3,hu⟩:=t6 hus hkv;have nm:n∈F2.nms e.F:=(KM (Ij hz3)).1;have vm:pl∈e.vw:=(KM (Ij hz3)).2;obtain⟨o2,ho2,hok2⟩:=hB.l i e.fr f (by rw[<- hch,Iu,b2]; rfl) c2 e.F oke.m rfl n nm;have s4:=aB.new (o:=.tup [V.str n,u]) nb3;have fz4:=fz3.trans s4;have z4:=s4 _ _ z3;refine#[b3,_,rfl,aF.of aI,rfl,_,_,rfl,_,_,rfl,rfl,?_];have hu4:=fz4.vat hu;have step:∀G5,cL H H1 G5->G5 d=some (.frz o (.dK (kz (F2.nms e.F) us)))->gz (bz A_.ps) f n pl=true->∃v6 v7:Option V,[some (.ref x),some (.int (k:Int)),some cv,some (.ref l2),some (.ref d),some (.ref d2),some (.str n),some u]=[some (.ref x),some (.int (k:Int)),some cv,some (.ref l2),some (.ref d),some (.ref d2),v6,v7]/\cL H H1 G5/\G5 d=some (.frz o (.dK (kz (F2.nms e.F) us)))/\∀j' nv,j'<j+1->((F2.nms e.F).zip e.vw)[j']?=some nv->gz (bz A_.ps) f nv.1 nv.2=true:=λG5 f5 d5 h5=>#[_,_,rfl,f5,d5,λj' nv hj' hn=>by
         rcases K8.mp hj' with h|h
         . exact h3 j' nv h hn
         . subst h;rw[hz3] at hn;cases hn;exact h5]
       cases pl with
       | none =>
         cases hu4;refine#[_,rfl,_,rfl,ak (by simp) (ak (by simp) ?_)];exact step _ fz4 z4 rfl
       | some tr =>
         have tok:=(hO.v L (Ij hL) e (Ij b2) tr vm).1; have nob:=(hO.v L (Ij hL) e (Ij b2) tr vm).2
         refine#[_,rfl,_,rfl,aP (by obtain⟨p,rfl⟩:=gJ hu4; rfl) ?_];have s04:=fz4.same s1;refine#[_,rfl,_,rfl,x,t.aa,dx,_,_,rfl,s04 _ _ ob,T.az.cl,T.zk,(by rfl),tr,u,A_.S.d,kg,bz A_.ps,rfl,tok.2.2,nob,hu4,s04 _ _ eg,nvg.mono s04,tok.1,(λk t h=>(gok k t h).1),λv5 G5 s5 hv5=>?_];have fz5:=fz4.trans s5;obtain⟨v6,g6,hv6⟩:=hf2 n o2 ho2;refine#[_,rfl,_,rfl,d2,_,rfl,jd (fz5.same s1 _ _ ed2) g6,Ec (o:=o2) (EN gok tok) hok2 hv5 (hv6.mono (fz5.same s1)) #[_,rfl,?_]];have eP:gz (bz A_.ps) f n (some tr)=ga (Rk2.pt (bz A_.ps) tr) o2:=by show(match f n with|some o=>_|none=>_)=_; rw[ho2]
         cases hE:ga (Rk2.pt (bz A_.ps) tr) o2 with
         | true=>exact jN (step G5 fz5 (s5 _ _ z4) (eP.trans hE))
         | false =>
           refine aP rfl ?_;have:((L.zip fs).all λeb=>eW (bz A_.ps) eb.1 eb.2)=false:=by rw[Ke];refine#[(e,f),Ij (JV.mpr #[b2,c2]),?_];show ¬ eW _ e f=true;rw[Bool.not_eq_true];unfold eW;rw[Ke];exact#[(n,some tr),Ij hz3,by rw[eP.trans hE]; decide]
           rw[this] at q;exact q G5 (fz5.same s1)
     . rintro σ G3 ⟨v6,v7,rfl,fz3,z3,h3⟩;refine#[_,_,_,_,rfl,fz3,λj eb hj hz4=>?_];rcases K8.mp hj with h|h
       . exact hb j eb h hz4
       . subst h;rw[JV] at hz4;rw[b2,c2] at hz4;obtain⟨y1,y2⟩:=hz4;cases y1;cases y2;show eW _ eb.1 eb.2=true;unfold eW;rw[Jk];intro nv hnv;obtain⟨j',hj',e'⟩:=KI hnv;exact h3 j' nv (by rw[BV hus]; exact hj') (by rw[<- e']; exact Iw hj')
   . rintro σ G ⟨v4,v5,v6,v7,rfl,fz,hb⟩;have:((L.zip fs).all λeb=>eW (bz A_.ps) eb.1 eb.2)=true:=by rw[Jk];intro eb heb;obtain⟨j',hj',e'⟩:=KI heb;exact hb j' eb (by rw[Rk2.Ps.len hds,Rk2.Ps.len hds2]; rw[Jz] at hj'; exact hj') (by rw[<- e']; exact Iw hj')
     rw[this] at q;exact q G (fz.same s1)
theorem BD:FnScope ["self","k"] ["self","k"] (b6 nj):=by walk_at "s"
theorem tT (T:Txt K mg t):FnOk P w K mg base CX0 1 t.xK t.yS ["self","k"] (Cu K t):=by
 refine T.ki.F.ok BD (λvs H Q E h=>?_) (λcdv A outer s H vs Q E hr h=>?_)
 . obtain⟨x,A_,k,kd,rfl,hA,hk,q⟩:=h;rfl
 . obtain⟨x,A_,k,kd,rfl,hA,hk,q⟩:=h;refine#[_,(aK (@aV _ _ _ _ (dS au (aG (show aH _ (aQ K) from aR) (aG (show aH _ (aQ K) from aR) (aG (show aH _ (af K) from ag) (bM (a9 0) (by rfl)) (a9 1) (λ_ _=>rfl)) aD (λ_ _=>rfl)) aD (λ_ _=>rfl)) aS (aX _))) ai),?_];obtain⟨dx,ob⟩:=hA.ob;obtain⟨v,kd',a1,a2,p,l,a,r,rfl,h1,h2⟩:=Rk2.Ps.at hA.tb.ss (n:=k) (Ic.mp hk).1;rw[hk] at a2;cases a2;refine#[_,rfl,x,t.aa,dx,_,_,rfl,ob,T.az.cl,T.zm,(by rfl),_,rfl,A_.S.sp,_,_,_,rfl,rfl,hA.tb.s,c7 a1,p,_,_,_,rfl,rfl,h1,rfl,a,_,_,_,rfl,rfl,h2,at0,rfl,?_];rw[show decide (V.str kd=V.str "wait")=decide (kd="wait") from decide_eq_decide.mpr #[λz=>V.str.inj z,λz=>by rw[z]]];exact q
theorem Di:FnScope ["self","k","chain","levels"] ["self","k","chain","levels"] (b6 pM):=by walk_at "s"
theorem um (T:Txt K mg t):FnOk P w K mg base CX0 15 t.xG t.yO ["self","k","chain","levels"] (AN K t):=by
 have Ql:=tf (P:=P) (w:=w) (base:=base) T;have Qm:=tT (P:=P) (w:=w) (base:=base) T;refine T.iV.F.ok Di (λvs H Q E h=>?_) (λcdv A outer s H vs Q E hr h=>?_)
 . obtain⟨x,A_,k,ch,fs,cv,lv,rfl,hA,hO,hL,hC,hV,hB,q⟩:=h;rfl
 . obtain⟨x,A_,k,ch,fs,cv,lv,rfl,hA,hO,hL,hC,hV,hB,q⟩:=h;refine#[_,(aK (@aV _ _ _ _ (gb (Av (dJ (a9 0) T.az.cl T.ki.m Qm (hr.mono (by decide)) T.ki.b .nil cq (aC (a9 1) aE rfl))) (i5 (dJ (a9 0) T.az.cl T.kj.m Ql (hr.mono (by decide)) T.kj.b .nil cq (aC (a9 1) (aC (a9 2) (aC (a9 3) aE rfl) rfl) rfl))))) ai),?_];obtain⟨dx,ob⟩:=hA.ob;obtain⟨kd,hkd⟩:∃kd,A_.ks[k]?=some kd:=#[_,Iw (by rw[hO.l]; exact hL)]
   obtain⟨L,hLk⟩:∃L,A_.Ms[k]?=some L:=#[_,Iw hL]
   have eA:gW A_ k ch fs=(!decide (kd="wait")&&iq (bz A_.ps) L ch fs):=by unfold gW; rw[hkd,hLk]
   rw[eA] at q;refine#[_,rfl,x,dx,_,rfl,ob,(by rfl),_,rfl,x,A_,k,kd,rfl,hA,hkd,_,rfl,_,rfl,?_];by_cases hw:kd="wait"
   . rw[IV hw] at q ⊢;exact jN (q H (aB.refl _))
   . rw[Ih hw] at q ⊢;exact aP rfl #[_,rfl,x,dx,_,rfl,ob,(by rfl),_,rfl,_,rfl,_,rfl,x,A_,k,L,ch,fs,cv,lv,rfl,hA,hO,hLk,hC,hV,hB,λH' s'=>q H' s']
theorem Df:FnScope ["self","k","levels"] ["self","k","levels"] (b6 nT):=by walk_at "s"
theorem tX (T:Txt K mg t):FnOk P w K mg base CX0 16 t.xH t.yP ["self","k","levels"] (F9 K t):=by
 have Qn:=wu (P:=P) (w:=w) (base:=base) T;have Qh:=um (P:=P) (w:=w) (base:=base) T;refine T.fW.F.ok Df (λvs H Q E h=>?_) (λcdv A outer s H vs Q E hr h=>?_)
 . obtain⟨x,A_,k,to_,fs,lv,rfl,hA,hO,hL,hW,hV,hB,q⟩:=h;rfl
 . obtain⟨x,A_,k,to_,fs,lv,rfl,hA,hO,hL,hW,hV,hB,q⟩:=h;refine#[_,(aK (@aV _ _ _ _ (dJ (a9 0) T.az.cl T.iV.m Qh (hr.mono (by decide)) T.iV.b .nil cq (aC (a9 1) (aC (bG T.moved Qn (hr.mono (by decide)) (aC (bM (a9 0) (by rfl)) (aC (bM (a9 0) (by rfl)) (aC aD aE rfl) rfl) rfl)) (aC (a9 2) aE rfl) rfl) rfl))) ai),?_];obtain⟨dx,ob⟩:=hA.ob;have oke:=hA.ok A_.e (J9 _ Ii);have hch:cT K H (A_.L0.map Lev.fr++[(A_.e.F.name,A_.e.r)]) A_.S.cv:=by have:=hA.ch;rw[J0] at this;exact this
   refine#[_,rfl,x,dx,_,rfl,ob,(by rfl),_,rfl,_,rfl,x,t.aa,dx,_,_,rfl,ob,T.az.cl,T.rQ,(by rfl),_,rfl,x,t.aa,dx,_,_,rfl,ob,T.az.cl,T.rP,(by rfl),A_.S.fl,A_.S.cv,A_.fns,A_.L0.map Lev.fr,A_.e.F,A_.e.r,0,to_,rfl,hA.tb.f,hch,oke.m,oke.r,hW,(by rw[IX]; exact hA.ln),λcv' H' s' hc'=>#[_,rfl,x,A_,k,_,fs,cv',lv,rfl,hA.mono s',hO,hL,hc',hV.mono s',hB,λH2 s2=>q H2 (s'.trans s2)]]
theorem lM:FnScope ["self","k","kind","outer","levels"] ["self","k"] (b6 ja):=by walk_at "s"
theorem zw (T:Txt K mg t):FnOk P w K mg base CX0 17 t.xI t.yQ ["self","k"] (Dz K t):=by
 have QE:=Dg (P:=P) (w:=w) (base:=base) T;have Qe:=uR (P:=P) (w:=w) (base:=base) T;have QF:=AY (P:=P) (w:=w) (base:=base) T;have Qn:=wu (P:=P) (w:=w) (base:=base) T;have QG:=D0 (P:=P) (w:=w) (base:=base) T;have Qc:=tX (P:=P) (w:=w) (base:=base) T;have Qh:=um (P:=P) (w:=w) (base:=base) T;have Qk:=uk (P:=P) (w:=w) (base:=base) T;refine T.r9.F.ok lM (λvs H Q E h=>?_) (λcdv A outer s H vs Q E hr h=>?_)
 . obtain⟨x,A_,k,rg,rfl,hA,hO,hR,hL,hr4,q⟩:=h;rfl
 . skip
   refine lx ?_;intro XX;refine(let W4:TS:=_; have hW4:bQ XX ((bP ja).drop 4) W4:=(aK (aj (@PW.pt _ _ _ (dN (ae au (a9 2) aS (aX _)) (dW (ae (bo jp) (cR (show bt _ (.builtin "len") (cr K) from d9) (by rfl) T.b_len ci (aC (bM (a9 0) (by rfl)) aE rfl)) aD (aX _))))) (aK (@al _ _ 3 _ _ _ _ lM.nd rfl (Or.inl rfl) (gk m8 (bM (a9 0) (by rfl)) gm (hU (cp cn aD))) (by rfl) (by walk_at "f")) (aK (@al _ _ 4 _ _ _ _ lM.nd rfl (Or.inl rfl) (bG T.left_behind QE (hr.mono (by decide)) (aC (dJ (bM (a9 0) (by rfl)) T.cw.cl T.ke.m Qk (hr.mono (by decide)) T.ke.b .nil cq (aC (aG (show aH _ (aQ K) from aR) (a9 3) (cp cn aD) (λ_ _=>rfl)) aE rfl)) (aC (bM (a9 0) (by rfl)) (aC (bM (a9 0) (by rfl)) aE rfl) rfl) rfl)) (by rfl) (by walk_at "f")) (@aN _ _ _ (@aV _ _ _ _ (dJ (a9 0) T.az.cl T.iV.m Qh (hr.mono (by decide)) T.iV.b .nil cq (aC (a9 1) (aC (bG T.moved Qn (hr.mono (by decide)) (aC (bM (a9 0) (by rfl)) (aC (a9 3) (aC aD aE rfl) rfl) rfl)) (aC (a9 4) aE rfl) rfl) rfl)))))) ai) (@aN _ _ _ (@aV _ _ _ _ dL))); ?_);refine(let W2:TS:=_; have hW2:bQ XX ((bP ja).drop 2) W2:=(aK (aj (ae au (a9 2) aS (aX _)) (@aN _ _ _ (@aV _ _ _ _ (dJ (a9 0) T.az.cl T.fW.m Qc (hr.mono (by decide)) T.fW.b .nil cq (aC (a9 1) (aC (bG T.with_given Qe (hr.mono (by decide)) (aC (bM (a9 0) (by rfl)) (aC (aG (show aH _ (aQ K) from aR) (bM (a9 0) (by rfl)) aD (λ_ _=>rfl)) (aC eK aE rfl) rfl) rfl)) aE rfl) rfl)))) ai) (aK (aj (ae au (a9 2) aS (aX _)) (@aN _ _ _ (@aV _ _ _ _ (dJ (a9 0) T.az.cl T.iV.m Qh (hr.mono (by decide)) T.iV.b .nil cq (aC (a9 1) (aC (@aM _ _ _ _ _ _ _ _ tW (bM (a9 0) (by rfl)) (aq (aC (aq (aC (aG (show aH _ (aQ K) from aR) (bM (a9 0) (by rfl)) aD (λ_ _=>rfl)) (aC aD aE rfl) rfl)) aE rfl))) (aC (bG T.entered QF (hr.mono (by decide)) (aC (bM (a9 0) (by rfl)) (aC (bM (a9 0) (by rfl)) (aC (bM (a9 0) (by rfl)) aE rfl) rfl) rfl)) aE rfl) rfl) rfl)))) ai) hW4)); ?_);obtain⟨x,A_,k,rg,rfl,hA,hO,hR,hL,hr4,q⟩:=h;refine#[_,(aK (@al _ _ 2 _ _ _ _ lM.nd rfl (Or.inl rfl) (aG (show aH _ (aQ K) from aR) (bM (a9 0) (by rfl)) aD (λ_ _=>rfl)) (by rfl) (by walk_at "f")) (aK (aj (ae fm (a9 2) (aq (aC aS (aC aS aE rfl) rfl)) (by with_unfolding_all rfl)) (@aN _ _ _ (@aV _ _ _ _ (dJ (a9 0) T.az.cl T.fW.m Qc (hr.mono (by decide)) T.fW.b .nil cq (aC (a9 1) (aC (bG T.with_given Qe (hr.mono (by decide)) (aC (bM (a9 0) (by rfl)) (aC (aG (show aH _ (aQ K) from aR) (bM (a9 0) (by rfl)) aD (λ_ _=>rfl)) (aC (bG T.made_by QG (hr.mono (by decide)) (aC (bM (a9 0) (by rfl)) (aC (aG (show aH _ (af K) from ag) (bM (a9 0) (by rfl)) (cp cn aD) (λ_ _=>rfl)) aE rfl) rfl)) aE rfl) rfl) rfl)) aE rfl) rfl)))) ai) hW2)),?_];obtain⟨dx,ob⟩:=hA.ob;cases rg with
   | get y a w_ =>
     rcases q with⟨hn,_⟩|⟨_,_,_,to_,e,hW,hB,q⟩
     . exact absurd rfl (hn _ _ _)
     cases e;refine#[_,rfl,x,t.aa,dx,_,_,rfl,ob,T.az.cl,T.cP,(by rfl),A_.S.r,_,_,_,rfl,rfl,hR,at0,?_];refine#[_,rfl,ay,λp hp=>#[p,_,rfl,.inr (aF.of aI),rfl,rfl,_,rfl,jN ?_]];have s1:=aB.new (o:=.tup [V.str "copy",V.str "op"]) hp;have ob1:=s1 _ _ ob;generalize upd H p (.tup [V.str "copy",V.str "op"])=H1 at s1 ob1 ⊢;refine#[_,rfl,rfl,_,rfl,aP (IV rfl) #[_,rfl,x,dx,_,rfl,ob1,(by rfl),_,rfl,_,rfl,x,t.aa,dx,_,_,rfl,ob1,T.az.cl,T.i0,(by rfl),_,rfl,x,t.aa,dx,_,_,rfl,ob1,T.az.cl,T.cP,(by rfl),A_.S.r,_,_,_,rfl,rfl,s1.tup hR,rfl,A_.S.av,.non,y,A_.L0.map Lev.lv,A_.e.lv,none,rfl,?_,rfl,(by rw[IX]; exact hA.ln),λlv' H3 s3 hl'=>#[x,A_,k,to_,A_.give y none,lv',rfl,hA.mono (s1.trans s3),hO,hL,hW,hl',hB,λH4 s4=>q H4 ((s1.trans s3).trans s4)]]];have:=hA.ah.mono s1;rw[J0] at this;exact this
   | out a =>
     refine#[_,rfl,x,t.aa,dx,_,_,rfl,ob,T.az.cl,T.cP,(by rfl),A_.S.r,_,_,_,rfl,rfl,hR,at0,?_];refine#[_,rfl,ay,λp hp=>#[p,_,rfl,.inr (aF.of aI),rfl,rfl,_,rfl,jN ?_]];rcases q with⟨_,q⟩|⟨_,_,_,_,e,_⟩
     . exact#[_,rfl,rfl,_,rfl,jN #[_,rfl,rfl,_,rfl,jN #[_,rfl,rfl,_,rfl,jN (jN (q _ (aB.new hp)))]]]
     . cases e
   | put a w_ c =>
     refine#[_,rfl,x,t.aa,dx,_,_,rfl,ob,T.az.cl,T.cP,(by rfl),A_.S.r,_,_,_,rfl,rfl,hR,at0,?_];refine#[_,rfl,ay,λp hp=>#[p,_,rfl,.inr (aF.of aI),rfl,rfl,_,rfl,jN ?_]];rcases q with⟨_,q⟩|⟨_,_,_,_,e,_⟩
     . exact#[_,rfl,rfl,_,rfl,jN #[_,rfl,rfl,_,rfl,jN #[_,rfl,rfl,_,rfl,jN (jN (q _ (aB.new hp)))]]]
     . cases e
   | new y =>
     refine#[_,rfl,x,t.aa,dx,_,_,rfl,ob,T.az.cl,T.cP,(by rfl),A_.S.r,_,_,_,rfl,rfl,hR,at0,?_];refine#[_,rfl,ay,λp hp=>#[p,_,rfl,.inr (aF.of aI),rfl,rfl,_,rfl,jN ?_]];rcases q with⟨_,q⟩|⟨_,_,_,_,e,_⟩
     . exact#[_,rfl,rfl,_,rfl,jN #[_,rfl,rfl,_,rfl,jN #[_,rfl,rfl,_,rfl,jN (jN (q _ (aB.new hp)))]]]
     . cases e
   | _=>exact hr4.elim
theorem GX:FnScope ["self","yes","no"] ["self","yes","no"] (b6 nV):=by walk_at "s"
theorem DG (T:Txt K mg t):FnOk P w K mg base CX0 16 t.xL t.yT ["self","yes","no"] (Gm K t):=T.rC.F.ok GX (λvs H Q E h=>h.elim) (λcdv A outer s H vs Q E hr h=>h.elim)
theorem uH:FnScope ["self","asked"] ["self"] (b6 ib):=by walk_at "s"
theorem Hu (T:Txt K mg t):FnOk P w K mg base CX0 18 t.xN t.yV ["self"] (Gy K t):=by
 have QH:=Gi (P:=P) (w:=w) (base:=base) T;have Qe:=uR (P:=P) (w:=w) (base:=base) T;have Qc:=tX (P:=P) (w:=w) (base:=base) T;have QI:=zw (P:=P) (w:=w) (base:=base) T;have QJ:=DG (P:=P) (w:=w) (base:=base) T;have Qm:=tT (P:=P) (w:=w) (base:=base) T;have Ql:=tf (P:=P) (w:=w) (base:=base) T;refine T.rD.F.ok uH (λvs H Q E h=>?_) (λcdv A outer s H vs Q E hr h=>?_)
 . obtain⟨x,A_,rg,b,rfl,hA,hO,hR,hr4,hS,q⟩:=h;rfl
 . skip
   refine lx ?_;intro XX;refine(let W6:TS:=_; have hW6:bQ XX ((bP ib).drop 6) W6:=(aK (aj (ae fm (aG (show aH _ (aQ K) from aR) (bM (a9 0) (by rfl)) aD (λ_ _=>rfl)) (aq (aC aS (aC aS aE rfl) rfl)) (by with_unfolding_all rfl)) (@aN _ _ _ (@aV _ _ _ _ (dJ (a9 0) T.az.cl T.rC.m QJ (hr.mono (by decide)) T.rC.b .nil cq (aC (aG (show aH _ (aQ K) from aR) (bM (a9 0) (by rfl)) aD (λ_ _=>rfl)) (aC (aG (show aH _ (aQ K) from aR) (bM (a9 0) (by rfl)) aD (λ_ _=>rfl)) aE rfl) rfl)))) ai) (aK (aj (ae fm (aG (show aH _ (aQ K) from aR) (bM (a9 0) (by rfl)) aD (λ_ _=>rfl)) (aq (aC aS (aC aS aE rfl) rfl)) (by with_unfolding_all rfl)) (@aN _ _ _ (@aV _ _ _ _ (dJ (a9 0) T.az.cl T.fW.m Qc (hr.mono (by decide)) T.fW.b .nil cq (aC (aG (show aH _ (aQ K) from aR) (bM (a9 0) (by rfl)) (cp cn aD) (λ_ _=>rfl)) (aC (bG T.with_given Qe (hr.mono (by decide)) (aC (bM (a9 0) (by rfl)) (aC (aG (show aH _ (aQ K) from aR) (bM (a9 0) (by rfl)) aD (λ_ _=>rfl)) (aC (iB T.rG) aE rfl) rfl) rfl)) aE rfl) rfl)))) ai) (@aN _ _ _ (@aV _ _ _ _ (dJ (a9 0) T.az.cl T.fW.m Qc (hr.mono (by decide)) T.fW.b .nil cq (aC (aG (show aH _ (aQ K) from aR) (bM (a9 0) (by rfl)) (cp cn aD) (λ_ _=>rfl)) (aC (bM (a9 0) (by rfl)) aE rfl) rfl)))))); ?_);refine(let W4:TS:=_; have hW4:bQ XX ((bP ib).drop 4) W4:=(aK (aj (ae au (aG (show aH _ (aQ K) from aR) (bM (a9 0) (by rfl)) aD (λ_ _=>rfl)) aS (aX _)) (@aN _ _ _ (@aV _ _ _ _ (dS au (cR (show bt _ (.builtin "len") (cr K) from d9) (by rfl) T.b_len ci (aC (bM (a9 0) (by rfl)) aE rfl)) aD (aX _)))) ai) (aK (aj (ae au (aG (show aH _ (aQ K) from aR) (bM (a9 0) (by rfl)) aD (λ_ _=>rfl)) aS (aX _)) (@aN _ _ _ (@aV _ _ _ _ (gb (dJ (a9 0) T.az.cl T.ki.m Qm (hr.mono (by decide)) T.ki.b .nil cq (aC (aG (show aH _ (aQ K) from aR) (bM (a9 0) (by rfl)) aD (λ_ _=>rfl)) aE rfl)) (i5 (dJ (a9 0) T.az.cl T.kj.m Ql (hr.mono (by decide)) T.kj.b .nil cq (aC (aG (show aH _ (aQ K) from aR) (bM (a9 0) (by rfl)) aD (λ_ _=>rfl)) (aC (bM (a9 0) (by rfl)) (aC (bM (a9 0) (by rfl)) aE rfl) rfl) rfl)))))) ai) hW6)); ?_);refine(let W2:TS:=_; have hW2:bQ XX ((bP ib).drop 2) W2:=(aK (@al _ _ 1 _ _ _ _ uH.nd rfl (Or.inl rfl) (bG T.asked_act QH (hr.mono (by decide)) (aC (bM (a9 0) (by rfl)) (aC (aG (show aH _ (af K) from ag) (bM (a9 0) (by rfl)) (cp cn aD) (λ_ _=>rfl)) aE rfl) rfl)) (by rfl) (by walk_at "f")) (aK (aj (ae (gS hr.units) (gk m8 (bM (a9 0) (by rfl)) gm (hU (cR (show bt _ (.builtin "len") (cr K) from d9) (by rfl) T.b_len ci (aC (a9 1) aE rfl)))) (a9 1) (aX _)) (@aN _ _ _ (@aV _ _ _ _ dL)) ai) hW4)); ?_);obtain⟨x,A_,rg,b,rfl,hA,hO,hR,hr4,hS,q⟩:=h;refine#[_,(aK (aj (ae au (aG (show aH _ (aQ K) from aR) (bM (a9 0) (by rfl)) aD (λ_ _=>rfl)) aS (aX _)) (@aN _ _ _ (@aV _ _ _ _ (dJ (a9 0) T.az.cl T.fW.m Qc (hr.mono (by decide)) T.fW.b .nil cq (aC (aG (show aH _ (aQ K) from aR) (bM (a9 0) (by rfl)) aD (λ_ _=>rfl)) (aC (bG T.with_given Qe (hr.mono (by decide)) (aC (bM (a9 0) (by rfl)) (aC (aG (show aH _ (aQ K) from aR) (bM (a9 0) (by rfl)) aD (λ_ _=>rfl)) (aC (iB T.rG) aE rfl) rfl) rfl)) aE rfl) rfl)))) ai) (aK (aj (ae au (aG (show aH _ (aQ K) from aR) (bM (a9 0) (by rfl)) aD (λ_ _=>rfl)) aS (aX _)) (@aN _ _ _ (@aV _ _ _ _ (dJ (a9 0) T.az.cl T.r9.m QI (hr.mono (by decide)) T.r9.b .nil cq (aC (aG (show aH _ (aQ K) from aR) (bM (a9 0) (by rfl)) aD (λ_ _=>rfl)) aE rfl)))) ai) hW2)),?_];obtain⟨dx,ob⟩:=hA.ob;have hac:=hA.ac;obtain⟨l,ds_,hav,hal,hap⟩:=hA.ah;rw[J0] at hap;obtain⟨ds',u,rfl,-,d,rfl,hd⟩:=St.Ps.split1 (t:=A_.e.lv) hap;cases hS with
   | go e1 hk e2 hwy hB =>
     rw[e1] at hac;exact#[_,rfl,x,t.aa,dx,_,_,rfl,ob,T.az.cl,T.dO,(by rfl),A_.S.a,_,_,_,rfl,rfl,hac,at0,rfl,_,rfl,jN #[_,rfl,x,t.aa,dx,_,_,rfl,ob,T.az.cl,T.dO,(by rfl),A_.S.a,_,_,_,rfl,rfl,hac,at0,rfl,_,rfl,aP (by decide) #[_,rfl,x,dx,_,rfl,ob,(by rfl),_,rfl,x,t.aa,dx,_,_,rfl,ob,T.az.cl,T.dO,(by rfl),A_.S.a,_,_,_,rfl,rfl,hac,rfl,x,A_,_,rg,rfl,hA,hO,hR,hk,hr4,.inr #[_,_,_,_,e2,hwy,hB,q]]]]
   | gf e1 hk hn =>
     rw[e1] at hac;exact#[_,rfl,x,t.aa,dx,_,_,rfl,ob,T.az.cl,T.dO,(by rfl),A_.S.a,_,_,_,rfl,rfl,hac,at0,rfl,_,rfl,jN #[_,rfl,x,t.aa,dx,_,_,rfl,ob,T.az.cl,T.dO,(by rfl),A_.S.a,_,_,_,rfl,rfl,hac,at0,rfl,_,rfl,aP (by decide) #[_,rfl,x,dx,_,rfl,ob,(by rfl),_,rfl,x,t.aa,dx,_,_,rfl,ob,T.az.cl,T.dO,(by rfl),A_.S.a,_,_,_,rfl,rfl,hac,rfl,x,A_,_,rg,rfl,hA,hO,hR,hk,hr4,.inl #[hn,q]]]]
   | @ne kd s_ rest ds e1 nw ng hask nk hasA hok =>
     rw[e1] at hac;refine#[_,rfl,x,t.aa,dx,_,_,rfl,ob,T.az.cl,T.dO,(by rfl),A_.S.a,_,_,_,rfl,rfl,hac,at0,rfl,_,rfl,ak (λz=>nw (V.str.inj (bD z))) #[_,rfl,x,t.aa,dx,_,_,rfl,ob,T.az.cl,T.dO,(by rfl),A_.S.a,_,_,_,rfl,rfl,hac,at0,rfl,_,rfl,ak (λz=>ng (V.str.inj (bD z))) ?_]];refine#[_,rfl,x,t.aa,dx,_,_,rfl,ob,T.az.cl,T.cP,(by rfl),_,rfl,x,t.aa,dx,_,_,rfl,ob,T.az.cl,T.i0,(by rfl),_,rfl,l,_,_,_,hav,rfl,aJ.of hal,i3 _ _,A_.S.r,d,rg,A_.e.lv,1000,_,rfl,hR,hd,hask,λp vs' H1 s1 hp hcs=>?_];refine#[_,rfl,x,t.aa,dx,_,_,rfl,(s1 _ _ ob),T.az.cl,T.dO,(by rfl),_,rfl,p,_,rfl,.inr hp,_,rfl,lQ (s1.tup hac) λq2 H2 s2 hq2=>?_];have lv':=Rk2.Ps.len hcs;rw[t7,lv'] at hq2;exact#[_,rfl,B0 (vs:=rest.take ds.length) hq2 (s2.tup hp) (vV (ds.length+1) (wn (s1.trans s2) hasA)) (Rk2.Ps.imp (λ_ _ z=>z.mono s2) hcs) hok nk #[_,rfl,aP rfl (q H2 (s1.trans s2))]]
   | @eq kd vs mid cs ds k to_ e1 nw ng hask hcs0 hlen okc okd hk hwy hB =>
     rw[e1] at hac;refine#[_,rfl,x,t.aa,dx,_,_,rfl,ob,T.az.cl,T.dO,(by rfl),A_.S.a,_,_,_,rfl,rfl,hac,at0,rfl,_,rfl,ak (λz=>nw (V.str.inj (bD z))) #[_,rfl,x,t.aa,dx,_,_,rfl,ob,T.az.cl,T.dO,(by rfl),A_.S.a,_,_,_,rfl,rfl,hac,at0,rfl,_,rfl,ak (λz=>ng (V.str.inj (bD z))) ?_]];refine#[_,rfl,x,t.aa,dx,_,_,rfl,ob,T.az.cl,T.cP,(by rfl),_,rfl,x,t.aa,dx,_,_,rfl,ob,T.az.cl,T.i0,(by rfl),_,rfl,l,_,_,_,hav,rfl,aJ.of hal,i3 _ _,A_.S.r,d,rg,A_.e.lv,1000,_,rfl,hR,hd,hask,λp vs' H1 s1 hp hcs=>?_];refine#[_,rfl,x,t.aa,dx,_,_,rfl,(s1 _ _ ob),T.az.cl,T.dO,(by rfl),_,rfl,p,_,rfl,.inr hp,_,rfl,lQ (s1.tup hac) λq2 H2 s2 hq2=>?_];have lv':=Rk2.Ps.len hcs;have l0:=Rk2.Ps.len hcs0;have s12:=s1.trans s2;rw[t7,lv',<- hlen,<- l0,show(V.str kd :: (vs++mid++[V.int (k:Int)])).take (V.str kd :: vs).length=V.str kd :: vs by rw[J6,List.take_succ_cons,JP,List.take_left]] at hq2;refine#[_,rfl,ER hq2 (s2.tup hp) (Rk2.Ps.imp (λ_ _ z=>z.mono s12) hcs0) (Rk2.Ps.imp (λ_ _ z=>z.mono s2) hcs) okc okd #[_,rfl,?_]];cases hE:cz cs ds with
     | false =>
       rw[hE] at q;exact aP rfl (q H2 s12)
     | true =>
       rw[hE,JY] at q;refine jN ?_;have ob2:=s12 _ _ ob;have hlast:bI (V.str kd :: (vs++mid++[V.int (k:Int)])) (-1)=some (.int (k:Int)):=i3 (V.str kd :: (vs++mid)) _;cases rg with
       | get y a_ w_ =>
         refine#[_,rfl,x,t.aa,dx,_,_,rfl,ob2,T.az.cl,T.cP,(by rfl),A_.S.r,_,_,_,rfl,rfl,(s12.tup hR),at0,rfl,_,rfl,jN #[_,rfl,x,t.aa,dx,_,_,rfl,ob2,T.az.cl,T.cP,(by rfl),A_.S.r,_,_,_,rfl,rfl,(s12.tup hR),at0,rfl,_,rfl,jN #[_,rfl,x,t.aa,dx,_,_,rfl,ob2,T.az.cl,T.cP,(by rfl),A_.S.r,_,_,_,rfl,rfl,(s12.tup hR),at0,ay,λp3 h3=>#[p3,_,rfl,.inr (aF.of aI),rfl,rfl,_,rfl,jN ?_]]]];have s3:=s12.trans (aB.new (o:=.tup [V.str "if",V.str "while"]) h3);have ob3:=s3 _ _ ob;generalize upd H2 p3 (.tup [V.str "if",V.str "while"])=H3 at s3 ob3 ⊢;refine#[_,rfl,x,t.aa,dx,_,_,rfl,ob3,T.az.cl,T.cP,(by rfl),A_.S.r,_,_,_,rfl,rfl,(s3.tup hR),at0,ay,λp4 h4=>#[p4,_,rfl,.inr (aF.of aI),rfl,rfl,_,rfl,aP (by decide) ?_]];have s4:=s3.trans (aB.new (o:=.tup [V.str "get",V.str "new"]) h4);have ob4:=s4 _ _ ob;generalize upd H3 p4 (.tup [V.str "get",V.str "new"])=H4 at s4 ob4 ⊢;have hal4:=hA.ah.mono s4;rw[J0] at hal4;exact#[_,rfl,x,dx,_,rfl,ob4,(by rfl),_,rfl,x,t.aa,dx,_,_,rfl,ob4,T.az.cl,T.dO,(by rfl),_,rfl,A_.S.a,_,_,_,rfl,rfl,s4.tup hac,hlast,_,rfl,x,t.aa,dx,_,_,rfl,ob4,T.az.cl,T.i0,(by rfl),_,rfl,x,t.aa,dx,_,_,rfl,ob4,T.az.cl,T.cP,(by rfl),A_.S.r,_,_,_,rfl,rfl,s4.tup hR,rfl,A_.S.av,.ref t.bn,y,A_.L0.map Lev.lv,A_.e.lv,some (.box (-1)),rfl,hal4,.inl #[rfl,rfl,T.jR _],(by rw[IX]; exact hA.ln),λlv' H5 s5 hl'=>#[x,A_,k,to_,A_.give y (some (.box (-1))),lv',rfl,hA.mono (s4.trans s5),hO,hk,hwy,hl',hB,λH6 s6=>q H6 ((s4.trans s5).trans s6)]]
       | new y =>
         refine#[_,rfl,x,t.aa,dx,_,_,rfl,ob2,T.az.cl,T.cP,(by rfl),A_.S.r,_,_,_,rfl,rfl,(s12.tup hR),at0,rfl,_,rfl,jN #[_,rfl,x,t.aa,dx,_,_,rfl,ob2,T.az.cl,T.cP,(by rfl),A_.S.r,_,_,_,rfl,rfl,(s12.tup hR),at0,rfl,_,rfl,jN #[_,rfl,x,t.aa,dx,_,_,rfl,ob2,T.az.cl,T.cP,(by rfl),A_.S.r,_,_,_,rfl,rfl,(s12.tup hR),at0,ay,λp3 h3=>#[p3,_,rfl,.inr (aF.of aI),rfl,rfl,_,rfl,jN ?_]]]];have s3:=s12.trans (aB.new (o:=.tup [V.str "if",V.str "while"]) h3);have ob3:=s3 _ _ ob;generalize upd H2 p3 (.tup [V.str "if",V.str "while"])=H3 at s3 ob3 ⊢;refine#[_,rfl,x,t.aa,dx,_,_,rfl,ob3,T.az.cl,T.cP,(by rfl),A_.S.r,_,_,_,rfl,rfl,(s3.tup hR),at0,ay,λp4 h4=>#[p4,_,rfl,.inr (aF.of aI),rfl,rfl,_,rfl,aP (by decide) ?_]];have s4:=s3.trans (aB.new (o:=.tup [V.str "get",V.str "new"]) h4);have ob4:=s4 _ _ ob;generalize upd H3 p4 (.tup [V.str "get",V.str "new"])=H4 at s4 ob4 ⊢;have hal4:=hA.ah.mono s4;rw[J0] at hal4;exact#[_,rfl,x,dx,_,rfl,ob4,(by rfl),_,rfl,x,t.aa,dx,_,_,rfl,ob4,T.az.cl,T.dO,(by rfl),_,rfl,A_.S.a,_,_,_,rfl,rfl,s4.tup hac,hlast,_,rfl,x,t.aa,dx,_,_,rfl,ob4,T.az.cl,T.i0,(by rfl),_,rfl,x,t.aa,dx,_,_,rfl,ob4,T.az.cl,T.cP,(by rfl),A_.S.r,_,_,_,rfl,rfl,s4.tup hR,rfl,A_.S.av,.ref t.bn,y,A_.L0.map Lev.lv,A_.e.lv,some (.box (-1)),rfl,hal4,.inl #[rfl,rfl,T.jR _],(by rw[IX]; exact hA.ln),λlv' H5 s5 hl'=>#[x,A_,k,to_,A_.give y (some (.box (-1))),lv',rfl,hA.mono (s4.trans s5),hO,hk,hwy,hl',hB,λH6 s6=>q H6 ((s4.trans s5).trans s6)]]
       | out a_ =>
         refine#[_,rfl,x,t.aa,dx,_,_,rfl,ob2,T.az.cl,T.cP,(by rfl),A_.S.r,_,_,_,rfl,rfl,(s12.tup hR),at0,rfl,_,rfl,jN #[_,rfl,x,t.aa,dx,_,_,rfl,ob2,T.az.cl,T.cP,(by rfl),A_.S.r,_,_,_,rfl,rfl,(s12.tup hR),at0,rfl,_,rfl,jN #[_,rfl,x,t.aa,dx,_,_,rfl,ob2,T.az.cl,T.cP,(by rfl),A_.S.r,_,_,_,rfl,rfl,(s12.tup hR),at0,ay,λp3 h3=>#[p3,_,rfl,.inr (aF.of aI),rfl,rfl,_,rfl,jN ?_]]]];have s3:=s12.trans (aB.new (o:=.tup [V.str "if",V.str "while"]) h3);have ob3:=s3 _ _ ob;generalize upd H2 p3 (.tup [V.str "if",V.str "while"])=H3 at s3 ob3 ⊢;refine#[_,rfl,x,t.aa,dx,_,_,rfl,ob3,T.az.cl,T.cP,(by rfl),A_.S.r,_,_,_,rfl,rfl,(s3.tup hR),at0,ay,λp4 h4=>#[p4,_,rfl,.inr (aF.of aI),rfl,rfl,_,rfl,jN ?_]];have s4:=s3.trans (aB.new (o:=.tup [V.str "get",V.str "new"]) h4);have ob4:=s4 _ _ ob;generalize upd H3 p4 (.tup [V.str "get",V.str "new"])=H4 at s4 ob4 ⊢;have hal4:=hA.ah.mono s4;exact#[_,rfl,x,dx,_,rfl,ob4,(by rfl),_,rfl,x,t.aa,dx,_,_,rfl,ob4,T.az.cl,T.dO,(by rfl),_,rfl,A_.S.a,_,_,_,rfl,rfl,s4.tup hac,hlast,_,rfl,x,t.aa,dx,_,_,rfl,ob4,T.az.cl,T.i0,(by rfl),x,A_,k,to_,A_.fs,A_.S.av,rfl,hA.mono s4,hO,hk,hwy,hal4.up (by decide),hB,λH6 s6=>q H6 (s4.trans s6)]
       | put a_ w_ c_ =>
         refine#[_,rfl,x,t.aa,dx,_,_,rfl,ob2,T.az.cl,T.cP,(by rfl),A_.S.r,_,_,_,rfl,rfl,(s12.tup hR),at0,rfl,_,rfl,jN #[_,rfl,x,t.aa,dx,_,_,rfl,ob2,T.az.cl,T.cP,(by rfl),A_.S.r,_,_,_,rfl,rfl,(s12.tup hR),at0,rfl,_,rfl,jN #[_,rfl,x,t.aa,dx,_,_,rfl,ob2,T.az.cl,T.cP,(by rfl),A_.S.r,_,_,_,rfl,rfl,(s12.tup hR),at0,ay,λp3 h3=>#[p3,_,rfl,.inr (aF.of aI),rfl,rfl,_,rfl,jN ?_]]]];have s3:=s12.trans (aB.new (o:=.tup [V.str "if",V.str "while"]) h3);have ob3:=s3 _ _ ob;generalize upd H2 p3 (.tup [V.str "if",V.str "while"])=H3 at s3 ob3 ⊢;refine#[_,rfl,x,t.aa,dx,_,_,rfl,ob3,T.az.cl,T.cP,(by rfl),A_.S.r,_,_,_,rfl,rfl,(s3.tup hR),at0,ay,λp4 h4=>#[p4,_,rfl,.inr (aF.of aI),rfl,rfl,_,rfl,jN ?_]];have s4:=s3.trans (aB.new (o:=.tup [V.str "get",V.str "new"]) h4);have ob4:=s4 _ _ ob;generalize upd H3 p4 (.tup [V.str "get",V.str "new"])=H4 at s4 ob4 ⊢;have hal4:=hA.ah.mono s4;exact#[_,rfl,x,dx,_,rfl,ob4,(by rfl),_,rfl,x,t.aa,dx,_,_,rfl,ob4,T.az.cl,T.dO,(by rfl),_,rfl,A_.S.a,_,_,_,rfl,rfl,s4.tup hac,hlast,_,rfl,x,t.aa,dx,_,_,rfl,ob4,T.az.cl,T.i0,(by rfl),x,A_,k,to_,A_.fs,A_.S.av,rfl,hA.mono s4,hO,hk,hwy,hal4.up (by decide),hB,λH6 s6=>q H6 (s4.trans s6)]
       | _=>exact hr4.elim
theorem FX:FnScope ["program","spots","marks","k"] ["program","spots","marks","k"] (b6 nQ):=by walk_at "s"
theorem IJ (T:Txt K mg t):FnOk P w K mg base CX0 19 t.yF t.zJ ["program","spots","marks","k"] (EE K t):=by
 have QK:=Cp (P:=P) (w:=w) (base:=base) T;have QL:=CD (P:=P) (w:=w) (base:=base) T;have QM:=Hu (P:=P) (w:=w) (base:=base) T;refine T.spot_holds.F.ok FX (λvs H Q E h=>?_) (λcdv A outer s H vs Q E hr h=>?_)
 . obtain⟨p,sp,mk,a,k,A_,ps,fb,rg,v,w_,b,rfl,eps,hP,n0,n12,hE,nd,hT,hM,hv,hSp,ha,hf,h10,hnb,hno,hO,hw,hR,hr4,hS,q⟩:=h;rfl
 . obtain⟨p,sp,mk,a,k,A_,ps,fb,rg,v,w_,b,rfl,eps,hP,n0,n12,hE,nd,hT,hM,hv,hSp,ha,hf,h10,hnb,hno,hO,hw,hR,hr4,hS,q⟩:=h;refine#[_,(aK (@aV _ _ _ _ (Ge (wY T.az T.xC QK (hr.mono (by decide)) (aC (wY T.cw T.xB QL (hr.mono (by decide)) (aC (a9 0) aE rfl)) (aC (a9 1) (aC (a9 2) (aC (a9 3) aE rfl) rfl) rfl) rfl)) T.az.cl T.rD.m QM (hr.mono (by decide)) T.rD.b .nil cq)) ai),?_];refine#[_,rfl,λx dx nx ndx nex=>?_];have s0:aB H (upd (upd H dx (.own x)) x (.ins t.bX dx [])):=λb o e=>by rw[aw (cS e nx),aw (cS e ndx)];exact e
   have s1':aB H (ers x (upd (upd H dx (.own x)) x (.ins t.bX dx []))):=λb o e=>by rw[gt,cC (cS e nx),aw (cS e ndx)];exact e
   refine#[x,dx,p,A_.fns,rfl,aI,s1'.seq hP,n0,n12,λf hf=>(hE f hf).mono s1',nd,λH1 s1 hF=>#[rfl,?_]];have s01:aB H H1:=λb o e=>s1 b o (by rw[cC (cS e nx)]; exact s0 b o e);refine#[_,rfl,_,rfl,_,rfl,λy dy ny ndy ney=>?_];have s2':aB H1 (ers y (upd (upd H1 dy (.own y)) y (.ins t.aa dy []))):=λb o e=>by rw[gt,cC (cS e ny),aw (cS e ndy)];exact e
   have s02:=s01.trans s2';have hT2:=hT.mono s02;refine#[y,dy,x,sp,mk,a,k,A_.fns,A_.svs,A_.mvs,A_.ks,A_.Ms,A_.L0,A_.e,ps,A_.as,v,fb,rfl,aI,#[hF.mono s2',hT2.s,hT2.ss,hT2.m,hT2.ms,hT2.l],hM,hv,hSp.mono s02,s02.tup ha,hf,h10,hnb,hno,λS H3 s3 hSt=>#[rfl,?_]];have s03:aB H H3:=s02.trans s3;rw[<- eps] at hSt;obtain⟨dz,obz⟩:=hSt.ob;obtain⟨w2,e2,e3⟩:=hSt.row;have:w2=w_:=by have e2:A_.e.F.rs[A_.e.r]?=some w2:=e2; rw[hw] at e2; exact(Option.some.inj e2).symm
   subst this;exact#[y,dz,_,rfl,obz,(by rfl),y,A_.to S,rg,b,rfl,hSt,#[hO.l,hO.n,hO.g,hO.v],(by show aF K H3 S.r rg.items; rw[show S.r=w2.r from e3]; exact s03.tup hR),hr4,(hS.mono s03).to S,λH4 s4=>q H4 (s03.trans s4)]
theorem GM:FnScope ["_law_script","_law_k"] ["_law_script","_law_k"] (b6 qT):=by walk_at "s"
theorem BA (T:Txt K mg t):FnOk P w K mg base CX0 1 t.xZ t.yh ["_law_script","_law_k"] (CU K):=by
 refine T.zR.F.ok GM (λvs H Q E h=>?_) (λcdv A outer s H vs Q E hr h=>?_)
 . obtain⟨a,ns,k,rfl,hS,hl,h0,q⟩:=h;rfl
 . obtain⟨a,ns,k,rfl,hS,hl,h0,q⟩:=h;refine#[_,(aK (aj (ae (bo pc) (a9 1) (cR (show bt _ (.builtin "len") (cr K) from d9) (by rfl) T.b_len ci (aC (a9 0) aE rfl)) (aX _)) (@aN _ _ _ (@aV _ _ _ _ (aG (show aH _ (af K) from ag) (a9 0) (a9 1) (λ_ _=>rfl)))) ai) (@aN _ _ _ (@aV _ _ _ _ aD))),?_];have hlen:(ns.map V.int).length=ns.length:=IX _;refine#[_,rfl,_,rfl,a,_,rfl,.inl hS,_,_,rfl,rfl,_,rfl,?_];refine Cj (λc=>?_) (λc=>?_)
   . have c:=bD c;rw[hlen] at c;obtain⟨z,hz⟩:=zu h0 c;exact#[_,rfl,_,rfl,a,_,_,_,rfl,rfl,hS,hz,q _]
   . exact q _
end
end K44
namespace K44
open PySem L2 K21 Rk2
section
variable {P:Program} {w:World} {K:W.Frag} {mg:Str->Option Value} {base:Heap} {t:Adr}
theorem Hf:FnScope ["_law_sign","_law_one","_law_other"] ["_law_sign","_law_one","_law_other"] (b6 ou):=by walk_at "s"
theorem DL (T:Txt K mg t):FnOk P w K mg base CX0 1 t.xu t.z8 ["_law_sign","_law_one","_law_other"] (G9 K):=by
 refine T.zg.F.ok Hf (λvs H Q E h=>?_) (λcdv A outer s H vs Q E hr h=>?_)
 . obtain⟨s,a,b,rfl,h1,h2,h3,h4,q⟩:=h;rfl
 . obtain⟨s,a,b,rfl,h1,h2,h3,h4,q⟩:=h;refine#[_,(aK (aj (ae au (a9 0) aS (aX _)) (@aN _ _ _ (@aV _ _ _ _ (@aM _ _ _ _ _ _ _ _ (aU bH) (@aM _ _ _ _ _ _ _ _ (bo cj) (a9 1) (a9 2)) (@aM _ _ _ _ _ _ _ _ (aU kL) aD aD)))) ai) (aK (aj (ae au (a9 0) aS (aX _)) (@aN _ _ _ (@aV _ _ _ _ (@aM _ _ _ _ _ _ _ _ (aU bH) (@aM _ _ _ _ _ _ _ _ (bo oy) (a9 1) (a9 2)) (@aM _ _ _ _ _ _ _ _ (aU kL) aD aD)))) ai) (aK (aj (ae au (a9 0) aS (aX _)) (@aN _ _ _ (@aV _ _ _ _ (@aM _ _ _ _ _ _ _ _ (aU bH) (@aM _ _ _ _ _ _ _ _ (aU db) (a9 1) (a9 2)) (@aM _ _ _ _ _ _ _ _ (aU kL) aD aD)))) ai) (aK (aj (ae au (a9 0) aS (aX _)) (aK (aj (ae au (a9 2) aD (aX _)) (@aN _ _ _ (@aV _ _ _ _ aD)) ai) (@aN _ _ _ (@aV _ _ _ _ (@aM _ _ _ _ _ _ _ _ (aU x3) (a9 1) (a9 2))))) ai) (aK (aj (ae au (a9 0) aS (aX _)) (@aN _ _ _ (@aV _ _ _ _ (ce iO (by rfl) T.b_int iG (aC (dS (bo pc) (a9 1) (a9 2) (aX _)) aE rfl)))) ai) (aK (aj (ae au (a9 0) aS (aX _)) (@aN _ _ _ (@aV _ _ _ _ (ce iO (by rfl) T.b_int iG (aC (dS au (a9 1) (a9 2) (aX _)) aE rfl)))) ai) (aK (aj (ae au (a9 0) aS (aX _)) (@aN _ _ _ (@aV _ _ _ _ (@aM _ _ _ _ _ _ _ _ (bo tY) (a9 1) (a9 2)))) ai) (aK (aj (ae au (a9 0) aS (aX _)) (@aN _ _ _ (@aV _ _ _ _ (@aM _ _ _ _ _ _ _ _ (bo vU) (a9 1) (a9 2)))) ai) (@aN _ _ _ (@aV _ _ _ _ (@aM _ _ _ _ _ _ _ _ (bo u9) (a9 1) (a9 2)))))))))))),?_];have hw:wide=281474976710656:=rfl;refine#[_,rfl,rfl,_,rfl,?_];by_cases k1:s="+"
   . refine aP (IV (Iq V.str k1)) ?_;have e:valOf s a b=(a+b)%wide:=by unfold valOf; rw[Ig k1]
     rw[e] at q;exact#[_,rfl,_,rfl,_,_,rfl,rfl,_,_,rfl,rfl,#[by decide,by decide,by decide],_,_,rfl,rfl,pos48,vq (Iq V.int (Iq (λz=>(a+b)%z) pw48)) q]
   refine ak (λz=>k1 (V.str.inj (bD z))) ?_;refine#[_,rfl,rfl,_,rfl,?_];by_cases k2:s="-"
   . refine aP (IV (Iq V.str k2)) ?_;have e:valOf s a b=(a - b)%wide:=by unfold valOf; rw[IW k1,Ig k2]
     rw[e] at q;exact#[_,rfl,_,rfl,_,_,rfl,rfl,_,_,rfl,rfl,#[by decide,by decide,by decide],_,_,rfl,rfl,pos48,vq (Iq V.int (Iq (λz=>(a - b)%z) pw48)) q]
   refine ak (λz=>k2 (V.str.inj (bD z))) ?_;refine#[_,rfl,rfl,_,rfl,?_];by_cases k3:s="*"
   . refine aP (IV (Iq V.str k3)) ?_;have e:valOf s a b=(a * b)%wide:=by unfold valOf; rw[IW k1,IW k2,Ig k3]
     rw[e] at q;exact#[_,rfl,_,rfl,_,_,rfl,rfl,.inl #[by omega,by omega],_,_,rfl,rfl,#[by decide,by decide,by decide],_,_,rfl,rfl,pos48,vq (Iq V.int (Iq (λz=>(a * b)%z) pw48)) q]
   refine ak (λz=>k3 (V.str.inj (bD z))) ?_;refine#[_,rfl,rfl,_,rfl,?_];by_cases k4:s="/"
   . refine aP (IV (Iq V.str k4)) ?_;have e:valOf s a b=if b=0 then 0 else a / b:=by unfold valOf; rw[IW k1,IW k2,IW k3,Ig k4]
     rw[e] at q;refine#[_,rfl,rfl,_,rfl,?_];by_cases hb:b=0
     . rw[Ig hb] at q;exact aP (IV (Iq V.int hb)) q
     . rw[IW hb] at q;exact ak (λz=>hb (V.int.inj (bD z))) #[_,rfl,_,rfl,_,_,rfl,rfl,#[by omega,by omega],q]
   refine ak (λz=>k4 (V.str.inj (bD z))) ?_;refine#[_,rfl,rfl,_,rfl,?_];by_cases k5:s="<"
   . refine aP (IV (Iq V.str k5)) ?_;have e:valOf s a b=if a<b then 1 else 0:=by unfold valOf; rw[IW k1,IW k2,IW k3,IW k4,Ig k5]
     rw[e] at q;refine#[_,rfl,_,rfl,_,_,rfl,rfl,.inr #[_,rfl,vq ?_ q]];by_cases hb:a<b <;> simp [hb]
   refine ak (λz=>k5 (V.str.inj (bD z))) ?_;refine#[_,rfl,rfl,_,rfl,?_];by_cases k6:s="="
   . refine aP (IV (Iq V.str k6)) ?_;have e:valOf s a b=if a=b then 1 else 0:=by unfold valOf; rw[IW k1,IW k2,IW k3,IW k4,IW k5,Ig k6]
     rw[e] at q;refine#[_,rfl,_,rfl,rfl,.inr #[_,rfl,vq ?_ q]];by_cases hb:a=b <;> simp [hb]
   refine ak (λz=>k6 (V.str.inj (bD z))) ?_;refine#[_,rfl,rfl,_,rfl,?_];by_cases k7:s="&"
   . refine aP (IV (Iq V.str k7)) ?_;have e:valOf s a b=Builtin.bitAnd a b:=by unfold valOf bw; rw[IW k1,IW k2,IW k3,IW k4,IW k5,IW k6,Ig k7]
     rw[e] at q;exact#[_,rfl,_,rfl,_,_,rfl,rfl,q]
   refine ak (λz=>k7 (V.str.inj (bD z))) ?_;refine#[_,rfl,rfl,_,rfl,?_];by_cases k8:s="|"
   . refine aP (IV (Iq V.str k8)) ?_;have e:valOf s a b=Builtin.bitOr a b:=by unfold valOf bw; rw[IW k1,IW k2,IW k3,IW k4,IW k5,IW k6,IW k7,Ig k8]
     rw[e] at q;exact#[_,rfl,_,rfl,_,_,rfl,rfl,q]
   refine ak (λz=>k8 (V.str.inj (bD z))) ?_;have e:valOf s a b=Builtin.bitXor a b:=by unfold valOf bw; rw[IW k1,IW k2,IW k3,IW k4,IW k5,IW k6,IW k7,IW k8]
   rw[e] at q;exact#[_,rfl,_,rfl,_,_,rfl,rfl,q]
end
end K44
namespace K44
open PySem L2 Gx Fl K41
section
variable {P:Program} {w:World} {K:W.Frag} {mg:Str->Option Value} {base:Heap} {t:Adr}
theorem gZ:FnScope ["_law_cell","_law_many","_law_letters","_law_size","_law_word","_law_at","_law_found","_law_k","_law_name"] ["_law_cell","_law_many"] (b6 qN):=by walk_at "s"
theorem HK (T:Txt K mg t):FnOk P w K mg base CX0 1 t.xi t.yo ["_law_cell","_law_many"] (IC K):=by
 refine T.nK.F.ok gZ (λvs H Q E h=>?_) (λcdv A outer s H vs Q E hr h=>?_)
 . obtain⟨c,mn,rfl,hmn,q⟩:=h;rfl
 . obtain⟨c,mn,rfl,hmn,q⟩:=h;refine#[_,(aK (@al _ _ 2 _ _ _ _ gZ.nd rfl (Or.inr rfl) aS (by rfl) (by walk_at "f")) (aK (@al _ _ 3 _ _ _ _ gZ.nd rfl (Or.inl rfl) (@aM _ _ _ _ _ _ _ _ (aU bH) (a9 0) aD) (by rfl) (by walk_at "f")) (aK (@al _ _ 4 _ _ _ _ gZ.nd rfl (Or.inl rfl) (dg PySem.F.plainAttrs_str PySem.F.slot_str_join PySem.F.type_str_join C3 aS (aC (fX (N':=["_law_k","_law_letters","_law_cell"]) (js:=[none,some 2,some 0]) (by kernel_rfl) rfl (ge rfl T.b_range (aC (a9 3) aE rfl)) ff (λ_ _ _ _=>(bU (i:=0) (show(["_law_k","_law_letters","_law_cell"]:List Str).Nodup by decide +kernel) rfl (Or.inl rfl) (.inr rfl))) (λ_ _ _ _=>gK) (λ_ _ _ _=>(aG qD (a9 1) (@aM _ _ _ _ _ _ _ _ (aU bH) (@aM _ _ _ _ _ _ _ _ (aU bj) (@aM _ _ _ _ _ _ _ _ (aU bH) (@aM _ _ _ _ _ _ _ _ (aU db) (a9 2) (@aM _ _ _ _ _ _ _ _ (bo cj) aD (@aM _ _ _ _ _ _ _ _ (aU db) aD (a9 0)))) aD) aD) aD) (λ_ _=>rfl)))) aE rfl)) (by rfl) (by walk_at "f")) (aK (@al _ _ 5 _ _ _ _ gZ.nd rfl (Or.inl rfl) (@aM _ _ _ _ _ _ _ _ (aU bH) (@aM _ _ _ _ _ _ _ _ (aU bj) (a9 0) aD) (@aM _ _ _ _ _ _ _ _ (bo cj) (a9 3) aD)) (by rfl) (by walk_at "f")) (aK (@al _ _ 6 _ _ _ _ gZ.nd rfl (Or.inl rfl) (bu aE) (by rfl) (by walk_at "f")) (aK (cy PassesOwn.never rfl (ge rfl T.b_range (aC (a9 1) aE rfl)) (bU (i:=7) gZ.nd rfl (Or.inl rfl)) (aK (@al _ _ 8 _ _ _ _ gZ.nd rfl (Or.inl rfl) (@aM _ _ _ _ _ _ _ _ pZ (@aM _ _ _ _ _ _ _ _ pZ (gk wQ (a9 4) gm (hU (a9 5))) (aG qD (a9 2) (@aM _ _ _ _ _ _ _ _ (aU bH) (@aM _ _ _ _ _ _ _ _ (bo cj) (@aM _ _ _ _ _ _ _ _ (aU bj) (a9 0) aD) (a9 7)) aD) (λ_ _=>rfl))) (gk wQ (a9 4) (hU (a9 5)) gm)) (by rfl) (by walk_at "f")) (aK (aj (ae fm (a9 8) (@Ct _ _ [V.str "fn",V.str "in",V.str "new",V.str "get",V.str "put",V.str "call",V.str "out",V.str "if",V.str "while",V.str "else",V.str "end",V.str "back"] (by kernel_rfl)) (by with_unfolding_all rfl)) (@aN _ _ _ (@al _ _ 8 _ _ _ _ gZ.nd rfl (Or.inl rfl) (@aM _ _ _ _ _ _ _ _ pZ (a9 8) aS) (by rfl) (by walk_at "f"))) ai) (@aN _ _ _ (@fB _ _ _ _ (dg J5 JD JE j0 (a9 6) (aC (a9 8) aE rfl)) (by rfl)))))) (@aN _ _ _ (@aV _ _ _ _ (a9 6))))))))),?_];have b8:=gh c 8 (by decide);obtain⟨sz,es⟩:=Ja b8.1;have s8:sz<8:=by omega
   have lf:K12.lets.length<=sizeLine:=by decide +kernel
   refine#[_,rfl,_,_,rfl,rfl,(show(0:Int)<8 by decide),?_];refine#[rfl,_,rfl,_,rfl,by omega,by omega,λu hu=>BC (λi=>V.str (tx [lc (c * (48271+2 * (0+(i:Int)))%2147483647 / 9%26)])) (by omega) hu ?_ ?_]
   . rintro i H2 Rr hi s2 hR;have bi:=gh (c * (48271+2 * (0+(i:Int)))%2147483647 / 9) 26 (by decide);refine#[_,rfl,_,rfl,_,rfl,_,_,rfl,rfl,.inl #[by decide,by decide],_,_,rfl,rfl,_,_,rfl,rfl,.inr #[by omega,by omega],_,_,rfl,rfl,(show(0:Int)<2147483647 by decide),_,_,rfl,rfl,#[by decide,by decide],_,_,rfl,rfl,(show(0:Int)<26 by decide),_,_,_,rfl,rfl,lf,sY bi.1 bi.2,hR]
   rintro H2 s2 e2;have en:(c%8).toNat=sz:=by omega
   rw[en] at e2;have e3:((List.range sz).map λi:Nat=>V.str (tx [lc (c * (48271+2 * (0+(i:Int)))%2147483647 / 9%26)]))=(((List.range sz).map λi:Nat=>[lc (c * (48271+2 * (0+(i:Int)))%2147483647 / 9%26)]).map tx).map V.str:=by rw[Jc,Jc];rfl
   rw[e3] at e2;have so:∀l:List Nat,(((l.map λi:Nat=>[lc (c * (48271+2 * (0+(i:Int)))%2147483647 / 9%26)]).map tx).map (·.length)).sum=l.length:=λl=>by
     induction l with
     | nil=>rfl
     | cons x l ih=>rw[Ix,Ix,Ix,List.sum_cons,ih,gA,J6]; simp; omega
   have fo:∀l:List Nat,(l.map λi:Nat=>[lc (c * (48271+2 * (0+(i:Int)))%2147483647 / 9%26)]).flatten=l.map λi:Nat=>lc (c * (48271+2 * (0+(i:Int)))%2147483647 / 9%26):=λl=>by
     induction l with
     | nil=>rfl
     | cons x l ih=>rw[Ix,Jr,ih]; rfl
   refine#[_,u,_,rfl,rfl,aJ.of e2,(by rw[so,K2,IX,IX,K2]; show sz+sz * 0<=16777216; omega),?_];rw[uZ,fo];have hWl:((List.range sz).map λi:Nat=>lc (c * (48271+2 * (0+(i:Int)))%2147483647 / 9%26)).length=sz:=by rw[IX,K2]
   have hWm:∀x∈((List.range sz).map λi:Nat=>lc (c * (48271+2 * (0+(i:Int)))%2147483647 / 9%26)),x∈K12.lets.cps.toList:=λx hx=>by obtain⟨i,_,rfl⟩:=J3.mp hx;have bi:=gh (c * (48271+2 * (0+(i:Int)))%2147483647 / 9) 26 (by decide);exact tD bi.1 bi.2
   generalize ((List.range sz).map λi:Nat=>lc (c * (48271+2 * (0+(i:Int)))%2147483647 / 9%26))=W at hWl hWm ⊢;have wf:(tx W).length<=sizeLine:=by rw[gA]; exact cb (by omega)
   have ba:=gh (c / 8) (c%8+1) (by omega);obtain⟨a,ea⟩:=Ja ba.1;have aW:a<=W.length:=by omega
   refine#[_,rfl,_,_,rfl,rfl,#[by decide,by decide],_,rfl,_,_,rfl,rfl,_,_,rfl,rfl,(by show(0:Int)<c%8+1; omega),?_];refine#[dw,λl hl=>?_];have hlH:H l=none:=s2.free hl;refine#[_,rfl,_,rfl,by omega,by omega,?_];refine(let Jv1:Nat->St->Hp->Prop:=λi σ H3=>aB H H3/\(∃v7 v8,σ=[some (.int c),some (.int mn),some (.str K12.lets),some (.int (c%8)),some (.str (tx W)),some (.int (c / 8%(c%8+1))),some (.ref l),v7,v8])/\H3 l=some (.lst (((List.range i).map (dY W a (c / 64))).map V.str)); kI (lo:=0) (n:=mn) Jv1 #[s2.trans (aB.new hl),#[_,_,rfl],aI] ?_ ?_)
   . rintro i σ H3 hi ⟨s3,⟨v7,v8,rfl⟩,e3⟩;have bi:=gh (c / 64+(0+(i:Int))) 26 (by decide);have ei:(c / 64+(0+(i:Int)))%26=(c / 64+(i:Int))%26:=by rw[Int.zero_add]
     refine#[_,rfl,_,rfl,_,rfl,_,rfl,wf,?_];rw[show(some (c / 8%(c%8+1)):Option Int)=some ((a:Nat):Int) by rw[ea],Bo aW];refine#[_,rfl,_,rfl,_,_,rfl,rfl,#[by decide,by decide],_,rfl,_,_,rfl,rfl,_,_,rfl,rfl,(show(0:Int)<26 by decide),_,_,_,rfl,rfl,lf,sY bi.1 bi.2,?_];refine#[_,_,rfl,rfl,(by rw[gA,JC]; exact cb (by show min a W.length+1<1000000; omega)),?_];refine#[_,rfl,_,rfl,_,rfl,_,rfl,wf,?_];rw[show(some (c / 8%(c%8+1)):Option Int)=some ((a:Nat):Int) by rw[ea],Bk aW];have eB:tx (W.take a)++(⟨(List.toArray [lc ((c / 64+(0+(i:Int)))%26)])⟩:Str)++tx (W.drop a)=tx (eN W a (c / 64) i):=by rw[show(#[(List.toArray [lc ((c / 64+(0+(i:Int)))%26)])]:Str)=tx [lc ((c / 64+(0+(i:Int)))%26)] from rfl,jX,jX,ei];rfl
     have bl:=lP W a (c / 64) i;refine#[_,_,rfl,rfl,?_,?_]
     . rw[show(#[(List.toArray [lc ((c / 64+(0+(i:Int)))%26)])]:Str)=tx [lc ((c / 64+(0+(i:Int)))%26)] from rfl,jX,gA,gA,Il,JC,K7];exact cb (by simp; omega)
     rw[eB];refine#[_,rfl,(by show 12<=sizeLine; decide),λtl htl=>#[tl,_,rfl,.inl (aJ.of aI),rfl,(by decide +kernel),_,rfl,?_]];have s4:=s3.trans (aB.new (o:=.lst ir) htl);have e4:=aB.new (o:=.lst ir) htl _ _ e3;have nx:∀s:Str,s=dY W a (c / 64) i->aB H (upd (upd H3 tl (.lst ir)) l (.lst (((List.range i).map (dY W a (c / 64))).map V.str++[V.str s])))/\(upd (upd H3 tl (.lst ir)) l (.lst (((List.range i).map (dY W a (c / 64))).map V.str++[V.str s]))) l=some (.lst (((List.range (i+1)).map (dY W a (c / 64))).map V.str)):=λs hs=>by refine#[s4.upd hlH,?_];rw[aI,hs,List.range_succ,J0,J0];rfl
     have fitl:(((List.range i).map (dY W a (c / 64))).map V.str).length<sizeLine:=by rw[IX,IX,K2]; exact wC (by omega)
     by_cases ht:gj (.str (tx (eN W a (c / 64) i))) ir=true
     . have en:tx (eN W a (c / 64) i)++("x":Str)=dY W a (c / 64) i:=by unfold dY;rw[Ig ht];exact jX _ [120]
       refine aP ht #[_,rfl,_,_,rfl,rfl,(by rw[gA,bl]; exact cb (by show W.length+1+1<1000000; omega)),?_];obtain⟨x1,x2⟩:=nx _ en;exact#[_,rfl,.inl #[rfl,_,aJ.of e4],_,rfl,l,_,_,rfl,rfl,e4,fitl,x1,#[_,_,rfl],x2]
     . have en:tx (eN W a (c / 64) i)=dY W a (c / 64) i:=by unfold dY;rw[IW ht]
       refine ak ht ?_;obtain⟨x1,x2⟩:=nx _ en;exact#[_,rfl,.inl #[rfl,_,aJ.of e4],_,rfl,l,_,_,rfl,rfl,e4,fitl,x1,#[_,_,rfl],x2]
   . rintro σ H3 ⟨s3,⟨v7,v8,rfl⟩,e3⟩;refine#[_,rfl,q _ (by rw[IX,K2]) ?_ (λw hw=>?_) l H3 s3 hlH e3]
     . exact List.pairwise_map.mpr (List.Pairwise.imp_of_mem (λ{x y} hx hy hne h=>hne (DV (by have:=LX.mp hx; omega) (by have:=LX.mp hy; omega) h)) List.nodup_range)
     . obtain⟨k,_,rfl⟩:=J3.mp hw;exact FA hWm (by omega)
end
end K44
namespace K44
open PySem L2 K21 Rk2 Bg
section
variable {P:Program} {w:World} {K:W.Frag} {mg:Str->Option Value} {base:Heap} {t:Adr}
theorem gB:FnScope ["_law_cell","_law_boxes","_law_one","_law_k","_law_number","_law_sign","_law_other"] ["_law_cell","_law_boxes"] (b6 nC):=by walk_at "s"
theorem ll (T:Txt K mg t):FnOk P w K mg base CX0 1 t.xo t.yw ["_law_cell","_law_boxes"] (Ac K):=by
 refine T.kr.F.ok gB (λvs H Q E h=>?_) (λcdv A outer s H vs Q E hr h=>?_)
 . obtain⟨c,bl,bs,rfl,hB,hbs,q⟩:=h;rfl
 . skip
   refine lx ?_;intro XX;refine(let W2:TS:=_; have hW2:bQ XX ((bP nC).drop 2) W2:=(aK (cy PassesOwn.never rfl (ge rfl T.b_range (aC (@aM _ _ _ _ _ _ _ _ (aU bH) (@aM _ _ _ _ _ _ _ _ (aU bj) (a9 0) aD) aD) aE rfl)) (bU (i:=3) gB.nd rfl (Or.inl rfl)) (aK (@al _ _ 4 _ _ _ _ gB.nd rfl (Or.inl rfl) (@aM _ _ _ _ _ _ _ _ (aU bj) (@aM _ _ _ _ _ _ _ _ (aU bH) (@aM _ _ _ _ _ _ _ _ (aU db) (a9 0) (aG (show aH _ (af K) from ag) (bu (aC aD (aC aD aE rfl) rfl)) (a9 3) (λ_ _=>rfl))) aD) aD) (by rfl) (by walk_at "f")) (aK (@al _ _ 5 _ _ _ _ gB.nd rfl (Or.inl rfl) (aG qD aS (@aM _ _ _ _ _ _ _ _ (aU bH) (@aM _ _ _ _ _ _ _ _ (aU bj) (a9 4) aD) aD) (λ_ _=>rfl)) (by rfl) (by walk_at "f")) (aK (@al _ _ 6 _ _ _ _ gB.nd rfl (Or.inl rfl) (aq (aC aS (aC (aG (show aH _ (af K) from ag) (a9 1) (@aM _ _ _ _ _ _ _ _ (aU bH) (@aM _ _ _ _ _ _ _ _ (aU bj) (a9 4) aD) (cR (show bt _ (.builtin "len") (cr K) from d9) (by rfl) T.b_len ci (aC (a9 1) aE rfl))) (λ_ _=>rfl)) aE rfl) rfl)) (by rfl) (by walk_at "f")) (aK (aj (ae au (@aM _ _ _ _ _ _ _ _ (aU bH) (@aM _ _ _ _ _ _ _ _ (aU bj) (a9 4) aD) aD) aD (aX _)) (@aN _ _ _ (@al _ _ 6 _ _ _ _ gB.nd rfl (Or.inl rfl) (aq (aC aS (aC (@aM _ _ _ _ _ _ _ _ (aU bH) (@aM _ _ _ _ _ _ _ _ (aU bj) (a9 4) aD) aD) aE rfl) rfl)) (by rfl) (by walk_at "f"))) ai) (@aN _ _ _ (aj (ae au (@aM _ _ _ _ _ _ _ _ (aU bH) (a9 4) aD) aD (aX _)) (@aN _ _ _ (@al _ _ 2 _ _ _ _ gB.nd rfl (Or.inl rfl) (aq (aC (a9 5) (aC (a9 2) (aC (a9 6) aE rfl) rfl) rfl)) (by rfl) (by walk_at "f"))) (@aN _ _ _ (@al _ _ 2 _ _ _ _ gB.nd rfl (Or.inl rfl) (aq (aC (a9 5) (aC (a9 6) (aC (a9 2) aE rfl) rfl) rfl)) (by rfl) (by walk_at "f")))))))))) (@aN _ _ _ (@aV _ _ _ _ (a9 2)))); ?_);obtain⟨c,bl,bs,rfl,hB,hbs,q⟩:=h;refine#[_,(aK (@al _ _ 2 _ _ _ _ gB.nd rfl (Or.inl rfl) (aq (aC aS (aC (@aM _ _ _ _ _ _ _ _ (aU bH) (@aM _ _ _ _ _ _ _ _ (aU bj) (a9 0) aD) (@aM _ _ _ _ _ _ _ _ (aU kL) aD aD)) aE rfl) rfl)) (by rfl) (by walk_at "f")) (cx (aj (ae (bo jp) (@aM _ _ _ _ _ _ _ _ (aU bH) (a9 0) aD) aD (aX _)) (@aN _ _ _ (@al _ _ 2 _ _ _ _ gB.nd rfl (Or.inl rfl) (aq (aC aS (aC (aG (show aH _ (af K) from ag) (a9 1) (@aM _ _ _ _ _ _ _ _ (aU bH) (@aM _ _ _ _ _ _ _ _ (aU bj) (a9 0) aD) (cR (show bt _ (.builtin "len") (cr K) from d9) (by rfl) T.b_len ci (aC (a9 1) aE rfl))) (λ_ _=>rfl)) aE rfl) rfl)) (by rfl) (by walk_at "f"))) ai) hW2)),?_];have b5:=dP (c / 5) ((2:Int) ^ (48:Int).toNat) pos48;rw[pw48] at b5;refine#[_,rfl,_,_,rfl,rfl,#[by decide,by decide],_,_,rfl,rfl,#[by decide,by decide,by decide],_,_,rfl,rfl,pos48,ay,λa0 k0=>?_];refine#[λσ' G=>∃tr v,σ'=[some (.int c),some (.ref bl),some v,none,none,none,none]/\aB H G/\RAt G tr v/\fT 0 tr,?_,?_]
   . refine#[_,rfl,_,_,rfl,rfl,(show(0:Int)<5 by decide),_,_,rfl,rfl,_,rfl,?_];by_cases h5:c%5 > 0
     . obtain⟨b,e1,e2,e3⟩:=m5 hbs (c / 5);refine aP (IV h5) #[_,rfl,_,rfl,_,_,rfl,rfl,#[by decide,by decide],_,rfl,bl,_,rfl,.inl ((aB.new k0).seq hB),_,_,rfl,rfl,e1,bl,_,_,_,rfl,rfl,(aB.new k0).seq hB,e2,ay,λa1 k1=>#[.box b,_,rfl,(aB.new k0).trans (aB.new k1),#[a1,rfl,aI],tM e3]]
     . exact ak (by rw[JX]; exact h5) #[.num (c / 5%(2:Int) ^ (48:Int).toNat),_,rfl,aB.new k0,#[a0,rfl,aI],(by rw[pw48]; exact vH b5.1 b5.2)]
   rintro σ' G ⟨tr0,v0,rfl,s0,r0,t0⟩;have b3:=dP (c / 40) 3 (by decide);refine#[_,rfl,_,_,rfl,rfl,#[by decide,by decide],_,_,rfl,rfl,(show(0:Int)<3 by decide),_,rfl,by omega,by omega,(let Jv1:Nat->St->Hp->Prop:=λi σ H2=>∃tr v v3 v4 v5 v6,σ=[some (.int c),some (.ref bl),some v,v3,v4,v5,v6]/\aB H H2/\RAt H2 tr v/\fT i tr; kI (lo:=0) (n:=(c / 40%3).toNat) Jv1 #[tr0,v0,_,_,_,_,rfl,s0,r0,t0] ?_ ?_)]
   . rintro i σ H2 hi ⟨tr,v,v3,v4,v5,v6,rfl,s1,r1,t1⟩;refine#[_,rfl,ay,λL hL=>#[_,rfl,L,_,_,_,rfl,rfl,aJ.of aI,ot (by omega) (by omega),?_]];generalize hf:(if(0+(i:Int))=0 then(48271:Int) else 69621)=fc;have hfc:fc=48271\/fc=69621:=by rw[<- hf]; split <;> simp
     refine#[_,_,rfl,rfl,.inr #[by omega,by omega],_,_,rfl,rfl,(show(0:Int)<2147483647 by decide),_,_,rfl,rfl,#[by decide,by decide],?_];have s2:=s1.trans (aB.new (o:=.lst [V.int 48271,V.int 69621]) hL);have r2:=r1.mono (aB.new (o:=.lst [V.int 48271,V.int 69621]) hL);generalize upd H2 L (.lst [V.int 48271,V.int 69621])=G2 at s2 r2 ⊢;obtain⟨ch,hch⟩:=CK (i:=c * fc%2147483647 / 3 / 2%9) (KD _ (by decide)) (Jw _ (by decide));have oc:=Ee ch;refine#[_,rfl,_,_,rfl,rfl,#[by decide,by decide],_,_,rfl,rfl,(show(0:Int)<9 by decide),_,_,ch,rfl,rfl,GJ,hch,?_];obtain⟨b,e1,e2,e3⟩:=m5 hbs (c * fc%2147483647 / 3 / 18);refine#[_,rfl,_,rfl,_,_,rfl,rfl,#[by decide,by decide],_,rfl,bl,_,rfl,.inl (s2.seq hB),_,_,rfl,rfl,e1,bl,_,_,_,rfl,rfl,s2.seq hB,e2,ay,λa2 k2=>?_];refine#[_,rfl,_,_,rfl,rfl,#[by decide,by decide],_,_,rfl,rfl,(show(0:Int)<4 by decide),rfl,_,rfl,?_];by_cases h4:c * fc%2147483647 / 3 / 144%4=0
     . have b9:=dP (c * fc%2147483647 / 3 / 576) 9 (by decide);refine aP (IV (Iq V.int h4)) #[_,rfl,_,_,rfl,rfl,#[by decide,by decide],_,_,rfl,rfl,(show(0:Int)<9 by decide),ay,λa3 k3=>?_];have s13:=(aB.new (o:=.tup [V.str "box",V.int b]) k2).trans (aB.new (o:=.tup [V.str "num",V.int (c * fc%2147483647 / 3 / 576%9)]) k3);have s3:=s2.trans s13;have r3:RAt (upd (upd G2 a2 (.tup [V.str "box",V.int b])) a3 (.tup [V.str "num",V.int (c * fc%2147483647 / 3 / 576%9)])) (.num (c * fc%2147483647 / 3 / 576%9)) (.ref a3):=#[a3,rfl,aI]
       have t3:fT i (.num (c * fc%2147483647 / 3 / 576%9)):=vH b9.1 (Int.lt_trans b9.2 (by decide));have r1:=r2;refine#[_,rfl,_,_,rfl,rfl,(show(0:Int)<2 by decide),rfl,_,rfl,?_];by_cases h2:c * fc%2147483647 / 3%2=0
       . refine aP (IV (Iq V.int h2)) #[_,rfl,_,rfl,_,rfl,cV,λa4 k4=>?_];exact#[.op #[(List.toArray [ch])] tr (.num (c * fc%2147483647 / 3 / 576%9)),_,_,_,_,_,rfl,s3.trans (aB.new k4),#[a4,_,_,rfl,aI,oc.1,oc.2,(r1.mono s13).mono (aB.new k4),r3.mono (aB.new k4)],lD (mz hch) t1 t3]
       . refine ak (λz=>h2 (V.int.inj (bD z))) #[_,rfl,_,rfl,_,rfl,cV,λa4 k4=>?_];exact#[.op #[(List.toArray [ch])] (.num (c * fc%2147483647 / 3 / 576%9)) tr,_,_,_,_,_,rfl,s3.trans (aB.new k4),#[a4,_,_,rfl,aI,oc.1,oc.2,r3.mono (aB.new k4),(r1.mono s13).mono (aB.new k4)],lD (mz hch) t3 t1]
     . have s13:=aB.new (o:=.tup [V.str "box",V.int b]) k2;have s3:=s2.trans s13;have r3:RAt (upd G2 a2 (.tup [V.str "box",V.int b])) (.box b) (.ref a2):=#[a2,rfl,aI]
       have t3:fT i (.box b):=tM e3;have r1:=r2;refine ak (λz=>h4 (V.int.inj (bD z))) #[_,rfl,_,_,rfl,rfl,(show(0:Int)<2 by decide),rfl,_,rfl,?_];by_cases h2:c * fc%2147483647 / 3%2=0
       . refine aP (IV (Iq V.int h2)) #[_,rfl,_,rfl,_,rfl,cV,λa4 k4=>?_];exact#[.op #[(List.toArray [ch])] tr (.box b),_,_,_,_,_,rfl,s3.trans (aB.new k4),#[a4,_,_,rfl,aI,oc.1,oc.2,(r1.mono s13).mono (aB.new k4),r3.mono (aB.new k4)],lD (mz hch) t1 t3]
       . refine ak (λz=>h2 (V.int.inj (bD z))) #[_,rfl,_,rfl,_,rfl,cV,λa4 k4=>?_];exact#[.op #[(List.toArray [ch])] (.box b) tr,_,_,_,_,_,rfl,s3.trans (aB.new k4),#[a4,_,_,rfl,aI,oc.1,oc.2,r3.mono (aB.new k4),(r1.mono s13).mono (aB.new k4)],lD (mz hch) t3 t1]
   . rintro σ H2 ⟨tr,v,v3,v4,v5,v6,rfl,s1,r1,t1⟩;exact#[_,rfl,q tr v H2 s1 r1 (t1.ok (by omega))]
end
end K44
namespace K44
open PySem L2 K21 Rk2
section
variable {P:Program} {w:World} {K:W.Frag} {mg:Str->Option Value} {base:Heap} {t:Adr}
theorem mm:FnScope ["_law_one","_law_news_here","_law_left","_law_right"] ["_law_one","_law_news_here"] (b6 oY):=by walk_at "s"
theorem oU (T:Txt K mg t):∀n,FnOk P w K mg base CX0 (n+2) t.km t.kq ["_law_one","_law_news_here"] (mV K n)
| 0=>T.jQ.F.ok mm (λvs H Q E h=>by obtain⟨tr,v,d,kvs,g,rfl,hd,hR,hD,nv,ok,og,q⟩:=h; exact absurd hd (JR _)) (λcdv A outer s H vs Q E hr h=>by obtain⟨tr,v,d,kvs,g,rfl,hd,hR,hD,nv,ok,og,q⟩:=h; exact absurd hd (JR _))
| n+1=>by
 have Qd:FnOk P w K mg base CX0 (n+2) t.km t.kq ["_law_one","_law_news_here"] (mV K n):=oU T n;have QN:=DL (P:=P) (w:=w) (base:=base) T;refine T.jQ.F.ok mm (λvs H Q E h=>?_) (λcdv A outer s H vs Q E hr h=>?_)
 . obtain⟨tr,v,d,kvs,g,rfl,hd,hR,hD,nv,ok,og,q⟩:=h;rfl
 . obtain⟨tr,v,d,kvs,g,rfl,hd,hR,hD,nv,ok,og,q⟩:=h;refine#[_,(aK (aj (ae au (aG (show aH _ (aQ K) from aR) (a9 0) aD (λ_ _=>rfl)) aS (aX _)) (@aN _ _ _ (@aV _ _ _ _ (oE (cK hr.units) (a9 1) (aG (show aH _ (aQ K) from aR) (a9 0) aD (λ_ _=>rfl)) (a9 0) #[rfl,rfl,rfl,rfl]))) ai) (aK (aj (ae au (aG (show aH _ (aQ K) from aR) (a9 0) aD (λ_ _=>rfl)) aS (aX _)) (@aN _ _ _ (@aV _ _ _ _ (a9 0))) ai) (aK (@al _ _ 2 _ _ _ _ mm.nd rfl (Or.inl rfl) (bG T.jQ Qd (hr.mono (by omega)) (aC (aG (show aH _ (aQ K) from aR) (a9 0) aD (λ_ _=>rfl)) (aC (a9 1) aE rfl) rfl)) (by rfl) (by walk_at "f")) (aK (@al _ _ 3 _ _ _ _ mm.nd rfl (Or.inl rfl) (bG T.jQ Qd (hr.mono (by omega)) (aC (aG (show aH _ (aQ K) from aR) (a9 0) aD (λ_ _=>rfl)) (aC (a9 1) aE rfl) rfl)) (by rfl) (by walk_at "f")) (aK (aj (@PW.pt _ _ _ (dN (ae au (aG (show aH _ (aQ K) from aR) (a9 2) aD (λ_ _=>rfl)) aS (aX _)) (dW (ae au (aG (show aH _ (aQ K) from aR) (a9 3) aD (λ_ _=>rfl)) aS (aX _))))) (@aN _ _ _ (@aV _ _ _ _ (aq (aC aS (aC (bG T.zg QN (hr.mono (by omega)) (aC (aG (show aH _ (aQ K) from aR) (a9 0) aD (λ_ _=>rfl)) (aC (aG (show aH _ (aQ K) from aR) (a9 2) aD (λ_ _=>rfl)) (aC (aG (show aH _ (aQ K) from aR) (a9 3) aD (λ_ _=>rfl)) aE rfl) rfl) rfl)) aE rfl) rfl)))) ai) (@aN _ _ _ (@aV _ _ _ _ (aq (aC (aG (show aH _ (aQ K) from aR) (a9 0) aD (λ_ _=>rfl)) (aC (a9 2) (aC (a9 3) aE rfl) rfl) rfl))))))))),?_];cases tr with
   | box k =>
     have hR':=hR;obtain⟨p,rfl,e⟩:=hR;refine#[_,rfl,p,_,_,_,rfl,rfl,aF.of e,at0,rfl,_,rfl,aP (IV rfl) ?_];refine#[_,rfl,d,rfl,.inl #[kvs,.inl hD],_,rfl,p,_,_,_,rfl,rfl,aF.of e,rfl,_,rfl,_,d7.k (k:=Sum.inl k) hD,q _ _ (aB.refl _) ?_];show RAt H ((g k).getD (.box k)) _;cases eg:g k with
     | none=>rw[nv.no eg]; exact hR'
     | some t =>
       obtain⟨x,h1,h2⟩:=nv.yes eg;rw[h1];exact h2
   | num k =>
     have hR':=hR;obtain⟨p,rfl,e⟩:=hR;refine#[_,rfl,p,_,_,_,rfl,rfl,aF.of e,at0,rfl,_,rfl,ak (λz=>wX (V.str.inj (bD z))) ?_];exact#[_,rfl,p,_,_,_,rfl,rfl,aF.of e,at0,rfl,_,rfl,aP (IV rfl) #[_,rfl,q _ _ (aB.refl _) hR']]
   | op s l r =>
     obtain⟨p,x,y,rfl,e,n1,n2,hx,hy⟩:=hR;have d1:dp l<n:=by have:max (dp l) (dp r)+1<n+1:=hd; omega
     have d2:dp r<n:=by have:max (dp l) (dp r)+1<n+1:=hd; omega
     obtain⟨o1,o2⟩:=mj ok;refine#[_,rfl,p,_,_,_,rfl,rfl,aF.of e,at0,rfl,_,rfl,ak (λz=>n1 (V.str.inj (bD z))) ?_];refine#[_,rfl,p,_,_,_,rfl,rfl,aF.of e,at0,rfl,_,rfl,ak (λz=>n2 (V.str.inj (bD z))) ?_];refine#[_,rfl,p,_,_,_,rfl,rfl,aF.of e,rfl,_,rfl,l,x,d,kvs,g,rfl,d1,hx,hD,nv,o1,og,λv1 H1 s1 r1=>?_];refine#[_,rfl,p,_,_,_,rfl,rfl,aF.of (s1 _ _ e),rfl,_,rfl,r,y,d,kvs,g,rfl,d2,hy.mono s1,s1 _ _ hD,nv.mono s1,o2,og,λv2 H2 s2 r2=>?_];have s12:=s1.trans s2;have r1':=r1.mono s2;obtain⟨pl,hd1,rest1,rfl,el,a1,a2⟩:=r1'.head;obtain⟨pr,hd2,rest2,rfl,er,b1,b2⟩:=r2.head;refine#[_,rfl,pl,_,_,_,rfl,rfl,aF.of el,at0,rfl,_,rfl,?_];have fin:∀c H3,H3 c=some (.tup [.str s,.ref pl,.ref pr])->aB H2 H3->((∀k,pt g l≠.num k)\/∀k,pt g r≠.num k)->RAt H3 (pt g (.op s l r)) (.ref c):=λc H3 hc s3 hn=>by show RAt H3 (tog s (pt g l) (pt g r)) (.ref c);rw[rS hn];exact#[c,_,_,rfl,hc,n1,n2,r1'.mono s3,r2.mono s3]
     by_cases m1:hd1="num"
     . refine aP (IV (Iq V.str m1)) #[_,rfl,pr,_,_,_,rfl,rfl,aF.of er,at0,rfl,_,rfl,?_];by_cases m2:hd2="num"
       . obtain⟨k1,z1,y1⟩:=a1 m1;obtain⟨k2,z2,y2⟩:=b1 m2;subst y1;subst y2;have w1:=ij (by have:=j5 og o1; rw[z1] at this; exact this);have w2:=ij (by have:=j5 og o2; rw[z2] at this; exact this);refine aP (IV (Iq V.str m2)) #[_,rfl,p,_,_,_,rfl,rfl,aF.of (s12 _ _ e),at0,_,rfl,pl,_,_,_,rfl,rfl,aF.of el,rfl,_,rfl,pr,_,_,_,rfl,rfl,aF.of er,rfl,s,k1,k2,rfl,w1.1,w2.1,w1.2,w2.2,ay,λc hc=>q _ _ (s12.trans (aB.new hc)) ?_];show RAt _ (tog s (pt g l) (pt g r)) _;rw[z1,z2];exact#[c,rfl,aI]
       . refine ak (λz=>m2 (V.str.inj (bD z))) #[_,rfl,p,_,_,_,rfl,rfl,aF.of (s12 _ _ e),at0,_,rfl,_,rfl,cV,λc hc=>q _ _ (s12.trans (aB.new hc)) (fin c _ aI (aB.new hc) (.inr (b2 m2)))]
     . refine ak (λz=>m1 (V.str.inj (bD z))) (j2 #[_,rfl,p,_,_,_,rfl,rfl,aF.of (s12 _ _ e),at0,_,rfl,_,rfl,cV,λc hc=>q _ _ (s12.trans (aB.new hc)) (fin c _ aI (aB.new hc) (.inl (a2 m1)))])
end
end K44
namespace K44
open PySem L2 Gx Fl Bg Wk St Br
section
variable {P:Program} {w:World} {K:W.Frag} {mg:Str->Option Value} {base:Heap} {t:Adr}
theorem me:FnScope ["_law_cell","_law_size","_law_boxes","_law_calm","_law_view_here","_law_k","_law_number"] ["_law_cell","_law_size","_law_boxes","_law_calm"] (b6 qZ):=by walk_at "s"
theorem EC (T:Txt K mg t):FnOk P w K mg base CX0 2 t.xw t.z9 ["_law_cell","_law_size","_law_boxes","_law_calm"] (Dv K):=by
 have Qa:=ll (P:=P) (w:=w) (base:=base) T;refine T.rL.F.ok me (λvs H Q E h=>?_) (λcdv A outer s H vs Q E hr h=>?_)
 . obtain⟨c,sz,bl,bs,cm,rfl,hz,hB,hbs,hc,q⟩:=h;rfl
 . obtain⟨c,sz,bl,bs,cm,rfl,hz,hB,hbs,hc,q⟩:=h;refine#[_,(aK (@al _ _ 4 _ _ _ _ me.nd rfl (Or.inl rfl) (bu aE) (by rfl) (by walk_at "f")) (aK (cy PassesOwn.never rfl (ge rfl T.b_range (aC (a9 1) aE rfl)) (bU (i:=5) me.nd rfl (Or.inl rfl)) (aK (@al _ _ 6 _ _ _ _ me.nd rfl (Or.inl rfl) (@aM _ _ _ _ _ _ _ _ (aU bj) (@aM _ _ _ _ _ _ _ _ (aU bH) (@aM _ _ _ _ _ _ _ _ (aU db) (a9 0) (@aM _ _ _ _ _ _ _ _ (bo cj) aD (@aM _ _ _ _ _ _ _ _ (aU db) aD (a9 5)))) aD) aD) (by rfl) (by walk_at "f")) (aK (@fB _ _ _ _ (dg J5 JD JE j0 (a9 4) (aC (bG T.kr Qa (hr.mono (by decide)) (aC (@aM _ _ _ _ _ _ _ _ (aU bj) (a9 6) aD) (aC (a9 2) aE rfl) rfl)) aE rfl)) (by rfl)) (@aN _ _ _ (aj (ae au (@aM _ _ _ _ _ _ _ _ (aU bH) (a9 6) (@aM _ _ _ _ _ _ _ _ (bo cj) aD (@aM _ _ _ _ _ _ _ _ (aU db) aD (a9 3)))) aD (aX _)) (@aN _ _ _ (eZ eK (fQ (a9 4) (cp cn aD) fR))) ai))))) (@aN _ _ _ (@aV _ _ _ _ (a9 4))))),?_];refine#[dw,λl hlH=>?_];refine#[_,rfl,_,rfl,by omega,by omega,(let Jv1:Nat->St->Hp->Prop:=λi σ H2=>∃v5 v6 us view,σ=[some (.int c),some (.int sz),some (.ref bl),some (.int cm),some (.ref l),v5,v6]/\aB H H2/\H2 l=some (.lst us)/\Rk2.Ps (aZ H2) us view/\view.length=i/\eY view/\cQ view; kI (lo:=0) (n:=sz) Jv1 #[_,_,[],[],rfl,aB.new hlH,aI,trivial,rfl,(λt h=>by cases h),λt h=>by cases h] ?_ ?_)]
   . rintro i σ H2 hi ⟨v5,v6,us,view,rfl,s2,e2,p2,vl,vo,vn⟩;refine#[_,rfl,_,rfl,_,_,rfl,rfl,.inl #[by decide,by decide],_,_,rfl,rfl,_,_,rfl,rfl,.inr #[by omega,by omega],_,_,rfl,rfl,(show(0:Int)<2147483647 by decide),_,_,rfl,rfl,#[by decide,by decide],?_];generalize c * (48271+2 * (0+(i:Int)))%2147483647 / 3=n6;refine#[_,rfl,.inl #[rfl,_,aJ.of e2],_,rfl,_,_,rfl,rfl,#[by decide,by decide],_,rfl,_,bl,bs,rfl,s2.seq hB,hbs,λtr v H3 s3 r3 t3=>?_];have e3:=s3 _ _ e2;refine#[l,_,_,rfl,rfl,e3,Rk2.lt_line' (by rw[Rk2.Ps.len p2]; omega),?_];have s03:=s2.trans s3;refine#[_,rfl,_,rfl,_,_,rfl,rfl,.inl #[by decide,by decide],_,_,rfl,rfl,_,_,rfl,rfl,(by show(0:Int)<4+4 * cm; omega),rfl,_,rfl,?_];by_cases h4:n6%(4+4 * cm)=0
     . refine aP (IV (Iq V.int h4)) #[_,rfl,_,rfl,l,_,_,_,rfl,rfl,aI,Dk _ _,_,_,us++[.non],view++[none],rfl,(s03.upd hlH).upd hlH,(by rw[Bb]; exact aI),Rk2.Ps.imp (λ_ _ z=>aZ.lst aI (aZ.lst e3 z)) (Rk2.Ps.app (Rk2.Ps.imp (λ_ _ z=>aZ.mono z s3) p2) #[(show aZ H3 none .non from rfl),trivial]),(by rw[Il,vl]; rfl),(λt ht=>(Iv.mp ht).elim (vo t) λht=>by cases Ik.mp ht),λt ht=>(Iv.mp ht).elim (vn t) λht=>by cases Ik.mp ht]
     . exact ak (λz=>h4 (V.int.inj (bD z))) #[_,_,us++[v],view++[some tr],rfl,s03.upd hlH,aI,Rk2.Ps.imp (λ_ _ z=>aZ.lst e3 z) (Rk2.Ps.app (Rk2.Ps.imp (λ_ _ z=>aZ.mono z s3) p2) #[r3,trivial]),(by rw[Il,vl]; rfl),(λt ht=>(Iv.mp ht).elim (vo t) λht=>by cases Ik.mp ht; exact St.TOk.tr9 t3),λt ht=>(Iv.mp ht).elim (vn t) λht=>by cases Ik.mp ht; exact j4 t3]
   . rintro σ H2 ⟨v5,v6,us,view,rfl,s2,e2,p2,vl,vo,vn⟩;exact#[_,rfl,q l us view H2 s2 hlH e2 p2 #[vl,vo,vn]]
theorem iD:FnScope ["_law_cell","_law_known_here","_law_boxes","_law_sets_here","_law_told","_law_k","_law_number","_law_one"] ["_law_cell","_law_known_here","_law_boxes"] (b6 mX):=by walk_at "s"
theorem Et (T:Txt K mg t):FnOk P w K mg base CX0 2 t.xn t.yu ["_law_cell","_law_known_here","_law_boxes"] (FM K):=by
 have Qa:=ll (P:=P) (w:=w) (base:=base) T;refine T.ze.F.ok iD (λvs H Q E h=>?_) (λcdv A outer s H vs Q E hr h=>?_)
 . obtain⟨c,kl,bl,us,ko,bs,rfl,hk,hu,hok,hlen,hB,hbs,q⟩:=h;rfl
 . skip
   refine lx ?_;intro XX;refine(let W2_2:TS:=_; have hW2_2:bQ XX ((sB ((bP mX).getD 2 (.Pass ⟨0,0,0,0⟩))).drop 2) W2_2:=(cx (aj (@PW.pt _ _ _ (dN (ae (bo jp) (@aM _ _ _ _ _ _ _ _ (aU bH) (a9 6) aD) aD (aX _)) (dW (ae (gS hr.units) (a9 4) (bu aE) (aX _))))) (@aN _ _ _ (@al _ _ 7 _ _ _ _ iD.nd rfl (Or.inl rfl) (aG (show aH _ (af K) from ag) (a9 4) (@aM _ _ _ _ _ _ _ _ (aU bH) (@aM _ _ _ _ _ _ _ _ (aU bj) (a9 6) aD) (cR (show bt _ (.builtin "len") (cr K) from d9) (by rfl) T.b_len ci (aC (a9 4) aE rfl))) (λ_ _=>rfl)) (by rfl) (by walk_at "f"))) ai) (@aN _ _ _ (aj (ae (gS hr.units) (a9 7) (aq (aC aS (aC (cp cn aD) aE rfl) rfl)) (aX _)) (@aN _ _ _ (@fB _ _ _ _ (dg J5 JD JE j0 (a9 3) (aC (aq (aC (aG (show aH _ (af K) from ag) (a9 2) (@aM _ _ _ _ _ _ _ _ (aU bH) (@aM _ _ _ _ _ _ _ _ (bo cj) (@aM _ _ _ _ _ _ _ _ (aU bj) (a9 0) aD) (@aM _ _ _ _ _ _ _ _ (aU db) aD (a9 5))) aD) (λ_ _=>rfl)) (aC (a9 7) aE rfl) rfl)) aE rfl)) (by rfl))) ai))); ?_);obtain⟨c,kl,bl,us,ko,bs,rfl,hk,hu,hok,hlen,hB,hbs,q⟩:=h;refine#[_,(aK (@al _ _ 3 _ _ _ _ iD.nd rfl (Or.inl rfl) (bu aE) (by rfl) (by walk_at "f")) (aK (wk (i:=4) iD.nd rfl (Or.inl rfl) (N':=["_law_one"]) (js:=[none]) (by kernel_rfl) rfl (gN (a9 1)) ff (λ_ _ _ _=>(bU (i:=0) (show(["_law_one"]:List Str).Nodup by decide +kernel) rfl (Or.inl rfl) (.inr rfl))) (λ_ _ _ _=>(tN (fJ (g9 (a9 0))))) (λ_ _ _ _=>(a9 0)) (by rfl)) (aK (cy PassesOwn.never rfl (ge rfl T.b_range (aC (@aM _ _ _ _ _ _ _ _ (aU bH) (a9 0) aD) aE rfl)) (bU (i:=5) iD.nd rfl (Or.inl rfl)) (aK (@al _ _ 6 _ _ _ _ iD.nd rfl (Or.inl rfl) (@aM _ _ _ _ _ _ _ _ (aU bj) (@aM _ _ _ _ _ _ _ _ (aU bH) (@aM _ _ _ _ _ _ _ _ (aU db) (a9 0) (@aM _ _ _ _ _ _ _ _ (bo cj) aD (@aM _ _ _ _ _ _ _ _ (aU db) aD (a9 5)))) aD) aD) (by rfl) (by walk_at "f")) (aK (@al _ _ 7 _ _ _ _ iD.nd rfl (Or.inl rfl) (bG T.kr Qa (hr.mono (by decide)) (aC (@aM _ _ _ _ _ _ _ _ (aU bj) (a9 6) aD) (aC (a9 2) aE rfl) rfl)) (by rfl) (by walk_at "f")) hW2_2))) (@aN _ _ _ (@aV _ _ _ _ (a9 3)))))),?_];have lu:=Rk2.Ps.len hu;refine#[dw,λl hlH=>?_];have s0:=aB.new (o:=.lst []) hlH;have e0:upd H l (.lst []) l=some (.lst []):=aI;generalize upd H l (.lst [])=H0 at s0 e0 ⊢;refine#[_,rfl,kl,rfl,#[_,s0.seq hk],λpT hpT=>(let Jv1:Nat->List V->Hp->Prop:=λi acc H2=>aB H0 H2/\H2 pT=some (.lst acc)/\acc.length<=i/\∃ko',Rk2.Ps (aZ (ers pT H2)) acc ko'/\(∀o∈ko',∃t,o=some t/\nh t); mo (xs:=us) (by omega) Jv1 #[aB.new hpT,aI,Ib _,[],trivial,λo h=>by cases h] ?_ ?_ ?_)]
   . rintro i acc H2 hi ⟨s2,e2,l2,_⟩;exact#[e2,l2,(s0.trans s2).seq hk]
   . rintro i y acc H2 hy ⟨s2,e2,l2,ko',p2,k2⟩;obtain⟨u,o,a1,a2,a3⟩:=Rk2.Ps.at hu (n:=i) (by have:=(Ic.mp hy).1; omega);rw[hy] at a1;cases a1;have oo:=hok o (Ij a2);cases o with
     | none =>
       cases a3;exact#[_,rfl,_,rfl,jN #[s2,e2,by omega,ko',p2,k2]]
     | some tr =>
       have a4:aZ (ers pT H2) (some tr) y:=aZ.mono a3 (iQ (s0.trans s2) (s0.free hpT));refine#[_,rfl,_,rfl,aP (by obtain⟨p,rfl⟩:=gJ a3; rfl) #[_,rfl,e2,s2.upd hpT,aI,(by rw[Il]; simp; omega),ko'++[some tr],?_,λo ho=>(Iv.mp ho).elim (k2 o) λho=>#[tr,Ik.mp ho,oo tr rfl]]];rw[gt];exact Rk2.Ps.app p2 #[a4,trivial]
   rintro acc H1 ⟨s1,e1,l1,ko',p1,k1⟩;have p1:Rk2.Ps (aZ H1) acc ko':=Rk2.Ps.imp (λ_ _ z=>aZ.mono z dq) p1;have s01:=s0.trans s1;have b4:=dP c 4 (by decide);have ko1:bx ko':=λo ho=>by obtain⟨t,rfl,h⟩:=k1 o ho; exact .of h.1
   refine#[_,rfl,_,_,rfl,rfl,(show(0:Int)<4 by decide),_,rfl,by omega,by omega,(let Jv2:Nat->St->Hp->Prop:=λi σ H2=>∃v5 v6 v7 xs ps,σ=[some (.int c),some (.ref kl),some (.ref bl),some (.ref l),some (.ref pT),v5,v6,v7]/\aB (ers l H1) H2/\H2 l=some (.lst xs)/\Rk2.Ps (fh K (ers l H2)) xs ps/\ps.length<=i/\∀b∈ps,bZ b.2/\cM b.2; kI (lo:=0) (n:=(c%4).toNat) Jv2 #[_,_,_,[],[],rfl,dq,s1 _ _ e0,trivial,Ib _,λb h=>by cases h] ?_ ?_)]
   . rintro i σ H2 hi ⟨v5,v6,v7,xs,ps,rfl,s2,e2,p2,l2,o2⟩;have z1:aB H (ers l H1):=iQ s01 hlH;have z2:=z1.trans s2;have nl:pT≠l:=λz=>by rw[z,e0] at hpT; cases hpT
     have eT:ers l H1 pT=some (.lst acc):=by rw[cC nl]; exact e1
     have pT1:Rk2.Ps (aZ (ers l H1)) acc ko':=Rk2.Ps.imp (λ_ _ z=>nF (s1 _ _ e0) z) p1;refine#[_,rfl,_,rfl,_,_,rfl,rfl,.inl #[by decide,by decide],_,_,rfl,rfl,_,_,rfl,rfl,.inr #[by omega,by omega],_,_,rfl,rfl,(show(0:Int)<2147483587 by decide),_,_,rfl,rfl,#[by decide,by decide],?_];generalize c * (39373+2 * (0+(i:Int)))%2147483587 / 3=n6;refine#[_,rfl,_,_,rfl,rfl,#[by decide,by decide],_,rfl,_,bl,bs,rfl,z2.seq hB,hbs,λtr v H3 s3 r3 t3=>?_];have s13:=s2.trans s3;refine#[λσ' G=>∃tr v,σ'=[some (.int c),some (.ref kl),some (.ref bl),some (.ref l),some (.ref pT),some (.int (0+(i:Int))),some (.int n6),some v]/\aB H3 G/\Rk2.RAt G tr v/\nh tr,?_,?_]
     . refine#[_,rfl,_,_,rfl,rfl,(show(0:Int)<4 by decide),_,_,rfl,rfl,_,rfl,?_];by_cases h4:n6%4 > 0
       . refine aP (IV h4) #[_,rfl,dw,λq0 hq0=>?_];have s4:=aB.new (o:=.lst []) hq0;have s14:=s13.trans s4;refine F4 (ko:=ko') (aJ.of (s14 _ _ eT)) (Rk2.Ps.imp (λ_ _ z=>aZ.mono z s14) pT1) ko1 (aJ.of aI) #[_,rfl,?_];by_cases hn:acc=[]
         . rw[IV hn];exact jN #[tr,v,rfl,s4,r3.mono s4,#[St.TOk.tr t3,.inr (j4 t3)]]
         . rw[Ih hn];obtain⟨u,o,m1,m2,m3,m4⟩:=By (us:=acc) (List.length_pos_iff.mpr hn) (Rk2.Ps.imp (λ_ _ z=>aZ.mono z s14) pT1) (n6 / 4);obtain⟨t,rfl,tk⟩:=k1 o m3;exact aP rfl #[_,rfl,_,rfl,_,_,rfl,rfl,#[by decide,by decide],_,rfl,pT,_,rfl,.inl (aJ.of (s14 _ _ eT)),_,_,rfl,rfl,m1,pT,_,_,_,rfl,rfl,aJ.of (s14 _ _ eT),m2,t,u,rfl,s4,m4,tk]
       . exact ak (λz=>h4 (K1 z)) (jN #[tr,v,rfl,aB.refl _,r3,#[St.TOk.tr t3,.inr (j4 t3)]])
     . rintro σ' G ⟨t,u,rfl,s4,r4,t4⟩;refine#[_,rfl,_,rfl,ay,λq1 hq1=>?_];have s5:=s4.trans (aB.new (o:=.tup [V.str "box",V.int (-1)]) hq1);refine Gk t4.1 (r4.mono (aB.new hq1)) aI #[_,rfl,?_];have sF:=s13.trans s5;have eF:=(s3.trans s5) _ _ e2;have pF:Rk2.Ps (fh K (ers l (upd G q1 (.tup [V.str "box",V.int (-1)])))) xs ps:=Rk2.Ps.imp (λ_ _ z=>z.mono (aB.ers (s3.trans s5))) p2;have r5:=r4.mono (aB.new (o:=.tup [V.str "box",V.int (-1)]) hq1);generalize upd G q1 (.tup [V.str "box",V.int (-1)])=H5 at sF eF pF r5 ⊢;by_cases hb:t=.box (-1)
       . rw[IV hb];exact jN #[_,_,_,xs,ps,rfl,sF,eF,pF,by omega,o2]
       . rw[Ih hb];obtain⟨b,m1,m2,m3⟩:=vp hbs (c / 4+3 * (0+(i:Int)));have zF:=z1.trans sF;refine aP rfl #[_,rfl,.inl #[rfl,_,aJ.of eF],_,rfl,_,rfl,_,_,rfl,rfl,#[by decide,by decide],_,rfl,_,_,rfl,rfl,.inl #[by decide,by decide],_,_,rfl,rfl,_,_,rfl,rfl,(show(0:Int)<8 by decide),bl,_,_,_,rfl,rfl,zF.seq hB,m1,_,rfl,ay,λq2 hq2=>?_];have s6:=aB.new (o:=.tup [V.int b,u]) hq2;have nq:q2≠l:=λz=>by rw[z,eF] at hq2; cases hq2
         refine#[l,_,_,rfl,rfl,s6 _ _ eF,Rk2.lt_line' (by rw[Rk2.Ps.len pF]; omega),_,_,_,xs++[.ref q2],ps++[(b,t)],rfl,?_,aI,?_,(by rw[Il]; simp; omega),λx hx=>(Iv.mp hx).elim (o2 x) λhx=>by cases Ik.mp hx; exact#[t4.1,t4.2.resolve_left hb]]
         . exact(sF.trans s6).upd (by unfold ers; rw[Ig rfl])
         . rw[gt];exact Rk2.Ps.app (Rk2.Ps.imp (λ_ _ z=>z.mono (aB.ers s6)) pF) #[#[q2,u,rfl,aF.of (by rw[cC nq]; exact aI),lR (s6 _ _ eF) (r5.mono s6)],trivial]
   . rintro σ H2 ⟨v5,v6,v7,xs,ps,rfl,s2,e2,p2,l2,o2⟩;exact#[_,rfl,q l xs ps H2 ((iQ s01 hlH).trans s2) hlH e2 (Rk2.Ps.imp (λ_ _ z=>z.mono dq) p2) (by omega) o2]
theorem lZ:FnScope ["_law_sets_here","_law_box","_law_news_here","_law_there","_law_one"] ["_law_sets_here","_law_box"] (b6 qg):=by walk_at "s"
theorem BY (T:Txt K mg t):FnOk P w K mg base CX0 1 t.xj t.yp ["_law_sets_here","_law_box"] (zt K):=by
 refine T.zY.F.ok lZ (λvs H Q E h=>?_) (λcdv A outer s H vs Q E hr h=>?_)
 . obtain⟨l,xs,ps,bv,fb,rfl,hfb,hl,hx,hp,q⟩:=h;rfl
 . obtain⟨l,xs,ps,bv,fb,rfl,hfb,hl,hx,hp,q⟩:=h;refine#[_,(aK (@al _ _ 2 _ _ _ _ lZ.nd rfl (Or.inl rfl) gH (by rfl) (by walk_at "f")) (aK (cy PassesOwn.never rfl (gN (a9 0)) (eE rfl (cH (bU (i:=3) lZ.nd rfl (Or.inl rfl)) (cH (bU (i:=4) lZ.nd rfl (Or.inl rfl)) eC))) (@aN _ _ _ (eQ (cK hr.units) (a9 2) (a9 3) (a9 4) (by rfl)))) (aK (aj (fJ (g9 (a9 1))) (@aN _ _ _ (eQ (cK hr.units) (a9 2) (a9 1) (aq (aC aS (aC (cp cn aD) aE rfl) rfl)) (by rfl))) ai) (@aN _ _ _ (@aV _ _ _ _ (a9 2)))))),?_];have lx:=Rk2.Ps.len hx;refine λd hd=>#[_,rfl,l,rfl,#[_,(aB.new hd).seq hl],(let Jv1:Nat->St->Hp->Prop:=λi σ H2=>∃v3 v4 kvs,σ=[some (.ref l),some bv,some (.ref d),v3,v4]/\aB H H2/\H2 d=some (.dK kvs)/\kvs.length<=i/\Rk2.NV H2 kvs ((ps.take i).foldl (λg b=>Rk2.setG g b.1 b.2) λ_=>none); nt (xs:=xs) Jv1 #[_,_,[],rfl,aB.new hd,aI,Ib _,λ_=>rfl] ?_ ?_ ?_)]
   . rintro i σ H2 hi ⟨v3,v4,kvs,rfl,s2,e2,l2,n2⟩;exact s2.seq hl
   . rintro i y σ H2 hy ⟨v3,v4,kvs,rfl,s2,e2,l2,n2⟩;have iw:i<xs.length:=(Ic.mp hy).1;obtain⟨u,b,a1,a2,p,x,rfl,hpx,hrx⟩:=Rk2.Ps.at hx (n:=i) (by omega);rw[hy] at a1;cases a1;refine#[p,_,rfl,s2.tup hpx,rfl,_,_,rfl,_,_,rfl,rfl,_,rfl,_,rfl,_,rfl,d,_,rfl,dC.k (k:=(Sum.inl b.1:aL)) e2 (Rk2.lt_line' (n:=kvs.length) (by omega)),_,_,_,rfl,s2.upd hd,aI,?_,?_]
     . have:=Rk2.putK_len kvs (Sum.inl b.1:aL) x; omega
     . rw[show ps.take (i+1)=ps.take i++[b] by rw[List.take_succ,a2]; rfl,JG];exact(n2.put (hrx.mono s2)).upd e2 Rk2.no_dk
   . rintro σ H2 ⟨v3,v4,kvs,rfl,s2,e2,l2,n2⟩;rw[lx,JJ] at n2;rcases hfb with⟨rfl,rfl⟩|⟨i,rfl,rfl⟩
     . exact#[_,rfl,_,rfl,jN #[_,rfl,q d kvs H2 s2 hd e2 (by show Rk2.NV H2 kvs (bz (ps++[])); rw[JI]; exact n2)]]
     . refine#[_,rfl,_,rfl,aP (by rfl) #[_,rfl,ay,λq1 h1=>?_]];have s3:=aB.new (o:=.tup [V.str "box",V.int (-1)]) h1;have e3:=s3 _ _ e2;have r3:Rk2.RAt (upd H2 q1 (.tup [V.str "box",V.int (-1)])) (.box (-1)) (.ref q1):=#[q1,rfl,aI]
       have n3:=n2.mono s3;generalize upd H2 q1 (.tup [V.str "box",V.int (-1)])=H3 at s3 e3 r3 n3 ⊢;refine#[_,rfl,_,rfl,d,_,rfl,dC.k (k:=(Sum.inl i:aL)) e3 (Rk2.lt_line' (n:=kvs.length) (by omega)),_,rfl,q d _ _ ((s2.trans s3).upd hd) hd aI ?_];rw[sH];exact(n3.put r3).upd e3 Rk2.no_dk
theorem Fk:FnScope ["_law_one"] ["_law_one"] (b6 p9):=by walk_at "s"
theorem u6 (T:Txt K mg t):FnOk P w K mg base CX0 1 t.xt t.yz ["_law_one"] (Ft K):=by
 refine T.rK.F.ok Fk (λvs H Q E h=>?_) (λcdv A outer s H vs Q E hr h=>?_)
 . obtain⟨o,v,rfl,hv,ho,hn,q⟩:=h;rfl
 . obtain⟨o,v,rfl,hv,ho,hn,q⟩:=h;refine#[_,(aK (aj (@PW.pt _ _ _ (dN (fJ (g9 (a9 0))) (dW (ae au (cR (show bt _ (.builtin "len") (cr K) from d9) (by rfl) T.b_len ci (aC (a9 0) aE rfl)) aD (aX _))))) (@aN _ _ _ (@aV _ _ _ _ (aq (aC (aG (show aH _ (aQ K) from aR) (a9 0) aD (λ_ _=>rfl)) (aC (aG (show aH _ (aQ K) from aR) (a9 0) aD (λ_ _=>rfl)) (aC (aG (show aH _ (aQ K) from aR) (a9 0) aD (λ_ _=>rfl)) aE rfl) rfl) rfl)))) ai) (@aN _ _ _ (@aV _ _ _ _ (a9 0)))),?_];cases o with
   | none =>
     cases hv;exact#[_,rfl,_,rfl,jN (jN #[_,rfl,q none .non H (aB.refl _) rfl d6.no (λt e=>by cases e) (λ_=>rfl) (λu e=>by cases e)])]
   | some tr =>
     have hv':=hv;cases tr with
     | op s_ l r =>
       obtain⟨p,x,y,rfl,e,n1,n2,hx,hy⟩:=hv;refine#[_,rfl,_,rfl,aP rfl #[_,rfl,p,_,rfl,.inr (aF.of e),rfl,_,rfl,aP (by rfl) ?_]];have ok:=ho _ rfl;refine#[_,rfl,p,_,_,_,rfl,rfl,aF.of e,at0,_,rfl,p,_,_,_,rfl,rfl,aF.of e,rfl,_,rfl,p,_,_,_,rfl,rfl,aF.of e,rfl,cV,λz hz=>q (some (.op s_ r l)) _ _ (aB.new hz) #[z,y,x,rfl,aI,n1,n2,hy.mono (aB.new hz),hx.mono (aB.new hz)] (.of #[λv hv=>ok.1 v (Iv.mpr (Iv.mp hv).symm),#[ok.2.1.1,ok.2.1.2.2,ok.2.1.2.1],?_]) (λt e=>by cases e; exact#[(hn _ rfl).2,(hn _ rfl).1]) (λe=>by cases e) λu _=>#[_,rfl]];have:max (Rk2.dp l) (Rk2.dp r)+1<10:=ok.2.2;show max (Rk2.dp r) (Rk2.dp l)+1<10;omega
     | box k =>
       obtain⟨p,rfl,e⟩:=hv;exact#[_,rfl,_,rfl,aP rfl #[_,rfl,p,_,rfl,.inr (aF.of e),rfl,_,rfl,ak (show ¬ decide (V.int 2=V.int 3)=true by decide) #[_,rfl,q _ _ H (aB.refl _) hv' ho hn (λe=>by cases e) λu _=>#[_,rfl]]]]
     | num k =>
       obtain⟨p,rfl,e⟩:=hv;exact#[_,rfl,_,rfl,aP rfl #[_,rfl,p,_,rfl,.inr (aF.of e),rfl,_,rfl,ak (show ¬ decide (V.int 2=V.int 3)=true by decide) #[_,rfl,q _ _ H (aB.refl _) hv' ho hn (λe=>by cases e) λu _=>#[_,rfl]]]]
theorem fF:FnScope ["_law_cell","_law_known_here","_law_news_here","_law_boxes","_law_calm","_law_view_here","_law_k","_law_number","_law_one","_law_box"] ["_law_cell","_law_known_here","_law_news_here","_law_boxes","_law_calm"] (b6 kJ):=by walk_at "s"
theorem AF (T:Txt K mg t):FnOk P w K mg base CX0 14 t.xh t.yn ["_law_cell","_law_known_here","_law_news_here","_law_boxes","_law_calm"] (Au K):=by
 have Qa:=ll (P:=P) (w:=w) (base:=base) T;have Qo:=u6 (P:=P) (w:=w) (base:=base) T;have Qd:FnOk P w K mg base CX0 12 t.km t.kq ["_law_one","_law_news_here"] (mV K 10):=oU T 10;refine T.zX.F.ok fF (λvs H Q E h=>?_) (λcdv A outer s H vs Q E hr h=>?_)
 . obtain⟨c,kl,nd,bl,us,ko,g,bs,cm,rfl,hk,hu,hok,hlen,hN,hB,hbs,q⟩:=h;rfl
 . skip
   refine lx ?_;intro XX;refine(let W1_5:TS:=_; have hW1_5:bQ XX ((sB ((bP kJ).getD 1 (.Pass ⟨0,0,0,0⟩))).drop 5) W1_5:=(cx (aj (@PW.pt _ _ _ (dN (ae au (@aM _ _ _ _ _ _ _ _ (aU bH) (a9 7) aD) aD (aX _)) (dW (qr (qu (K:=K) rfl (a9 4) (by intro _; rfl)))))) (@aN _ _ _ (@al _ _ 8 _ _ _ _ fF.nd rfl (Or.inl rfl) (aq (aC aS (aC (aG (show aH _ (af K) from ag) (a9 3) (@aM _ _ _ _ _ _ _ _ (aU bH) (@aM _ _ _ _ _ _ _ _ (aU bj) (a9 7) aD) aD) (λ_ _=>rfl)) aE rfl) rfl)) (by rfl) (by walk_at "f"))) ai) (cx (aj (@PW.pt _ _ _ (dN (ae au (@aM _ _ _ _ _ _ _ _ (aU bH) (a9 7) aD) aD (aX _)) (dW (qr (qu (K:=K) rfl (a9 4) (by intro _; rfl)))))) (@aN _ _ _ (@al _ _ 8 _ _ _ _ fF.nd rfl (Or.inl rfl) (bG T.rK Qo (hr.mono (by decide)) (aC (a9 8) aE rfl)) (by rfl) (by walk_at "f"))) ai) (@aN _ _ _ (@fB _ _ _ _ (dg J5 JD JE j0 (a9 5) (aC (a9 8) aE rfl)) (by rfl))))); ?_);refine(let W1_3:TS:=_; have hW1_3:bQ XX ((sB ((bP kJ).getD 1 (.Pass ⟨0,0,0,0⟩))).drop 3) W1_3:=(cx (aj (ae au (@aM _ _ _ _ _ _ _ _ (aU bH) (a9 7) aD) aD (aX _)) (@aN _ _ _ (@al _ _ 8 _ _ _ _ fF.nd rfl (Or.inl rfl) eK (by rfl) (by walk_at "f"))) ai) (cx (aj (@PW.pt _ _ _ (dN (ae au (@aM _ _ _ _ _ _ _ _ (aU bH) (a9 7) aD) aD (aX _)) (dW (qr (qu (K:=K) rfl (a9 4) (by intro _; rfl)))))) (@aN _ _ _ (@al _ _ 8 _ _ _ _ fF.nd rfl (Or.inl rfl) (bG T.kr Qa (hr.mono (by decide)) (aC (@aM _ _ _ _ _ _ _ _ (aU bj) (a9 7) aD) (aC (a9 3) aE rfl) rfl)) (by rfl) (by walk_at "f"))) ai) hW1_5)); ?_);obtain⟨c,kl,nd,bl,us,ko,g,bs,cm,rfl,hk,hu,hok,hlen,hN,hB,hbs,q⟩:=h;refine#[_,(aK (@al _ _ 5 _ _ _ _ fF.nd rfl (Or.inl rfl) (bu aE) (by rfl) (by walk_at "f")) (aK (cy PassesOwn.never rfl (ge rfl T.b_range (aC (cR (show bt _ (.builtin "len") (cr K) from d9) (by rfl) T.b_len ci (aC (a9 1) aE rfl)) aE rfl)) (bU (i:=6) fF.nd rfl (Or.inl rfl)) (aK (@al _ _ 7 _ _ _ _ fF.nd rfl (Or.inl rfl) (@aM _ _ _ _ _ _ _ _ (aU bj) (@aM _ _ _ _ _ _ _ _ (aU bH) (@aM _ _ _ _ _ _ _ _ (aU db) (a9 0) (@aM _ _ _ _ _ _ _ _ (bo cj) aD (@aM _ _ _ _ _ _ _ _ (aU db) aD (a9 6)))) aD) aD) (by rfl) (by walk_at "f")) (aK (@al _ _ 8 _ _ _ _ fF.nd rfl (Or.inl rfl) (aG (show aH _ (af K) from ag) (a9 1) (a9 6) (λ_ _=>rfl)) (by rfl) (by walk_at "f")) (cx (aj (fJ (g9 (a9 8))) (aK (cy PassesOwn.never rfl (gN (a9 3)) (bU (i:=9) fF.nd rfl (Or.inl rfl)) (@aN _ _ _ (aj (@PW.pt _ _ _ (dN (ae (kO hr.units) (oE (cK hr.units) (a9 2) (a9 9) (aq (aC aS (aC (a9 9) aE rfl) rfl)) #[rfl,rfl,rfl,rfl]) (a9 8) (aX _)) (dW (ae (bo jp) (@aM _ _ _ _ _ _ _ _ (aU bH) (@aM _ _ _ _ _ _ _ _ (aU bj) (a9 7) aD) aD) aD (aX _))))) (@aN _ _ _ (@al _ _ 8 _ _ _ _ fF.nd rfl (Or.inl rfl) (aq (aC aS (aC (a9 9) aE rfl) rfl)) (by rfl) (by walk_at "f"))) ai))) (@aN _ _ _ (aj (@PW.pt _ _ _ (kU (ae (kO hr.units) (a9 8) (aq (aC aS (aC (cp cn aD) aE rfl) rfl)) (aX _)) (jx (ae (gS hr.units) (bG T.jQ Qd (hr.mono (by decide)) (aC (a9 8) (aC (a9 2) aE rfl) rfl)) (aG (show aH _ (af K) from ag) (a9 1) (a9 6) (λ_ _=>rfl)) (aX _))))) (@aN _ _ _ (@al _ _ 8 _ _ _ _ fF.nd rfl (Or.inl rfl) eK (by rfl) (by walk_at "f"))) ai))) ai) hW1_3)))) (@aN _ _ _ (@aV _ _ _ _ (a9 5))))),?_];have lu:=Rk2.Ps.len hu;obtain⟨⟨kvs,ed,nv⟩,gok⟩:=hN;refine#[dw,λl hlH=>?_];refine#[_,rfl,kl,_,rfl,.inl ((aB.new hlH).seq hk),_,rfl,by omega,by omega,(let Jv1:Nat->St->Hp->Prop:=λi σ H2=>∃v6 v7 v8 v9 ws view,σ=[some (.int c),some (.ref kl),some (.ref nd),some (.ref bl),some (.int cm),some (.ref l),v6,v7,v8,v9]/\aB H H2/\H2 l=some (.lst ws)/\Rk2.Ps (aZ H2) ws view/\view.length=i/\bx view/\cQ view; kI (lo:=0) (n:=us.length) Jv1 #[_,_,_,_,[],[],rfl,aB.new hlH,aI,trivial,rfl,(λt h=>by cases h),λt h=>by cases h] ?_ ?_)]
   . rintro i σ H2 hi ⟨v6,v7,v8,v9,ws,view,rfl,s2,e2,p2,vl,vo,vn⟩;refine#[_,rfl,_,rfl,_,_,rfl,rfl,.inl #[by decide,by decide],_,_,rfl,rfl,_,_,rfl,rfl,.inr #[by omega,by omega],_,_,rfl,rfl,(show(0:Int)<2147483647 by decide),_,_,rfl,rfl,#[by decide,by decide],?_];generalize c * (48271+2 * (0+(i:Int)))%2147483647 / 3=n6;obtain⟨u,o1,a1,a2,a3⟩:=Rk2.Ps.at hu (n:=i) (by omega);have ok1:=hok o1 (Ij a2);have a1':bI us (0+(i:Int))=some u:=by rw[Int.zero_add]; exact c7 a1
     refine#[_,rfl,_,rfl,kl,_,_,_,rfl,rfl,s2.seq hk,a1',?_];have r2:=aZ.mono a3 s2;refine#[λσ' G=>∃(o:Option Rk2.Tr) (v:V) (v9:Option V),σ'=[some (.int c),some (.ref kl),some (.ref nd),some (.ref bl),some (.int cm),some (.ref l),some (.int (0+(i:Int))),some (.int n6),some v,v9]/\aB H2 G/\aZ G o v/\d6 o/\dR o,?_,?_]
     . cases o1 with
       | none =>
         cases a3;exact#[_,rfl,_,rfl,jN #[none,.non,v9,rfl,aB.refl _,rfl,d6.no,dR.no]]
       | some tr =>
         refine#[_,rfl,_,rfl,aP (by obtain⟨p,rfl⟩:=gJ r2; rfl) ?_];have tk:=ok1 tr rfl;refine#[_,rfl,bl,rfl,#[_,s2.seq hB],(let Jv2:Nat->St->Hp->Prop:=λj σ G=>∃(t:Rk2.Tr) (v:V) (v9:Option V),σ=[some (.int c),some (.ref kl),some (.ref nd),some (.ref bl),some (.int cm),some (.ref l),some (.int (0+(i:Int))),some (.int n6),some v,v9]/\aB H2 G/\Rk2.RAt G t v/\nh t; nt (xs:=bs.map V.int) Jv2 #[tr,u,v9,rfl,aB.refl _,r2,tk] ?_ ?_ ?_)]
         . rintro j σ G hj ⟨t,v,v9,rfl,s3,_⟩;exact(s2.trans s3).seq hB
         . rintro j y σ G hy ⟨t,v,v9,rfl,s3,r3,t3⟩;rw[Iu,Jd] at hy;obtain⟨b,hb,rfl⟩:=hy;have bb:=hbs.2 b (Ij hb);have s03:=s2.trans s3;refine#[_,rfl,nd,rfl,.inl #[kvs,.inl (s03 _ _ ed)],_,rfl,_,rfl,ay,λq1 h1=>?_];have s4:=aB.new (o:=.tup [V.str "box",V.int b]) h1;have e4:upd G q1 (.tup [V.str "box",V.int b]) q1=some (.tup [V.str "box",V.int b]):=aI;have s04:=s03.trans s4;have r4:Rk2.RAt (upd G q1 (.tup [V.str "box",V.int b])) ((g b).getD (.box b)) ((bN kvs (Sum.inl b:aL)).getD (.ref q1)):=by
             cases eg:g b with
             | none=>rw[nv.no eg]; exact#[q1,rfl,e4]
             | some t=>obtain⟨x,x1,x2⟩:=nv.yes eg; rw[x1]; exact x2.mono s04
           have t4:bZ ((g b).getD (.box b)):=by
             cases eg:g b with
             | none=>exact#[Rk2.okl_box b,trivial,by show 0<10; decide]
             | some t=>exact gok b t eg
           refine#[_,d7.k (k:=Sum.inl b) (s04 _ _ ed),_,rfl,EU t4 t3.1 r4 (r3.mono s4) #[_,rfl,?_]];have s24:=s3.trans s4;have r34:=r3.mono s4;generalize upd G q1 (.tup [V.str "box",V.int b])=G4 at s4 e4 s04 r4 s24 r34 ⊢;cases PyData.eqv (bS ((g b).getD (.box b))) (bS t) with
           | false=>exact jN (jN #[t,v,_,rfl,s24,r34,t3])
           | true =>
             refine aP rfl #[_,rfl,_,_,rfl,rfl,#[by decide,by decide],_,_,rfl,rfl,(show(0:Int)<4 by decide),_,_,rfl,rfl,_,rfl,?_];by_cases h4:n6 / 8%4 > 0
             . exact aP (IV h4) #[_,rfl,ay,λq2 h2=>#[.box b,_,_,rfl,s24.trans (aB.new h2),#[q2,rfl,aI],#[Rk2.okl_box b,trivial,by show 0<10; decide],.inr (λz=>by omega)]]
             . exact ak (λz=>h4 (K1 z)) #[t,v,_,rfl,s24,r34,t3]
         . rintro σ G ⟨t,v,v9,rfl,s3,r3,t3⟩;refine#[_,rfl,_,rfl,ay,λq1 h1=>?_];have s4:=s3.trans (aB.new (o:=.tup [V.str "box",V.int (-1)]) h1);refine GN t3.1 (r3.mono (aB.new h1)) aI #[_,rfl,?_];have r4:=r3.mono (aB.new (o:=.tup [V.str "box",V.int (-1)]) h1);generalize upd G q1 (.tup [V.str "box",V.int (-1)])=G4 at s4 r4 ⊢;by_cases hb:t=.box (-1)
           . rw[IV hb];exact aP rfl (aP rfl #[none,.non,v9,rfl,s4,rfl,d6.no,dR.no])
           . rw[Ih hb];have s04:=s2.trans s4;refine jN #[_,rfl,_,rfl,t,v,nd,kvs,g,rfl,t3.1.2.2,r4,s04 _ _ ed,nv.mono s04,t3.1.1,(λk t h=>(gok k t h).1),λv5 G5 s5 r5=>?_];have s45:=s4.trans s5;refine#[_,rfl,_,rfl,kl,_,_,_,rfl,rfl,(s2.trans s45).seq hk,a1',vL (o:=some tr) (sh gok t3.1) (λu e=>(ok1 u e).1) r5 (aZ.mono r2 s45) #[_,rfl,?_]];cases ga (Rk2.pt g t) (some tr) with
             | true=>exact jN #[some t,v,v9,rfl,s45,r4.mono s5,.of t3.1,.of (t3.2.resolve_left hb)]
             | false=>exact aP rfl #[none,.non,v9,rfl,s45,rfl,d6.no,dR.no]
     clear v9;rintro σ' G ⟨o,v,v9,rfl,s3,r3,o3,n3⟩;refine#[λσ' G=>∃(o:Option Rk2.Tr) (v:V) (v9:Option V),σ'=[some (.int c),some (.ref kl),some (.ref nd),some (.ref bl),some (.int cm),some (.ref l),some (.int (0+(i:Int))),some (.int n6),some v,v9]/\aB H2 G/\aZ G o v/\d6 o/\dR o,?_,?_]
     . refine#[_,rfl,_,_,rfl,rfl,(show(0:Int)<8 by decide),rfl,_,rfl,?_];by_cases h8:n6%8=0
       . exact aP (IV (Iq V.int h8)) #[none,.non,v9,rfl,s3,rfl,d6.no,dR.no]
       . exact ak (λz=>h8 (V.int.inj (bD z))) #[o,v,v9,rfl,s3,r3,o3,n3]
     clear s3 r3 n3 o3 o v v9;rintro σ' G ⟨o,v,v9,rfl,s3,r3,o3,n3⟩;refine#[λσ' G=>∃(o:Option Rk2.Tr) (v:V) (v9:Option V),σ'=[some (.int c),some (.ref kl),some (.ref nd),some (.ref bl),some (.int cm),some (.ref l),some (.int (0+(i:Int))),some (.int n6),some v,v9]/\aB H2 G/\aZ G o v/\d6 o/\dR o,?_,?_]
     . refine#[_,rfl,_,_,rfl,rfl,(show(0:Int)<8 by decide),rfl,_,rfl,?_];by_cases h8:n6%8=1
       . refine aP (IV (Iq V.int h8)) #[_,rfl,_,rfl,?_];by_cases hcm:cm=0
         . subst hcm;refine aP (by decide) ?_;exact#[_,rfl,_,_,rfl,rfl,#[by decide,by decide],_,rfl,_,bl,bs,rfl,(s2.trans s3).seq hB,hbs,λtr v4 H4 s4 r4 t4=>#[some tr,v4,v9,rfl,s3.trans s4,r4,.of (St.TOk.tr t4),.of (j4 t4)]]
         . exact ak (by simp [hcm]) #[o,v,v9,rfl,s3,r3,o3,n3]
       . exact ak (λz=>h8 (V.int.inj (bD z))) (jN #[o,v,v9,rfl,s3,r3,o3,n3])
     clear s3 r3 n3 o3 o v v9;rintro σ' G ⟨o,v,v9,rfl,s3,r3,o3,n3⟩;refine#[λσ' G=>∃(o:Option Rk2.Tr) (v:V) (v9:Option V),σ'=[some (.int c),some (.ref kl),some (.ref nd),some (.ref bl),some (.int cm),some (.ref l),some (.int (0+(i:Int))),some (.int n6),some v,v9]/\aB H2 G/\aZ G o v/\d6 o/\dR o,?_,?_]
     . refine#[_,rfl,_,_,rfl,rfl,(show(0:Int)<8 by decide),rfl,_,rfl,?_];by_cases h8:n6%8=2
       . refine aP (IV (Iq V.int h8)) #[_,rfl,_,rfl,?_];by_cases hcm:cm=0
         . subst hcm;refine aP (by decide) ?_;obtain⟨b,m1,m2⟩:=vp hbs (n6 / 8);exact#[_,rfl,_,rfl,_,_,rfl,rfl,#[by decide,by decide],_,_,rfl,rfl,(show(0:Int)<8 by decide),bl,_,_,_,rfl,rfl,(s2.trans s3).seq hB,m1,ay,λq1 h1=>#[some (.box b),_,v9,rfl,s3.trans (aB.new h1),#[q1,rfl,aI],.of #[Rk2.okl_box b,trivial,by show 0<10; decide],.of (λz=>by omega)]]
         . exact ak (by simp [hcm]) #[o,v,v9,rfl,s3,r3,o3,n3]
       . exact ak (λz=>h8 (V.int.inj (bD z))) (jN #[o,v,v9,rfl,s3,r3,o3,n3])
     clear s3 r3 n3 o3 o v v9;rintro σ' G ⟨o,v,v9,rfl,s3,r3,o3,n3⟩;refine#[λσ' G=>∃(o:Option Rk2.Tr) (v:V) (v9:Option V),σ'=[some (.int c),some (.ref kl),some (.ref nd),some (.ref bl),some (.int cm),some (.ref l),some (.int (0+(i:Int))),some (.int n6),some v,v9]/\aB H2 G/\aZ G o v/\d6 o/\dR o,?_,?_]
     . refine#[_,rfl,_,_,rfl,rfl,(show(0:Int)<8 by decide),rfl,_,rfl,?_];by_cases h8:n6%8=3
       . refine aP (IV (Iq V.int h8)) #[_,rfl,_,rfl,?_];by_cases hcm:cm=0
         . subst hcm;refine aP (by decide) ?_;exact#[_,rfl,o,v,rfl,r3,o3,n3,λo4 v4 H4 s4 r4 k4 m4 _ _=>#[o4,v4,v9,rfl,s3.trans s4,r4,k4,m4]]
         . exact ak (by simp [hcm]) #[o,v,v9,rfl,s3,r3,o3,n3]
       . exact ak (λz=>h8 (V.int.inj (bD z))) (jN #[o,v,v9,rfl,s3,r3,o3,n3])
     clear s3 r3 n3 o3 o v v9;rintro σ' G ⟨o,v,v9,rfl,s3,r3,o3,n3⟩;have e3:=s3 _ _ e2;exact#[_,rfl,.inl #[rfl,_,aJ.of e3],_,rfl,l,_,_,rfl,rfl,e3,Rk2.lt_line' (by rw[Rk2.Ps.len p2]; omega),_,_,_,_,ws++[v],view++[o],rfl,(s2.trans s3).upd hlH,aI,Rk2.Ps.imp (λ_ _ z=>aZ.lst e3 z) (Rk2.Ps.app (Rk2.Ps.imp (λ_ _ z=>aZ.mono z s3) p2) #[r3,trivial]),(by rw[Il,vl]; rfl),vo.app (λp hp=>by cases Ik.mp hp; exact o3),λt ht=>(Iv.mp ht).elim (vn t) λht=>n3 t (Ik.mp ht).symm]
   . rintro σ H2 ⟨v6,v7,v8,v9,ws,view,rfl,s2,e2,p2,vl,vo,vn⟩;exact#[_,rfl,q l ws view H2 s2 hlH e2 p2 #[by omega,vo,vn]]
theorem kW:FnScope ["_law_spot","_law_mark","_law_chain","_law_known_here","_law_news_here","_law_view_here","_law_told","_law_place","_law_one"] ["_law_spot","_law_mark","_law_chain","_law_known_here","_law_news_here"] (b6 oK):=by walk_at "s"
theorem A4 (T:Txt K mg t):FnOk P w K mg base CX0 14 t.xf t.yl ["_law_spot","_law_mark","_law_chain","_law_known_here","_law_news_here"] (Fj K):=by
 have Qd:FnOk P w K mg base CX0 12 t.km t.kq ["_law_one","_law_news_here"] (mV K 10):=oU T 10;refine T.zV.F.ok kW (λvs H Q E h=>?_) (λcdv A outer s H vs Q E hr h=>?_)
 . obtain⟨sv,mv,cv,kA,d,kd,L,ch,kl,Kn,g,rfl,hS,hM,hC,hK,hk,hN,hO,q⟩:=h;rfl
 . obtain⟨sv,mv,cv,kA,d,kd,L,ch,kl,Kn,g,rfl,hS,hM,hC,hK,hk,hN,hO,q⟩:=h;refine#[_,(aK (aj (@PW.pt _ _ _ (kU (ae au (aG (show aH _ (aQ K) from aR) (aG (show aH _ (aQ K) from aR) (a9 0) aD (λ_ _=>rfl)) aD (λ_ _=>rfl)) aS (aX _)) (jx (ae (gS hr.units) (aG (show aH _ (aQ K) from aR) (a9 1) aD (λ_ _=>rfl)) (a9 2) (aX _))))) (@aN _ _ _ (@aV _ _ _ _ dL)) ai) (aK (cy PassesOwn.never rfl (my false false rfl T.b_zip (aC (aG (show aH _ (aQ K) from aR) (a9 1) aD (λ_ _=>rfl)) (aC (a9 3) aE rfl) rfl)) (eE rfl (cH (bU (i:=5) kW.nd rfl (Or.inl rfl)) (cH (bU (i:=6) kW.nd rfl (Or.inl rfl)) eC))) (@aN _ _ _ (cy PassesOwn.never rfl (my false false rfl T.b_zip (aC (a9 5) (aC (a9 6) aE rfl) rfl)) (eE rfl (cH (bU (i:=7) kW.nd rfl (Or.inl rfl)) (cH (bU (i:=8) kW.nd rfl (Or.inl rfl)) eC))) (@aN _ _ _ (aj (@PW.pt _ _ _ (dN (fJ (g9 (a9 7))) (dW (@PW.pt _ _ _ (kU (fJ (oH (a9 8))) (jx (ae (gS hr.units) (bG T.jQ Qd (hr.mono (by decide)) (aC (a9 7) (aC (a9 4) aE rfl) rfl)) (a9 8) (aX _)))))))) (@aN _ _ _ (@aV _ _ _ _ dL)) ai))))) (@aN _ _ _ (@aV _ _ _ _ dL)))),?_];obtain⟨sp,sl,a,r,rfl,hsp,ha⟩:=hS;obtain⟨mp,mc,w_,ws,rfl,hmp,hmc,hmw,hmws⟩:=hM;have hmws:Rk2.Ps (gM K H) ws (L.map Lev.vw):=hmws;have hmc:cT K H (L.map Lev.fr) mc:=hmc;obtain⟨⟨kvs,ed,nv⟩,gok⟩:=hN;have eB:ia g kd L ch Kn=(!decide (kd="wait")&&(decide (L.map Lev.fr=ch)&&gu g (L.map Lev.vw) Kn)):=rfl;have n1:∀c∈L.map Lev.fr,PyData.strOk c.1=true:=λc hc=>by obtain⟨e,he,rfl⟩:=J3.mp hc;exact hO.n e he
   refine#[_,rfl,sp,_,_,_,rfl,rfl,hsp,rfl,a,_,_,_,rfl,rfl,ha,at0,rfl,_,rfl,?_];by_cases hw:kd="wait"
   . rw[IV hw] at eB;rw[eB] at q;exact aP (IV (Iq V.str hw)) (aP rfl (q H (aB.refl _)))
   rw[Ih hw,Bool.not_false,JY] at eB;rw[eB] at q;refine ak (λz=>hw (V.str.inj (bD z))) #[_,rfl,mp,_,_,_,rfl,rfl,hmp,at0,_,rfl,vd n1 hO.c hmc hC #[_,rfl,?_]];by_cases hch:L.map Lev.fr=ch
   case neg =>
     rw[Ih hch] at q ⊢;exact aP rfl (q H (aB.refl _))
   rw[IV hch,JY] at q;rw[IV hch];have l1:=Rk2.Ps.len hmws;have l2:=Rk2.Ps.len hk;refine jN #[_,rfl,mp,_,_,_,rfl,rfl,hmp,rfl,_,rfl,w_,kA,rfl,#[_,hmw],#[_,hK],(let Jv1:Nat->St->Hp->Prop:=λi σ G=>∃v5 v6 v7 v8:Option V,σ=[some (.ref sp),some (.ref mp),some cv,some (.ref kA),some (.ref d),v5,v6,v7,v8]/\aB H G/\∀j p,j<i->((L.map Lev.vw).zip Kn)[j]?=some p->gU g p.1 p.2=true; qw (b1:=false) (b2:=false) (xs:=ws) (ys:=kl) Jv1 #[_,_,_,_,rfl,aB.refl _,λj p hj=>absurd hj (JR j)] ?_ ?_ ?_)]
   . rintro i σ G hi ⟨v5,v6,v7,v8,rfl,s1,hb⟩;exact#[s1.seq hmw,s1.seq hK]
   . rintro i y z σ G b hy hz ⟨v5,v6,v7,v8,rfl,s1,hb⟩ nb;obtain⟨u1,vw,b1,b2,vl,us,rfl,hvl,hus⟩:=Rk2.Ps.at hmws (n:=i) (by have:=(Ic.mp hy).1; omega);rw[hy] at b1;cases b1;obtain⟨u2,kn,c1,c2,tl,us2,rfl,htl,hus2⟩:=Rk2.Ps.at hk (n:=i) (by have:=(Ic.mp hz).1; omega);rw[hz] at c1;cases c1;have vok:bx vw:=by obtain⟨e,he,rfl⟩:=J3.mp (Ij b2);exact hO.v e he
     have kok:=hO.k kn (Ij c2);have s2:=s1.trans (aB.new (o:=.tup [V.ref vl,V.ref tl]) nb);refine#[b,_,rfl,aF.of aI,rfl,_,_,rfl,_,_,rfl,rfl,?_];generalize upd G b (.tup [V.ref vl,V.ref tl])=G1 at s2 ⊢;have m1:=Rk2.Ps.len hus;have m2:=Rk2.Ps.len hus2;refine#[_,rfl,_,rfl,vl,tl,rfl,#[_,s2.seq hvl],#[_,s2.seq htl],(let Jv2:Nat->St->Hp->Prop:=λj σ G3=>∃v7 v8:Option V,σ=[some (.ref sp),some (.ref mp),some cv,some (.ref kA),some (.ref d),some (.ref vl),some (.ref tl),v7,v8]/\aB H G3/\∀j' po,j'<j->(vw.zip kn)[j']?=some po->iu g po.1 po.2=true; qw (b1:=false) (b2:=false) (xs:=us) (ys:=us2) Jv2 #[_,_,rfl,s2,λj p hj=>absurd hj (JR j)] ?_ ?_ ?_)]
     . rintro j σ G3 hj ⟨v7,v8,rfl,s3,h3⟩;exact#[s3.seq hvl,s3.seq htl]
     . rintro j y z σ G3 b3 hy' hz' ⟨v7,v8,rfl,s3,h3⟩ nb3;obtain⟨w1,pl,d1,d2,d3⟩:=Rk2.Ps.at hus (n:=j) (by have:=(Ic.mp hy').1; omega);rw[hy'] at d1;cases d1;obtain⟨w2,o,f1,f2,f3⟩:=Rk2.Ps.at hus2 (n:=j) (by have:=(Ic.mp hz').1; omega);rw[hz'] at f1;cases f1;have hz3:(vw.zip kn)[j]?=some (pl,o):=JV.mpr #[d2,f2];have s4:=s3.trans (aB.new (o:=.tup [y,z]) nb3);refine#[b3,_,rfl,aF.of aI,rfl,_,_,rfl,_,_,rfl,rfl,?_];generalize upd G3 b3 (.tup [y,z])=G4 at s4 ⊢;have step:∀G5,aB H G5->iu g pl o=true->∃v7 v8:Option V,[some (.ref sp),some (.ref mp),some cv,some (.ref kA),some (.ref d),some (.ref vl),some (.ref tl),some y,some z]=[some (.ref sp),some (.ref mp),some cv,some (.ref kA),some (.ref d),some (.ref vl),some (.ref tl),v7,v8]/\aB H G5/\∀j' po,j'<j+1->(vw.zip kn)[j']?=some po->iu g po.1 po.2=true:=λG5 s5 h5=>#[_,_,rfl,s5,λj' po hj' hn=>by
         rcases K8.mp hj' with h|h
         . exact h3 j' po h hn
         . subst h;rw[hz3] at hn;cases hn;exact h5]
       have no:∀G5,aB H G5->iu g pl o=false->Q (.bl false) G5:=λG5 s5 h5=>by
         have:gu g (L.map Lev.vw) Kn=false:=by unfold gu;rw[Ke];refine#[(vw,kn),Ij (JV.mpr #[b2,c2]),?_];show ¬ gU _ vw kn=true;rw[Bool.not_eq_true];unfold gU;rw[Ke];exact#[(pl,o),Ij hz3,by rw[h5]; decide]
         rw[this] at q;exact q G5 s5
       cases pl with
       | none =>
         cases d3;exact#[_,rfl,_,rfl,jN (jN (step G4 s4 rfl))]
       | some tr =>
         have d4:=aZ.mono d3 s4;have tok:=vok _ (Ij d2) tr rfl;refine#[_,rfl,_,rfl,aP (by obtain⟨p,rfl⟩:=gJ d4; rfl) ?_];have f4:=aZ.mono f3 s4;cases o with
         | none =>
           cases f4;exact#[_,rfl,_,rfl,aP rfl (aP rfl (no G4 s4 rfl))]
         | some tr2 =>
           refine#[_,rfl,_,rfl,ak (by obtain⟨p,rfl⟩:=gJ f4; simp) ?_];refine#[_,rfl,_,rfl,tr,y,d,kvs,g,rfl,tok.2.2,d4,s4 _ _ ed,nv.mono s4,tok.1,(λk t h=>(gok k t h).1),λv5 G5 s5 hv5=>?_];refine#[_,rfl,vL (o:=some tr2) (sh gok tok) (kok _ (Ij f2)) hv5 (aZ.mono f4 s5) #[_,rfl,?_]];cases hE:ga (Rk2.pt g tr) (some tr2) with
           | true=>exact jN (step G5 (s4.trans s5) hE)
           | false=>exact aP rfl (no G5 (s4.trans s5) hE)
     . rintro σ G3 ⟨v7,v8,rfl,s3,h3⟩;refine#[_,_,_,_,rfl,s3,λj p hj hz4=>?_];rcases K8.mp hj with h|h
       . exact hb j p h hz4
       . subst h;rw[JV,b2,c2] at hz4;obtain⟨y1,y2⟩:=hz4;cases y1;cases y2;unfold gU;rw[Jk];intro po hpo;obtain⟨j',hj',e'⟩:=KI hpo;exact h3 j' po (by rw[Jz] at hj'; omega) (by rw[<- e']; exact Iw hj')
   . rintro σ G ⟨v5,v6,v7,v8,rfl,s1,hb⟩;have:gu g (L.map Lev.vw) Kn=true:=by unfold gu;rw[Jk];intro p hp;obtain⟨j',hj',e'⟩:=KI hp;exact hb j' p (by rw[Jz] at hj'; omega) (by rw[<- e']; exact Iw hj')
     rw[this] at q;exact q G s1
theorem sU:FnScope ["_law_own","_law_outer_here","_law_many","_law_rows"] ["_law_own","_law_outer_here","_law_many"] (b6 ph):=by walk_at "s"
theorem HU (T:Txt K mg t):FnOk P w K mg base CX0 1 t.xl t.yr ["_law_own","_law_outer_here","_law_many"] (Ax K):=by
 refine T.za.F.ok sU (λvs H Q E h=>?_) (λcdv A outer s H vs Q E hr h=>?_)
 . obtain⟨ol,ul,n0,n1,o0,o1,m,rfl,hol,hul,hn0,hn1,hnd,hw,hm,q⟩:=h;rfl
 . obtain⟨ol,ul,n0,n1,o0,o1,m,rfl,hol,hul,hn0,hn1,hnd,hw,hm,q⟩:=h;refine#[_,(aK (@al _ _ 3 _ _ _ _ sU.nd rfl (Or.inl rfl) (aq (aC (aq (aC aS (aC (aG (show aH _ (af K) from ag) (a9 1) aD (λ_ _=>rfl)) (aC (aG (show aH _ (af K) from ag) (a9 0) aD (λ_ _=>rfl)) (aC (gk m8 (aq (aC (aG (show aH _ (af K) from ag) (a9 1) aD (λ_ _=>rfl)) (aC aD (aC (aG (show aH _ (af K) from ag) (a9 1) aD (λ_ _=>rfl)) (aC aD (aC aD aE rfl) rfl) rfl) rfl) rfl)) gm (hU (a9 2))) aE rfl) rfl) rfl) rfl)) (aC (aq (aC aS (aC (aG (show aH _ (af K) from ag) (a9 1) aD (λ_ _=>rfl)) aE rfl) rfl)) (aC (aq (aC aS (aC aD aE rfl) rfl)) aE rfl) rfl) rfl)) (by rfl) (by walk_at "f")) (@aN _ _ _ (@aV _ _ _ _ (aq (aC (aG (show aH _ (af K) from ag) (a9 0) aD (λ_ _=>rfl)) (aC dL (aC (ce jn (by rfl) T.b_tuple kN (aC (a9 1) aE rfl)) (aC (a9 3) aE rfl) rfl) rfl) rfl))))),?_];have m0:o0∈[o0,o1]:=Ii;have m1:o1∈[o0,o1]:=Im _ Ii;refine#[_,rfl,ul,_,_,_,rfl,rfl,hul,at0,_,rfl,ol,_,_,_,rfl,rfl,hol,at0,_,rfl,ul,_,_,_,rfl,rfl,hul,rfl,_,rfl,ul,_,_,_,rfl,rfl,hul,at0,oF,λp1 h1=>#[_,rfl,_,rfl,lQ (aF.of aI) λq2 H2 s2 hq2=>?_]];have s02:=(aB.new (o:=.tup [V.str o1,.int 3,.str o0,.int 5,.int 7]) h1).trans s2;have hat:∀v∈ck [V.str o1,.int 3,.str o0,.int 5,.int 7] none (some (m:Int)),dA [o0,o1] v:=λv hv=>by
     have hv:=Co v hv;simp only[Io,JK,or_false] at hv;rcases hv with rfl|rfl|rfl|rfl|rfl
     . exact .inr #[o1,m1,rfl]
     . exact .inl #[_,rfl]
     . exact .inr #[o0,m0,rfl]
     . exact .inl #[_,rfl]
     . exact .inl #[_,rfl]
   have hcl:(ck [V.str o1,.int 3,.str o0,.int 5,.int 7] none (some (m:Int))).length<=10:=J7 Ay (by simp);clear hm;generalize ck [V.str o1,.int 3,.str o0,.int 5,.int 7] none (some (m:Int))=as at hq2 hat hcl;refine#[eI,λp3 h3=>?_];have s3:=aB.new (o:=.tup [V.str "call",.str o0,.str n0,.ref q2]) h3;have c3:upd H2 p3 (.tup [V.str "call",.str o0,.str n0,.ref q2]) p3=some (.tup [V.str "call",.str o0,.str n0,.ref q2]):=aI;generalize upd H2 p3 (.tup [V.str "call",.str o0,.str n0,.ref q2])=H3 at s3 c3 ⊢;have s03:=s02.trans s3;refine#[_,rfl,ul,_,_,_,rfl,rfl,s03.seq hul,rfl,ay,λp4 h4=>#[ay,λp5 h5=>#[cV,λp6 h6=>?_]]];have s4:=aB.new (o:=.tup [V.str "out",.str o1]) h4;have s5:=aB.new (o:=.tup [V.str "back",.int 0]) h5;have s6:=aB.new (o:=.tup [V.ref p3,.ref p4,.ref p5]) h6;have c4:=(s5.trans s6) _ _ (show upd H3 p4 (.tup [V.str "out",.str o1]) p4=_ from aI);have c5:=s6 _ _ (show upd _ p5 (.tup [V.str "back",.int 0]) p5=_ from aI);have c6:upd (upd (upd H3 p4 (.tup [V.str "out",.str o1])) p5 (.tup [V.str "back",.int 0])) p6 (.tup [V.ref p3,.ref p4,.ref p5]) p6=some (HO.tup [V.ref p3,.ref p4,.ref p5]):=aI;have s36:=(s4.trans s5).trans s6;generalize upd (upd (upd H3 p4 (.tup [V.str "out",.str o1])) p5 (.tup [V.str "back",.int 0])) p6 (.tup [V.ref p3,.ref p4,.ref p5])=H6 at c4 c5 c6 s36 ⊢;have s06:=s03.trans s36;refine#[_,rfl,ol,_,_,_,rfl,rfl,s06.seq hol,rfl,_,rfl,ul,_,rfl,.inl #[s06.seq hul,λp7 h7=>#[_,rfl,eI,λp8 h8=>?_]]];have s7:=aB.new (o:=.tup [V.str o0,.str o1]) h7;have s8:=aB.new (o:=.tup [V.str n1,.bl false,.ref p7,.ref p6]) h8;have s68:=s7.trans s8;have rc:=rY (K:=K) hw (aF.of ((s36.trans s68) _ _ c3)) ((s3.trans (s36.trans s68)).tup hq2) m0 hn0 hat hcl;have ro:=jl (K:=K) hw (.out (.str o1)) (.inl rfl) (aF.of (s68 _ _ c4)) (.inr #[o1,m1,rfl]);have rb:=jl (K:=K) hw (.back (.int 0)) (.inr (.inl rfl)) (aF.of (s68 _ _ c5)) (.inl #[0,rfl]);have all:∀x∈[(RG.call o0 n0 q2 as).rr p3,(RG.out (.str o1)).rr p4,(RG.back (.int 0)).rr p5],dI K _ [o0,o1] x:=λx hx=>by
     simp only[Io,JK,or_false] at hx;rcases hx with rfl|rfl|rfl
     . exact rc
     . exact ro
     . exact rb
   have wf:K13.Wf ([(RG.call o0 n0 q2 as).rr p3,(RG.out (.str o1)).rr p4,(RG.back (.int 0)).rr p5].map λx=>x.w.k):=((K13.good_nil.plain (x:="call") (by decide +kernel) (by decide +kernel) (by decide +kernel)).plain (x:="out") (by decide +kernel) (by decide +kernel) (by decide +kernel)).back;have hP:aF K _ p7 ([o0,o1].map V.str):=aF.of (s8 _ _ (show upd H6 p7 (.tup [V.str o0,.str o1]) p7=_ from aI));have fn:=uT [(RG.call o0 n0 q2 as).rr p3,(RG.out (.str o1)).rr p4,(RG.back (.int 0)).rr p5] (aF.of (show upd _ p8 (.tup [V.str n1,.bl false,.ref p7,.ref p6]) p8=_ from aI)) (aF.of (s68 _ _ c6)) (λx hx=>(all x hx).1.1) hP hw (by simp) (by simp) wf;refine q _ _ (s06.trans s68) fn rfl (sD hnd λd hd=>?_) (by show 0<3; decide) ?_
   . obtain⟨x,hx,rfl⟩:=J3.mp hd;exact(all x hx).2
   . exact bJ.tup (n:=5) fn.fn (.cons (.str hn1.2) (.cons .bl (.cons (bJ.tup (n:=4) hP (bp.of λv hv=>by obtain⟨s,hs,rfl⟩:=J3.mp hv; exact .str (hw s hs).2)) (.cons (bJ.tup (n:=4) (aF.of (s68 _ _ c6)) (.cons (rc.1.2.up (by decide)) (.cons (ro.1.2.up (by decide)) (.cons (rb.1.2.up (by decide)) .nil)))) .nil))))
theorem mN:FnScope ["_law_views","_law_found","_law_view_here"] ["_law_views"] (b6 qB):=by walk_at "s"
theorem D2 (T:Txt K mg t):FnOk P w K mg base CX0 1 t.xc t.yk ["_law_views"] (Fy K):=by
 refine T.zU.F.ok mN (λvs H Q E h=>?_) (λcdv A outer s H vs Q E hr h=>?_)
 . obtain⟨l,ws,Kn,rfl,hl,hw,hk,hK,q⟩:=h;rfl
 . obtain⟨l,ws,Kn,rfl,hl,hw,hk,hK,q⟩:=h;refine#[_,(aK (@al _ _ 1 _ _ _ _ mN.nd rfl (Or.inl rfl) (bu aE) (by rfl) (by walk_at "f")) (aK (cy PassesOwn.never rfl (gN (a9 0)) (bU (i:=2) mN.nd rfl (Or.inl rfl)) (@aN _ _ _ (@al _ _ 1 _ _ _ _ mN.nd rfl (Or.inl rfl) (@aM _ _ _ _ _ _ _ _ kG (a9 1) (a9 2)) (by rfl) (by walk_at "f")))) (@aN _ _ _ (@aV _ _ _ _ (a9 1))))),?_];have lw:=Rk2.Ps.len hw;refine#[dw,λl0 h0=>#[_,rfl,l,rfl,#[_,(aB.new h0).seq hl],(let Jv1:Nat->St->Hp->Prop:=λi σ H2=>∃v2 lf us ko,σ=[some (.ref l),some (.ref lf),v2]/\aB H H2/\H lf=none/\H2 lf=some (.lst us)/\Rk2.Ps (aZ H2) us ko/\ko.length<=20 * i/\dH ko; nt (xs:=ws) Jv1 #[_,l0,[],[],rfl,aB.new h0,h0,aI,trivial,J2 _,λo h=>by cases h] ?_ ?_ ?_)]]
   . rintro i σ H2 hi ⟨v2,lf,us,ko,rfl,s2,e0,e2,p2,l2,o2⟩;exact s2.seq hl
   . rintro i y σ H2 hy ⟨v2,lf,us,ko,rfl,s2,e0,e2,p2,l2,o2⟩;have iw:i<ws.length:=(Ic.mp hy).1;obtain⟨u,kn,a1,a2,b,vs,rfl,eb,pb⟩:=Rk2.Ps.at hw (n:=i) (by omega);rw[hy] at a1;cases a1;have hkn:=hk kn (Ij a2);have lu:=Rk2.Ps.len p2;have lv:=Rk2.Ps.len pb;refine#[_,rfl,_,rfl,lf,b,us,vs,rfl,rfl,e2,s2 _ _ eb,cb (by omega),λz hz=>?_];have s3:=aB.new (o:=.lst (us++vs)) hz;exact#[_,z,_,ko++kn,rfl,s2.trans s3,s2.free hz,aI,Rk2.Ps.app (Rk2.Ps.imp (λ_ _ y=>aZ.mono y s3) p2) (Rk2.Ps.imp (λ_ _ y=>aZ.mono y (s2.trans s3)) pb),(by rw[Il]; omega),o2.app hkn.1]
   . rintro σ H2 ⟨v2,lf,us,ko,rfl,s2,e0,e2,p2,l2,o2⟩;exact#[_,rfl,q lf us ko H2 s2 e0 e2 p2 #[by omega,o2]]
theorem Fx:FnScope ["_law_cell","_law_names_here"] ["_law_cell","_law_names_here"] (b6 nS):=by walk_at "s"
theorem Du (T:Txt K mg t):FnOk P w K mg base CX0 1 t.xY t.yg ["_law_cell","_law_names_here"] (Gb K):=by
 refine T.rJ.F.ok Fx (λvs H Q E h=>?_) (λcdv A outer s H vs Q E hr h=>?_)
 . obtain⟨c,nl,ws,rfl,hn,h0,q⟩:=h;rfl
 . obtain⟨c,nl,ws,rfl,hn,h0,q⟩:=h;refine#[_,(aK (aj (ae au (@aM _ _ _ _ _ _ _ _ (aU bH) (a9 0) aD) aD (aX _)) (@aN _ _ _ (@aV _ _ _ _ (@aM _ _ _ _ _ _ _ _ (aU bH) (@aM _ _ _ _ _ _ _ _ (aU bj) (a9 0) aD) (@aM _ _ _ _ _ _ _ _ (aU kL) aD aD)))) ai) (@aN _ _ _ (@aV _ _ _ _ (aG (show aH _ (af K) from ag) (a9 1) (@aM _ _ _ _ _ _ _ _ (aU bH) (@aM _ _ _ _ _ _ _ _ (aU bj) (a9 0) aD) (cR (show bt _ (.builtin "len") (cr K) from d9) (by rfl) T.b_len ci (aC (a9 1) aE rfl))) (λ_ _=>rfl))))),?_];refine#[_,rfl,_,_,rfl,rfl,(show(0:Int)<5 by decide),rfl,_,rfl,?_];by_cases h5:c%5=0
   . have b5:=dP (c / 5) ((2:Int) ^ (48:Int).toNat) Rk2.pos48;rw[Rk2.pw48] at b5;exact aP (IV (Iq V.int h5)) #[_,rfl,_,_,rfl,rfl,#[by decide,by decide],_,_,rfl,rfl,#[by decide,by decide,by decide],_,_,rfl,rfl,Rk2.pos48,q _ (.inl #[_,rfl,by rw[Rk2.pw48]; exact b5.1,by rw[Rk2.pw48]; exact b5.2])]
   . obtain⟨n,e1,e2,e3⟩:=uW h0 (c / 5);exact ak (λz=>h5 (V.int.inj (bD z))) #[_,rfl,_,rfl,_,_,rfl,rfl,#[by decide,by decide],_,rfl,nl,_,rfl,.inl hn,_,_,rfl,rfl,e1,nl,_,_,_,rfl,rfl,hn,e2,q _ (.inr #[n,e3,rfl])]
theorem ET:FnScope ["_law_atom_here","_law_names_here","_law_view_here"] ["_law_atom_here","_law_names_here","_law_view_here"] (b6 pJ):=by walk_at "s"
theorem we (T:Txt K mg t):FnOk P w K mg base CX0 1 t.xk t.yq ["_law_atom_here","_law_names_here","_law_view_here"] (BE K):=by
 refine T.l_of.F.ok ET (λvs H Q E h=>?_) (λcdv A outer s H vs Q E hr h=>?_)
 . obtain⟨a,nl,vl,ws,us,vw,o,rfl,ha,hn,hv,hu,hl,h1,ho,q⟩:=h;rfl
 . obtain⟨a,nl,vl,ws,us,vw,o,rfl,ha,hn,hv,hu,hl,h1,ho,q⟩:=h;refine#[_,(aK (aj (qh (cR lX (by rfl) T.b_isinstance mh (aC (a9 0) (aC (mK (v:=V.ty "str") rfl T.b_str nP rfl) aE rfl) rfl))) (@aN _ _ _ (@aV _ _ _ _ (aG (show aH _ (af K) from ag) (a9 2) (dg J5 Ka Kb qz (a9 1) (aC (a9 0) aE rfl)) (λ_ _=>rfl)))) ai) (@aN _ _ _ (@aV _ _ _ _ (aq (aC aS (aC (a9 0) aE rfl) rfl))))),?_];rcases ha with⟨z,rfl,z0,z1⟩|⟨n,hm,rfl⟩
   . cases ho;exact#[_,rfl,_,"str",_,false,rfl,.int _,rfl,_,rfl,j2 #[_,rfl,ay,λp hp=>q _ _ (aB.new hp) #[p,rfl,aI]]]
   . have hi:ws.idxOf n<vw.length:=by rw[hl]; exact KF hm
     obtain⟨u,o',a1,a2,a3⟩:=Rk2.Ps.at hu (n:=ws.idxOf n) hi;have:o=o':=by have e:=oX (vw:=vw) rfl hm a2;exact Option.some.inj (ho.symm.trans e)
     subst this;have kx:=nU hm h1;exact#[_,rfl,_,"str",_,true,rfl,.str _,rfl,_,rfl,nR #[_,rfl,_,rfl,.inl #[rfl,_,hn],_,rfl,nl,_,_,ws.idxOf n,rfl,rfl,hn,kx.1,kx.2.1,kx.2.2.1,kx.2.2.2.1,kx.2.2.2.2,vl,_,_,_,rfl,rfl,hv,c7 a1,q u H (aB.refl _) a3]]
theorem mO:FnScope ["_law_cells","_law_names_here","_law_words","_law_one","_law_other","_law_word"] ["_law_cells","_law_names_here","_law_words"] (b6 kY):=by walk_at "s"
theorem AG (T:Txt K mg t):FnOk P w K mg base CX0 2 t.xm t.yt ["_law_cells","_law_names_here","_law_words"] (Aj K):=by
 have Qr:=Du (P:=P) (w:=w) (base:=base) T;refine T.zd.F.ok mO (λvs H Q E h=>?_) (λcdv A outer s H vs Q E hr h=>?_)
 . obtain⟨cl,nl,wl,c0,c1,cs,ws,w0,w1,wt,rfl,hc,hn,hw,h0,hN,n0,n1,q⟩:=h;rfl
 . skip
   refine lx ?_;intro XX;refine(let W4:TS:=_; have hW4:bQ XX ((bP kY).drop 4) W4:=(aK (aj (ae au (@aM _ _ _ _ _ _ _ _ (aU bH) (aG (show aH _ (af K) from ag) (a9 0) aD (λ_ _=>rfl)) aD) aD (aX _)) (@aN _ _ _ (@aV _ _ _ _ (aq (aC aS (aC (aG (show aH _ (af K) from ag) (a9 1) (@aM _ _ _ _ _ _ _ _ (aU bH) (aG (show aH _ (af K) from ag) (a9 0) aD (λ_ _=>rfl)) (cR (show bt _ (.builtin "len") (cr K) from d9) (by rfl) T.b_len ci (aC (a9 1) aE rfl))) (λ_ _=>rfl)) aE rfl) rfl)))) ai) (aK (aj (ae au (@aM _ _ _ _ _ _ _ _ (aU bH) (aG (show aH _ (af K) from ag) (a9 0) aD (λ_ _=>rfl)) aD) aD (aX _)) (@aN _ _ _ (@aV _ _ _ _ (aq (aC aS (aC (a9 3) (aC (a9 5) (aC (a9 4) aE rfl) rfl) rfl) rfl)))) ai) (@aN _ _ _ (@aV _ _ _ _ (aq (aC aS (aC (a9 3) aE rfl) rfl)))))); ?_);refine(let W3:TS:=_; have hW3:bQ XX ((bP kY).drop 3) W3:=(aK (aj (ae au (@aM _ _ _ _ _ _ _ _ (aU bH) (aG (show aH _ (af K) from ag) (a9 0) aD (λ_ _=>rfl)) aD) aD (aX _)) (@aN _ _ _ (@aV _ _ _ _ (aq (aC aS (aC (aG (show aH _ (af K) from ag) (a9 1) (@aM _ _ _ _ _ _ _ _ (aU bH) (aG (show aH _ (af K) from ag) (a9 0) aD (λ_ _=>rfl)) (cR (show bt _ (.builtin "len") (cr K) from d9) (by rfl) T.b_len ci (aC (a9 1) aE rfl))) (λ_ _=>rfl)) (aC (a9 3) (aC (a9 5) aE rfl) rfl) rfl) rfl)))) ai) hW4); ?_);obtain⟨cl,nl,wl,c0,c1,cs,ws,w0,w1,wt,rfl,hc,hn,hw,h0,hN,n0,n1,q⟩:=h;refine#[_,(aK (@al _ _ 3 _ _ _ _ mO.nd rfl (Or.inl rfl) (bG T.rJ Qr (hr.mono (by decide)) (aC (@aM _ _ _ _ _ _ _ _ (aU bj) (aG (show aH _ (af K) from ag) (a9 0) aD (λ_ _=>rfl)) aD) (aC (a9 1) aE rfl) rfl)) (by rfl) (by walk_at "f")) (aK (@al _ _ 4 _ _ _ _ mO.nd rfl (Or.inl rfl) (bG T.rJ Qr (hr.mono (by decide)) (aC (aG (show aH _ (af K) from ag) (a9 0) aD (λ_ _=>rfl)) (aC (a9 1) aE rfl) rfl)) (by rfl) (by walk_at "f")) (aK (@al _ _ 5 _ _ _ _ mO.nd rfl (Or.inl rfl) (aG (show aH _ (af K) from ag) (a9 2) (@aM _ _ _ _ _ _ _ _ (aU bH) (@aM _ _ _ _ _ _ _ _ (aU bj) (aG (show aH _ (af K) from ag) (a9 0) aD (λ_ _=>rfl)) aD) aD) (λ_ _=>rfl)) (by rfl) (by walk_at "f")) hW3))),?_];have i1:bI ((c0 :: c1 :: cs).map V.int) 1=some (.int c1):=c7 (j:=1) rfl;refine#[_,rfl,cl,_,_,_,rfl,rfl,hc,at0,_,_,rfl,rfl,#[by decide,by decide],_,rfl,_,nl,ws,rfl,hn,h0,λone h1=>#[_,rfl,cl,_,_,_,rfl,rfl,hc,i1,_,rfl,_,nl,ws,rfl,hn,h0,λother h2=>?_]];obtain⟨wd,ew,mw⟩:∃wd,bI (V.str w0 :: .str w1 :: wt) (c0 / 4%2)=some (.str wd)/\wd∈[w0,w1]:=by
     have h:=dP (c0 / 4) 2 (by decide);rcases (by omega:c0 / 4%2=0\/c0 / 4%2=1) with e|e <;> rw[e]
     . exact#[w0,at0,Ii]
     . exact#[w1,c7 (j:=1) rfl,Im _ Ii]
   have nw_:K12.Nm wd:=by
     rcases Io.mp mw with rfl|mw
     . exact n0
     . cases Ik.mp mw; exact n1
   obtain⟨n,e1,e2,e3⟩:=uW h0 c1;refine#[_,rfl,_,rfl,cl,_,_,_,rfl,rfl,hc,at0,_,_,rfl,rfl,#[by decide,by decide],_,_,rfl,rfl,(show(0:Int)<2 by decide),wl,_,_,_,rfl,rfl,hw,ew,?_];refine#[_,rfl,cl,_,_,_,rfl,rfl,hc,at0,_,_,rfl,rfl,(show(0:Int)<4 by decide),rfl,_,rfl,?_];by_cases a0:c0%4=0
   . exact aP (IV (Iq V.int a0)) #[_,rfl,_,rfl,cl,_,_,_,rfl,rfl,hc,i1,_,rfl,nl,_,rfl,.inl hn,_,_,rfl,rfl,e1,nl,_,_,_,rfl,rfl,hn,e2,_,rfl,_,rfl,eI,λp hp=>q p (.get n one wd) _ (aB.new hp) hp (aF.of aI) #[e3,h1,mw] (GL hN (aF.of aI) e3 nw_ h1.i)]
   refine ak (λz=>a0 (V.int.inj (bD z))) #[_,rfl,cl,_,_,_,rfl,rfl,hc,at0,_,_,rfl,rfl,(show(0:Int)<4 by decide),rfl,_,rfl,?_];by_cases a1:c0%4=1
   . exact aP (IV (Iq V.int a1)) #[_,rfl,_,rfl,cl,_,_,_,rfl,rfl,hc,i1,_,rfl,nl,_,rfl,.inl hn,_,_,rfl,rfl,e1,nl,_,_,_,rfl,rfl,hn,e2,ay,λp hp=>q p (.new n) _ (aB.new hp) hp (aF.of aI) e3 (Az hN (aF.of aI) e3)]
   refine ak (λz=>a1 (V.int.inj (bD z))) #[_,rfl,cl,_,_,_,rfl,rfl,hc,at0,_,_,rfl,rfl,(show(0:Int)<4 by decide),rfl,_,rfl,?_];by_cases a2:c0%4=2
   . exact aP (IV (Iq V.int a2)) #[_,rfl,_,rfl,_,rfl,eI,λp hp=>q p (.put one wd other) _ (aB.new hp) hp (aF.of aI) #[h1,mw,h2] (FC hN (aF.of aI) nw_ h1.i h2.i)]
   exact ak (λz=>a2 (V.int.inj (bD z))) #[_,rfl,ay,λp hp=>q p (.out one) _ (aB.new hp) hp (aF.of aI) h1 (jl hN (.out one) (.inl rfl) (aF.of aI) h1.i)]
theorem tH:FnScope ["_law_atom_here","_law_names_here","_law_view_here","_law_cell","_law_boxes","_law_one"] ["_law_atom_here","_law_names_here","_law_view_here","_law_cell","_law_boxes"] (b6 pX):=by walk_at "s"
theorem Hx (T:Txt K mg t):FnOk P w K mg base CX0 2 t.xp t.yx ["_law_atom_here","_law_names_here","_law_view_here","_law_cell","_law_boxes"] (EM K):=by
 have Qf:=we (P:=P) (w:=w) (base:=base) T;have Qa:=ll (P:=P) (w:=w) (base:=base) T;have Qo:=u6 (P:=P) (w:=w) (base:=base) T;refine T.nL.F.ok tH (λvs H Q E h=>?_) (λcdv A outer s H vs Q E hr h=>?_)
 . obtain⟨a,nl,vl,bl,c,ws,us,vw,bs,rfl,ha,hn,hv,hu,hl,h1,h9,hno,hB,hbs,q⟩:=h;rfl
 . obtain⟨a,nl,vl,bl,c,ws,us,vw,bs,rfl,ha,hn,hv,hu,hl,h1,h9,hno,hB,hbs,q⟩:=h;refine#[_,(aK (@al _ _ 5 _ _ _ _ tH.nd rfl (Or.inl rfl) (bG T.l_of Qf (hr.mono (by decide)) (aC (a9 0) (aC (a9 1) (aC (a9 2) aE rfl) rfl) rfl)) (by rfl) (by walk_at "f")) (aK (aj (@PW.pt _ _ _ (kU (fJ (oH (a9 5))) (jx (ae au (@aM _ _ _ _ _ _ _ _ (aU bH) (a9 3) aD) aD (aX _))))) (@aN _ _ _ (@aV _ _ _ _ (bG T.kr Qa (hr.mono (by decide)) (aC (@aM _ _ _ _ _ _ _ _ (aU bj) (a9 3) aD) (aC (a9 4) aE rfl) rfl)))) ai) (aK (aj (ae au (@aM _ _ _ _ _ _ _ _ (aU bH) (a9 3) aD) aD (aX _)) (@aN _ _ _ (@aV _ _ _ _ (bG T.rK Qo (hr.mono (by decide)) (aC (a9 5) aE rfl)))) ai) (@aN _ _ _ (@aV _ _ _ _ (a9 5)))))),?_];obtain⟨o,ho,k9,hN⟩:=jV ha hl h9 hno;refine#[_,rfl,_,rfl,_,rfl,a,nl,vl,ws,us,vw,o,rfl,ha,hn,hv,hu,hl,h1,ho,λv H1 s1 r1=>?_];cases o with
   | none =>
     cases r1;exact#[_,rfl,_,rfl,aP rfl (aP rfl #[_,rfl,_,_,rfl,rfl,#[by decide,by decide],_,rfl,_,bl,bs,rfl,s1.seq hB,hbs,λt2 v2 H2 s2 r2 k2=>q t2 v2 H2 (s1.trans s2) #[r2,St.TOk.tr k2,j4 k2]])]
   | some tr =>
     refine#[_,rfl,_,rfl,ak (by obtain⟨p,rfl⟩:=gJ r1; exact λz=>by cases bD z) #[_,rfl,_,_,rfl,rfl,(show(0:Int)<16 by decide),rfl,_,rfl,?_]];by_cases a0:c%16=0
     . exact aP (IV (Iq V.int a0)) #[_,rfl,_,_,rfl,rfl,#[by decide,by decide],_,rfl,_,bl,bs,rfl,s1.seq hB,hbs,λt2 v2 H2 s2 r2 k2=>q t2 v2 H2 (s1.trans s2) #[r2,St.TOk.tr k2,j4 k2]]
     refine ak (λz=>a0 (V.int.inj (bD z))) #[_,rfl,_,_,rfl,rfl,(show(0:Int)<16 by decide),rfl,_,rfl,?_];by_cases a3:c%16=3
     . refine aP (IV (Iq V.int a3)) #[_,rfl,some tr,v,rfl,r1,.of (k9 tr rfl).ok,hN,λo' v' H2 s2 r2 k2 n2 _ m2=>?_];obtain⟨u,rfl⟩:=m2 tr rfl;exact q u v' H2 (s1.trans s2) #[r2,k2 _ rfl,n2 _ rfl]
     . exact ak (λz=>a3 (V.int.inj (bD z))) #[_,rfl,q tr v H1 s1 #[r1,(k9 tr rfl).ok,hN tr rfl]]
theorem jC:FnScope ["_law_row_here","_law_cells","_law_names_here","_law_view_here","_law_boxes","_law_words","_law_on","_law_box","_law_word","_law_one"] ["_law_row_here","_law_cells","_law_names_here","_law_view_here","_law_boxes","_law_words","_law_on"] (b6 iT):=by walk_at "s"
theorem D9 (T:Txt K mg t):FnOk P w K mg base CX0 3 t.xW t.ye ["_law_row_here","_law_cells","_law_names_here","_law_view_here","_law_boxes","_law_words","_law_on"] (Hh K):=by
 have Qp:=Hx (P:=P) (w:=w) (base:=base) T;refine T.zP.F.ok jC (λvs H Q E h=>?_) (λcdv A outer s H vs Q E hr h=>?_)
 . obtain⟨r,cl,nl,vl,bl,wl,on,rg,c0,c1,c2,c3,ws,us,vw,bs,w0,w1,wt,rfl,hr_,hrg,hc,hn,hv,hu,hl,h20,h9,hno,hB,hbs,h8,hw,n0,n1,q⟩:=h;rfl
 . skip
   refine lx ?_;intro XX;refine(let W8:TS:=_; have hW8:bQ XX ((bP iT).drop 8) W8:=(aK (aj (ae au (aG (show aH _ (aQ K) from aR) (a9 0) aD (λ_ _=>rfl)) aS (aX _)) (@aN _ _ _ (@aV _ _ _ _ (aq (aC aS (aC (a9 9) (aC (a9 6) aE rfl) rfl) rfl)))) ai) (@aN _ _ _ (@aV _ _ _ _ (aq (aC aS (aC (a9 9) (aC (a9 8) (aC (bG T.nL Qp (hr.mono (by decide)) (aC (aG (show aH _ (aQ K) from aR) (a9 0) aD (λ_ _=>rfl)) (aC (a9 2) (aC (a9 3) (aC (aG (show aH _ (af K) from ag) (a9 1) aD (λ_ _=>rfl)) (aC (a9 4) aE rfl) rfl) rfl) rfl) rfl)) (aC (a9 6) aE rfl) rfl) rfl) rfl) rfl))))); ?_);refine(let W6:TS:=_; have hW6:bQ XX ((bP iT).drop 6) W6:=(aK (aj (ae au (aG (show aH _ (aQ K) from aR) (a9 0) aD (λ_ _=>rfl)) aS (aX _)) (@aN _ _ _ (@aV _ _ _ _ (aq (aC aS (aC (a9 7) (aC (a9 6) aE rfl) rfl) rfl)))) ai) (aK (@al _ _ 9 _ _ _ _ jC.nd rfl (Or.inl rfl) (bG T.nL Qp (hr.mono (by decide)) (aC (aG (show aH _ (aQ K) from aR) (a9 0) aD (λ_ _=>rfl)) (aC (a9 2) (aC (a9 3) (aC (aG (show aH _ (af K) from ag) (a9 1) aD (λ_ _=>rfl)) (aC (a9 4) aE rfl) rfl) rfl) rfl) rfl)) (by rfl) (by walk_at "f")) hW8)); ?_);refine(let W4:TS:=_; have hW4:bQ XX ((bP iT).drop 4) W4:=(aK (aj (ae au (@aM _ _ _ _ _ _ _ _ (aU bH) (aG (show aH _ (af K) from ag) (a9 1) aD (λ_ _=>rfl)) aD) aD (aX _)) (@aN _ _ _ (@aV _ _ _ _ (aG (show aH _ (af K) from ag) (bu (aC (aq (aC aS (aC (a9 6) aE rfl) rfl)) (aC (aq (aC aS (aC (aq (aC aS (aC aD aE rfl) rfl)) (aC (a9 6) aE rfl) rfl) rfl)) (aC (aq (aC aS (aC (a9 7) (aC (a9 6) aE rfl) rfl) rfl)) aE rfl) rfl) rfl)) (@aM _ _ _ _ _ _ _ _ (aU bH) (@aM _ _ _ _ _ _ _ _ (aU bj) (aG (show aH _ (af K) from ag) (a9 1) aD (λ_ _=>rfl)) aD) aD) (λ_ _=>rfl)))) ai) (aK (aj (ae au (aG (show aH _ (aQ K) from aR) (a9 0) aD (λ_ _=>rfl)) aS (aX _)) (aK (aj (ae au (@aM _ _ _ _ _ _ _ _ (aU bH) (aG (show aH _ (af K) from ag) (a9 1) aD (λ_ _=>rfl)) aD) aD (aX _)) (@aN _ _ _ (@aV _ _ _ _ (aq (aC aS (aC (a9 6) aE rfl) rfl)))) ai) (@aN _ _ _ (@aV _ _ _ _ (aq (aC aS (aC (bG T.nL Qp (hr.mono (by decide)) (aC (aG (show aH _ (aQ K) from aR) (a9 0) aD (λ_ _=>rfl)) (aC (a9 2) (aC (a9 3) (aC (aG (show aH _ (af K) from ag) (a9 1) aD (λ_ _=>rfl)) (aC (a9 4) aE rfl) rfl) rfl) rfl) rfl)) (aC (a9 8) (aC (a9 7) (aC (a9 6) aE rfl) rfl) rfl) rfl) rfl))))) ai) hW6)); ?_);refine(let W2:TS:=_; have hW2:bQ XX ((bP iT).drop 2) W2:=(cx (aj (ae au (aG (show aH _ (aQ K) from aR) (a9 0) aD (λ_ _=>rfl)) aS (aX _)) (@aN _ _ _ (@al _ _ 8 _ _ _ _ jC.nd rfl (Or.inl rfl) (aG (show aH _ (af K) from ag) (a9 5) (ce iO (by rfl) T.b_int iG (aC (dS au (aG (show aH _ (aQ K) from aR) (a9 0) aD (λ_ _=>rfl)) (aG (show aH _ (af K) from ag) (a9 5) aD (λ_ _=>rfl)) (aX _)) aE rfl)) (λ_ _=>rfl)) (by rfl) (by walk_at "f"))) ai) (cx (aj (ae au (@aM _ _ _ _ _ _ _ _ (aU bH) (aG (show aH _ (af K) from ag) (a9 1) aD (λ_ _=>rfl)) aD) aD (aX _)) (@aN _ _ _ (@al _ _ 8 _ _ _ _ jC.nd rfl (Or.inl rfl) (aG (show aH _ (af K) from ag) (a9 5) (ce iO (by rfl) T.b_int iG (aC (dS au (a9 8) (aG (show aH _ (af K) from ag) (a9 5) aD (λ_ _=>rfl)) (aX _)) aE rfl)) (λ_ _=>rfl)) (by rfl) (by walk_at "f"))) ai) hW4)); ?_);obtain⟨r,cl,nl,vl,bl,wl,on,rg,c0,c1,c2,c3,ws,us,vw,bs,w0,w1,wt,rfl,hr_,hrg,hc,hn,hv,hu,hl,h20,h9,hno,hB,hbs,h8,hw,n0,n1,q⟩:=h;refine#[_,(aK (@al _ _ 7 _ _ _ _ jC.nd rfl (Or.inl rfl) (aG (show aH _ (af K) from ag) (bu (aC (aG (show aH _ (af K) from ag) (a9 4) (@aM _ _ _ _ _ _ _ _ (aU bH) (@aM _ _ _ _ _ _ _ _ (aU bj) (aG (show aH _ (af K) from ag) (a9 1) aD (λ_ _=>rfl)) aD) aD) (λ_ _=>rfl)) (aC (aG (show aH _ (af K) from ag) (a9 4) (@aM _ _ _ _ _ _ _ _ (aU bH) (@aM _ _ _ _ _ _ _ _ (aU bj) (aG (show aH _ (af K) from ag) (a9 1) aD (λ_ _=>rfl)) aD) aD) (λ_ _=>rfl)) (aC eK aE rfl) rfl) rfl)) (@aM _ _ _ _ _ _ _ _ (aU bH) (aG (show aH _ (af K) from ag) (a9 1) aD (λ_ _=>rfl)) aD) (λ_ _=>rfl)) (by rfl) (by walk_at "f")) (aK (@al _ _ 8 _ _ _ _ jC.nd rfl (Or.inl rfl) (aG (show aH _ (af K) from ag) (a9 5) (ce iO (by rfl) T.b_int iG (aC (dS au (aG (show aH _ (aQ K) from aR) (a9 0) (cp cn aD) (λ_ _=>rfl)) (aG (show aH _ (af K) from ag) (a9 5) aD (λ_ _=>rfl)) (aX _)) aE rfl)) (λ_ _=>rfl)) (by rfl) (by walk_at "f")) hW2)),?_];obtain⟨b,_,eb,b0,b1⟩:=m5 hbs (c0 / 3);rw[IX,h8] at eb;have eb:bI (bs.map V.int) (c0 / 3%8)=some (.int b):=eb;have m3:∀z:Int,z%3=0\/z%3=1\/z%3=2:=λz=>by have:=dP z 3 (by decide); omega
   obtain⟨bv,e3,fb,hb⟩:∃bv,bI [V.int b,.int b,.non] (c0%3)=some bv/\∃fb,Bv bv fb:=by
     rcases m3 c0 with h|h|h <;> rw[h]
     . exact#[_,rfl,_,.inr #[b,rfl,rfl,by omega]]
     . exact#[_,rfl,_,.inr #[b,rfl,rfl,by omega]]
     . exact#[_,rfl,_,.inl #[rfl,rfl]]
   have i1:bI (V.str w0 :: .str w1 :: wt) 1=some (.str w1):=c7 (j:=1) rfl;have wat:∀k:Bool,∃wd,bI (V.str w0 :: .str w1 :: wt) (if k=true then 1 else 0)=some (.str wd)/\K12.Nm wd:=λk=>by
     cases k
     . exact#[w0,at0,n0]
     . exact#[w1,i1,n1]
   have sca:∀x,fG ws x->lY x (.str w1)=true:=λx h=>by rcases h with⟨z,rfl,_⟩|⟨n,_,rfl⟩ <;> rfl
   obtain⟨x,ex,sx⟩:∃x,bI rg.items (-1)=some x/\lY x (.str w1)=true:=by
     cases rg with
     | get _ _ _=>exact#[_,rfl,rfl]
     | new _=>exact#[_,rfl,rfl]
     | put _ _ _=>exact#[_,rfl,sca _ hrg.2.2]
     | out _=>exact#[_,rfl,sca _ hrg]
     | _=>exact hrg.elim
   refine#[_,rfl,_,rfl,cl,_,_,_,rfl,rfl,hc,at0,_,_,rfl,rfl,#[by decide,by decide],_,_,rfl,rfl,(show(0:Int)<8 by decide),bl,_,_,_,rfl,rfl,hB,eb,_,rfl,_,rfl,cl,_,_,_,rfl,rfl,hc,at0,_,_,rfl,rfl,#[by decide,by decide],_,_,rfl,rfl,(show(0:Int)<8 by decide),bl,_,_,_,rfl,rfl,hB,eb,cV,λp1 h1=>?_];have s1:=aB.new (o:=.lst [V.int b,.int b,.non]) h1;have e1:upd H p1 (.lst [V.int b,.int b,.non]) p1=_:=aI;generalize upd H p1 (.lst [V.int b,.int b,.non])=H1 at s1 e1 ⊢;refine#[_,rfl,cl,_,_,_,rfl,rfl,s1.seq hc,at0,_,_,rfl,rfl,(show(0:Int)<3 by decide),p1,_,_,_,rfl,rfl,aJ.of e1,e3,?_];refine#[_,rfl,_,rfl,_,rfl,r,_,_,_,rfl,rfl,s1.tup hr_,ex,_,rfl,wl,_,_,_,rfl,rfl,s1.seq hw,i1,sx,.inr #[_,rfl,wl,_,_,_,rfl,rfl,s1.seq hw,(wat _).choose_spec.1,?_]];refine#[λσ' G=>∃wd v9,σ'=[some (.ref r),some (.ref cl),some (.ref nl),some (.ref vl),some (.ref bl),some (.ref wl),some (.int (on:Int)),some bv,some (.str wd),v9]/\K12.Nm wd/\H1=G,?_,?_]
   . cases rg with
     | put a_ w_ b_=>exact#[_,rfl,r,_,_,_,rfl,rfl,s1.tup hr_,at0,rfl,_,rfl,aP (IV rfl) #[_,rfl,_,rfl,r,_,_,_,rfl,rfl,s1.tup hr_,rfl,_,rfl,wl,_,_,_,rfl,rfl,s1.seq hw,i1,rfl,.inr #[_,rfl,wl,_,_,_,rfl,rfl,s1.seq hw,(wat _).choose_spec.1,#[_,_,rfl,(wat _).choose_spec.2,rfl]]]]
     | get _ _ _=>exact#[_,rfl,r,_,_,_,rfl,rfl,s1.tup hr_,at0,rfl,_,rfl,iN #[_,_,rfl,(wat _).choose_spec.2,rfl]]
     | new _=>exact#[_,rfl,r,_,_,_,rfl,rfl,s1.tup hr_,at0,rfl,_,rfl,iN #[_,_,rfl,(wat _).choose_spec.2,rfl]]
     | out _=>exact#[_,rfl,r,_,_,_,rfl,rfl,s1.tup hr_,at0,rfl,_,rfl,iN #[_,_,rfl,(wat _).choose_spec.2,rfl]]
     | _=>exact hrg.elim
   rintro σ' G ⟨wd,v9,rfl,hwd,rfl⟩;refine#[λσ' G=>∃wd v9,σ'=[some (.ref r),some (.ref cl),some (.ref nl),some (.ref vl),some (.ref bl),some (.ref wl),some (.int (on:Int)),some bv,some (.str wd),v9]/\K12.Nm wd/\H1=G,?_,?_]
   . refine#[_,rfl,cl,_,_,_,rfl,rfl,s1.seq hc,rfl,_,_,rfl,rfl,(show(0:Int)<16 by decide),rfl,_,rfl,?_];by_cases a1:c1%16=1
     . exact aP (IV (Iq V.int a1)) #[_,rfl,_,rfl,_,rfl,wl,_,_,_,rfl,rfl,s1.seq hw,at0,rfl,.inr #[_,rfl,wl,_,_,_,rfl,rfl,s1.seq hw,(wat _).choose_spec.1,#[_,_,rfl,(wat _).choose_spec.2,rfl]]]
     . exact ak (λz=>a1 (V.int.inj (bD z))) #[_,_,rfl,hwd,rfl]
   clear hwd wd v9 ex sx x;rintro σ' G ⟨wd,v9,rfl,hwd,rfl⟩;refine#[_,rfl,cl,_,_,_,rfl,rfl,s1.seq hc,rfl,_,_,rfl,rfl,(show(0:Int)<16 by decide),rfl,_,rfl,?_];by_cases a2:c1%16=2
   . refine aP (IV (Iq V.int a2)) #[_,rfl,ay,λp2 h2=>#[ay,λp3 h3=>#[_,rfl,cV,λp4 h4=>#[_,rfl,_,rfl,cV,λp5 h5=>#[cV,λp6 h6=>?_]]]]];have s2:=aB.new (o:=.tup [V.str "go",.int (on:Int)]) h2;have s3:=aB.new (o:=.tup [V.str "num",.int 1]) h3;have s4:=aB.new (o:=.tup [V.str "out",.ref p3,.int (on:Int)]) h4;have s5:=aB.new (o:=.tup [V.str "new",bv,.int (on:Int)]) h5;have s6:=aB.new (o:=.lst [V.ref p2,.ref p4,.ref p5]) h6;have t4:=s4.trans (s5.trans s6);have t:=s2.trans (s3.trans t4);rcases m3 (c1 / 16) with h|h|h
     . exact#[_,rfl,cl,_,_,_,rfl,rfl,(s1.trans t).seq hc,rfl,_,_,rfl,rfl,#[by decide,by decide],_,_,rfl,rfl,(show(0:Int)<3 by decide),p6,_,_,_,rfl,rfl,aJ.of aI,(show bI [V.ref p2,.ref p4,.ref p5] (c1 / 16%3)=some (.ref p2) by rw[h]; rfl),q p2 _ _ _ (s1.trans t) (aF.of ((s3.trans t4) _ _ aI)) .go]
     . exact#[_,rfl,cl,_,_,_,rfl,rfl,(s1.trans t).seq hc,rfl,_,_,rfl,rfl,#[by decide,by decide],_,_,rfl,rfl,(show(0:Int)<3 by decide),p6,_,_,_,rfl,rfl,aJ.of aI,(show bI [V.ref p2,.ref p4,.ref p5] (c1 / 16%3)=some (.ref p4) by rw[h]; rfl),q p4 _ _ _ (s1.trans t) (aF.of ((s5.trans s6) _ _ aI)) (.out (t:=.num 1) #[#[p3,rfl,t4 _ _ aI],(St.Tr9.num (by decide) (by decide)).ok,trivial])]
     . exact#[_,rfl,cl,_,_,_,rfl,rfl,(s1.trans t).seq hc,rfl,_,_,rfl,rfl,#[by decide,by decide],_,_,rfl,rfl,(show(0:Int)<3 by decide),p6,_,_,_,rfl,rfl,aJ.of aI,(show bI [V.ref p2,.ref p4,.ref p5] (c1 / 16%3)=some (.ref p5) by rw[h]; rfl),q p5 _ _ _ (s1.trans t) (aF.of (s6 _ _ aI)) (.new hb)]
   refine ak (λz=>a2 (V.int.inj (bD z))) ?_;cases rg with
   | get y a_ w_ =>
     refine#[_,rfl,r,_,_,_,rfl,rfl,s1.tup hr_,at0,rfl,_,rfl,aP (IV rfl) #[_,rfl,cl,_,_,_,rfl,rfl,s1.seq hc,rfl,_,_,rfl,rfl,(show(0:Int)<4 by decide),rfl,_,rfl,?_]];by_cases a3:c1%4=3
     . exact aP (IV (Iq V.int a3)) #[_,rfl,ay,λp2 h2=>q p2 _ _ _ (s1.trans (aB.new h2)) (aF.of aI) .go]
     refine ak (λz=>a3 (V.int.inj (bD z))) #[_,rfl,r,_,_,_,rfl,rfl,(s1).tup hr_,rfl,_,rfl,_,rfl,_,rfl,cl,_,_,_,rfl,rfl,(s1).seq hc,rfl,_,rfl,a_,nl,vl,bl,c2,ws,us,vw,bs,rfl,hrg.2.1,(s1).seq hn,(s1).seq hv,Rk2.Ps.imp (λ_ _ z=>aZ.mono z (s1)) hu,hl,by omega,h9,hno,(s1).seq hB,hbs, λtr v G sG r2=>#[_,rfl,_,rfl,_,rfl,oF,λp2 h2=>?_]];have sn:=aB.new (o:=.tup [V.str "get",v,.str wd,bv,.int (on:Int)]) h2;exact q p2 _ _ _ ((s1.trans sG).trans sn) (aF.of aI) (.get (r2.mono sn) hwd hb)
   | new y =>
     exact#[_,rfl,r,_,_,_,rfl,rfl,s1.tup hr_,at0,rfl,_,rfl,iN #[_,rfl,r,_,_,_,rfl,rfl,s1.tup hr_,at0,rfl,_,rfl,aP (IV rfl) #[_,rfl,_,rfl,cV,λp2 h2=>q p2 _ _ _ (s1.trans (aB.new h2)) (aF.of aI) (.new hb)]]]
   | out a_ =>
     refine#[_,rfl,r,_,_,_,rfl,rfl,s1.tup hr_,at0,rfl,_,rfl,iN #[_,rfl,r,_,_,_,rfl,rfl,s1.tup hr_,at0,rfl,_,rfl,iN #[_,rfl,r,_,_,_,rfl,rfl,(s1).tup hr_,rfl,_,rfl,_,rfl,_,rfl,cl,_,_,_,rfl,rfl,(s1).seq hc,rfl,_,rfl,a_,nl,vl,bl,c2,ws,us,vw,bs,rfl,hrg,(s1).seq hn,(s1).seq hv,Rk2.Ps.imp (λ_ _ z=>aZ.mono z (s1)) hu,hl,by omega,h9,hno,(s1).seq hB,hbs, λtr v G sG r2=>?_]]];refine#[_,rfl,r,_,_,_,rfl,rfl,(s1.trans sG).tup hr_,at0,rfl,_,rfl,aP (IV rfl) #[_,rfl,_,rfl,cV,λp2 h2=>?_]];exact q p2 _ _ _ ((s1.trans sG).trans (aB.new h2)) (aF.of aI) (.out (r2.mono (aB.new h2)))
   | put a_ w_ b_ =>
     refine#[_,rfl,r,_,_,_,rfl,rfl,s1.tup hr_,at0,rfl,_,rfl,iN #[_,rfl,r,_,_,_,rfl,rfl,s1.tup hr_,at0,rfl,_,rfl,iN #[_,rfl,r,_,_,_,rfl,rfl,(s1).tup hr_,rfl,_,rfl,_,rfl,_,rfl,cl,_,_,_,rfl,rfl,(s1).seq hc,rfl,_,rfl,a_,nl,vl,bl,c2,ws,us,vw,bs,rfl,hrg.1,(s1).seq hn,(s1).seq hv,Rk2.Ps.imp (λ_ _ z=>aZ.mono z (s1)) hu,hl,by omega,h9,hno,(s1).seq hB,hbs, λtr v G sG r2=>?_]]];refine#[_,rfl,r,_,_,_,rfl,rfl,(s1.trans sG).tup hr_,at0,rfl,_,rfl,iN #[_,rfl,_,rfl,_,rfl,r,_,_,_,rfl,rfl,(s1.trans sG).tup hr_,rfl,_,rfl,_,rfl,_,rfl,cl,_,_,_,rfl,rfl,(s1.trans sG).seq hc,rfl,_,rfl,b_,nl,vl,bl,c3,ws,us,vw,bs,rfl,hrg.2.2,(s1.trans sG).seq hn,(s1.trans sG).seq hv,Rk2.Ps.imp (λ_ _ z=>aZ.mono z (s1.trans sG)) hu,hl,by omega,h9,hno,(s1.trans sG).seq hB,hbs, λtr' v' G' sG' r3=>#[_,rfl,oF,λp2 h2=>?_]]];have sn:=aB.new (o:=.tup [V.str "put",v,.str wd,v',.int (on:Int)]) h2;exact q p2 _ _ _ (((s1.trans sG).trans sG').trans sn) (aF.of aI) (.put (r2.mono (sG'.trans sn)) hwd (r3.mono sn))
   | _=>exact hrg.elim
theorem vF:FnScope ["_law_row_here","_law_act_here","_law_names_here","_law_view_here","_law_known_here"] ["_law_row_here","_law_act_here","_law_names_here","_law_view_here"] (b6 jS):=by walk_at "s"
theorem Hb (T:Txt K mg t):FnOk P w K mg base CX0 1 t.xg t.ym ["_law_row_here","_law_act_here","_law_names_here","_law_view_here"] (Ae K):=by
 refine T.zW.F.ok vF (λvs H Q E h=>?_) (λcdv A outer s H vs Q E hr h=>?_)
 . obtain⟨r,a,nl,vl,rg,kd,as,ws,fw,us,vw,rfl,hr_,hrg,ha,hn,hv,hu,hl,h20,q⟩:=h;rfl
 . skip
   refine lx ?_;intro XX;refine(let W2:TS:=_; have hW2:bQ XX ((bP jS).drop 2) W2:=(aK (aj (@PW.pt _ _ _ (dN (ae fm (aG (show aH _ (aQ K) from aR) (a9 0) aD (λ_ _=>rfl)) (aq (aC aS (aC aS aE rfl) rfl)) (by with_unfolding_all rfl)) (dW (ae au (aG (show aH _ (aQ K) from aR) (a9 1) aD (λ_ _=>rfl)) (aG (show aH _ (aQ K) from aR) (a9 0) aD (λ_ _=>rfl)) (aX _))))) (@aN _ _ _ (eZ (aq (aC aS (aC (cp cn aD) aE rfl) rfl)) (fQ (a9 4) (dg J5 Ka Kb qz (a9 2) (aC (aG (show aH _ (aQ K) from aR) (a9 0) aD (λ_ _=>rfl)) aE rfl)) fR))) ai) (@aN _ _ _ (@aV _ _ _ _ (a9 4)))); ?_);refine(let W1:TS:=_; have hW1:bQ XX ((bP jS).drop 1) W1:=(aK (aj (@PW.pt _ _ _ (dN (ae au (aG (show aH _ (aQ K) from aR) (a9 0) aD (λ_ _=>rfl)) aS (aX _)) (dW (ae au (aG (show aH _ (aQ K) from aR) (a9 1) aD (λ_ _=>rfl)) aS (aX _))))) (@aN _ _ _ (eZ eK (fQ (a9 4) (dg J5 Ka Kb qz (a9 2) (aC (aG (show aH _ (aQ K) from aR) (a9 0) aD (λ_ _=>rfl)) aE rfl)) fR))) ai) hW2); ?_);obtain⟨r,a,nl,vl,rg,kd,as,ws,fw,us,vw,rfl,hr_,hrg,ha,hn,hv,hu,hl,h20,q⟩:=h;refine#[_,(aK (@al _ _ 4 _ _ _ _ vF.nd rfl (Or.inl rfl) (ce ie (by rfl) T.b_list i7 (aC (a9 3) aE rfl)) (by rfl) (by walk_at "f")) hW1),?_];refine#[_,rfl,vl,us,rfl,.inl hv,λl hlH=>?_];have s1:=aB.new (o:=.lst us) hlH;have e1:upd H l (.lst us) l=some (.lst us):=aI;generalize upd H l (.lst us)=H1 at s1 e1 ⊢;have lu:=Rk2.Ps.len hu;have hus1:Rk2.Ps (aZ H1) us vw:=Rk2.Ps.imp (λ_ _ z=>aZ.mono z s1) hu;have done:∀(x:Str) (o:Option Rk2.Tr) (v:V) (G G':Hp),x∈ws->aB H1 G->aZ G o v->cc ws vw rg kd=vw.set (ws.idxOf x) o->aB (upd G l (.lst (us.set (ws.idxOf x) v))) G'->Q (.ref l) G':=λx o v G G' hx sG hv hB sG'=>by have eG:=sG _ _ e1;exact q l _ (vw.set (ws.idxOf x) o) _ (((s1.trans sG).upd hlH).trans sG') hlH (sG' _ _ aI) (Rk2.Ps.imp (λ_ _ z=>aZ.mono z sG') (al (ws.idxOf x) (Rk2.Ps.imp (λ_ _ z=>aZ.lst eG (aZ.mono z sG)) hus1) (aZ.lst eG hv))) hB.symm
   have keep:cc ws vw rg kd=vw->∀G,aB H1 G->Q (.ref l) G:=λe G sG=>q l us vw G (s1.trans sG) hlH (sG _ _ e1) (Rk2.Ps.imp (λ_ _ z=>aZ.mono z sG) hus1) e.symm;have ixx:∀x∈ws,cX us.length ((ws.idxOf x:Nat):Int)=some (ws.idxOf x):=λx hx=>ka (by rw[lu,hl]; exact KF hx);cases rg with
   | get x at_ w_ =>
     obtain⟨hx,-,-⟩:=hrg;have kx:=nU hx (by omega);refine#[_,rfl,r,_,_,_,rfl,rfl,s1.tup hr_,at0,rfl,_,rfl,aP (IV rfl) #[_,rfl,a,_,_,_,rfl,rfl,s1.tup ha,at0,rfl,_,rfl,?_]];by_cases k1:kd="go"
     . subst k1;refine aP (IV rfl) #[_,rfl,_,rfl,.inl #[rfl,_,s1.seq hn],_,rfl,r,_,_,_,rfl,rfl,s1.tup hr_,rfl,nl,_,_,ws.idxOf x,rfl,rfl,s1.seq hn,kx.1,kx.2.1,kx.2.2.1,kx.2.2.2.1,kx.2.2.2.2,l,_,_,_,rfl,rfl,(aB.refl _) _ _ e1,ixx x hx,?_];have su:=s1.upd (o:=.lst (us.set (ws.idxOf x) .non)) hlH;exact#[_,rfl,r,_,_,_,rfl,rfl,su.tup hr_,at0,ay,λp1 h1=>#[p1,_,rfl,.inr (aF.of aI),rfl,rfl,_,rfl,aP (by decide) #[_,rfl,a,_,_,_,rfl,rfl,(su.trans (aB.new h1)).tup ha,at0,_,rfl,r,_,_,_,rfl,rfl,(su.trans (aB.new h1)).tup hr_,at0,rfl,_,rfl,iN #[_,rfl,done x none .non H1 _ hx (aB.refl _) rfl rfl (aB.new h1)]]]]
     refine ak (λz=>k1 (V.str.inj (bD z))) ?_;refine#[_,rfl,r,_,_,_,rfl,rfl,s1.tup hr_,at0,ay,λp1 h1=>#[p1,_,rfl,.inr (aF.of aI),rfl,rfl,_,rfl,aP (by decide) ?_]];generalize e:upd H1 p1 _=H2;have sp:=(nw e h1).1;refine#[_,rfl,a,_,_,_,rfl,rfl,(s1.trans sp).tup ha,at0,_,rfl,r,_,_,_,rfl,rfl,(s1.trans sp).tup hr_,at0,rfl,_,rfl,?_];by_cases k2:kd="get"
     . subst k2;refine aP (IV rfl) #[_,rfl,ay,λp2 h2=>?_];have sq:=sp.trans (aB.new (o:=.tup [V.str "box",V.int (-1)]) h2);exact#[_,rfl,_,rfl,.inl #[rfl,_,(s1.trans sq).seq hn],_,rfl,r,_,_,_,rfl,rfl,(s1.trans sq).tup hr_,rfl,nl,_,_,ws.idxOf x,rfl,rfl,(s1.trans sq).seq hn,kx.1,kx.2.1,kx.2.2.1,kx.2.2.2.1,kx.2.2.2.2,l,_,_,_,rfl,rfl,(sq) _ _ e1,ixx x hx,_,rfl,done x (some (.box (-1))) (.ref p2) _ _ hx sq #[p2,rfl,aI] rfl (aB.refl _)]
     . exact ak (λz=>k2 (V.str.inj (bD z))) #[_,rfl,keep (by show(if _ then _ else if _ then _ else _)=_; rw[IW k1,IW k2]) _ sp]
   | new x =>
     have hx:x∈ws:=hrg;have kx:=nU hx (by omega);refine#[_,rfl,r,_,_,_,rfl,rfl,s1.tup hr_,at0,rfl,_,rfl,iN (jN ?_)];refine#[_,rfl,r,_,_,_,rfl,rfl,s1.tup hr_,at0,ay,λp1 h1=>#[p1,_,rfl,.inr (aF.of aI),rfl,rfl,_,rfl,aP (by decide) ?_]];generalize e:upd H1 p1 _=H2;have sp:=(nw e h1).1;refine#[_,rfl,a,_,_,_,rfl,rfl,(s1.trans sp).tup ha,at0,_,rfl,r,_,_,_,rfl,rfl,(s1.trans sp).tup hr_,at0,rfl,_,rfl,?_];by_cases k2:kd="new"
     . subst k2;refine aP (IV rfl) #[_,rfl,ay,λp2 h2=>?_];have sq:=sp.trans (aB.new (o:=.tup [V.str "box",V.int (-1)]) h2);exact#[_,rfl,_,rfl,.inl #[rfl,_,(s1.trans sq).seq hn],_,rfl,r,_,_,_,rfl,rfl,(s1.trans sq).tup hr_,rfl,nl,_,_,ws.idxOf x,rfl,rfl,(s1.trans sq).seq hn,kx.1,kx.2.1,kx.2.2.1,kx.2.2.2.1,kx.2.2.2.2,l,_,_,_,rfl,rfl,(sq) _ _ e1,ixx x hx,_,rfl,done x (some (.box (-1))) (.ref p2) _ _ hx sq #[p2,rfl,aI] rfl (aB.refl _)]
     . exact ak (λz=>k2 (V.str.inj (bD z))) #[_,rfl,keep (IW k2) _ sp]
   | put a_ w_ b_ =>
     refine#[_,rfl,r,_,_,_,rfl,rfl,s1.tup hr_,at0,rfl,_,rfl,iN (jN #[_,rfl,r,_,_,_,rfl,rfl,s1.tup hr_,at0,ay,λp1 h1=>#[p1,_,rfl,.inr (aF.of aI),rfl,rfl,_,rfl,iN (jN #[_,rfl,keep rfl _ (aB.new h1)])]])]
   | out a_ =>
     refine#[_,rfl,r,_,_,_,rfl,rfl,s1.tup hr_,at0,rfl,_,rfl,iN (jN #[_,rfl,r,_,_,_,rfl,rfl,s1.tup hr_,at0,ay,λp1 h1=>#[p1,_,rfl,.inr (aF.of aI),rfl,rfl,_,rfl,iN (jN #[_,rfl,keep rfl _ (aB.new h1)])]])]
   | _=>exact hrg.elim
theorem AA:FnScope ["_law_act_here"] ["_law_act_here"] (b6 qe):=by walk_at "s"
theorem GU (T:Txt K mg t):FnOk P w K mg base CX0 1 t.xa t.yi ["_law_act_here"] (EI K):=by
 refine T.zS.F.ok AA (λvs H Q E h=>?_) (λcdv A outer s H vs Q E hr h=>?_)
 . obtain⟨a,on,as,fb,rfl,hs,ha,q⟩:=h;rfl
 . obtain⟨a,on,as,fb,rfl,hs,ha,q⟩:=h;refine#[_,(aK (aj (ae au (aG (show aH _ (aQ K) from aR) (a9 0) aD (λ_ _=>rfl)) aS (aX _)) (@aN _ _ _ (@aV _ _ _ _ (aG (show aH _ (aQ K) from aR) (a9 0) aD (λ_ _=>rfl)))) ai) (aK (aj (ae au (aG (show aH _ (aQ K) from aR) (a9 0) aD (λ_ _=>rfl)) aS (aX _)) (@aN _ _ _ (@aV _ _ _ _ (aG (show aH _ (aQ K) from aR) (a9 0) aD (λ_ _=>rfl)))) ai) (@aN _ _ _ (@aV _ _ _ _ eK)))),?_];cases ha with
   | get _ _ b=>exact#[_,rfl,a,_,_,_,rfl,rfl,hs,at0,rfl,_,rfl,aP (by decide) #[_,rfl,a,_,_,_,rfl,rfl,hs,rfl,q _ b]]
   | new b=>exact#[_,rfl,a,_,_,_,rfl,rfl,hs,at0,rfl,_,rfl,jN #[_,rfl,a,_,_,_,rfl,rfl,hs,at0,rfl,_,rfl,aP (by decide) #[_,rfl,a,_,_,_,rfl,rfl,hs,rfl,q _ b]]]
   | go=>exact#[_,rfl,a,_,_,_,rfl,rfl,hs,at0,rfl,_,rfl,jN #[_,rfl,a,_,_,_,rfl,rfl,hs,at0,rfl,_,rfl,jN (q _ (.inl #[rfl,rfl]))]]
   | out _=>exact#[_,rfl,a,_,_,_,rfl,rfl,hs,at0,rfl,_,rfl,jN #[_,rfl,a,_,_,_,rfl,rfl,hs,at0,rfl,_,rfl,jN (q _ (.inl #[rfl,rfl]))]]
   | put _ _ _=>exact#[_,rfl,a,_,_,_,rfl,rfl,hs,at0,rfl,_,rfl,jN #[_,rfl,a,_,_,_,rfl,rfl,hs,at0,rfl,_,rfl,jN (q _ (.inl #[rfl,rfl]))]]
theorem Dh:FnScope ["_law_cells","_law_calm"] ["_law_cells","_law_calm"] (b6 pP):=by walk_at "s"
theorem EX (T:Txt K mg t):FnOk P w K mg base CX0 1 t.xq t.yy ["_law_cells","_law_calm"] (A' K):=by
 refine T.zf.F.ok Dh (λvs H Q E h=>?_) (λcdv A outer s H vs Q E hr h=>?_)
 . obtain⟨cl,cs,cm,rfl,hc,h14,h63,q⟩:=h;rfl
 . obtain⟨cl,cs,cm,rfl,hc,h14,h63,q⟩:=h;refine#[_,(aK (aj (ae au (a9 1) aD (aX _)) (@aN _ _ _ (@aV _ _ _ _ (bu (aC (aG (show aH _ (af K) from ag) (a9 0) aD (λ_ _=>rfl)) (aC (@aM _ _ _ _ _ _ _ _ (bo cj) aD (@aM _ _ _ _ _ _ _ _ (aU db) aD (@aM _ _ _ _ _ _ _ _ (aU bj) (@aM _ _ _ _ _ _ _ _ (aU bH) (@aM _ _ _ _ _ _ _ _ (aU bj) (aG (show aH _ (af K) from ag) (a9 0) aD (λ_ _=>rfl)) aD) aD) aD))) (aC aD (aC aD aE rfl) rfl) rfl) rfl)))) ai) (@aN _ _ _ (@aV _ _ _ _ (bu (aC (aG (show aH _ (af K) from ag) (a9 0) aD (λ_ _=>rfl)) (aC (aG (show aH _ (af K) from ag) (a9 0) aD (λ_ _=>rfl)) (aC (aG (show aH _ (af K) from ag) (a9 0) aD (λ_ _=>rfl)) (aC (aG (show aH _ (af K) from ag) (a9 0) aD (λ_ _=>rfl)) aE rfl) rfl) rfl) rfl))))),?_];have at_:∀n:Nat,n<cs.length->∃x,bI (cs.map V.int) (n:Int)=some (.int x):=λn h=>#[cs[n],c7 (by rw[Iu,Iw h]; rfl)]
   obtain⟨x8,e8⟩:=at_ 8 (by omega);obtain⟨x9,e9⟩:=at_ 9 (by omega);obtain⟨x13,e13⟩:=at_ 13 (by omega);obtain⟨x14,e14⟩:=at_ 14 (by omega);refine#[_,rfl,rfl,_,rfl,?_];by_cases hm:cm=1
   . exact aP (IV (Iq V.int hm)) #[_,rfl,cl,_,_,_,rfl,rfl,hc,e8,_,rfl,cl,_,_,_,rfl,rfl,hc,e9,_,_,rfl,rfl,#[by decide,by decide],_,_,rfl,rfl,(show(0:Int)<5 by decide),_,_,rfl,rfl,#[by decide,by decide],_,_,rfl,rfl,.inl #[by decide,by decide],_,_,rfl,rfl,eI,λl hl=>q l _ _ _ _ hl]
   . exact ak (λz=>hm (V.int.inj (bD z))) #[_,rfl,cl,_,_,_,rfl,rfl,hc,e8,_,rfl,cl,_,_,_,rfl,rfl,hc,e9,_,rfl,cl,_,_,_,rfl,rfl,hc,e13,_,rfl,cl,_,_,_,rfl,rfl,hc,e14,eI,λl hl=>q l _ _ _ _ hl]
theorem lK:FnScope ["_law_row_here","_law_act_here","_law_names_here","_law_view_here","_law_there"] ["_law_row_here","_law_act_here","_law_names_here","_law_view_here"] (b6 jD):=by walk_at "s"
theorem Fa (T:Txt K mg t):FnOk P w K mg base CX0 2 t.xb t.yj ["_law_row_here","_law_act_here","_law_names_here","_law_view_here"] (Go K):=by
 have Qf:=we (P:=P) (w:=w) (base:=base) T;refine T.zT.F.ok lK (λvs H Q E h=>?_) (λcdv A outer s H vs Q E hr h=>?_)
 . obtain⟨r,a,nl,vl,on,rg,as,fb,ws,fw,us,vw,ds,rfl,hr_,hrg,ha,hA,hn,hv,hu,hl,h20,h9,hno,hds,q⟩:=h;rfl
 . skip
   refine lx ?_;intro XX;refine(let W6:TS:=_; have hW6:bQ XX ((bP jD).drop 6) W6:=(aK (aj (ae au (aG (show aH _ (aQ K) from aR) (a9 0) aD (λ_ _=>rfl)) aS (aX _)) (@aN _ _ _ (@aV _ _ _ _ dL)) ai) (aK (@al _ _ 4 _ _ _ _ lK.nd rfl (Or.inl rfl) (bG T.l_of Qf (hr.mono (by decide)) (aC (aG (show aH _ (aQ K) from aR) (a9 0) aD (λ_ _=>rfl)) (aC (a9 2) (aC (a9 3) aE rfl) rfl) rfl)) (by rfl) (by walk_at "f")) (@aN _ _ _ (@aV _ _ _ _ (gb (w4 (g9 (a9 4))) (gb (dS au (aG (show aH _ (aQ K) from aR) (a9 1) aD (λ_ _=>rfl)) (aG (show aH _ (aQ K) from aR) (a9 0) aD (λ_ _=>rfl)) (aX _)) (i5 (dS (kO hr.units) (aG (show aH _ (aQ K) from aR) (a9 1) aD (λ_ _=>rfl)) (a9 4) (aX _))))))))); ?_);refine(let W4:TS:=_; have hW4:bQ XX ((bP jD).drop 4) W4:=(aK (@al _ _ 4 _ _ _ _ lK.nd rfl (Or.inl rfl) (bG T.l_of Qf (hr.mono (by decide)) (aC (aG (show aH _ (aQ K) from aR) (a9 0) aD (λ_ _=>rfl)) (aC (a9 2) (aC (a9 3) aE rfl) rfl) rfl)) (by rfl) (by walk_at "f")) (aK (aj (@PW.pt _ _ _ (kU (fJ (oH (a9 4))) (jx (ae (gS hr.units) (aG (show aH _ (aQ K) from aR) (a9 1) aD (λ_ _=>rfl)) (a9 4) (aX _))))) (@aN _ _ _ (@aV _ _ _ _ dL)) ai) hW6)); ?_);refine(let W2:TS:=_; have hW2:bQ XX ((bP jD).drop 2) W2:=(aK (aj (ae au (aG (show aH _ (aQ K) from aR) (a9 0) aD (λ_ _=>rfl)) aS (aX _)) (@aN _ _ _ (@aV _ _ _ _ dL)) ai) (aK (aj (ae au (aG (show aH _ (aQ K) from aR) (a9 0) aD (λ_ _=>rfl)) aS (aX _)) (aK (@al _ _ 4 _ _ _ _ lK.nd rfl (Or.inl rfl) (bG T.l_of Qf (hr.mono (by decide)) (aC (aG (show aH _ (aQ K) from aR) (a9 0) aD (λ_ _=>rfl)) (aC (a9 2) (aC (a9 3) aE rfl) rfl) rfl)) (by rfl) (by walk_at "f")) (@aN _ _ _ (@aV _ _ _ _ (gb (w4 (g9 (a9 4))) (gb (dS (kO hr.units) (aG (show aH _ (aQ K) from aR) (a9 1) aD (λ_ _=>rfl)) (a9 4) (aX _)) (i5 (dS au (aG (show aH _ (aQ K) from aR) (a9 1) aD (λ_ _=>rfl)) (aG (show aH _ (aQ K) from aR) (a9 0) aD (λ_ _=>rfl)) (aX _)))))))) ai) hW4)); ?_);obtain⟨r,a,nl,vl,on,rg,as,fb,ws,fw,us,vw,ds,rfl,hr_,hrg,ha,hA,hn,hv,hu,hl,h20,h9,hno,hds,q⟩:=h;refine#[_,(aK (aj (@PW.pt _ _ _ (dN (ae au (aG (show aH _ (aQ K) from aR) (a9 0) aD (λ_ _=>rfl)) aS (aX _)) (dW (ae au (aG (show aH _ (aQ K) from aR) (a9 1) aD (λ_ _=>rfl)) aS (aX _))))) (@aN _ _ _ (@aV _ _ _ _ dL)) ai) (aK (aj (ae Cw (aG (show aH _ (aQ K) from aR) (a9 1) aD (λ_ _=>rfl)) (aG (show aH _ (aQ K) from aR) (a9 0) aD (λ_ _=>rfl)) (aX _)) (@aN _ _ _ (@aV _ _ _ _ dL)) ai) hW2)),?_];obtain⟨kd,rest,rfl,ig0,ig,iw,io,ip⟩:=hA.kd;cases rg with
   | get x at_ w_ =>
     obtain⟨o,ho,k9,hN⟩:=jV hrg.2.1 hl h9 hno;have hds:(cU (lk ws vw) at_).map (λo=>[Ce.s "get",.p o,.s w_])=some ds:=hds;rw[ho] at hds;cases hds;refine#[_,rfl,r,_,_,_,rfl,rfl,hr_,at0,rfl,_,rfl,aP (IV rfl) #[_,rfl,a,_,_,_,rfl,rfl,ha,at0,rfl,_,rfl,?_]];by_cases e1:kd="go"
     . subst e1;exact aP (IV rfl) (q true H (aB.refl _) (.go rfl rfl))
     refine ak (λz=>e1 (V.str.inj (bD z))) #[_,rfl,a,_,_,_,rfl,rfl,ha,at0,_,rfl,r,_,_,_,rfl,rfl,hr_,at0,rfl,_,rfl,?_];by_cases e2:kd="get"
     . subst e2;obtain⟨tr,v,w2,bv,rfl,ht,hw2,-⟩:=ig rfl;refine ak (by rw[IV rfl]; decide) #[_,rfl,r,_,_,_,rfl,rfl,hr_,at0,rfl,_,rfl,iN #[_,rfl,r,_,_,_,rfl,rfl,hr_,at0,rfl,_,rfl,aP (IV rfl) #[_,rfl,r,_,_,_,rfl,rfl,hr_,rfl,_,rfl,_,rfl,at_,nl,vl,ws,us,vw,o,rfl,hrg.2.1,hn,hv,hu,hl,(by omega),ho,λu H1 s1 hu1=>?_]]];have fin:∀H2,aB H H2->∀b,b=cz [.s "get",.p (some tr),.s w2] [.s "get",.p o,.s w_]->Q (.bl b) H2:=λH2 s2 b e=>e ▸ q _ H2 s2 (.eq (vs:=[v,.str w2]) (mid:=[bv]) (k:=on) (cs:=[.s "get",.p (some tr),.s w2]) rfl e1 #[rfl,Tr4.mono s2 ht,rfl,trivial] rfl rfl (fA (by decide +kernel) (lF ht.o (fA hw2.2 gr))));cases o with
       | none =>
         cases hu1;exact#[_,rfl,_,rfl,jN (fin H1 s1 _ (by rw[dZ,lL]; rfl))]
       | some tu =>
         obtain⟨pu,rfl⟩:=gJ hu1;refine#[_,rfl,_,rfl,aP (by rfl) #[_,rfl,a,_,_,_,rfl,rfl,s1.tup ha,rfl,_,rfl,vW ht.o (k9 tu rfl).ok (ht.r.mono s1) hu1 ?_]];by_cases e3:tr=tu
         . subst e3;exact#[_,rfl,aP (IV rfl) #[_,rfl,a,_,_,_,rfl,rfl,s1.tup ha,rfl,_,rfl,r,_,_,_,rfl,rfl,s1.tup hr_,rfl,rfl,fin H1 s1 _ (by rw[dZ,gc,dZ,nY,IV rfl,IV rfl,JY,JY,Lb]; exact decide_eq_decide.mpr #[λz=>V.str.inj z,λz=>by rw[z]])]]
         . exact#[_,rfl,ak (λz=>e3 (bD z)) (fin H1 s1 _ (by rw[dZ,gc,Ih e3]; rfl))]
     . exact aP (by rw[Ih (λz=>e2 (V.str.inj z))]; rfl) (q false H (aB.refl _) (.ne rfl e1 rfl e2))
   | new x =>
     cases hds;refine#[_,rfl,r,_,_,_,rfl,rfl,hr_,at0,rfl,_,rfl,iN (jN #[_,rfl,a,_,_,_,rfl,rfl,ha,at0,_,rfl,r,_,_,_,rfl,rfl,hr_,at0,rfl,_,rfl,?_])];by_cases e2:kd="new"
     . subst e2;obtain⟨bv,rfl,-⟩:=iw rfl;exact ak (by rw[IV rfl]; decide) #[_,rfl,r,_,_,_,rfl,rfl,hr_,at0,rfl,_,rfl,aP (IV rfl) (q true H (aB.refl _) (.eq (kd:="new") (vs:=[]) (mid:=[bv]) (k:=on) (cs:=[.s "new"]) (ds:=[.s "new"]) rfl (by decide +kernel) #[rfl,trivial] rfl rfl (fA (by decide +kernel) gr)))]
     . refine aP (by rw[Ih (λz=>e2 (V.str.inj z))]; rfl) ?_;by_cases e1:kd="go"
       . subst e1;exact q false H (aB.refl _) (.gf (λ_ _ _ z=>by cases z) rfl)
       . exact q false H (aB.refl _) (.ne rfl e1 rfl e2)
   | out at_ =>
     obtain⟨o,ho,k9,hN⟩:=jV hrg hl h9 hno;have hds:(cU (lk ws vw) at_).map (λo=>[Ce.s "out",.p o])=some ds:=hds;rw[ho] at hds;cases hds;refine#[_,rfl,r,_,_,_,rfl,rfl,hr_,at0,rfl,_,rfl,iN (jN #[_,rfl,a,_,_,_,rfl,rfl,ha,at0,_,rfl,r,_,_,_,rfl,rfl,hr_,at0,rfl,_,rfl,?_])];by_cases e2:kd="out"
     . subst e2;obtain⟨tr,v,rfl,ht⟩:=io rfl;refine ak (by rw[IV rfl]; decide) #[_,rfl,r,_,_,_,rfl,rfl,hr_,at0,rfl,_,rfl,iN #[_,rfl,r,_,_,_,rfl,rfl,hr_,at0,rfl,_,rfl,iN #[_,rfl,r,_,_,_,rfl,rfl,hr_,rfl,_,rfl,_,rfl,at_,nl,vl,ws,us,vw,o,rfl,hrg,hn,hv,hu,hl,(by omega),ho,λu H1 s1 hu1=>?_]]];have fin:∀b,b=cz [.s "out",.p (some tr)] [.s "out",.p o]->Q (.bl b) H1:=λb e=>e ▸ q _ H1 s1 (.eq (kd:="out") (vs:=[v]) (mid:=[]) (k:=on) (cs:=[.s "out",.p (some tr)]) rfl (by decide +kernel) #[rfl,Tr4.mono s1 ht,trivial] rfl rfl (fA (by decide +kernel) (lF ht.o gr)));cases o with
       | none =>
         cases hu1;exact#[_,rfl,_,rfl,aP (by rfl) (aP (by rfl) (fin _ (by rw[dZ,lL]; rfl)))]
       | some tu =>
         obtain⟨pu,rfl⟩:=gJ hu1;refine#[_,rfl,_,rfl,ak (λz=>by cases bD z) #[_,rfl,a,_,_,_,rfl,rfl,s1.tup ha,rfl,_,rfl,vb ht.o (k9 tu rfl).ok (ht.r.mono s1) hu1 #[_,rfl,?_]]];by_cases e3:tr=tu
         . subst e3;exact ak (by rw[IV rfl]; decide) #[_,rfl,r,_,_,_,rfl,rfl,s1.tup hr_,at0,rfl,_,rfl,aP (IV rfl) (fin _ (by rw[dZ,gc,nY,IV rfl,IV rfl]; rfl))]
         . exact aP (by rw[Ih e3]; rfl) (fin _ (by rw[dZ,gc,Ih e3]; rfl))
     . refine aP (by rw[Ih (λz=>e2 (V.str.inj z))]; rfl) ?_;by_cases e1:kd="go"
       . subst e1;exact q false H (aB.refl _) (.gf (λ_ _ _ z=>by cases z) rfl)
       . exact q false H (aB.refl _) (.ne rfl e1 rfl e2)
   | put at_ w_ bt_ =>
     obtain⟨o,ho,k9,hN⟩:=jV hrg.1 hl h9 hno;obtain⟨o2,ho2,k92,hN2⟩:=jV hrg.2.2 hl h9 hno;have hds:((cU (lk ws vw) at_).bind λo=>(cU (lk ws vw) bt_).map λo'=>[Ce.s "put",.p o,.s w_,.p o'])=some ds:=hds;rw[ho,ho2] at hds;cases hds;refine#[_,rfl,r,_,_,_,rfl,rfl,hr_,at0,rfl,_,rfl,iN (jN #[_,rfl,a,_,_,_,rfl,rfl,ha,at0,_,rfl,r,_,_,_,rfl,rfl,hr_,at0,rfl,_,rfl,?_])];by_cases e2:kd="put"
     . subst e2;obtain⟨tr,tr',v,u',w2,rfl,ht,hw2,ht'⟩:=ip rfl;refine ak (by rw[IV rfl]; decide) #[_,rfl,r,_,_,_,rfl,rfl,hr_,at0,rfl,_,rfl,iN #[_,rfl,r,_,_,_,rfl,rfl,hr_,at0,rfl,_,rfl,iN #[_,rfl,r,_,_,_,rfl,rfl,hr_,rfl,_,rfl,_,rfl,at_,nl,vl,ws,us,vw,o,rfl,hrg.1,hn,hv,hu,hl,(by omega),ho,λu H1 s1 hu1=>?_]]];have fin:∀H2,aB H H2->∀b,b=cz [.s "put",.p (some tr),.s w2,.p (some tr')] [.s "put",.p o,.s w_,.p o2]->Q (.bl b) H2:=λH2 s2 b e=>e ▸ q _ H2 s2 (.eq (kd:="put") (vs:=[v,.str w2,u']) (mid:=[]) (k:=on) (cs:=[.s "put",.p (some tr),.s w2,.p (some tr')]) rfl (by decide +kernel) #[rfl,Tr4.mono s2 ht,rfl,Tr4.mono s2 ht',trivial] rfl rfl (fA (by decide +kernel) (lF ht.o (fA hw2.2 (lF ht'.o gr)))));cases o with
       | none =>
         cases hu1;exact#[_,rfl,_,rfl,aP (by rfl) (aP (by rfl) (fin H1 s1 _ (by rw[dZ,lL]; rfl)))]
       | some tu =>
         obtain⟨pu,rfl⟩:=gJ hu1;refine#[_,rfl,_,rfl,ak (λz=>by cases bD z) #[_,rfl,a,_,_,_,rfl,rfl,s1.tup ha,rfl,_,rfl,vb ht.o (k9 tu rfl).ok (ht.r.mono s1) hu1 #[_,rfl,?_]]];by_cases e3:tr=tu
         . subst e3;refine ak (by rw[IV rfl]; decide) #[_,rfl,r,_,_,_,rfl,rfl,s1.tup hr_,at0,rfl,_,rfl,iN #[_,rfl,r,_,_,_,rfl,rfl,s1.tup hr_,rfl,_,rfl,_,rfl,bt_,nl,vl,ws,us,vw,o2,rfl,hrg.2.2,s1.seq hn,s1.seq hv,Rk2.Ps.imp (λ_ _ z=>aZ.mono z s1) hu,hl,(by omega),ho2,λu2 H2 s2 hu2=>?_]];cases o2 with
           | none =>
             cases hu2;exact#[_,rfl,_,rfl,jN (fin H2 (s1.trans s2) _ (by rw[dZ,gc,dZ,lL,JB,JB,JB]))]
           | some tu2 =>
             obtain⟨pu2,rfl⟩:=gJ hu2;refine#[_,rfl,_,rfl,aP (by rfl) #[_,rfl,a,_,_,_,rfl,rfl,(s1.trans s2).tup ha,rfl,_,rfl,r,_,_,_,rfl,rfl,(s1.trans s2).tup hr_,rfl,rfl,?_]];by_cases e4:w2=w_
             . subst e4;exact#[_,rfl,aP (IV rfl) #[_,rfl,a,_,_,_,rfl,rfl,(s1.trans s2).tup ha,rfl,_,rfl,vW ht'.o (k92 tu2 rfl).ok (ht'.r.mono (s1.trans s2)) hu2 (fin H2 (s1.trans s2) _ (by rw[dZ,gc,dZ,gc,nY,IV rfl,IV rfl,IV rfl]; cases decide (tr'=tu2) <;> rfl))]]
             . exact#[_,rfl,ak (λz=>e4 (V.str.inj (bD z))) (fin H2 (s1.trans s2) _ (by rw[dZ,gc,dZ,Ih e4,Kx,JB,JB]))]
         . exact aP (by rw[Ih e3]; rfl) (fin H1 s1 _ (by rw[dZ,gc,Ih e3]; rfl))
     . refine aP (by rw[Ih (λz=>e2 (V.str.inj z))]; rfl) ?_;by_cases e1:kd="go"
       . subst e1;exact q false H (aB.refl _) (.gf (λ_ _ _ z=>by cases z) rfl)
       . exact q false H (aB.refl _) (.ne rfl e1 rfl e2)
   | _=>exact hrg.elim
theorem qL:FnScope ["_law_program","_law_spots","_law_marks","_law_k","_law_due","_law_handed","_law_found"] ["_law_program","_law_spots","_law_marks","_law_k","_law_due"] (b6 mP):=by walk_at "s"
theorem Cf (T:Txt K mg t):FnOk P w K mg base CX0 20 t.xX t.yf ["_law_program","_law_spots","_law_marks","_law_k","_law_due"] (EQ K t):=by
 have QO:=IJ (P:=P) (w:=w) (base:=base) T;refine T.zQ.F.ok qL (λvs H Q E h=>?_) (λcdv A outer s H vs Q E hr h=>?_)
 . obtain⟨p,sp,mk,a,k,A_,ps_,fb,rg,v,w_,b,rfl,hps,hP,n0,n12,hE,nd,hT,hM,hv,hSp,ha,hf,h10,hnb,hnv,hO,hw,hR,hW,hS,hd1,hd2,hmp,hml,q⟩:=h;rfl
 . skip
   refine lx ?_;intro XX;refine(let W1:TS:=_; have hW1:bQ XX ((bP mP).drop 1) W1:=(aK (@al _ _ 6 _ _ _ _ qL.nd rfl (Or.inl rfl) (bG T.spot_holds QO (hr.mono (by decide)) (aC (aG (show aH _ (af K) from ag) (a9 5) aD (λ_ _=>rfl)) (aC (aG (show aH _ (af K) from ag) (a9 5) aD (λ_ _=>rfl)) (aC (aG (show aH _ (af K) from ag) (a9 5) aD (λ_ _=>rfl)) (aC (a9 3) aE rfl) rfl) rfl) rfl)) (by rfl) (by walk_at "f")) (@aN _ _ _ (@aV _ _ _ _ (gb (cR lX (by rfl) T.b_isinstance mh (aC (a9 6) (aC (mK (v:=V.ty "bool") rfl T.b_bool BL rfl) aE rfl) rfl)) (gb (dS au (a9 6) (a9 4) (aX _)) (i5 (dS (kO hr.units) (a9 5) (bu (aC (a9 0) (aC (a9 1) (aC (a9 2) aE rfl) rfl) rfl)) (aX _)))))))); ?_);obtain⟨p,sp,mk,a,k,A_,ps_,fb,rg,v,w_,b,rfl,hps,hP,n0,n12,hE,nd,hT,hM,hv,hSp,ha,hf,h10,hnb,hnv,hO,hw,hR,hW,hS,hd1,hd2,hmp,hml,q⟩:=h;refine#[_,(aK (@al _ _ 5 _ _ _ _ qL.nd rfl (Or.inl rfl) (bu (aC (ce ie (by rfl) T.b_list i7 (aC (a9 0) aE rfl)) (aC (ce ie (by rfl) T.b_list i7 (aC (a9 1) aE rfl)) (aC (fX (N':=["_law_chain","_law_parts"]) (js:=[none,none]) (by kernel_rfl) rfl (gN (a9 2)) (ux (lN (lN uI))) (λ_ _ _ _=>(show PG _ _ (mr K 2 _) from eE (n:=2) rfl (cH (bU (i:=0) (show(["_law_chain","_law_parts"]:List Str).Nodup by decide +kernel) rfl (Or.inl rfl) (.inr rfl)) (cH (bU (i:=1) (show(["_law_chain","_law_parts"]:List Str).Nodup by decide +kernel) rfl (Or.inl rfl) (.inr rfl)) eC)))) (λ_ _ _ _=>gK) (λ_ _ _ _=>(aq (aC (a9 0) (aC (fX (N':=["_law_part"]) (js:=[none]) (by kernel_rfl) rfl (Gq (λK=>uK K _) rfl (gN (a9 1))) ff (λ_ _ _ _=>(bU (i:=0) (show(["_law_part"]:List Str).Nodup by decide +kernel) rfl (Or.inl rfl) (.inr rfl))) (λ_ _ _ _=>gK) (λ_ _ _ _=>(ce (show bt _ (.type "list") (DS K) from ie) (by rfl) T.b_list i7 (aC (a9 0) aE rfl)))) aE rfl) rfl)))) aE rfl) rfl) rfl)) (by rfl) (by walk_at "f")) hW1),?_];have lm:=Rk2.Ps.len hmp;refine#[_,rfl,p,_,rfl,.inl hP,λl1 k1=>#[_,rfl,sp,_,rfl,.inl ((aB.new k1).seq hT.s),λl2 k2=>?_]];have s2:=(aB.new (o:=.lst (A_.fns.map λf=>V.ref f.fa)) k1).trans (aB.new (o:=.lst A_.svs) k2);have e1:=aB.new (o:=.lst A_.svs) k2 _ _ (show upd H l1 (.lst (A_.fns.map λf=>V.ref f.fa)) l1=_ from aI);have e2:upd (upd H l1 (.lst (A_.fns.map λf=>V.ref f.fa))) l2 (.lst A_.svs) l2=_:=aI;generalize upd (upd H l1 (.lst (A_.fns.map λf=>V.ref f.fa))) l2 (.lst A_.svs)=H2 at s2 e1 e2 ⊢;refine#[_,rfl,mk,rfl,#[_,s2.seq hT.m],λpL hpL=>pC (xs:=A_.mvs) (λi G v=>∃o,A_.mvs[i]?=some o/\gQ K H G o v) (λi v G G' s ⟨o,a,b⟩=>#[o,a,b.mono s]) (by omega) (s2.seq hT.m) hpL ?_ ?_ (by intro _ _ _ _ h z; obtain⟨p,ys,e1,e2,e3,y1,r1,e4,y2,r2,e5,e6,z⟩:=z; exact#[p,ys,e1,e2,e3,y1,r1,e4,y2,r2,e5,e6,h _ _ z])]
   . rintro i x G R_ hx sG ⟨acc,eacc⟩ kk;obtain⟨u,L,a1,a2,q0,c,w,ws,rfl,m1,m2,m3,m4⟩:=Rk2.Ps.at hmp (n:=i) (by have:=(Ic.mp hx).1; omega);rw[hx] at a1;cases a1;have s0:aB H G:=s2.trans sG;refine#[q0,_,rfl,aF.of (s0 _ _ m1),rfl,_,_,rfl,_,_,rfl,rfl,?_];have lw:=Rk2.Ps.len m4;refine#[_,rfl,_,rfl,w,rfl,#[_,aJ.of (s0 _ _ m3)],λpI hpI=>pC (xs:=ws) (λj G' v=>(∃o,ws[j]?=some o/\iS K H G' o v)/\v≠.ref pL) (λj v G G' s ⟨⟨o,a,b⟩,n⟩=>#[#[o,a,b.mono s],n]) ?_ (aJ.of (s0 _ _ m3)) hpI ?_ ?_]
     . have:=(hT.l L (Ij a2)).1;have e:(di L).vs.length=L.length:=IX _;omega
     . rintro j y G2 R2 hy sG2 ⟨acc2,eacc2⟩ kk2;obtain⟨u2,vw,b1,b2,lo,us,rfl,c1,c2⟩:=Rk2.Ps.at m4 (n:=j) (by have:=(Ic.mp hy).1; omega);rw[hy] at b1;cases b1;refine#[_,rfl,lo,us,rfl,.inl (aJ.of ((s0.trans sG2) _ _ c1)),λl hl=>kk2 _ _ (aB.new hl) #[#[_,hy,lo,us,l,rfl,c1,rfl,?_],?_]]
       . rw[cC (λz=>by rw[z,eacc2] at hl; cases hl)];exact aI
       . intro z;cases z;have:=sG2 _ _ eacc;rw[hl] at this;cases this
     . rintro G3 vs sG3 e3 l3 t3;refine#[ay,λbq hb=>kk _ _ (sG3.trans (aB.new hb)) #[_,hx,q0,c,w,ws,bq,pI,vs,rfl,m1,m3,rfl,?_,?_,?_]]
       . rw[cC (λz=>by have:=sG3 _ _ eacc; rw[z,this] at hb; cases hb)];exact aI
       . rw[cC (λz=>by rw[z,eacc] at hpI; cases hpI)];exact aB.new hb _ _ e3
       . refine Ps.of_at (by omega) λj v o hv ho=>?_;obtain⟨⟨o',h1,lo,us,l,h2,h3,rfl,h4⟩,h5⟩:=t3 j v hv;rw[ho] at h1;cases h1;refine#[lo,us,l,h2,h3,rfl,?_];rw[cC (λz=>h5 (by rw[z]))];exact aB.new hb _ _ (dq _ _ h4)
   rintro G vs sG eG lG tG;have cps:Rk2.Ps (gQ K H G) vs A_.mvs:=Ps.of_at lG λi v o hv ho=>by obtain⟨o',h1,h2⟩:=tG i v hv;rw[ho] at h1;cases h1;exact h2.mono dq
   have s3:=s2.trans sG;refine#[cV,λhh kh=>?_];have sn:=aB.new (o:=.lst [V.ref l1,V.ref l2,V.ref pL]) kh;have eh:upd G hh (.lst [V.ref l1,V.ref l2,V.ref pL]) hh=_:=aI;generalize upd G hh (.lst [V.ref l1,V.ref l2,V.ref pL])=H4 at sn eh ⊢;have s4:=s3.trans sn;have cps:=Rk2.Ps.imp (λ_ _ z=>z.mono sn) cps;have e1:=(sG.trans sn) _ _ e1;have e2:=(sG.trans sn) _ _ e2;have eG:=sn _ _ eG;have hT4:=hT.mono s4;refine#[_,rfl,hh,_,_,_,rfl,rfl,aJ.of eh,at0,_,rfl,hh,_,_,_,rfl,rfl,aJ.of eh,rfl,_,rfl,hh,_,_,_,rfl,rfl,aJ.of eh,rfl,_,rfl,l1,l2,pL,a,k,A_.mv vs,ps_,fb,rg,v,w_,b,rfl,hps,aJ.of e1,n0,n12,λf hf=>(hE f hf).mono s4,nd,#[aJ.of e2,hT4.ss,aJ.of eG,w5 s4 hmp cps,hT.l],hM,hv,hSp.mono s4,s4.tup ha,hf,h10,hnb,hnv,#[hO.l,hO.n,hO.g,hO.v],hw,s4.tup hR,hW,(hS.mono s4).mv vs,λH5 s5=>?_];have s05:=s4.trans s5;have ok3:∀L∈A_.Ms,∀e∈L,bx e.vw/\PyData.strOk e.F.name=true:=λL hL e he=>#[λo ho u eu=>(hO.v L hL e he u (eu ▸ ho)).1,hO.n _ ((hT.l L hL).2 e he).m]
   have tw:dn K H5 14 [V.ref l1,V.ref l2,V.ref pL] [V.ref p,V.ref sp,V.ref mk]:=.cons ((ca.lst (aJ.of (s5 _ _ e1)) (s05.seq hP) (dn.of (bp.mono s05 hd1))).up (by decide)) (.cons ((ca.lst (aJ.of (s5 _ _ e2)) (s05.seq hT.s) (dn.of (bp.mono s05 hd2))).up (by decide)) (.cons ((ca.lst (aJ.of (s5 _ _ eG)) (s05.seq hT.m) (wZ s05 ok3 hmp (Rk2.Ps.imp (λ_ _ z=>z.mono s5) cps))).up (by decide)) .nil));refine#[_,rfl,_,"bool",_,true,rfl,.bl _,rfl,?_];refine#[_,rfl,aP rfl #[_,rfl,_,rfl,rfl,_,rfl,aP (IV rfl) #[_,rfl,_,rfl,_,rfl,_,rfl,cV,λy ky=>ca.eq (n:=15) ?_ (by decide) (q _)]]];obtain⟨ds,ls,z1,z2⟩:=tw;have sy:=aB.new (o:=.lst [V.ref p,V.ref sp,V.ref mk]) ky;exact ca.lst (aJ.of (sy _ _ (s5 _ _ eh))) (aJ.of aI) #[ds,ls,bK.mono sy ds _ z1,bK.mono sy ds _ z2]
theorem cN:FnScope ["_law_script","_law_cells","_law_words","_law_names_here","_law_outer_here","_law_boxes","_law_at","_law_row_here","_law_follow","_law_rows","_law_program","_law_calm","_law_k","_law_on","_law_base","_law_ahead","_law_view_here","_law_act_here","_law_known_here","_law_sets_here","_law_news_here","_law_spots","_law_marks","_law_goal","_law_chain","_law_due"] ["_law_script"] (b6 fg):=by walk_at "s"
theorem ok_law (T:Txt K mg t):FnOk P w K mg base CX0 21 t.xx t.nI ["_law_script"] (sp_law K):=by
 have Qq:=HK (P:=P) (w:=w) (base:=base) T;have QP:=AG (P:=P) (w:=w) (base:=base) T;have Qs:=EC (P:=P) (w:=w) (base:=base) T;have QQ:=D9 (P:=P) (w:=w) (base:=base) T;have QR:=Et (P:=P) (w:=w) (base:=base) T;have QS:=BY (P:=P) (w:=w) (base:=base) T;have QT:=Cf (P:=P) (w:=w) (base:=base) T;have QU:=BA (P:=P) (w:=w) (base:=base) T;have QV:=HU (P:=P) (w:=w) (base:=base) T;have QW:=EX (P:=P) (w:=w) (base:=base) T;have QX:=D2 (P:=P) (w:=w) (base:=base) T;have QY:=GU (P:=P) (w:=w) (base:=base) T;have QZ:=Fa (P:=P) (w:=w) (base:=base) T;have Q0:=A4 (P:=P) (w:=w) (base:=base) T;have Q1:=Hb (P:=P) (w:=w) (base:=base) T;have Q2:=AF (P:=P) (w:=w) (base:=base) T;refine T.law.F.ok cN (λvs H Q E h=>?_) (λcdv A outer s H vs Q E hr h=>?_)
 . obtain⟨a,ns,rfl,hS,hL,q⟩:=h;rfl
 . skip
   refine lx ?_;intro XX;refine(let W28:TS:=_; have hW28:bQ XX ((bP fg).drop 28) W28:=(@cx _ _ _ _ _ (@al _ _ 25 _ _ _ _ cN.nd rfl (Or.inl rfl) (gb (bG T.zT QZ (hr.mono (by decide)) (@aO _ _ _ _ _ (a9 7) (@aO _ _ _ _ _ (a9 17) (@aO _ _ _ _ _ (a9 3) (@aO _ _ _ _ _ (a9 16) aE (by rfl)) (by rfl)) (by rfl)) (by rfl))) (i5 (bG T.zV Q0 (hr.mono (by decide)) (@aO _ _ _ _ _ (@aG _ _ _ _ _ _ _ (show aH _ (af K) from ag) (a9 21) (a9 13) (λ_ _=>rfl)) (@aO _ _ _ _ _ (@aG _ _ _ _ _ _ _ (show aH _ (af K) from ag) (a9 22) (a9 13) (λ_ _=>rfl)) (@aO _ _ _ _ _ (a9 23) (@aO _ _ _ _ _ (a9 18) (@aO _ _ _ _ _ (a9 20) aE (by rfl)) (by rfl)) (by rfl)) (by rfl)) (by rfl))))) (by rfl) (by walk_at "f")) (@aN _ _ _ (@aV _ _ _ _ (bG T.zQ QT (hr.mono (by decide)) (@aO _ _ _ _ _ (a9 10) (@aO _ _ _ _ _ (a9 21) (@aO _ _ _ _ _ (a9 22) (@aO _ _ _ _ _ (a9 12) (@aO _ _ _ _ _ (a9 25) aE (by rfl)) (by rfl)) (by rfl)) (by rfl)) (by rfl)))))); ?_);refine(let W24:TS:=_; have hW24:bQ XX ((bP fg).drop 24) W24:=(@cx _ _ _ _ _ (@aj _ _ _ _ _ _ _ _ (@PW.pt _ _ _ (@dN _ _ _ _ _ _ _ (@ae _ _ _ _ _ _ _ _ au (@aM _ _ _ _ _ _ _ _ (aU bH) (@aG _ _ _ _ _ _ _ (show aH _ (af K) from ag) (a9 1) aD (λ_ _=>rfl)) aD) aD (aX _)) (@dN _ _ _ _ _ _ _ (@ae _ _ _ _ _ _ _ _ au (a9 11) aD (aX _)) (@dW _ _ _ _ (@ae _ _ _ _ _ _ _ _ au (@aG _ _ _ _ _ _ _ (show aH _ (aQ K) from aR) (a9 8) aD (λ_ _=>rfl)) aS (aX _)))))) (@aN _ _ _ (eZ (@aq _ _ _ _ _ (@aO _ _ _ _ _ (@bu _ _ _ _ aE) (@aO _ _ _ _ _ (@aq _ _ _ _ _ (@aO _ _ _ _ _ aS (@aO _ _ _ _ _ eK (@aO _ _ _ _ _ aD aE (by rfl)) (by rfl)) (by rfl))) aE (by rfl)) (by rfl))) (fQ (a9 21) (a9 13) fR))) ai) (@cx _ _ _ _ _ (eZ (@aq _ _ _ _ _ (@aO _ _ _ _ _ (a9 24) (@aO _ _ _ _ _ (fX (N':=["_law_m","_law_news_here","_law_boxes","_law_calm","_law_known_here","_law_cells"]) (js:=[none,some 20,some 5,some 11,some 18,some 1]) (by kernel_rfl) rfl (ge rfl T.b_range (@aO _ _ _ _ _ (cR (show bt _ (.builtin "len") (cr K) from d9) (by rfl) T.b_len ci (@aO _ _ _ _ _ (a9 18) aE (by rfl))) aE (by rfl))) ff (λ_ _ _ _=>(bU (i:=0) (show(["_law_m","_law_news_here","_law_boxes","_law_calm","_law_known_here","_law_cells"]:List Str).Nodup by decide +kernel) rfl (Or.inl rfl) (.inr rfl))) (λ_ _ _ _=>gK) (λ_ _ _ _=>(bG T.zX Q2 (hr.mono (by decide)) (@aO _ _ _ _ _ (@aM _ _ _ _ _ _ _ _ (bo cj) (@aG _ _ _ _ _ _ _ (show aH _ (af K) from ag) (a9 5) aD (λ_ _=>rfl)) (@aM _ _ _ _ _ _ _ _ (aU db) aD (a9 0))) (@aO _ _ _ _ _ (@aG _ _ _ _ _ _ _ (show aH _ (af K) from ag) (a9 4) (a9 0) (λ_ _=>rfl)) (@aO _ _ _ _ _ (a9 1) (@aO _ _ _ _ _ (a9 2) (@aO _ _ _ _ _ (a9 3) aE (by rfl)) (by rfl)) (by rfl)) (by rfl)) (by rfl))))) aE (by rfl)) (by rfl))) (fQ (a9 22) (a9 13) fR)) (@aK _ _ _ _ _ (eZ (@aq _ _ _ _ _ (@aO _ _ _ _ _ (a9 19) (@aO _ _ _ _ _ (a9 17) aE (by rfl)) (by rfl))) (fQ (a9 21) (a9 12) fR)) (@aK _ _ _ _ _ (eZ (@aq _ _ _ _ _ (@aO _ _ _ _ _ (@aM _ _ _ _ _ _ _ _ (show bT _ (binaryOp .Add) (jT K) from ma) (a9 14) (@aq _ _ _ _ _ (@aO _ _ _ _ _ (@aq _ _ _ _ _ (@aO _ _ _ _ _ (@aG _ _ _ _ _ _ _ (show aH _ (af K) from ag) (a9 2) aD (λ_ _=>rfl)) (@aO _ _ _ _ _ (a9 6) aE (by rfl)) (by rfl))) aE (by rfl)))) (@aO _ _ _ _ _ (@aM _ _ _ _ _ _ _ _ kG (a9 15) (@bu _ _ _ _ (@aO _ _ _ _ _ (a9 16) aE (by rfl)))) aE (by rfl)) (by rfl))) (fQ (a9 22) (a9 12) fR)) hW28)))); ?_);refine(let W19:TS:=_; have hW19:bQ XX ((bP fg).drop 19) W19:=(@aK _ _ _ _ _ (@al _ _ 20 _ _ _ _ cN.nd rfl (Or.inr rfl) (bG T.zY QS (hr.mono (by decide)) (@aO _ _ _ _ _ (a9 19) (@aO _ _ _ _ _ (bG T.zS QY (hr.mono (by decide)) (@aO _ _ _ _ _ (a9 17) aE (by rfl))) aE (by rfl)) (by rfl))) (by rfl) (by walk_at "f")) (@cx _ _ _ _ _ (@al _ _ 21 _ _ _ _ cN.nd rfl (Or.inl rfl) (@bu _ _ _ _ (@aO _ _ _ _ _ (@aq _ _ _ _ _ (@aO _ _ _ _ _ (@bu _ _ _ _ aE) (@aO _ _ _ _ _ (@aq _ _ _ _ _ (@aO _ _ _ _ _ aS (@aO _ _ _ _ _ (@aq _ _ _ _ _ (@aO _ _ _ _ _ aS (@aO _ _ _ _ _ aD aE (by rfl)) (by rfl))) aE (by rfl)) (by rfl))) aE (by rfl)) (by rfl))) (@aO _ _ _ _ _ (@aq _ _ _ _ _ (@aO _ _ _ _ _ (@bu _ _ _ _ aE) (@aO _ _ _ _ _ (@aq _ _ _ _ _ (@aO _ _ _ _ _ aS (@aO _ _ _ _ _ aD aE (by rfl)) (by rfl))) aE (by rfl)) (by rfl))) (@aO _ _ _ _ _ (@aq _ _ _ _ _ (@aO _ _ _ _ _ (@bu _ _ _ _ aE) (@aO _ _ _ _ _ (@aq _ _ _ _ _ (@aO _ _ _ _ _ aS (@aO _ _ _ _ _ (@aq _ _ _ _ _ (@aO _ _ _ _ _ aS (@aO _ _ _ _ _ aD aE (by rfl)) (by rfl))) aE (by rfl)) (by rfl))) aE (by rfl)) (by rfl))) aE (by rfl)) (by rfl)) (by rfl))) (by rfl) (by walk_at "f")) (@cx _ _ _ _ _ (wk (i:=22) cN.nd rfl (Or.inl rfl) (N':=["_law_spot","_law_words","_law_base","_law_names_here"]) (js:=[none,some 2,some 14,some 3]) (by kernel_rfl) rfl (gN (a9 21)) ff (λ_ _ _ _=>(bU (i:=0) (show(["_law_spot","_law_words","_law_base","_law_names_here"]:List Str).Nodup by decide +kernel) rfl (Or.inl rfl) (.inr rfl))) (λ_ _ _ _=>gK) (λ_ _ _ _=>(@aq _ _ _ _ _ (@aO _ _ _ _ _ (@aq _ _ _ _ _ (@aO _ _ _ _ _ (@aq _ _ _ _ _ (@aO _ _ _ _ _ (@aG _ _ _ _ _ _ _ (show aH _ (af K) from ag) (a9 1) (@aM _ _ _ _ _ _ _ _ (bo cj) aD (cR (show bt _ (.builtin "len") (cr K) from d9) (by rfl) T.b_len ci (@aO _ _ _ _ _ (a9 2) aE (by rfl)))) (λ_ _=>rfl)) (@aO _ _ _ _ _ aD aE (by rfl)) (by rfl))) aE (by rfl))) (@aO _ _ _ _ _ (@bu _ _ _ _ (@aO _ _ _ _ _ (@aM _ _ _ _ _ _ _ _ lH (@bu _ _ _ _ (@aO _ _ _ _ _ eK aE (by rfl))) (@aG _ _ _ _ _ _ _ (show aH _ (af K) from ag) (@bu _ _ _ _ (@aO _ _ _ _ _ (cR (show bt _ (.builtin "len") (cr K) from d9) (by rfl) T.b_len ci (@aO _ _ _ _ _ (a9 3) aE (by rfl))) (@aO _ _ _ _ _ aD aE (by rfl)) (by rfl))) (cR (show bt _ (.builtin "len") (cr K) from d9) (by rfl) T.b_len ci (@aO _ _ _ _ _ (a9 2) aE (by rfl))) (λ_ _=>rfl))) aE (by rfl))) aE (by rfl)) (by rfl)))) (by rfl)) (@cx _ _ _ _ _ (@al _ _ 23 _ _ _ _ cN.nd rfl (Or.inl rfl) (@aM _ _ _ _ _ _ _ _ (show bT _ (binaryOp .Add) (jT K) from ma) (a9 14) (@aq _ _ _ _ _ (@aO _ _ _ _ _ (@aq _ _ _ _ _ (@aO _ _ _ _ _ (@aG _ _ _ _ _ _ _ (show aH _ (af K) from ag) (a9 2) aD (λ_ _=>rfl)) (@aO _ _ _ _ _ (@aM _ _ _ _ _ _ _ _ (bo cj) (a9 6) aD) aE (by rfl)) (by rfl))) aE (by rfl)))) (by rfl) (by walk_at "f")) (@cx _ _ _ _ _ (@al _ _ 24 _ _ _ _ cN.nd rfl (Or.inl rfl) (@aM _ _ _ _ _ _ _ _ (show bT _ (binaryOp .Add) (jT K) from ma) (a9 14) (@aq _ _ _ _ _ (@aO _ _ _ _ _ (@aq _ _ _ _ _ (@aO _ _ _ _ _ (@aG _ _ _ _ _ _ _ (show aH _ (af K) from ag) (a9 2) aD (λ_ _=>rfl)) (@aO _ _ _ _ _ (@aM _ _ _ _ _ _ _ _ (bo cj) (a9 6) (ce iO (by rfl) T.b_int iG (@aO _ _ _ _ _ (DN (dS (bo jp) (@aM _ _ _ _ _ _ _ _ (aU bH) (@aG _ _ _ _ _ _ _ (show aH _ (af K) from ag) (a9 1) aD (λ_ _=>rfl)) aD) aD (aX _)) (i5 (dS au (a9 11) aD (aX _)))) aE (by rfl)))) aE (by rfl)) (by rfl))) aE (by rfl)))) (by rfl) (by walk_at "f")) hW24))))); ?_);refine(let W16:TS:=_; have hW16:bQ XX ((bP fg).drop 16) W16:=(@aK _ _ _ _ _ (@al _ _ 17 _ _ _ _ cN.nd rfl (Or.inl rfl) (bG T.zP QQ (hr.mono (by decide)) (@aO _ _ _ _ _ (a9 7) (@aO _ _ _ _ _ (bG T.zf QW (hr.mono (by decide)) (@aO _ _ _ _ _ (a9 1) (@aO _ _ _ _ _ (a9 11) aE (by rfl)) (by rfl))) (@aO _ _ _ _ _ (a9 3) (@aO _ _ _ _ _ (a9 16) (@aO _ _ _ _ _ (a9 5) (@aO _ _ _ _ _ (a9 2) (@aO _ _ _ _ _ (a9 13) aE (by rfl)) (by rfl)) (by rfl)) (by rfl)) (by rfl)) (by rfl)) (by rfl))) (by rfl) (by walk_at "f")) (@aK _ _ _ _ _ (@al _ _ 18 _ _ _ _ cN.nd rfl (Or.inr rfl) (@aM _ _ _ _ _ _ _ _ kG (a9 15) (@bu _ _ _ _ (@aO _ _ _ _ _ (bG T.zW Q1 (hr.mono (by decide)) (@aO _ _ _ _ _ (a9 7) (@aO _ _ _ _ _ (a9 17) (@aO _ _ _ _ _ (a9 3) (@aO _ _ _ _ _ (a9 16) aE (by rfl)) (by rfl)) (by rfl)) (by rfl))) aE (by rfl)))) (by rfl) (by walk_at "f")) (@aK _ _ _ _ _ (@al _ _ 19 _ _ _ _ cN.nd rfl (Or.inl rfl) (bG T.ze QR (hr.mono (by decide)) (@aO _ _ _ _ _ (@aG _ _ _ _ _ _ _ (show aH _ (af K) from ag) (a9 1) aD (λ_ _=>rfl)) (@aO _ _ _ _ _ (bG T.zU QX (hr.mono (by decide)) (@aO _ _ _ _ _ (a9 18) aE (by rfl))) (@aO _ _ _ _ _ (a9 5) aE (by rfl)) (by rfl)) (by rfl))) (by rfl) (by walk_at "f")) hW19))); ?_);refine(let W14:TS:=_; have hW14:bQ XX ((bP fg).drop 14) W14:=(@aK _ _ _ _ _ (@al _ _ 15 _ _ _ _ cN.nd rfl (Or.inl rfl) (@aM _ _ _ _ _ _ _ _ lH (@bu _ _ _ _ (@aO _ _ _ _ _ (bG T.rL Qs (hr.mono (by decide)) (@aO _ _ _ _ _ (@aG _ _ _ _ _ _ _ (show aH _ (af K) from ag) (a9 1) aD (λ_ _=>rfl)) (@aO _ _ _ _ _ aD (@aO _ _ _ _ _ (a9 5) (@aO _ _ _ _ _ (a9 11) aE (by rfl)) (by rfl)) (by rfl)) (by rfl))) aE (by rfl))) (cR (show bt _ (.builtin "len") (cr K) from d9) (by rfl) T.b_len ci (@aO _ _ _ _ _ (a9 14) aE (by rfl)))) (by rfl) (by walk_at "f")) (@aK _ _ _ _ _ (@al _ _ 16 _ _ _ _ cN.nd rfl (Or.inl rfl) (bG T.rL Qs (hr.mono (by decide)) (@aO _ _ _ _ _ (@aG _ _ _ _ _ _ _ (show aH _ (af K) from ag) (a9 1) aD (λ_ _=>rfl)) (@aO _ _ _ _ _ (cR (show bt _ (.builtin "len") (cr K) from d9) (by rfl) T.b_len ci (@aO _ _ _ _ _ (a9 3) aE (by rfl))) (@aO _ _ _ _ _ (a9 5) (@aO _ _ _ _ _ (a9 11) aE (by rfl)) (by rfl)) (by rfl)) (by rfl))) (by rfl) (by walk_at "f")) hW16)); ?_);refine(let W10:TS:=_; have hW10:bQ XX ((bP fg).drop 10) W10:=(@aK _ _ _ _ _ (@al _ _ 11 _ _ _ _ cN.nd rfl (Or.inr rfl) (@aM _ _ _ _ _ _ _ _ (aU bH) (@aG _ _ _ _ _ _ _ (show aH _ (af K) from ag) (a9 1) aD (λ_ _=>rfl)) aD) (by rfl) (by walk_at "f")) (@aK _ _ _ _ _ (@al _ _ 12 _ _ _ _ cN.nd rfl (Or.inl rfl) (@aM _ _ _ _ _ _ _ _ (aU bH) (@aM _ _ _ _ _ _ _ _ (aU bj) (@aG _ _ _ _ _ _ _ (show aH _ (af K) from ag) (a9 1) aD (λ_ _=>rfl)) aD) aD) (by rfl) (by walk_at "f")) (@aK _ _ _ _ _ (@al _ _ 13 _ _ _ _ cN.nd rfl (Or.inl rfl) (@aM _ _ _ _ _ _ _ _ (aU bH) (@aM _ _ _ _ _ _ _ _ (bo cj) (@aM _ _ _ _ _ _ _ _ (bo cj) (a9 12) aD) (@aM _ _ _ _ _ _ _ _ (aU bH) (@aM _ _ _ _ _ _ _ _ (aU bj) (@aG _ _ _ _ _ _ _ (show aH _ (af K) from ag) (a9 1) aD (λ_ _=>rfl)) aD) aD)) aD) (by rfl) (by walk_at "f")) (@cx _ _ _ _ _ (@al _ _ 14 _ _ _ _ cN.nd rfl (Or.inr rfl) (@aM _ _ _ _ _ _ _ _ Af (@aq _ _ _ _ _ (@aO _ _ _ _ _ (@aq _ _ _ _ _ (@aO _ _ _ _ _ (@aG _ _ _ _ _ _ _ (show aH _ (af K) from ag) (a9 2) aD (λ_ _=>rfl)) (@aO _ _ _ _ _ aD aE (by rfl)) (by rfl))) aE (by rfl))) (ce iO (by rfl) T.b_int iG (@aO _ _ _ _ _ (dS au (@aM _ _ _ _ _ _ _ _ (aU bH) (@aG _ _ _ _ _ _ _ (show aH _ (af K) from ag) (a9 1) aD (λ_ _=>rfl)) aD) aD (aX _)) aE (by rfl)))) (by rfl) (by walk_at "f")) hW14)))); ?_);refine(let W5:TS:=_; have hW5:bQ XX ((bP fg).drop 5) W5:=(@aK _ _ _ _ _ (@al _ _ 6 _ _ _ _ cN.nd rfl (Or.inl rfl) (@aM _ _ _ _ _ _ _ _ (aU bH) (@aG _ _ _ _ _ _ _ (show aH _ (af K) from ag) (a9 1) aD (λ_ _=>rfl)) aD) (by rfl) (by walk_at "f")) (@aK _ _ _ _ _ (@al _ _ 7 _ _ _ _ cN.nd rfl (Or.inl rfl) (bG T.zd QP (hr.mono (by decide)) (@aO _ _ _ _ _ (a9 1) (@aO _ _ _ _ _ (a9 3) (@aO _ _ _ _ _ (a9 2) aE (by rfl)) (by rfl)) (by rfl))) (by rfl) (by walk_at "f")) (@aK _ _ _ _ _ (@al _ _ 8 _ _ _ _ cN.nd rfl (Or.inl rfl) (@aG _ _ _ _ _ _ _ (show aH _ (af K) from ag) (@bu _ _ _ _ (@aO _ _ _ _ _ (@aq _ _ _ _ _ (@aO _ _ _ _ _ aS (@aO _ _ _ _ _ aD aE (by rfl)) (by rfl))) (@aO _ _ _ _ _ (@aq _ _ _ _ _ (@aO _ _ _ _ _ aS (@aO _ _ _ _ _ (@aG _ _ _ _ _ _ _ (show aH _ (af K) from ag) (a9 3) aD (λ_ _=>rfl)) (@aO _ _ _ _ _ (@aG _ _ _ _ _ _ _ (show aH _ (af K) from ag) (a9 2) aD (λ_ _=>rfl)) (@aO _ _ _ _ _ (ce jn (by rfl) T.b_tuple kN (@aO _ _ _ _ _ (a9 3) aE (by rfl))) aE (by rfl)) (by rfl)) (by rfl)) (by rfl))) aE (by rfl)) (by rfl))) (@aM _ _ _ _ _ _ _ _ (aU bH) (@aM _ _ _ _ _ _ _ _ (aU bj) (@aG _ _ _ _ _ _ _ (show aH _ (af K) from ag) (a9 1) aD (λ_ _=>rfl)) aD) aD) (λ_ _=>rfl)) (by rfl) (by walk_at "f")) (@aK _ _ _ _ _ (@al _ _ 9 _ _ _ _ cN.nd rfl (Or.inl rfl) (ce jn (by rfl) T.b_tuple kN (@aO _ _ _ _ _ (@aM _ _ _ _ _ _ _ _ kG (@aM _ _ _ _ _ _ _ _ lH (@bu _ _ _ _ (@aO _ _ _ _ _ (@aq _ _ _ _ _ (@aO _ _ _ _ _ aS (@aO _ _ _ _ _ (@aG _ _ _ _ _ _ _ (show aH _ (af K) from ag) (a9 3) aD (λ_ _=>rfl)) (@aO _ _ _ _ _ aD aE (by rfl)) (by rfl)) (by rfl))) aE (by rfl))) (a9 6)) (@bu _ _ _ _ (@aO _ _ _ _ _ (a9 7) (@aO _ _ _ _ _ (a9 8) (@aO _ _ _ _ _ (@aq _ _ _ _ _ (@aO _ _ _ _ _ aS (@aO _ _ _ _ _ aD aE (by rfl)) (by rfl))) aE (by rfl)) (by rfl)) (by rfl)))) aE (by rfl))) (by rfl) (by walk_at "f")) (@cx _ _ _ _ _ (@al _ _ 10 _ _ _ _ cN.nd rfl (Or.inl rfl) (@bu _ _ _ _ (@aO _ _ _ _ _ (@aq _ _ _ _ _ (@aO _ _ _ _ _ (@aG _ _ _ _ _ _ _ (show aH _ (af K) from ag) (a9 2) aD (λ_ _=>rfl)) (@aO _ _ _ _ _ dL (@aO _ _ _ _ _ (ce jn (by rfl) T.b_tuple kN (@aO _ _ _ _ _ (a9 3) aE (by rfl))) (@aO _ _ _ _ _ (a9 9) aE (by rfl)) (by rfl)) (by rfl)) (by rfl))) (@aO _ _ _ _ _ (bG T.za QV (hr.mono (by decide)) (@aO _ _ _ _ _ (@gk _ _ _ _ _ _ _ _ _ _ uY (a9 2) (hU aD) gm) (@aO _ _ _ _ _ (a9 4) (@aO _ _ _ _ _ (cR (show bt _ (.builtin "len") (cr K) from d9) (by rfl) T.b_len ci (@aO _ _ _ _ _ (a9 3) aE (by rfl))) aE (by rfl)) (by rfl)) (by rfl))) aE (by rfl)) (by rfl))) (by rfl) (by walk_at "f")) hW10))))); ?_);obtain⟨a,ns,rfl,hS,hL,q⟩:=h;refine#[_,(@aK _ _ _ _ _ (@al _ _ 1 _ _ _ _ cN.nd rfl (Or.inr rfl) (fX (N':=["_law_k","_law_script"]) (js:=[none,some 0]) (by kernel_rfl) rfl (ge rfl T.b_range (@aO _ _ _ _ _ aD aE (by rfl))) ff (λ_ _ _ _=>(bU (i:=0) (show(["_law_k","_law_script"]:List Str).Nodup by decide +kernel) rfl (Or.inl rfl) (.inr rfl))) (λ_ _ _ _=>gK) (λ_ _ _ _=>(bG T.zR QU (hr.mono (by decide)) (@aO _ _ _ _ _ (a9 1) (@aO _ _ _ _ _ (a9 0) aE (by rfl)) (by rfl))))) (by rfl) (by walk_at "f")) (@aK _ _ _ _ _ (@al _ _ 2 _ _ _ _ cN.nd rfl (Or.inr rfl) (bG T.nK Qq (hr.mono (by decide)) (@aO _ _ _ _ _ (@aG _ _ _ _ _ _ _ (show aH _ (af K) from ag) (a9 1) aD (λ_ _=>rfl)) (@aO _ _ _ _ _ aD aE (by rfl)) (by rfl))) (by rfl) (by walk_at "f")) (@aK _ _ _ _ _ (@al _ _ 3 _ _ _ _ cN.nd rfl (Or.inr rfl) (bG T.nK Qq (hr.mono (by decide)) (@aO _ _ _ _ _ (@aG _ _ _ _ _ _ _ (show aH _ (af K) from ag) (a9 1) aD (λ_ _=>rfl)) (@aO _ _ _ _ _ (@aM _ _ _ _ _ _ _ _ (bo cj) aD (@aM _ _ _ _ _ _ _ _ (aU bH) (@aM _ _ _ _ _ _ _ _ (aU bj) (@aG _ _ _ _ _ _ _ (show aH _ (af K) from ag) (a9 1) aD (λ_ _=>rfl)) aD) aD)) aE (by rfl)) (by rfl))) (by rfl) (by walk_at "f")) (@aK _ _ _ _ _ (@al _ _ 4 _ _ _ _ cN.nd rfl (Or.inl rfl) (bG T.nK Qq (hr.mono (by decide)) (@aO _ _ _ _ _ (@aM _ _ _ _ _ _ _ _ (aU bj) (@aG _ _ _ _ _ _ _ (show aH _ (af K) from ag) (a9 1) aD (λ_ _=>rfl)) aD) (@aO _ _ _ _ _ aD aE (by rfl)) (by rfl))) (by rfl) (by walk_at "f")) (@aK _ _ _ _ _ (@al _ _ 5 _ _ _ _ cN.nd rfl (Or.inr rfl) (@bu _ _ _ _ (@aO _ _ _ _ _ aD (@aO _ _ _ _ _ aD (@aO _ _ _ _ _ aD (@aO _ _ _ _ _ aD (@aO _ _ _ _ _ aD (@aO _ _ _ _ _ aD (@aO _ _ _ _ _ (@aM _ _ _ _ _ _ _ _ (bo cj) aD (@aM _ _ _ _ _ _ _ _ (aU bH) (@aG _ _ _ _ _ _ _ (show aH _ (af K) from ag) (a9 1) aD (λ_ _=>rfl)) aD)) (@aO _ _ _ _ _ (@aM _ _ _ _ _ _ _ _ (bo cj) aD (@aM _ _ _ _ _ _ _ _ (aU bH) (@aM _ _ _ _ _ _ _ _ (aU bj) (@aG _ _ _ _ _ _ _ (show aH _ (af K) from ag) (a9 1) aD (λ_ _=>rfl)) aD) aD)) aE (by rfl)) (by rfl)) (by rfl)) (by rfl)) (by rfl)) (by rfl)) (by rfl)) (by rfl))) (by rfl) (by walk_at "f")) hW5))))),?_];refine ly ?_; intro sg;refine#[_,rfl,by decide,by decide,λcl hcl=>(let Jv1:Nat->List V->Hp->Prop:=λi acc H2=>aB H H2/\H2 cl=some (.lst acc)/\∃zs:List Int,acc=zs.map V.int/\zs.length=i; qm (lo:=0) (n:=18) (by decide) Jv1 #[aB.new hcl,aI,[],rfl,rfl] ?_ ?_ ?_)]
   . rintro i acc H2 hi ⟨s2,e2,zs,rfl,lz⟩;exact#[e2,by rw[IX,lz]; exact Ib _]
   . rintro i acc H2 hi ⟨s2,e2,zs,rfl,lz⟩;refine#[_,rfl,_,rfl,a,ns,_,rfl,s2.seq hS,hL,by omega,λz=>#[e2,s2.upd hcl,aI,zs++[z],?_,by rw[Il,lz]; rfl]];rw[J0];rfl
   rintro acc H1 ⟨-,e_cl,cs,rfl,c18⟩;obtain⟨z2,hz2⟩:=fV (cs:=cs) (j:=2) (by omega);obtain⟨z3,hz3⟩:=fV (cs:=cs) (j:=3) (by omega);obtain⟨z4,hz4⟩:=fV (cs:=cs) (j:=4) (by omega);obtain⟨z5,hz5⟩:=fV (cs:=cs) (j:=5) (by omega);obtain⟨z6,hz6⟩:=fV (cs:=cs) (j:=6) (by omega);obtain⟨z7,hz7⟩:=fV (cs:=cs) (j:=7) (by omega);obtain⟨z10,hz10⟩:=fV (cs:=cs) (j:=10) (by omega);obtain⟨z11,hz11⟩:=fV (cs:=cs) (j:=11) (by omega);obtain⟨z12,hz12⟩:=fV (cs:=cs) (j:=12) (by omega);obtain⟨z15,hz15⟩:=fV (cs:=cs) (j:=15) (by omega);obtain⟨z16,hz16⟩:=fV (cs:=cs) (j:=16) (by omega);obtain⟨c0,c1,cs2,hcs⟩:=IK (l:=cs) (by omega);have F:=(Al.nil (H:=H1)).add e_cl;refine#[_,rfl,cl,_,_,_,rfl,rfl,aJ.of F.2.1,hz12,z12,4,rfl,by decide,λww l4 wwd wwm wl H2 sn hwl e_wl=>?_];have F:=F.mono sn; have F:=F.re; have F:=F.add e_wl
   obtain⟨w0,w1,n0,n1,rfl⟩:=Ek l4;have nw0:=wwm w0 (by simp);have nw1:=wwm w1 (by simp);have on0:=wwm n0 (by simp);have on1:=wwm n1 (by simp);have ond:[n0,n1].Nodup:=(Jh.mp (Jh.mp wwd).2).2;have b3:=dP (z2 / 18) 3 (by decide);obtain⟨nn,hnn⟩:∃nn:Nat,3+z2 / 18%3=(nn:Int):=#[(3+z2 / 18%3).toNat,by omega]
   refine#[_,rfl,cl,_,_,_,rfl,rfl,aJ.of F.2.2.1,hz3,_,rfl,cl,_,_,_,rfl,rfl,aJ.of F.2.2.1,hz2,_,_,rfl,rfl,#[by decide,by decide],_,_,rfl,rfl,(show(0:Int)<3 by decide),_,_,rfl,rfl,z3,nn,(by show [V.int z3,V.int (3+z2 / 18%3)]=_; rw[hnn]),by omega,λws w2 wnd wnm nl H3 sn hnl e_nl=>?_];have F:=F.mono sn; have F:=F.re; have F:=F.add e_nl
   refine#[_,rfl,cl,_,_,_,rfl,rfl,aJ.of (F.g 2 rfl),hz15,_,_,rfl,rfl,#[by decide,by decide],_,2,rfl,by decide,λuw u2 und unm ul H4 sn hul e_ul=>?_];have F:=F.mono sn; have F:=F.re; have F:=F.add e_ul
   obtain⟨o0,o1,rfl⟩:=Hv u2;refine#[_,rfl,cl,_,_,_,rfl,rfl,aJ.of (F.g 3 rfl),hz4,_,_,rfl,rfl,(show(0:Int)<61 by decide),_,_,rfl,rfl,_,rfl,cl,_,_,_,rfl,rfl,aJ.of (F.g 3 rfl),hz4,_,_,rfl,rfl,#[by decide,by decide],_,_,rfl,rfl,(show(0:Int)<61 by decide),_,_,rfl,rfl,(by show 8<=sizeLine; decide),λbl k=>?_];have hbs:gX [0,1,2,3,4,5,6+z4%61,67+z4 / 61%61]:=#[rfl,λb hb=>by have y1:=dP z4 61 (by decide);have y2:=dP (z4 / 61) 61 (by decide);simp only[Io,JK,or_false] at hb;omega]
   have F:=F.new (o:=.lst [V.int 0,V.int 1,V.int 2,V.int 3,V.int 4,V.int 5,V.int (6+z4%61),V.int (67+z4 / 61%61)]) k; generalize upd H4 bl _=B1 at F ⊢;have F:Al H4 B1 ((bl,.lst ([0,1,2,3,4,5,6+z4%61,67+z4 / 61%61].map V.int)) :: _):=F;have hb8:[0,1,2,3,4,5,6+z4%61,67+z4 / 61%61].length=8:=rfl;generalize [0,1,2,3,4,5,6+z4%61,67+z4 / 61%61]=bs at F hbs hb8;have b3a:=dP z2 3 (by decide);obtain⟨n,hn⟩:∃n:Nat,z2%3=(n:Int):=#[(z2%3).toNat,by omega]
   have n3:n<3:=by omega
   refine#[_,rfl,cl,_,_,_,rfl,rfl,aJ.of (F.g 4 rfl),hz2,_,_,rfl,rfl,(show(0:Int)<3 by decide),?_];rw[hn];refine#[_,rfl,_,rfl,_,rfl,cl,nl,wl,c0,c1,cs2,ws,w0,w1,_,rfl,(by rw[<- hcs]; exact aJ.of (F.g 4 rfl)),aJ.of (F.g 2 rfl),aJ.of (F.g 3 rfl),by omega,wnm,nw0,nw1,λr rg H6 sn hr0 hrow hrg hrw=>?_];have F:=F.mono sn; have F:=F.re
   obtain⟨m0,m1,hi0,hi1,hm0,hm1⟩:=ot (ws:=ws) (by omega);refine#[ay,λx1_ k=>?_];have F:=F.new (o:=.tup [V.str "out",.int 1]) k; generalize upd H6 x1_ _=B2 at F ⊢;refine#[_,rfl,nl,_,_,_,rfl,rfl,aJ.of (F.g 3 rfl),hi0,_,rfl,wl,_,_,_,rfl,rfl,aJ.of (F.g 4 rfl),rfl,_,rfl,nl,_,rfl,.inl #[aJ.of (F.g 3 rfl),λx2_ k=>?_]];have F:=F.new (o:=.tup (ws.map V.str)) k; generalize upd B2 x2_ _=B3 at F ⊢;refine#[eI,λx3_ k=>?_];have F:=F.new (o:=.tup [V.str "call",.str m0,.str n0,.ref x2_]) k; generalize upd B3 x3_ _=B4 at F ⊢;refine#[ay,λx4_ k=>?_];have F:=F.new (o:=.lst [V.ref x1_,V.ref x3_]) k; generalize upd B4 x4_ _=B5 at F ⊢;have b2:=dP (z2 / 3) 2 (by decide);obtain⟨v8,a8,b8⟩:=Bc (x:=V.ref x1_) (y:=V.ref x3_) b2.1 b2.2;refine#[_,rfl,cl,_,_,_,rfl,rfl,aJ.of (F.g 8 rfl),hz2,_,_,rfl,rfl,#[by decide,by decide],_,_,rfl,rfl,(show(0:Int)<2 by decide),x4_,_,_,_,rfl,rfl,aJ.of F.2.1,a8,?_];obtain⟨nx,rfl,nxk,nxo⟩:∃nx:K41.RR,v8=V.ref nx.w.r/\(nx.w.k="out"\/nx.w.k="call")/\dI K B5 ws nx:=by
     rcases b8 with rfl|rfl
     . exact#[_,rfl,.inl rfl,jl wnm (.out (.int 1)) (.inl rfl) (aF.of (F.g 3 rfl)) (.inl #[1,rfl])]
     . refine#[_,rfl,.inr rfl,rY wnm (aF.of F.2.2.1) (aF.of (F.g 2 rfl)) hm0 on0 (λv hv=>?_) (by rw[IX]; omega)];obtain⟨s,hs,rfl⟩:=J3.mp hv;exact .inr #[s,hs,rfl]
   have hrow:=F.1.tup hrow; have hrw:=hrw.mono F.1; have F:=F.re
   refine#[_,rfl,nl,_,_,_,rfl,rfl,aJ.of (F.g 6 rfl),hi1,cV,λrp k=>?_];have F:=F.new (o:=.tup [V.str "copy",.str m1,.int 5]) k; generalize upd B5 rp _=B6 at F ⊢;refine#[dE,λlp k=>?_];have F:=F.new (o:=.lst [V.ref rp]) k; generalize upd B6 lp _=B7 at F ⊢;refine#[_,rfl,lp,_,_,rfl,rfl,F.2.1,by omega,by omega,cb (by rw[JF]; show 1 * n<_; omega),λpp k=>?_];rw[qc,JF];have F:=F.new (o:=.lst (List.replicate n (V.ref rp))) k; generalize upd B7 pp _=B8 at F ⊢;refine#[_,rfl,_,rfl,ay,λzb k=>?_];have F:=F.new (o:=.tup [V.str "back",.int 0]) k; generalize upd B8 zb _=B9 at F ⊢;refine#[cV,λzl k=>?_];have F:=F.new (o:=.lst [V.ref r,V.ref nx.w.r,V.ref zb]) k; generalize upd B9 zl _=B10 at F ⊢;refine#[pp,zl,_,_,rfl,rfl,(F.g 2 rfl),F.2.1,cb (by rw[JA]; show n+3<_; omega),λzc k=>?_];have F:=F.new (o:=.lst (List.replicate n (V.ref rp)++[V.ref r,V.ref nx.w.r,V.ref zb])) k; generalize upd B10 zc _=B11 at F ⊢;refine#[zc,_,rfl,.inl #[aJ.of F.2.1,λtr k=>?_]];have F:=F.new (o:=.tup (List.replicate n (V.ref rp)++[V.ref r,V.ref nx.w.r,V.ref zb])) k; generalize upd B11 tr _=B12 at F ⊢;have hRs:Rs4 K B12 ws [w0,w1] (List.replicate n ((RG.copy m1 (.int 5)).rr rp)++[rg.rr r,nx,(RG.back (.int 0)).rr zb]) n rg r:=Fb n3 (FD wnm (aF.of (F.g 6 rfl)) hm1 (.inl #[_,rfl])) (hrw.mono F.1) (nxo.mono F.1) nxk (jl wnm (.back (.int 0)) (.inr (.inl rfl)) (aF.of (F.g 3 rfl)) (.inl #[0,rfl])) (F.1.tup hrow) hrg;have htr:aF K B12 tr ((List.replicate n ((RG.copy m1 (.int 5)).rr rp)++[rg.rr r,nx,(RG.back (.int 0)).rr zb]).map λx=>V.ref x.w.r):=by rw[IG]; exact aF.of F.2.1
   generalize List.replicate n ((RG.copy m1 (.int 5)).rr rp)++[rg.rr r,nx,(RG.back (.int 0)).rr zb]=rr at hRs htr;have hrow:=F.1.tup hrow; have hrw:=hrw.mono F.1; have nxo:=nxo.mono F.1; have F:=(Al.nil (H:=B12)) |>.add (F.g 15 rfl) |>.add (F.g 14 rfl) |>.add (F.g 13 rfl) |>.add (F.g 12 rfl) |>.add (F.g 11 rfl)
   refine#[λσ' G=>∃(pr:Addr) (F1 Fo:F2.Fd),σ'=[some (.ref a),some (.ref cl),some (.ref wl),some (.ref nl),some (.ref ul),some (.ref bl),some (.int (n:Int)),some (.ref r),some (.ref nx.w.r),some (.ref tr),some (.ref pr),none,none,none,none,none,none,none,none,none,none,none,none,none,none,none]/\aB B12 G/\G pr=some (.lst [V.ref F1.fa,V.ref Fo.fa])/\Bd4 K G ws [w0,w1] rr n rg r F1 Fo n0 n1 [o0,o1],?_,?_]
   . refine#[_,rfl,wl,_,_,_,rfl,rfl,aJ.of (F.g 3 rfl),rfl,_,rfl,nl,_,rfl,.inl #[aJ.of (F.g 2 rfl),λtn k_tn=>?_]];have F:=F.new (o:=.tup (ws.map V.str)) k_tn; generalize upd B12 tn _=B13 at F ⊢;refine#[_,rfl,eI,λf1 k=>?_];have F:=F.new (o:=.tup [V.str n0,.bl false,.ref tn,.ref tr]) k; generalize upd B13 f1 _=B14 at F ⊢;refine#[_,rfl,_,rfl,wl,_,rfl,aJ.of (F.g 5 rfl),λol k_ol=>?_];rw[show ck ([w0,w1,n0,n1].map V.str) (some 2) none=[V.str n0,V.str n1] from rfl];have F:=F.new (o:=.lst [V.str n0,V.str n1]) k_ol; generalize upd B14 ol _=B15 at F ⊢;refine#[_,rfl,_,rfl,nl,_,rfl,.inl (aJ.of (F.g 5 rfl)),ol,ul,n0,n1,o0,o1,_,rfl,aJ.of F.2.1,aJ.of (F.g 4 rfl),on0,on1,und,unm,(by rw[IX]; omega),λFo H7 sn fFo nFo mFo rFo dFo=>#[ay,λpr k_pr=>?_]];have F:=F.mono sn;have hP:aF K H7 tn (ws.map V.str):=aF.of (F.g 2 rfl);have hRs:=hRs.mono F.1;have fn:=uT (K:=K) rr (aF.of F.2.2.1) (F.1.tup htr) (λx hx=>(hRs.ok x hx).1.1) hP wnm (by omega) (by have:=hRs.ln; omega) hRs.wf;have sn:=aB.new (o:=.lst [V.ref f1,V.ref Fo.fa]) k_pr;refine#[pr,_,Fo,rfl,F.1.trans sn,aI,#[hRs.mono sn,F2.FnAt.mono sn fn,F2.FnAt.mono sn fFo,bJ.mono (bJ.tup (n:=5) (aF.of F.2.2.1) (.cons (.str on0.2) (.cons .bl (.cons (bJ.tup (n:=4) hP (bp.of λv hv=>?_)) (.cons (bJ.tup (n:=4) (F.1.tup htr) (bp.of λv hv=>?_)) .nil))))) sn,bJ.mono dFo sn,rfl,sD wnd λd hd=>?_,rfl,nFo,mFo,rFo]]
     . obtain⟨s,hs,rfl⟩:=J3.mp hv;exact .str (wnm s hs).2
     . obtain⟨x,hx,rfl⟩:=J3.mp hv;exact((hRs.ok x hx).1.2).up (by decide)
     . obtain⟨x,hx,rfl⟩:=J3.mp hd;exact(hRs.ok x hx).2
   clear hRs htr hrow hrw;rintro σ' H7 ⟨pr,F1,Fo,rfl,sn,e_pr,bd⟩;refine ly ?_; intro sg;have F:=F.mono sn; have nxo:=nxo.mono F.1; have F:=F.re; have F:=F.add e_pr
   have F:=(Al.nil (H:=H7)) |>.add (F.g 5 rfl) |>.add (F.g 4 rfl) |>.add (F.g 3 rfl) |>.add F.2.2.1 |>.add F.2.1;have b2:=dP z5 2 (by decide);refine#[_,rfl,cl,_,_,_,rfl,rfl,aJ.of (F.g 4 rfl),hz5,_,_,rfl,rfl,(show(0:Int)<2 by decide),?_];have b4:=dP (z5 / 2) 3 (by decide);obtain⟨kk,hkk⟩:∃kk:Nat,z5 / 2%3=(kk:Int):=#[(z5 / 2%3).toNat,by omega]
   have kk4:kk<3:=by omega
   refine#[_,rfl,cl,_,_,_,rfl,rfl,aJ.of (F.g 4 rfl),hz5,_,_,rfl,rfl,#[by decide,by decide],_,_,rfl,rfl,(show(0:Int)<3 by decide),?_];rw[hkk];have b7:=dP ((kk:Int)+1+z5 / 6%2) 3 (by decide);obtain⟨on,hon⟩:∃on:Nat,((kk:Int)+1+z5 / 6%2)%3=(on:Int):=#[(((kk:Int)+1+z5 / 6%2)%3).toNat,by omega]
   have on3:on<3:=by omega
   refine#[_,rfl,_,_,rfl,rfl,_,rfl,cl,_,_,_,rfl,rfl,aJ.of (F.g 4 rfl),hz5,_,_,rfl,rfl,#[by decide,by decide],_,_,rfl,rfl,(show(0:Int)<2 by decide),_,_,rfl,rfl,_,_,rfl,rfl,(show(0:Int)<3 by decide),?_];rw[hon];generalize z5%2=cm at b2 ⊢;clear hkk hon b4 b7;refine#[λσ' G=>∃(bA:Addr) (m:Nat) (bs':List V),σ'=[some (.ref a),some (.ref cl),some (.ref wl),some (.ref nl),some (.ref ul),some (.ref bl),some (.int (n:Int)),some (.ref r),some (.ref nx.w.r),some (.ref tr),some (.ref pr),some (.int cm),some (.int (kk:Int)),some (.int (on:Int)),some (.ref bA),none,none,none,none,none,none,none,none,none,none,none]/\aB H7 G/\m<=1/\aF K G bA bs'/\Rk2.Ps (iA K G) bs' (List.replicate m (n1,0)),?_,?_]
   . have F:=F.re;refine#[_,rfl,wl,_,_,_,rfl,rfl,aJ.of (F.g 3 rfl),rfl,ay,λq1 k=>?_];have F:=F.new (o:=.tup [V.str n1,.int 0]) k; generalize upd H7 q1 _=B13 at F ⊢;refine#[dE,λq2 k=>?_];have F:=F.new (o:=.tup [V.ref q1]) k; generalize upd B13 q2 _=B14 at F ⊢;refine#[_,rfl,cl,_,_,_,rfl,rfl,aJ.of (F.g 6 rfl),hz15,_,_,rfl,rfl,(show(0:Int)<3 by decide),rfl,.inr #[_,rfl,q2,_,_,rfl,rfl,aF.of F.2.1,by simp,by split <;> decide,by split <;> decide,(by show(1:Int) * _<=1000; split <;> decide),λ_=>#[q2,1,_,rfl,F.1,Ib _,aF.of F.2.1,#[q1,rfl,aF.of F.2.2.1],trivial],λh p hp=>?_]];have h0:(if decide (V.int (z15%3)=V.int 0)=true then(1:Int) else 0)=0:=by
       split
       . rename_i hh; exact absurd (Ig hh) h
       . rfl
     rw[h0];exact#[p,0,[],rfl,F.1.trans (aB.new hp),J2 _,aF.of aI,trivial]
   rintro σ' B ⟨bA,m,bs',rfl,sn,m1_,hbA,pbA⟩;refine ly ?_; intro sg;have F:=F.mono sn; have nxo:=nxo.mono F.1; have bd:=bd.mono F.1; have F:=F.re
   have lbs:=Rk2.Ps.len pbA;rw[JA] at lbs;refine#[_,rfl,cl,_,_,_,rfl,rfl,aJ.of (F.g 4 rfl),hz16,_,rfl,_,rfl,z16,2,bl,bs,cm,rfl,by decide,aJ.of F.2.2.1,hbs,b2.1,λva ua vA H9 sn hva e_va p_va ⟨l_va,v9a,noa⟩=>?_];have F:=F.mono sn; have nxo:=nxo.mono F.1; have bd:=bd.mono F.1; have hbA:=F.1.tup hbA; have pbA:=Rk2.Ps.imp (λ_ _ z=>z.mono F.1) pbA; have F:=F.re; have F:=F.add e_va
   refine#[dE,λla k=>?_];have F:=F.new (o:=.lst [V.ref va]) k; generalize upd H9 la _=B13 at F ⊢;refine#[_,rfl,bA,_,rfl,.inr (F.1.tup hbA),la,_,_,rfl,rfl,F.2.1,by omega,by omega,cb (by rw[JF,lbs]; show 1 * m<_; omega),λaA k=>?_];rw[qc,JF,lbs];have F:=F.new (o:=.lst (List.replicate m (V.ref va))) k; generalize upd B13 aA _=B14 at F ⊢;refine#[_,rfl,cl,_,_,_,rfl,rfl,aJ.of (F.g 7 rfl),hz6,_,rfl,nl,_,rfl,.inl (aJ.of (F.g 5 rfl)),_,rfl,_,rfl,z6,_,bl,bs,cm,rfl,(by rw[IX]; omega),aJ.of (F.g 4 rfl),hbs,b2.1,λvv uv vw H10 sn hvv e_vv p_vv ⟨l_vv,v9v,nov⟩=>?_];have F:=F.mono sn; have nxo:=nxo.mono F.1; have bd:=bd.mono F.1; have hbA:=F.1.tup hbA; have pbA:=Rk2.Ps.imp (λ_ _ z=>z.mono F.1) pbA; have p_va:=Rk2.Ps.imp (λ_ _ z=>aZ.mono z F.1) p_va; have F:=F.re; have F:=F.add e_vv
   rw[IX] at l_vv;have hrow:=bd.r_.it;refine#[_,rfl,_,rfl,_,rfl,cl,cs,cm,rfl,aJ.of (F.g 8 rfl),by omega,by omega,λtl t0 t1 t2 t3 k=>?_];have F:=F.new (o:=.lst [V.int t0,V.int t1,V.int t2,V.int t3]) k; generalize upd H10 tl _=B15 at F ⊢;refine#[_,rfl,_,rfl,_,rfl,_,rfl,_,rfl,r,tl,nl,vv,bl,wl,on,rg,t0,t1,t2,t3,ws,uv,vw,bs,w0,w1,_,rfl,(F.1.tup hrow),hrg,aJ.of F.2.1,aJ.of (F.g 7 rfl),aJ.of F.2.2.1,(Rk2.Ps.imp (λ_ _ z=>aZ.mono z F.1) p_vv),l_vv,by omega,v9v,nov,aJ.of (F.g 6 rfl),hbs,hb8,aJ.of (F.g 8 rfl),nw0,nw1,λac as fb H11 sn hac hAc=>?_];have F:=F.mono sn; have nxo:=nxo.mono F.1; have bd:=bd.mono F.1; have hbA:=F.1.tup hbA; have pbA:=Rk2.Ps.imp (λ_ _ z=>z.mono F.1) pbA; have p_va:=Rk2.Ps.imp (λ_ _ z=>aZ.mono z F.1) p_va; have p_vv:=Rk2.Ps.imp (λ_ _ z=>aZ.mono z F.1) p_vv; have hrow:=F.1.tup hrow; have F:=F.re
   obtain⟨kd,rest,rfl,-⟩:=hAc.kd;have F:=(Al.nil (H:=H11)) |>.add (F.g 9 rfl) |>.add (F.g 8 rfl) |>.add (F.g 7 rfl) |>.add (F.g 6 rfl) |>.add (F.g 5 rfl) |>.add (F.g 4 rfl) |>.add (F.g 2 rfl) |>.add F.2.2.1;refine#[_,rfl,_,rfl,_,rfl,_,rfl,_,rfl,r,ac,nl,vv,rg,kd,rest,ws,[w0,w1],uv,vw,rfl,hrow,hrg,hac,aJ.of (F.g 5 rfl),aJ.of F.2.1,p_vv,l_vv,by omega,λbh ub kb H12 sn hbh e_bh p_bh hkb=>?_];have F:=F.mono sn; have nxo:=nxo.mono F.1; have bd:=bd.mono F.1; have hbA:=F.1.tup hbA; have pbA:=Rk2.Ps.imp (λ_ _ z=>z.mono F.1) pbA; have p_va:=Rk2.Ps.imp (λ_ _ z=>aZ.mono z F.1) p_va; have p_vv:=Rk2.Ps.imp (λ_ _ z=>aZ.mono z F.1) p_vv; have hrow:=F.1.tup hrow; have hac:=F.1.tup hac; have hAc:=hAc.mono F.1; have F:=F.re; have F:=F.add e_bh
   subst hkb;refine#[dE,λlb k=>?_];have F:=F.new (o:=.lst [V.ref bh]) k; generalize upd H12 lb _=B16 at F ⊢;refine#[aA,lb,_,_,rfl,rfl,(F.g 3 rfl),F.2.1,cb (by rw[JA]; show m+1<_; omega),λkn k=>?_];have F:=F.new (o:=.lst (List.replicate m (V.ref va)++[V.ref bh])) k; generalize upd B16 kn _=B17 at F ⊢;have hKn:Rk2.Ps (dM B17) (List.replicate m (V.ref va)++[V.ref bh]) (List.replicate m vA++[cc ws vw rg kd]):=Rk2.Ps.app (mZ (R:=dM B17) #[va,ua,rfl,(F.g 5 rfl),(Rk2.Ps.imp (λ_ _ z=>aZ.mono z F.1) p_va)] m) #[#[bh,ub,rfl,(F.g 2 rfl),(Rk2.Ps.imp (λ_ _ z=>aZ.mono z F.1) p_bh)],trivial];have nxo:=nxo.mono F.1; have bd:=bd.mono F.1; have hbA:=F.1.tup hbA; have pbA:=Rk2.Ps.imp (λ_ _ z=>z.mono F.1) pbA; have p_va:=Rk2.Ps.imp (λ_ _ z=>aZ.mono z F.1) p_va; have p_vv:=Rk2.Ps.imp (λ_ _ z=>aZ.mono z F.1) p_vv; have hrow:=F.1.tup hrow; have hac:=F.1.tup hac; have hAc:=hAc.mono F.1; have F:=F.re
   have hKo:∀kn∈List.replicate m vA++[cc ws vw rg kd],dH kn/\kn.length<=20:=λkn hk=>by
     rcases Iv.mp hk with h|h
     . rw[(Jx.mp h).2]; exact#[.of v9a.ok noa,by rw[l_va]; decide]
     . cases Ik.mp h; exact#[ve v9v nov,by rw[ow,l_vv]; omega]
   refine#[_,rfl,cl,_,_,_,rfl,rfl,aJ.of (F.g 10 rfl),hz7,_,rfl,kn,_,_,rfl,aJ.of F.2.1,hKn,hKo,(by rw[Il,JA]; show m+1<=3; omega),λfl uf kf H13 sn hfl e_fl p_fl ⟨l_fl,o_fl⟩=>?_];have F:=F.mono sn; have nxo:=nxo.mono F.1; have bd:=bd.mono F.1; have hbA:=F.1.tup hbA; have pbA:=Rk2.Ps.imp (λ_ _ z=>z.mono F.1) pbA; have p_va:=Rk2.Ps.imp (λ_ _ z=>aZ.mono z F.1) p_va; have p_vv:=Rk2.Ps.imp (λ_ _ z=>aZ.mono z F.1) p_vv; have hrow:=F.1.tup hrow; have hac:=F.1.tup hac; have hAc:=hAc.mono F.1; have hKn:=Rk2.Ps.imp (λ_ _ z=>z.mono F.1) hKn; have F:=F.re
   refine#[_,rfl,z7,fl,bl,uf,kf,bs,rfl,aJ.of e_fl,p_fl,o_fl,l_fl,aJ.of (F.g 7 rfl),hbs,λsS xs ps H14 sn hst e_st p_st l_st o_st=>?_];have F:=F.mono sn; have nxo:=nxo.mono F.1; have bd:=bd.mono F.1; have hbA:=F.1.tup hbA; have pbA:=Rk2.Ps.imp (λ_ _ z=>z.mono F.1) pbA; have p_va:=Rk2.Ps.imp (λ_ _ z=>aZ.mono z F.1) p_va; have p_vv:=Rk2.Ps.imp (λ_ _ z=>aZ.mono z F.1) p_vv; have hrow:=F.1.tup hrow; have hac:=F.1.tup hac; have hAc:=hAc.mono F.1; have hKn:=Rk2.Ps.imp (λ_ _ z=>z.mono F.1) hKn; have F:=F.re; have F:=F.add e_st
   refine#[_,rfl,_,rfl,ac,on,_,fb,rfl,hac,hAc,λbv hbv=>#[sS,xs,ps,bv,fb,rfl,hbv.imp_right λ⟨i,x,y,_⟩=>#[i,x,y],aJ.of F.2.1,p_st,by omega,λnw kw H15 sn hnw e_nw nv=>?_]];have F:=F.mono sn; have nxo:=nxo.mono F.1; have bd:=bd.mono F.1; have hbA:=F.1.tup hbA; have pbA:=Rk2.Ps.imp (λ_ _ z=>z.mono F.1) pbA; have p_va:=Rk2.Ps.imp (λ_ _ z=>aZ.mono z F.1) p_va; have p_vv:=Rk2.Ps.imp (λ_ _ z=>aZ.mono z F.1) p_vv; have hrow:=F.1.tup hrow; have hac:=F.1.tup hac; have hAc:=hAc.mono F.1; have hKn:=Rk2.Ps.imp (λ_ _ z=>z.mono F.1) hKn; have p_st:=Rk2.Ps.imp (λ_ _ z=>z.mono F.1) p_st; have F:=F.re; have F:=F.add e_nw
   obtain⟨-,e_nw,e_st,e_kn,-,-,e_vv,e_aA,e_va,e_pr,e_bl,e_nl,e_wl,e_cl,-⟩:=F;obtain⟨hRs,fF1,fFo,dF1,dFo,nF1,mF1,rF1,nFo,mFo,rFo⟩:=bd;have tps:∀b∈ps++eV fb,Rk2.okl (Rk2.lvs b.2)/\bZ b.2:=λb hb=>by
     rcases Iv.mp hb with h|h
     . exact#[(o_st b h).1.1,(o_st b h).1]
     . cases fb with
       | none=>cases h
       | some i=>cases Ik.mp h; exact#[oT.1,oT]
   refine#[λσ' G=>∃(sA:Addr) (svs:List V) (ks:List Str),σ'=[some (.ref a),some (.ref cl),some (.ref wl),some (.ref nl),some (.ref ul),some (.ref bl),some (.int (n:Int)),some (.ref r),some (.ref nx.w.r),some (.ref tr),some (.ref pr),some (.int cm),some (.int (kk:Int)),some (.int (on:Int)),some (.ref bA),some (.ref aA),some (.ref vv),some (.ref ac),some (.ref kn),some (.ref sS),some (.ref nw),some (.ref sA),none,none,none,none]/\aB H15 (ers sA G)/\H15 sA=none/\G sA=some (.lst svs)/\ks.length=3/\Rk2.Ps (dv K (ers sA G)) svs ks,?_,?_]
   . have F:=Al.nil (H:=H15);refine#[dw,λw0 k=>?_];have F:=F.new (o:=.lst []) k; generalize upd H15 w0 _=B18 at F ⊢;refine#[ay,λx0 k=>?_];have F:=F.new (o:=.tup [V.str "num",.int 0]) k; generalize upd B18 x0 _=B19 at F ⊢;refine#[ay,λy0 k=>?_];have F:=F.new (o:=.tup [V.str "back",.ref x0]) k; generalize upd B19 y0 _=B20 at F ⊢;refine#[ay,λu0 k=>?_];have F:=F.new (o:=.tup [V.ref w0,.ref y0]) k; generalize upd B20 u0 _=B21 at F ⊢;refine#[dw,λw1 k=>?_];have F:=F.new (o:=.lst []) k; generalize upd B21 w1 _=B22 at F ⊢;refine#[ay,λy1 k=>?_];have F:=F.new (o:=.tup [V.str "go",.int 0]) k; generalize upd B22 y1 _=B23 at F ⊢;refine#[ay,λu1 k=>?_];have F:=F.new (o:=.tup [V.ref w1,.ref y1]) k; generalize upd B23 u1 _=B24 at F ⊢;refine#[dw,λw2 k=>?_];have F:=F.new (o:=.lst []) k; generalize upd B24 w2 _=B25 at F ⊢;refine#[ay,λx2 k=>?_];have F:=F.new (o:=.tup [V.str "num",.int 0]) k; generalize upd B25 x2 _=B26 at F ⊢;refine#[ay,λy2 k=>?_];have F:=F.new (o:=.tup [V.str "back",.ref x2]) k; generalize upd B26 y2 _=B27 at F ⊢;refine#[ay,λu2 k=>?_];have F:=F.new (o:=.tup [V.ref w2,.ref y2]) k; generalize upd B27 u2 _=B28 at F ⊢;obtain⟨SC,e_u2,e_y2,e_x2,e_w2,e_u1,e_y1,e_w1,e_u0,e_y0,e_x0,e_w0,-⟩:=F;refine#[cV,λsA k_s=>#[sA,_,["back","go","back"],rfl,?_,SC.free k_s,aI,rfl,?_]]
     . rw[gt]; exact iQ SC (SC.free k_s)
     . rw[gt];have se:=iQ (aB.refl _) k_s;exact#[dv.mono se (wo e_u0 e_w0 e_y0 e_x0),dv.mono se (GF e_u1 e_w1 e_y1),dv.mono se (wo e_u2 e_w2 e_y2 e_x2),trivial]
   rintro σ' D5 ⟨sA,svs,ks,rfl,SD,nsA,e_sA,ks4,hss⟩;refine ly ?_; intro sg;have rr0:n+1<F1.rs.length:=by rw[rF1,IX,hRs.ln]; omega
   obtain⟨nd_,sz,Fd,hix,hiy,hFm,hFn,hFl,hFr,hFz⟩:∃(x:Str) (y:Nat) (F:F2.Fd),bI ([w0,w1,n0,n1].map V.str) (2+((bs'.length:Nat):Int))=some (.str x)/\bI [V.int (((ws.map V.str).length:Nat):Int),V.int 2] ((bs'.length:Nat):Int)=some (.int (y:Nat))/\F∈[F1,Fo]/\F.name=x/\(F2.nms F).length=y/\0<F.rs.length/\y<=5:=by
     rw[lbs];obtain rfl|rfl:m=0\/m=1:=by omega
     . exact#[n0,ws.length,F1,rfl,by rw[IX]; rfl,Ii,nF1,by rw[mF1],by omega,by omega]
     . exact#[n1,2,Fo,rfl,rfl,Im _ Ii,nFo,by rw[mFo]; rfl,rFo,by decide]
   refine#[λσ' G=>∃(mA:Addr) (mvs:List V) (Ms:List (List Lev)),σ'=[some (.ref a),some (.ref cl),some (.ref wl),some (.ref nl),some (.ref ul),some (.ref bl),some (.int (n:Int)),some (.ref r),some (.ref nx.w.r),some (.ref tr),some (.ref pr),some (.int cm),some (.int (kk:Int)),some (.int (on:Int)),some (.ref bA),some (.ref aA),some (.ref vv),some (.ref ac),some (.ref kn),some (.ref sS),some (.ref nw),some (.ref sA),some (.ref mA),none,none,none]/\TwoM K H15 sA mA [F1,Fo] G svs ks mvs Ms,?_,?_]
   . have lss:=Rk2.Ps.len hss;refine#[_,rfl,sA,rfl,#[_,aJ.of e_sA],λmA hmA=>pC (xs:=svs) (λi Gx v=>∃e:Lev,LevOk [F1,Fo] e/\(bx e.vw/\cQ e.vw)/\dU K (ers sA Gx) (di [e]) v) (λi v G G' s ⟨e,a,b,c⟩=>#[e,a,b,c.mono (aB.ers s)]) (by omega) (aJ.of e_sA) hmA ?_ ?_]
     . rintro i x G R_ hx sG ⟨acc,eacc⟩ kk;have SE:aB H15 G:=(SD.trans dq).trans sG;have esA:=sG _ _ e_sA;have F:=Al.nil (H:=G);refine#[_,rfl,_,rfl,bA,_,rfl,.inr (SE.tup hbA),_,_,rfl,rfl,wl,_,_,_,rfl,rfl,aJ.of (SE _ _ e_wl),hix,ay,λq1 k=>?_];have n_q1:=And.intro (dX esA k) (dX eacc k);have F:=F.new (o:=.tup [V.str nd_,.int 0]) k; generalize upd G q1 _=B18 at F ⊢;refine#[dE,λq2 k=>?_];have n_q2:=And.intro (dX (F.1 _ _ esA) k) (dX (F.1 _ _ eacc) k);have F:=F.new (o:=.tup [V.ref q1]) k; generalize upd B18 q2 _=B19 at F ⊢;refine#[dE,λq3 k=>?_];have n_q3:=And.intro (dX (F.1 _ _ esA) k) (dX (F.1 _ _ eacc) k);have F:=F.new (o:=.lst [V.non]) k; generalize upd B19 q3 _=B20 at F ⊢;refine#[_,rfl,nl,_,rfl,.inl (aJ.of ((SE.trans F.1) _ _ e_nl)),ay,λq4 k=>?_];have n_q4:=And.intro (dX (F.1 _ _ esA) k) (dX (F.1 _ _ eacc) k);have F:=F.new (o:=.lst [V.int (((ws.map V.str).length:Nat):Int),V.int 2]) k; generalize upd B20 q4 _=B21 at F ⊢;refine#[_,rfl,bA,_,rfl,.inr ((SE.trans F.1).tup hbA),q4,_,_,_,rfl,rfl,aJ.of F.2.1,hiy,q3,_,_,rfl,rfl,F.2.2.1,by omega,by omega,cb (by rw[JF]; show 1 * sz<_; omega),λq5 k=>?_];have n_q5:=And.intro (dX (F.1 _ _ esA) k) (dX (F.1 _ _ eacc) k);rw[qc,JF];have F:=F.new (o:=.lst (List.replicate sz V.non)) k; generalize upd B21 q5 _=B22 at F ⊢;refine#[dE,λq6 k=>?_];have n_q6:=And.intro (dX (F.1 _ _ esA) k) (dX (F.1 _ _ eacc) k);have F:=F.new (o:=.lst [V.ref q5]) k; generalize upd B22 q6 _=B23 at F ⊢;refine#[ay,λq7 k=>?_];have n_q7:=And.intro (dX (F.1 _ _ esA) k) (dX (F.1 _ _ eacc) k);have F:=F.new (o:=.tup [V.ref q2,.ref q6]) k; generalize upd B23 q7 _=B24 at F ⊢;refine kk _ _ F.1 #[#[Fd,0,List.replicate sz none],#[hFm,hFr,by rw[JA,hFl],by rw[hFl]; omega],#[λo ho=>by rw[(Jx.mp ho).2]; exact d6.no,λt ht=>by cases (Jx.mp ht).2],q7,.ref q2,q6,[.ref q5],rfl,kQ n_q7 F.2.1,?_,kQ n_q6 F.2.2.1,#[q5,_,rfl,kQ n_q5 (F.g 2 rfl),mZ (show aZ _ none .non from rfl) sz],trivial];refine#[q2,[.ref q1],rfl,aF.of (kQ n_q2 (F.g 5 rfl)),#[q1,rfl,?_],trivial];rw[show(Lev.fr #[Fd,0,List.replicate sz none]).1=nd_ from hFn];exact aF.of (kQ n_q1 (F.g 6 rfl))
     . rintro G vs sG eG lG tG;obtain⟨es,v1,v2,v3⟩:=pW (P:=λ_ (e:Lev) v=>LevOk [F1,Fo] e/\(bx e.vw/\cQ e.vw)/\dU K (ers sA (ers mA G)) (di [e]) v) tG;have nm_:=dX e_sA hmA;have SM:aB (ers sA D5) (bf sA mA G):=iQ (aB.ers sG) (by rw[cC nm_]; exact hmA);refine#[mA,vs,es.map λe=>[e],rfl,SD.trans SM,nsA,(SD.trans dq).free hmA,sG _ _ e_sA,eG,nm_.symm,Rk2.Ps.imp (λ_ _ z=>z.mono SM) hss,ks4,?_,by rw[IX]; omega,λL hL=>?_]
       . refine Ps.map (λe=>[e]) (λe _ v h=>?_) v3;obtain⟨_,_,_,h⟩:=h;unfold bf;rw[Hc];exact h
       . obtain⟨e,he,rfl⟩:=J3.mp hL;obtain⟨i,hi⟩:=Jp he;obtain⟨_,_,h1,h2,_⟩:=v2 i e hi;exact#[by simp,λe2 h=>by cases Ik.mp h; exact#[h1,h2]]
   rintro σ' D6 ⟨mA,mvs,Ms,rfl,tw⟩;refine ly ?_; intro sg;have lss:=Rk2.Ps.len hss;refine#[λσ' G=>∃(gv:V),σ'=[some (.ref a),some (.ref cl),some (.ref wl),some (.ref nl),some (.ref ul),some (.ref bl),some (.int (n:Int)),some (.ref r),some (.ref nx.w.r),some (.ref tr),some (.ref pr),some (.int cm),some (.int (kk:Int)),some (.int (on:Int)),some (.ref bA),some (.ref aA),some (.ref vv),some (.ref ac),some (.ref kn),some (.ref sS),some (.ref nw),some (.ref sA),some (.ref mA),some gv,none,none]/\aB D6 G/\cT K (bf sA mA G) (List.replicate m (n1,0)++[(n0,n+1)]) gv,?_,?_]
   . have SX:=tw.all;refine#[_,rfl,_,rfl,wl,_,_,_,rfl,rfl,aJ.of (SX _ _ e_wl),rfl,_,rfl,_,_,rfl,rfl,ay,λq1 k_q1=>#[dE,λq2 k_q2=>jt (((SX.trans (aB.new k_q1)).trans (aB.new k_q2)).tup hbA) aI (by simp) (cb (by show bs'.length+1<_; omega)) λp H' s' e'=>?_]];have s2:=((aB.new (o:=.tup [V.str n0,.int ((n:Int)+1)]) k_q1).trans (aB.new (o:=.tup [V.ref q1]) k_q2)).trans s';have e1:=((aB.new (o:=.tup [V.ref q1]) k_q2).trans s') _ _ (show upd D6 q1 (.tup [V.str n0,.int ((n:Int)+1)]) q1=_ from aI);have tw2:=tw.mono s2;exact#[.ref p,rfl,s2,p,_,rfl,aF.of (tw2.at_ e'),Rk2.Ps.app (Rk2.Ps.imp (λ_ _ z=>z.mono tw2.b) pbA) #[#[q1,rfl,aF.of (tw2.at_ e1)],trivial]]
   rintro σ' G0 ⟨gv,rfl,s0,hgv⟩;refine ly ?_; intro sg;have tw:=tw.mono s0;refine#[λσ' G=>∃(cv:V) (e:Nat),σ'=[some (.ref a),some (.ref cl),some (.ref wl),some (.ref nl),some (.ref ul),some (.ref bl),some (.int (n:Int)),some (.ref r),some (.ref nx.w.r),some (.ref tr),some (.ref pr),some (.int cm),some (.int (kk:Int)),some (.int (on:Int)),some (.ref bA),some (.ref aA),some (.ref vv),some (.ref ac),some (.ref kn),some (.ref sS),some (.ref nw),some (.ref sA),some (.ref mA),some gv,some cv,none]/\e<F1.rs.length/\aB G0 G/\cT K (bf sA mA G) (List.replicate m (n1,0)++[(n0,e)]) cv,?_,?_]
   . have SX:=tw.all;have fin:∀k:Bool,∃e:Nat,(n:Int)+(if k=true then 1 else 0)=(e:Int)/\e<F1.rs.length:=λk=>by
       cases k
       . exact#[n,by simp,by omega]
       . exact#[n+1,by simp,rr0]
     refine#[_,rfl,_,rfl,wl,_,_,_,rfl,rfl,aJ.of (SX _ _ e_wl),rfl,_,rfl,_,rfl,cl,_,_,_,rfl,rfl,aJ.of (SX _ _ e_cl),hz11,_,_,rfl,rfl,(show(0:Int)<10 by decide),_,_,rfl,rfl,_,rfl,?_];by_cases h11:z11%10 > 0
     . obtain⟨e,he,hlt⟩:=fin (true);refine aP (IV h11) (.inr #[_,rfl,_,_,rfl,rfl,?_]);rw[he];refine#[ay,λq1 k_q1=>#[dE,λq2 k_q2=>jt (((SX.trans (aB.new k_q1)).trans (aB.new k_q2)).tup hbA) aI (by simp) (cb (by show bs'.length+1<_; omega)) λp H' s' e'=>?_]];have s2:=((aB.new (o:=.tup [V.str n0,.int (e:Int)]) k_q1).trans (aB.new (o:=.tup [V.ref q1]) k_q2)).trans s';have e1:=((aB.new (o:=.tup [V.ref q1]) k_q2).trans s') _ _ (show upd G0 q1 (.tup [V.str n0,.int (e:Int)]) q1=_ from aI);have tw2:=tw.mono s2;exact#[.ref p,e,rfl,hlt,s2,p,_,rfl,aF.of (tw2.at_ e'),Rk2.Ps.app (Rk2.Ps.imp (λ_ _ z=>z.mono tw2.b) pbA) #[#[q1,rfl,aF.of (tw2.at_ e1)],trivial]]
     . obtain⟨e,he,hlt⟩:=fin (decide (V.int cm=V.int 1));refine ak (λz=>h11 (bD z)) #[_,rfl,rfl,.inr #[_,rfl,_,_,rfl,rfl,?_]];rw[he];refine#[ay,λq1 k_q1=>#[dE,λq2 k_q2=>jt (((SX.trans (aB.new k_q1)).trans (aB.new k_q2)).tup hbA) aI (by simp) (cb (by show bs'.length+1<_; omega)) λp H' s' e'=>?_]];have s2:=((aB.new (o:=.tup [V.str n0,.int (e:Int)]) k_q1).trans (aB.new (o:=.tup [V.ref q1]) k_q2)).trans s';have e1:=((aB.new (o:=.tup [V.ref q1]) k_q2).trans s') _ _ (show upd G0 q1 (.tup [V.str n0,.int (e:Int)]) q1=_ from aI);have tw2:=tw.mono s2;exact#[.ref p,e,rfl,hlt,s2,p,_,rfl,aF.of (tw2.at_ e'),Rk2.Ps.app (Rk2.Ps.imp (λ_ _ z=>z.mono tw2.b) pbA) #[#[q1,rfl,aF.of (tw2.at_ e1)],trivial]]
   rintro σ' G1 ⟨cv,ec,rfl,hec,s1,hch⟩;refine ly ?_; intro sg;have hgv:=hgv.mono (eM s1);have tw:=tw.mono s1;refine#[λσ' G'=>∃(svs:List V) (ks:List Str),σ'=[some (.ref a),some (.ref cl),some (.ref wl),some (.ref nl),some (.ref ul),some (.ref bl),some (.int (n:Int)),some (.ref r),some (.ref nx.w.r),some (.ref tr),some (.ref pr),some (.int cm),some (.int (kk:Int)),some (.int (on:Int)),some (.ref bA),some (.ref aA),some (.ref vv),some (.ref ac),some (.ref kn),some (.ref sS),some (.ref nw),some (.ref sA),some (.ref mA),some gv,some cv,none]/\TwoM K H15 sA mA [F1,Fo] G' svs ks mvs Ms/\aB (bf sA mA G1) (bf sA mA G'),?_,?_]
   . have SX:=tw.all;refine#[_,rfl,cl,_,_,_,rfl,rfl,aJ.of (SX _ _ e_cl),hz11,_,_,rfl,rfl,(show(0:Int)<10 by decide),rfl,_,rfl,?_];have no:∃(svs_:List V) (ks_:List Str),[some (.ref a),some (.ref cl),some (.ref wl),some (.ref nl),some (.ref ul),some (.ref bl),some (.int (n:Int)),some (.ref r),some (.ref nx.w.r),some (.ref tr),some (.ref pr),some (.int cm),some (.int (kk:Int)),some (.int (on:Int)),some (.ref bA),some (.ref aA),some (.ref vv),some (.ref ac),some (.ref kn),some (.ref sS),some (.ref nw),some (.ref sA),some (.ref mA),some gv,some cv,none]=[some (.ref a),some (.ref cl),some (.ref wl),some (.ref nl),some (.ref ul),some (.ref bl),some (.int (n:Int)),some (.ref r),some (.ref nx.w.r),some (.ref tr),some (.ref pr),some (.int cm),some (.int (kk:Int)),some (.int (on:Int)),some (.ref bA),some (.ref aA),some (.ref vv),some (.ref ac),some (.ref kn),some (.ref sS),some (.ref nw),some (.ref sA),some (.ref mA),some gv,some cv,none]/\TwoM K H15 sA mA [F1,Fo] G1 svs_ ks_ mvs Ms/\aB (bf sA mA G1) (bf sA mA G1):=#[svs,ks,rfl,tw,aB.refl _]
     by_cases h9:z11%10=1
     . refine aP (IV (Iq V.int h9)) #[_,rfl,rfl,_,rfl,?_];by_cases hcm:cm=0
       . refine aP (IV (Iq V.int hcm)) ?_;obtain⟨rst,hke,_⟩:=(nxo.mono SX).1.1.2.1;refine#[_,rfl,nx.w.r,_,_,_,rfl,rfl,hke,at0,rfl,_,rfl,?_];by_cases hkc:nx.w.k="call"
         . refine aP (IV (Iq V.str hkc)) ?_;have F:=Al.nil (H:=G1); have tw1:=tw
           refine#[dw,λq1 k=>?_];have F:=F.new (o:=.lst []) k; generalize upd G1 q1 _=B18 at F ⊢;have k1_:=k;refine#[cV,λq2 k=>?_];have F:=F.new (o:=.tup [V.str "wait",.non,.int 0]) k; generalize upd B18 q2 _=B19 at F ⊢;refine#[ay,λq3 k=>?_];have F:=F.new (o:=.tup [V.ref q1,.ref q2]) k; generalize upd B19 q3 _=B20 at F ⊢;obtain⟨SQ,e_q3,e_q2,e_q1,-⟩:=F; have tw:=tw.mono SQ; have SX:=tw.all
           have n_q1:=tw.new tw1 k1_ e_q1;have hq:dv K (bf sA mA B20) "wait" (.ref q3):=#[#[q3,_,q2,_,rfl,aF.of (tw.at_ e_q3),aF.of (tw.at_ e_q2)],bJ.tup (n:=12) (aF.of (tw.at_ e_q3)) (.cons (bJ.lst (n:=11) (aJ.of n_q1) .nil) (.cons (bJ.tup (n:=11) (aF.of (tw.at_ e_q2)) (.cons (.str (by decide +kernel)) (.cons .non (.cons .int .nil)))) .nil))]
           exact#[_,rfl,_,rfl,sA,_,_,on,rfl,rfl,tw.s,ka (by rw[lss,ks4]; exact on3),_,_,rfl,tw.setS hq,by rw[jL]; exact eM SQ]
         . exact ak (λz=>hkc (V.str.inj (bD z))) no
       . exact ak (λz=>hcm (V.int.inj (bD z))) (jN no)
     . exact ak (λz=>h9 (V.int.inj (bD z))) (jN no)
   rintro σ' G2 ⟨svs,ks,rfl,tw,s2⟩;refine ly ?_; intro sg;have hch:=hch.mono s2;have hgv:=hgv.mono s2;refine#[λσ' G'=>∃(mvs:List V) (Ms:List (List Lev)),σ'=[some (.ref a),some (.ref cl),some (.ref wl),some (.ref nl),some (.ref ul),some (.ref bl),some (.int (n:Int)),some (.ref r),some (.ref nx.w.r),some (.ref tr),some (.ref pr),some (.int cm),some (.int (kk:Int)),some (.int (on:Int)),some (.ref bA),some (.ref aA),some (.ref vv),some (.ref ac),some (.ref kn),some (.ref sS),some (.ref nw),some (.ref sA),some (.ref mA),some gv,some cv,none]/\TwoM K H15 sA mA [F1,Fo] G' svs ks mvs Ms/\aB (bf sA mA G2) (bf sA mA G'),?_,?_]
   . have SX:=tw.all;have lkn:(List.replicate m (V.ref va)++[V.ref bh]).length=m+1:=by rw[Il,JA]; rfl
     have lk2:(List.replicate m vA++[cc ws vw rg kd]).length=m+1:=by rw[Il,JA]; rfl
     refine#[_,rfl,_,rfl,kn,_,rfl,.inl (aJ.of (SX _ _ e_kn)),_,rfl,by omega,by omega,λpL hpL=>AJ (lo:=0) (n:=(List.replicate m (V.ref va)++[V.ref bh]).length) (λi G v=>∃kn vx,(List.replicate m vA++[cc ws vw rg kd])[i]?=some kn/\jP G2 G vx v/\vx.length=kn.length/\bx vx/\cQ vx) (λi v G G' s ⟨kn,vx,a,b,c,d⟩=>#[kn,vx,a,b.mono s,c,d]) (by omega) hpL ?_ ?_]
     . rintro i H2 R_ hi s2 ⟨acc,e2⟩ k2;have ST:=SX.trans s2;obtain⟨u,kn_,a1,a2,vl,us,rfl,hvl,hus⟩:=Rk2.Ps.at (Rk2.Ps.imp (λ_ _ z=>(z.mono ST).a (K:=K)) hKn) (n:=i) (by omega);have ok:=hKo kn_ (Ij a2);have a1':bI (List.replicate m (V.ref va)++[V.ref bh]) (0+(i:Int))=some (.ref vl):=by rw[Int.zero_add]; exact c7 a1
       refine#[_,rfl,cl,_,_,_,rfl,rfl,aJ.of (ST _ _ e_cl),hz10,_,rfl,_,_,rfl,rfl,.inl #[by decide,by decide],_,_,rfl,rfl,_,rfl,_,rfl,kn,_,_,_,rfl,rfl,aJ.of (ST _ _ e_kn),a1',_,rfl,_,rfl,_,rfl,_,vl,nw,bl,us,kn_,bz (ps++eV fb),bs,cm,rfl,hvl,hus,ok.1,(by have:=ok.2; omega),#[#[kw,ST _ _ e_nw,nv.mono ST],pY λb hb=>(tps b hb).2],aJ.of (ST _ _ e_bl),hbs,λl us' vw' H3 s3 n3 e3 p3 k3=>k2 _ _ s3 #[kn_,vw',a2,(let ⟨l,us,z1,z2,z3⟩:=dM.erl (s3 _ _ e2) e3 (λz=>by rw[z,e2] at n3; cases n3) p3; #[l,us,z1,(by cases z1; exact s2.free n3),z2,z3]),k3]]
     rintro G3 wl_ s3 e3 l3 t3;obtain⟨Vs,v1,v2,v3⟩:=pW (P:=λi vx v=>∃kn,(List.replicate m vA++[cc ws vw rg kd])[i]?=some kn/\jP G2 (ers pL G3) vx v/\vx.length=kn.length/\bx vx/\cQ vx) λi v h=>let ⟨kn,vx,a⟩:=t3 i v h; #[vx,kn,a]
     have pV:Rk2.Ps (jP G2 G3) wl_ Vs:=Rk2.Ps.imp (λ_ _ ⟨_,_,_,b,_⟩=>b.mono dq) v3;have hVl:Vs.map List.length=(List.replicate m vA++[cc ws vw rg kd]).map List.length:=BM (by have:=Rk2.Ps.len v3; omega) λi x h=>let ⟨_,_,kn,a,_,b,_⟩:=v2 i x h; #[kn,a,b]
     have hVo:∀vw∈Vs,bx vw/\cQ vw:=λvw hv=>by obtain⟨i,hi⟩:=Jp hv;obtain⟨_,_,kn,_,_,_,b⟩:=v2 i vw hi;exact b
     refine#[ay,λz k_z=>?_];have s4:=aB.new (o:=.tup [cv,.ref pL]) k_z;have e4:upd G3 z (.tup [cv,.ref pL]) z=_:=aI;have tw4:=(tw.mono s3).mono s4;generalize upd G3 z (.tup [cv,.ref pL])=G4 at s4 e4 tw4 ⊢;obtain⟨L,hLf,hLv,hLl,hLo⟩:=AH (fns:=[F1,Fo]) (F1:=F1) (Fo:=Fo) (n:=ws.length) (r:=ec) (m:=m) (Vs:=Vs) Ii (Im _ Ii) m1_ hec rFo (by rw[mF1]) (by rw[mFo]; rfl) (by omega) (by rw[hVl,J0,Jn,l_va]; show _++[_]=_; rw[ow,l_vv]) λvw hv=>(hVo vw hv).1;have hMk:dU K (bf sA mA G4) (di L) (.ref z):=by
       refine#[z,cv,pL,wl_,rfl,tw4.at_ e4,?_,tw4.new tw hpL (s4 _ _ e3),?_]
       . show cT K _ (L.map Lev.fr) cv;rw[hLf,nF1,nFo];exact hch.mono ((eM s3).trans (eM s4))
       . show Rk2.Ps _ wl_ (L.map Lev.vw);rw[hLv];refine Rk2.Ps.imp (λvw v h=>?_) pV;obtain⟨l,us,rfl,y1,y2,y3⟩:=h;exact#[l,us,rfl,tw4.new tw y1 (s4 _ _ y2),Rk2.Ps.imp (λ_ _ y=>D8 tw4.s tw4.m (aZ.mono y s4)) y3]
     have lm:=Rk2.Ps.len tw4.ms;exact#[_,rfl,_,rfl,mA,_,_,on,rfl,rfl,tw4.m,ka (by rw[lm,tw4.ml]; exact on3),_,_,rfl,tw4.setM hMk #[hLl,λe he=>#[(hLo e he).1,hVo _ (hLv ▸ List.mem_map_of_mem he)]],by rw[jM]; exact(eM s3).trans (eM s4)]
   rintro σ' G ⟨mvs,Ms,rfl,tw,sE⟩;refine ly ?_; intro sg;have hgv:=hgv.mono sE;have F:=Al.nil (H:=G);refine#[_,rfl,_,rfl,ay,λz1 k=>?_];have F:=F.new (o:=.tup [V.ref sS,.ref ac]) k; generalize upd G z1 _=B18 at F ⊢;obtain⟨sn,e_z1,-⟩:=F; have tw:=tw.mono sn; have hgv:=hgv.mono (eM sn)
   have hz1:=aF.of (K:=K) (tw.at_ e_z1);have hq:dv K (bf sA mA B18) kd (.ref z1):=#[#[z1,_,ac,rest,rfl,hz1,tw.b.tup hac],bJ.tup (n:=12) hz1 (.cons (bJ.lst (n:=11) (tw.b.seq (aJ.of e_st)) (bp.mono tw.b (sN (λb hb=>(o_st b hb).1) p_st))) (.cons (bJ.tup (n:=11) (tw.b.tup hac) (bp.mono tw.b (rX (n:=10) (by decide) hAc))) .nil))]
   have hSp:fY K (bf sA mA B18) ps ac (.ref z1):=#[z1,sS,xs,rfl,hz1,tw.b.seq (aJ.of e_st),Rk2.Ps.imp (λ_ _ z=>z.mono tw.b) p_st]
   have ls:=Rk2.Ps.len tw.ss;have lm:=Rk2.Ps.len tw.ms;refine#[_,rfl,_,rfl,sA,_,_,kk,rfl,rfl,tw.s,ka (by rw[ls,tw.sl]; exact kk4),?_];have tw2:=tw.setS (i:=kk) hq;have hgv:cT K (bf sA mA (upd B18 sA (.lst (svs.set kk (.ref z1))))) (List.replicate m (n1,0)++[(n0,n+1)]) gv:=by rw[jL]; exact hgv
   have hSp:fY K (bf sA mA (upd B18 sA (.lst (svs.set kk (.ref z1))))) ps ac (.ref z1):=by rw[jL]; exact hSp
   generalize upd B18 sA (.lst (svs.set kk (.ref z1)))=G2 at tw2 hgv hSp ⊢;have SX:=tw2.all;refine#[_,rfl,_,rfl,wl,_,_,_,rfl,rfl,aJ.of (SX _ _ e_wl),rfl,_,rfl,ay,λq1 k_q1=>#[dE,λq2 k_q2=>jt (((SX.trans (aB.new k_q1)).trans (aB.new k_q2)).tup hbA) aI (by simp) (cb (by show bs'.length+1<_; omega)) λp2 H' s' e_p2=>?_]];have s2:=((aB.new (o:=.tup [V.str n0,.int (n:Nat)]) k_q1).trans (aB.new (o:=.tup [V.ref q1]) k_q2)).trans s';have e_q1:=((aB.new (o:=.tup [V.ref q1]) k_q2).trans s') _ _ (show upd G2 q1 (.tup [V.str n0,.int (n:Nat)]) q1=_ from aI);have tw3:=tw2.mono s2;have F:=Al.nil (H:=H');refine#[_,rfl,_,rfl,dE,λlv k=>?_];have F:=F.new (o:=.lst [V.ref vv]) k; generalize upd H' lv _=B19 at F ⊢;refine#[aA,lv,_,_,rfl,rfl,(tw3.all.trans F.1) _ _ e_aA,F.2.1,cb (by rw[JA]; show m+1<_; omega),λwv k_wv=>?_];have n_wv:=(s2.trans F.1).free k_wv;have F:=F.new (o:=.lst (List.replicate m (V.ref va)++[V.ref vv])) k_wv; generalize upd B19 wv _=B20 at F ⊢;refine#[ay,λz2 k=>?_];have F:=F.new (o:=.tup [V.ref p2,.ref wv]) k; generalize upd B20 z2 _=B21 at F ⊢;obtain⟨sn,e_z2,e_wv,-,-⟩:=F; have tw3:=tw3.mono sn; have SQ:=s2.trans sn; have e_p2:=sn _ _ e_p2; have e_q1:=sn _ _ e_q1
   have hMk:dU K (bf sA mA B21) (di (List.replicate m ⟨Fo,0,vA⟩++[⟨F1,n,vw⟩])) (.ref z2):=by
     refine#[z2,.ref p2,wv,_,rfl,tw3.at_ e_z2,?_,tw3.new tw2 n_wv e_wv,?_]
     . show cT K _ (List.map Lev.fr _) _;rw[J0,Jn];show cT K _ (List.replicate m (Fo.name,0)++[(F1.name,n)]) _;rw[nFo,nF1];exact#[p2,_,rfl,aF.of (tw3.at_ e_p2),Rk2.Ps.app (Rk2.Ps.imp (λ_ _ z=>z.mono tw3.b) pbA) #[#[q1,rfl,aF.of (tw3.at_ e_q1)],trivial]]
     . show Rk2.Ps _ _ (List.map Lev.vw _);rw[J0,Jn];exact Rk2.Ps.app (mZ (R:=dM _) (dM.mono tw3.b #[va,ua,rfl,e_va,p_va]) m) #[dM.mono tw3.b #[vv,uv,rfl,e_vv,p_vv],trivial]
   have lvo:∀e∈List.replicate m (⟨Fo,0,vA⟩:Lev),LevOk [F1,Fo] e/\bx e.vw/\cQ e.vw:=λe he=>by rw[(Jx.mp he).2];exact#[#[Im _ Ii,rFo,by rw[mFo]; exact l_va,by rw[mFo]; show 2<=1000; decide],v9a.ok,noa]
   have lv1:LevOk [F1,Fo] ⟨F1,n,vw⟩/\bx vw/\cQ vw:=#[#[Ii,by show n<F1.rs.length; omega,by rw[mF1]; exact l_vv,by rw[mF1]; omega],v9v.ok,nov]
   have lva:∀e∈List.replicate m ⟨Fo,0,vA⟩++[⟨F1,n,vw⟩],LevOk [F1,Fo] e/\bx e.vw/\cQ e.vw:=λe he=>(Iv.mp he).elim (lvo e) λh=>by cases Ik.mp h; exact lv1
   refine#[_,rfl,_,rfl,mA,_,_,kk,rfl,rfl,tw3.m,ka (by rw[lm,tw3.ml]; exact kk4),?_];have tw4:=tw3.setM (i:=kk) hMk #[by rw[Il,JA]; show m+1<=11; omega,lva];have hgv:cT K (bf sA mA (upd B21 mA (.lst (mvs.set kk (.ref z2))))) (List.replicate m (n1,0)++[(n0,n+1)]) gv:=by rw[jM]; exact hgv.mono (eM SQ)
   have hSp:fY K (bf sA mA (upd B21 mA (.lst (mvs.set kk (.ref z2))))) ps ac (.ref z1):=by rw[jM]; exact hSp.mono (eM SQ)
   generalize upd B21 mA (.lst (mvs.set kk (.ref z2)))=G5 at tw4 hgv hSp ⊢;have SX:=tw4.all;have hAc5:=hAc.mono SX;have fnm:∀F∈[F1,Fo],PyData.strOk F.name=true:=λF hF=>by
     simp only[Io,JK,or_false] at hF;rcases hF with rfl|rfl
     . rw[nF1]; exact on0.2
     . rw[nFo]; exact on1.2
   have fnd:([F1,Fo].map (·.name)).Nodup:=by show [F1.name,Fo.name].Nodup;rw[nF1,nFo];exact ond
   obtain⟨ds,hds⟩:=CP hrg l_vv v9v;have on_:on<(Ms.set kk (List.replicate m ⟨Fo,0,vA⟩++[⟨F1,n,vw⟩])).length:=by rw[tw4.ml]; exact on3
   obtain⟨kd_,hkd_⟩:∃x,(ks.set kk kd)[on]?=some x:=#[_,Iw (by rw[tw4.sl]; exact on3)]
   obtain⟨L_,hL_⟩:∃x,(Ms.set kk (List.replicate m ⟨Fo,0,vA⟩++[⟨F1,n,vw⟩]))[on]?=some x:=#[_,Iw on_]
   have dbh:∀G,aB G5 G->Db4 G ⟨⟨0,0,0,0,0,0,.non,.non⟩,[F1,Fo],svs.set kk (.ref z1),mvs.set kk (.ref z2),ks.set kk kd,Ms.set kk (List.replicate m ⟨Fo,0,vA⟩++[⟨F1,n,vw⟩]),List.replicate m ⟨Fo,0,vA⟩,⟨F1,n,vw⟩,ps++eV fb,.str kd :: rest⟩ ws [w0,w1] rg on kd rest fb (List.replicate m vA++[cc ws vw rg kd]):=λG sG=>by
     refine#[fnd,fnm,Ii,λe he=>#[(lvo e he).1,(lvo e he).2.1],mF1,l_vv,v9v,nov,hrg,λw hw=>?_,?_,on_,λL hL e he=>((tw4.ok L hL).2 e he).1,rfl,hAc5.mono sG,?_]
     . simp only[Io,JK,or_false] at hw;rcases hw with rfl|rfl
       . exact nw0
       . exact nw1
     . show K13.Due (F1.rs.map (·.k)) n (some [n+1]);rw[rF1,Jc];exact hRs.way
     . show _=List.map Lev.vw (List.replicate m _)++_;rw[Jn]
   have hat:(List.replicate m (n1,0)++[(n0,n+1)])=Ak.at ⟨⟨0,0,0,0,0,0,.non,.non⟩,[F1,Fo],svs.set kk (.ref z1),mvs.set kk (.ref z2),ks.set kk kd,Ms.set kk (List.replicate m ⟨Fo,0,vA⟩++[⟨F1,n,vw⟩]),List.replicate m ⟨Fo,0,vA⟩,⟨F1,n,vw⟩,ps++eV fb,.str kd :: rest⟩ (n+1):=by show _=List.map Lev.fr (List.replicate m _)++[(F1.name,n+1)];rw[Jn,nF1];show _=List.replicate m (Fo.name,0)++_;rw[nFo]
   refine#[λσ' G'=>∃b1:Bool,σ'=[some (.ref a),some (.ref cl),some (.ref wl),some (.ref nl),some (.ref ul),some (.ref bl),some (.int (n:Int)),some (.ref r),some (.ref nx.w.r),some (.ref tr),some (.ref pr),some (.int cm),some (.int (kk:Int)),some (.int (on:Int)),some (.ref bA),some (.ref aA),some (.ref vv),some (.ref ac),some (.ref kn),some (.ref sS),some (.ref nw),some (.ref sA),some (.ref mA),some gv,some cv,some (.bl (b1&&ia (bz (ps++eV fb)) kd_ L_ (List.replicate m (n1,0)++[(n0,n+1)]) (List.replicate m vA++[cc ws vw rg kd])))]/\aB G5 G'/\Fit4 G' rg ds (.str kd :: rest) b1,?_,?_]
   . refine#[_,rfl,_,rfl,_,rfl,_,rfl,r,ac,nl,vv,on,rg,_,fb,ws,[w0,w1],uv,vw,ds,rfl,SX.tup hrow,hrg,SX.tup hac,hAc5,aJ.of (SX _ _ e_nl),aJ.of (SX _ _ e_vv),Rk2.Ps.imp (λ_ _ z=>aZ.mono z SX) p_vv,l_vv,by omega,v9v,nov,hds,λb1 G6 s6 hfit=>#[_,rfl,?_]];cases b1 with
     | false=>exact jN #[false,rfl,s6,hfit]
     | true =>
       have tw6:=tw4.mono s6;have S6:=tw6.all;have e6:=pG (s:=sA) (m:=mA) (H:=G6);obtain⟨sv,hsv,sq⟩:=Ps.get tw6.ss hkd_;obtain⟨mv,hmv,mq⟩:=Ps.get tw6.ms hL_;have lo:=tw4.ok L_ (Ij hL_);refine aP rfl #[_,rfl,_,rfl,sA,_,_,_,rfl,rfl,aJ.of tw6.s,c7 hsv,_,rfl,_,rfl,mA,_,_,_,rfl,rfl,aJ.of tw6.m,c7 hmv,_,rfl,_,rfl,_,rfl,sv,mv,gv,kn,nw,kd_,L_,(List.replicate m (n1,0)++[(n0,n+1)]),_,(List.replicate m vA++[cc ws vw rg kd]),bz (ps++eV fb),rfl,sq.1.mono e6,(mq.mono e6).a,hgv.mono ((eM s6).trans e6),aJ.of (S6 _ _ e_kn),Rk2.Ps.imp (λ_ _ z=>(z.mono S6).a) hKn,#[#[kw,S6 _ _ e_nw,nv.mono S6],pY λb hb=>(tps b hb).2],#[λe he=>fnm _ (lo.2 e he).1.m,λe he=>(lo.2 e he).2.1,λc hc=>?_,λkn hk=>(hKo kn hk).1.ok],λG7 s7=>#[true,rfl,s6.trans s7,hfit.mono s7]];rcases Iv.mp hc with h|h
       . rw[(Jx.mp h).2]; exact on1.2
       . cases Ik.mp h; exact on0.2
   rintro σ' G6 ⟨b1,rfl,s6,hfit⟩;refine ly ?_; intro sg;have tw6:=tw4.mono s6;have S6:=tw6.all;have e6:=pG (s:=sA) (m:=mA) (H:=G6);have hS4:=A7 (K:=K) (ab:=t.bn) (dbh G6 s6) hds hfit hkd_ hL_;refine#[_,rfl,_,rfl,_,rfl,_,rfl,_,rfl,pr,sA,mA,ac,kk,#[#[0,0,0,0,0,0,.non,.non],[F1,Fo],svs.set kk (.ref z1),mvs.set kk (.ref z2),ks.set kk kd,Ms.set kk (List.replicate m #[Fo,0,vA]++[#[F1,n,vw]]),List.replicate m #[Fo,0,vA],#[F1,n,vw],ps++eV fb,.str kd :: rest],ps,fb,rg,.ref z1,?_];obtain⟨xr,hxr,hxe⟩:=hRs.row;refine#[xr.w,_,rfl,rfl,aJ.of (S6 _ _ e_pr),by simp,by simp,λf hf=>?_,fnd,#[aJ.of tw6.s,Rk2.Ps.imp (λ_ _ z=>z.1.mono e6) tw6.ss,aJ.of tw6.m,Rk2.Ps.imp (λ_ _ z=>(z.mono e6).a) tw6.ms,λL hL=>#[(tw6.ok L hL).1,λe he=>((tw6.ok L hL).2 e he).1]],?_,?_,hSp.mono ((eM s6).trans e6),S6.tup hac,CC hAc,(by show ps.length<=1000; omega),λb hb=>(o_st b hb).2,λe he=>(lva e he).2.2,#[by rw[tw6.sl,tw6.ml],fnm,λb hb=>(tps b hb).2,λL hL e he t ht=>#[((tw6.ok L hL).2 e he).2.1 _ ht t rfl,((tw6.ok L hL).2 e he).2.2 t ht]],?_,by rw[hxe]; exact S6.tup hrow,hrg.row,hat ▸ hS4,?_,?_,Rk2.Ps.imp (λ_ _ z=>z.mono e6) tw6.ms,by rw[tw6.ml]; decide,q]
   . simp only[Io,JK,or_false] at hf;rcases hf with rfl|rfl
     . exact F2.FnAt.mono S6 fF1
     . exact F2.FnAt.mono S6 fFo
   . exact Jv (by have:=tw6.ml; rw[JZ] at this; omega)
   . exact Jv (by rw[ls]; have:=tw6.sl; rw[JZ] at this; omega)
   . show F1.rs[n]?=some xr.w;rw[rF1,Iu,hxr];rfl
   . exact .cons ((bJ.mono dF1 S6).up (by decide)) (.cons ((bJ.mono dFo S6).up (by decide)) .nil)
   . exact bp.mono e6 (sf tw6.ss)
end
end K44
namespace K44
open PySem L2
structure Fv where
 (oc kV dc pm cd ct:Value)
 (od an:Option Addr)
 sl:Array (Option Value)
noncomputable abbrev Fv.fn (v:Fv) (n q:Str) (s:Stmt):=W.fnOf n q (d8 s) (bP s) (b6 s) .none v.kV v.dc v.pm v.an v.cd v.ct
section
variable {K:W.Frag} {h:Heap} {mg:Str->Option Value} {f C:Addr} {n m q:Str} {s:Stmt} {oc kV dc pm cd ct:Value} {od an:Option Addr} {sl:Array (Option Value)} {v:Fv} {ps:List Str}
noncomputable def FL (K:W.Frag) (f:Addr) (v:Fv) (n q:Str) (s:Stmt):Prop:=K.lookup f=some #[v.oc,v.od,.func (v.fn n q s),v.sl]/\W.codeIn K v.cd q=true/\W.keepIn K (.ref f)=true
noncomputable def NF (K:W.Frag) (f:Addr) (v:Fv) (n:Str) (s:Stmt):Prop:=W.nsIn K mainGlobals n=some (some (.ref f))/\FL K f v n n s
noncomputable def MF (K:W.Frag) (C f:Addr) (v:Fv) (m q:Str) (s:Stmt):Prop:=W.findIn K (.ref C) m=some (some (.ref f))/\W.isFn K (.ref f)=true/\FL K f v m q s
noncomputable def NL (f:Str->Option (Option Value)):List Str->Prop
 | []=>True
 | n :: r=>f n=some none/\NL f r
theorem nf_mk (a:W.nsIn K mainGlobals n=some (some (.ref f))) (l:K.lookup f=some #[oc,od,.func (W.fnOf n n (d8 s) (bP s) (b6 s) .none kV dc pm an cd ct),sl]) (c:W.codeIn K cd n=true) (k:W.keepIn K (.ref f)=true):NF K f #[oc,kV,dc,pm,cd,ct,od,an,sl] n s:=#[a,l,c,k]
theorem mf_mk (a:W.findIn K (.ref C) m=some (some (.ref f))) (i:W.isFn K (.ref f)=true) (l:K.lookup f=some #[oc,od,.func (W.fnOf m q (d8 s) (bP s) (b6 s) .none kV dc pm an cd ct),sl]) (c:W.codeIn K cd q=true) (k:W.keepIn K (.ref f)=true):MF K C f #[oc,kV,dc,pm,cd,ct,od,an,sl] m q s:=#[a,i,l,c,k]
theorem nl_c {f:Str->Option (Option Value)} {l:List Str} (a:f n=some none) (r:NL f l):NL f (n :: l):=#[a,r]
theorem bW (X:K.In h) (G:h.Ns mainGlobals mg) (e:NF K f v n s) (b:∀(kV doc pm:Value) (an:Option Addr) (cdv ct:Value) (us:List Value),us.length=ps.length->bindArgs (W.fnOf n n (d8 s) (bP s) (b6 s) .none kV doc pm an cdv ct) #[us,[]]=pure (ps.zip us)):DefOk K mg n s ps f (v.fn n n s):=Bf X G e.1 e.2.1 e.2.2.1 e.2.2.2 b
theorem gR (e:MF K C f v m q s) (b:∀(kV doc pm:Value) (an:Option Addr) (cdv ct:Value) (us:List Value),us.length=ps.length->bindArgs (W.fnOf m q (d8 s) (bP s) (b6 s) .none kV doc pm an cdv ct) #[us,[]]=pure (ps.zip us)):MetOk K C m q s ps f (v.fn m q s):=Bj e.1 e.2.1 e.2.2.1 e.2.2.2.1 e.2.2.2.2 b
theorem uc (mk:W.makesIn K C=true) (kc:W.keepIn K (.ref C)=true) (e:MF K C f v "__init__" q s) (b:∀(kV doc pm:Value) (an:Option Addr) (cdv ct:Value) (us:List Value),us.length=ps.length->bindArgs (W.fnOf "__init__" q (d8 s) (bP s) (b6 s) .none kV doc pm an cdv ct) #[us,[]]=pure (ps.zip us)):IniOk K C q s ps f (v.fn "__init__" q s):=CG mk kc e.1 e.2.1 e.2.2.1 e.2.2.2.1 e.2.2.2.2 b
end
local macro_rules | `(tactic| walk_at "u") => `(tactic| first | (exact λ _ _ _ _ _ _ us hl => match us, hl with | [_], _ => rfl) | (exact λ _ _ _ _ _ _ us hl => match us, hl with | [_, _], _ => rfl) | (exact λ _ _ _ _ _ _ us hl => match us, hl with | [_, _, _], _ => rfl) | (exact λ _ _ _ _ _ _ us hl => match us, hl with | [_, _, _, _], _ => rfl) | (exact λ _ _ _ _ _ _ us hl => match us, hl with | [_, _, _, _, _], _ => rfl) | (exact λ _ _ _ _ _ _ us hl => match us, hl with | [_, _, _, _, _, _, _], _ => rfl))
set_option maxHeartbeats 4000000 in
theorem txt_mk {K:W.Frag} {h:Heap} {mg:Str->Option Value} {C_Flows C_Step f0 f1 f2 f3 f4 f5 f6 f7 f8 f9 f10 f11 f12 f13 f14 f15 f16 f17 f18 f19 f20 f21 f22 f23 f24 f25 f26 f27 f28 f29 f30 f31 f32 f33 f34 f35 f36 f37 f38 f39 f40 f41 f42 f43 f44 f45 f46 f47 f48 f49 f50 f51 f52 f53 f54 f55 aT0 aT1 aD0 aD1:Addr} {y0 y1 y2 y3 y4 y5 y6 y7 y8 y9 y10 y11 y12 y13 y14 y15 y16 y17 y18 y19 y20 y21 y22 y23 y24 y25 y26 y27 y28 y29 y30 y31 y32 y33 y34 y35 y36 y37 y38 y39 y40 y41 y42 y43 y44 y45 y46 y47 y48 y49 y50 y51 y52 y53 y54 y55:Fv} (X:K.In h) (G:h.Ns mainGlobals mg)
   (aC_Flows:W.nsIn K mainGlobals "Flows"=some (some (.ref C_Flows))) (pg_Flows:W.plainGet K C_Flows Str.empty=true) (hd_Flows:W.hasDictIn K C_Flows=true) (po_Flows:W.plainOver K C_Flows=true) (sa_Flows:W.findIn K (.ref C_Flows) "__setattr__"=some (some (.builtin "object.__setattr__"))) (mk_Flows:W.makesIn K C_Flows=true) (kc_Flows:W.keepIn K (.ref C_Flows)=true)
   (n_Flows:NL (W.findIn K (.ref C_Flows)) ["last","number_of","folded_of","params_of","rows_of","names_in","ways_in"])
   (aC_Step:W.nsIn K mainGlobals "Step"=some (some (.ref C_Step))) (pg_Step:W.plainGet K C_Step Str.empty=true) (hd_Step:W.hasDictIn K C_Step=true) (po_Step:W.plainOver K C_Step=true) (sa_Step:W.findIn K (.ref C_Step) "__setattr__"=some (some (.builtin "object.__setattr__"))) (mk_Step:W.makesIn K C_Step=true) (kc_Step:W.keepIn K (.ref C_Step)=true)
   (n_Step:NL (W.findIn K (.ref C_Step)) ["flows","spots","marks","act","chain","ahead","row","news"])
   (e0:NF K f0 y0 "names_of" qR)
   (e1:NF K f1 y1 "reads" pO)
   (e2:NF K f2 y2 "gives" qi)
   (e3:NF K f3 y3 "atoms_of" pK)
   (e4:NF K f4 y4 "each_once" pB)
   (e5:NF K f5 y5 "ways" kZ)
   (e6:NF K f6 y6 "begins_of" pA)
   (e7:NF K f7 y7 "firsts_behind" jh)
   (e8:MF K C_Flows f8 y8 "__init__" "Flows.__init__" mT)
   (e9:MF K C_Flows f9 y9 "row_at" "Flows.row_at" pk)
   (e10:MF K C_Flows f10 y10 "ways_at" "Flows.ways_at" pE)
   (e11:NF K f11 y11 "value" qt)
   (e12:NF K f12 y12 "together" oG)
   (e13:NF K f13 y13 "put_through" qo)
   (e14:NF K f14 y14 "levels_of" oh)
   (e15:NF K f15 y15 "place_of" qM)
   (e16:NF K f16 y16 "moved" qk)
   (e17:NF K f17 y17 "with_given" qv)
   (e18:NF K f18 y18 "made_by" oI)
   (e19:NF K f19 y19 "entered" qI)
   (e20:NF K f20 y20 "left_behind" qP)
   (e21:NF K f21 y21 "asked_act" jY)
   (e22:NF K f22 y22 "boxes_behind" pf)
   (e23:MF K C_Step f23 y23 "__init__" "Step.__init__" kH)
   (e24:MF K C_Step f24 y24 "stands" "Step.stands" ib)
   (e25:MF K C_Step f25 y25 "goes" "Step.goes" ja)
   (e26:MF K C_Step f26 y26 "parts" "Step.parts" nV)
   (e27:MF K C_Step f27 y27 "comes_on" "Step.comes_on" nT)
   (e28:MF K C_Step f28 y28 "arrives" "Step.arrives" pM)
   (e29:MF K C_Step f29 y29 "is_wait" "Step.is_wait" nj)
   (e30:MF K C_Step f30 y30 "shows" "Step.shows" qf)
   (e31:NF K f31 y31 "spot_holds" nQ)
   (e32:NF K f32 y32 "_law_cell_at" qT)
   (e33:NF K f33 y33 "_law_value" ou)
   (e34:NF K f34 y34 "_law_names" qN)
   (e35:NF K f35 y35 "_law_some" nC)
   (e36:NF K f36 y36 "_law_through" oY)
   (e37:NF K f37 y37 "_law_view" qZ)
   (e38:NF K f38 y38 "_law_sets" mX)
   (e39:NF K f39 y39 "_law_news" qg)
   (e40:NF K f40 y40 "_law_landing" kJ)
   (e41:NF K f41 y41 "_law_held" oK)
   (e42:NF K f42 y42 "_law_outer" ph)
   (e43:NF K f43 y43 "_law_turned" p9)
   (e44:NF K f44 y44 "_law_flat" qB)
   (e45:NF K f45 y45 "_law_atom" nS)
   (e46:NF K f46 y46 "_law_of" pJ)
   (e47:NF K f47 y47 "_law_row" kY)
   (e48:NF K f48 y48 "_law_taken" pX)
   (e49:NF K f49 y49 "_law_act" iT)
   (e50:NF K f50 y50 "_law_known" jS)
   (e51:NF K f51 y51 "_law_filled" qe)
   (e52:NF K f52 y52 "_law_tries" pP)
   (e53:NF K f53 y53 "_law_fits" jD)
   (e54:NF K f54 y54 "_law_asked" mP)
   (e55:NF K f55 y55 "law" fg)
   {tk0:Tok} (w0:W.nsIn K mainGlobals "WIDE"=some (some (.int 281474976710656 tk0)))
   {odT0:Option Addr} {itT0:Array Value} {nT0:Nat} {slT0:Array (Option Value)} (q0:W.nsIn K mainGlobals "GIVING_KINDS"=some (some (.ref aT0))) (m0:K.lookup aT0=some #[.type "tuple",odT0,.seq itT0 nT0,slT0]) (v0:ax (K12.giving.map V.str) itT0.toList) (s0:itT0.size<=sizeLine)
   {odT1:Option Addr} {itT1:Array Value} {nT1:Nat} {slT1:Array (Option Value)} (q1:W.nsIn K mainGlobals "BROUGHT"=some (some (.ref aT1))) (m1:K.lookup aT1=some #[.type "tuple",odT1,.seq itT1 nT1,slT1]) (v1:ax [V.str "brought"] itT1.toList) (s1:itT1.size<=sizeLine)
   (qD0:W.nsIn K mainGlobals "ATOM_PLACES"=some (some (.ref aD0))) (mD0:PyProof.Rows.KTD.tabLook (lI K) (λa=>K.lookup a) aD0 K12.tabl=true)
   (qD1:W.nsIn K mainGlobals "FILLED_PLACES"=some (some (.ref aD1))) (mD1:PyProof.Rows.KTD.tabLook (md K) (λa=>K.lookup a) aD1 [("get",3),("new",1),("wait",1)]=true)
   (zz:NL (W.nsIn K mainGlobals) ["len","list","tuple","isinstance","range","all","enumerate","dict","str","zip","bool","int","max"])
   : ∃t,Txt K mg t :=
 #[#[C_Flows,C_Step,f0,_,f1,_,f2,_,f3,_,f4,_,f5,_,f6,_,f7,_,f8,_,f9,_,f10,_,f11,_,f12,_,f13,_,f14,_,f15,_,f16,_,f17,_,f18,_,f19,_,f20,_,f21,_,f22,_,f23,_,f24,_,f25,_,f26,_,f27,_,f28,_,f29,_,f30,_,f31,_,f32,_,f33,_,f34,_,f35,_,f36,_,f37,_,f38,_,f39,_,f40,_,f41,_,f42,_,f43,_,f44,_,f45,_,f46,_,f47,_,f48,_,f49,_,f50,_,f51,_,f52,_,f53,_,f54,_,f55,_,aT0,aT1,aD0,aD1],#[bW X G e0 (by walk_at "u"),bW X G e1 (by walk_at "u"),bW X G e2 (by walk_at "u"),bW X G e3 (by walk_at "u"),bW X G e4 (by walk_at "u"),bW X G e5 (by walk_at "u"),bW X G e6 (by walk_at "u"),bW X G e7 (by walk_at "u"),uc mk_Flows kc_Flows e8 (by walk_at "u"),gR e9 (by walk_at "u"),gR e10 (by walk_at "u"),bW X G e11 (by walk_at "u"),bW X G e12 (by walk_at "u"),bW X G e13 (by walk_at "u"),bW X G e14 (by walk_at "u"),bW X G e15 (by walk_at "u"),bW X G e16 (by walk_at "u"),bW X G e17 (by walk_at "u"),bW X G e18 (by walk_at "u"),bW X G e19 (by walk_at "u"),bW X G e20 (by walk_at "u"),bW X G e21 (by walk_at "u"),bW X G e22 (by walk_at "u"),uc mk_Step kc_Step e23 (by walk_at "u"),gR e24 (by walk_at "u"),gR e25 (by walk_at "u"),gR e26 (by walk_at "u"),gR e27 (by walk_at "u"),gR e28 (by walk_at "u"),gR e29 (by walk_at "u"),gR e30 (by walk_at "u"),bW X G e31 (by walk_at "u"),bW X G e32 (by walk_at "u"),bW X G e33 (by walk_at "u"),bW X G e34 (by walk_at "u"),bW X G e35 (by walk_at "u"),bW X G e36 (by walk_at "u"),bW X G e37 (by walk_at "u"),bW X G e38 (by walk_at "u"),bW X G e39 (by walk_at "u"),bW X G e40 (by walk_at "u"),bW X G e41 (by walk_at "u"),bW X G e42 (by walk_at "u"),bW X G e43 (by walk_at "u"),bW X G e44 (by walk_at "u"),bW X G e45 (by walk_at "u"),bW X G e46 (by walk_at "u"),bW X G e47 (by walk_at "u"),bW X G e48 (by walk_at "u"),bW X G e49 (by walk_at "u"),bW X G e50 (by walk_at "u"),bW X G e51 (by walk_at "u"),bW X G e52 (by walk_at "u"),bW X G e53 (by walk_at "u"),bW X G e54 (by walk_at "u"),bW X G e55 (by walk_at "u"),#[#[pg_Flows,hd_Flows,po_Flows,sa_Flows],W.mg_of X G aC_Flows],#[#[pg_Step,hd_Step,po_Step,sa_Step],W.mg_of X G aC_Step],n_Flows.1,n_Flows.2.1,n_Flows.2.2.1,n_Flows.2.2.2.1,n_Flows.2.2.2.2.1,n_Flows.2.2.2.2.2.1,n_Flows.2.2.2.2.2.2.1,n_Step.1,n_Step.2.1,n_Step.2.2.1,n_Step.2.2.2.1,n_Step.2.2.2.2.1,n_Step.2.2.2.2.2.1,n_Step.2.2.2.2.2.2.1,n_Step.2.2.2.2.2.2.2.1,#[_,W.mg_of X G w0],W.mg_of X G q0,λH=>.inr #[_,itT0,nT0,m0,rfl,rfl,s0,v0],W.mg_of X G q1,λH=>.inr #[_,itT1,nT1,m1,rfl,rfl,s1,v1],W.mg_of X G qD0,Aq mD0,W.mg_of X G qD1,Ff mD1,W.mg_none_of X G zz.1,W.mg_none_of X G zz.2.1,W.mg_none_of X G zz.2.2.1,W.mg_none_of X G zz.2.2.2.1,W.mg_none_of X G zz.2.2.2.2.1,W.mg_none_of X G zz.2.2.2.2.2.1,W.mg_none_of X G zz.2.2.2.2.2.2.1,W.mg_none_of X G zz.2.2.2.2.2.2.2.1,W.mg_none_of X G zz.2.2.2.2.2.2.2.2.1,W.mg_none_of X G zz.2.2.2.2.2.2.2.2.2.1,W.mg_none_of X G zz.2.2.2.2.2.2.2.2.2.2.1,W.mg_none_of X G zz.2.2.2.2.2.2.2.2.2.2.2.1,W.mg_none_of X G zz.2.2.2.2.2.2.2.2.2.2.2.2.1,λs u=>.of_eq rfl]]
end K44
end
open PySem PySem.W PyProof.Rows
set_option maxRecDepth 100000 in
set_option maxHeartbeats 0 in
theorem PySem.Challenge.cw_stopglass_k44_records_and_sends_held_holds : PySem.Challenge.rw_stopglass_k44_records_and_sends_held.Holds := by
 refine Hd.pk.2 ?_
 unfold Hd.pk
 dsimp only
 k_fill
 refine L2.walk_ofK (l:=PySem.Challenge.rw_stopglass_k44_records_and_sends_held) (n:=63) (k:=21) (x:="_law_script") (CX:=L2.CX0) (sp:=K44.sp_law) rfl (by decide) rfl ⟨rfl,by decide,by decide⟩ (λw h Y=>PySem.W.kIn_of Y) ?F ?S ?C
 case F =>
   intro w mg fa h KX G hmg;have T:∃t,K44.Txt (L2.KOf KX) mg t:=by
     dsimp only[L2.KOf];apply K44.txt_mk KX G
     (iterate 73 (first|(apply K44.nf_mk <;> k_is)|(apply K44.mf_mk <;> k_is)|((repeat refine K44.nl_c (by k_is) ?_); exact trivial)|k_is))
     (iterate 2 k_is)
     . (repeat (first|exact .nil|refine .cons ⟨_,rfl⟩ ?_))
     . decide
     (iterate 2 k_is)
     . (repeat (first|exact .nil|refine .cons ⟨_,rfl⟩ ?_))
     . decide
     . k_is
     . kernel_rfl
     . k_is
     . kernel_rfl
     (repeat refine K44.nl_c (by k_is) ?_)
     exact trivial
   obtain⟨t,T⟩:=T;have e0:=hmg.symm.trans T.law.g;cases e0;exact⟨t.nI,T.bl,λbase kb nb=>K44.ok_law T⟩
 case S=>exact λK H a ns hl hO hS=>⟨a,ns,rfl,hS,hl,λ_=>rfl⟩
 case C=>exact λ_ _ _ _ z=>z
