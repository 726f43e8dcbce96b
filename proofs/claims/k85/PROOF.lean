import PyProof.Rows.All
import Wide.All
import OpenK.AllK
import Wide.FinOn
import Lean
import PyProof.EqAt
import PyProof.EqKinds
import PyProof.TupleCall
import KE.KDictLaws
import KE.KDictOf
import KE.KEqDict
import KE.BitLaws
import PyProof.ZipIter
import PyProof.Rows.ZipGen
import PyProof.Rows.StrSplitAre
import PyProof.ExcInit
import PyProof.ExcBaseAll.ValueError
import PyProof.PassesOwn
import PyProof.StationsW
import PyProof.InstStoreFacts
import PyProof.ExcAttrAll.ValueError
import PyProof.NsDelKeeps
import KE.KListMore
import PyProof.P3Eq
import PyProof.Rows.TupDisplay
import PyProof.StrLawsReplace
import PyProof.StrCalls6
import PyProof.Rows.StrStrike
import KE.KIntText
import KE.IntTextText
import PySem.Challenge.RW_stopglass_k85_bits_changed
set_option Elab.async false
set_option linter.all false
set_option maxRecDepth 100000
section
namespace Hd
open PySem PySem.W PyProof.Rows
lay_quick PySem.W.topFrom
noncomputable abbrev TQ := PySem.W.Fast.tw370005188180407882 PySem.W.Fast.tw14364793385576792824
noncomputable abbrev OQ := PySem.W.Fast.tw4187177175401517315
noncomputable abbrev tp : Program := PySem.Challenge.pw_stopglass_k85_bits_changed
abbrev lo : List Str := [PySem.Str.ofString "ATOM_PLACES"]
def keeps : PySem.Stmt → Bool
 | .Assign [.Name x _] _ _ => !decide (x = "__name__")
 | _ => true
def viewOf (p : Program) : Program := { p with main := { p.main with body := p.main.body.filter keeps } }
abbrev Xf : Program → Shared → Bool := (fun p s => xlAt (viewOf p) [] s && recOk (RowW.records (OpenRow.toRowW (OpenLaw.row PySem.Challenge.rw_stopglass_k85_bits_changed))) s)
noncomputable def S0 (w : World) (os : OsState) : Shared := ⟨boot_heap w.params, Array.mk [], boot_drawn, boot_toks, os⟩
theorem ws : PySem.Challenge.rw_stopglass_k85_bits_changed.wellSaid = true := by kernel_rfl
section
local macro_rules | `(tactic| o_head $H) => `(tactic| (case Hk => exact $H))
noncomputable def hk : (H : Hook) ×' ((∀ P : Prop, P) → PySem.Challenge.rw_stopglass_k85_bits_changed.Holds) := by
 refine ⟨?Hk, fun h => ?m⟩
 rotate_left
 w_on; refine holds_law ws fun said => ?_; k_head; exact h _
end
theorem opt3 {σ α β γ : Type} {x : Option σ} {f : σ → α × β} {g : σ → γ} {a : α × β} {c : γ} (h1 : x.map (fun s => (f s).1) = some a.1) (h2 : x.map (fun s => (f s).2) = some a.2) (h3 : x.map g = some c) : x.map (fun s => (f s, g s)) = some (a, c) := by
 cases x with
 | none => cases h1
 | some s =>
  have e1 : (f s).1 = a.1 := Option.some.inj h1
  have e2 : (f s).2 = a.2 := Option.some.inj h2
  have e3 : g s = c := Option.some.inj h3
  show some (f s, g s) = some (a, c)
  rw [show f s = a from Prod.ext e1 e2, e3]
theorem r0a : ∀ (w : World) (os : OsState), (TQ tp (w.withFollow "special-get-raises" false) 20000 (S0 (w.withFollow "special-get-raises" false) os)).map (fun s => (OQ (viewOf tp) lo (importedModules tp.main.body) (Xf tp) true s).1) = some (openGood (viewOf tp) lo).1 := by
 intro w os; kernel_rfl
theorem r0b : ∀ (w : World) (os : OsState), (TQ tp (w.withFollow "special-get-raises" false) 20000 (S0 (w.withFollow "special-get-raises" false) os)).map (fun s => (OQ (viewOf tp) lo (importedModules tp.main.body) (Xf tp) true s).2) = some (openGood (viewOf tp) lo).2 := by
 intro w os; kernel_rfl
theorem r0c : ∀ (w : World) (os : OsState), (TQ tp (w.withFollow "special-get-raises" false) 20000 (S0 (w.withFollow "special-get-raises" false) os)).map (fun s => Hook.obs hk.1 s) = some (Hook.val hk.1 (w.withFollow "special-get-raises" false)) := by
 intro w os; kernel_rfl
theorem r0 : ∀ (w : World) (os : OsState), (TQ tp (w.withFollow "special-get-raises" false) 20000 (S0 (w.withFollow "special-get-raises" false) os)).map (fun s => (OQ (viewOf tp) lo (importedModules tp.main.body) (Xf tp) true s, Hook.obs hk.1 s)) = some (openGood (viewOf tp) lo, Hook.val hk.1 (w.withFollow "special-get-raises" false)) := fun w os => opt3 (r0a w os) (r0b w os) (r0c w os)
theorem r1a : ∀ (w : World) (os : OsState), (TQ tp (w.withFollow "special-get-raises" true) 20000 (S0 (w.withFollow "special-get-raises" true) os)).map (fun s => (OQ (viewOf tp) lo (importedModules tp.main.body) (Xf tp) true s).1) = some (openGood (viewOf tp) lo).1 := by
 intro w os; kernel_rfl
theorem r1b : ∀ (w : World) (os : OsState), (TQ tp (w.withFollow "special-get-raises" true) 20000 (S0 (w.withFollow "special-get-raises" true) os)).map (fun s => (OQ (viewOf tp) lo (importedModules tp.main.body) (Xf tp) true s).2) = some (openGood (viewOf tp) lo).2 := by
 intro w os; kernel_rfl
theorem r1c : ∀ (w : World) (os : OsState), (TQ tp (w.withFollow "special-get-raises" true) 20000 (S0 (w.withFollow "special-get-raises" true) os)).map (fun s => Hook.obs hk.1 s) = some (Hook.val hk.1 (w.withFollow "special-get-raises" true)) := by
 intro w os; kernel_rfl
theorem r1 : ∀ (w : World) (os : OsState), (TQ tp (w.withFollow "special-get-raises" true) 20000 (S0 (w.withFollow "special-get-raises" true) os)).map (fun s => (OQ (viewOf tp) lo (importedModules tp.main.body) (Xf tp) true s, Hook.obs hk.1 s)) = some (openGood (viewOf tp) lo, Hook.val hk.1 (w.withFollow "special-get-raises" true)) := fun w os => opt3 (r1a w os) (r1b w os) (r1c w os)
theorem left_twin {p p' : Program} {F : Program → Program} {X : Program → Shared → Bool} {loose : List Str} {α : Type} {Yf : Shared → α} {Ya : World → α} {N : Nat} {g0 : Bool} (row : String) (ep : p = p') (e : opening p = plainProg p.main.scope.names) (hN : Nat.ble 600 N = true) (f : ∀ s, fenceModules? p s = some s)
  (h0 : ∀ (w : World) (os : OsState), (TQ p' (w.withFollow row false) N (S0 (w.withFollow row false) os)).map (fun s => (OQ (F p') loose (importedModules p'.main.body) (X p') g0 s, Yf s)) = some (openGood (F p') loose, Ya (w.withFollow row false)))
  (h1 : ∀ (w : World) (os : OsState), (TQ p' (w.withFollow row true) N (S0 (w.withFollow row true) os)).map (fun s => (OQ (F p') loose (importedModules p'.main.body) (X p') g0 s, Yf s)) = some (openGood (F p') loose, Ya (w.withFollow row true))) : LeftO p (F p) loose (X p) Yf Ya N g0 := fun w => by
 subst ep
 have key : ∀ b, (openEnds treeTable p (w.withFollow row b) N).map (fun s => (openSeen (F p) loose (importedModules p.main.body) (X p) g0 s, Yf s)) = some (openGood (F p) loose, Ya (w.withFollow row b)) := by
  intro b
  obtain ⟨s, hs, hv⟩ := Option.map_eq_some_iff.mp (boot_open e hN f (w.withFollow row b))
  have es : s = S0 (w.withFollow row b) s.os := by
   cases s
   simp only [Prod.mk.injEq] at hv
   obtain ⟨a1, a2, a3, a4⟩ := hv
   subst a1 a2 a3 a4
   rfl
  unfold openEnds
  rw [hs, es, PySem.W.Fast.te370005188180407882, PySem.W.Fast.te14364793385576792824, PySem.W.Fast.te4187177175401517315]
  cases b
  . exact h0 w s.os
  . exact h1 w s.os
 have e0 := World.withFollow_self w row
 have := key (w.params.followText row)
 rwa [e0] at this
theorem left : LeftO PySem.Challenge.pw_stopglass_k85_bits_changed (viewOf PySem.Challenge.pw_stopglass_k85_bits_changed) lo (Xf PySem.Challenge.pw_stopglass_k85_bits_changed) (Hook.obs hk.1) (Hook.val hk.1) 20000 true :=
 left_twin (p := PySem.Challenge.pw_stopglass_k85_bits_changed) (p' := tp) (F := viewOf) (X := Xf) (loose := lo) (Yf := Hook.obs hk.1) (Ya := Hook.val hk.1) (N := 20000) (g0 := true) "special-get-raises" rfl (by kernel_rfl) (by decide) (fun s => by kernel_rfl) r0 r1
theorem left_of {H : Hook} (e : H = hk.1) : LeftO PySem.Challenge.pw_stopglass_k85_bits_changed (viewOf PySem.Challenge.pw_stopglass_k85_bits_changed) lo (Xf PySem.Challenge.pw_stopglass_k85_bits_changed) (Hook.obs H) (Hook.val H) 20000 true := by subst e; exact left
local macro_rules | `(tactic| o_head $H) => `(tactic| (
 refine holds_open (q := viewOf PySem.Challenge.pw_stopglass_k85_bits_changed) (loose := lo) (Xt := Xf PySem.Challenge.pw_stopglass_k85_bits_changed) (XP := XL (viewOf PySem.Challenge.pw_stopglass_k85_bits_changed) []) (Yf := Hook.obs $H) (Ya := Hook.val $H) (YP := Hook.says $H) (N := 20000) ?hl (Hook.of $H) (Hook.keeps $H) (fun s e => xl_of s (Bool.and_eq_true_iff.mp e).1) XL.keeps (by rfl) (by rfl) (by rfl) (fun s e => recFacts_of (Bool.and_eq_true_iff.mp e).2) (by rfl) (by assumption) (by decide +kernel) ⟨rfl, rfl, rfl, rfl, rfl, by decide +kernel⟩ ?hw ?hc
 (case hl => exact left_of (H := $H) (by kernel_rfl))))
set_option maxHeartbeats 0 in
noncomputable def pk : (G : Prop) ×' (G → PySem.Challenge.rw_stopglass_k85_bits_changed.Holds) := by
 refine' ⟨_, fun h => _⟩
 rotate_left
 w_on; refine holds_law ws fun said => ?_; k_head; (case hw => w_witness2)
 exact h
end Hd
end
abbrev qaj:=@Nat.le_refl
abbrev qas:=@Bool.false_ne_true
abbrev qat:=@PySem.Heap.get?_push_size
abbrev qaw:=@List.size_toArray
abbrev qax:=@PySem.F.plainAttrs_list
abbrev qay:=@List.mem_cons
abbrev qaz:=@Nat.zero_le
abbrev qa0:=@congrArg
abbrev qa1:=@PySem.F.slot_list_append
abbrev qa2:=@PySem.F.type_list_append
abbrev qa3:=@Bool.and_eq_true
abbrev qa4:=@List.mem_singleton
abbrev qa5:=@Int.eq_ofNat_of_zero_le
abbrev qa6:=@Nat.ne_of_lt
abbrev qa7:=@Nat.le_trans
abbrev qa8:=@List.mem_map
abbrev qa9:=@List.length_range
abbrev qba:=@List.mem_cons_of_mem
abbrev qbb:=@List.take_length
abbrev qbc:=@List.mem_append_right
abbrev qbd:=@List.append_assoc
abbrev qbe:=@List.length_take
abbrev qbf:=@List.append_nil
abbrev qbg:=@List.map_map
abbrev qbh:=@List.mem_cons_self
abbrev qbi:=@List.getElem?_eq_none
abbrev qbj:=@List.take_add_one
abbrev qbk:=@List.mem_append
abbrev qbl:=@List.map_cons
abbrev qbm:=@Nat.lt_irrefl
abbrev qbn:=@decide_eq_false
abbrev qbo:=@Nat.lt_or_ge
abbrev qbp:=@PySem.wpAny_field
abbrev qbq:=@Nat.not_lt_zero
abbrev qbr:=@PySem.Heap.get?_update_other
abbrev qbs:=@PySem.wpAny_holding
abbrev qbt:=@Bool.eq_iff_iff
abbrev qbu:=@Int.toNat_natCast
abbrev qbv:=@List.flatten_cons
abbrev qbw:=@List.getElem?_append_right
abbrev qbx:=@List.foldl_append
abbrev qby:=@List.range_succ
abbrev qbz:=@PyProof.Rows.callWith_type1
abbrev qb0:=@PySem.wpAny_mono
abbrev qb1:=@List.getElem?_of_mem
abbrev qb2:=@Array.getElem?_eq_some_iff
abbrev qb3:=@Int.zero_add
abbrev qb4:=@PySem.Heap.size_push
abbrev qb5:=@PySem.F.plainAttrs_str
abbrev qb6:=@PySem.wpAny_truthy_bool
abbrev qb7:=@PySem.wpAny_loadPart_at
abbrev qb8:=@List.getElem?_append_left
abbrev qb9:=@PySem.Heap.get?_update_self
abbrev qca:=@PySem.F.slot_str_join
abbrev qcb:=@PySem.F.type_str_join
abbrev qcc:=@Nat.lt_succ_self
abbrev qcd:=@List.getElem_mem
abbrev qce:=@List.mem_range
abbrev qcf:=@List.length_eq_zero_iff
abbrev qcg:=@PySem.wpAny_pyIter_list
abbrev qch:=@List.length_set
abbrev qci:=@List.map_congr_left
abbrev qcj:=@List.getElem?_set_self
abbrev qck:=@PySem.F.excBase_ValueError
abbrev qcl:=@List.lookup_cons
abbrev qcm:=@List.all_eq_true
abbrev qcn:=@PySem.wpAny_pyIter_tuple
abbrev qco:=@List.getElem?_eq_none_iff
abbrev qcp:=@Nat.le_succ
abbrev qcq:=@PySem.Heap.get?_none_of_le
abbrev qcr:=@List.getElem?_set_ne
abbrev qcs:=@Nat.mul_le_mul_right
abbrev qct:=@PySem.wpAny_seqItems
abbrev qcu:=@Nat.ne_of_gt
abbrev qcv:=@PySem.wpAny_Call_Name_kw
abbrev qcw:=@Bool.false_eq_true
abbrev qcx:=@PySem.wpAny_setField_rec
abbrev qcy:=@PySem.wpAny_passesOwn
abbrev qcz:=@List.length_replicate
abbrev qc0:=@PySem.F.slot_tuple_iterator_next
abbrev qc1:=@Option.isSome_iff_exists
abbrev qc2:=@List.length_drop
abbrev qc3:=@PySem.wpAny_call_entry
abbrev qc4:=@Option.bind_some
abbrev qc5:=@List.filterMap_cons
abbrev qc6:=@List.replicate_succ
abbrev qc7:=@List.flatten_append
abbrev qc8:=@PySem.wpAny_isSubtype_exc
abbrev qc9:=@PySem.wpAny_standAt
abbrev qda:=@PySem.wpAny_execs_nil
abbrev qdb:=@List.find?_cons
abbrev qdc:=@Nat.min_eq_left
abbrev qdd:=@List.take_of_length_le
abbrev qde:=@List.drop_eq_nil_of_le
abbrev qdf:=@PySem.wpAny_newObj_type
abbrev qdg:=@PySem.wpAny_setField
abbrev qdh:=@List.getElem?_range
abbrev qdi:=@List.flatMap_append
abbrev qdj:=@List.foldl_cons
abbrev qdk:=@List.length_nil
abbrev qdl:=@List.mem_or_eq_of_mem_set
abbrev qdm:=@List.getElem?_take_of_lt
abbrev qdn:=@PySem.F.slot_list_getattribute
abbrev qdo:=@Nat.pow_succ
abbrev qdp:=@Bool.and_false
abbrev qdq:=@beq_iff_eq
abbrev qdr:=@of_decide_eq_true
abbrev qds:=@PySem.wpAny_pyIter_enum
abbrev qdt:=@List.ext_getElem?
abbrev qdu:=@PySem.wpAny_pyNext_list_item
abbrev qdv:=@List.any_cons
abbrev qdw:=@PySem.wpAny_execs_cons
abbrev qdx:=@List.not_mem_nil
abbrev qdy:=@PySem.wpAny_isTrue_Compare1
abbrev qdz:=@PySem.wpAny_pyNext_list_end
abbrev qd0:=@List.mem_append_left
abbrev qd1:=@PySem.wpAny_call
abbrev qd2:=@PySem.codeAny_mono
abbrev qd3:=@List.nodup_cons
abbrev qd4:=@List.forIn_cons
abbrev qd5:=@Option.map_some
abbrev qd6:=@Nat.zero_add
abbrev qd7:=@PySem.wpAny_updateSeq_pair
abbrev qd8:=@PySem.F.slot_zip_next
abbrev qd9:=@Nat.zero_lt_one
abbrev qea:=@List.map_set
abbrev qeb:=@PySem.F.slot_dict_itemiterator_iter
abbrev qec:=@List.length_flatten
abbrev qed:=@List.map_eq_nil_iff
abbrev qee:=@PySem.F.args_tuple_iterator_next_1
abbrev qef:=@PySem.F.slot_dict_setdefault
abbrev qeg:=@PySem.wpAny_ite_true
abbrev qeh:=@PySem.F.entry_tuple_iterator_next
abbrev qei:=@PySem.F.attrBase_ValueError
abbrev qej:=@Bool.or_false
abbrev qek:=@PySem.wpAny_letOwnedTupleGo_enum
abbrev qel:=@PySem.wpAny_onRaise
abbrev qem:=@Nat.lt_succ_of_lt
abbrev qen:=@Nat.le_of_lt
abbrev qeo:=@Nat.mul_comm
abbrev qep:=@List.map_nil
abbrev qeq:=@PySem.wpAny_comprehension_free
abbrev qer:=@Nat.le_add_right
abbrev qes:=@Nat.min_eq_right
abbrev qet:=@List.cons_ne_nil
abbrev qeu:=@List.Pairwise.imp_of_mem
abbrev qev:=@List.mem_flatten
abbrev qew:=@Nat.pow_zero
abbrev qex:=@Nat.sub_self
abbrev qey:=@PySem.wpAny_Call_method0_late
abbrev qez:=@PySem.wpAny_pyNext_enum_itemD
abbrev qe0:=@PySem.F.plainAttrs_dict
abbrev qe1:=@PySem.F.slot_dict_items
abbrev qe2:=@Nat.add_sub_cancel_left
abbrev qe3:=@List.of_mem_zip
abbrev qe4:=@List.nil_append
abbrev qe5:=@Bool.or_eq_true
abbrev qe6:=@Int.natCast_add
abbrev qe7:=@Nat.mul_one
abbrev qe8:=@PySem.wpAny_loadPart
abbrev qe9:=@List.forIn_nil
abbrev qfa:=@PySem.wpAny_rule
abbrev qfb:=@PySem.wpAny_attempt
local macro_rules | `(tactic| walk_at "o") => `(tactic| (rw[decide_eq_true_eq]; omega))
local macro_rules | `(tactic| walk_at "f") => `(tactic| (first|exact .inl rfl|exact .inr rfl|assumption))
local macro_rules | `(tactic| walk_at "s") => `(tactic| exact ⟨rfl, rfl, rfl, by decide +kernel, rfl, by decide +kernel, by decide +kernel⟩)
namespace K11
end K11
namespace K14
end K14
namespace L2
open PySem PySem.Spec PyProof.Rows
abbrev Key:=Sum Int Str
def zsj:Key->Value->Bool
 | .inl k,v=>Value.isInt k v
 | .inr x,v=>Value.isStrOf x v
def keyH (w:World):Key->Int
 | .inl k=>hashInt k
 | .inr x=>hashStr w x
theorem zcn:∀{k:Key} {v:Value},zsj k v=true->(∃i t,k=Sum.inl i/\v=Value.int i t)\/(∃x t,k=Sum.inr x/\v=Value.str x t)
 | .inl i,v,h=>by obtain⟨t,e⟩:=Value.isInt_shape (k:=i) (v:=v) h;exact .inl ⟨i,t,rfl,e⟩
 | .inr x,v,h=>by obtain⟨t,e⟩:=Value.isStrOf_shape (x:=x) (v:=v) h;exact .inr ⟨x,t,rfl,e⟩
theorem zx9 (i:Int) (t:Tok):zsj (.inl i) (.int i t)=true:=by simp [zsj,Value.isInt]
theorem zxb (x:Str) (t:Tok):zsj (.inr x) (.str x t)=true:=by simp [zsj,Value.isStrOf]
theorem z4v (a b:Int):decide ((Sum.inl a:Key)=Sum.inl b)=(a==b):=by
 by_cases e:a=b
 . subst e; simp
 . have h:¬ (Sum.inl a:Key)=Sum.inl b:=λq=>e (Sum.inl.inj q);rw[qbn h];exact(beq_eq_false_iff_ne.mpr e).symm
theorem z50 (a b:Str):decide ((Sum.inr a:Key)=Sum.inr b)=decide (a=b):=by
 by_cases e:a=b
 . subst e; simp
 . have h:¬ (Sum.inr a:Key)=Sum.inr b:=λq=>e (Sum.inr.inj q);rw[qbn h,qbn e]
theorem z5w (a:Int) (b:Str):decide ((Sum.inl a:Key)=Sum.inr b)=false:=qbn (λq=>nomatch q)
theorem z5c (a:Str) (b:Int):decide ((Sum.inr a:Key)=Sum.inl b)=false:=qbn (λq=>nomatch q)
def zbz (prog:Program) (w:World):PySem.KeyKind prog w Key where
 is:=zsj
 hash:=keyH w
 inj:=λv a b ha hb=>by
   rcases zcn ha with⟨i,t,rfl,rfl⟩|⟨x,t,rfl,rfl⟩
   . rcases zcn hb with⟨j,u,rfl,e⟩|⟨y,u,rfl,e⟩
     . injection e with e1 _; rw[e1]
     . exact nomatch e
   . rcases zcn hb with⟨j,u,rfl,e⟩|⟨y,u,rfl,e⟩
     . exact nomatch e
     . injection e with e1 _; rw[e1]
 byValue:=λk v h=>by rcases zcn h with⟨i,t,rfl,rfl⟩|⟨x,t,rfl,rfl⟩ <;> rfl
 pyHash:=λhv h=>by
   rcases zcn hv with⟨i,t,rfl,rfl⟩|⟨x,t,rfl,rfl⟩
   . exact wpAny_pyHash_int h
   . exact wpAny_pyHash_str h
 eqBool:=λhu hv h=>by
   rcases zcn hu with⟨i,t,rfl,rfl⟩|⟨x,t,rfl,rfl⟩
   . rcases zcn hv with⟨j,u,rfl,rfl⟩|⟨y,u,rfl,rfl⟩
     . rw[z4v] at h; exact wpAny_eqBool_int h
     . rw[z5w] at h; exact SeqAt.EqAt.int_str i t y u _ _ _ _ h
   . rcases zcn hv with⟨j,u,rfl,rfl⟩|⟨y,u,rfl,rfl⟩
     . rw[z5c] at h; exact SeqAt.EqAt.str_int x t j u _ _ _ _ h
     . rw[z50] at h; exact wpAny_eqBool_str h
 «strs»:=λk x t v h=>by
   rcases zcn h with⟨i,u,rfl,e⟩|⟨y,u,rfl,e⟩
   . exact nomatch e
   . injection e with e1 _
     subst e1;cases v <;> rfl
theorem zsf (prog:Program) (w:World) (i:Int) (t:Tok):(zbz prog w).is (.inl i) (.int i t)=true:=zx9 i t
theorem zsl (prog:Program) (w:World) (x:Str) (t:Tok):(zbz prog w).is (.inr x) (.str x t)=true:=zxb x t
inductive V where
 | non|bl (b:Bool)|int (i:Int)|str (x:Str)|byt (b:Array UInt8)|flt (b:UInt64)|ref (a:Addr)|ty (n:String)
 deriving DecidableEq
def zc1:V->Value->Prop
 | .non,u=>u=Value.none
 | .bl b,u=>u=Value.bool b
 | .int i,u=>∃t,u=Value.int i t
 | .str x,u=>∃t,u=Value.str x t
 | .byt b,u=>∃t,u=Value.bytes b t
 | .flt b,u=>∃t,u=Value.float b t
 | .ref a,u=>u=Value.ref a
 | .ty n,u=>u=Value.type n
abbrev zcp:List V->List Value->Prop:=Paired zc1
theorem zcp.length {xs:List V} {us:List Value} (r:zcp xs us):xs.length=us.length:=Paired.length r
theorem zcp.get:∀{xs:List V} {us:List Value} {i:Nat} {x:V},zcp xs us->xs[i]?=some x->∃u,us[i]?=some u/\zc1 x u
 | _,_,_,_,.nil,e=>by simp at e
 | _,_,0,_,.cons r _,e=>by simp at e; subst e; exact⟨_,rfl,r⟩
 | _,_,i+1,x,.cons _ t,e=>by obtain⟨u,h1,h2⟩:=zcp.get (i:=i) (x:=x) t (by simpa using e);exact⟨u,by simpa using h1,h2⟩
theorem zcp.set {x:V} {u:Value} (r:zc1 x u):∀{xs:List V} {us:List Value} (i:Nat),zcp xs us->zcp (xs.set i x) (us.set i u)
 | _,_,_,.nil=>.nil
 | _,_,0,.cons _ t=>.cons r t
 | _,_,i+1,.cons q t=>.cons q (zcp.set r i t)
theorem zcp.append:∀{xs ys:List V} {us ws:List Value},zcp xs us->zcp ys ws->zcp (xs++ys) (us++ws)
 | _,_,_,_,.nil,s=>s
 | _,_,_,_,.cons r t,s=>.cons r (zcp.append t s)
theorem zcp.take:∀{xs:List V} {us:List Value} (n:Nat),zcp xs us->zcp (xs.take n) (us.take n)
 | _,_,0,_=>.nil
 | _,_,_+1,.nil=>.nil
 | _,_,n+1,.cons r t=>.cons r (zcp.take n t)
theorem zcp.drop:∀{xs:List V} {us:List Value} (n:Nat),zcp xs us->zcp (xs.drop n) (us.drop n)
 | _,_,0,r=>r
 | _,_,_+1,.nil=>.nil
 | _,_,n+1,.cons _ t=>zcp.drop n t
theorem zcp.none_of:∀{xs:List V} {us:List Value} {i:Nat},zcp xs us->xs[i]?=none->us[i]?=none:=λ{xs us i} r e=>by have h1:=r.length;have h2:xs.length<=i:=qco.mp e;exact qco.mpr (by omega)
def zq8:Option V->Option Value->Prop
 | some v,some u=>zc1 v u
 | none,none=>True
 | _,_=>False
def KV {κ:Type}:List (κ×V)->List (κ×Value)->Prop:=Paired λ(p:κ×V) (q:κ×Value)=>p.1=q.1/\zc1 p.2 q.2
def kV:Key->V
 | .inl i=>.int i
 | .inr x=>.str x
inductive HO where
 | lst (xs:List V)
 | tup (xs:List V)
 | dK (kvs:List (Key×V))|dT (kvs:List (List Key×V))
 | set (S:Int->Bool) (n:Nat)
 | ins (C dx:Addr) (fs:List (Str×V))
 | own (x:Addr)
 | xd (fs:List (Str×V))
 | met (f x:Addr)
 | rng (lo hi:Int)
 | frz (o:Obj) (u:HO)
 | tbl (ps:Array Value)
 | ext (φ:Heap->Prop)
abbrev Hp:=Addr->Option HO
def upd (H:Hp) (a:Addr) (o:HO):Hp:=λb=>if b=a then some o else H b
variable {H:Hp} {a:Addr} {o:HO}
theorem zab :upd H a o a=some o:=by unfold upd; rw[if_pos rfl]
variable {b:Addr}
theorem zal (h:b≠a):upd H a o b=H b:=by unfold upd; rw[if_neg h]
theorem zrp {u:HO}:upd (upd H a o) a u=upd H a u:=by funext b; unfold upd; split <;> rfl
theorem zrj {u:HO}(h:H a=some o) (h':H b=some u) (d:o≠u):a≠b:=by intro e; subst e; rw[h] at h'; exact d (Option.some.inj h')
theorem zaf (h:H a=some o) (h':H b=none):a≠b:=by intro e; subst e; rw[h] at h'; cases h'
section
variable (P:Program) (w:World)
def zdk (H:Hp) (h:Heap) (a:Addr):HO->Prop
 | .lst xs=>xs.length<=sizeLine/\∃(its:List Value) (n:Nat),zcp xs its/\h.get? a=some { cls:=.type "list",data:=.seq its.toArray n }
 | .tup xs=>xs.length<=sizeLine/\∃its:List Value,zcp xs its/\IsTup h a its.toArray
 | .dK kvs=>kvs.length<=sizeLine/\(a==sysModules)=false/\∃vs,KV kvs vs/\h.DictOf (zbz P w) a vs
 | .dT kvs=>kvs.length<=sizeLine/\(a==sysModules)=false/\∃xs:List (List Key×Addr×Value),
     Paired (λ(p:List Key×V) (q:List Key×Addr×Value)=>p.1=q.1/\H q.2.1=some (.tup (p.1.map kV))/\zc1 p.2 q.2.2) kvs xs /\
     ∃o es ep,h.get? a=some o/\o.ExactDict/\o.data=.dict es ep/\es.toList=xs.map (entryOfKey (tupleKind (zbz P w)))/\(xs.map (·.1)).Nodup
 | .set S n=>h.SetOf (intKind P w) a S n
 | .ins C dx fs=>H dx=some (.own a)/\fs.length<=1000/\dx≠a/\h.get? a=some (PySem.W.instObj C dx) /\
     ∃mA,h.Ns1 dx mA/\(∀f,zq8 (fs.lookup f) (mA f))/\PySem.Within mA (fs.map (·.1))
 | .own _=>∃o,h.get? a=some o
 | .xd fs=>∃mA,h.Ns1 a mA/\∀f,zq8 (fs.lookup f) (mA f)
 | .rng lo hi=>∃t u v,h.get? a=some { cls:=.type "range",data:=.fields #[.int lo t,.int hi u,.int 1 v] }
 | .frz o u=>h.get? a=some o/\zdk H h a u
 | .tbl ps=>h.get? a=some { cls:=.none,data:=.fields ps }
 | .met f x=>h.get? a=some (PySem.W.methodObj (.ref f) (.ref x))
 | .ext φ=>φ h/\(∃o,h.get? a=some o)/\∀h1 h2:Heap,φ h1->(∀o,h1.get? a=some o->h2.get? a=some o)->φ h2
def HOk (H:Hp) (h:Heap):Prop:=∀a o,H a=some o->zdk P w H h a o
end
section
variable {P:Program} {w:World} {H H':Hp} {h h':Heap} {a:Addr} {o:HO}
theorem zdk.lt (x:zdk P w H h a o):a<h.objs.size:=by
 cases o with
 | lst xs=>obtain⟨_,_,_,_,e⟩:=x; exact Heap.lt_size e
 | tup xs=>obtain⟨_,_,_,p⟩:=x; exact p.lt
 | dK kvs=>obtain⟨_,_,_,_,o,_,_,e,_⟩:=x; exact Heap.lt_size e
 | dT kvs=>obtain⟨_,_,_,_,o,_,_,e,_⟩:=x; exact Heap.lt_size e
 | set S n=>obtain⟨o,_,_,_,e,_⟩:=x; exact Heap.lt_size e
 | ins C dx fs=>obtain⟨_,_,_,e,_⟩:=x; exact Heap.lt_size e
 | own y=>obtain⟨_,e⟩:=x; exact Heap.lt_size e
 | xd fs=>obtain⟨_,⟨_,_,_,e,_⟩,_⟩:=x; exact Heap.lt_size e
 | rng lo hi=>obtain⟨_,_,_,e⟩:=x; exact Heap.lt_size e
 | frz ob u=>obtain⟨e,_⟩:=x; exact Heap.lt_size e
 | tbl ps=>exact Heap.lt_size (show h.get? a=some _ from x)
 | met f y=>exact Heap.lt_size (show h.get? a=some _ from x)
 | ext φ=>obtain⟨_,⟨_,e⟩,_⟩:=x; exact Heap.lt_size e
theorem Paired.mapP {α β:Type} {F G:α->β->Prop}:∀{l₁:List α} {l₂:List β},Paired F l₁ l₂->(∀a b,F a b->G a b)->Paired G l₁ l₂
 | _,_,.nil,_=>.nil
 | _,_,.cons r t,f=>.cons (f _ _ r) (Paired.mapP t f)
theorem zdk.stay (x:zdk P w H h a o) (k:∀b u,(b=a\/H b=some (.own a))->h.get? b=some u->h'.get? b=some u)
   (ho:∀b,H b=some (.own a)->H' b=some (.own a)) (ht:∀b xs,H b=some (.tup xs)->H' b=some (.tup xs)):zdk P w H' h' a o:=by
 induction o with
 | lst xs=>obtain⟨z,its,n,r,e⟩:=x; exact⟨z,its,n,r,k _ _ (.inl rfl) e⟩
 | tup xs=>obtain⟨z,its,r,ob,e,c⟩:=x; exact⟨z,its,r,ob,k _ _ (.inl rfl) e,c⟩
 | dK kvs=>obtain⟨z,y,vs,r,ob,es,ep,e,c⟩:=x; exact⟨z,y,vs,r,ob,es,ep,k _ _ (.inl rfl) e,c⟩
 | dT kvs =>
   obtain⟨z,y,xs,r,ob,es,ep,e,c⟩:=x;exact⟨z,y,xs,Paired.mapP r λp q z=>⟨z.1,ht _ _ z.2.1,z.2.2⟩,ob,es,ep,k _ _ (.inl rfl) e,c⟩
 | set S n=>obtain⟨ob,es,ep,t,e,c⟩:=x; exact⟨ob,es,ep,t,k _ _ (.inl rfl) e,c⟩
 | ins C dx fs =>
   obtain⟨d,z,ne,e,mA,⟨od,es,ep,e2,c⟩,r⟩:=x;exact⟨ho _ d,z,ne,k _ _ (.inl rfl) e,mA,⟨od,es,ep,k _ _ (.inr d) e2,c⟩,r⟩
 | own y=>obtain⟨ob,e⟩:=x; exact⟨ob,k _ _ (.inl rfl) e⟩
 | xd fs=>obtain⟨mA,⟨od,es,ep,e,c⟩,r⟩:=x; exact⟨mA,⟨od,es,ep,k _ _ (.inl rfl) e,c⟩,r⟩
 | rng lo hi=>obtain⟨t,u,v,e⟩:=x; exact⟨t,u,v,k _ _ (.inl rfl) e⟩
 | frz ob u ih=>obtain⟨e,q⟩:=x; exact⟨k _ _ (.inl rfl) e,ih q⟩
 | tbl ps =>
   have e:h.get? a=some { cls:=.none,data:=.fields ps }:=x;show h'.get? a=some { cls:=.none,data:=.fields ps };exact k a _ (.inl rfl) e
 | met f y =>
   have e:h.get? a=some (PySem.W.methodObj (.ref f) (.ref y)):=x;show h'.get? a=some (PySem.W.methodObj (.ref f) (.ref y));exact k a _ (.inl rfl) e
 | ext φ=>obtain⟨p,⟨o,e⟩,st⟩:=x; exact⟨st _ _ p λo q=>k _ _ (.inl rfl) q,⟨o,k _ _ (.inl rfl) e⟩,st⟩
theorem HOk.lt (x:HOk P w H h) (e:H a=some o):a<h.objs.size:=(x a o e).lt
theorem HOk.fresh (x:HOk P w H h) (e:h.objs.size<=a):H a=none:=by
 cases q:H a with
 | none=>rfl
 | some u=>exact absurd (Nat.lt_of_lt_of_le (x.lt q) e) (qbm _)
theorem HOk.kept (x:HOk P w H h) (k:∀b u,h.get? b=some u->h'.get? b=some u):HOk P w H h':=λa o e =>
 (x a o e).stay (λb u _ q=>k b u q) (λ_ q=>q) λ_ _ q=>q
theorem HOk.laid (x:HOk P w H h) (k:∀b u,h.get? b=some u->h'.get? b=some u) (hp:h.objs.size<=a) (new:zdk P w (upd H a o) h' a o):HOk P w (upd H a o) h':=λb u e=>by
 have hn:=x.fresh hp;by_cases hb:b=a
 . subst hb; rw[zab] at e; cases e; exact new
 . rw[zal hb] at e;exact(x b u e).stay (λc v _ q=>k c v q) (λc q=>by rw[zal (zaf q hn)]; exact q) λc xs q=>by rw[zal (zaf q hn)]; exact q
end
def Rd (H:Hp) (a:Addr) (u:HO):Prop:=H a=some u\/∃o,H a=some (.frz o u)
variable {P:Program} {w:World} {h:Heap}
theorem Rd.ok {u:HO} (r:Rd H a u) (x:HOk P w H h):zdk P w H h a u:=by
 rcases r with r|⟨o,r⟩
 . exact x a u r
 . obtain⟨_,q⟩:=x a _ r;exact q
def Mut:Option HO->Prop
 | some (.lst _)=>True
 | some (.dK _)=>True
 | some (.dT _)=>True
 | some (.set _ _)=>True
 | some (.ins _ _ _)=>True
 | some (.ext _)=>True
 | _=>False
section
variable {P:Program} {w:World} {H:Hp} {h h':Heap} {x e:Addr} {o':HO}
theorem HOk.write (ok:HOk P w H h) (mu:Mut (H x)) (he:e=x\/H e=some (.own x)) (k:∀b u,b≠e->h.get? b=some u->h'.get? b=some u) (heo:∃u,h'.get? e=some u)
   (new:zdk P w (upd H x o') h' x o'):HOk P w (upd H x o') h':=λb u q=>by
 have nown:∀c y,H c=some (.own y)->c≠x:=λc y r z=>by subst z; rw[r] at mu; exact mu
 have ntup:∀c xs,H c=some (.tup xs)->c≠x:=λc xs r z=>by subst z; rw[r] at mu; exact mu
 by_cases hb:b=x
 . subst hb; rw[zab] at q; cases q; exact new
 . rw[zal hb] at q;by_cases hbe:b=e
   . have q':H b=some (.own x):=by
       rcases he with z|z
       . exact absurd (hbe.trans z) hb
       . rw[hbe]; exact z
     rw[q] at q'; cases q';obtain⟨v,hv⟩:=heo;exact⟨v,by rw[hbe]; exact hv⟩
   . refine(ok b u q).stay (λc v hc r=>k c v ?_ r) (λc r=>by rw[zal (nown c b r)]; exact r) λc xs r=>by rw[zal (ntup c xs r)]; exact r
     rcases hc with rfl|hc
     . exact hbe
     . rintro rfl;rcases he with z|z
       . exact nown c b hc z
       . rw[hc] at z; cases z; exact hb rfl
end
structure Un (fs ex:List Addr) (H H':Hp) (h h':Heap):Prop where
 keep:∀b o,h.get? b=some o->H b=none->b ∉ fs->b ∉ ex->h'.get? b=some o
 slot:∀b o,h.get? b=some o->H b=none->b∈fs->b ∉ ex->∃sl,h'.get? b=some { o with slots:=sl }
 free:∀b o,h.get? b=some o->H b=none->b ∉ ex->H' b=none
 there:∀b o,h.get? b=some o->b ∉ ex->∃o',h'.get? b=some o'
 tups:∀b xs,H b=some (.tup xs)->H' b=some (.tup xs)
 frzs:∀b o u,H b=some (.frz o u)->H' b=some (.frz o u)
 tbls:∀b ps,H b=some (.tbl ps)->∃more,H' b=some (.tbl (ps++more))
section
variable {fs fs' ex ex':List Addr} {H H1 H2:Hp} {h h1 h2 h':Heap} {a x e:Addr} {o:HO}
theorem Un.any (u:Un fs ex H H1 h h1) {ob:Obj} (q:h.get? b=some ob) (n:H b=none) (hx:b ∉ ex):∃sl,h1.get? b=some { ob with slots:=sl }:=by
 by_cases hb:b∈fs
 . exact u.slot b ob q n hb hx
 . exact⟨ob.slots,u.keep b ob q n hb hx⟩
theorem Un.kept (k:∀b u,h.get? b=some u->h'.get? b=some u):Un fs ex H H h h' :=
 ⟨λb ob q _ _ _=>k b ob q,λb ob q _ _ _=>⟨ob.slots,k b ob q⟩,λ_ _ _ n _=>n,λb ob q _=>⟨ob,k b ob q⟩,λ_ _ q=>q,λ_ _ _ q=>q,λ_ ps q=>⟨#[],by rw[q]; simp⟩⟩
theorem Un.refl:Un fs ex H H h h:=Un.kept λ_ _ q=>q
theorem Un.laid (k:∀b u,h.get? b=some u->h'.get? b=some u) (hp:h.objs.size<=a) (hn:H a=none):Un fs ex H (upd H a o) h h' where
 keep:=λb u q _ _ _=>k b u q
 slot:=λb u q _ _ _=>⟨u.slots,k b u q⟩
 free:=λb u q n _=>by rw[zal (qa6 (Nat.lt_of_lt_of_le (Heap.lt_size q) hp))]; exact n
 there:=λb u q _=>⟨u,k b u q⟩
 tups:=λb xs q=>by rw[zal (zaf q hn)]; exact q
 frzs:=λb u xs q=>by rw[zal (zaf q hn)]; exact q
 tbls:=λb ps q=>⟨#[],by rw[zal (zaf q hn),q]; simp⟩
theorem Un.write (mu:Mut (H x)) (he:e=x\/H e=some (.own x)) (k:∀b u,b≠e->h.get? b=some u->h'.get? b=some u) (heo:∃u,h'.get? e=some u):Un fs ex H (upd H x o) h h':=by
 have hx:∀b,H b=none->b≠x:=λb n z=>by subst z; rw[n] at mu; exact mu
 have hb:∀b,H b=none->b≠e:=λb n z=>by
   subst z;rcases he with r|r
   . exact hx b n r
   . rw[n] at r; cases r
 have hm:∀b u,H b=some u->¬ Mut (some u)->b≠x:=λb u q nm z=>by subst z; rw[q] at mu; exact nm mu
 refine⟨λb u q n _ _=>k b u (hb b n) q,λb u q n _ _=>⟨u.slots,k b u (hb b n) q⟩,λb u q n _=>by rw[zal (hx b n)]; exact n,λb u q _=>?_,
   λb xs q=>by rw[zal (hm b _ q λz=>z)]; exact q,λb u xs q=>by rw[zal (hm b _ q λz=>z)]; exact q,λb ps q=>⟨#[],by rw[zal (hm b _ q λz=>z),q]; simp⟩⟩
 by_cases hbe:b=e
 . subst hbe; exact heo
 . exact⟨u,k b u hbe q⟩
end
def trk (h:Heap) (H:Hp):List Addr:=(List.range h.objs.size).filter λa=>(H a).isSome
def zz5 (h:Heap) (H:Hp):Heap:=PySem.W.hideAll h (trk h H)
theorem zww (h:Heap) (H:Hp):(zz5 h H).objs.size=h.objs.size:=PySem.W.hideAll_size _ _
theorem zzq {o:Obj} (e:h.get? b=some o) (n:H b=none):(zz5 h H).get? b=some o :=
 PySem.W.hideAll_get _ e λhm=>by have q:(H b).isSome=true:=(List.mem_filter.mp hm).2;rw[n] at q; simp at q
theorem z27 {o:Obj} (e:(zz5 h H).get? b=some o):h.get? b=some o/\H b=none:=by
 have e':h.get? b=some o:=PySem.W.of_hideAll (trk h H) e;refine⟨e',?_⟩;cases q:H b with
 | none=>rfl
 | some x =>
   have hm:b∈trk h H:=List.mem_filter.mpr ⟨qce.mpr (Heap.lt_size e'),by simp [q]⟩;have z:(zz5 h H).get? b=none:=PySem.W.hideAll_none (trk h H) hm;rw[z] at e; cases e
structure Mod (K:W.Frag) (mg:Str->Option Value) (base:Heap):Prop where
 kin:K.In base
 glob:base.Ns mainGlobals mg
 blt:∃mb,base.Ns builtinsNs mb/\∀x:Str,x≠"__name__"->mb x=bootBuiltins x
 nolimit:base.NoLimit
structure Cx where
 prog:Program
 w:World
 K:W.Frag
 mg:Str->Option Value
 base:Heap
 A:Around
 N:List Str
 s₀:Shared
 H₀:Hp
 env:Env
 outer:List Env
 stack:List Env
 ex:List Addr
 fn:Str->Bool
 calm:Bool
 pn:List (Addr×Obj)
 xe:Value->Shared->Prop
def frs (l:List Env):List Addr:=l.filterMap (·.frame)
abbrev Cx.fs (X:Cx):List Addr:=frs X.outer
def Vis (sc:Scope) (x:Str):Prop:=sc.names.lookup x=some .local\/sc.names.lookup x=some .cell\/sc.names.lookup x=some .free
def Loc (sc:Scope) (x:Str):Prop:=sc.names.lookup x=some .local\/sc.names.lookup x=some .cell
def Look (env:Env) (h:Heap) (m:Str->Option Value) (x:Str) (u:Value):Prop :=
 (env.kindOf x=some .local/\m x=some u)\/((env.kindOf x=some .cell\/env.kindOf x=some .free)/\∃c,env.cells.lookup x=some c/\h.IsCell c (some u))
structure Cx.Ok (X:Cx):Prop where
 mod:Mod X.K X.mg X.base
 kind:X.env.scope.kind=.function
 glob:X.env.globals=mainGlobals
 blt:X.env.builtins=builtinsNs
 above:X.s₀.heap.objs.size<=X.env.locals
 inj:∀x y c,X.env.cells.lookup x=some c->X.env.cells.lookup y=some c->x=y
 has:∀x,(X.env.kindOf x=some .cell\/X.env.kindOf x=some .free)->∃c,X.env.cells.lookup x=some c
 cab:∀x c,X.fn x=true->X.env.cells.lookup x=some c->X.s₀.heap.objs.size<=c
 hd:X.calm=true->X.A.handled=none
 frames:X.A.frames=some X.stack
 stk:X.stack=X.outer\/(X.stack=X.env :: X.outer/\X.env.frame=some X.env.locals)
 exf:∀b∈X.ex,b≠X.env.locals/\∀x c,X.env.cells.lookup x=some c->c≠b
 bs:∀b o,X.base.get? b=some o->X.s₀.heap.get? b=some o/\X.H₀ b=none
 bsz:X.base.objs.size<=X.s₀.heap.objs.size
 noex:∀b o,X.base.get? b=some o->b ∉ X.ex
 exfs:∀b∈X.ex,b ∉ X.fs
 funs:X.s₀.heap.FunFrames X.base X.outer
 frf:∀b∈X.fs,X.H₀ b=none
structure Inv (X:Cx) (pins:List (Addr×Obj)) (σ:List (Option V)) (H:Hp) (s:Shared):Prop where
 ok:X.Ok
 os:s.os=X.s₀.os
 bare:AllBare s.gens
 base:Un X.fs X.ex X.H₀ H X.s₀.heap s.heap
 loc:∃m,s.heap.Ns X.env.locals m/\∀(i:Nat) (x:Str) (v:V),X.N[i]?=some x->σ[i]?=some (some v)->Vis X.env.scope x->∃u,zc1 v u/\Look X.env s.heap m x u
 cell:∀x c,X.env.cells.lookup x=some c->∃v,s.heap.IsCell c v
 free:H X.env.locals=none
 freeC:∀x c,X.env.cells.lookup x=some c->H c=none
 pin:∀p∈X.pn++pins,s.heap.get? p.1=some p.2/\H p.1=none/\p.1≠X.env.locals/\p.1 ∉ X.fs/\∀v,p.2.data≠.cell v
 hok:HOk X.prog X.w H s.heap
 len:σ.length=X.N.length
variable {u:Value} {t' i:Nat} {x:Str} {M:Model} {A:Around} {E:Value->Shared->Prop} {v:V}
section
variable {X:Cx} {pins:List (Addr×Obj)} {σ:List (Option V)} {H H':Hp} {s:Shared} {h':Heap}
theorem Cx.Ok.nofr (ok:X.Ok) {o:Obj} (e:X.base.get? b=some o):b ∉ X.fs:=λhb=>by have:=(ok.funs.mem hb).1;rw[e] at this; cases this
theorem Inv.bs (I:Inv X pins σ H s):∀b o,X.base.get? b=some o->s.heap.get? b=some o/\H b=none:=λb o e =>
 ⟨I.base.keep b o (I.ok.bs b o e).1 (I.ok.bs b o e).2 (I.ok.nofr e) (I.ok.noex b o e),I.base.free b o (I.ok.bs b o e).1 (I.ok.bs b o e).2 (I.ok.noex b o e)⟩
theorem Inv.bk (I:Inv X pins σ H s):∀b o,X.base.get? b=some o->s.heap.get? b=some o:=λb o e=>(I.bs b o e).1
theorem Inv.mod (I:Inv X pins σ H s):Mod X.K X.mg X.base:=I.ok.mod
theorem Inv.kIn (I:Inv X pins σ H s):X.K.In s.heap:=I.ok.mod.kin.keeps I.bk
theorem Inv.fr (I:Inv X pins σ H s):∃m,Fr X.base X.env.locals s.heap m :=
 let ⟨m,hn,_⟩:=I.loc
 ⟨m,hn,I.bk,qa7 I.ok.bsz I.ok.above⟩
theorem Inv.lt (I:Inv X pins σ H s):X.env.locals<s.heap.objs.size:=let ⟨_,hn,_⟩:=I.loc; hn.lt
theorem Inv.sz (I:Inv X pins σ H s):X.s₀.heap.objs.size<=s.heap.objs.size:=qa7 I.ok.above (qen I.lt)
theorem Inv.nofs (I:Inv X pins σ H s) (h:s.heap.objs.size<=a):a ∉ X.fs:=λhb=>by obtain⟨_,o,ho,_⟩:=I.ok.funs.mem hb;exact absurd (Nat.lt_of_lt_of_le (Heap.lt_size ho) (qa7 I.sz h)) (qbm _)
theorem Inv.cne (I:Inv X pins σ H s):∀x c,X.env.cells.lookup x=some c->c≠X.env.locals:=λx c e z=>by obtain⟨v,o,ho,hd⟩:=I.cell x c e;obtain⟨m,⟨o',es,ep,ho',hd',_⟩,_⟩:=I.loc;rw[z,ho'] at ho; cases ho; rw[hd'] at hd; cases hd
theorem Inv.funs (I:Inv X pins σ H s):s.heap.FunFrames X.base X.outer:=by
 have all:∀(l:List Env),(∀b∈frs l,b∈X.fs)->X.s₀.heap.FunFrames X.base l->s.heap.FunFrames X.base l:=by
   intro l
   induction l with
   | nil=>intro _ _; trivial
   | cons env r ih =>
     intro hs hl;obtain⟨hk,⟨L,o,hf,hn,ho,hd⟩,hr⟩:=hl;have hL:L∈X.fs:=hs L (by unfold frs; rw[qc5,hf]; exact qbh);obtain⟨sl,e⟩:=I.base.slot L o ho (I.ok.frf L hL) hL λz=>I.ok.exfs L z hL;exact⟨hk,⟨L,_,hf,hn,e,hd⟩,ih (λb hb=>hs b (by unfold frs; rw[qc5,hf]; exact qba _ hb)) hr⟩
 exact all X.outer (λ_ hb=>hb) I.ok.funs
theorem Inv.stack (I:Inv X pins σ H s):s.heap.FunFrames X.base X.stack:=by
 rcases I.ok.stk with e|⟨e,hf⟩
 . rw[e]; exact I.funs
 . rw[e];obtain⟨m,hn,_⟩:=I.loc;refine .cons (by rw[I.ok.kind]; decide) hf hn ?_ I.funs;exact qcq (qa7 I.ok.bsz I.ok.above)
theorem Inv.stkSub (I:Inv X pins σ H s):∀b∈frs X.stack,b∈X.env.locals :: X.fs:=λb hb=>by
 rcases I.ok.stk with e|⟨e,hf⟩
 . rw[e] at hb; exact qba _ hb
 . rw[e] at hb;unfold frs at hb;rw[qc5,hf] at hb;exact hb
theorem Inv.stkFree (I:Inv X pins σ H s):∀b∈frs X.stack,H b=none:=λb hb=>by
 rcases qay.mp (I.stkSub b hb) with e|hb
 . rw[e]; exact I.free
 . obtain⟨_,o,ho,_⟩:=I.ok.funs.mem hb;exact I.base.free b o ho (I.ok.frf b hb) λz=>I.ok.exfs b z hb
theorem Inv.step {g':Array GenState} {d':Drawn} {ch:List Addr} (I:Inv X pins σ H s)
   (hch:∀b∈ch,(b∈X.ex\/X.s₀.heap.objs.size<=b)/\b≠X.env.locals/\(∀x c,X.env.cells.lookup x=some c->c≠b)/\∀p∈X.pn++pins,p.1≠b)
   (keep:∀b o,b≠X.env.locals->b ∉ X.fs->b ∉ ch->s.heap.get? b=some o->H b=none->h'.get? b=some o)
   (slot:∀b o,b≠X.env.locals->b∈X.fs->b ∉ ch->s.heap.get? b=some o->H b=none->∃sl,h'.get? b=some { o with slots:=sl }) (free:∀b o,b ∉ ch->s.heap.get? b=some o->H b=none->H' b=none)
   (there:∀b o,b ∉ ch->s.heap.get? b=some o->∃o',h'.get? b=some o')
   (tups:∀b xs,H b=some (.tup xs)->H' b=some (.tup xs)) (frzs:∀b o u,H b=some (.frz o u)->H' b=some (.frz o u)) (tbls:∀b ps,H b=some (.tbl ps)->∃more,H' b=some (.tbl (ps++more)))
   (ns:∀m,s.heap.Ns X.env.locals m->h'.Ns X.env.locals m) (hok:HOk X.prog X.w H' h') (hg:AllBare g') :
   Inv X pins σ H' { s with heap:=h',gens:=g',drawn:=d',toks:=t' }:=by
 have neL:∀b o,X.s₀.heap.get? b=some o->b≠X.env.locals:=λb o e=>qa6 (Nat.lt_of_lt_of_le (Heap.lt_size e) I.ok.above);have neC:∀b o,X.s₀.heap.get? b=some o->b ∉ X.ex->b ∉ ch:=λb o e hx hb=>by
   rcases (hch b hb).1 with z|z
   . exact hx z
   . exact absurd (Nat.lt_of_lt_of_le (Heap.lt_size e) z) (qbm _)
 have cellK:∀x c,X.env.cells.lookup x=some c->∀v,s.heap.IsCell c v->h'.IsCell c v:=λx c e v ⟨o,ho,hd⟩=>by
   have nch:c ∉ ch:=λz=>(hch c z).2.2.1 x c e rfl;by_cases hc:c∈X.fs
   . obtain⟨sl,q⟩:=slot c o (I.cne x c e) hc nch ho (I.freeC x c e);exact⟨_,q,hd⟩
   . exact⟨o,keep c o (I.cne x c e) hc nch ho (I.freeC x c e),hd⟩
 refine⟨I.ok,I.os,hg,⟨λb o e n hb hx=>?_,λb o e n hb hx=>?_,λb o e n hx=>?_,λb o e hx=>?_,λb xs e=>tups b xs (I.base.tups b xs e),λb o xs e=>frzs b o xs (I.base.frzs b o xs e),λb ps e=>?_⟩,?_,λx c e=>?_,?_,λx c e=>?_,λp hp=>?_,hok,I.len⟩
 . exact keep b o (neL b o e) hb (neC b o e hx) (I.base.keep b o e n hb hx) (I.base.free b o e n hx)
 . obtain⟨sl,e1⟩:=I.base.slot b o e n hb hx;obtain⟨sl',e2⟩:=slot b _ (neL b o e) hb (neC b o e hx) e1 (I.base.free b o e n hx);exact⟨sl',e2⟩
 . obtain⟨o',e1⟩:=I.base.there b o e hx;exact free b o' (neC b o e hx) e1 (I.base.free b o e n hx)
 . obtain⟨o',e1⟩:=I.base.there b o e hx;exact there b o' (neC b o e hx) e1
 . obtain⟨m1,e1⟩:=I.base.tbls b ps e;obtain⟨m2,e2⟩:=tbls b _ e1;exact⟨m1++m2,by rw[e2,Array.append_assoc]⟩
 . obtain⟨m,hn,hl⟩:=I.loc;refine⟨m,ns m hn,λi x v e1 e2 e3=>?_⟩;obtain⟨u,r,l⟩:=hl i x v e1 e2 e3;refine⟨u,r,?_⟩;rcases l with l|⟨k,c,e,z⟩
   . exact .inl l
   . exact .inr ⟨k,c,e,cellK x c e _ z⟩
 . obtain⟨v,z⟩:=I.cell x c e;exact⟨v,cellK x c e v z⟩
 . obtain⟨m,⟨o,_,_,ho,_⟩,_⟩:=I.loc;exact free _ o (λz=>(hch _ z).2.1 rfl) ho I.free
 . obtain⟨v,o,ho,hd⟩:=I.cell x c e;exact free c o (λz=>(hch c z).2.2.1 x c e rfl) ho (I.freeC x c e)
 . obtain⟨e,n,ne,nf,d⟩:=I.pin p hp;have nch:p.1 ∉ ch:=λz=>(hch p.1 z).2.2.2 p hp rfl;exact⟨keep p.1 p.2 ne nf nch e n,free p.1 p.2 nch e n,ne,nf,d⟩
theorem Inv.un (I:Inv X pins σ H s) (u:Un X.fs [] H H' s.heap h') (hok:HOk X.prog X.w H' h'):Inv X pins σ H' { s with heap:=h',toks:=t' }:=by
 obtain⟨m,⟨o,es,ep,ho,r⟩,_⟩:=id I.loc;obtain⟨sl,hL⟩:=u.any ho I.free (by simp);exact I.step (g':=s.gens) (d':=s.drawn) (ch:=[]) (λ_ z=>nomatch z) (λb o _ hb _ e n=>u.keep b o e n hb (by simp)) (λb o _ hb _ e n=>u.slot b o e n hb (by simp)) (λb o _ e n=>u.free b o e n (by simp)) (λb o _ e=>u.there b o e (by simp)) u.tups u.frzs u.tbls (λm' hm=>by obtain⟨o',es',ep',ho',r'⟩:=hm;rw[ho] at ho'; cases ho';exact⟨_,es',ep',hL,r'⟩) hok I.bare
theorem Inv.call {g':Array GenState} {d':Drawn} {ch:List Addr} (I:Inv X pins σ H s) (u:Un (frs X.stack) ch H H' s.heap h') (hok:HOk X.prog X.w H' h') (hg:AllBare g')
   (hch:∀b∈ch,(b∈X.ex\/X.s₀.heap.objs.size<=b)/\b≠X.env.locals/\(∀x c,X.env.cells.lookup x=some c->c≠b)/\∀p∈X.pn++pins,p.1≠b) :
   Inv X pins σ H' { s with heap:=h',gens:=g',drawn:=d',toks:=t' }:=by
 obtain⟨m,⟨o,es,ep,ho,r⟩,_⟩:=id I.loc;obtain⟨sl,hL⟩:=u.any ho I.free λz=>(hch _ z).2.1 rfl;exact I.step (ch:=ch) hch (λb o hL hb hc e n=>u.keep b o e n (λz=>(qay.mp (I.stkSub b z)).elim hL hb) hc) (λb o _ _ hc e n=>u.any e n hc) (λb o hc e n=>u.free b o e n hc) (λb o hc e=>u.there b o e hc) u.tups u.frzs u.tbls (λm' hm=>by obtain⟨o',es',ep',ho',r'⟩:=hm;rw[ho] at ho'; cases ho';exact⟨_,es',ep',hL,r'⟩) hok hg
theorem Inv.turned {it:Addr} (I:Inv X pins σ H s) (k:∀b o,b≠it->s.heap.get? b=some o->h'.get? b=some o) (hn:H it=none) (hL:it≠X.env.locals)
   (h1:it∈X.ex\/X.s₀.heap.objs.size<=it) (h2:∀x c,X.env.cells.lookup x=some c->c≠it) (h3:∀p∈X.pn++pins,p.1≠it):Inv X pins σ H { s with heap:=h',toks:=t' }:=by
 have nit:∀b u,H b=some u->b≠it:=λb u e z=>by rw[z,hn] at e; cases e
 refine I.step (g':=s.gens) (d':=s.drawn) (ch:=[it]) (λb hb=>?_) (λb o _ _ hc e _=>k b o (λz=>hc (by simp [z])) e) (λb o _ _ hc e _=>⟨o.slots,k b o (λz=>hc (by simp [z])) e⟩) (λ_ _ _ _ n=>n)
   (λb o hc e=>⟨o,k b o (λz=>hc (by simp [z])) e⟩) (λ_ _ e=>e) (λ_ _ _ e=>e) (λb ps e=>⟨#[],by rw[e]; simp⟩) (λm hm=>?_) (λb u e=>?_) I.bare
 . have e:b=it:=by simpa using hb
   subst e;exact⟨h1,hL,h2,h3⟩
 . obtain⟨o,es,ep,ho,r⟩:=hm;exact⟨o,es,ep,k _ o (Ne.symm hL) ho,r⟩
 . refine(I.hok b u e).stay (λc v hc q=>k c v ?_ q) (λ_ q=>q) λ_ _ q=>q;rcases hc with z|z
   . rw[z]; exact nit b u e
   . exact nit c _ z
theorem Inv.tok (I:Inv X pins σ H s) (t:Nat):Inv X pins σ H { s with toks:=t }:=I.un (h':=s.heap) (t':=t) Un.refl I.hok
theorem Inv.kept {t':Nat} (I:Inv X pins σ H s) (k:∀b u,s.heap.get? b=some u->h'.get? b=some u):Inv X pins σ H { s with heap:=h',toks:=t' }:=I.un (Un.kept k) (I.hok.kept k)
theorem Inv.laid {a:Addr} {o:HO} {t':Nat} (I:Inv X pins σ H s) (k:∀b u,s.heap.get? b=some u->h'.get? b=some u) (hp:s.heap.objs.size<=a) (new:zdk X.prog X.w (upd H a o) h' a o) :
   Inv X pins σ (upd H a o) { s with heap:=h',toks:=t' }:=I.un (Un.laid k hp (I.hok.fresh hp)) (I.hok.laid k hp new)
theorem Inv.write {x e:Addr} {o:HO} {t':Nat} (I:Inv X pins σ H s) (mu:Mut (H x)) (he:e=x\/H e=some (.own x)) (k:∀b u,b≠e->s.heap.get? b=some u->h'.get? b=some u) (heo:∃u,h'.get? e=some u)
   (new:zdk X.prog X.w (upd H x o) h' x o):Inv X pins σ (upd H x o) { s with heap:=h',toks:=t' }:=I.un (Un.write mu he k heo) (I.hok.write mu he k heo new)
theorem Inv.weak {σ':List (Option V)} (I:Inv X pins σ H s) (hl:σ'.length=σ.length) (w:∀(i:Nat) v,σ'[i]?=some (some v)->σ[i]?=some (some v)):Inv X pins σ' H s :=
 ⟨I.ok,I.os,I.bare,I.base,let ⟨m,hn,hl'⟩:=I.loc; ⟨m,hn,λi x v e1 e2 e3=>hl' i x v e1 (w i v e2) e3⟩,I.cell,I.free,I.freeC,I.pin,I.hok,hl.trans I.len⟩
theorem Inv.pins_of {pins':List (Addr×Obj)} (I:Inv X pins σ H s) (h:∀p∈pins',s.heap.get? p.1=some p.2/\H p.1=none/\p.1≠X.env.locals/\p.1 ∉ X.fs/\∀v,p.2.data≠.cell v):Inv X pins' σ H s :=
 ⟨I.ok,I.os,I.bare,I.base,I.loc,I.cell,I.free,I.freeC,λp hp=>(qbk.mp hp).elim (λz=>I.pin p (qd0 _ z)) (h p),I.hok,I.len⟩
theorem zon {N:List Str} (hN:N.Nodup) {j:Nat}(a:N[i]?=some x) (b:N[j]?=some x):i=j:=by obtain⟨h1,e1⟩:=List.getElem?_eq_some_iff.mp a;obtain⟨h2,e2⟩:=List.getElem?_eq_some_iff.mp b;exact(List.getElem_inj hN).mp (e1.trans e2.symm)
theorem zpm {Q:Unit->Shared->Prop} (I:Inv X pins σ H s) (hN:X.N.Nodup) (hi:X.N[i]?=some x) (hx:Loc X.env.scope x) (r:zc1 v u)
   (h:∀s',Inv X pins (σ.set i (some v)) H s'->(∃a,Heap.SameBut a s.heap s'.heap/\(a=X.env.locals\/X.env.cells.lookup x=some a))->Q () s') (hf:X.fn x=true\/X.env.scope.names.lookup x=some .local:=by first|exact .inl rfl|exact .inr rfl|assumption):wpAny M A (storeName X.env x u) Q E s:=by
 obtain⟨m,hn,hl⟩:=id I.loc;have hcls:(X.env.scope.kind==.class || (X.env.scope.kind==.module&&X.env.locals != X.env.globals))=false:=by rw[I.ok.kind]; rfl
 have hiσ:i<σ.length:=by rw[I.len]; exact(List.getElem?_eq_some_iff.mp hi).1
 have cne:=I.cne;have tracked:∀{a:Addr} {h':Heap},(∃o,s.heap.get? a=some o/\H a=none)->Heap.SameBut a s.heap h'->HOk X.prog X.w H h':=λ{a h'} ha hs b ob e=>by
   obtain⟨_,_,hfree⟩:=ha;refine(I.hok b ob e).stay (λc w' hc q=>(hs.2 c ?_).trans q) (λ_ q=>q) λ_ _ q=>q;rintro rfl;rcases hc with rfl|hc
   . rw[hfree] at e; cases e
   . rw[hfree] at hc; cases hc
 rcases hx with hk|hk
 . refine wpAny_storeName_local hk hn (λh' hn' hs=>?_) hcls;obtain⟨oL,_,_,hoL,_⟩:=id hn;refine h _ ⟨I.ok,I.os,I.bare,⟨λb o e n hb hx=>?_,λb o e n hb hx=>?_,I.base.free,λb o e hx=>?_,I.base.tups,I.base.frzs,I.base.tbls⟩,⟨_,hn',λj y v' e1 e2 e3=>?_⟩,λy c e=>?_,I.free,I.freeC,λp hp=>?_,tracked ⟨oL,hoL,I.free⟩ hs,by simpa using I.len⟩ ⟨_,hs,.inl rfl⟩
   . exact(hs.2 b (qa6 (Nat.lt_of_lt_of_le (Heap.lt_size e) I.ok.above))).trans (I.base.keep b o e n hb hx)
   . obtain⟨sl,e1⟩:=I.base.slot b o e n hb hx;exact⟨sl,(hs.2 b (qa6 (Nat.lt_of_lt_of_le (Heap.lt_size e) I.ok.above))).trans e1⟩
   . obtain⟨o',e1⟩:=I.base.there b o e hx;exact⟨o',(hs.2 b (qa6 (Nat.lt_of_lt_of_le (Heap.lt_size e) I.ok.above))).trans e1⟩
   . by_cases hj:j=i
     . subst hj;rw[hi] at e1; cases e1;rw[qcj hiσ] at e2;cases e2;exact⟨u,r,.inl ⟨hk,by simp⟩⟩
     . rw[qcr (Ne.symm hj)] at e2;obtain⟨u',r',q⟩:=hl j y v' e1 e2 e3;refine⟨u',r',?_⟩;rcases q with⟨k,e⟩|⟨k,c,e,z⟩
       . refine .inl ⟨k,?_⟩;have:y≠x:=λe=>hj (zon hN e1 (e ▸ hi));simp [this,e]
       . exact .inr ⟨k,c,e,z.sameBut hs (cne y c e)⟩
   . obtain⟨w',z⟩:=I.cell y c e;exact⟨w',z.sameBut hs (cne y c e)⟩
   . obtain⟨e,n,ne,nf,d⟩:=I.pin p hp;exact⟨(hs.2 p.1 ne).trans e,n,ne,nf,d⟩
 . have hfn:X.fn x=true:=by
     rcases hf with z|z
     . exact z
     . rw[z] at hk; cases hk
   obtain⟨c,hc⟩:=I.ok.has x (.inl hk);obtain⟨w',z⟩:=I.cell x c hc;refine wpAny_storeName_cell I.ok.kind hk hc z (λh' hc' hs=>?_);obtain⟨oc,hoc,hocd⟩:=id z;refine h { s with heap:=h' } ⟨I.ok,I.os,I.bare,⟨λb o e n hb hx=>?_,λb o e n hb hx=>?_,I.base.free,λb o e hx=>?_,I.base.tups,I.base.frzs,I.base.tbls⟩,⟨m,hn.sameBut hs (Ne.symm (cne x c hc)),λj y v' e1 e2 e3=>?_⟩,λy c' e=>?_,I.free,I.freeC,λp hp=>?_,tracked ⟨oc,hoc,I.freeC x c hc⟩ hs,by simpa using I.len⟩ ⟨c,hs,.inr hc⟩
   . exact(hs.2 b (qa6 (Nat.lt_of_lt_of_le (Heap.lt_size e) (I.ok.cab x c hfn hc)))).trans (I.base.keep b o e n hb hx)
   . obtain⟨sl,e1⟩:=I.base.slot b o e n hb hx;exact⟨sl,(hs.2 b (qa6 (Nat.lt_of_lt_of_le (Heap.lt_size e) (I.ok.cab x c hfn hc)))).trans e1⟩
   . obtain⟨o',e1⟩:=I.base.there b o e hx;exact⟨o',(hs.2 b (qa6 (Nat.lt_of_lt_of_le (Heap.lt_size e) (I.ok.cab x c hfn hc)))).trans e1⟩
   . by_cases hj:j=i
     . subst hj;rw[hi] at e1; cases e1;rw[qcj hiσ] at e2;cases e2;exact⟨u,r,.inr ⟨.inl hk,c,hc,hc'⟩⟩
     . rw[qcr (Ne.symm hj)] at e2;obtain⟨u',r',q⟩:=hl j y v' e1 e2 e3;refine⟨u',r',?_⟩;rcases q with q|⟨k,c',e,z'⟩
       . exact .inl q
       . refine .inr ⟨k,c',e,z'.sameBut hs ?_⟩;rintro rfl;exact hj (zon hN e1 (I.ok.inj _ _ _ e hc ▸ hi))
   . by_cases hcc:c'=c
     . subst hcc; exact⟨_,hc'⟩
     . obtain⟨w2,z2⟩:=I.cell y c' e;exact⟨w2,z2.sameBut hs hcc⟩
   . obtain⟨e,n,ne,nf,d⟩:=I.pin p hp;refine⟨(hs.2 p.1 ?_).trans e,n,ne,nf,d⟩;intro q;rw[q,hoc] at e;have q':oc=p.2:=Option.some.inj e;exact d w' (by rw[<- q']; exact hocd)
theorem zi9 {Q:Unit->Shared->Prop} (I:Inv X pins σ H s) (hN:X.N.Nodup) (hi:X.N[i]?=some x) (hx:Loc X.env.scope x) (r:zc1 v u)
   (h:∀s',Inv X pins (σ.set i (some v)) H s'->Q () s') (hf:X.fn x=true\/X.env.scope.names.lookup x=some .local:=by first|exact .inl rfl|exact .inr rfl|assumption):wpAny M A (storeName X.env x u) Q E s :=
 zpm I hN hi hx r (λs' I' _=>h s' I') hf
theorem Inv.call' {s':Shared} {ch:List Addr} (I:Inv X pins σ H s) (ho:s'.os=s.os) (u:Un (frs X.stack) ch H H' s.heap s'.heap) (hok:HOk X.prog X.w H' s'.heap) (hg:AllBare s'.gens)
   (hch:∀b∈ch,(b∈X.ex\/X.s₀.heap.objs.size<=b)/\b≠X.env.locals/\(∀x c,X.env.cells.lookup x=some c->c≠b)/\∀p∈X.pn++pins,p.1≠b):Inv X pins σ H' s':=by
 obtain⟨h',g',d',t',o'⟩:=s';have e:o'=s.os:=ho;subst e;exact I.call (g':=g') (t':=t') (d':=d') u hok hg hch
end
abbrev XK:=Value->Option Addr->Hp->Prop
abbrev St:=List (Option V)
abbrev VK:=V->Hp->Prop
abbrev TE:=St->Hp->VK->Prop
abbrev TT:=St->Hp->(Bool->Hp->Prop)->Prop
abbrev TA:=St->Hp->(List V->Hp->Prop)->Prop
structure zjb where
 nx:St->Hp->Prop
 rt:VK
 bk:St->Hp->Prop:=λ_ _=>False
 ct:St->Hp->Prop:=λ_ _=>False
abbrev TS:=zjb->St->Hp->Prop
def EP (X:Cx) (pins:List (Addr×Obj)) (σ:St) (Q:VK) (u:Value) (s':Shared):Prop:=∃v H',Inv X pins σ H' s'/\zc1 v u/\Q v H'
def TP (X:Cx) (pins:List (Addr×Obj)) (σ:St) (Q:Bool->Hp->Prop) (b:Bool) (s':Shared):Prop:=∃H',Inv X pins σ H' s'/\Q b H'
def AP (X:Cx) (pins:List (Addr×Obj)) (σ:St) (Q:List V->Hp->Prop) (us:List Value) (s':Shared):Prop:=∃vs H',Inv X pins σ H' s'/\zcp vs us/\Q vs H'
def SP (X:Cx) (pins:List (Addr×Obj)) (D:zjb) (f:Flow) (s':Shared):Prop :=
 match f with
 | .next=>∃σ' H',Inv X pins σ' H' s'/\D.nx σ' H'
 | .brk=>∃σ' H',Inv X pins σ' H' s'/\D.bk σ' H'
 | .cont=>∃σ' H',Inv X pins σ' H' s'/\D.ct σ' H'
 | .ret u=>∃v σ' H',Inv X pins σ' H' s'/\zc1 v u/\D.rt v H'
def PE (X:Cx) (e:Expr) (t:TE):Prop :=
 ∀(pins:List (Addr×Obj)) (s:Shared) (σ:St) (H:Hp) (Q:VK),Inv X pins σ H s->t σ H Q->wpAny (model X.prog X.w) X.A (eval e X.env) (EP X pins σ Q) X.xe s
def PT (X:Cx) (e:Expr) (t:TT):Prop :=
 ∀(pins:List (Addr×Obj)) (s:Shared) (σ:St) (H:Hp) (Q:Bool->Hp->Prop),Inv X pins σ H s->t σ H Q->wpAny (model X.prog X.w) X.A (isTrue e X.env (eval e X.env)) (TP X pins σ Q) X.xe s
def PW (X:Cx) (e:Expr) (t:TT):Prop :=
 ∀(whole:Sem Value) (pins:List (Addr×Obj)) (s:Shared) (σ:St) (H:Hp) (Q:Bool->Hp->Prop),Inv X pins σ H s->t σ H Q->wpAny (model X.prog X.w) X.A (isTrue e X.env whole) (TP X pins σ Q) X.xe s
theorem PW.pt {X:Cx} {e:Expr} {t:TT} (h:PW X e t):PT X e t:=h _
def PA (X:Cx) (es:List Expr) (t:TA):Prop :=
 ∀(pos:Pos) (pins:List (Addr×Obj)) (s:Shared) (σ:St) (H:Hp) (Q:List V->Hp->Prop),Inv X pins σ H s->t σ H Q->wpAny (model X.prog X.w) X.A (spliced (backTo pos (starEach es X.env))) (AP X pins σ Q) X.xe s
def PS (X:Cx) (st:Stmt) (t:TS):Prop :=
 ∀(pins:List (Addr×Obj)) (s:Shared) (σ:St) (H:Hp) (D:zjb),Inv X pins σ H s->t D σ H->wpAny (model X.prog X.w) X.A (exec st X.env) (SP X pins D) X.xe s
def PSs (X:Cx) (st:List Stmt) (t:TS):Prop :=
 ∀(pins:List (Addr×Obj)) (s:Shared) (σ:St) (H:Hp) (D:zjb),Inv X pins σ H s->t D σ H->wpAny (model X.prog X.w) X.A (execs st X.env) (SP X pins D) X.xe s
variable {s:Shared}
theorem thn {α:Type} {t:Sem α} {Q Q':α->Shared->Prop} (h:wpAny M A t Q E s) (hQ:∀a s,Q a s->Q' a s):wpAny M A t Q' E s:=qb0 h hQ λ_ _ x=>x
variable {pos:Pos} {pins:List (Addr×Obj)} {σ:St} {op:CmpOp}
section
variable {X:Cx}
def tVar (i:Nat):TE:=λσ H Q=>∃v,σ[i]?=some (some v)/\Q v H
def tC (v:V):TE:=λ_ H Q=>Q v H
theorem z4c (hN:X.N[i]?=some x) (hv:Vis X.env.scope x) (hd:(x==("__debug__":Str))=false:=by decide) (hcd:(x==("__classdict__":Str))=false:=by decide):PE X (.Name x pos) (tVar i):=by
 intro pins s σ H Q I h;obtain⟨v,e,h⟩:=h;obtain⟨m,hn,hl⟩:=I.loc;obtain⟨u,r,l⟩:=hl i x v hN e hv;have fin:EP X pins σ Q u s:=⟨v,H,I,r,h⟩
 rcases l with⟨hk,hm⟩|⟨hk,c,hc,hcell⟩
 . exact wpAny_Name (wpAny_loadName_local I.ok.kind hk hn hm fin) hd
 . rcases hk with hk|hk
   . exact wpAny_Name (wpAny_loadName_cell I.ok.kind hk hc hcell fin) hd
   . exact wpAny_Name (wpAny_loadName_free I.ok.kind hk hc hcell fin hcd) hd
theorem zae {i j pos}:PE X (.Constant (.int i) j pos) (tC (.int i)):=λ_ _ _ H _ I h=>wpAny_Constant_int ⟨.int i,H,I.tok _,⟨_,rfl⟩,h⟩
theorem ziu {b j pos}:PE X (.Constant (.bool b) j pos) (tC (.bl b)):=λ_ _ _ H _ I h=>Constant_bool ⟨.bl b,H,I,rfl,h⟩
theorem zkp {j pos}:PE X (.Constant .none j pos) (tC .non):=λ_ _ _ H _ I h=>Constant_none ⟨.non,H,I,rfl,h⟩
theorem za5 {x j pos}:PE X (.Constant (.str x) j pos) (tC (.str x)):=λ_ _ _ H _ I h=>Calls.Constant_str ⟨.str x,H,I.tok _,⟨_,rfl⟩,h⟩
def Gl (X:Cx) (x:Str):Prop:=X.env.kindOf x=some .globalImplicit
theorem zke {Q:Value->Shared->Prop} (I:Inv X pins σ H s) (hg:Gl X x) (hm:X.mg x=some u) (h:Q u s)
   (hd:(x==("__debug__":Str))=false:=by decide):wpAny (model X.prog X.w) X.A (eval (.Name x pos) X.env) Q E s :=
 Calls.Name_function_global I.ok.kind hg (Calls.loadGlobal_global (by rw[I.ok.glob]; exact I.mod.glob.keeps I.bk) hm h) hd
theorem zkr {Q:Value->Shared->Prop} (I:Inv X pins σ H s) (hg:Gl X x) (hm:X.mg x=none) (hv:bootBuiltins x=some u) (h:Q u s)
   (hn:x≠"__name__":=by decide) (hd:(x==("__debug__":Str))=false:=by decide):wpAny (model X.prog X.w) X.A (eval (.Name x pos) X.env) Q E s:=by
 obtain⟨mb,h1,h2⟩:=I.mod.blt;exact Calls.Name_function_global I.ok.kind hg (Calls.loadGlobal_builtin (by rw[I.ok.glob]; exact I.mod.glob.keeps I.bk) hm (by rw[I.ok.blt]; exact h1.keeps I.bk) ((h2 x hn).trans hv) h) hd
theorem zrw (hg:Gl X x) (hm:X.mg x=some u) (r:zc1 v u) (hd:(x==("__debug__":Str))=false:=by decide):PE X (.Name x pos) (tC v) :=
 λ_ _ _ H _ I h=>zke I hg hm ⟨v,H,I,r,h⟩ hd
theorem zdj (hg:Gl X x) (hm:X.mg x=none) (hv:bootBuiltins x=some u) (r:zc1 v u) (hn:x≠"__name__":=by decide) (hd:(x==("__debug__":Str))=false:=by decide):PE X (.Name x pos) (tC v) :=
 λ_ _ _ H _ I h=>zkr I hg hm hv ⟨v,H,I,r,h⟩ hn hd
variable {a b:Expr} {ta tb:TE} {pos:Pos}
def PC (X:Cx) (op:CmpOp) (a b:Expr) (t:TE):Prop :=
 ∀(pins:List (Addr×Obj)) (s:Shared) (σ:St) (H:Hp) (Q:VK),Inv X pins σ H s->t σ H Q ->
   wpAny (model X.prog X.w) X.A (eval a X.env) (λv s₁=>wpAny (model X.prog X.w) X.A (eval b X.env) (λu s₂=>wpAny (model X.prog X.w) X.A (compareOp op v u) (EP X pins σ Q) X.xe s₂) X.xe s₁) X.xe s
theorem zzv (b:Expr) (h:op≠.In) (h2:op≠.NotIn):behindInMarks op b=false:=by
 have e1:(op==CmpOp.In)=false:=by cases op <;> first|rfl|exact absurd rfl h
 have e2:(op==CmpOp.NotIn)=false:=by cases op <;> first|rfl|exact absurd rfl h2
 cases b <;> simp [behindInMarks,e1,e2]
def tIsN (ta:TE):TE:=λσ H Q=>ta σ H λx H1=>Q (.bl (decide (x=.non))) H1
def z7p (ta:TE):TE:=λσ H Q=>ta σ H λx H1=>Q (.bl (!decide (x=.non))) H1
theorem zc1.none_iff {x:V} {v:Value} (r:zc1 x v):(v==Value.none)=decide (x=.non):=by
 cases x with
 | non=>cases r; rfl
 | bl _=>cases r; rfl
 | int _=>obtain⟨t,rfl⟩:=r; rfl
 | str _=>obtain⟨t,rfl⟩:=r; rfl
 | byt _=>obtain⟨t,rfl⟩:=r; rfl
 | flt _=>obtain⟨t,rfl⟩:=r; rfl
 | ref _=>cases r; rfl
 | ty _=>cases r; rfl
theorem z5r {j pos'} (ha:PE X a ta):PC X .Is a (.Constant .none j pos') (tIsN ta):=by intro pins s σ H Q I h;refine thn (ha pins s σ H _ I h) λv s1 ⟨x,H1,I1,r1,q1⟩=>?_;exact Constant_none (is_none_gen ⟨.bl _,H1,I1,by rw[r1.none_iff]; rfl,q1⟩)
theorem zrr {j pos'} (ha:PE X a ta):PC X .IsNot a (.Constant .none j pos') (z7p ta):=by intro pins s σ H Q I h;refine thn (ha pins s σ H _ I h) λv s1 ⟨x,H1,I1,r1,q1⟩=>?_;exact Constant_none (isnot_none_gen ⟨.bl _,H1,I1,by rw[r1.none_iff]; rfl,q1⟩)
def tB (t:TE):TT:=λσ H Q=>t σ H λx H1=>∃c,x=.bl c/\Q c H1
theorem zpn {t:TE} (h:PC X op a b t) (h1:behindInMarks op b=false:=by first|exact zzv _ (by decide) (by decide)|rfl):PT X (.Compare a [op] [b] pos) (tB t):=by intro pins s σ H Q I hw;refine qdy (thn (h pins s σ H _ I hw) λv s1 h1=>thn h1 λu s2 h2=>thn h2 λc s3 ⟨x,H1,I1,r1,q1⟩=>?_) h1;obtain⟨d,rfl,q⟩:=q1;cases r1;exact qb6 ⟨H1,I1,q⟩
variable {tA tB':TT} {rest:List Expr}
def tAnd (t u:TT):TT:=λσ H Q=>t σ H λc H1=>if c=true then u σ H1 Q else Q false H1
def tOr (t u:TT):TT:=λσ H Q=>t σ H λc H1=>if c=true then Q true H1 else u σ H1 Q
def tNot (t:TT):TT:=λσ H Q=>t σ H λc H1=>Q (!c) H1
theorem zg0 (ha:PT X a tA):PW X (.BoolOp .And [a] pos) tA:=by
 intro wh pins s σ H Q I h;refine isTrue_and (thn (ha pins s σ H Q I h) λc s1 e=>?_);cases c with
 | true=>exact isTrue_and_nil e
 | false=>exact e
theorem zg8 (ha:PT X a tA):PW X (.BoolOp .Or [a] pos) tA:=by
 intro wh pins s σ H Q I h;refine isTrue_or (thn (ha pins s σ H Q I h) λc s1 e=>?_);cases c with
 | false=>exact isTrue_or_nil e
 | true=>exact e
theorem zjf (ha:PT X a tA) (hb:PW X (.BoolOp .And (b :: rest) pos) tB'):PW X (.BoolOp .And (a :: b :: rest) pos) (tAnd tA tB'):=by
 intro wh pins s σ H Q I h;refine isTrue_and (thn (ha pins s σ H _ I h) λc s1 ⟨H1,I1,q1⟩=>?_);cases c with
 | true=>exact hb wh pins s1 σ H1 Q I1 q1
 | false=>exact⟨H1,I1,q1⟩
theorem zhj (ha:PT X a tA) (hb:PW X (.BoolOp .Or (b :: rest) pos) tB'):PW X (.BoolOp .Or (a :: b :: rest) pos) (tOr tA tB'):=by
 intro wh pins s σ H Q I h;refine isTrue_or (thn (ha pins s σ H _ I h) λc s1 ⟨H1,I1,q1⟩=>?_);cases c with
 | true=>exact⟨H1,I1,q1⟩
 | false=>exact hb wh pins s1 σ H1 Q I1 q1
theorem zel (ha:PT X a tA):PT X (.UnaryOp .Not a pos) (tNot tA):=by intro pins s σ H Q I h;exact isTrue_not (ha pins s σ H (λc H1=>Q (!c) H1) I h)
def z5q (ta tb:TE):TE:=λσ H Q=>ta σ H λx H1=>∃c,x=.bl c/\if c=true then tb σ H1 Q else Q (.bl false) H1
theorem zo7 {op} {t:TE} (h:PE X a t):PE X (.BoolOp op [a] pos) t:=λpins s σ H Q I hw=>BoolOp_one (h pins s σ H Q I hw)
theorem zqp (ha:PE X a ta) (hb:PE X (.BoolOp .And (b :: rest) pos) tb):PE X (.BoolOp .And (a :: b :: rest) pos) (z5q ta tb):=by
 intro pins s σ H Q I h;refine BoolOp_and (thn (ha pins s σ H _ I h) λv s1 ⟨x,H1,I1,r1,q1⟩=>?_);obtain⟨c,rfl,q1⟩:=q1;cases r1;refine qb6 ?_;cases c with
 | true=>exact hb pins s1 σ H1 Q I1 q1
 | false=>exact⟨.bl false,H1,I1,rfl,q1⟩
def tIf (t:TT) (ta tb:TE):TE:=λσ H Q=>t σ H λc H1=>if c=true then ta σ H1 Q else tb σ H1 Q
theorem zi3 {c:Expr} (hc:PT X c tA) (ha:PE X a ta) (hb:PE X b tb):PE X (.IfExp c a b pos) (tIf tA ta tb):=by
 intro pins s σ H Q I h;refine wpAny_IfExp (thn (hc pins s σ H _ I h) λd s1 ⟨H1,I1,q1⟩=>?_);cases d with
 | true=>exact ha pins s1 σ H1 Q I1 q1
 | false=>exact hb pins s1 σ H1 Q I1 q1
end
def SqL (K:W.Frag) (H:Hp) (a:Addr) (xs:List V):Prop :=
 Rd H a (.lst xs) \/
   ∃(o:Obj) (its:Array Value) (n:Nat),K.lookup a=some o/\o.cls=.type "list"/\o.dict=none/\o.data=.seq its n/\its.size<=sizeLine/\zcp xs its.toList
def SqT (K:W.Frag) (H:Hp) (a:Addr) (xs:List V):Prop :=
 Rd H a (.tup xs) \/
   ∃(o:Obj) (its:Array Value) (n:Nat),K.lookup a=some o/\o.cls=.type "tuple"/\o.data=.seq its n/\its.size<=sizeLine/\zcp xs its.toList
def absV:Value->Option V
 | .none=>some .non
 | .bool b=>some (.bl b)
 | .int i _=>some (.int i)
 | .str x _=>some (.str x)
 | .bytes b _=>some (.byt b)
 | .float b _=>some (.flt b)
 | .ref a=>some (.ref a)
 | .type n=>some (.ty n)
 | _=>none
theorem zc1.abs {x:V} (r:zc1 x u):absV u=some x:=by
 cases x with
 | non=>cases r; rfl
 | bl _=>cases r; rfl
 | int _=>obtain⟨t,rfl⟩:=r; rfl
 | str _=>obtain⟨t,rfl⟩:=r; rfl
 | byt _=>obtain⟨t,rfl⟩:=r; rfl
 | flt _=>obtain⟨t,rfl⟩:=r; rfl
 | ref _=>cases r; rfl
 | ty _=>cases r; rfl
theorem zc1.inj {x y:V} {u:Value} (r:zc1 x u) (q:zc1 y u):x=y:=Option.some.inj (r.abs.symm.trans q.abs)
theorem zcp.inj:∀{xs ys:List V} {us:List Value},zcp xs us->zcp ys us->xs=ys
 | _,_,_,.nil,.nil=>rfl
 | _,_,_,.cons r t,.cons r' t'=>by rw[r.inj r',zcp.inj t t']
variable {K:W.Frag}
section
variable {X:Cx} {pins:List (Addr×Obj)} {σ:St} {H:Hp} {s:Shared} {a:Addr} {xs ys:List V}
theorem SqL.of (h:H a=some (.lst xs)):SqL K H a xs:=.inl (.inl h)
theorem SqT.of (h:H a=some (.tup xs)):SqT K H a xs:=.inl (.inl h)
theorem Inv.list (I:Inv X pins σ H s) (h:SqL X.K H a xs):∃its:List Value,zcp xs its/\PlainL s.heap a its.toArray/\xs.length<=sizeLine:=by
 rcases h with h|⟨o,its,n,hk,hc,hd,hs,hz,r⟩
 . obtain⟨z,its,n,r,e⟩:=h.ok I.hok;exact⟨its,r,⟨_,n,e,rfl,rfl,rfl⟩,z⟩
 . refine⟨its.toList,r,⟨o,n,I.kIn a o hk,hc,hd,by simpa using hs⟩,?_⟩;have e:=r.length;simp only[Array.length_toList] at e;omega
theorem Inv.tuple (I:Inv X pins σ H s) (h:SqT X.K H a xs):∃its:List Value,zcp xs its/\IsTup s.heap a its.toArray/\xs.length<=sizeLine:=by
 rcases h with h|⟨o,its,n,hk,hc,hs,hz,r⟩
 . obtain⟨z,its,r,p⟩:=h.ok I.hok;exact⟨its,r,p,z⟩
 . refine⟨its.toList,r,⟨o,I.kIn a o hk,hc,n,by simpa using hs⟩,?_⟩;have e:=r.length;simp only[Array.length_toList] at e;omega
theorem Inv.list_inj (I:Inv X pins σ H s) (h:SqL X.K H a xs) (h':SqL X.K H a ys):xs=ys:=by
 obtain⟨its,r,⟨o,n,e,_,_,d⟩,_⟩:=I.list h;obtain⟨its',r',⟨o',n',e',_,_,d'⟩,_⟩:=I.list h';rw[e] at e'; cases e';rw[d] at d';injection d' with d1 _
 have:its=its':=by simpa using qa0 Array.toList d1
 subst this;exact r.inj r'
theorem Inv.tuple_inj (I:Inv X pins σ H s) (h:SqT X.K H a xs) (h':SqT X.K H a ys):xs=ys:=by
 obtain⟨its,r,⟨o,e,_,n,d⟩,_⟩:=I.tuple h;obtain⟨its',r',⟨o',e',_,n',d'⟩,_⟩:=I.tuple h';rw[e] at e'; cases e';rw[d] at d';injection d' with d1 _
 have:its=its':=by simpa using qa0 Array.toList d1
 subst this;exact r.inj r'
end
abbrev Cx.wish (X:Cx) (E:Value->Shared->Prop):Cx:={ X with xe:=E }
abbrev Cx.nox (X:Cx):Cx:=X.wish λ_ _=>False
theorem Cx.Ok.wish {X:Cx} (ok:X.Ok) (E:Value->Shared->Prop):(X.wish E).Ok :=
 ⟨ok.mod,ok.kind,ok.glob,ok.blt,ok.above,ok.inj,ok.has,ok.cab,ok.hd,ok.frames,ok.stk,ok.exf,ok.bs,ok.bsz,ok.noex,ok.exfs,ok.funs,ok.frf⟩
theorem Cx.Ok.unwish {X:Cx} (ok:(X.wish E).Ok):X.Ok :=
 ⟨ok.mod,ok.kind,ok.glob,ok.blt,ok.above,ok.inj,ok.has,ok.cab,ok.hd,ok.frames,ok.stk,ok.exf,ok.bs,ok.bsz,ok.noex,ok.exfs,ok.funs,ok.frf⟩
section
variable {X:Cx} {pins:List (Addr×Obj)} {σ:St} {H:Hp} {s:Shared} {E:Value->Shared->Prop}
theorem Inv.wish (I:Inv X pins σ H s) (E:Value->Shared->Prop):Inv (X.wish E) pins σ H s:=⟨I.ok.wish E,I.os,I.bare,I.base,I.loc,I.cell,I.free,I.freeC,I.pin,I.hok,I.len⟩
theorem Inv.unwish (I:Inv (X.wish E) pins σ H s):Inv X pins σ H s:=⟨I.ok.unwish,I.os,I.bare,I.base,I.loc,I.cell,I.free,I.freeC,I.pin,I.hok,I.len⟩
theorem SP.unwish {D:zjb} {f:Flow} {s':Shared} (h:SP (X.wish E) pins D f s'):SP X pins D f s':=by
 cases f with
 | next=>obtain⟨σ',H',I,q⟩:=h; exact⟨σ',H',I.unwish,q⟩
 | brk=>obtain⟨σ',H',I,q⟩:=h; exact⟨σ',H',I.unwish,q⟩
 | cont=>obtain⟨σ',H',I,q⟩:=h; exact⟨σ',H',I.unwish,q⟩
 | ret u=>obtain⟨v,σ',H',I,r,q⟩:=h; exact⟨v,σ',H',I.unwish,r,q⟩
theorem PSs.nox {st:List Stmt} {t:TS} (h:PSs X.nox st t):PSs X st t:=λpins s σ H D I hw =>
 qb0 (h pins s σ H D (I.wish _) hw) (λ_ _ q=>q.unwish) λ_ _ z=>False.elim z
end
section
variable {X:Cx} {st:Stmt} {rest:List Stmt} {t u:TS} {e:Expr} {te:TE} {pos:Pos}
def z5p:TS:=λD σ H=>D.nx σ H
def tSeq (t u:TS):TS:=λD σ H=>t { D with nx:=u D } σ H
theorem zau:PSs X [] z5p:=λ_ _ σ H _ I h=>qda ⟨σ,H,I,h⟩
theorem zad (h1:PS X st t) (h2:PSs X rest u):PSs X (st :: rest) (tSeq t u):=by
 intro pins s σ H D I h;refine qdw (thn (h1 pins s σ H { D with nx:=u D } I h) λf s1 q=>?_);cases f with
 | next =>
   obtain⟨σ',H',I',q⟩:=q;exact h2 pins s1 σ' H' D I' q
 | ret v=>exact q
 | brk=>exact q
 | cont=>exact q
theorem zag (h1:PS X st t):PSs X [st] t:=by
 intro pins s σ H D I h;refine qdw (thn (h1 pins s σ H D I h) λf s1 q=>?_);cases f with
 | next=>exact qda q
 | ret v=>exact q
 | brk=>exact q
 | cont=>exact q
theorem Inv.quiet (I:Inv X pins σ H s):interactive X.env=false:=by simp [interactive,I.ok.kind]
def z6z (te:TE):TS:=λD σ H=>te σ H λ_ H1=>D.nx σ H1
theorem zco (he:PE X e te) (hs:swapsWith e none pos.line X.env=pure false:=by rfl):PS X (.Expr e pos) (z6z te):=by intro pins s σ H D I h;exact wpAny_Expr_any (thn (he pins s σ H _ I h) λv s1 ⟨x,H1,I1,r1,q1⟩=>⟨σ,H1,I1,q1⟩) I.quiet hs
def tRet (te:TE):TS:=λD σ H=>te σ H D.rt
theorem zat (he:PE X e te):PS X (.Return (some e) pos) (tRet te):=by intro pins s σ H D I h;exact wpAny_Return_some (thn (he pins s σ H _ I h) λv s1 ⟨x,H1,I1,r1,q1⟩=>⟨x,σ,H1,I1,r1,q1⟩)
def tIfS (c:TT) (t u:TS):TS:=λD σ H=>c σ H λb H1=>if b=true then t D σ H1 else u D σ H1
theorem zbi {c:Expr} {a b:List Stmt} {tc:TT} (hc:PT X c tc) (ha:PSs X a t) (hb:PSs X b u):PS X (.If c a b pos) (tIfS tc t u):=by
 intro pins s σ H D I h;refine wpAny_If (thn (hc pins s σ H _ I h) λd s1 ⟨H1,I1,q1⟩=>?_);cases d with
 | true=>exact ha pins s1 σ H1 D I1 q1
 | false=>exact hb pins s1 σ H1 D I1 q1
end
abbrev TG:=V->St->Hp->(St->Hp->Prop)->Prop
abbrev TGs:=List V->St->Hp->(St->Hp->Prop)->Prop
def PG (X:Cx) (target:Expr) (t:TG):Prop :=
 ∀(pins:List (Addr×Obj)) (s:Shared) (σ:St) (H:Hp) (v:V) (u:Value) (Q:St->Hp->Prop),Inv X pins σ H s->zc1 v u->t v σ H Q ->
   wpAny (model X.prog X.w) X.A (assign target X.env u) (λ_ s'=>∃σ' H',Inv X pins σ' H' s'/\Q σ' H') X.xe s
def PGs (X:Cx) (ts:List Expr) (t:TGs):Prop :=
 ∀(pins:List (Addr×Obj)) (s:Shared) (σ:St) (H:Hp) (vs:List V) (us:List Value) (Q:St->Hp->Prop),Inv X pins σ H s->zcp vs us->t vs σ H Q ->
   wpAny (model X.prog X.w) X.A (assignInOrder ((assignEach ts X.env).map (·.2)) us) (λ_ s'=>∃σ' H',Inv X pins σ' H' s'/\Q σ' H') X.xe s
abbrev z7j:=V->V->V->Hp->(Hp->Prop)->Prop
def PSet (X:Cx) (t:z7j):Prop :=
 ∀(pins:List (Addr×Obj)) (s:Shared) (σ:St) (H:Hp) (o i v:V) (ov iv u:Value) (Q:Hp->Prop),Inv X pins σ H s->zc1 o ov->zc1 i iv->zc1 v u->t o i v H Q ->
   wpAny (model X.prog X.w) X.A (setItem ov iv u) (λ_ s'=>∃H',Inv X pins σ H' s'/\Q H') X.xe s
abbrev TIp:=V->V->Hp->VK->Prop
def PIp (X:Cx) (op:Operator) (t:TIp):Prop :=
 ∀(pins:List (Addr×Obj)) (s:Shared) (σ:St) (H:Hp) (x y:V) (v u:Value) (Q:VK),Inv X pins σ H s->zc1 x v->zc1 y u->t x y H Q ->
   wpAny (model X.prog X.w) X.A (inplaceOp op v u) (EP X pins σ Q) X.xe s
variable {e tg:Expr} {g:TG}
section
variable {X:Cx} {pos:Pos}
def zuo (i:Nat):TG:=λv σ H Q=>Q (σ.set i (some v)) H
theorem zar (hN:X.N.Nodup) (hi:X.N[i]?=some x) (hx:Loc X.env.scope x) (hf:X.fn x=true\/X.env.scope.names.lookup x=some .local:=by first|exact .inl rfl|exact .inr rfl|assumption):PG X (.Name x pos) (zuo i):=by intro pins s σ H v u Q I r h;exact wpAny_assign_Name (zi9 I hN hi hx r (λs' I'=>⟨_,H,I',h⟩) hf)
def gNil:TGs:=λvs σ H Q=>vs=[]/\Q σ H
def z41 (t:TG) (u:TGs):TGs:=λvs σ H Q=>∃v r,vs=v :: r/\t v σ H λσ' H'=>u r σ' H' Q
theorem zdv:PGs X [] gNil:=by intro pins s σ H vs us Q I r h;obtain⟨e,h⟩:=h;subst e;cases r;exact assignInOrder_nil ⟨σ,H,I,h⟩
theorem za9 {es:List Expr} {t:TG} {u:TGs} (h1:PG X e t) (h2:PGs X es u)
   (hs:(assignEach (e :: es) X.env).map (·.2)=assign e X.env :: (assignEach es X.env).map (·.2):=by rfl):PGs X (e :: es) (z41 t u):=by
 intro pins s σ H vs us Q I r h;obtain⟨v,vr,e1,h⟩:=h;subst e1;cases r with
 | cons r rr =>
   rw[hs];refine assignInOrder_cons (thn (h1 pins s σ H _ _ _ I r h) λ_ s1 ⟨σ1,H1,I1,q1⟩=>?_);exact h2 pins s1 σ1 H1 _ _ Q I1 rr q1
def z6n (K:W.Frag) (n:Nat) (t:TGs):TG:=λv σ H Q=>∃a xs,v=.ref a/\SqT K H a xs/\xs.length=n/\t xs σ H Q
theorem zfq {es:List Expr} {k:Nat} {t:TGs} {n:Nat} (hc:X.calm=true) (h:PGs X es t)
   (hn:(assignEach es X.env).length=n:=by rfl) (hst:(assignEach es X.env).findIdx? (·.1)=none:=by rfl):PG X (.Tuple es k pos) (z6n X.K n t):=by
 intro pins s σ H v u Q I r hw;obtain⟨a,xs,e1,hq,hl,hw⟩:=hw;subst e1;cases r;obtain⟨its,rv,ht,hz⟩:=I.tuple hq;refine assign_Tuple_tuple (I.ok.hd hc) ht (by simp [hn,<- hl,rv.length]) hst λh' hx=>?_;have I1:Inv X pins σ H { s with heap:=h' }:=I.kept (t':=s.toks) λb o e=>hx b o (qa6 (Heap.lt_size e)) e;exact h pins _ σ H xs _ Q I1 (by simpa using rv) hw
def gSub (to ti:TE) (t:z7j):TG:=λv σ H Q=>to σ H λo H1=>ti σ H1 λi H2=>t o i v H2 λH3=>Q σ H3
theorem zko {o i:Expr} {to ti:TE} {t:z7j} (ho:PE X o to) (hi:PE X i ti) (hs:PSet X t)
   (ha:∀v,assign (.Subscript o i pos) X.env v=(do
     let ov <- holding [v] (eval o X.env)
     let iv <- holding [v,ov] (eval i X.env)
     standAt pos
     holding [v,ov,iv] (setItem ov iv v)
     release [v,ov,iv] []):=by intro _; rfl):PG X (.Subscript o i pos) (gSub to ti t):=by
 intro pins s σ H v u Q I r h;rw[ha];refine wpAny_bind (qbs (thn (ho pins s σ H _ I h) λov s1 ⟨x,H1,I1,r1,q1⟩=>?_));refine wpAny_bind (qbs (thn (hi pins s1 σ H1 _ I1 q1) λiv s2 ⟨y,H2,I2,r2,q2⟩=>?_));refine wpAny_bind (qc9 (wpAny_bind (qbs (thn (hs pins s2 σ H2 x y v ov iv u _ I2 r1 r2 r q2) λ_ s3 ⟨H3,I3,q3⟩=>?_))));exact wpAny_release ⟨σ,H3,I3,q3⟩
def z61 (te:TE) (g:TG):TS:=λD σ H=>te σ H λx H1=>g x σ H1 D.nx
theorem zie {te:TE} (he:PE X e te) (hg:PG X tg g) (hs:swapsWithSole [tg] e pos.line X.env=pure false:=by rfl) (hw:swappedStores [tg] e X.env=pure none:=by rfl)
   (h1:(assignEach [tg] X.env).map (·.2)=[assign tg X.env]:=by rfl):PS X (.Assign [tg] e pos) (z61 te g):=by
 intro pins s σ H D I h;refine wpAny_Assign_stores (thn (he pins s σ H _ I h) λv s1 ⟨x,H1,I1,r1,q1⟩=>?_) hs hw;rw[h1];exact thn (hg pins s1 σ H1 x v _ I1 r1 q1) λ_ s2 q=>q
theorem zas {i:Nat} {x:Str} {e:Expr} {te:TE} {pos':Pos} (hN:X.N.Nodup) (hi:X.N[i]?=some x) (hx:Loc X.env.scope x) (he:PE X e te) (hs:swapsWith e (some (.Name x pos')) pos.line X.env=pure false:=by rfl) (hf:X.fn x=true\/X.env.scope.names.lookup x=some .local:=by first|exact .inl rfl|exact .inr rfl|assumption) :
   PS X (.Assign [.Name x pos'] e pos) (z61 te (zuo i)):=by
 intro pins s σ H D I h;refine wpAny_Assign_Name (thn (he pins s σ H _ I h) λv s1 ⟨y,H1,I1,r1,q1⟩=>?_) hs;exact zi9 I1 hN hi hx r1 (λs2 I2=>⟨_,H1,I2,q1⟩) hf
def tAug (i:Nat) (te:TE) (ti:TIp):TS:=λD σ H=>∃x,σ[i]?=some (some x)/\te σ H λy H1=>ti x y H1 λz H2=>D.nx (σ.set i (some z)) H2
theorem z4j {te:TE} {op:Operator} {ti:TIp} {pos':Pos} (hN:X.N.Nodup) (hi:X.N[i]?=some x) (hx:Loc X.env.scope x) (he:PE X e te) (ho:PIp X op ti) (hf:X.fn x=true\/X.env.scope.names.lookup x=some .local:=by first|exact .inl rfl|exact .inr rfl|assumption) :
   PS X (.AugAssign (.Name x pos') op e pos) (tAug i te ti):=by
 intro pins s σ H D I h;obtain⟨v,e1,h⟩:=h;obtain⟨m,hn,hl⟩:=I.loc;have vis:Vis X.env.scope x:=by rcases hx with k|k; exact .inl k; exact .inr (.inl k)
 obtain⟨u,r,l⟩:=hl i x v hi e1 vis;refine wpAny_AugAssign_Name ?_;have go:wpAny (model X.prog X.w) X.A (eval e X.env) (λw s₂=>wpAny (model X.prog X.w) X.A (inplaceOp op u w) (λr s₃=>wpAny (model X.prog X.w) X.A (storeName X.env x r) (λ_=>SP X pins D .next) X.xe s₃) X.xe s₂) X.xe s:=by refine thn (he pins s σ H _ I h) λw s1 ⟨y,H1,I1,r1,q1⟩=>?_;refine thn (ho pins s1 σ H1 v y u w _ I1 r r1 q1) λz s2 ⟨zv,H2,I2,r2,q2⟩=>?_;exact zi9 I2 hN hi hx r2 (λs3 I3=>⟨_,H2,I3,q2⟩) hf
 rcases l with⟨hk,hm⟩|⟨hk,c,hc,hcell⟩
 . exact wpAny_loadName_local I.ok.kind hk hn hm go
 . rcases hk with hk|hk
   . exact wpAny_loadName_cell I.ok.kind hk hc hcell go
   . rcases hx with k|k
     . have:X.env.scope.names.lookup x=some .free:=hk;rw[k] at this; cases this
     . have:X.env.scope.names.lookup x=some .free:=hk;rw[k] at this; cases this
def ipI (f:Int->Int->Int):TIp:=λx y H Q=>∃i j,x=.int i/\y=.int j/\Q (.int (f i j)) H
theorem z1a:PIp X .Add (ipI λi j=>i+j):=by intro pins s σ H x y v u Q I r1 r2 h;obtain⟨i,j,e1,e2,q⟩:=h;subst e1; subst e2;obtain⟨t,rfl⟩:=r1;obtain⟨t',rfl⟩:=r2;exact iadd_int ⟨.int _,H,I.tok _,⟨_,rfl⟩,q⟩
end
variable {tb:TS}
section
variable {X:Cx} {pos:Pos}
def z1p (c:TT) (tb:TS):TS:=λD σ H=>∃W:Nat->St->Hp->Prop,(∃m,W m σ H)/\∀m σ H,W m σ H ->
 c σ H λb H1=>if b=true then ∃N:St->Hp->Prop,(∀σ' H',N σ' H'->∃m',m'<m/\W m' σ' H')/\tb { D with nx:=N,ct:=N,bk:=D.nx } σ H1 else D.nx σ H1
theorem z0j {c:Expr} {body:List Stmt} {tc:TT} (hp:PassesOwn (model X.prog X.w) X.A X.env X.xe) (hc:PT X c tc) (hb:PSs X body tb):PS X (.While c body [] pos) (z1p tc tb):=by
 intro pins s σ H D I h;obtain⟨W,⟨m0,w0⟩,turn⟩:=h;refine wpAny_While (codeAny_whileLoop (λn s'=>∃σ' H',Inv X pins σ' H' s'/\W n σ' H') ?_ m0 ⟨σ,H,I,w0⟩);rintro n s1 ⟨σ1,H1,I1,w1⟩;refine qcy hp (thn (hc pins s1 σ1 H1 _ I1 (turn n σ1 H1 w1)) λb s2 ⟨H2,I2,q2⟩=>?_);cases b with
 | true =>
   obtain⟨N,hN,q2⟩:=q2;rw[if_pos rfl];refine qcy hp (thn (hb pins s2 σ1 H2 _ I2 q2) λf s3 q3=>?_);cases f with
   | next =>
     obtain⟨σ3,H3,I3,n3⟩:=q3;obtain⟨m',hm,w3⟩:=hN σ3 H3 n3;exact⟨m',hm,σ3,H3,I3,w3⟩
   | cont =>
     obtain⟨σ3,H3,I3,n3⟩:=q3;obtain⟨m',hm,w3⟩:=hN σ3 H3 n3;exact⟨m',hm,σ3,H3,I3,w3⟩
   | brk=>exact q3
   | ret v=>exact q3
 | false =>
   rw[if_neg qas];exact qda ⟨σ1,H2,I2,q2⟩
end
structure It where
 go:Nat->Hp->Prop
 yld:Nat->Hp->V->Hp->Prop
 stop:Nat->Hp->Prop
def zq7 (X:Cx) (pins:List (Addr×Obj)) (H:Hp) (b:Addr):Prop :=
 H b=none/\b≠X.env.locals/\b ∉ X.fs/\(b∈X.ex\/X.s₀.heap.objs.size<=b)/\(∀x c,X.env.cells.lookup x=some c->c≠b)/\∀p∈X.pn++pins,p.1≠b
theorem Inv.fpOk {X:Cx} {H':Hp}(I:Inv X pins σ H s) (hb:s.heap.objs.size<=b) (hn:H' b=none):zq7 X pins H' b:=by
 refine⟨hn,qcu (Nat.lt_of_lt_of_le I.lt hb),I.nofs hb,.inr (qa7 I.sz hb),λx c e z=>?_,λp hp z=>?_⟩
 . obtain⟨v,q⟩:=I.cell x c e;exact absurd (Nat.lt_of_lt_of_le q.lt (by rw[z]; exact hb)) (qbm _)
 . exact absurd (Nat.lt_of_lt_of_le (Heap.lt_size (I.pin p hp).1) (by rw[z]; exact hb)) (qbm _)
structure Turn (P:Program) (w:World) (K:W.Frag) (tg:Expr) (J:It) (fp:List Addr) (it:Addr) (tn:Nat->Heap->Prop):Prop where
 mem:it∈fp
 obj:∀i h,tn i h->∀b∈fp,∃o,h.get? b=some o/\∀v,o.data≠.cell v
 keep:∀i h h',tn i h->(∀b∈fp,∀o,h.get? b=some o->h'.get? b=some o)->tn i h'
 item:∀(X:Cx),X.prog=P->X.w=w->X.K=K->X.calm=true->∀(i:Nat) (pins:List (Addr×Obj)) (s:Shared) (σ:St) (H:Hp) (E:Value->Shared->Prop),Inv X pins σ H s->(∀b∈fp,zq7 X pins H b)->tn i s.heap->J.go i H ->
   wpAny (model P w) X.A (pyNext (.ref it)) (λr s1=>∃u,r=some u /\
     wpAny (model P w) X.A (letOwnedTupleGo tg (.ref it) u) (λ_ s2=>∃x H',Inv X pins σ H' s2/\zc1 x u/\J.yld i H x H'/\tn (i+1) s2.heap/\∀b∈fp,H' b=none) E s1) E s
 done:∀(X:Cx),X.prog=P->X.w=w->X.K=K->X.calm=true->∀(i:Nat) (pins:List (Addr×Obj)) (s:Shared) (σ:St) (H:Hp) (E:Value->Shared->Prop),Inv X pins σ H s->(∀b∈fp,zq7 X pins H b)->tn i s.heap->J.stop i H ->
   wpAny (model P w) X.A (pyNext (.ref it)) (λr s1=>r=none/\Inv X pins σ H s1) E s
 self:∀(A:Around) (i:Nat) (s:Shared) (Q:Value->Shared->Prop) (E:Value->Shared->Prop),tn i s.heap->Q (.ref it) s->wpAny (model P w) A (pyIter (.ref it)) Q E s
abbrev TI:=St->Hp->(It->Hp->Prop)->Prop
def PIE (X:Cx) (pins:List (Addr×Obj)) (σ:St) (tg:Expr) (R:It->Hp->Prop) (itv:Value) (s2:Shared):Prop :=
 ∃(it:Addr) (fp:List Addr) (tn:Nat->Heap->Prop) (J:It) (H':Hp),itv=.ref it/\Inv X pins σ H' s2/\Turn X.prog X.w X.K tg J fp it tn/\tn 0 s2.heap/\(∀b∈fp,zq7 X pins H' b)/\R J H'
def PI (X:Cx) (tg iter:Expr) (wi:TI):Prop :=
 ∀(pins:List (Addr×Obj)) (s:Shared) (σ:St) (H:Hp) (R:It->Hp->Prop),Inv X pins σ H s->wi σ H R ->
   wpAny (model X.prog X.w) X.A (eval iter X.env) (λv s1=>wpAny (model X.prog X.w) X.A (pyIter v) (PIE X pins σ tg R) X.xe s1) X.xe s
theorem zwn {it:Addr} {o:Obj} {n:String} {vs:Array Value} {Q:Unit->Shared->Prop} (ho:s.heap.get? it=some o) (hc:o.cls=.type n) (hd:o.data=.fields vs)
   (hn:["enumerate","zip","dict_itemiterator","dict_reverseitemiterator","odict_iterator","itertools.zip_longest","itertools.pairwise"].contains n=false) (hQ:Q () s):wpAny M A (letOwnedTupleGo tg (.ref it) u) Q E s:=by
 unfold letOwnedTupleGo;cases tg <;> first
   | exact wpAny_pure hQ
   | (cases u <;> first
       | exact wpAny_pure hQ
       | (refine wpAny_bind (wpAny_load ho ?_)
          rw[hc,hd];show wpAny M A (if(["enumerate","zip","dict_itemiterator","dict_reverseitemiterator","odict_iterator","itertools.zip_longest","itertools.pairwise"].contains n&&vs[0]?==some (rawInt _))=true then _ else _) Q E s;rw[if_neg (by intro h; rw[hn,Bool.false_and] at h; cases h)];exact wpAny_pure hQ))
def Itl (K:W.Frag) (a:Addr):It :=
 ⟨λi H=>∃xs x,SqL K H a xs/\xs[i]?=some x,λi H x H'=>H'=H/\∀xs,SqL K H a xs->xs[i]?=some x,λi H=>∃xs,SqL K H a xs/\xs.length<=i⟩
def Itt (K:W.Frag) (a:Addr):It :=
 ⟨λi H=>∃xs x,SqT K H a xs/\xs[i]?=some x,λi H x H'=>H'=H/\∀xs,SqT K H a xs->xs[i]?=some x,λi H=>∃xs,SqT K H a xs/\xs.length<=i⟩
def Itr (lo:Int) (n:Nat):It:=⟨λi _=>i<n,λi H x H'=>H'=H/\x=.int (lo+i),λi _=>n<=i⟩
theorem zvz (a it:Addr):Turn P w K tg (Itl K a) [it] it (λi h=>h.IsListIter it a i) where
 mem:=by simp
 obj:=λi h st b hb=>by
   have e:b=it:=by simpa using hb
   subst e;obtain⟨o,e,c,d⟩:=st;exact⟨o,e,λv z=>by rw[d] at z; cases z⟩
 keep:=λi h h' st k=>st.at λo e=>k it (by simp) o e
 item:=by intro X hP hw hK hc i pins s σ H E I hf st hg;subst hP hw hK;obtain⟨xs,x,hq,hx⟩:=hg;obtain⟨its,rv,p,hz⟩:=I.list hq;obtain⟨u,hu,ru⟩:=rv.get hx;obtain⟨f0,f1,f2,f3,f4,f5⟩:=hf it (by simp);refine qdu st p.isList (x:=u) (by simpa using hu) λh' st' sb=>?_;have I1:Inv X pins σ H { s with heap:=h' }:=I.turned (t':=s.toks) (λb o hb e=>(sb.2 b hb).trans e) f0 f1 f3 f4 f5;obtain⟨o,e,c,d⟩:=id st';exact⟨u,rfl,zwn (s:={ s with heap:=h' }) e c d (by decide) ⟨x,H,I1,ru,⟨rfl,λys hy=>by rw[I.list_inj hy hq]; exact hx⟩,st',λb hb=>(hf b hb).1⟩⟩
 done:=by intro X hP hw hK hc i pins s σ H E I hf st hg;subst hP hw hK;obtain⟨xs,hq,hx⟩:=hg;obtain⟨its,rv,p,hz⟩:=I.list hq;obtain⟨f0,f1,f2,f3,f4,f5⟩:=hf it (by simp);have hl:=rv.length;exact qdz (I.ok.hd hc) st p.isList (by simp; omega) λh' eb=>⟨rfl,I.turned (t':=s.toks) (λb o hb e=>eb b o hb e) f0 f1 f3 f4 f5⟩
 self:=λ_ _ _ _ _ st h=>wpAny_pyIter_listiter st h
theorem zu0 (a it:Addr):Turn P w K tg (Itt K a) [it] it (λi h=>h.IsTupleIter it a i) where
 mem:=by simp
 obj:=λi h st b hb=>by
   have e:b=it:=by simpa using hb
   subst e;obtain⟨o,e,c,d⟩:=st;exact⟨o,e,λv z=>by rw[d] at z; cases z⟩
 keep:=λi h h' st k=>st.at λo e=>k it (by simp) o e
 item:=by intro X hP hw hK hc i pins s σ H E I hf st hg;subst hP hw hK;obtain⟨xs,x,hq,hx⟩:=hg;obtain⟨its,rv,p,hz⟩:=I.tuple hq;obtain⟨u,hu,ru⟩:=rv.get hx;obtain⟨f0,f1,f2,f3,f4,f5⟩:=hf it (by simp);refine wpAny_pyNext_tuple_item st (show s.heap.IsTuple a its.toArray from p) (x:=u) (by simpa using hu) λh' st' sb=>?_;have I1:Inv X pins σ H { s with heap:=h' }:=I.turned (t':=s.toks) (λb o hb e=>(sb.2 b hb).trans e) f0 f1 f3 f4 f5;obtain⟨o,e,c,d⟩:=id st';exact⟨u,rfl,zwn (s:={ s with heap:=h' }) e c d (by decide) ⟨x,H,I1,ru,⟨rfl,λys hy=>by rw[I.tuple_inj hy hq]; exact hx⟩,st',λb hb=>(hf b hb).1⟩⟩
 done:=by intro X hP hw hK hc i pins s σ H E I hf st hg;subst hP hw hK;obtain⟨xs,hq,hx⟩:=hg;obtain⟨its,rv,p,hz⟩:=I.tuple hq;obtain⟨f0,f1,f2,f3,f4,f5⟩:=hf it (by simp);have hl:=rv.length;exact wpAny_pyNext_tuple_end (I.ok.hd hc) st (show s.heap.IsTuple a its.toArray from p) (by simp; omega) λh' eb=>⟨rfl,I.turned (t':=s.toks) (λb o hb e=>eb b o hb e) f0 f1 f3 f4 f5⟩
 self:=λ_ _ _ _ _ st h=>wpAny_pyIter_tupleiter st h
theorem zup (it:Addr) (lo:Int) (n:Nat):Turn P w K tg (Itr lo n) [it] it (λi h=>IsRangeIter h it (lo+(i:Nat) * 1) ((n:Int) - (i:Nat)) 1) where
 mem:=by simp
 obj:=λi h st b hb=>by
   have e:b=it:=by simpa using hb
   subst e;exact⟨_,st,λv z=>by have z':Data.fields _=Data.cell v:=z;cases z'⟩
 keep:=λi h h' st k=>k it (by simp) _ st
 item:=by intro X hP hw hK hc i pins s σ H E I hf st hg;subst hP hw hK;obtain⟨f0,f1,f2,f3,f4,f5⟩:=hf it (by simp);have W:=Walks.range (prog:=X.prog) (w:=X.w) (I.ok.hd hc) it lo 1 n;refine W.item i s _ _ hg st λv h' tk hv st' kk=>?_;obtain⟨t,rfl⟩:=hv;have I1:Inv X pins σ H { s with heap:=h',toks:=tk }:=I.turned (λb o hb e=>kk b o (by simpa using hb) e) f0 f1 f3 f4 f5;refine⟨_,rfl,zwn (s:={ s with heap:=h',toks:=tk }) (n:="range_iterator") st' rfl rfl (by decide) ⟨.int (lo+i),H,I1,⟨t,?_⟩,⟨rfl,rfl⟩,st',λb hb=>(hf b hb).1⟩⟩;rw[Int.mul_one]
 done:=by intro X hP hw hK hc i pins s σ H E I hf st hg;subst hP hw hK;obtain⟨f0,f1,f2,f3,f4,f5⟩:=hf it (by simp);exact wpAny_pyNext_range_end (I.ok.hd hc) st (by have:n<=i:=hg; omega) λh' eb=>⟨rfl,I.turned (t':=s.toks) (λb o hb e=>eb b o hb e) f0 f1 f3 f4 f5⟩
 self:=λ_ _ _ _ _ st h=>wpAny_pyIter_rangeiter st h
section
variable {X:Cx} {tg:Expr}
def z7r (K:W.Frag) (tl:TE):TI:=λσ H R=>tl σ H λx H1=>∃a,x=.ref a/\(∃xs,SqL K H1 a xs)/\R (Itl K a) H1
def iTup (K:W.Frag) (tl:TE):TI:=λσ H R=>tl σ H λx H1=>∃a,x=.ref a/\(∃xs,SqT K H1 a xs)/\R (Itt K a) H1
theorem zgc {l:Expr} {tl:TE} (hl:PE X l tl):PI X tg l (z7r X.K tl):=by
 intro pins s σ H R I h;refine thn (hl pins s σ H _ I h) λv s1 ⟨x,H1,I1,r1,q1⟩=>?_;obtain⟨a,e,⟨xs,hq⟩,q⟩:=q1;subst e;cases r1;obtain⟨its,rv,p,hz⟩:=I1.list hq;refine qcg p.isList ?_;refine⟨s1.heap.objs.size,[s1.heap.objs.size],_,_,H1,rfl,I1.kept (t':=s1.toks) λb o e=>Heap.get?_push_of_some _ e,zvz a _,⟨_,qat _ rfl,rfl,rfl⟩,λb hb=>?_,q⟩;have e:b=s1.heap.objs.size:=by simpa using hb
 subst e;exact I1.fpOk (qaj _) (I1.hok.fresh (qaj _))
theorem ztf {l:Expr} {tl:TE} (hl:PE X l tl):PI X tg l (iTup X.K tl):=by
 intro pins s σ H R I h;refine thn (hl pins s σ H _ I h) λv s1 ⟨x,H1,I1,r1,q1⟩=>?_;obtain⟨a,e,⟨xs,hq⟩,q⟩:=q1;subst e;cases r1;obtain⟨its,rv,p,hz⟩:=I1.tuple hq;refine qcn (show s1.heap.IsTuple a its.toArray from p) ?_;refine⟨s1.heap.objs.size,[s1.heap.objs.size],_,_,H1,rfl,I1.kept (t':=s1.toks) λb o e=>Heap.get?_push_of_some _ e,zu0 a _,⟨_,qat _ rfl,rfl,rfl⟩,λb hb=>?_,q⟩;have e:b=s1.heap.objs.size:=by simpa using hb
 subst e;exact I1.fpOk (qaj _) (I1.hok.fresh (qaj _))
theorem z0h {R:It->Hp->Prop} {lo hi:Int} {t u v:Tok} {tk:Nat} (I:Inv X pins σ H s) (h1:-(2 ^ 62)<=lo) (h2:lo<2 ^ 62) (h3:-(2 ^ 62)<=hi) (h4:hi<2 ^ 62)
   (q:R (Itr lo (hi - lo).toNat) H):wpAny (model X.prog X.w) X.A (pyIter (.ref s.heap.objs.size)) (PIE X pins σ tg R) E { s with heap:=s.heap.push { cls:=.type "range",data:=.fields #[.int lo t,.int hi u,.int 1 v] },toks:=tk }:=by
 refine wpAny_pyIter_range (IsRange.new ..) (small_one h1 h2 h3 h4) ?_;have I1:Inv X pins σ H { s with heap:=s.heap.push { cls:=.type "range",data:=.fields #[.int lo t,.int hi u,.int 1 v] },toks:=tk }:=I.kept λb o e=>Heap.get?_push_of_some _ e;refine⟨(s.heap.push { cls:=.type "range",data:=.fields #[.int lo t,.int hi u,.int 1 v] }).objs.size,[(s.heap.push { cls:=.type "range",data:=.fields #[.int lo t,.int hi u,.int 1 v] }).objs.size],_,_,H,rfl,
   I1.kept (t':=tk) λb o e=>Heap.get?_push_of_some _ e,zup _ lo (hi - lo).toNat,?_,λb hb=>?_,q⟩
 . have e1:lo+((0:Nat):Int) * 1=lo:=by simp
   have e2:(((hi - lo).toNat:Nat):Int) - ((0:Nat):Int)=Builtin.Range.rangeSize lo hi 1:=by rw[rangeSize_one]; split <;> omega
   show IsRangeIter _ _ (lo+((0:Nat):Int) * 1) ((((hi - lo).toNat:Nat):Int) - ((0:Nat):Int)) 1;rw[e1,e2];exact qat _ rfl
 . have e:b=(s.heap.push { cls:=.type "range",data:=.fields #[.int lo t,.int hi u,.int 1 v] }).objs.size:=by simpa using hb
   subst e;exact I1.fpOk (qaj _) (I1.hok.fresh (qaj _))
def z6r (ta:TA):TI:=λσ H R=>ta σ H λvs H1=>∃j:Int,vs=[.int j]/\-(2 ^ 62)<=j/\j<2 ^ 62/\R (Itr 0 j.toNat) H1
theorem zb4 {a:Expr} {ta:TA} {p:Pos}(hg:Gl X "range") (hm:X.mg "range"=none) (ha:PA X [a] ta) (hs:starEach [a] X.env=[(false,eval a X.env)]:=by rfl):PI X tg (.Call (.Name "range" p) [a] [] pos) (z6r ta):=by
 intro pins s σ H R I h;refine Call_ (zkr I hg hm boot_range (qbz (thn (ha pos pins s σ H _ I h) λus s1 ⟨vs,H1,I1,r1,q1⟩=>?_) hs rfl));obtain⟨j,e,q1,q2,q⟩:=q1;subst e;cases r1 with
 | cons r rr =>
   cases rr;obtain⟨t,rfl⟩:=r;exact call_range_1 (z0h I1 (by omega) (by omega) q1 q2 (by simpa using q))
def tFor (wi:TI) (g:TG) (tb:TS):TS:=λD σ H=>wi σ H λJ H1=>∃W:Nat->Nat->St->Hp->Prop,(∃m,W 0 m σ H1)/\∀i m σ H,W i m σ H ->
 (J.stop i H/\D.nx σ H)\/(J.go i H/\∃N:St->Hp->Prop,(∀σ' H',N σ' H'->∃m',m'<m/\W (i+1) m' σ' H')/\∀x H',J.yld i H x H'->g x σ H' λσ2 H2=>tb { D with nx:=N,ct:=N,bk:=D.nx } σ2 H2)
def znq (fp:List Addr) (h:Heap):List (Addr×Obj):=fp.filterMap λb=>(h.get? b).map λo=>(b,o)
theorem zfc {fp:List Addr} {o:Obj} (hb:b∈fp) (e:h.get? b=some o):(b,o)∈znq fp h:=List.mem_filterMap.mpr ⟨b,hb,by rw[e]; rfl⟩
theorem zw7 {fp:List Addr} {p:Addr×Obj} (hp:p∈znq fp h):p.1∈fp/\h.get? p.1=some p.2:=by
 obtain⟨b,hb,e⟩:=List.mem_filterMap.mp hp;cases q:h.get? b with
 | none=>rw[q] at e; cases e
 | some o =>
   rw[q] at e;have e':(b,o)=p:=Option.some.inj e;subst e';exact⟨hb,q⟩
theorem Inv.pinned {fp:List Addr} (I:Inv X pins σ H s) (hf:∀b∈fp,zq7 X pins H b) (ho:∀b∈fp,∃o,s.heap.get? b=some o/\∀v,o.data≠.cell v):Inv X (pins++znq fp s.heap) σ H s :=
 I.pins_of λp hp=>(qbk.mp hp).elim (λz=>I.pin p (qbc _ z)) λz=>by obtain⟨hb,e⟩:=zw7 z;obtain⟨f0,f1,f2,_⟩:=hf p.1 hb;obtain⟨o,e',d⟩:=ho p.1 hb;rw[e] at e'; cases e';exact⟨e,f0,f1,f2,d⟩
theorem Inv.unpinned {pl:List (Addr×Obj)}(I:Inv X (pins++pl) σ H s):Inv X pins σ H s:=I.pins_of λp hp=>I.pin p (qbc _ (qd0 _ hp))
theorem zdh {iter:Expr} {body:List Stmt} {wi:TI} (hp:PassesOwn (model X.prog X.w) X.A X.env X.xe) (hc:X.calm=true) (hi:PI X tg iter wi) (hg:PG X tg g) (hb:PSs X body tb)
   (hs:∀x,foldedSetIterable iter X.env x=pure x:=by intro _; rfl):PS X (.For tg iter body [] pos) (tFor wi g tb):=by
 intro pins s σ H D I h;refine wpAny_For (thn (hi pins s σ H _ I h) λv s1 h1=>thn h1 λitv s2 h2=>?_) hs;obtain⟨it,fp,tn,J,H2,e,I2,T,st2,f2,W,⟨m0,w0⟩,turn⟩:=h2;subst e
 -- what stays true of the iterator's objects through the loop
 have stat:∀{H':Hp},(∀b∈fp,H' b=none)->∀b∈fp,zq7 X pins H' b:=λhn b hb=>⟨hn b hb,(f2 b hb).2⟩
 refine codeAny_forLoop_any (λn s'=>∃i σ' H',Inv X pins σ' H' s'/\tn i s'.heap/\(∀b∈fp,H' b=none)/\W i n σ' H') ?_ m0 ⟨0,σ,H2,I2,st2,λb hb=>(f2 b hb).1,w0⟩;rintro n s3 ⟨i,σ3,H3,I3,st3,fr3,w3⟩;rcases turn i n σ3 H3 w3 with⟨stop,qn⟩|⟨go,N,hN,step⟩
 . refine qcy hp (thn (T.done X rfl rfl rfl hc i pins s3 σ3 H3 X.xe I3 (stat fr3) st3 stop) λr s4 ⟨hr,I4⟩=>?_);subst hr;exact qda ⟨σ3,H3,I4,qn⟩
 . refine qcy hp (thn (T.item X rfl rfl rfl hc i pins s3 σ3 H3 X.xe I3 (stat fr3) st3 go) λr s4 ⟨u,hr,h4⟩=>?_);subst hr;refine qcy hp (thn h4 λ_ s5 ⟨x,H5,I5,r5,y5,st5,fr5⟩=>?_);have I5':=I5.pinned (stat fr5) (T.obj _ _ st5);refine qcy hp (thn (hg _ s5 σ3 H5 x u _ I5' r5 (step x H5 y5)) λ_ s6 ⟨σ6,H6,I6,q6⟩=>?_);refine qcy hp (thn (hb _ s6 σ6 H6 _ I6 q6) λf s7 q7=>?_);have again:∀{σ7:St} {H7:Hp},Inv X (pins++znq fp s5.heap) σ7 H7 s7->N σ7 H7->∃m,m<n/\∃i σ' H',Inv X pins σ' H' s7/\tn i s7.heap/\(∀b∈fp,H' b=none)/\W i m σ' H':=λ{σ7 H7} I7 n7=>by obtain⟨m',hm,w7⟩:=hN σ7 H7 n7;refine⟨m',hm,i+1,σ7,H7,I7.unpinned,T.keep _ _ _ st5 λb hb o e=>(I7.pin (b,o) (qbc _ (qbc _ (zfc hb e)))).1,λb hb=>?_,w7⟩;obtain⟨o,e,d⟩:=T.obj _ _ st5 b hb;exact(I7.pin (b,o) (qbc _ (qbc _ (zfc hb e)))).2.1
   cases f with
   | next=>obtain⟨σ7,H7,I7,n7⟩:=q7; exact again I7 n7
   | cont=>obtain⟨σ7,H7,I7,n7⟩:=q7; exact again I7 n7
   | brk=>obtain⟨σ7,H7,I7,q7⟩:=q7; exact⟨σ7,H7,I7.unpinned,q7⟩
   | ret v=>obtain⟨x7,σ7,H7,I7,r7,q7⟩:=q7; exact⟨x7,σ7,H7,I7.unpinned,r7,q7⟩
end
theorem ztr {xs:List V} {D:zjb} (Pv:Nat->St->Hp->Prop) (h0:Pv 0 σ H) (hl:∀i σ H,i<=xs.length->Pv i σ H->SqL K H a xs)
   (hs:∀i x σ H,xs[i]?=some x->Pv i σ H->g x σ H λσ2 H2=>tb { D with nx:=Pv (i+1),ct:=Pv (i+1),bk:=D.nx } σ2 H2) (hd:∀σ H,Pv xs.length σ H->D.nx σ H) :
   ∃W:Nat->Nat->St->Hp->Prop,(∃m,W 0 m σ H)/\∀i m σ H,W i m σ H ->
     ((Itl K a).stop i H/\D.nx σ H)\/((Itl K a).go i H/\∃N:St->Hp->Prop,(∀σ' H',N σ' H'->∃m',m'<m/\W (i+1) m' σ' H')/\∀x H',(Itl K a).yld i H x H'->g x σ H' λσ2 H2=>tb { D with nx:=N,ct:=N,bk:=D.nx } σ2 H2):=by
 refine⟨λi m σ H=>m=xs.length - i/\i<=xs.length/\Pv i σ H,⟨xs.length,by simp,qaz _,h0⟩,?_⟩;rintro i m σ H ⟨rfl,hi,p⟩;have q:=hl i σ H hi p;by_cases hlt:i<xs.length
 . refine .inr ⟨⟨xs,xs[i],q,by simp [hlt]⟩,Pv (i+1),λσ' H' p'=>⟨xs.length - (i+1),by omega,rfl,hlt,p'⟩,λx H' y=>?_⟩;obtain⟨e,y⟩:=y;subst e;exact hs i x σ _ (y xs q) p
 . have e:i=xs.length:=by omega
   subst e;exact .inl ⟨⟨xs,q,qaj _⟩,hd σ H p⟩
theorem zxm {xs:List V} {D:zjb} (Pv:Nat->St->Hp->Prop) (h0:Pv 0 σ H) (hl:∀i σ H,i<=xs.length->Pv i σ H->SqT K H a xs)
   (hs:∀i x σ H,xs[i]?=some x->Pv i σ H->g x σ H λσ2 H2=>tb { D with nx:=Pv (i+1),ct:=Pv (i+1),bk:=D.nx } σ2 H2) (hd:∀σ H,Pv xs.length σ H->D.nx σ H) :
   ∃W:Nat->Nat->St->Hp->Prop,(∃m,W 0 m σ H)/\∀i m σ H,W i m σ H ->
     ((Itt K a).stop i H/\D.nx σ H)\/((Itt K a).go i H/\∃N:St->Hp->Prop,(∀σ' H',N σ' H'->∃m',m'<m/\W (i+1) m' σ' H')/\∀x H',(Itt K a).yld i H x H'->g x σ H' λσ2 H2=>tb { D with nx:=N,ct:=N,bk:=D.nx } σ2 H2):=by
 refine⟨λi m σ H=>m=xs.length - i/\i<=xs.length/\Pv i σ H,⟨xs.length,by simp,qaz _,h0⟩,?_⟩;rintro i m σ H ⟨rfl,hi,p⟩;have q:=hl i σ H hi p;by_cases hlt:i<xs.length
 . refine .inr ⟨⟨xs,xs[i],q,by simp [hlt]⟩,Pv (i+1),λσ' H' p'=>⟨xs.length - (i+1),by omega,rfl,hlt,p'⟩,λx H' y=>?_⟩;obtain⟨e,y⟩:=y;subst e;exact hs i x σ _ (y xs q) p
 . have e:i=xs.length:=by omega
   subst e;exact .inl ⟨⟨xs,q,qaj _⟩,hd σ H p⟩
theorem zex {lo:Int} {n:Nat} {D:zjb} (Pv:Nat->St->Hp->Prop) (h0:Pv 0 σ H)
   (hs:∀i σ H,i<n->Pv i σ H->g (.int (lo+i)) σ H λσ2 H2=>tb { D with nx:=Pv (i+1),ct:=Pv (i+1),bk:=D.nx } σ2 H2) (hd:∀σ H,Pv n σ H->D.nx σ H) :
   ∃W:Nat->Nat->St->Hp->Prop,(∃m,W 0 m σ H)/\∀i m σ H,W i m σ H ->
     ((Itr lo n).stop i H/\D.nx σ H)\/((Itr lo n).go i H/\∃N:St->Hp->Prop,(∀σ' H',N σ' H'->∃m',m'<m/\W (i+1) m' σ' H')/\∀x H',(Itr lo n).yld i H x H'->g x σ H' λσ2 H2=>tb { D with nx:=N,ct:=N,bk:=D.nx } σ2 H2):=by
 refine⟨λi m σ H=>m=n - i/\i<=n/\Pv i σ H,⟨n,by simp,qaz _,h0⟩,?_⟩;rintro i m σ H ⟨rfl,hi,p⟩;by_cases hlt:i<n
 . refine .inr ⟨hlt,Pv (i+1),λσ' H' p'=>⟨n - (i+1),by omega,rfl,hlt,p'⟩,λx H' y=>?_⟩;obtain⟨e,y⟩:=y;subst e y;exact hs i σ _ hlt p
 . have e:i=n:=by omega
   subst e;exact .inl ⟨qaj _,hd σ H p⟩
theorem zz7 {c:TT} {D:zjb} (Pv:St->Hp->Prop) (μ:St->Hp->Nat) (h0:Pv σ H)
   (hs:∀σ H,Pv σ H->c σ H λb H1=>if b=true then tb { D with nx:=λσ' H'=>Pv σ' H'/\μ σ' H'<μ σ H,ct:=λσ' H'=>Pv σ' H'/\μ σ' H'<μ σ H,bk:=D.nx } σ H1 else D.nx σ H1)
   (mono:∀σ H Q Q',(∀b H1,Q b H1->Q' b H1)->c σ H Q->c σ H Q'):z1p c tb D σ H:=by
 refine⟨λm σ H=>m=μ σ H/\Pv σ H,⟨_,rfl,h0⟩,?_⟩;rintro m σ H ⟨rfl,p⟩;refine mono σ H _ _ (λb H1 q=>?_) (hs σ H p);cases b with
 | true=>exact⟨_,λσ' H' ⟨p',l⟩=>⟨_,l,rfl,p'⟩,q⟩
 | false=>exact q
abbrev R2:=V->V->Hp->VK->Prop
def OpR (X:Cx) (f:Value->Value->Sem Value) (r:R2):Prop :=
 ∀(pins:List (Addr×Obj)) (s:Shared) (σ:St) (H:Hp) (x y:V) (v u:Value) (Q:VK),Inv X pins σ H s->zc1 x v->zc1 y u->r x y H Q ->
   wpAny (model X.prog X.w) X.A (f v u) (EP X pins σ Q) X.xe s
def UnR (X:Cx) (f:Value->Sem Value) (r:V->Hp->VK->Prop):Prop :=
 ∀(pins:List (Addr×Obj)) (s:Shared) (σ:St) (H:Hp) (x:V) (v:Value) (Q:VK),Inv X pins σ H s->zc1 x v->r x H Q ->
   wpAny (model X.prog X.w) X.A (f v) (EP X pins σ Q) X.xe s
def zbv (X:Cx) (f:Value) (r:List V->Hp->VK->Prop):Prop :=
 ∀(pins:List (Addr×Obj)) (s:Shared) (σ:St) (H:Hp) (xs:List V) (us:List Value) (Q:VK),Inv X pins σ H s->zcp xs us->r xs H Q ->
   wpAny (model X.prog X.w) X.A (call f us) (EP X pins σ Q) X.xe s
def TruR (X:Cx) (r:V->Hp->(Bool->Hp->Prop)->Prop):Prop :=
 ∀(pins:List (Addr×Obj)) (s:Shared) (σ:St) (H:Hp) (x:V) (v:Value) (Q:Bool->Hp->Prop),Inv X pins σ H s->zc1 x v->r x H Q ->
   wpAny (model X.prog X.w) X.A (truthy v) (TP X pins σ Q) X.xe s
def tOp (r:R2) (ta tb:TE):TE:=λσ H Q=>ta σ H λx H1=>tb σ H1 λy H2=>r x y H2 Q
def tUn (r:V->Hp->VK->Prop) (ta:TE):TE:=λσ H Q=>ta σ H λx H1=>r x H1 Q
def rI (C:Int->Int->Prop) (g:Int->Int->V):R2:=λx y H Q=>∃i j,x=.int i/\y=.int j/\C i j/\Q (g i j) H
def rI0 (g:Int->Int->V):R2:=λx y H Q=>∃i j,x=.int i/\y=.int j/\Q (g i j) H
def rU (g:Int->V):V->Hp->VK->Prop:=λx H Q=>∃i,x=.int i/\Q (g i) H
section
variable {X:Cx} {a b c:Expr} {ta tb tc:TE} {pos:Pos}
theorem z69 (ha:PE X a ta) (hb:PE X b tb) {R:V->V->Hp->Prop} (I:Inv X pins σ H s)
   (h:ta σ H λx H1=>tb σ H1 λy H2=>R x y H2) {Q:Value->Shared->Prop} {f:Value->Value->Sem Value}
   (hf:∀v u s2 x y H2,Inv X pins σ H2 s2->zc1 x v->zc1 y u->R x y H2->wpAny (model X.prog X.w) X.A (f v u) Q X.xe s2) :
   wpAny (model X.prog X.w) X.A (eval a X.env) (λv s₁=>wpAny (model X.prog X.w) X.A (eval b X.env) (λu s₂=>wpAny (model X.prog X.w) X.A (f v u) Q X.xe s₂) X.xe s₁) X.xe s:=by
 refine thn (ha pins s σ H _ I h) λv s1 ⟨x,H1,I1,r1,q1⟩=>?_;refine thn (hb pins s1 σ H1 _ I1 q1) λu s2 ⟨y,H2,I2,r2,q2⟩=>?_;exact hf v u s2 x y H2 I2 r1 r2 q2
theorem zav {op:Operator} {r:R2} (ho:OpR X (binaryOp op) r) (ha:PE X a ta) (hb:PE X b tb):PE X (.BinOp a op b pos) (tOp r ta tb):=by intro pins s σ H Q I h;exact wpAny_BinOp (z69 ha hb I h λv u s2 x y H2 I2 rx ry q=>ho pins s2 σ H2 x y v u Q I2 rx ry q)
theorem zrz {op:UnaryOp} {r:V->Hp->VK->Prop} (ho:UnR X (unaryOp op) r) (ha:PE X a ta):PE X (.UnaryOp op a pos) (tUn r ta):=by intro pins s σ H Q I h;exact UnaryOp_ (thn (ha pins s σ H _ I h) λv s1 ⟨x,H1,I1,r1,q1⟩=>ho pins s1 σ H1 x v Q I1 r1 q1)
theorem opI {f:Value->Value->Sem Value} {C:Int->Int->Prop} {g:Int->Int->Int}
   (rule:∀(i j:Int) (t u:Tok) (s:Shared) (Q:Value->Shared->Prop) (E:Value->Shared->Prop),C i j->Q (.int (g i j) s.toks) { s with toks:=s.toks+1 }->wpAny (model X.prog X.w) X.A (f (.int i t) (.int j u)) Q E s) :
   OpR X f (rI C λi j=>.int (g i j)):=by
 intro pins s σ H x y v u Q I rx ry h;obtain⟨i,j,rfl,rfl,hc,q⟩:=h;obtain⟨t,rfl⟩:=rx;obtain⟨t',rfl⟩:=ry;exact rule i j t t' s _ _ hc ⟨.int (g i j),H,I.tok _,⟨_,rfl⟩,q⟩
theorem z6t {f:Value->Value->Sem Value} {g:Int->Int->Int}
   (rule:∀(i j:Int) (t u:Tok) (s:Shared) (Q:Value->Shared->Prop) (E:Value->Shared->Prop),Q (.int (g i j) s.toks) { s with toks:=s.toks+1 }->wpAny (model X.prog X.w) X.A (f (.int i t) (.int j u)) Q E s) :
   OpR X f (rI0 λi j=>.int (g i j)):=by
 intro pins s σ H x y v u Q I rx ry h;obtain⟨i,j,rfl,rfl,q⟩:=h;obtain⟨t,rfl⟩:=rx;obtain⟨t',rfl⟩:=ry;exact rule i j t t' s _ _ ⟨.int (g i j),H,I.tok _,⟨_,rfl⟩,q⟩
theorem z6l {f:Value->Value->Sem Value} {g:Int->Int->Bool}
   (rule:∀(i j:Int) (t u:Tok) (s:Shared) (Q:Value->Shared->Prop) (E:Value->Shared->Prop),Q (.bool (g i j)) s->wpAny (model X.prog X.w) X.A (f (.int i t) (.int j u)) Q E s) :
   OpR X f (rI0 λi j=>.bl (g i j)):=by
 intro pins s σ H x y v u Q I rx ry h;obtain⟨i,j,rfl,rfl,q⟩:=h;obtain⟨t,rfl⟩:=rx;obtain⟨t',rfl⟩:=ry;exact rule i j t t' s _ _ ⟨.bl (g i j),H,I,rfl,q⟩
def CPow (i j:Int):Prop:=0<=j/\j<=1000000/\i.natAbs<2 ^ 64
def z7c (i j:Int):Prop:=(-(2 ^ 64)<i/\i<2 ^ 64)\/(-(2 ^ 64)<j/\j<2 ^ 64)
theorem z7c.ok {i j:Int} (h:z7c i j):IntMulOk i j:=by
 rcases h with⟨h1,h2⟩|⟨h1,h2⟩
 . exact .of_left (intBits_le_64 h1 h2)
 . exact .of_right (intBits_le_64 h1 h2)
theorem zum (k:Nat):(0:Int)<=2 ^ k:=by rw[two_pow_cast];exact Int.natCast_nonneg _
theorem zbp:OpR X (binaryOp .Add) (rI0 λi j=>.int (i+j)):=z6t λ_ _ _ _ _ _ _ q=>add_int q
theorem zje:OpR X (binaryOp .Sub) (rI0 λi j=>.int (i - j)):=z6t λ_ _ _ _ _ _ _ q=>sub_int q
theorem zg5:OpR X (binaryOp .Mult) (rI z7c λi j=>.int (i * j)):=opI λ_ _ _ _ _ _ _ hc q=>mul_int q hc.ok
theorem zek:OpR X (binaryOp .Mod) (rI (λ_ j=>0<j) λi j=>.int (i%j)):=opI λi j _ _ _ _ _ hc q=>by have h1:(0:Int)<j:=hc;exact mod_int' (by omega) (by rw[Int.fmod_eq_emod_of_nonneg i (by omega)]; exact q)
theorem zv9:OpR X (binaryOp .Pow) (rI CPow λi j=>.int (i ^ j.toNat)):=opI λ_ _ _ _ _ _ _ hc q=>pow_int_small hc.1 hc.2.1 hc.2.2 q
theorem z3t:OpR X (binaryOp .LShift) (rI CPow λi j=>.int (i * 2 ^ j.toNat)):=opI λ_ _ _ _ _ _ _ hc q=>lshift_int_small hc.1 hc.2.1 hc.2.2 q
theorem z0p:OpR X (binaryOp .RShift) (rI (λ_ j=>0<=j) λi j=>.int (i / 2 ^ j.toNat)):=opI λi j _ _ _ _ _ hc q =>
 rshift_int hc (by rw[Int.fdiv_eq_ediv_of_nonneg i (zum _)]; exact q)
theorem z09:OpR X (binaryOp .BitAnd) (rI0 λi j=>.int (Builtin.bitAnd i j)):=z6t λ_ _ _ _ _ _ _ q=>and_int q
theorem unI {f:Value->Sem Value} {g:Int->Int}
   (rule:∀(i:Int) (t:Tok) (s:Shared) (Q:Value->Shared->Prop) (E:Value->Shared->Prop),Q (.int (g i) s.toks) { s with toks:=s.toks+1 }->wpAny (model X.prog X.w) X.A (f (.int i t)) Q E s) :
   UnR X f (rU λi=>.int (g i)):=by
 intro pins s σ H x v Q I rx h;obtain⟨i,rfl,q⟩:=h;obtain⟨t,rfl⟩:=rx;exact rule i t s _ _ ⟨.int (g i),H,I.tok _,⟨_,rfl⟩,q⟩
theorem zly:UnR X (unaryOp .USub) (rU λi=>.int (-i)):=unI λ_ _ _ _ _ q=>neg_int q
end
def scal:V->V->Bool
 | .non,.non=>true | .non,.int _=>true | .int _,.non=>true | .non,.bl _=>true | .bl _,.non=>true | .non,.str _=>true | .str _,.non=>true
 | .int _,.int _=>true | .bl _,.bl _=>true | .str _,.str _=>true | .byt _,.byt _=>true
 | .int _,.str _=>true | .str _,.int _=>true | .bl _,.str _=>true | .str _,.bl _=>true
 | _,_=>false
def rEq:R2:=λx y H Q=>scal x y=true/\Q (.bl (decide (x=y))) H
def rNe:R2:=λx y H Q=>scal x y=true/\Q (.bl (!decide (x=y))) H
theorem zxx {i j:Int}:decide (V.int i=V.int j)=(i==j):=by rw[qbt];simp
theorem z05 {i j:Bool}:decide (V.bl i=V.bl j)=(i==j):=by rw[qbt];simp
theorem zwl {i j:Str}:decide (V.str i=V.str j)=(i==j):=by rw[qbt];simp
theorem zxv {i j:Array UInt8}:decide (V.byt i=V.byt j)=(i.toList==j.toList):=by rw[qbt];cases i;cases j;simp
variable {us:List Value}
section
variable {X:Cx} {a b c:Expr} {ta tb tc:TE} {pos:Pos}
theorem zcc {Q:VK} {k k':Bool} (I:Inv X pins σ H s) (q:Q (.bl k) H) (e:k=k'):EP X pins σ Q (.bool k') s:=by subst e;exact⟨.bl k,H,I,rfl,q⟩
theorem zdw:OpR X (compareOp .Eq) rEq:=by
 intro pins s σ H x y v u Q I rx ry h;obtain⟨hs,q⟩:=h;cases x with
 | non =>
   cases rx;cases y with
   | non=>cases ry; exact PySem.EqNone.eq_none_none (zcc I q (by simp))
   | bl j=>cases ry; exact PySem.EqNone.eq_none_bool (zcc I q (by simp))
   | int j=>obtain⟨t',rfl⟩:=ry; exact PySem.EqNone.eq_none_int (zcc I q (by simp))
   | str j=>obtain⟨t',rfl⟩:=ry; exact PySem.EqNone.eq_none_str (zcc I q (by simp))
   | _=>exact absurd (show false=true from hs) qas
 | bl i =>
   cases rx;cases y with
   | non=>cases ry; exact PySem.EqNone.eq_bool_none (zcc I q (by simp))
   | bl j=>cases ry; exact eq_bool (zcc I q z05)
   | str j=>obtain⟨t',rfl⟩:=ry; exact PySem.EqMixed.eq_bool_str (zcc I q (by simp))
   | _=>exact absurd (show false=true from hs) qas
 | int i =>
   obtain⟨t,rfl⟩:=rx;cases y with
   | non=>cases ry; exact PySem.EqNone.eq_int_none (zcc I q (by simp))
   | int j=>obtain⟨t',rfl⟩:=ry; exact eq_int (zcc I q zxx)
   | str j=>obtain⟨t',rfl⟩:=ry; exact PySem.EqMixed.eq_int_str (zcc I q (by simp))
   | _=>exact absurd (show false=true from hs) qas
 | str i =>
   obtain⟨t,rfl⟩:=rx;cases y with
   | non=>cases ry; exact PySem.EqNone.eq_str_none (zcc I q (by simp))
   | bl j=>cases ry; exact PySem.EqMixed.eq_str_bool (zcc I q (by simp))
   | int j=>obtain⟨t',rfl⟩:=ry; exact PySem.EqMixed.eq_str_int (zcc I q (by simp))
   | str j=>obtain⟨t',rfl⟩:=ry; exact eq_str (zcc I q zwl)
   | _=>exact absurd (show false=true from hs) qas
 | byt i =>
   obtain⟨t,rfl⟩:=rx;cases y with
   | byt j=>obtain⟨t',rfl⟩:=ry; exact PySem.W.eq_bytes (zcc I q zxv)
   | _=>exact absurd (show false=true from hs) qas
 | _=>cases y <;> exact absurd (show false=true from hs) qas
theorem zql:OpR X (compareOp .NotEq) rNe:=by
 intro pins s σ H x y v u Q I rx ry h;obtain⟨hs,q⟩:=h;cases x with
 | non =>
   cases rx;cases y with
   | non=>cases ry; exact PySem.EqNone.ne_none_none (zcc I q (by simp))
   | bl j=>cases ry; exact PySem.EqNone.ne_none_bool (zcc I q (by simp))
   | int j=>obtain⟨t',rfl⟩:=ry; exact PySem.EqNone.ne_none_int (zcc I q (by simp))
   | str j=>obtain⟨t',rfl⟩:=ry; exact PySem.EqNone.ne_none_str (zcc I q (by simp))
   | _=>exact absurd (show false=true from hs) qas
 | bl i =>
   cases rx;cases y with
   | non=>cases ry; exact PySem.EqNone.ne_bool_none (zcc I q (by simp))
   | bl j=>cases ry; exact ne_bool (zcc I q (qa0 not z05))
   | str j=>obtain⟨t',rfl⟩:=ry; exact PySem.EqMixed.ne_bool_str (zcc I q (by simp))
   | _=>exact absurd (show false=true from hs) qas
 | int i =>
   obtain⟨t,rfl⟩:=rx;cases y with
   | non=>cases ry; exact PySem.EqNone.ne_int_none (zcc I q (by simp))
   | int j=>obtain⟨t',rfl⟩:=ry; exact ne_int (zcc I q (qa0 not zxx))
   | str j=>obtain⟨t',rfl⟩:=ry; exact PySem.EqMixed.ne_int_str (zcc I q (by simp))
   | _=>exact absurd (show false=true from hs) qas
 | str i =>
   obtain⟨t,rfl⟩:=rx;cases y with
   | non=>cases ry; exact PySem.EqNone.ne_str_none (zcc I q (by simp))
   | bl j=>cases ry; exact PySem.EqMixed.ne_str_bool (zcc I q (by simp))
   | int j=>obtain⟨t',rfl⟩:=ry; exact PySem.EqMixed.ne_str_int (zcc I q (by simp))
   | str j=>obtain⟨t',rfl⟩:=ry; exact ne_str (zcc I q (qa0 not zwl))
   | _=>exact absurd (show false=true from hs) qas
 | byt i =>
   obtain⟨t,rfl⟩:=rx;cases y with
   | byt j=>obtain⟨t',rfl⟩:=ry; exact PySem.W.ne_bytes (zcc I q (qa0 not zxv))
   | _=>exact absurd (show false=true from hs) qas
 | _=>cases y <;> exact absurd (show false=true from hs) qas
theorem zjg:OpR X (compareOp .Lt) (rI0 λi j=>.bl (decide (i<j))):=z6l λ_ _ _ _ _ _ _ q=>lt_int q
theorem zrg:OpR X (compareOp .LtE) (rI0 λi j=>.bl (decide (i<=j))):=z6l λ_ _ _ _ _ _ _ q=>le_int q
theorem zuf:OpR X (compareOp .Gt) (rI0 λi j=>.bl (decide (j<i))):=z6l λ_ _ _ _ _ _ _ q=>gt_int q
theorem z5m:OpR X (compareOp .GtE) (rI0 λi j=>.bl (decide (j<=i))):=z6l λ_ _ _ _ _ _ _ q=>ge_int q
theorem zqs:OpR X (compareOp .NotIn) (λx y H Q=>∃i j,x=.str i/\y=.str j/\Q (.bl (!(!(Builtin.Str.occurrences j i 0 j.length 1).isEmpty))) H):=by intro pins s σ H x y v u Q I rx ry h;obtain⟨i,j,rfl,rfl,q⟩:=h;obtain⟨t,rfl⟩:=rx;obtain⟨t',rfl⟩:=ry;exact notIn_str (zcc I q rfl)
theorem zax (b:Expr) (h:op≠.In:=by decide) (h2:op≠.NotIn:=by decide):behindInMarks op b=false:=by
 have e1:(op==CmpOp.In)=false:=by cases op <;> first|rfl|exact absurd rfl h
 have e2:(op==CmpOp.NotIn)=false:=by cases op <;> first|rfl|exact absurd rfl h2
 cases b <;> simp [behindInMarks,e1,e2]
theorem zf7 {r:R2} (ho:OpR X (compareOp op) r) (ha:PE X a ta) (hb:PE X b tb) (hm:behindInMarks op b=false):PE X (.Compare a [op] [b] pos) (tOp r ta tb):=by intro pins s σ H Q I h;exact wpAny_Compare1 (z69 ha hb I h λv u s2 x y H2 I2 rx ry q=>ho pins s2 σ H2 x y v u Q I2 rx ry q) hm
def z4e (t:TE):TT:=λσ H Q=>t σ H λx H'=>∃k,x=.bl k/\Q k H'
theorem zkb {op:CmpOp} {r:R2} (ho:OpR X (compareOp op) r) (ha:PE X a ta) (hb:PE X b tb) (hm:behindInMarks op b=false):PT X (.Compare a [op] [b] pos) (z4e (tOp r ta tb)):=by
 intro pins s σ H Q I h;refine qdy (thn (ha pins s σ H _ I h) λv s1 ⟨x,H1,I1,r1,q1⟩=>thn (hb pins s1 σ H1 _ I1 q1) λu s2 ⟨y,H2,I2,r2,q2⟩ =>
   thn (ho pins s2 σ H2 x y v u _ I2 r1 r2 q2) λc s3 ⟨z,H3,I3,r3,k,e,q3⟩=>?_) hm
 subst e;cases r3;exact qb6 ⟨H3,I3,q3⟩
def z35 (r r':R2) (ta tb tc:TE):TE:=λσ H Q=>ta σ H λx H1=>tb σ H1 λy H2=>r x y H2 λz H3=>∃k,z=.bl k /\
 (if k=true then tc σ H3 λw' H4=>r' y w' H4 Q else Q (.bl false) H3)
theorem zlq {op':CmpOp}{r r':R2} (ho:OpR X (compareOp op) r) (ho':OpR X (compareOp op') r') (ha:PE X a ta) (hb:PE X b tb) (hc:PE X c tc)
   (hm:lastMarks [op,op'] [b,c]=false:=by with_unfolding_all rfl):PT X (.Compare a [op,op'] [b,c] pos) (z4e (z35 r r' ta tb tc)):=by
 intro pins s σ H Q I h;refine isTrue_chain (thn (ha pins s σ H _ I h) λv s1 ⟨x,H1,I1,r1,q1⟩=>test_link (thn (hb pins s1 σ H1 _ I1 q1) λu s2 ⟨y,H2,I2,r2,q2⟩ =>
   thn (ho pins s2 σ H2 x y v u _ I2 r1 r2 q2) λd s3 ⟨z,H3,I3,r3,k,e,q3⟩=>?_)) hm
 subst e;cases r3;refine qb6 ?_;cases k with
 | false =>
   obtain⟨k',e',q'⟩:=q3;cases e';exact ite_ff ⟨H3,I3,q'⟩
 | true =>
   refine ite_tt (test_last (thn (hc pins s3 σ H3 _ I3 q3) λw' s4 ⟨z',H4,I4,r4,q4⟩=>thn (ho' pins s4 σ H4 y z' u w' _ I4 r2 r4 q4) λd' s5 ⟨z2,H5,I5,r5,k2,e2,q5⟩=>?_));subst e2;cases r5;exact qb6 ⟨H5,I5,q5⟩
def z6q (K:W.Frag) (x:V) (H:Hp) (k:Bool):Prop :=
 match x with
 | .non=>k=false
 | .bl b=>k=b
 | .int i=>k=(i != 0)
 | .str y=>y.length<=sizeLine/\k=((y.length:Int) != 0)
 | .byt y=>y.size<=sizeLine/\k=((y.size:Int) != 0)
 | .ref p=>(∃xs,SqL K H p xs/\k=!xs.isEmpty)\/(∃xs,SqT K H p xs/\k=!xs.isEmpty)\/∃kvs,H p=some (.dK kvs)/\k=!kvs.isEmpty
 | _=>False
theorem zu9 {κ:Type} {kvs:List (κ×V)} {vs:List (κ×Value)} (r:KV kvs vs):(!vs.isEmpty)=!kvs.isEmpty:=by cases r <;> rfl
theorem znt {xs:List V} {its:List Value} (r:zcp xs its):(!its.toArray.isEmpty)=!xs.isEmpty:=by cases r <;> simp
theorem zl6:(sizeLine:Nat)<2 ^ 63:=by rw[sizeLine_eq]; decide
theorem z5f:TruR X (λx H Q=>∃k,z6q X.K x H k/\Q k H):=by
 intro pins s σ H x v Q I rx h;obtain⟨k,e,q⟩:=h;have hl:=zl6;have hs:sizeLine=16777216:=sizeLine_eq;cases x with
 | non =>
   cases rx;have e':k=false:=e;subst e';exact truthy_none ⟨H,I,q⟩
 | bl b =>
   cases rx;have e':k=b:=e;subst e';exact qb6 ⟨H,I,q⟩
 | int i =>
   obtain⟨t,rfl⟩:=rx;have e':k=(i != 0):=e;subst e';exact PySem.P.truthy_int ⟨H,I,q⟩
 | str y =>
   obtain⟨t,rfl⟩:=rx;obtain⟨hy,e'⟩:y.length<=sizeLine/\k=((y.length:Int) != 0):=e;subst e';exact PySem.P.truthy_str (by omega) ⟨H,I.tok _,q⟩
 | byt y =>
   obtain⟨t,rfl⟩:=rx;obtain⟨hy,e'⟩:y.size<=sizeLine/\k=((y.size:Int) != 0):=e;subst e';exact PySem.W.truthy_bytes (by omega) ⟨H,I.tok _,q⟩
 | ref p =>
   cases rx;have e':(∃xs,SqL X.K H p xs/\k=!xs.isEmpty)\/(∃xs,SqT X.K H p xs/\k=!xs.isEmpty)\/∃kvs,H p=some (.dK kvs)/\k=!kvs.isEmpty:=e;rcases e' with⟨xs,hx,e'⟩|⟨xs,hx,e'⟩|⟨kvs,hx,e'⟩
   . subst e';obtain⟨its,r,pl,hz⟩:=I.list hx;have hlen:=r.length;exact wpAny_truthy_list pl.isList (by simp only[qaw]; omega) ⟨H,I.tok _,by rw[znt r]; exact q⟩
   . subst e';obtain⟨its,r,pl,hz⟩:=I.tuple hx;have hlen:=r.length;exact truthy_tuple pl (by simp only[qaw]; omega) ⟨H,I.tok _,by rw[znt r]; exact q⟩
   . subst e';obtain⟨hz,hS,vs,r,m⟩:kvs.length<=sizeLine/\(p==sysModules)=false/\∃vs,KV kvs vs/\s.heap.DictOf (zbz X.prog X.w) p vs:=I.hok p _ hx;have hlen:kvs.length=vs.length:=Paired.length r;exact wpAny_truthy_dict hS m (by omega) ⟨H,I.tok _,by rw[zu9 r]; exact q⟩
 | _=>exact(show False from e).elim
theorem zzi (ha:PE X a ta) (he:∀whole,isTrue a X.env whole=(do let v <- whole; standAt a.pos; holding [v] (truthy v))) :
   PT X a (λσ H Q=>ta σ H λx H'=>∃k,z6q X.K x H' k/\Q k H'):=by
 intro pins s σ H Q I h;exact isTrue_plain (thn (ha pins s σ H _ I h) λv s1 ⟨x,H1,I1,r1,q1⟩=>z5f pins s1 σ H1 x v Q I1 r1 q1) (he _)
theorem zbf:OpR X (binaryOp .Add) (λx y H Q=>∃i j,x=.str i/\y=.str j/\i.length+j.length<=sizeLine/\Q (.str (i++j)) H):=by intro pins s σ H x y v u Q I rx ry h;obtain⟨i,j,rfl,rfl,hz,q⟩:=h;obtain⟨t,rfl⟩:=rx;obtain⟨t',rfl⟩:=ry;exact add_str (λt' tk=>⟨.str (i++j),H,I.tok _,⟨_,rfl⟩,q⟩) hz
theorem zl2 {x:V} (r:zcp [x] us):∃u,us=[u]/\zc1 x u:=by
 cases r with
 | cons r1 r2=>cases r2; exact⟨_,rfl,r1⟩
theorem zz3 {x y:V} (r:zcp [x,y] us):∃u w',us=[u,w']/\zc1 x u/\zc1 y w':=by
 cases r with
 | cons r1 r2 =>
   cases r2 with
   | cons r3 r4=>cases r4; exact⟨_,_,rfl,r1,r3⟩
theorem zyn:zbv X (.type "int") (λxs H Q=>(∃i,xs=[.int i]/\Q (.int i) H)\/∃k,xs=[.bl k]/\Q (.int (if k then 1 else 0)) H):=by
 intro pins s σ H xs us Q I r h;rcases h with⟨i,rfl,q⟩|⟨k,rfl,q⟩
 . obtain⟨u,rfl,t,rfl⟩:=zl2 r;exact call_int_int ⟨.int i,H,I,⟨_,rfl⟩,q⟩
 . obtain⟨u,rfl,r1⟩:=zl2 r;cases r1;exact call_int_bool ⟨.int (if k then 1 else 0),H,I.tok _,⟨_,rfl⟩,q⟩
theorem zkq:zbv X (.type "str") (λxs H Q=>∃i,xs=[.int i]/\i.natAbs.log2<1920/\Q (.str (toString i)) H):=by intro pins s σ H xs us Q I r h;obtain⟨i,rfl,hz,q⟩:=h;obtain⟨u,rfl,t,rfl⟩:=zl2 r;exact PySem.P.str_of_int hz ⟨.str _,H,I.tok _,⟨_,rfl⟩,q⟩
end
structure ObjM (h:Heap) (x dx C:Addr) (mA:Str->Option Value):Prop where
 obj:h.get? x=some (PySem.W.instObj C dx)
 ns:h.Ns1 dx mA
 ne:dx≠x
theorem zwb {dx:Addr} {mA:Str->Option Value} (n:h.Ns1 dx mA):∃od,h.get? dx=some od/\∀name,PySem.W.lookIn name od=some (mA name):=by
 obtain⟨o,es,ep,ho,hd,hk,_,hm⟩:=n;refine⟨o,ho,λname=>?_⟩;have e:=hm name;unfold nsFind findBy at e;rw[<- Array.find?_toList] at e;unfold PySem.W.lookIn;rw[hd];dsimp only;split
 . rename_i y q
   rw[q] at e;exact qa0 some e
 . rename_i q
   rw[q] at e;have a:es.toList.any (·.refKey)=false:=by rw[List.any_eq_false];intro y hy;obtain⟨z,t,hkey⟩:=hk y (Array.mem_toList_iff.mp hy);simp [DictEntry.refKey,hkey]
   have a':¬ es.toList.any (·.refKey)=true:=by rw[a]; exact qas
   rw[if_neg a'];exact qa0 some e
variable {C:Addr}
theorem ObjM.look {x dx:Addr}{mA:Str->Option Value} (I:ObjM h x dx C mA):∃od,PySem.W.InstAt h x (PySem.W.instObj C dx) C (some od)/\∀name,PySem.W.lookIn name od=some (mA name) :=
 let ⟨od,ho,hl⟩:=zwb I.ns
 ⟨od,⟨I.obj,rfl,rfl,ho⟩,hl⟩
variable {pl:Sem Bool}
section
variable {prog:Program} {w:World} {A:Around} {E:Value->Shared->Prop} {s:Shared} {K:W.Frag} {x dx C f:Addr} {mA:Str->Option Value} {name:Str} {v:Value}
theorem z1y {expr:Bool} {Q:Value->Shared->Prop} (X:K.In s.heap) (I:ObjM s.heap x dx C mA) (hg:PySem.W.plainGet K C name=true) (hh:PySem.W.hasDictIn K C=true)
   (ha:PySem.W.findIn K (.ref C) name=some none) (hv:mA name=some v) (hv':PySem.W.handedIn v=true) (h:Q v { s with toks:=s.toks+1 }) :
   wpAny (model prog w) A (getAttr (.ref x) name expr) Q E s:=by
 obtain⟨od,J,hl⟩:=I.look;exact PySem.W.get_value X J (PySem.W.plainGet_of hg).1 (PySem.W.findObj_own hh ha rfl (by rw[hl,hv])) hv' h
theorem z0i {Q:Value×List Value->Shared->Prop} (X:K.In s.heap) (I:ObjM s.heap x dx C mA) (hg:PySem.W.plainGet K C name=true)
   (hf:PySem.W.findIn K (.ref C) name=some (some (.ref f))) (ht:PySem.W.isFn K (.ref f)=true) (hv:mA name=none) (h:Q (.ref f,[.ref x]) s) :
   wpAny (model prog w) A (getMethod (.ref x) name pl) Q E s:=by
 obtain⟨od,J,hl⟩:=I.look;exact PySem.W.method_fn X J (PySem.W.plainGet_of hg).1 (PySem.W.plainGet_of hg).2 hf (beq_iff_eq.mp ht) (by show(PySem.W.lookIn name od).map (·.isSome)=some false; rw[hl,hv]; rfl) h
theorem z2m {ns:List Str} {Q:Unit->Shared->Prop} (X:K.In s.heap) (I:ObjM s.heap x dx C mA)
   (hs:PySem.W.findIn K (.ref C) "__setattr__"=some (some (.builtin "object.__setattr__"))) (hp:PySem.W.plainOver K C=true) (ht:PySem.W.takerIn K C name=some none) (hh:PySem.W.hasDictIn K C=true)
   (hw:PySem.Within mA ns) (hsz:ns.length<=sizeLine)
   (h:∀h',ObjM h' x dx C (λy=>if y=name then some v else mA y)->Heap.SameBut dx s.heap h'->Q () { s with heap:=h',toks:=s.toks+2 }) :
   wpAny (model prog w) A (setAttr (.ref x) name v) Q E s:=by
 obtain⟨od,J,hl⟩:=I.look;refine PySem.W.set_plain X J hs (PySem.W.osa_open (s:={ s with toks:=s.toks+1 }) (r:=none) X J hp ht λb=>?_);obtain⟨cd,hc,hd'⟩:=PySem.W.any_some hh;have hx:s.heap.get? x=some ⟨.ref C,some dx,.plain,#[]⟩:=I.obj;refine wpAny_bind (wpAny_pure (wpAny_bind (wpAny_bind (qe8 hx (wpAny_bind (PySem.W.Looks.here (s:={ s with toks:=s.toks+1 }) (PySem.W.looks_clsIn X hc) ?_))))));rw[hd'];refine wpAny_pure (a:=some dx) (wpAny_bind (wpAny_pure (wpAny_bind ?_)));refine wpAny_nsSet1 (s:={ s with toks:=s.toks+1 }) I.ns λh' hn2 hs2=>?_;obtain⟨oD,esD,epD,hoD,hdD,hcD⟩:=hn2.count (PySem.Within.cons name v hw);refine wpAny_bind (wpAny_lookBehind hoD (by rw[hdD]; exact pastItsLine_dict (qa7 hcD (by rw[List.length_cons]; omega))) ?_);exact wpAny_pure (h _ ⟨(hs2.2 _ (Ne.symm I.ne)).trans I.obj,hn2,I.ne⟩ hs2)
theorem z0c {R:Result->Shared->Prop} {vs:List Value} {kw:List (Str×Value)} (X:K.In s.heap) (hm:PySem.W.makesIn K C=true)
   (hi:PySem.W.findIn K (.ref C) "__init__"=some (some (.ref f))) (hf:PySem.W.typeIn K (.ref f)=some (.type "function"))
   (h:codeAny (model prog w) (A.under (.builtin "type.__call__" ⟨.ref C :: vs,kw⟩)) (.call (.ref f) ⟨.ref (s.heap.objs.size+1) :: vs,kw⟩) (PySem.W.InitBack (s.heap.objs.size+1) R)
     { s with heap:=(s.heap.push PySem.W.emptyDict).push (PySem.W.instObj C s.heap.objs.size) }) :
   codeAny (model prog w) A (.call (.ref C) ⟨vs,kw⟩) R s:=by
 obtain⟨hh,g,d,t,os⟩:=s;exact PySem.W.make_core (PySem.W.makes_of X hm) (PySem.W.looks_findIn X hi) (λself=>PySem.W.bind_fn X self hf) (.inl rfl) h
end
def ziw (f:Str) (v:V):List (Str×V)->List (Str×V)
 | []=>[(f,v)]
 | (g,x) :: r=>if g=f then(g,v) :: r else(g,x) :: ziw f v r
theorem za0 (f g:Str) (v:V):∀fs:List (Str×V),(ziw f v fs).lookup g=if g=f then some v else fs.lookup g
 | []=>by
   show List.lookup g [(f,v)]=_;by_cases h:g=f
   . have hb:(g==f)=true:=beq_iff_eq.mpr h;simp only[List.lookup,hb,if_pos h]
   . have hb:(g==f)=false:=beq_eq_false_iff_ne.mpr h;simp only[List.lookup,hb,if_neg h]
 | (k,x) :: r=>by
   have ih:=za0 f g v r;rw[show ziw f v ((k,x) :: r)=(if k=f then(k,v) :: r else(k,x) :: ziw f v r) from rfl];by_cases hk:k=f
   . rw[if_pos hk];by_cases h:g=k
     . have hb:(g==k)=true:=beq_iff_eq.mpr h;simp only[List.lookup,hb,if_pos (h.trans hk)]
     . have hb:(g==k)=false:=beq_eq_false_iff_ne.mpr h;simp only[List.lookup,hb,if_neg (λe:g=f=>h (e.trans hk.symm))]
   . rw[if_neg hk];by_cases h:g=k
     . have hb:(g==k)=true:=beq_iff_eq.mpr h;simp only[List.lookup,hb,if_neg (λe:g=f=>hk (h.symm.trans e))]
     . have hb:(g==k)=false:=beq_eq_false_iff_ne.mpr h;simp only[List.lookup,hb];exact ih
theorem zmr (f:Str) (v:V):∀fs:List (Str×V),f∈(ziw f v fs).map (·.1)/\∀g,g∈fs.map (·.1)->g∈(ziw f v fs).map (·.1)
 | []=>⟨by simp [ziw],λg h=>by simp at h⟩
 | (k,x) :: r=>by
   obtain⟨i1,i2⟩:=zmr f v r;rw[show ziw f v ((k,x) :: r)=(if k=f then(k,v) :: r else(k,x) :: ziw f v r) from rfl];by_cases hk:k=f
   . rw[if_pos hk];subst hk;exact⟨by simp,λg h=>by simpa using h⟩
   . rw[if_neg hk];refine⟨?_,λg h=>?_⟩
     . rw[qbl];exact qba _ i1
     . rw[qbl] at h ⊢;rcases qay.mp h with e|e
       . exact qay.mpr (.inl e)
       . exact qba _ (i2 g e)
theorem ziq (f:Str) (v:V):∀fs:List (Str×V),(ziw f v fs).length<=fs.length+1
 | []=>by simp [ziw]
 | (k,x) :: r=>by
   have ih:=ziq f v r;rw[show ziw f v ((k,x) :: r)=(if k=f then(k,v) :: r else(k,x) :: ziw f v r) from rfl];by_cases hk:k=f
   . rw[if_pos hk,List.length_cons,List.length_cons]; omega
   . rw[if_neg hk,List.length_cons,List.length_cons]; omega
theorem zq8.some_of {o:Option Value} (r:zq8 (some v) o):∃u,o=some u/\zc1 v u:=by
 cases o with
 | none=>exact(show False from r).elim
 | some u=>exact⟨u,rfl,r⟩
theorem zq8.none_of {o:Option Value} (r:zq8 none o):o=none:=by
 cases o with
 | none=>rfl
 | some u=>exact(show False from r).elim
theorem zx5 (r:zc1 v u):PySem.W.handedIn u=true:=by
 cases v with
 | non=>cases (show u=Value.none from r); rfl
 | bl b=>cases (show u=Value.bool b from r); rfl
 | int i=>obtain⟨t,e⟩:=(show ∃t,u=Value.int i t from r); cases e; rfl
 | str x=>obtain⟨t,e⟩:=(show ∃t,u=Value.str x t from r); cases e; rfl
 | byt b=>obtain⟨t,e⟩:=(show ∃t,u=Value.bytes b t from r); cases e; rfl
 | flt b=>obtain⟨t,e⟩:=(show ∃t,u=Value.float b t from r); cases e; rfl
 | ref a=>cases (show u=Value.ref a from r); rfl
 | ty n=>cases (show u=Value.type n from r); rfl
section
variable {P:Program} {w:World} {H H':Hp} {h h':Heap} {a C dx:Addr} {fs fs':List (Str×V)}
theorem zor (hok:HOk P w H h) (e:H a=some (.ins C dx fs)):∃mA,ObjM h a dx C mA/\(∀f,zq8 (fs.lookup f) (mA f))/\PySem.Within mA (fs.map (·.1))/\fs.length<=1000/\H dx=some (.own a):=by
 obtain⟨d,z,ne,ob,mA,n,r,q⟩:=(show zdk P w H h a (.ins C dx fs) from hok a _ e)
 exact⟨mA,⟨ob,n,ne⟩,r,q,z,d⟩
end
structure Cls (K:W.Frag) (C:Addr):Prop where
 pg:PySem.W.plainGet K C Str.empty=true
 hd:PySem.W.hasDictIn K C=true
 po:PySem.W.plainOver K C=true
 sa:PySem.W.findIn K (.ref C) "__setattr__"=some (some (.builtin "object.__setattr__"))
theorem Cls.get {K:W.Frag} {C:Addr} (c:Cls K C) (f:Str):PySem.W.plainGet K C f=true:=c.pg
def zej (K:W.Frag) (C:Addr) (f:Str):Prop:=PySem.W.findIn K (.ref C) f=some none
theorem zej.taker {f:Str} (n:zej K C f):PySem.W.takerIn K C f=some none:=by unfold PySem.W.takerIn;rw[show PySem.W.findIn K (.ref C) f=some none from n];rfl
structure Meth (K:W.Frag) (C:Addr) (m:Str) (f:Addr):Prop where
 at_:PySem.W.findIn K (.ref C) m=some (some (.ref f))
 fn:PySem.W.isFn K (.ref f)=true
 kp:PySem.W.keepIn K (.ref f)=true
section
variable {X:Cx} {pins:List (Addr×Obj)} {σ:St} {H:Hp} {s:Shared} {a C dx:Addr} {fs:List (Str×V)} {f:Str} {v:V} {A:Around} {E:Value->Shared->Prop}
theorem znl {b:Bool} {Q:Value->Shared->Prop} (I:Inv X pins σ H s) (e:H a=some (.ins C dx fs)) (c:Cls X.K C) (n:zej X.K C f) (l:fs.lookup f=some v)
   (h:∀u s',Inv X pins σ H s'->zc1 v u->Q u s'):wpAny (model X.prog X.w) A (getAttr (.ref a) f b) Q E s:=by
 obtain⟨mA,O,r,_,_,_⟩:=zor I.hok e;obtain⟨u,hu,ru⟩:=zq8.some_of (v:=v) (o:=mA f) (by rw[<- l]; exact r f);exact z1y I.kIn O (c.get f) c.hd n hu (zx5 ru) (h u _ (I.tok _) ru)
theorem znf {m:Str} {g:Addr} {Q:Value×List Value->Shared->Prop} (I:Inv X pins σ H s) (e:H a=some (.ins C dx fs)) (c:Cls X.K C) (k:Meth X.K C m g) (l:fs.lookup m=none)
   (h:Q (.ref g,[.ref a]) s):wpAny (model X.prog X.w) A (getMethod (.ref a) m pl) Q E s:=by
 obtain⟨mA,O,r,_,_,_⟩:=zor I.hok e;have hn:mA m=none:=zq8.none_of (by rw[<- l]; exact r m);exact z0i I.kIn O (c.get m) k.at_ k.fn hn h
theorem zno {y:V} {Q:Unit->Shared->Prop} (I:Inv X pins σ H s) (e:H a=some (.ins C dx fs)) (c:Cls X.K C) (n:zej X.K C f) (hl:fs.length<1000) (ry:zc1 y u)
   (h:∀s',Inv X pins σ (upd H a (.ins C dx (ziw f y fs))) s'->Q () s'):wpAny (model X.prog X.w) A (setAttr (.ref a) f u) Q E s:=by
 obtain⟨mA,O,r,wi,_,ho⟩:=zor I.hok e;have hz:(fs.map (·.1)).length<=sizeLine:=by rw[List.length_map,sizeLine_eq]; omega
 refine z2m I.kIn O c.sa c.po n.taker c.hd wi hz λh' O' sb=>h _ ?_;have hd:∃o,h'.get? dx=some o:=let ⟨o,_,_,e',_⟩:=O'.ns; ⟨o,e'⟩
 refine I.write (x:=a) (e:=dx) (by rw[e]; exact True.intro) (.inr ho) (λb q hb z=>(sb.2 b hb).trans z) hd ?_;refine⟨by rw[zal O.ne]; exact ho,?_,O.ne,O'.obj,_,O'.ns,λg=>?_,λg hg=>?_⟩
 . have:=ziq f y fs; omega
 . show zq8 ((ziw f y fs).lookup g) (if g=f then some u else mA g);rw[za0];by_cases q:g=f
   . rw[if_pos q,if_pos q]; exact ry
   . rw[if_neg q,if_neg q]; exact r g
 . by_cases q:g=f
   . rw[q]; exact(zmr f y fs).1
   . refine(zmr f y fs).2 g (wi g λz=>hg ?_);show(if g=f then some u else mA g)=none;rw[if_neg q]; exact z
theorem Inv.made (I:Inv X pins σ H s):Inv X pins σ (upd (upd H s.heap.objs.size (.own (s.heap.objs.size+1))) (s.heap.objs.size+1) (.ins C s.heap.objs.size []))
   { s with heap:=(s.heap.push PySem.W.emptyDict).push (PySem.W.instObj C s.heap.objs.size) }:=by
 have e1:(s.heap.push PySem.W.emptyDict).get? s.heap.objs.size=some PySem.W.emptyDict:=qat s.heap rfl;have e2:((s.heap.push PySem.W.emptyDict).push (PySem.W.instObj C s.heap.objs.size)).get? (s.heap.objs.size+1)=some (PySem.W.instObj C s.heap.objs.size):=by have:=qat (s.heap.push PySem.W.emptyDict) (o:=PySem.W.instObj C s.heap.objs.size) rfl;rwa [qb4] at this
 have e3:(s.heap.push PySem.W.emptyDict).Ns s.heap.objs.size (λ_=>none):=⟨PySem.W.emptyDict,#[],_,e1,rfl,(λe he=>absurd he (by simp)),λ_=>rfl⟩
 have I1:=I.laid (a:=s.heap.objs.size) (o:=.own (s.heap.objs.size+1)) (h':=s.heap.push PySem.W.emptyDict) (t':=s.toks) (λb u q=>Heap.get?_push_of_some _ q) (qaj _) ⟨_,e1⟩;refine I1.laid (a:=s.heap.objs.size+1) (o:=.ins C s.heap.objs.size []) (t':=s.toks) (λb u q=>Heap.get?_push_of_some _ q) (Nat.le_of_eq (qb4 _ _)) ?_;have ne:s.heap.objs.size≠s.heap.objs.size+1:=qa6 (qcc _);refine⟨by rw[zal ne,zab],qaz _,ne,e2,λ_=>none,(Heap.Ns1.of_empty e3).at λo q=>Heap.get?_push_of_some _ q,λ_=>True.intro,λy hy=>absurd rfl hy⟩
theorem z3h {prog:Program} {env:Env} {f:Str} {Q:Value->Shared->Prop} (hb:attributeBase e f env (eval e env)=eval e env)
   (h:wpAny (model prog w) A (eval e env) (λo s₁=>wpAny (model prog w) A (getAttr o f true) Q E s₁) E s):wpAny (model prog w) A (eval (.Attribute e f pos) env) Q E s :=
 Attribute_any_ h (by rw[arm_eval_Attribute,hb])
end
def tFld (K:W.Frag) (ta:TE) (f:Str):TE:=λσ H Q=>ta σ H λx H1=>∃a C dx fs v,x=.ref a/\H1 a=some (.ins C dx fs)/\Cls K C/\zej K C f/\fs.lookup f=some v/\Q v H1
def sFld (K:W.Frag) (ta tv:TE) (f:Str):TS:=λD σ H=>tv σ H λy H1=>ta σ H1 λx H2=>∃a C dx fs,x=.ref a/\H2 a=some (.ins C dx fs)/\Cls K C/\zej K C f/\fs.length<1000 /\
 D.nx σ (upd H2 a (.ins C dx (ziw f y fs)))
def InOp (X:Cx) (op:Operator) (rd:V->V->Hp->VK->Prop):Prop :=
 ∀(pins:List (Addr×Obj)) (s:Shared) (σ:St) (H:Hp) (x y:V) (u v:Value) (Q:VK),Inv X pins σ H s->zc1 x u->zc1 y v->rd x y H Q->wpAny (model X.prog X.w) X.A (inplaceOp op u v) (EP X pins σ Q) X.xe s
def z23 (K:W.Frag) (ta tv:TE) (rd:V->V->Hp->VK->Prop) (f:Str):TS:=λD σ H=>ta σ H λx H1=>∃a C dx fs v,x=.ref a/\H1 a=some (.ins C dx fs)/\Cls K C/\zej K C f/\fs.lookup f=some v /\
 tv σ H1 λy H2=>rd v y H2 λz H3=>∃dx' fs',H3 a=some (.ins C dx' fs')/\fs'.length<1000/\D.nx σ (upd H3 a (.ins C dx' (ziw f z fs')))
section
variable {X:Cx} {o e value:Expr} {f:Str} {pos pos' tpos:Pos} {ta tv:TE}
theorem zd7 (he:PE X e ta) (hb:attributeBase e f X.env (eval e X.env)=eval e X.env):PE X (.Attribute e f pos) (tFld X.K ta f):=by intro pins s σ H Q I h;refine z3h hb (thn (he pins s σ H _ I h) λu s1 ⟨x,H1,I1,rx,a,C,dx,fs,v,ex,ea,c,n,l,q⟩=>?_);subst ex;obtain rfl:u=Value.ref a:=rx;exact znl I1 ea c n l λu' s2 I2 ru=>⟨v,H1,I2,ru,q⟩
theorem zhq (ha:PE X o ta) (hv:PE X value tv) (hs:swapsWith value (some (.Attribute o f pos')) pos.line X.env=pure false):PS X (.Assign [.Attribute o f pos'] value pos) (sFld X.K ta tv f):=by intro pins s σ H D I h;refine plainObj_wpAny_Assign_Attribute (thn (hv pins s σ H _ I h) λu s1 ⟨y,H1,I1,ry,q⟩=>thn (ha pins s1 σ H1 _ I1 q) λov s2 ⟨x,H2,I2,rx,a,C,dx,fs,ex,ea,c,n,l,q2⟩=>?_) hs;subst ex;obtain rfl:ov=Value.ref a:=rx;exact zno I2 ea c n l ry λs3 I3=>⟨σ,_,I3,q2⟩
theorem zwg {op:Operator} {rd:V->V->Hp->VK->Prop} (ha:PE X o ta) (hv:PE X value tv) (hop:InOp X op rd):PS X (.AugAssign (.Attribute o f tpos) op value pos) (z23 X.K ta tv rd f):=by intro pins s σ H D I h;refine wpAny_AugAssign_AttributeAny (thn (ha pins s σ H _ I h) λov s1 ⟨x,H1,I1,rx,a,C,dx,fs,v,ex,ea,c,n,l,q⟩=>?_);subst ex;obtain rfl:ov=Value.ref a:=rx;refine znl I1 ea c n l λu s2 I2 ru=>thn (hv pins s2 σ H1 _ I2 q) λw3 s3 ⟨y,H2,I3,ry,q3⟩=>thn (hop pins s3 σ H2 v y u w3 _ I3 ru ry q3) λw4 s4 ⟨z,H3,I4,rz,dx',fs',ea',l',q4⟩=>?_;exact zno I4 ea' c n l' rz λs5 I5=>⟨σ,_,I5,q4⟩
end
section
variable {X:Cx} {pins:List (Addr×Obj)} {σ:St} {H:Hp} {s:Shared} {A:Around} {E:Value->Shared->Prop} {Q:Value->Shared->Prop} {c:Value} {b:Bool}
inductive TyOf (K:W.Frag) (H:Hp):V->Value->Prop where
 | non:TyOf K H .non (.type "NoneType")
 | bl (x:Bool):TyOf K H (.bl x) (.type "bool")
 | int (i:Int):TyOf K H (.int i) (.type "int")
 | str (x:Str):TyOf K H (.str x) (.type "str")
 | flt (x:UInt64):TyOf K H (.flt x) (.type "float")
 | lst {a:Addr} {xs:List V} (e:H a=some (.lst xs)):TyOf K H (.ref a) (.type "list")
 | frz {a:Addr} {o:Obj} {xs:List V} (e:H a=some (.frz o (.lst xs))):TyOf K H (.ref a) (.type "list")
 | tup {a:Addr} {xs:List V} (e:H a=some (.tup xs)):TyOf K H (.ref a) (.type "tuple")
 | dK {a:Addr} {kvs:List (Key×V)} (e:H a=some (.dK kvs)):TyOf K H (.ref a) (.type "dict")
 | dT {a:Addr} {kvs:List (List Key×V)} (e:H a=some (.dT kvs)):TyOf K H (.ref a) (.type "dict")
 | ins {a C dx:Addr} {fs:List (Str×V)} (e:H a=some (.ins C dx fs)) (cl:Cls K C) (ha:PySem.W.findIn K (.ref C) "__class__"=some (some (.builtin "object.__class__")))
     (hn:PySem.W.specialIn K (.builtin "object.__class__") "__get__"=some (some (.builtin "getset_descriptor.__get__"))) (htk:PySem.W.takesIn K (.builtin "object.__class__")=some true)
     (hm:PySem.W.mroIn K C (.type "object")=some true):TyOf K H (.ref a) (.ref C)
theorem zph {x:V} {t:Value}(I:Inv X pins σ H s) (rx:zc1 x u) (ty:TyOf X.K H x t) (e:PySem.W.kitOne X.K t c=some b) (h:∀tk,Q (.bool b) { s with toks:=tk }) :
   wpAny (model X.prog X.w) A (call (.builtin "isinstance") [u,c]) Q E s:=by
 cases ty with
 | non=>cases (show u=Value.none from rx); exact PySem.W.kia_one PySem.W.kitx_none I.kIn True.intro e (λz=>nomatch z) h
 | bl y=>cases (show u=Value.bool y from rx); exact PySem.W.kia_one PySem.W.kitx_bool I.kIn True.intro e (λz=>nomatch z) h
 | int i=>obtain⟨t,q⟩:=(show ∃t,u=Value.int i t from rx); cases q; exact PySem.W.kia_one PySem.W.kitx_int I.kIn True.intro e (λz=>nomatch z) h
 | str y=>obtain⟨t,q⟩:=(show ∃t,u=Value.str y t from rx); cases q; exact PySem.W.kia_one PySem.W.kitx_str I.kIn True.intro e (λz=>nomatch z) h
 | flt y=>obtain⟨t,q⟩:=(show ∃t,u=Value.float y t from rx); cases q; exact PySem.W.kia_one PySem.W.kitx_float I.kIn True.intro e (λz=>nomatch z) h
 | @lst a xs ea =>
   cases (show u=Value.ref a from rx);obtain⟨_,_,n,_,h1⟩:=(show zdk X.prog X.w H s.heap a (.lst xs) from I.hok a _ ea)
   exact PySem.W.kia_one PySem.W.kitx_list I.kIn ⟨_,h1,rfl⟩ e (λz=>nomatch z) h
 | @frz a ob xs ea =>
   cases (show u=Value.ref a from rx);obtain⟨_,_,_,n,_,h1⟩:=(show zdk X.prog X.w H s.heap a (.frz ob (.lst xs)) from I.hok a _ ea)
   exact PySem.W.kia_one PySem.W.kitx_list I.kIn ⟨_,h1,rfl⟩ e (λz=>nomatch z) h
 | @tup a xs ea =>
   cases (show u=Value.ref a from rx);obtain⟨_,_,_,p⟩:=(show zdk X.prog X.w H s.heap a (.tup xs) from I.hok a _ ea)
   obtain⟨o,h1,h2,_⟩:=p;exact PySem.W.kia_one PySem.W.kitx_tuple I.kIn ⟨o,h1,h2⟩ e (λz=>nomatch z) h
 | @dK a kvs ea =>
   cases (show u=Value.ref a from rx);obtain⟨_,_,vs,_,p⟩:=(show zdk X.prog X.w H s.heap a (.dK kvs) from I.hok a _ ea)
   obtain⟨o,es,ep,h1,h2,_⟩:=p;exact PySem.W.kia_one PySem.W.kitx_dict I.kIn ⟨o,h1,h2.1⟩ e (λz=>nomatch z) h
 | @dT a kvs ea =>
   cases (show u=Value.ref a from rx);obtain⟨_,_,xs,_,o,es,ep,h1,h2,_⟩:=(show zdk X.prog X.w H s.heap a (.dT kvs) from I.hok a _ ea)
   exact PySem.W.kia_one PySem.W.kitx_dict I.kIn ⟨o,h1,h2.1⟩ e (λz=>nomatch z) h
 | @ins a C dx fs ea cl ha hn htk hm =>
   cases (show u=Value.ref a from rx);obtain⟨mA,O,_⟩:=zor I.hok ea;obtain⟨od,J,_⟩:=O.look;exact PySem.W.kia_one (PySem.W.kitx_own (cl.get _) cl.hd ha hn htk hm) I.kIn J e (λz=>nomatch z) h
end
structure Room (k:Nat) (A:Around):Prop where
 hd:A.handled=none
 dp:A.depth+3 * k+5<recursionLimit
 un:A.units+16 * k+200<cLine
theorem Room.mono {j k:Nat} (r:Room k A) (h:j<=k):Room j A:=⟨r.hd,by have:=r.dp; omega,by have:=r.un; omega⟩
theorem Room.deeper {k:Nat} (r:Room (k+1) A) (env:Env):Room k (A.deeper env) :=
 ⟨r.hd,by have:=r.dp; show A.depth+1+3 * k+5<_; omega,by have:=r.un; show A.units+3+16 * k+200<_; omega⟩
theorem zul {kw:List (Str×Value)}:(A.under (.builtin "type.__call__" ⟨.ref C :: us,kw⟩)).depth=A.depth+1:=by
 first|rfl|simp [Around.under,Code.weight,Code.isCreation,Code.isGuard,Code.isCaller,Code.frames,Code.isFrame,guardIds]
theorem zu1 {kw:List (Str×Value)}:(A.under (.builtin "type.__call__" ⟨.ref C :: us,kw⟩)).units=A.units+1:=by
 first|rfl|simp [Around.under,Code.cUnits,Code.frames,Code.isFrame]
theorem Room.make {k:Nat} (r:Room (k+1) A) (C:Addr) (us:List Value) (kw:List (Str×Value)):Room k (A.under (.builtin "type.__call__" ⟨.ref C :: us,kw⟩)) :=
 ⟨r.hd,by have:=r.dp; rw[zul]; omega,by have:=r.un; rw[zu1]; omega⟩
theorem Room.depth {k:Nat} (r:Room k A):A.depth<recursionLimit:=by have:=r.dp; omega
theorem Room.units {k:Nat} (r:Room k A):A.units+64<cLine:=by have:=r.un; omega
def z6k:TA:=λ_ H Q=>Q [] H
def zxg (ta:TE) (tr:TA):TA:=λσ H Q=>ta σ H λx H1=>tr σ H1 λxs H2=>Q (x :: xs) H2
section
variable {X:Cx} {e:Expr} {es:List Expr} {te:TE} {t:TA} {pos:Pos}
theorem zac:PA X [] z6k:=λ_ _ _ _ H Q I h=>Calls.spliced_nil ⟨[],H,I,.nil,h⟩
theorem zaa (ha:PE X e te) (hr:PA X es t) (hs:starEach (e :: es) X.env=(false,eval e X.env) :: starEach es X.env:=by rfl):PA X (e :: es) (zxg te t):=by intro pos pins s σ H Q I h;rw[hs];show wpAny _ _ (spliced ((false,eval e X.env) :: backTo pos (starEach es X.env))) _ _ s;refine Calls.spliced_cons (thn (ha pins s σ H _ I h) λu s1 ⟨x,H1,I1,r1,q1⟩=>?_);exact thn (hr pos pins s1 σ H1 _ I1 q1) λus s2 ⟨xs,H2,I2,r2,q2⟩=>⟨x :: xs,H2,I2,.cons r1 r2,q2⟩
def tTup (t:TA):TE:=λσ H Q=>t σ H λxs H1=>xs.length<=sizeLine/\∀p,H1 p=none->Q (.ref p) (upd H1 p (.tup xs))
def tLst (t:TA):TE:=λσ H Q=>t σ H λxs H1=>xs.length<=sizeLine/\∀p,H1 p=none->Q (.ref p) (upd H1 p (.lst xs))
theorem zby {x1} (h:PA X es t):PE X (.Tuple es x1 pos) (tTup t):=by intro pins s σ H Q I hq;refine wpAny_Tuple_spliced (thn (h pos pins s σ H _ I hq) λus s1 ⟨xs,H1,I1,r,z,q⟩=>⟨by rw[<- r.length]; exact z,?_⟩);have hf:H1 s1.heap.objs.size=none:=I1.hok.fresh (qaj _);refine⟨.ref s1.heap.objs.size,upd H1 s1.heap.objs.size (.tup xs),I1.laid (t':=s1.toks) (λb u e=>Heap.get?_push_of_some _ e) (qaj _) ?_,rfl,q _ hf⟩;exact⟨z,us,r,⟨_,qat _ rfl,rfl,_,rfl⟩⟩
theorem zb9 (h:PA X es t):PE X (.List es pos) (tLst t):=by intro pins s σ H Q I hq;refine wpAny_List_spliced (thn (h pos pins s σ H _ I hq) λus s1 ⟨xs,H1,I1,r,z,q⟩=>⟨by rw[<- r.length]; exact z,?_⟩);have hf:H1 s1.heap.objs.size=none:=I1.hok.fresh (qaj _);refine⟨.ref s1.heap.objs.size,upd H1 s1.heap.objs.size (.lst xs),I1.laid (t':=s1.toks) (λb u e=>Heap.get?_push_of_some _ e) (qaj _) ?_,rfl,q _ hf⟩;exact⟨z,us,0,r,qat _ rfl⟩
end
abbrev Sp:=List V->Hp->VK->XK->Prop
abbrev CXT:=List Env->Hp->Shared->XK->Value->Shared->Prop
structure Env0 (P:Program) (w:World) (K:W.Frag) (mg:Str->Option Value) (base:Heap) (A:Around) (outer:List Env) (s:Shared) (H:Hp):Prop where
 frames:A.frames=some outer
 mod:Mod K mg base
 bs:∀b o,base.get? b=some o->s.heap.get? b=some o/\H b=none
 bsz:base.objs.size<=s.heap.objs.size
 funs:s.heap.FunFrames base outer
 frf:∀b∈frs outer,H b=none
 hok:HOk P w H s.heap
 bare:AllBare s.gens
def CE (outer:List Env) (P:Program) (w:World) (H:Hp) (s:Shared) (Q:VK) (u:Value) (s':Shared):Prop :=
 ∃v H',s'.os=s.os/\AllBare s'.gens/\Un (frs outer) [] H H' s.heap s'.heap/\HOk P w H' s'.heap/\zc1 v u/\Q v H'
def CR (CX:CXT) (outer:List Env) (P:Program) (w:World) (H:Hp) (s:Shared) (Q:VK) (E:XK) (r:Result) (s':Shared):Prop :=
 match r with
 | .ok (.ret u)=>CE outer P w H s Q u s'
 | .ok _=>False
 | .error e=>CX outer H s E e s'
structure FnOk (P:Program) (w:World) (K:W.Frag) (mg:Str->Option Value) (base:Heap) (CX:CXT) (k:Nat) (f:Addr) (fd:FuncData) (ps:List Str) (sp:Sp):Prop where
 len:∀vs H Q E,sp vs H Q E->vs.length=ps.length
 run:∀(A:Around) (outer:List Env) (s:Shared) (H:Hp) (args:Args) (us:List Value) (vs:List V) (Q:VK) (E:XK),Room k A->Env0 P w K mg base A outer s H->BindsTo s fd args (ps.zip us)->zcp vs us->sp vs H Q E ->
   codeAny (model P w) A (.call (.ref f) args) (CR CX outer P w H s Q E) s
variable {base:Heap}
theorem Env0.make {mg:Str->Option Value} {outer:List Env} (e:Env0 P w K mg base A outer s H) (C:Addr) (us:List Value) (kw:List (Str×Value)) :
   Env0 P w K mg base (A.under (.builtin "type.__call__" ⟨.ref C :: us,kw⟩)) outer s H:=⟨by first|exact e.frames|(simpa [Around.under,Code.envs,Code.isFrame,pushEnvs] using e.frames),e.mod,e.bs,e.bsz,e.funs,e.frf,e.hok,e.bare⟩
section
variable {X:Cx} {pins:List (Addr×Obj)} {σ:St} {H:Hp} {s s':Shared}
theorem Inv.env0 (I:Inv X pins σ H s):Env0 X.prog X.w X.K X.mg X.base X.A X.stack s H :=
 ⟨I.ok.frames,I.ok.mod,I.bs,qa7 I.ok.bsz I.sz,I.stack,I.stkFree,I.hok,I.bare⟩
theorem Inv.after {Q:VK} (I:Inv X pins σ H s) (h:CE X.stack X.prog X.w H s Q u s'):EP X pins σ Q u s':=by obtain⟨v,H',os,bare,un,hok,r,q⟩:=h;obtain⟨hh,g,d,t,os'⟩:=s';obtain rfl:os'=s.os:=os;exact⟨v,H',I.call (h':=hh) (g':=g) (d':=d) (t':=t) (ch:=[]) un hok bare (λb z=>absurd z (by simp)),r,q⟩
end
def zw4 (sp:Sp) (dvs:List V) (E:XK) (t:TA):TE:=λσ H Q=>t σ H λvs H1=>sp (vs++dvs) H1 Q E
def z39 (C:Addr) (m:Str) (sp:Sp) (dvs:List V) (E:XK) (ta:TE) (t:TA):TE:=λσ H Q=>ta σ H λx H1=>∃a dx fs,x=.ref a/\H1 a=some (.ins C dx fs)/\fs.lookup m=none /\
 t σ H1 λvs H2=>sp (x :: (vs++dvs)) H2 Q E
def z2i (C:Addr) (sp:Sp) (dvs:List V) (E:XK) (t:TA):TE:=λσ H Q=>t σ H λvs H1=>∀x dx,H1 x=none->H1 dx=none->dx≠x ->
 sp (.ref x :: (vs++dvs)) (upd (upd H1 dx (.own x)) x (.ins C dx [])) (λv H2=>v=.non/\Q (.ref x) H2) E
def zk9 (K:W.Frag) (fd:FuncData) (ps:List Str) (ds:List Value):Prop :=
 ∀(s:Shared) (us:List Value),K.In s.heap->(us++ds).length=ps.length->BindsTo s fd ⟨us,[]⟩ (ps.zip (us++ds))
theorem zk9.all {fd:FuncData} {ps:List Str} (h:∀us:List Value,us.length=ps.length->bindArgs fd ⟨us,[]⟩=pure (ps.zip us)):zk9 K fd ps []:=λs us _ hl=>by rw[qbf] at hl ⊢;exact .of_eq (h us hl)
def zg9 (CX:CXT) (X:Cx) (E:XK):Prop:=∀(pins:List (Addr×Obj)) (σ:St) (H:Hp) (s:Shared) (e:Value) (s':Shared),Inv X pins σ H s->CX X.stack H s E e s'->X.xe e s'
section
variable {X:Cx} {CX:CXT} {k:Nat} {f C:Addr} {fd:FuncData} {ps:List Str} {sp:Sp} {dvs:List V} {ds:List Value} {E:XK} {x m:Str} {p pos apos:Pos} {e o:Expr} {es:List Expr} {ta:TE} {t:TA}
theorem zx7 {Q:VK} {vs:List V} (F:FnOk X.prog X.w X.K X.mg X.base CX k f fd ps sp) (hr:Room k X.A) (hb:zk9 X.K fd ps ds) (hd:zcp dvs ds) (hx:zg9 CX X E)
   (I:Inv X pins σ H s) (r:zcp vs us) (h:sp (vs++dvs) H Q E):wpAny (model X.prog X.w) X.A (call (.ref f) us) (EP X pins σ Q) X.xe s:=by
 have r2:zcp (vs++dvs) (us++ds):=r.append hd;have hl:(us++ds).length=ps.length:=by rw[<- r2.length]; exact F.len _ _ _ _ h
 refine qd1 (qd2 (F.run X.A X.stack s H ⟨us,[]⟩ (us++ds) (vs++dvs) Q E hr I.env0 (hb s us I.kIn hl) r2 h) λr s' hq=>?_);cases r with
 | error e=>exact hx pins σ H s e s' I hq
 | ok fl =>
   cases fl with
   | ret u=>exact I.after hq
   | next=>exact False.elim hq
   | brk=>exact False.elim hq
   | cont=>exact False.elim hq
theorem zvk (F:FnOk X.prog X.w X.K X.mg X.base CX k f fd ps sp) (hr:Room k X.A) (hg:Gl X x) (hm:X.mg x=some (.ref f)) (hk:PySem.W.keepIn X.K (.ref f)=true) (hb:zk9 X.K fd ps ds) (hd:zcp dvs ds) (hx:zg9 CX X E)
   (ha:PA X (e :: es) t) (hdb:(x==("__debug__":Str))=false:=by decide) (he:starEach (e :: es) X.env=(false,eval e X.env) :: starEach es X.env:=by rfl) (hpl:(backTo pos (starEach es X.env)).any (·.1)=false:=by rfl) :
   PE X (.Call (.Name x p) (e :: es) [] pos) (zw4 sp dvs E t):=by
 intro pins s σ H Q I h;refine qcv (zke I hg hm ?_ hdb);refine PySem.W.callWith_K (h₀:=X.base) I.ok.mod.kin hk (thn (ha pos pins s σ H _ I h) λus s1 ⟨vs,H1,I1,r,q⟩=>⟨I1.kIn,?_⟩) he hpl;exact zx7 F hr hb hd hx I1 r q
theorem zdc (he:PE X o ta) (c:Cls X.K C) (hm:Meth X.K C m f) (F:FnOk X.prog X.w X.K X.mg X.base CX k f fd ps sp) (hr:Room k X.A) (hb:zk9 X.K fd ps ds) (hd:zcp dvs ds) (hx:zg9 CX X E) (ha:PA X (e :: es) t)
   (hst:starEach (e :: es) X.env=(false,eval e X.env) :: starEach es X.env:=by rfl) (hpl:(backTo pos (starEach es X.env)).any (·.1)=false:=by rfl)
   (ht:eval (.Call (.Attribute o m apos) (e :: es) [] pos) X.env=(do
     let ov <- eval o X.env
     standAt apos.atName
     let (f,first) <- holding [ov] (getMethod ov m pl)
     callWith pos f first (backTo pos (starEach (e :: es) X.env)) (backToKw pos (keywordEach [] X.env))):=by rfl) :
   PE X (.Call (.Attribute o m apos) (e :: es) [] pos) (z39 C m sp dvs E ta t):=by
 intro pins s σ H Q I h;refine PySem.W.methodCall_KW (pl:=pl) (thn (he pins s σ H _ I h) λu s1 ⟨x,H1,I1,rx,a,dx,fs,ex,ea,l,q⟩=>?_) ht;subst ex;obtain rfl:u=Value.ref a:=rx;refine znf I1 ea c hm l ?_;refine PySem.W.callWith_K (first:=[.ref a]) (h₀:=X.base) I.ok.mod.kin hm.kp (thn (ha pos pins s1 σ H1 _ I1 q) λus s2 ⟨vs,H2,I2,r,q2⟩=>⟨I2.kIn,?_⟩) hst hpl;exact zx7 (us:=.ref a :: us) (vs:=.ref a :: vs) F hr hb hd hx I2 (.cons rfl r) q2
theorem zlg (he:PE X o ta) (c:Cls X.K C) (hm:Meth X.K C m f) (F:FnOk X.prog X.w X.K X.mg X.base CX k f fd ps sp) (hr:Room k X.A) (hb:zk9 X.K fd ps ds) (hd:zcp dvs ds) (hx:zg9 CX X E)
   (ht:eval (.Call (.Attribute o m apos) [] [] pos) X.env=(do
     let ov <- eval o X.env
     standAt apos.atName
     let (f,first) <- holding [ov] (getMethod ov m pl)
     callWith pos f first (backTo pos (starEach [] X.env)) (backToKw pos (keywordEach [] X.env))):=by rfl) :
   PE X (.Call (.Attribute o m apos) [] [] pos) (z39 C m sp dvs E ta z6k):=by
 intro pins s σ H Q I h;refine PySem.W.methodCall_KW (pl:=pl) (thn (he pins s σ H _ I h) λu s1 ⟨x,H1,I1,rx,a,dx,fs,ex,ea,l,q⟩=>?_) ht;subst ex;obtain rfl:u=Value.ref a:=rx;refine znf I1 ea c hm l ?_;exact PySem.W.callWith_K0 (first:=[.ref a]) I1.kIn hm.kp (zx7 (us:=[.ref a]) (vs:=[.ref a]) F hr hb hd hx I1 (.cons rfl .nil) q)
structure Mk (K:W.Frag) (C f:Addr):Prop where
 makes:PySem.W.makesIn K C=true
 init:PySem.W.findIn K (.ref C) "__init__"=some (some (.ref f))
 fn:PySem.W.isFn K (.ref f)=true
 kp:PySem.W.keepIn K (.ref C)=true
theorem zy7 {Q:VK} {vs:List V} (M:Mk X.K C f) (F:FnOk X.prog X.w X.K X.mg X.base CX k f fd ps sp) (hr:Room (k+1) X.A) (hb:zk9 X.K fd ps ds) (hd:zcp dvs ds)
   (hx:zg9 CX X E) (I:Inv X pins σ H s) (r:zcp vs us)
   (h:∀x dx,H x=none->H dx=none->dx≠x->sp (.ref x :: (vs++dvs)) (upd (upd H dx (.own x)) x (.ins C dx [])) (λv H2=>v=.non/\Q (.ref x) H2) E) :
   wpAny (model X.prog X.w) X.A (call (.ref C) us) (EP X pins σ Q) X.xe s:=by
 have hq:=h (s.heap.objs.size+1) s.heap.objs.size (I.hok.fresh (qcp _)) (I.hok.fresh (qaj _)) (qa6 (qcc _));have I2:=Inv.made (C:=C) I;have r2:zcp (V.ref (s.heap.objs.size+1) :: (vs++dvs)) (Value.ref (s.heap.objs.size+1) :: (us++ds)):=.cons rfl (r.append hd);have hl:(Value.ref (s.heap.objs.size+1) :: us++ds).length=ps.length:=by have e:=r2.length;rw[F.len _ _ _ _ hq] at e;exact e.symm
 refine qd1 (z0c (f:=f) I.kIn M.makes M.init (beq_iff_eq.mp M.fn) (qd2 (F.run _ X.stack _ _ ⟨Value.ref (s.heap.objs.size+1) :: us,[]⟩ (Value.ref (s.heap.objs.size+1) :: (us++ds)) _ _ E (hr.make C us [])
   (I2.env0.make C us []) (hb _ (Value.ref (s.heap.objs.size+1) :: us) I2.kIn hl) r2 hq) λr s' hq'=>?_))
 cases r with
 | error e=>exact hx pins σ _ _ e s' I2 hq'
 | ok fl =>
   cases fl with
   | ret u =>
     obtain⟨v,H',I3,rv,ev,q3⟩:=I2.after hq';subst ev;exact⟨rv,⟨V.ref (s.heap.objs.size+1),H',I3,rfl,q3⟩⟩
   | next=>exact False.elim hq'
   | brk=>exact False.elim hq'
   | cont=>exact False.elim hq'
theorem zvx (M:Mk X.K C f) (F:FnOk X.prog X.w X.K X.mg X.base CX k f fd ps sp) (hr:Room (k+1) X.A) (hg:Gl X x) (hm:X.mg x=some (.ref C)) (hb:zk9 X.K fd ps ds) (hd:zcp dvs ds) (hx:zg9 CX X E)
   (ha:PA X (e :: es) t) (hdb:(x==("__debug__":Str))=false:=by decide) (he:starEach (e :: es) X.env=(false,eval e X.env) :: starEach es X.env:=by rfl) (hpl:(backTo pos (starEach es X.env)).any (·.1)=false:=by rfl) :
   PE X (.Call (.Name x p) (e :: es) [] pos) (z2i C sp dvs E t):=by
 intro pins s σ H Q I h;refine qcv (zke I hg hm ?_ hdb);refine PySem.W.callWith_K (h₀:=X.base) I.ok.mod.kin M.kp (thn (ha pos pins s σ H _ I h) λus s1 ⟨vs,H1,I1,r,q⟩=>⟨I1.kIn,?_⟩) he hpl;exact zy7 M F hr hb hd hx I1 r q
end
structure FnScope (N P:List Str) (sc:Scope):Prop where
 kind:sc.kind=.function
 co:sc.isCoroutine=false
 gen:sc.isGenerator=false
 nd:N.Nodup
 pre:N.take P.length=P
 par:∀x∈P,sc.names.lookup x=some .local\/sc.names.lookup x=some .cell
 nofree:∀y∈sc.names,y.2≠.free
theorem zpt {kindOf:Str->Option NameKind} {x:Str}:∀{binds:List (Str×Value)} {m:Str->Option Value},(∀v,(x,v) ∉ binds)->bindL kindOf binds m x=m x
 | [],_,_=>rfl
 | (n,v) :: r,m,h=>by
   unfold bindL;rw[zpt λw hw=>h w (qba _ hw)];split
   . have:x≠n:=by rintro rfl; exact h v qbh
     simp [this]
   . rfl
theorem zpd {kindOf:Str->Option NameKind} {x:Str}:∀{binds:List (Str×Value)} {m:Str->Option Value},(∀v,(x,v) ∉ binds)->bindC kindOf binds m x=m x
 | [],_,_=>rfl
 | (n,v) :: r,m,h=>by
   unfold bindC;rw[zpd λw hw=>h w (qba _ hw)];split
   . rfl
   . have:x≠n:=by rintro rfl; exact h v qbh
     simp [this]
theorem zps {kindOf:Str->Option NameKind} {x:Str} {v:Value}:∀{P:List Str} {vs:List Value} {i:Nat} {m:Str->Option Value},P.Nodup->P[i]?=some x->vs[i]?=some v->kindOf x=some .local ->
   bindL kindOf (P.zip vs) m x=some v
 | [],_,_,_,_,h,_,_=>by simp at h
 | _ :: _,[],_,_,_,_,h,_=>by simp at h
 | p :: P,w :: vs,0,m,nd,h1,h2,hk=>by simp at h1 h2; subst h1; subst h2;show bindL kindOf ((p,w) :: P.zip vs) m p=_;unfold bindL;rw[zpt λv hv=>(qd3.mp nd).1 (qe3 hv).1,if_pos hk];simp
 | p :: P,w :: vs,i+1,m,nd,h1,h2,hk=>by show bindL kindOf ((p,w) :: P.zip vs) m x=_;unfold bindL;exact zps (i:=i) (qd3.mp nd).2 (by simpa using h1) (by simpa using h2) hk
theorem zpi {kindOf:Str->Option NameKind} {x:Str} {v:Value}:∀{P:List Str} {vs:List Value} {i:Nat} {m:Str->Option Value},P.Nodup->P[i]?=some x->vs[i]?=some v->kindOf x≠some .local ->
   bindC kindOf (P.zip vs) m x=some v
 | [],_,_,_,_,h,_,_=>by simp at h
 | _ :: _,[],_,_,_,_,h,_=>by simp at h
 | p :: P,w :: vs,0,m,nd,h1,h2,hk=>by simp at h1 h2; subst h1; subst h2;show bindC kindOf ((p,w) :: P.zip vs) m p=_;unfold bindC;rw[zpd λv hv=>(qd3.mp nd).1 (qe3 hv).1,if_neg hk];simp
 | p :: P,w :: vs,i+1,m,nd,h1,h2,hk=>by show bindC kindOf ((p,w) :: P.zip vs) m x=_;unfold bindC;exact zpi (i:=i) (qd3.mp nd).2 (by simpa using h1) (by simpa using h2) hk
def zoo (N:List Str) (vs:List V):St:=vs.map some++List.replicate (N.length - vs.length) none
def zfb (CX:CXT) (P:Program) (w:World) (K:W.Frag) (mg:Str->Option Value) (base:Heap) (N:List Str) (qual:Str) (scope:Scope) (f:Addr) (cd:Value) (A:Around) (outer:List Env) (s:Shared) (H:Hp) (E:XK):Cx where
 prog:=P
 w:=w
 K:=K
 mg:=mg
 base:=base
 A:=A.deeper (envOfC qual scope s.heap.objs.size f cd)
 N:=N
 s₀:=s
 H₀:=H
 env:=envOfC qual scope s.heap.objs.size f cd
 outer:=outer
 stack:=envOfC qual scope s.heap.objs.size f cd :: outer
 ex:=[]
 calm:=true
 fn:=λ_=>true
 pn:=[]
 xe:=λe s'=>wpAny (model P w) (A.deeper (envOfC qual scope s.heap.objs.size f cd)) (leaving (envOfC qual scope s.heap.objs.size f cd) e) (λ_ s''=>CX outer H s E e s'') (λe' s''=>CX outer H s E e' s'') s'
theorem zs3 {sc:Scope} {n:Nat} (h:sc.names.lookup x=some .cell):∃c,(cellsFrom n sc.names []).lookup x=some c:=by have q:=PySem.W.cellsFrom_some sc.names n [] (.inl h);exact qc1.mp q
theorem zwa {CX:CXT} {mg:Str->Option Value} {N ps:List Str} {qual:Str} {scope:Scope} {f:Addr} {cd:Value} {outer:List Env} {s1:Shared}{E:XK} {vs:List V}
   (S:FnScope N ps scope) (hd:A.handled=none) (e0:Env0 P w K mg base A outer s H) (hl:vs.length=ps.length) (r:zcp vs us)
   (x:InCallC s s.heap.objs.size (bindL (envOfC qual scope s.heap.objs.size f cd).kindOf (ps.zip us) λ_=>none) (cellsFrom (s.heap.objs.size+1) scope.names []) (bindC (envOfC qual scope s.heap.objs.size f cd).kindOf (ps.zip us) λ_=>none) s1) :
   Inv (zfb CX P w K mg base N qual scope f cd A outer s H E) [] (zoo N vs) H s1:=by
 have hpl:ps.length<=N.length:=by have:=qa0 List.length S.pre; rw[qbe] at this; omega
 obtain⟨h1,tk,rfl,hk⟩:=x.done;have noA:∀b:Addr,b ∉ (zfb CX P w K mg base N qual scope f cd A outer s H E).ex:=λb z=>absurd (show b∈([]:List Addr) from z) (by simp);refine⟨⟨e0.mod,S.kind,rfl,rfl,qaj _,λy z c h1 h2=>?_,λy hy=>?_,λy c _ h=>?_,λ_=>hd,Around.frames_deeper e0.frames,.inr ⟨rfl,rfl⟩,λb z=>absurd z (noA b),e0.bs,e0.bsz,λb _ _=>noA b,λb z=>absurd z (noA b),e0.funs,e0.frf⟩,
   rfl,e0.bare,Un.kept hk,⟨_,x.toInCall.ns,λi y v h1 h2 h3=>?_⟩,λy c h=>⟨_,x.cell y c h⟩,e0.hok.fresh (qaj _),λy c h=>?_,λp hp=>absurd (show p∈([]:List (Addr×Obj)) from hp) (by simp),e0.hok.kept hk,?_⟩
 . exact name_of_addr x.apart (PySem.mem_of_lookup h1) (PySem.mem_of_lookup h2)
 . have hy:scope.names.lookup y=some .cell\/scope.names.lookup y=some .free:=hy;rcases hy with hy|hy
   . exact zs3 hy
   . exact absurd rfl (S.nofree _ (PySem.mem_of_lookup hy))
 . exact qen (x.above y c (PySem.mem_of_lookup h))
 . have hi:i<vs.length:=by
     unfold zoo at h2;by_cases hi:i<vs.length
     . exact hi
     . rw[qbw (by simpa using hi)] at h2;rw[List.getElem?_replicate] at h2;split at h2 <;> cases h2
   have ha:vs[i]?=some v:=by
     unfold zoo at h2;rw[qb8 (by simpa using hi),List.getElem?_map] at h2;cases e:vs[i]? with
     | none=>rw[e] at h2; cases h2
     | some a=>rw[e] at h2; cases h2; rfl
   obtain⟨u,hu,rv⟩:=r.get ha;have hp:ps[i]?=some y:=by rw[<- S.pre,qdm (by omega)]; exact h1
   have ndP:ps.Nodup:=by rw[<- S.pre]; exact S.nd.sublist (List.take_sublist _ _)
   refine⟨u,rv,?_⟩;rcases S.par y (List.mem_of_getElem? hp) with k|k
   . exact .inl ⟨k,zps ndP hp hu k⟩
   . obtain⟨c,e⟩:=zs3 (n:=s.heap.objs.size+1) k;refine .inr ⟨.inl k,c,e,?_⟩;have q:=x.cell y c e;rw[zpi ndP hp hu (by show scope.names.lookup y≠_; rw[k]; decide)] at q;exact q
 . exact e0.hok.fresh (qen (x.above y c (PySem.mem_of_lookup h)))
 . unfold zoo;show _=N.length;rw[List.length_append,List.length_map,qcz];omega
theorem z5h {CX:CXT} {mg:Str->Option Value} {k:Nat} {f:Addr} {name qual:Str} {params:Arguments} {body:List Stmt} {scope:Scope} {dV kV doc pm cdv ct oc:Value} {an od:Option Addr}
   {osl:Array (Option Value)} {N ps:List Str} {sp:Sp} (lk:K.lookup f=some ⟨oc,od,.func (PySem.W.fnOf name qual params body scope dV kV doc pm an cdv ct),osl⟩) (hcd:PySem.W.codeIn K cdv qual=true) (S:FnScope N ps scope)
   (len:∀vs H Q E,sp vs H Q E->vs.length=ps.length)
   (hbody:∀(A:Around) (outer:List Env) (s:Shared) (H:Hp) (vs:List V) (Q:VK) (E:XK),Room k (A.deeper (envOfC qual scope s.heap.objs.size f cdv))->sp vs H Q E ->
     ∃t,PSs (zfb CX P w K mg base N qual scope f cdv A outer s H E) body t/\t { nx:=λ_ H'=>Q .non H',rt:=Q } (zoo N vs) H) :
   FnOk P w K mg base CX (k+1) f (PySem.W.fnOf name qual params body scope dV kV doc pm an cdv ct) ps sp:=by
 refine⟨len,λA outer s H args us vs Q E hr e0 hb r hsp=>?_⟩;have hl:=len _ _ _ _ hsp;have KX:K.In s.heap:=e0.mod.kin.keeps λb o e=>(e0.bs b o e).1;have lim:s.heap.NoLimit:=e0.mod.nolimit.keeps λb o e=>(e0.bs b o e).1;have hkind:∀y∈ps.zip us,scope.names.lookup y.1=some .local\/(scope.names.lookup y.1=some .cell/\((cellsFrom (s.heap.objs.size+1) scope.names []).lookup y.1).isSome=true):=λ⟨n,v⟩ hy=>by
   rcases S.par n (qe3 hy).1 with q|q
   . exact .inl q
   . exact .inr ⟨q,PySem.W.cellsFrom_some _ _ _ (.inl q)⟩
 refine codeAny_call_function hr.depth (KX _ _ lk) rfl S.co S.gen rfl (PySem.W.codeRec_of KX hcd) (hb _ _ _ _ ?_);refine wpAny_newFunctionEnv_cells S.kind hkind λenv he s1 x=>?_;subst he;refine⟨lim.keeps x.toInCall.keep,codeAny_func ?_⟩;obtain⟨t,ht,hq⟩:=hbody A outer s H vs Q E (hr.deeper _) hsp;have I:Inv (zfb CX P w K mg base N qual scope f cdv A outer s H E) [] (zoo N vs) H s1:=zwa S hr.hd e0 hl r x;refine qb0 (ht [] s1 (zoo N vs) H _ I hq) (λfl s' hs=>?_) λe s' hs=>hs;have fin:∀{σ':St} {H':Hp} {v:V} {u:Value},Inv (zfb CX P w K mg base N qual scope f cdv A outer s H E) [] σ' H' s'->zc1 v u->Q v H'->CE outer P w H s Q u s' :=
   λ{σ' H' v u} J rv q=>⟨v,H',J.os,J.bare,J.base,J.hok,rv,q⟩
 cases fl with
 | ret u =>
   obtain⟨v,σ',H',J,rv,q⟩:=hs;exact fin J rv q
 | next =>
   obtain⟨σ',H',J,q⟩:=hs;exact fin (v:=V.non) (u:=Value.none) J rfl q
 | brk =>
   obtain⟨_,_,_,q⟩:=hs;exact False.elim q
 | cont =>
   obtain⟨_,_,_,q⟩:=hs;exact False.elim q
section
variable {X:Cx} {x:Str} {p pos:Pos} {e:Expr} {es:List Expr} {t:TA} {id T:String} {r:List V->Hp->VK->Prop}
def tCB (r:List V->Hp->VK->Prop) (t:TA):TE:=λσ H Q=>t σ H λvs H1=>r vs H1 Q
theorem zam (hc:zbv X (.builtin id) r) (hg:Gl X x) (hm:X.mg x=none) (hv:bootBuiltins x=some (.builtin id)) (ha:PA X (e :: es) t) (hn:x≠"__name__":=by decide) (hdb:(x==("__debug__":Str))=false:=by decide)
   (he:starEach (e :: es) X.env=(false,eval e X.env) :: starEach es X.env:=by rfl) (hpl:(backTo pos (starEach es X.env)).any (·.1)=false:=by rfl):PE X (.Call (.Name x p) (e :: es) [] pos) (tCB r t):=by
 intro pins s σ H Q I h;refine qcv (zkr I hg hm hv ?_ hn hdb);exact PyProof.Rows.callWith_builtin1 (thn (ha pos pins s σ H _ I h) λus s1 ⟨vs,H1,I1,r1,q1⟩=>hc pins s1 σ H1 vs us Q I1 r1 q1) he hpl
theorem zb3 (hc:zbv X (.type T) r) (hg:Gl X x) (hm:X.mg x=none) (hv:bootBuiltins x=some (.type T)) (ha:PA X (e :: es) t) (hn:x≠"__name__":=by decide) (hdb:(x==("__debug__":Str))=false:=by decide)
   (he:starEach (e :: es) X.env=(false,eval e X.env) :: starEach es X.env:=by rfl) (hpl:(backTo pos (starEach es X.env)).any (·.1)=false:=by rfl):PE X (.Call (.Name x p) (e :: es) [] pos) (tCB r t):=by
 intro pins s σ H Q I h;refine qcv (zkr I hg hm hv ?_ hn hdb);exact qbz (thn (ha pos pins s σ H _ I h) λus s1 ⟨vs,H1,I1,r1,q1⟩=>hc pins s1 σ H1 vs us Q I1 r1 q1) he hpl
end
end L2
namespace HT
open PySem PyProof.Rows
section
variable {prog:Program} {w:World} {A:Around} {E:Value->Shared->Prop} {s:Shared}
def sIx (n d:Nat):Option Int->Nat
 | none=>d
 | some v=>if v<0 then(v+(n:Int)).toNat else min v.toNat n
theorem sIx_nat (n d k:Nat):sIx n d (some (k:Int))=min k n:=by show(if(k:Int)<0 then((k:Int)+(n:Int)).toNat else min (k:Int).toNat n)=min k n;rw[if_neg (by omega),qbu]
end
end HT
namespace L2
open PySem PySem.Spec PyProof.Rows
abbrev TO:=St->Hp->(Option Int->Hp->Prop)->Prop
def PO (X:Cx) (e:Option Expr) (t:TO):Prop :=
 ∀(pins:List (Addr×Obj)) (s:Shared) (σ:St) (H:Hp) (Q:Option Int->Hp->Prop),Inv X pins σ H s->t σ H Q ->
   wpAny (model X.prog X.w) X.A (evalPart e X.env) (λu s'=>∃o H',Inv X pins σ H' s'/\IsPart u o/\Q o H') X.xe s
def z3i:TO:=λ_ H Q=>Q none H
def z7i (t:TE):TO:=λσ H Q=>t σ H λx H1=>∃i,x=.int i/\Q (some i) H1
section
variable {X:Cx} {e:Expr} {te:TE} {lo hi:Option Expr} {tl th:TO} {pos p2:Pos}
theorem zho:PO X none z3i:=by intro pins s σ H Q I h;rw[evalPart_none];exact wpAny_pure ⟨none,H,I,.none,h⟩
theorem zef (h:PE X e te):PO X (some e) (z7i te):=by intro pins s σ H Q I hw;rw[evalPart_some];refine thn (h pins s σ H _ I hw) λu s1 ⟨x,H1,I1,r1,q1⟩=>?_;obtain⟨i,rfl,q⟩:=q1;obtain⟨t,rfl⟩:=r1;exact⟨some i,H1,I1,.int i t,q⟩
def SlR (X:Cx) (r:V->Option Int->Option Int->Hp->VK->Prop):Prop :=
 ∀(pins:List (Addr×Obj)) (s:Shared) (σ:St) (H:Hp) (x:V) (v vl vu:Value) (lo hi:Option Int) (sl:Addr) (Q:VK),Inv X pins σ H s->zc1 x v->s.heap.IsSliceOf sl vl vu .none->IsPart vl lo->IsPart vu hi->r x lo hi H Q ->
   ∃T id,typeLookup (.type T) "__getitem__"=pure (some (.builtin id))/\s.TypeIs v T/\wpAny (model X.prog X.w) X.A (getItem v (.ref sl)) (EP X pins σ Q) X.xe s
def tSl (r:V->Option Int->Option Int->Hp->VK->Prop) (te:TE) (tl th:TO):TE:=λσ H Q=>te σ H λx H1=>tl σ H1 λl H2=>th σ H2 λu H3=>r x l u H3 Q
theorem zd9 {r:V->Option Int->Option Int->Hp->VK->Prop} (hr:SlR X r) (he:PE X e te) (hl:PO X lo tl) (hu:PO X hi th):PE X (.Subscript e (.Slice lo hi none p2) pos) (tSl r te tl th):=by intro pins s σ H Q I h;refine Subscript_ (thn (he pins s σ H _ I h) λv s1 ⟨x,H1,I1,r1,q1⟩=>?_);refine wpAny_Slice (thn (hl pins s1 σ H1 _ I1 q1) λvl s2 ⟨l,H2,I2,pl,q2⟩=>thn (hu pins s2 σ H2 _ I2 q2) λvu s3 ⟨u,H3,I3,pu,q3⟩=>?_);rw[evalPart_none];refine wpAny_pure ?_;have I4:Inv X pins σ H3 { s3 with heap:=s3.heap.push { cls:=.type "slice",data:=.fields #[vl,vu,.none] } }:=I3.kept (t':=s3.toks) λb ob q=>Heap.get?_push_of_some _ q;obtain⟨T,id,hT,ht,hg⟩:=hr pins { s3 with heap:=s3.heap.push { cls:=.type "slice",data:=.fields #[vl,vu,.none] } } σ H3 x v vl vu l u s3.heap.objs.size Q I4 r1 (Heap.IsSliceOf.new ..) pl pu q3;show wpAny (model X.prog X.w) X.A (subscriptTail e (.Slice lo hi none p2) v (.ref s3.heap.objs.size)) (EP X pins σ Q) X.xe { s3 with heap:=s3.heap.push { cls:=.type "slice",data:=.fields #[vl,vu,.none] } };exact tail_any (ops:=[.ref s3.heap.objs.size,v]) ht hT hg (by with_unfolding_all rfl)
def z3o (xs:List V) (lo hi:Option Int):List V:=(xs.drop (HT.sIx xs.length 0 lo)).take (HT.sIx xs.length xs.length hi - HT.sIx xs.length 0 lo)
theorem zsa (xs:List V) (lo hi:Option Int):(z3o xs lo hi).length<=xs.length:=by unfold z3o;rw[qbe,qc2];omega
end
def ixN (n:Nat) (i:Int):Option Nat:=if 0<=i then(if i<n then some i.toNat else none) else if -(n:Int)<=i then some (i+n).toNat else none
def atI {α:Type} (xs:List α) (i:Int):Option α:=(ixN xs.length i).bind λj=>xs[j]?
variable {n:Nat}
theorem zwr {i:Int} {j:Nat} (h:ixN n i=some j):seqIndex? i n=some j/\j<n/\-(n:Int)<=i/\i<n:=by
 unfold ixN at h;by_cases h0:0<=i
 . rw[if_pos h0] at h;by_cases h1:i<n
   . rw[if_pos h1] at h;have e:i.toNat=j:=Option.some.inj h;exact⟨by rw[seqIndex_of h0 h1,e],by omega,by omega,h1⟩
   . rw[if_neg h1] at h; cases h
 . rw[if_neg h0] at h;by_cases h1:-(n:Int)<=i
   . rw[if_pos h1] at h;have e:(i+n).toNat=j:=Option.some.inj h;exact⟨by rw[seqIndex_neg (by omega) h1,e],by omega,h1,by omega⟩
   . rw[if_neg h1] at h; cases h
theorem zrt {α:Type} {xs:List α} {i:Int} {v:α} (h:atI xs i=some v):∃j,seqIndex? i xs.length=some j/\xs[j]?=some v/\j<xs.length/\-(xs.length:Int)<=i/\i<xs.length:=by
 unfold atI at h;cases e:ixN xs.length i with
 | none=>rw[e] at h; cases h
 | some j =>
   rw[e] at h;obtain⟨h1,h2,h3,h4⟩:=zwr e;exact⟨j,h1,h,h2,h3,h4⟩
theorem zcg {α:Type} {xs:List α} {j:Nat} {v:α} (h:xs[j]?=some v):atI xs (j:Int)=some v:=by
 have hj:j<xs.length:=(List.getElem?_eq_some_iff.mp h).1;have e:ixN xs.length (j:Int)=some j:=by unfold ixN;rw[if_pos (by omega),if_pos (by omega)]; simp
 unfold atI; rw[e]; exact h
def z2g (b:Expr):Prop:=∀o i,subscripted b false o i=operate [o,i] (getItem o i)
def IxR (X:Cx) (r:R2):Prop :=
 ∀(value slice:Expr) (pins:List (Addr×Obj)) (s:Shared) (σ:St) (H:Hp) (x y:V) (v u:Value) (Q:VK),Inv X pins σ H s->zc1 x v->zc1 y u->r x y H Q ->
   subscripted slice false v u=operate [v,u] (getItem v u)->wpAny (model X.prog X.w) X.A (subscriptTail value slice v u) (EP X pins σ Q) X.xe s
def MtR (X:Cx) (id:String) (r:V->List V->Hp->VK->Prop):Prop :=
 ∀(pins:List (Addr×Obj)) (s:Shared) (σ:St) (H:Hp) (x:V) (xs:List V) (v:Value) (us:List Value) (Q:VK),Inv X pins σ H s->zc1 x v->zcp xs us->r x xs H Q ->
   wpAny (model X.prog X.w) X.A (call (.builtin id) (v :: us)) (EP X pins σ Q) X.xe s
section
variable {X:Cx} {a b:Expr} {ta tb:TE} {pos:Pos}
theorem zaq {r:R2} (hr:IxR X r) (ha:PE X a ta) (hb:PE X b tb) (hs:z2g b):PE X (.Subscript a b pos) (tOp r ta tb):=by intro pins s σ H Q I h;exact Subscript_ (z69 ha hb I h λv u s2 x y H2 I2 rx ry q=>hr a b pins s2 σ H2 x y v u Q I2 rx ry q (hs _ _))
def rIxL (K:W.Frag):R2:=λx y H Q=>∃p xs i v,x=.ref p/\y=.int i/\SqL K H p xs/\atI xs i=some v/\Q v H
def z66 (K:W.Frag):R2:=λx y H Q=>∃p xs i v,x=.ref p/\y=.int i/\SqT K H p xs/\atI xs i=some v/\Q v H
def rIxS:R2:=λx y H Q=>∃z i c,x=.str z/\y=.int i/\z.length<=sizeLine/\atI z.cps.toList i=some c/\Q (.str ⟨#[c]⟩) H
theorem zkj:IxR X (rIxL X.K):=by
 intro value slice pins s σ H x y v u Q I rx ry h hs;obtain⟨p,xs,i,z,rfl,rfl,hq,he,q⟩:=h;cases rx;obtain⟨t,rfl⟩:=ry;obtain⟨its,r,pl,hz⟩:=I.list hq;obtain⟨j,h1,h2,h3,h4,h5⟩:=zrt he;obtain⟨w,ew,rw'⟩:=r.get h2;have hl:=r.length;have hn:=zl6;have fin:EP X pins σ Q w s:=⟨z,H,I,rw',q⟩
 by_cases h0:0<=i
 . have hj:i.toNat=j:=by rw[seqIndex_of h0 h5] at h1;exact Option.some.inj h1
   exact item_listR pl.isList h0 (by omega) (by rw[hj]; simpa using ew) fin hs
 . have hj:(i+(its.toArray.size:Int)).toNat=j:=by rw[seqIndex_neg (by omega) h4] at h1;rw[qaw,<- hl];exact Option.some.inj h1
   exact subscriptTail_builtinR (x:=w) pl.isList.typeIs slot_list_getitem.lookup
     (wpAny_getItem_list_neg (Q:=λr s'=>r=w/\EP X pins σ Q r s') pl.isList (by omega) (by rw[qaw] <;> omega) (by omega) (by rw[hj]; simpa using ew) ⟨rfl,fin⟩) hs
theorem zmg:IxR X (z66 X.K):=by
 intro value slice pins s σ H x y v u Q I rx ry h hs;obtain⟨p,xs,i,z,rfl,rfl,hq,he,q⟩:=h;cases rx;obtain⟨t,rfl⟩:=ry;obtain⟨its,r,pl,hz⟩:=I.tuple hq;obtain⟨j,h1,h2,h3,h4,h5⟩:=zrt he;obtain⟨w,ew,rw'⟩:=r.get h2;have hl:=r.length;have hn:=zl6;have fin:EP X pins σ Q w s:=⟨z,H,I,rw',q⟩
 exact subscriptTail_builtinR (x:=w) pl.typeIs slot_tuple_getitem.lookup
   (getItem_tuple (j:=j) (Q:=λr s'=>r=w/\EP X pins σ Q r s') pl (by omega) (by omega) (by rw[qaw,<- hl]; exact h1) (by simpa using ew) ⟨rfl,fin⟩) hs
theorem zo6:IxR X rIxS:=by
 intro value slice pins s σ H x y v u Q I rx ry h hs;obtain⟨z,i,c,rfl,rfl,hz,he,q⟩:=h;obtain⟨t,rfl⟩:=rx;obtain⟨t',rfl⟩:=ry;obtain⟨j,h1,h2,h3,h4,h5⟩:=zrt he;have hl:z.cps.toList.length=z.length:=by simp [Str.length]
 rw[hl] at h1 h4 h5;have hn:=zl6;exact tail_any (typeIs_str s z t) slot_str_getitem.lookup (getItem_str (c:=c) (by have e1:decide (i < -(2 ^ 63:Int))=false:=qbn (by omega);have e2:decide (i>=2 ^ 63)=false:=qbn (by omega);rw[e1,e2,qej]) (by rw[h1]; simpa using h2) ⟨.str ⟨#[c]⟩,H,I.tok _,⟨_,rfl⟩,q⟩) hs
theorem zuv (its:List Value) (n j:Nat) (u:Value):Obj.mapSeq (·.setIfInBounds j u) { cls:=.type "list",data:=.seq its.toArray n }={ cls:=.type "list",data:=.seq (its.set j u).toArray n }:=by simp [Obj.mapSeq]
theorem Inv.lst {pins:List (Addr×Obj)} {σ:St} {H:Hp} {s:Shared} {p:Addr} {xs:List V} (I:Inv X pins σ H s) (h:H p=some (.lst xs)) :
   ∃(its:List Value) (n:Nat),zcp xs its/\s.heap.get? p=some { cls:=.type "list",data:=.seq its.toArray n }/\xs.length<=sizeLine:=by
 obtain⟨z,its,n,r,e⟩:=I.hok p _ h;exact⟨its,n,r,e,z⟩
theorem Inv.lstUpd {pins:List (Addr×Obj)} {σ:St} {H:Hp} {s:Shared} {p:Addr} {xs ys:List V} {its its':List Value} {n':Nat}{f:Obj->Obj} (I:Inv X pins σ H s) (h:H p=some (.lst xs))
   (ho:s.heap.get? p=some { cls:=.type "list",data:=.seq its.toArray n }) (hf:f { cls:=.type "list",data:=.seq its.toArray n }={ cls:=.type "list",data:=.seq its'.toArray n' }) (r:zcp ys its') (hz:ys.length<=sizeLine) (t:Nat) :
   Inv X pins σ (upd H p (.lst ys)) { s with heap:=s.heap.update p f,toks:=t }:=by
 have e:(s.heap.update p f).get? p=some { cls:=.type "list",data:=.seq its'.toArray n' }:=by rw[qb9 f ho (by rw[hf] <;> rfl),hf]
 refine I.write (x:=p) (e:=p) (by rw[h]; trivial) (.inl rfl) (λb u hb q=>(qbr _ _ (Ne.symm hb)).trans q) ⟨_,e⟩ ?_;exact⟨hz,its',n',r,e⟩
def z64:V->V->V->Hp->(Hp->Prop)->Prop:=λo i v H Q=>∃p xs k j,o=.ref p/\i=.int k/\H p=some (.lst xs)/\ixN xs.length k=some j/\Q (upd H p (.lst (xs.set j v)))
theorem zfo:PSet X z64:=by
 intro pins s σ H o i v ov iv u Q I ro ri rv h;obtain⟨p,xs,k,j,rfl,rfl,hp,hj,q⟩:=h;cases ro;obtain⟨t,rfl⟩:=ri;obtain⟨its,n,r,ho,hz⟩:=I.lst hp;obtain⟨h1,h2,h3,h4⟩:=zwr hj;have hl:=r.length;have hn:=zl6;have I':Inv X pins σ (upd H p (.lst (xs.set j v))) { s with heap:=s.heap.update p (Obj.mapSeq (·.setIfInBounds j u)) } :=
   I.lstUpd hp ho (zuv its n j u) (r.set rv j) (by rw[qch]; exact hz) s.toks
 by_cases h0:0<=k
 . have hk:k.toNat=j:=by rw[seqIndex_of h0 h4] at h1;exact Option.some.inj h1
   exact PySem.W.ki_setAt ho h0 (by omega) (by rw[qaw,<- hl]; exact h4) (by rw[hk]; exact⟨_,I',q⟩)
 . have hk:(k+(its.toArray.size:Int)).toNat=j:=by rw[seqIndex_neg (by omega) h3] at h1;rw[qaw,<- hl];exact Option.some.inj h1
   exact PySem.W.ki_setBack ho (by omega) (by rw[qaw,<- hl]; exact h3) (by omega) (by rw[hk]; exact⟨_,I',q⟩)
theorem zqg (lo hi:Option Int) (n:Nat):(sliceBounds lo hi none n).1=((HT.sIx n 0 lo:Nat):Int)/\(sliceBounds lo hi none n).2.1=((HT.sIx n n hi:Nat):Int)/\(sliceBounds lo hi none n).2.2=1:=by
 refine⟨?_,?_,rfl⟩
 . cases lo with
   | none=>simp [sliceBounds,HT.sIx]
   | some i =>
     simp only[sliceBounds,HT.sIx,Option.getD_none,show(1:Int) > 0 by decide,if_true];by_cases h:i<0
     . simp only[h,if_true] <;> omega
     . simp only[h,if_false] <;> omega
 . cases hi with
   | none=>simp [sliceBounds,HT.sIx]
   | some i =>
     simp only[sliceBounds,HT.sIx,Option.getD_none,show(1:Int) > 0 by decide,if_true];by_cases h:i<0
     . simp only[h,if_true] <;> omega
     . simp only[h,if_false] <;> omega
theorem zn4 (its:List Value) (lo hi:Option Int):slicePick its.toArray lo hi none=((its.drop (HT.sIx its.length 0 lo)).take (HT.sIx its.length its.length hi - HT.sIx its.length 0 lo)).toArray:=by obtain⟨h1,h2,h3⟩:=zqg lo hi its.toArray.size;unfold slicePick;rw[h1,h2,h3];simp only[sliceRange_one,pick_run,qaw] <;> rfl
def rSlL (K:W.Frag):V->Option Int->Option Int->Hp->VK->Prop:=λx lo hi H Q=>∃a xs,x=.ref a/\SqL K H a xs/\∀p,H p=none->Q (.ref p) (upd H p (.lst (z3o xs lo hi)))
theorem zxk:SlR X (rSlL X.K):=by intro pins s σ H x v vl vu lo hi sl Q I rx hs pl pu h;obtain⟨a,xs,rfl,hx,q⟩:=h;cases rx;obtain⟨its,r,ht,hz⟩:=I.list hx;have hlen:=r.length;refine⟨"list",_,slot_list_getitem.lookup,ht.isList.typeIs,?_⟩;refine wpAny_getItem_list_slice ht.isList hs pl pu .none (by simp) ?_ (by rw[qaw] <;> omega);rw[zn4,<- hlen];refine⟨.ref s.heap.objs.size,_,I.laid (t':=s.toks) (o:=.lst (z3o xs lo hi)) (λb ob q=>Heap.get?_push_of_some _ q) (qaj _) ?_,rfl,q _ (I.hok.fresh (qaj _))⟩;exact⟨qa7 (zsa xs lo hi) hz,_,0,(r.drop (HT.sIx xs.length 0 lo)).take (HT.sIx xs.length xs.length hi - HT.sIx xs.length 0 lo),qat _ rfl⟩
def zj7:V->Bool
 | .non=>true
 | .bl _=>true
 | .int _=>true
 | .str _=>true
 | _=>false
def eqV:V->V->Bool
 | .non,.non=>true
 | .bl a,.bl b=>a==b
 | .bl a,.int b=>(if a then 1 else 0)==b
 | .int a,.bl b=>a==(if b then 1 else 0)
 | .int a,.int b=>a==b
 | .str a,.str b=>a==b
 | _,_=>false
theorem z4u {A:Around} {s:Shared} {y x:V} {u v:Value} (ry:zc1 y u) (rx:zc1 x v) (fy:zj7 y=true) (fx:zj7 x=true):SeqAt.EqAt A s u v (eqV y x):=by
 cases y with
 | non =>
   cases ry;cases x with
   | non=>cases rx; exact SeqAt.EqAt.same _
   | bl b=>cases rx; exact SeqAt.EqAt.none_bool b
   | int b=>obtain⟨t,rfl⟩:=rx; exact SeqAt.EqAt.none_int b t
   | str b=>obtain⟨t,rfl⟩:=rx; exact SeqAt.EqAt.none_str b t
   | _=>exact absurd (show false=true from fx) qas
 | bl a =>
   cases ry;cases x with
   | non=>cases rx; exact SeqAt.EqAt.bool_none a
   | bl b=>cases rx; exact SeqAt.EqAt.bool_bool a b
   | int b=>obtain⟨t,rfl⟩:=rx; exact SeqAt.EqAt.bool_int a b t
   | str b=>obtain⟨t,rfl⟩:=rx; exact SeqAt.EqAt.bool_str a b t
   | _=>exact absurd (show false=true from fx) qas
 | int a =>
   obtain⟨t',rfl⟩:=ry;cases x with
   | non=>cases rx; exact SeqAt.EqAt.int_none a t'
   | bl b=>cases rx; exact SeqAt.EqAt.int_bool a t' b
   | int b=>obtain⟨t,rfl⟩:=rx; exact SeqAt.EqAt.int_int a t' b t
   | str b=>obtain⟨t,rfl⟩:=rx; exact SeqAt.EqAt.int_str a t' b t
   | _=>exact absurd (show false=true from fx) qas
 | str a =>
   obtain⟨t',rfl⟩:=ry;cases x with
   | non=>cases rx; exact SeqAt.EqAt.str_none a t'
   | bl b=>cases rx; exact SeqAt.EqAt.str_bool a t' b
   | int b=>obtain⟨t,rfl⟩:=rx; exact SeqAt.EqAt.str_int a t' b t
   | str b=>obtain⟨t,rfl⟩:=rx; exact SeqAt.EqAt.str_str a t' b t
   | _=>exact absurd (show false=true from fx) qas
 | _=>exact absurd (show false=true from fy) qas
def eqU (x:V) (u:Value):Bool:=match u with
 | .none=>eqV .non x
 | .bool b=>eqV (.bl b) x
 | .int i _=>eqV (.int i) x
 | .str z _=>eqV (.str z) x
 | _=>false
theorem zs0 {x y:V} {u:Value} (r:zc1 y u) (f:zj7 y=true):eqU x u=eqV y x:=by
 cases y with
 | non=>cases r; rfl
 | bl b=>cases r; rfl
 | int i=>obtain⟨t,rfl⟩:=r; rfl
 | str z=>obtain⟨t,rfl⟩:=r; rfl
 | _=>exact absurd (show false=true from f) qas
theorem zr4 {x:V}:∀{xs:List V} {us:List Value},zcp xs us->xs.all zj7=true->us.any (eqU x)=xs.any λy=>eqV y x
 | _,_,.nil,_=>rfl
 | y :: xs,u :: us,.cons r t,f=>by rw[List.all_cons,qa3] at f;rw[qdv,qdv,zs0 r f.1,zr4 t f.2]
theorem zi0 {A:Around} {s:Shared} {x:V} {v:Value} (rx:zc1 x v) (fx:zj7 x=true):∀{xs:List V} {us:List Value},zcp xs us->xs.all zj7=true->∀u∈us,SeqAt.EqAt A s u v (eqU x u)
 | _,_,.nil,_=>λu hu=>by cases hu
 | y :: xs,u :: us,.cons r t,f=>λu' hu=>by
   rw[List.all_cons,qa3] at f;rcases qay.mp hu with rfl|hu
   . rw[zs0 r f.1]; exact z4u r rx f.1 fx
   . exact zi0 rx fx t f.2 u' hu
def inV (x:V) (xs:List V):Bool:=xs.any λy=>eqV y x
def rIn (K:W.Frag) (neg:Bool):R2:=λx y H Q=>∃p xs,y=.ref p/\(SqL K H p xs\/SqT K H p xs)/\zj7 x=true/\xs.all zj7=true/\Q (.bl (if neg then !inV x xs else inV x xs)) H
theorem zgk:OpR X (compareOp .In) (rIn X.K false):=by
 intro pins s σ H x y v u Q I rx ry h;obtain⟨p,xs,rfl,hq,fx,fs,q⟩:=h;cases ry;rcases hq with hq|hq
 . obtain⟨its,r,pl,hz⟩:=I.list hq;refine SeqAt.in_listAt (eqU x) pl.isList (λw hw=>zi0 rx fx r fs w (by simpa using hw)) ⟨.bl _,H,I,rfl,?_⟩;rw[show its.toArray.any (eqU x)=its.any (eqU x) by simp,zr4 r fs];exact q
 . obtain⟨its,r,pl,hz⟩:=I.tuple hq;refine SeqAt.in_tupleAt (eqU x) pl (λw hw=>zi0 rx fx r fs w (by simpa using hw)) ⟨.bl _,H,I,rfl,?_⟩;rw[show its.toArray.any (eqU x)=its.any (eqU x) by simp,zr4 r fs];exact q
theorem zhs:zbv X (.builtin "len") (λxs H Q=>∃p ys,xs=[.ref p]/\(SqL X.K H p ys\/SqT X.K H p ys)/\Q (.int ys.length) H):=by
 intro pins s σ H xs us Q I r h;obtain⟨p,ys,rfl,hq,q⟩:=h;obtain⟨u,rfl,rx⟩:=zl2 r;cases rx;have hn:=zl6;rcases hq with hq|hq
 . obtain⟨its,r',pl,hz⟩:=I.list hq;have hlen:=r'.length;exact Calls.call_len_list pl.isList (by simp only[qaw] <;> omega) ⟨.int ys.length,H,I.tok _,⟨s.toks+1,by rw[qaw,hlen]⟩,q⟩
 . obtain⟨its,r',pl,hz⟩:=I.tuple hq;have hlen:=r'.length;exact len_tuple pl (by simp only[qaw] <;> omega) ⟨.int ys.length,H,I.tok _,⟨s.toks+1,by rw[qaw,hlen]⟩,q⟩
theorem zeu:zbv X (.builtin "len") (λxs H Q=>∃z,xs=[.str z]/\z.length<=sizeLine/\Q (.int z.length) H):=by intro pins s σ H xs us Q I r h;obtain⟨z,rfl,hz,q⟩:=h;obtain⟨u,rfl,t,rfl⟩:=zl2 r;have hn:=zl6;exact len_str (by omega) ⟨.int z.length,H,I.tok _,⟨_,rfl⟩,q⟩
theorem zfy:zbv X (.type "list") (λxs H Q=>∃p ys,xs=[.ref p]/\(SqL X.K H p ys\/SqT X.K H p ys)/\∀l,H l=none->Q (.ref l) (upd H l (.lst ys))):=by
 intro pins s σ H xs us Q I r h;obtain⟨p,ys,rfl,hq,q⟩:=h;obtain⟨u,rfl,rx⟩:=zl2 r;cases rx;have fin:∀(its:List Value),zcp ys its->ys.length<=sizeLine->∀(h':Heap) (c':Nat),(∀b o',s.heap.get? b=some o'->h'.get? b=some o') ->
     h'.get? s.heap.objs.size=some { cls:=.type "list",dict:=none,data:=.seq its.toArray c',slots:=#[] }->EP X pins σ Q (.ref s.heap.objs.size) { s with heap:=h' }:=λits r' hz h' c' kp e =>
   ⟨.ref s.heap.objs.size,_,I.laid (t':=s.toks) kp (qaj _) (show zdk X.prog X.w _ h' _ (.lst ys) from⟨hz,its,c',r',e⟩),rfl,q _ (I.hok.fresh (qaj _))⟩
 rcases hq with hq|hq
 . obtain⟨its,r',pl,hz⟩:=I.list hq;have hlen:=r'.length;obtain⟨o,ho,hc,n,hd⟩:=pl.isList;exact call_list_seq p (.inl rfl) ho hc hd (λh' c' kp e=>fin its r' hz h' c' kp e) (by simp only[qaw] <;> omega)
 . obtain⟨its,r',pl,hz⟩:=I.tuple hq;have hlen:=r'.length;obtain⟨o,ho,hc,n,hd⟩:=pl;exact call_list_seq p (.inr rfl) ho hc hd (λh' c' kp e=>fin its r' hz h' c' kp e) (by simp only[qaw] <;> omega)
theorem ze8:zbv X (.type "tuple") (λxs H Q=>∃p ys,xs=[.ref p]/\((SqL X.K H p ys/\∀l,H l=none->Q (.ref l) (upd H l (.tup ys)))\/(SqT X.K H p ys/\Q (.ref p) H))):=by
 intro pins s σ H xs us Q I r h;obtain⟨p,ys,rfl,h⟩:=h;obtain⟨u,rfl,rx⟩:=zl2 r;cases rx;rcases h with⟨hq,q⟩|⟨hq,q⟩
 . obtain⟨its,r',pl,hz⟩:=I.list hq;have hlen:=r'.length;refine call_tuple_list pl.isList (λh' kp=>?_) (by simp only[qaw] <;> omega);have I1:Inv X pins σ H { s with heap:=h' }:=I.kept (t':=s.toks) kp;have I2:Inv X pins σ (upd H h'.objs.size (.tup ys)) { s with heap:=h'.push { cls:=.type "tuple",data:=.seq its.toArray } } :=
     I1.laid (t':=s.toks) (λb o e=>Heap.get?_push_of_some _ e) (qaj _) (show zdk X.prog X.w _ _ _ (.tup ys) from⟨hz,its,r',IsTup.new _ _⟩)
   exact⟨.ref h'.objs.size,_,I2,rfl,q _ (I1.hok.fresh (qaj _))⟩
 . obtain⟨its,r',pl,hz⟩:=I.tuple hq;exact call_tuple_same pl ⟨.ref p,H,I,rfl,q⟩
def tyV (K:W.Frag) (T:String) (x:V) (H:Hp):Prop:=match x with
 | .str _=>T="str"
 | .int _=>T="int"
 | .ref p=>(T="list"/\∃xs,SqL K H p xs)\/(T="tuple"/\∃o,K.lookup p=some o/\o.cls=.type "tuple"/\o.dict=none) \/
     (T="dict"/\((∃kvs,H p=some (.dK kvs))\/∃kvs,H p=some (.dT kvs)))\/(T="set"/\∃S n,H p=some (.set S n))
 | _=>False
theorem z0q {pins:List (Addr×Obj)} {σ:St} {H:Hp} {s:Shared} {T:String} {x:V} {v:Value} (I:Inv X pins σ H s) (r:zc1 x v) (ty:tyV X.K T x H) :
   s.TypeIs v T/\∀a,v=.ref a->∃ob,s.heap.get? a=some ob/\ob.dict=none:=by
 cases x with
 | str z =>
   obtain⟨t,rfl⟩:=r;cases (show T="str" from ty);exact⟨typeIs_str s z t,λ_ e=>nomatch e⟩
 | int i =>
   obtain⟨t,rfl⟩:=r;cases (show T="int" from ty);exact⟨typeIs_int s i t,λ_ e=>nomatch e⟩
 | ref p =>
   cases r;rcases ty with⟨rfl,xs,hq⟩|⟨rfl,o,hk,hc,hd⟩|⟨rfl,hk⟩|⟨rfl,S,n,hk⟩
   . obtain⟨its,_,pl,_⟩:=I.list hq;refine⟨pl.isList.typeIs,λa e=>?_⟩;cases e;obtain⟨o,n,e,c,hd,_⟩:=pl;exact⟨o,e,hd⟩
   . refine⟨⟨o,I.kIn p o hk,hc⟩,λa e=>?_⟩;cases e;exact⟨o,I.kIn _ o hk,hd⟩
   . have z:∃o,s.heap.get? p=some o/\o.ExactDict:=by
       rcases hk with⟨kvs,hk⟩|⟨kvs,hk⟩
       . obtain⟨_,_,_,_,o,_,_,e,ex,_⟩:=I.hok p _ hk;exact⟨o,e,ex⟩
       . obtain⟨_,_,_,_,o,_,_,e,ex,_⟩:=I.hok p _ hk;exact⟨o,e,ex⟩
     obtain⟨o,e,ex⟩:=z;refine⟨⟨o,e,ex.1⟩,λa e2=>?_⟩;cases e2;exact⟨o,e,ex.2.1⟩
   . obtain⟨o,_,_,_,e,ex,_⟩:=I.hok p _ hk;refine⟨⟨o,e,ex.1⟩,λa e2=>?_⟩;cases e2;exact⟨o,e,ex.2.1⟩
 | _=>exact False.elim ty
def tBM0 (K:W.Frag) (T:String) (r:V->List V->Hp->VK->Prop) (to:TE):TE:=λσ H Q=>to σ H λx H1=>tyV K T x H1/\r x [] H1 Q
def tBM (K:W.Frag) (T:String) (r:V->List V->Hp->VK->Prop) (to:TE) (t:TA):TE:=λσ H Q=>to σ H λx H1=>tyV K T x H1/\t σ H1 λxs H2=>r x xs H2 Q
variable {o e:Expr} {es:List Expr} {to:TE} {t:TA} {name:Str} {apos cpos:Pos} {T id:String} {r:V->List V->Hp->VK->Prop}
theorem z4k (pa:PlainAttrs T) (slot:Slot T name id) (hty:typeOf (.builtin id)=pure (.type "method_descriptor")) (hm:MtR X id r) (ho:PE X o to)
   (hbase:attributeBase o name X.env (eval o X.env)=eval o X.env:=by rfl) (hline:(apos.endLine==cpos.line)=true:=by rfl):PE X (.Call (.Attribute o name apos) [] [] cpos) (tBM0 X.K T r to):=by
 intro pins s σ H Q I h;refine qey hbase hline (thn (ho pins s σ H _ I h) λv s1 ⟨x,H1,I1,r1,ty,q1⟩=>?_);obtain⟨h1,h2⟩:=z0q I1 r1 ty;exact⟨T,id,pa,slot,hty,h1,h2,Calls.callWith_builtin rfl (PySem.evalArgs_none (hm pins s1 σ H1 x [] v [] Q I1 r1 .nil q1))⟩
theorem zeh (pa:PlainAttrs T) (slot:Slot T name id) (hty:typeOf (.builtin id)=pure (.type "method_descriptor")) (hm:MtR X id r) (ho:PE X o to) (ha:PA X (e :: es) t)
   (hbase:attributeBase o name X.env (eval o X.env)=eval o X.env:=by rfl)
   (hfew:((backTo cpos (starEach (e :: es) X.env)).all (λx=>!x.1)&&(backToKw cpos (keywordEach [] X.env)).all (λx=>x.1.isSome)
     && decide ((e :: es).length+([]:List Keyword).length+(if([]:List Keyword).isEmpty then 0 else 1)<30))=true:=by rfl)
   (hline:(apos.endLine==cpos.line)=true:=by rfl) (hs:starEach (e :: es) X.env=(false,eval e X.env) :: starEach es X.env:=by rfl) (hplain:(backTo cpos (starEach es X.env)).any (·.1)=false:=by rfl) :
   PE X (.Call (.Attribute o name apos) (e :: es) [] cpos) (tBM X.K T r to t):=by
 intro pins s σ H Q I h;refine wpAny_Call_method_late hbase hfew hline rfl (thn (ho pins s σ H _ I h) λv s1 ⟨x,H1,I1,r1,ty,q1⟩=>?_);obtain⟨h1,h2⟩:=z0q I1 r1 ty;refine⟨T,id,pa,slot,hty,h1,h2,?_⟩;have hA:=ha cpos pins s1 σ H1 _ I1 q1;rw[hs] at hA ⊢;refine Calls.callWith_builtin (by show(false || (backTo cpos (starEach es X.env)).any (·.1))=false; rw[hplain] <;> rfl) (Calls.evalArgs_plain ?_);exact thn hA λus s2 ⟨vs,H2,I2,r2,q2⟩=>hm pins s2 σ H2 x vs v us Q I2 r1 r2 q2
end
def MtM (X:Cx) (id:String) (r:V->List V->Hp->VK->Prop):Prop :=
 ∀(pins:List (Addr×Obj)) (s:Shared) (σ:St) (H:Hp) (x:V) (xs:List V) (v:Value) (us:List Value) (Q:VK),Inv X pins σ H s->zc1 x v->zcp xs us->r x xs H Q ->
   wpAny (model X.prog X.w) X.A (call (.builtin id) (v :: us)) (EP X pins σ Q) X.xe s
theorem zcp.one:∀{x:V} {us:List Value},zcp [x] us->∃u,us=[u]/\zc1 x u
 | _,_,.cons r .nil=>⟨_,rfl,r⟩
theorem zcp.zero:∀{us:List Value},zcp [] us->us=[]
 | _,.nil=>rfl
theorem zcp.dropLast {xs:List V} {us:List Value} (h:zcp xs us):zcp xs.dropLast us.dropLast:=by
 induction h with
 | nil=>exact .nil
 | cons r t ih =>
   cases t with
   | nil=>exact .nil
   | cons q t'=>exact .cons r ih
theorem zcp.rep {xs:List V} {us:List Value} (h:zcp xs us):∀k:Nat,zcp (List.replicate k xs).flatten (List.replicate k us).flatten
 | 0=>.nil
 | k+1=>by rw[qc6,qc6,qbv,qbv];exact zcp.append h (zcp.rep h k)
theorem zu7 {α:Type} (l:List α):l.eraseIdx (l.length - 1)=l.dropLast:=by
 induction l with
 | nil=>rfl
 | cons a r ih =>
   cases r with
   | nil=>rfl
   | cons b r =>
     have e:(a :: b :: r).length - 1=((b :: r).length - 1)+1:=by have h1:(a :: b :: r).length=r.length+2:=rfl;have h2:(b :: r).length=r.length+1:=rfl;omega
     rw[e,List.eraseIdx_cons_succ,ih]
     all_goals rfl
theorem zp5 (its:List Value):∀(k:Nat) (acc:List Value),
   List.foldl (λx1 x2=>x1++x2) acc.toArray (List.replicate k its.toArray)=(acc++(List.replicate k its).flatten).toArray
 | 0,acc=>by simp
 | k+1,acc=>by
   have e:acc.toArray++its.toArray=(acc++its).toArray:=by simp
   have e2:(acc++its)++(List.replicate k its).flatten=acc++(List.replicate (k+1) its).flatten:=by rw[qc6,qbv,qbd]
   rw[<- e2,<- zp5 its k (acc++its),<- e,qc6,qdj]
section
variable {X:Cx} {pins:List (Addr×Obj)} {σ:St} {H:Hp} {s:Shared} {l b:Addr} {xs ys zs:List V}
theorem Inv.lset {its its':List Value} {f:Array Value->Array Value} {t':Nat} (I:Inv X pins σ H s) (hH:H l=some (.lst xs))
   (e:s.heap.get? l=some { cls:=.type "list",data:=.seq its.toArray n }) (hf:f its.toArray=its'.toArray) (hv:zcp ys its') (hz:ys.length<=sizeLine) :
   Inv X pins σ (upd H l (.lst ys)) { s with heap:=s.heap.update l (Obj.mapSeq f),toks:=t' }:=by
 have q:=PySem.IsL.update e f;rw[hf] at q;refine I.write (x:=l) (e:=l) (by rw[hH]; exact trivial) (.inl rfl) (λb' u hb hu=>(qbr s.heap (Obj.mapSeq f) (Ne.symm hb)).trans hu) ⟨_,q⟩ ?_;exact⟨hz,its',_,hv,q⟩
theorem Inv.lnew {its:List Value} {t':Nat} (I:Inv X pins σ H s) (hv:zcp ys its) (hz:ys.length<=sizeLine) :
   Inv X pins σ (upd H s.heap.objs.size (.lst ys)) { s with heap:=s.heap.push { cls:=.type "list",data:=.seq its.toArray },toks:=t' } :=
 I.laid (λ_ _ q=>Heap.get?_push_of_some _ q) (qaj _) ⟨hz,its,0,hv,qat _ rfl⟩
theorem Inv.fresh (I:Inv X pins σ H s):H s.heap.objs.size=none:=I.hok.fresh (qaj _)
theorem Inv.lstM (I:Inv X pins σ H s) (hH:H l=some (.lst xs)):xs.length<=sizeLine/\∃(its:List Value) (n:Nat),zcp xs its/\xs.length=its.length/\s.heap.get? l=some { cls:=.type "list",data:=.seq its.toArray n }:=by obtain⟨z,its,n,r,e⟩:=I.hok l _ hH;exact⟨z,its,n,r,r.length,e⟩
theorem ztx (h:n<=sizeLine):Builtin.List.listTooLong n=false:=by unfold Builtin.List.listTooLong;exact qbn (by omega)
end
section
variable {X:Cx}
def z1z:V->List V->Hp->VK->Prop:=λx vs H Q=>∃l xs y,x=.ref l/\vs=[y]/\H l=some (.lst xs)/\xs.length<sizeLine/\Q .non (upd H l (.lst (xs++[y])))
theorem zfk:MtM X "list.append" z1z:=by intro pins s σ H x vs v us Q I rx rv h;obtain⟨l,xs,y,rfl,rfl,hH,hz,q⟩:=h;cases rx;obtain⟨u,rfl,ru⟩:=rv.one;obtain⟨z,its,n,r,hl,e⟩:=I.lstM hH;refine call_meets F.slot_list_append ⟨_,e,rfl⟩ F.entry_list_append (F.args_list_append_2 _ _) (PySem.list_append l its.toArray n u (by rw[qaw]; omega)) ⟨e,?_⟩;refine⟨.non,_,I.lset (its':=its++[u]) hH e (by simp) (r.append (.cons ru .nil)) ?_,rfl,q⟩;rw[List.length_append,List.length_singleton];omega
def z3e:V->List V->Hp->VK->Prop:=λx vs H Q=>∃l b xs zs,x=.ref l/\vs=[.ref b]/\H l=some (.lst xs)/\H b=some (.lst zs)/\xs.length+zs.length<=sizeLine/\Q .non (upd H l (.lst (xs++zs)))
theorem zyp:MtM X "list.extend" z3e:=by
 intro pins s σ H x vs v us Q I rx rv h;obtain⟨l,b,xs,zs,rfl,rfl,hH,hB,hz,q⟩:=h;cases rx;obtain⟨u,rfl,ru⟩:=rv.one;cases ru;obtain⟨z,its,n,r,hl,e⟩:=I.lstM hH;obtain⟨z2,its2,n2,r2,hl2,e2⟩:=I.lstM hB;have hsz:its.toArray.size+its2.toArray.size<=sizeLine:=by rw[qaw,qaw]; omega
 have hlong:¬ (!its.toArray.isEmpty&&Builtin.List.listTooLong (its.toArray.size+its2.toArray.size))=true:=by rw[ztx hsz,qdp];exact qas
 refine call_meets F.slot_list_extend ⟨_,e,rfl⟩ F.entry_list_extend (F.args_list_extend_2 _ _)
   (AutoSeq1.list_extend_list_list_0 l its.toArray n b its2.toArray n2 hlong (by rw[qaw]; omega) (by omega)) ⟨e,e2,?_⟩
 refine⟨.non,_,I.lset (its':=its++its2) hH e (by simp) (r.append r2) ?_,rfl,q⟩;rw[List.length_append];omega
def rPop:V->List V->Hp->VK->Prop:=λx vs H Q=>∃l xs y,x=.ref l/\vs=[]/\H l=some (.lst xs)/\xs[xs.length - 1]?=some y/\Q y (upd H l (.lst xs.dropLast))
theorem z4f:MtM X "list.pop" rPop:=by
 intro pins s σ H x vs v us Q I rx rv h;obtain⟨l,xs,y,rfl,rfl,hH,hy,q⟩:=h;cases rx;have hus:=rv.zero;subst hus;obtain⟨z,its,n,r,hl,e⟩:=I.lstM hH;obtain⟨u,hu,ru⟩:=r.get hy;have hy':its.toArray[its.toArray.size - 1]?=some u:=by show its.toArray[its.length - 1]?=some u;rw[<- Array.getElem?_toList,<- hl];exact hu
 refine call_meets F.slot_list_pop ⟨_,e,rfl⟩ F.entry_list_pop (F.args_list_pop_1 _) (MeetsSeq.list_pop_last l its.toArray n u hy' (by rw[qaw]; omega)) ⟨e,?_⟩;refine⟨y,_,I.lset (its':=its.dropLast) hH e ?_ r.dropLast ?_,ru,q⟩
 . show its.toArray.eraseIdxIfInBounds (its.toArray.size - 1)=its.dropLast.toArray;rw[qaw,List.eraseIdxIfInBounds_toArray,zu7]
 . rw[List.length_dropLast];omega
def rCat:R2:=λx y H Q=>∃l b xs zs,x=.ref l/\y=.ref b/\H l=some (.lst xs)/\H b=some (.lst zs)/\xs.length+zs.length<=sizeLine/\∀p,H p=none->Q (.ref p) (upd H p (.lst (xs++zs)))
theorem z1c:OpR X (binaryOp .Add) rCat:=by
 intro pins s σ H x y v u Q I rx ry h;obtain⟨l,b,xs,zs,rfl,rfl,hH,hB,hz,q⟩:=h;cases rx;cases ry;obtain⟨z,its,n,r,hl,e⟩:=I.lstM hH;obtain⟨z2,its2,n2,r2,hl2,e2⟩:=I.lstM hB;refine PySem.P.add_list e e2 ?_ (by rw[qaw,qaw]; omega);have ea:its.toArray++its2.toArray=(its++its2).toArray:=by simp
 rw[ea];exact⟨.ref _,_,I.lnew (t':=s.toks) (r.append r2) (by rw[List.length_append]; omega),rfl,q _ I.fresh⟩
def rRep:R2:=λx y H Q=>∃l k xs,x=.ref l/\y=.int k/\H l=some (.lst xs)/\-(2 ^ 63)<=k/\k<2 ^ 63/\xs.length * k.toNat<=sizeLine /\
 ∀p,H p=none->Q (.ref p) (upd H p (.lst (List.replicate k.toNat xs).flatten))
theorem zoa {α:Type} (xs:List α) (k:Nat):(List.replicate k xs).flatten.length=k * xs.length:=by
 induction k with
 | zero=>simp
 | succ k ih=>rw[qc6,qbv,List.length_append,ih,Nat.succ_mul,Nat.add_comm]
theorem z0y:OpR X (binaryOp .Mult) rRep:=by
 intro pins s σ H x y v u Q I rx ry h;obtain⟨l,k,xs,rfl,rfl,hH,h1,h2,hz,q⟩:=h;cases rx;obtain⟨t,rfl⟩:=ry;obtain⟨z,its,n,r,hl,e⟩:=I.lstM hH;have hlen:its.toArray.size * k.toNat<=sizeLine:=by rw[qaw,<- hl]; exact hz
 have hcap:¬ its.toArray.size * k.toNat > (2 ^ 63 - 1) / 8:=by
   have:(sizeLine:Nat)<=(2 ^ 63 - 1) / 8:=by decide
   omega
 have hfit:¬ (!Builtin.List.listFitsIndex k)=true:=by rw[fitsIndex_both h1 h2];exact qas
 have hlong:¬ Builtin.List.listTooLong (its.toArray.size * k.toNat)=true:=by rw[ztx hlen];exact qas
 have hnew:List.foldl (λx1 x2=>x1++x2) #[] (List.replicate (if its.toArray.isEmpty=true then 0 else k.toNat) its.toArray)=(List.replicate k.toNat its).flatten.toArray:=by
   have f0:∀m:Nat,List.foldl (λx1 x2=>x1++x2) #[] (List.replicate m its.toArray)=(List.replicate m its).flatten.toArray:=λm=>by have:=zp5 its m [];rw[qe4] at this;exact this
   rw[f0];cases its with
   | nil=>simp
   | cons a r'=>rw[if_neg (by simp)]
 refine wpAny_binaryOp_repeat_ref (T:="list") (U:="int") (by decide) ⟨_,e,rfl⟩ (λs'=>typeIs_int s' k t) noFill_list_mul F.fills_int_mul F.slot_int_rmul repeat_list F.slot_int_index.lookup
   (call_meets F.slot_int_rmul (typeIs_int s k t) F.entry_int_rmul (F.args_int_rmul_2 _ _) (int___rmul___int_list k t l its.toArray n)
     ⟨e,rfl,⟨_,e,rfl⟩,call_meets F.slot_list_mul ⟨_,e,rfl⟩ F.entry_list_mul (F.args_list_mul_2 _ _) (AutoListH.list___mul___list_int_3 l its.toArray n k t hfit hcap hlong) ⟨e,?_⟩⟩)
 rw[hnew];exact⟨.ref _,_,I.lnew (t':=s.toks) (r.rep k.toNat) (by rw[zoa,qeo]; exact hz),rfl,q _ I.fresh⟩
end
end L2
namespace Att
open PySem PySem.W PySem.Calls PyProof.Rows
theorem zmp {P:Params} {h:Heap}:∀(ns:List Int) (vs:List Value),WellAll P h vs (ns.map WData.int)->IntsAre vs ns:=by
 intro ns
 induction ns with
 | nil =>
   intro vs w;rw[qep] at w;cases w;exact .nil
 | cons n ns ih =>
   intro vs w;rw[qbl] at w;cases w with
   | cons a b =>
     cases a;exact .cons _ _ (ih _ b)
theorem zvp {l:OpenLaw} {n:Nat} (hn:l.most=some n) {P:Params} {h:Heap} {args:List WData} {vals:List Value}
   (hpre:l.row.toRowW.claim.pre args=true) (hwl:WellAll P h vals args) :
   ∃a vs ns,vals=[Value.ref a]/\args=[WData.list (ns.map WData.int)]/\h.get? a=some { cls:=.type "list",data:=.seq vs.toArray }/\IntsAre vs ns/\ns.length<=n:=by
 have hsh:WShape.hasAll [] args [.list .int]=true:=(pre_splitW hpre).1;have hc:l.pre.holds [] { args:=args }=true:=(pre_splitW hpre).2;obtain⟨d,r,rfl,h1,h2⟩:=hasAllW_cons hsh;obtain rfl:=hasAllW_nil h2;obtain⟨xs,rfl,h3⟩:=hasW_list h1;obtain⟨ns,rfl⟩:=items_int h3;have hlen:ns.length<=n:=by
   unfold OpenLaw.pre at hc;have h4:(WTm.not (.lt (.lit (.int (n:Int))) (.len (.arg 0)))).holds [] { args:=[.list (ns.map .int)] }=true:=by have h4:=(holds_andW hc).1;rw[hn] at h4;exact h4
   have h5:=condW_of h4 (w_not (w_lt w_lit (w_len_list (w_arg rfl))));rw[List.length_map] at h5;refine Nat.le_of_not_lt λq=>?_;have q':(n:Int)<((ns.length:Nat):Int):=by omega
   first
     | (rw[decide_eq_true q'] at h5; exact absurd h5 (by decide))
     | (simp at h5; omega)
 cases hwl with
 | cons w1 w2 =>
   cases w2;cases w1 with
   | list ho hall=>exact⟨_,_,ns,rfl,rfl,ho,zmp ns _ hall,hlen⟩
theorem zxs (l:OpenLaw) (args:List WData):l.row.toRowW.claim.post args (.bool true) args=true :=
 postW_of (r:=l.row.toRowW) (X:=(true==true))
   (show WShape.has [] (.bool true) .bool=true by first|rfl|decide|simp [WShape.has,WShape.arms,WShape.armsAll])
   (show(WTm.eq .res (.lit (.bool true))).value [] { args:=args,res:=some (.bool true),after:=args }=some (.bool (true==true)) from w_eq_bool (w_res rfl) w_lit) rfl
theorem attach_call {l:OpenLaw} {n:Nat} {q:Program} {loose:List Str} {XP:(Str->Option Value)->Heap->Prop} {YP:World->Heap->Prop} {d:DefRec}
   (hn:l.most=some n) (hdf:d.params.defaults=[])
   (call:∀(w:World) (s₀ s₁:Shared) (mg mb:Str->Option Value) (fa:Addr) (o:Obj) (pm cd doc:Value) (a:Addr) (vs:List Value) (ns:List Int),
     Ground q loose [] XP w s₀ mg mb s₁.heap->YP w s₁.heap ->
     s₁.heap.get? fa=some o->o.data=.func (docDef d.name d.params d.body d.scope pm cd doc)->s₁.heap.CodeRec cd d.name->mg d.name=some (.ref fa) ->
     s₁.heap.get? a=some { cls:=.type "list",data:=.seq vs.toArray }->IntsAre vs ns->ns.length<=n->s₁.gens=#[] ->
     codeAny (model l.prog w) callerA (.call (.ref fa) ⟨[.ref a],[]⟩) (λr s'=>r=.ok (.ret (.bool true))/\OldK s₁.heap s'.heap/\s'.os=s₁.os/\AllBare s'.gens) s₁) :
   WalkO q loose XP YP l.row.toRowW d [] (λf vs=>PySem.call f vs):=by
 intro w s₀ s₁ mg mb G Y fa o pm cd doc dV kV ho hd hcd hD hmg hg args vals as hpre hlay hrd hwl hlo;obtain rfl:dV=.none:=Dflts.none hD hdf;obtain rfl:kV=.none:=Dflts.noKw hD;obtain⟨a,vs,ns,rfl,rfl,hobj,hints,hlen⟩:=zvp hn hpre hwl;refine enter_call (qd2 (call w s₀ s₁ mg mb fa o pm cd doc a vs ns G Y ho (fd_plain hd) hcd hmg hobj hints hlen hg) λr s' hq=>?_);obtain⟨rfl,h2,h3,h4⟩:=hq;exact⟨.inl ⟨.bool true,.bool true,[],rfl,λ_=>rfl,.bool true,zxs l _,λ_=>⟨List.Pairwise.nil,λ_ hm=>(nomatch hm)⟩⟩,h2,h3,h4⟩
end Att
namespace L2
open PySem PySem.Spec PyProof.Rows
theorem zpy:∀{vs:List Value} {ns:List Int},IntsAre vs ns->zcp (ns.map V.int) vs
 | _,_,.nil=>.nil
 | _,_,.cons n t h=>.cons ⟨t,rfl⟩ (zpy h)
def z6j (H:Hp):Prop:=∀b,H b=none\/∃o xs,H b=some (.frz o (.lst xs))
variable {x:Str}
theorem z0d {P:Program} {w:World} {K:W.Frag} {mg mb:Str->Option Value} {CX:CXT} {k:Nat} {fa a:Addr} {fd:FuncData} {sp:Sp} {s₁:Shared} {vs:List Value} {ns:List Int}
   (KX:K.In s₁.heap) (hns:s₁.heap.Ns mainGlobals mg) (hb:s₁.heap.Ns builtinsNs mb) (hbb:∀x:Str,x≠"__name__"->mb x=bootBuiltins x) (hlim:s₁.heap.NoLimit) (hg:s₁.gens=#[])
   (ha:s₁.heap.get? a=some { cls:=.type "list",data:=.seq vs.toArray }) (hi:IntsAre vs ns) (hl:ns.length<=sizeLine) (hr:Room k callerA)
   (F:∀base:Heap,K.In base->base.Ns mainGlobals mg->FnOk P w K mg base CX k fa fd [x] sp) (hbind:∀(s:Shared) (u:Value),BindsTo s fd ⟨[u],[]⟩ [(x,u)])
   (hsp:∀H:Hp,z6j H->SqL K H a (ns.map V.int)->sp [.ref a] H (λv _=>v=.bl true) λ_ _ _=>False)
   (hCX:∀H e s',CX [] H s₁ (λ_ _ _=>False) e s'->False) :
   codeAny (model P w) callerA (.call (.ref fa) ⟨[.ref a],[]⟩) (λr s'=>r=.ok (.ret (.bool true))/\OldK s₁.heap s'.heap/\s'.os=s₁.os/\AllBare s'.gens) s₁:=by
 have rv:=zpy hi;have lenV:=hi.length
 -- from an abstract heap in which nothing but the script may be tracked
 have core:∀H:Hp,z6j H->SqL K H a (ns.map V.int)->HOk P w H s₁.heap->(∀b,H b≠none->b=a)->(H a≠none->K.lookup a=none) ->
     codeAny (model P w) callerA (.call (.ref fa) ⟨[.ref a],[]⟩) (λr s'=>r=.ok (.ret (.bool true))/\OldK s₁.heap s'.heap/\s'.os=s₁.os/\AllBare s'.gens) s₁:=by
   intro H hO hS hok hA hK;have base_of:∀{b:Addr} {o:Obj},s₁.heap.get? b=some o->H b=none->(zz5 s₁.heap H).get? b=some o:=λe n=>zzq e n;have noA:∀{b:Addr} {o:Obj} {es:Array DictEntry} {ep:Nat},s₁.heap.get? b=some o->o.data=.dict es ep->H b=none:=λ{b o es ep} e d=>by
     cases q:H b with
     | none=>rfl
     | some u =>
       have e':b=a:=hA b (by rw[q]; simp);subst e';rw[ha] at e; cases e;have d':Data.seq vs.toArray _=Data.dict es ep:=d;cases d'
   have nsK:∀{b:Addr} {m:Str->Option Value},s₁.heap.Ns b m->(zz5 s₁.heap H).Ns b m:=λ{b m} ⟨o,es,ep,e,d,r⟩=>⟨o,es,ep,base_of e (noA e d),d,r⟩
   have hKb:K.In (zz5 s₁.heap H):=λb o e=>base_of (KX b o e) (by
     cases q:H b with
     | none=>rfl
     | some u =>
       have e':b=a:=hA b (by rw[q]; simp);subst e';rw[hK (by rw[q]; simp)] at e; cases e)
   have hM:Mod K mg (zz5 s₁.heap H):=⟨hKb,nsK hns,⟨mb,nsK hb,hbb⟩,let ⟨mc,h1,h2⟩:=hlim; ⟨mc,nsK h1,h2⟩⟩
   have e0:Env0 P w K mg (zz5 s₁.heap H) callerA [] s₁ H:=⟨rfl,hM,λb o e=>z27 e,Nat.le_of_eq (zww _ _),trivial,λb hb=>absurd (show b∈([]:List Addr) from hb) (by simp),hok,.of_eq hg⟩
   refine qd2 ((F _ hKb (nsK hns)).run callerA [] s₁ H ⟨[.ref a],[]⟩ [.ref a] [.ref a] _ _ hr e0 (hbind s₁ (.ref a)) (.cons rfl .nil) (hsp H hO hS)) λr s' h=>?_;cases r with
   | error e=>exact(hCX H e s' h).elim
   | ok fl =>
     cases fl with
     | next=>exact False.elim h
     | brk=>exact False.elim h
     | cont=>exact False.elim h
     | ret u =>
       obtain⟨v,H',os,bare,un,hok',r',q⟩:=h;have q':v=.bl true:=q;subst q';obtain rfl:u=Value.bool true:=r';refine⟨rfl,OldK.of_keep λb o e=>?_,os,bare⟩;cases q:H b with
       | none=>exact un.keep b o e q (by intro z; exact absurd (show b∈([]:List Addr) from z) (by simp)) (by simp)
       | some u =>
         rcases hO b with z|⟨ob,xs,z⟩
         . rw[q] at z; cases z
         . have z2:=un.frzs b ob _ z;obtain⟨e1,_⟩:=hok b _ z;obtain⟨e2,_⟩:=hok' b _ z2;rw[e] at e1; cases e1;exact e2
 cases hk:K.lookup a with
 | some o =>
   -- the script is one of the module's own objects
   have e:=KX a o hk;rw[ha] at e;cases e;refine core (λ_=>none) (λ_=>.inl rfl) (.inr ⟨_,vs.toArray,_,hk,rfl,rfl,rfl,by rw[qaw,lenV]; exact hl,by simpa using rv⟩) (λb u z=>by have z':(none:Option HO)=some u:=z; cases z') (λb z=>absurd rfl z) λz=>absurd rfl z
 | none =>
   refine core (λb=>if b=a then some (.frz { cls:=.type "list",data:=.seq vs.toArray } (.lst (ns.map V.int))) else none) (λb=>?_) (.inl (.inr ⟨{ cls:=.type "list",data:=.seq vs.toArray },if_pos rfl⟩)) (λb u z=>?_) (λb z=>?_) λ_=>hk
   . by_cases hb:b=a
     . exact .inr ⟨_,_,if_pos hb⟩
     . exact .inl (if_neg hb)
   . by_cases hb:b=a
     . have z':=(if_pos hb).symm.trans z;cases z';subst hb;exact⟨ha,by rw[List.length_map]; exact hl,vs,_,rv,ha⟩
     . have z':=(if_neg hb).symm.trans z;cases z'
   . by_cases hb:b=a
     . exact hb
     . exact absurd (if_neg hb) z
abbrev KOf {K:W.Frag} {h:Heap} (_:K.In h):W.Frag:=K
theorem z22 {l:PySem.W.OpenLaw} {n k:Nat} {q:Program} {loose:List Str} {XP:(Str->Option Value)->Heap->Prop} {YP:World->Heap->Prop} {d:DefRec} {K:Params->W.Frag} {CX:World->CXT} {sp:World->Sp} 
   (hn:l.most=some n) (hn2:n<=sizeLine) (hdf:d.params.defaults=[]) (hr:Room k callerA)
   (hY:∀(w:World) (h:Heap),YP w h->(K w.params).In h)
   (F:∀(w:World) (mg:Str->Option Value) (fa:Addr) (h:Heap),(K w.params).In h->h.Ns mainGlobals mg->mg d.name=some (.ref fa) ->
     ∃fd:FuncData,(∀(s:Shared) (u:Value),BindsTo s fd ⟨[u],[]⟩ [(x,u)]) /\
       ∀base:Heap,(K w.params).In base->base.Ns mainGlobals mg->FnOk l.prog w (K w.params) mg base (CX w) k fa fd [x] (sp w))
   (hsp:∀(w:World) (H:Hp) (a:Addr) (ns:List Int),ns.length<=n->z6j H->SqL (K w.params) H a (ns.map V.int)->sp w [.ref a] H (λv _=>v=.bl true) λ_ _ _=>False)
   (hCX:∀(w:World) (H:Hp) (s:Shared) (e:Value) (s':Shared),CX w [] H s (λ_ _ _=>False) e s'->False) :
   PySem.W.WalkO q loose XP YP l.row.toRowW d [] (λf vs=>PySem.call f vs):=by
 refine Att.attach_call hn hdf λw s₀ s₁ mg mb fa o pm cd doc a vs ns G Y ho hd hcd hmg hobj hints hlen hg=>?_;have KX:=hY w _ Y;obtain⟨fd,hb,hF⟩:=F w mg fa _ KX G.T.g hmg;exact z0d KX G.T.g G.T.b G.T.builtins G.T.nolimit hg hobj hints (qa7 hlen hn2) hr hF hb (λH hO hS=>hsp w H a ns hlen hO hS) λH e s'=>hCX w H s₁ e s'
theorem walk_ofK {l:PySem.W.OpenLaw} {n k:Nat} {q:Program} {loose:List Str} {XP:(Str->Option Value)->Heap->Prop} {YP:World->Heap->Prop} {d:DefRec} {K:Params->W.Frag} {CX:CXT} {sp:W.Frag->Sp} 
   (hn:l.most=some n) (hn2:n<=sizeLine) (hdf:d.params.defaults=[]) (hr:Room k callerA)
   (hY:∀(w:World) (h:Heap),YP w h->(K w.params).In h)
   (F:∀(w:World) (mg:Str->Option Value) (fa:Addr) (h:Heap),(K w.params).In h->h.Ns mainGlobals mg->mg d.name=some (.ref fa) ->
     ∃fd:FuncData,(∀(s:Shared) (u:Value),BindsTo s fd ⟨[u],[]⟩ [(x,u)]) /\
       ∀base:Heap,(K w.params).In base->base.Ns mainGlobals mg->FnOk l.prog w (K w.params) mg base CX k fa fd [x] (sp (K w.params)))
   (hsp:∀(K:W.Frag) (H:Hp) (a:Addr) (ns:List Int),ns.length<=n->z6j H->SqL K H a (ns.map V.int)->sp K [.ref a] H (λv _=>v=.bl true) λ_ _ _=>False)
   (hCX:∀(H:Hp) (s:Shared) (e:Value) (s':Shared),CX [] H s (λ_ _ _=>False) e s'->False) :
   PySem.W.WalkO q loose XP YP l.row.toRowW d [] (λf vs=>PySem.call f vs) :=
 z22 (K:=K) (CX:=λ_=>CX) (sp:=λw=>sp (K w.params)) hn hn2 hdf hr hY F (λw H a ns h1 h2 h3=>hsp (K w.params) H a ns h1 h2 h3) λ_ H s e s'=>hCX H s e s'
def zfj (s:Stmt) (j:Nat):Stmt:=match s with
 | .ClassDef _ _ _ body _ _ _ _ _ _ _=>body.getD j (.Pass ⟨0,0,0,0⟩)
 | _=>.Pass ⟨0,0,0,0⟩
def zdu (s:Stmt):Arguments:=match s with
 | .FunctionDef _ a _ _ _ _ _ _ _ _=>a
 | _=>{ posonlyargs:=[],args:=[],vararg:=none,kwonlyargs:=[],kw_defaults:=[],kwarg:=none,defaults:=[] }
def zc8 (s:Stmt):List Stmt:=match s with
 | .FunctionDef _ _ b _ _ _ _ _ _ _=>b
 | _=>[]
def zah (s:Stmt):Scope:=match s with
 | .FunctionDef _ _ _ _ _ _ sc _ _ _=>sc
 | _=>{ kind:=.function,names:=[],isGenerator:=false,isCoroutine:=false }
abbrev CX0:CXT:=λ_ _ _ _ _ _=>False
abbrev E0:XK:=λ_ _ _=>False
theorem z58 {X:Cx}:zg9 CX0 X E0:=λ_ _ _ _ _ _ _ h=>h.elim
structure Fun (K:W.Frag) (x qual:Str) (st:Stmt) (f:Addr) (fd:FuncData):Prop where
 ex:∃(oc:Value) (od:Option Addr) (kV doc pm:Value) (an:Option Addr) (cdv ct:Value) (osl:Array (Option Value)),
   fd=PySem.W.fnOf x qual (zdu st) (zc8 st) (zah st) .none kV doc pm an cdv ct/\K.lookup f=some ⟨oc,od,.func fd,osl⟩/\PySem.W.codeIn K cdv qual=true
 kp:PySem.W.keepIn K (.ref f)=true
variable {qual:Str}
section
variable {P:Program} {w:World} {K:W.Frag} {mg:Str->Option Value} {base:Heap}
theorem Fun.ok {st:Stmt} {f:Addr} {fd:FuncData} {N ps:List Str} {k:Nat} {sp:Sp} (F:Fun K x qual st f fd) (S:FnScope N ps (zah st)) (len:∀vs H Q E,sp vs H Q E->vs.length=ps.length)
   (hbody:∀(cdv:Value) (A:Around) (outer:List Env) (s:Shared) (H:Hp) (vs:List V) (Q:VK) (E:XK),Room k (A.deeper (envOfC qual (zah st) s.heap.objs.size f cdv))->sp vs H Q E ->
     ∃t,PSs (zfb CX0 P w K mg base N qual (zah st) f cdv A outer s H E).nox (zc8 st) t/\t { nx:=λ_ H'=>Q .non H',rt:=Q } (zoo N vs) H):FnOk P w K mg base CX0 (k+1) f fd ps sp:=by
 obtain⟨oc,od,kV,doc,pm,an,cdv,ct,osl,rfl,lk,hcd⟩:=F.ex;refine z5h lk hcd S len λA outer s H vs Q E hr hsp=>?_;obtain⟨t,h,q⟩:=hbody cdv A outer s H vs Q E hr hsp;exact⟨t,h.nox,q⟩
theorem Fun.binds {st:Stmt} {f:Addr} {fd:FuncData} {ps:List Str} (F:Fun K x qual st f fd)
   (h:∀(kV doc pm:Value) (an:Option Addr) (cdv ct:Value) (us:List Value),us.length=ps.length->bindArgs (PySem.W.fnOf x qual (zdu st) (zc8 st) (zah st) .none kV doc pm an cdv ct) ⟨us,[]⟩=pure (ps.zip us)):zk9 K fd ps []:=by
 obtain⟨oc,od,kV,doc,pm,an,cdv,ct,osl,rfl,lk,hcd⟩:=F.ex;exact .all (h kV doc pm an cdv ct)
theorem zns {st:Stmt} {f:Addr} {oc:Value} {od an:Option Addr} {osl:Array (Option Value)} {kV doc pm cdv ct:Value} (l:K.lookup f=some ⟨oc,od,.func (PySem.W.fnOf x qual (zdu st) (zc8 st) (zah st) .none kV doc pm an cdv ct),osl⟩)
   (c:PySem.W.codeIn K cdv qual=true) (k:PySem.W.keepIn K (.ref f)=true):Fun K x qual st f (PySem.W.fnOf x qual (zdu st) (zc8 st) (zah st) .none kV doc pm an cdv ct):=⟨⟨oc,od,kV,doc,pm,an,cdv,ct,osl,rfl,l,c⟩,k⟩
end
theorem zqc {n:Nat} (h:n<=1000):n<sizeLine:=Nat.lt_of_le_of_lt h (by decide)
section
variable {X:Cx}
theorem pv (i:Nat) {pos:Pos} (hN:X.N[i]?=some x:=by rfl) (hv:Vis X.env.scope x:=by first|exact Or.inl rfl|exact Or.inr (Or.inl rfl)|exact Or.inr (Or.inr rfl)) (hd:(x==("__debug__":Str))=false:=by decide)
   (hcd:(x==("__classdict__":Str))=false:=by decide):PE X (.Name x pos) (tVar i):=z4c hN hv hd hcd
end
theorem z3v {A B:Prop} (h:B):if false=true then A else B:=by rw[if_neg qas];exact h
theorem iteT {A B:Prop} (h:A):if true=true then A else B:=by rw[if_pos rfl];exact h
theorem z3j {c A B:Prop} [Decidable c] (h1:c->A) (h2:¬ c->B):if c then A else B:=by
 by_cases h:c
 . rw[if_pos h];exact h1 h
 . rw[if_neg h];exact h2 h
def Same (H H':Hp):Prop:=∀b o,H b=some o->H' b=some o
theorem Same.refl (H:Hp):Same H H:=λ_ _ h=>h
theorem Same.trans {H H1 H2:Hp} (a:Same H H1) (b:Same H1 H2):Same H H2:=λc o h=>b c o (a c o h)
theorem Same.free {H H':Hp} (e:Same H H') {l:Addr} (h:H' l=Option.none):H l=Option.none:=by
 cases q:H l with
 | none=>rfl
 | some o =>
   rw[e l o q] at h;cases h
theorem Same.seq {K:W.Frag} {H H':Hp} {a:Addr} {xs:List V} (e:Same H H') (h:SqL K H a xs):SqL K H' a xs:=by
 rcases h with(h|⟨o,h⟩)|h
 . exact .inl (.inl (e _ _ h))
 . exact .inl (.inr ⟨o,e _ _ h⟩)
 . exact .inr h
end L2
set_option maxHeartbeats 4000000
namespace L2
open PySem PySem.Spec PyProof.Rows
def zf5:List (Str×NameKind)->List (Str×Addr)->List (Str×Addr)->List (Str×Addr)
 | [],_,acc=>acc
 | (n,k) :: r,cells,acc=>if k==.free then zf5 r cells ((n,(cells.lookup n).getD 0) :: acc) else zf5 r cells acc
theorem zqw {env:Env}:∀(names:List (Str×NameKind)) (acc:List (Str×Addr)),(∀y∈names,y.2=.free->∃c,env.cells.lookup y.1=some c) ->
   (forIn names acc λx r=>(match x with|(name,kind)=>if(kind==NameKind.free)=true then do let a <- cellOf env name; pure (ForInStep.yield ((name,a) :: r)) else pure (ForInStep.yield r):Sem (ForInStep (List (Str×Addr)))))=(pure (zf5 names env.cells acc):Sem (List (Str×Addr)))
 | [],acc,_=>rfl
 | (n,k) :: r,acc,h=>by
   have ih:=λacc=>zqw (env:=env) r acc λy hy=>h y (qba _ hy);rw[qd4];unfold zf5;cases hk:(k==NameKind.free) with
   | true =>
     obtain⟨c,hc⟩:=h (n,k) qbh (by simpa using hk);have hc:env.cells.lookup n=some c:=hc;have e:cellOf env n=pure c:=by unfold cellOf; rw[hc]
     simp only[hk,if_true,e,pure_bind,hc,Option.getD_some];exact ih _
   | false =>
     simp only[hk,qcw,if_false,pure_bind];exact ih _
variable {scope:Scope}
theorem zsp {env:Env} (h:∀y∈scope.names,y.2=.free->∃c,env.cells.lookup y.1=some c):closureFor scope env=pure (zf5 scope.names env.cells []):=by
 have e:=zqw (env:=env) scope.names [] h;unfold closureFor
 first
   | (rw[e]; rfl)
   | (simp only[e]; rfl)
   | exact(qa0 (λt=>t >>= λr=>pure r) e)
theorem zi7 {cells:List (Str×Addr)}:∀(names:List (Str×NameKind)) (acc:List (Str×Addr)),(∀y∈names,y.2=.free->∃c,cells.lookup y.1=some c)->(∀x c,acc.lookup x=some c->cells.lookup x=some c) ->
   ∀x c,(zf5 names cells acc).lookup x=some c->cells.lookup x=some c
 | [],acc,_,h2=>h2
 | (n,k) :: r,acc,h,h2=>by
   unfold zf5;cases hk:(k==NameKind.free) with
   | true =>
     rw[if_pos rfl];refine zi7 r _ (λy hy=>h y (qba _ hy)) λx c e=>?_;obtain⟨c',hc⟩:=h (n,k) qbh (by simpa using hk);have hc:cells.lookup n=some c':=hc;rw[qcl] at e;cases hx:x==n with
     | true =>
       have hx':x=n:=by simpa using hx
       rw[hx] at e;rw[hx',hc];simpa [hc] using e
     | false =>
       rw[hx] at e;exact h2 x c e
   | false =>
     rw[if_neg (by simp)];exact zi7 r _ (λy hy=>h y (qba _ hy)) h2
theorem zma {cells:List (Str×Addr)} {x:Str}:∀(names:List (Str×NameKind)) (acc:List (Str×Addr)),(acc.lookup x).isSome=true->((zf5 names cells acc).lookup x).isSome=true
 | [],_,h=>h
 | (n,k) :: r,acc,h=>by
   unfold zf5;split
   . refine zma r _ ?_;rw[qcl];cases x==n <;> simp [h]
   . exact zma r _ h
theorem zi5 {cells:List (Str×Addr)} {x:Str}:∀(names:List (Str×NameKind)) (acc:List (Str×Addr)),(x,NameKind.free)∈names->((zf5 names cells acc).lookup x).isSome=true
 | (n,k) :: r,acc,h=>by
   unfold zf5;rcases qay.mp h with e|e
   . cases e;rw[if_pos (by rfl)];exact zma r _ (by rw[qcl]; simp)
   . split
     . exact zi5 r _ e
     . exact zi5 r _ e
def zbx (X:Cx) (N':List Str) (scope:Scope) (C:Addr) (s:Shared) (H:Hp) (fp:List Addr):Cx :=
 { X with N:=N',s₀:=s,H₀:=H,env:=compEnvC scope (zf5 scope.names X.env.cells []) C X.env,outer:=X.stack,stack:=X.stack,ex:=fp,fn:=λ_=>false,pn:=[],xe:=λ_ _=>False }
def cap (js:List (Option Nat)) (σ:St):St:=js.map λo=>o.bind λj=>(σ[j]?).join
def zmn (scope osc:Scope) (N' N:List Str) (js:List (Option Nat)):Bool :=
 (scope.kind==.function)&&(scope.names.all λy=>y.2 != .cell&&(if y.2==.local then scope.names.lookup y.1==some .local else true) &&
   (if y.2==.free then osc.names.lookup y.1==some .cell || osc.names.lookup y.1==some .free else true)) &&
 js.length==N'.length&&((js.zip N').all λq=>match q.1 with
   | none=>true
   | some j=>N[j]?==some q.2&&(osc.names.lookup q.2==some .cell || osc.names.lookup q.2==some .free)&&scope.names.lookup q.2==some .free)
structure CompOk (scope osc:Scope) (N' N:List Str) (js:List (Option Nat)):Prop where
 kind:scope.kind=.function
 nocell:∀y∈scope.names,y.2≠.cell
 names:∀y∈scope.names,y.2=.local->scope.names.lookup y.1=some .local
 free:∀y∈scope.names,y.2=.free->osc.names.lookup y.1=some .cell\/osc.names.lookup y.1=some .free
 len:js.length=N'.length
 slots:∀(i j:Nat) (x:Str),js[i]?=some (some j)->N'[i]?=some x->N[j]?=some x/\(osc.names.lookup x=some .cell\/osc.names.lookup x=some .free)/\scope.names.lookup x=some .free
variable {N':List Str} {js:List (Option Nat)}
theorem zpg {osc:Scope}{N:List Str}(h:zmn scope osc N' N js=true):CompOk scope osc N' N js:=by
 unfold zmn at h;rw[qa3,qa3,qa3,qcm,qcm] at h;obtain⟨⟨⟨h1,h2⟩,h3⟩,h4⟩:=h;refine⟨by cases hk:scope.kind <;> first|rfl|(rw[hk] at h1; cases h1),λy hy e=>?_,λy hy e=>?_,λy hy e=>?_,by simpa using h3,λi j x e1 e2=>?_⟩
 . have q:=h2 y hy;rw[e] at q;simp at q
 . have q:=h2 y hy;rw[qa3,qa3] at q;have q2:=q.1.2;rw[e] at q2;simpa using q2
 . have q:=h2 y hy;rw[qa3,qa3] at q;have q2:=q.2;rw[e] at q2;simpa using q2
 . have hm:(some j,x)∈js.zip N':=by refine List.mem_of_getElem? (i:=i) ?_;rw[List.getElem?_zip_eq_some];exact⟨e1,e2⟩
   have q:=h4 _ hm;simp only[qa3,qe5,qdq] at q;exact⟨q.1.1,q.1.2,q.2⟩
theorem zgd {env:Env}:∀(names:List (Str×NameKind)) (x:Str),names.lookup x=some .free ->
   ((names.map λ(n,k)=>if(k==NameKind.free&&env.scope.kind==.function&&env.kindOf n==some .cell) then(n,NameKind.cell) else(n,k)).lookup x=some .cell \/
     (names.map λ(n,k)=>if(k==NameKind.free&&env.scope.kind==.function&&env.kindOf n==some .cell) then(n,NameKind.cell) else(n,k)).lookup x=some .free)
 | [],x,h=>by simp at h
 | (n,k) :: r,x,h=>by
   have ih:=zgd (env:=env) r x;rw[qbl];rw[qcl] at h;by_cases hb:(k==NameKind.free&&env.scope.kind==.function&&env.kindOf n==some .cell)=true
   . have e1:(if(k==NameKind.free&&env.scope.kind==.function&&env.kindOf n==some .cell)=true then(n,NameKind.cell) else(n,k))=(n,NameKind.cell):=if_pos hb;simp only[e1,qcl];cases hx:x==n with
     | true=>exact .inl rfl
     | false =>
       rw[hx] at h;exact ih h
   . have e1:(if(k==NameKind.free&&env.scope.kind==.function&&env.kindOf n==some .cell)=true then(n,NameKind.cell) else(n,k))=(n,k):=if_neg hb;simp only[e1,qcl];cases hx:x==n with
     | true =>
       rw[hx] at h;exact .inr h
     | false =>
       rw[hx] at h;exact ih h
theorem zhn {scope:Scope} {env:Env}:∀(names:List (Str×NameKind)) (x:Str),(∀y∈names,y.2≠.cell) ->
   ((names.map λ(n,k)=>if(k==NameKind.free&&env.scope.kind==.function&&env.kindOf n==some .cell) then(n,NameKind.cell) else(n,k)).lookup x=some .cell \/
     (names.map λ(n,k)=>if(k==NameKind.free&&env.scope.kind==.function&&env.kindOf n==some .cell) then(n,NameKind.cell) else(n,k)).lookup x=some .free)->(x,NameKind.free)∈names
 | [],x,_,h=>by simp at h
 | (n,k) :: r,x,hc,h=>by
   have ih:=zhn (scope:=scope) (env:=env) r x λy hy=>hc y (qba _ hy);rw[qbl] at h;by_cases hb:(k==NameKind.free&&env.scope.kind==.function&&env.kindOf n==some .cell)=true
   . have hkf:k=.free:=by rw[qa3,qa3] at hb;simpa using hb.1.1
     have e1:(if(k==NameKind.free&&env.scope.kind==.function&&env.kindOf n==some .cell)=true then(n,NameKind.cell) else(n,k))=(n,NameKind.cell):=if_pos hb;simp only[e1,qcl] at h;cases hx:x==n with
     | true =>
       have hx':x=n:=by simpa using hx
       rw[hx',hkf];exact qbh
     | false =>
       rw[hx] at h;exact qba _ (ih h)
   . have e1:(if(k==NameKind.free&&env.scope.kind==.function&&env.kindOf n==some .cell)=true then(n,NameKind.cell) else(n,k))=(n,k):=if_neg hb;simp only[e1,qcl] at h;cases hx:x==n with
     | true =>
       have hx':x=n:=by simpa using hx
       rw[hx] at h;rcases h with h|h
       . exact absurd (Option.some.inj h) (hc (n,k) qbh)
       . have hkf:k=.free:=Option.some.inj h;rw[hx',hkf];exact qbh
     | false =>
       rw[hx] at h;exact qba _ (ih h)
variable {H:Hp}
theorem Un.sameBut {fs ex:List Addr} {H':Hp}{h h1 h2:Heap} {C:Addr} (u:Un fs ex H H' h h1) (hs:Heap.SameBut C h1 h2) (hC:h.objs.size<=C):Un fs ex H H' h h2:=by
 have ne:∀b o,h.get? b=some o->b≠C:=λb o e=>qa6 (Nat.lt_of_lt_of_le (Heap.lt_size e) hC);refine⟨λb o e n hb hx=>(hs.2 b (ne b o e)).trans (u.keep b o e n hb hx),λb o e n hb hx=>?_,u.free,λb o e hx=>?_,u.tups,u.frzs,u.tbls⟩
 . obtain⟨sl,q⟩:=u.slot b o e n hb hx;exact⟨sl,(hs.2 b (ne b o e)).trans q⟩
 . obtain⟨o',q⟩:=u.there b o e hx;exact⟨o',(hs.2 b (ne b o e)).trans q⟩
theorem zv3 {α:Type} {t:Sem α} {Q Q':α->Shared->Prop} {M:Model} {A:Around} {E:Value->Shared->Prop} {s:Shared} (h:wpAny M A t Q (λ_ _=>False) s) (hQ:∀a s,Q a s->Q' a s):wpAny M A t Q' E s:=qb0 h hQ λ_ _ f=>f.elim
variable {elt target iter:Expr} {ifs:List Expr} {pos:Pos}
theorem zx2 {prog:Program} {w:World} {A:Around} {R:Result->Shared->Prop} {s:Shared} {it acc:Value} {env:Env} (I:Nat->Shared->Prop)
   (turn:∀n s,I n s->wpAny (model prog w) A (pyNext it) (λr s₁=>match r with
     | none=>R (.ok .next) s₁
     | some v=>wpAny (model prog w) A (letOwnedTupleGo target it v) (λ_ s₂=>wpAny (model prog w) A (assign target env v) (λ_ s₃ =>
         wpAny (model prog w) A (forIn ifs true λc r=>if r=true then do let ok <- isTrue c env (eval c env); pure (ForInStep.yield ok) else pure (ForInStep.yield r)) (λok s₄ =>
           if ok=true then wpAny (model prog w) A (eval elt env) (λx s₅ =>
             wpAny (model prog w) A (call (.builtin "list.append") [acc,x]) (λ_ s₆=>∃m,m<n/\I m s₆) (λ_ _=>False) s₅) (λ_ _=>False) s₄
           else ∃m,m<n/\I m s₄) (λ_ _=>False) s₃) (λ_ _=>False) s₂) (λ_ _=>False) s₁) (λ_ _=>False) s)
   (n:Nat) (h:I n s):codeAny (model prog w) A (.compLoop (.ListComp elt [⟨target,iter,ifs,0⟩] scope pos) 0 it acc env) R s:=by
 refine codeAny_loop rfl I (λn s hI=>?_) n h;show wpAny _ A ((compTurn (.ListComp elt [⟨target,iter,ifs,0⟩] scope pos) 0 it acc env).onRaise (λx=>do noteFrame x env; theTreesLotGoes x)) _ _ s;refine wpAny_noted ?_;rw[compTurn_list];refine wpAny_bind (qc9 (wpAny_bind (zv3 (turn n s hI) λr s₁ h₁=>?_)));cases r with
 | none=>exact wpAny_pure h₁
 | some v =>
   refine wpAny_bind (zv3 h₁ λ_ s₂ h₂=>wpAny_bind (zv3 h₂ λ_ s₃ h₃=>wpAny_bind (zv3 h₃ λok s₄ h₄=>?_)));cases ok with
   | false=>exact wpAny_pure ⟨rfl,h₄⟩
   | true =>
     exact wpAny_bind (wpAny_bind (zv3 h₄ λx s₅ h₅=>wpAny_bind (zv3 h₅ λ_ s₆ h₆=>wpAny_pure (wpAny_pure ⟨rfl,h₆⟩))))
def PIf (X:Cx) (ifs:List Expr) (t:TT):Prop :=
 ∀(pins:List (Addr×Obj)) (s:Shared) (σ:St) (H:Hp) (Q:Bool->Hp->Prop),Inv X pins σ H s->t σ H Q ->
   wpAny (model X.prog X.w) X.A (forIn ifs true λc r=>if r=true then do let ok <- isTrue c X.env (eval c X.env); pure (ForInStep.yield ok) else pure (ForInStep.yield r)) (TP X pins σ Q) X.xe s
def tYes:TT:=λ_ H Q=>Q true H
variable {X:Cx}
theorem zcw :PIf X [] tYes:=λ_ _ _ H _ I h=>wpAny_tests_nil ⟨H,I,h⟩
theorem zwj {c:Expr} {t:TT} (h:PT X c t):PIf X [c] t:=λpins s σ H Q I hq=>wpAny_tests_one (h pins s σ H Q I hq)
def z2p (js:List (Option Nat)) (g:TG):Prop:=∀(x:V) (σ:St) (H:Hp) (Q:St->Hp->Prop),σ.length=js.length->g x σ H Q->g x σ H λσ' H'=>Q σ' H'/\σ'.length=js.length/\∀(i j:Nat),js[i]?=some (some j)->σ'[i]?=σ[i]?
def zy9 (js:List (Option Nat)) (g:TGs):Prop:=∀(x:List V) (σ:St) (H:Hp) (Q:St->Hp->Prop),σ.length=js.length->g x σ H Q->∀Q':St->Hp->Prop,(∀σ' H',Q σ' H'->σ'.length=js.length->(∀(i j:Nat),js[i]?=some (some j)->σ'[i]?=σ[i]?)->Q' σ' H')->g x σ H Q'
theorem zb6 {i:Nat} (h:js[i]?=some none:=by rfl):z2p js (zuo i):=λx σ H Q hl q=>⟨q,by rw[qch]; exact hl,λk j e=>by rw[qcr];intro z;subst z;rw[h] at e;cases e⟩
theorem zwy :zy9 js gNil:=λx σ H Q hl ⟨e,q⟩ Q' k=>⟨e,k _ _ q hl λ_ _ _=>rfl⟩
theorem zls {i:Nat} {u:TGs} (hu:zy9 js u) (h:js[i]?=some none:=by rfl):zy9 js (z41 (zuo i) u):=λx σ H Q hl ⟨v,r,e,q⟩ Q' k=>⟨v,r,e,by
 have hl':(σ.set i (some v)).length=js.length:=by rw[qch]; exact hl
 exact hu r (σ.set i (some v)) H Q hl' q _ λσ' H' z1 z2 z3=>k σ' H' z1 z2 λn j e=>(z3 n j e).trans (by rw[qcr];intro z;subst z;rw[h] at e;cases e)⟩
variable {K:W.Frag}
theorem zyb {n:Nat} {t:TGs} (h:zy9 js t):z2p js (z6n K n t):=λx σ H Q hl ⟨a,xs,e,sq,l,q⟩=>⟨a,xs,e,sq,l,h xs σ H Q hl q _ λσ' H' z1 z2 z3=>⟨z1,z2,z3⟩⟩
def zre (J:It) (g:TG) (tif:TT) (te:TE) (js:List (Option Nat)) (σ:St) (Q:VK) (p:Addr) (H1:Hp):Prop :=
 ∃W:Nat->Nat->List V->Hp->Prop,(∃m,W 0 m [] (upd H1 p (.lst [])))/\∀i m acc H2,W i m acc H2->H2 p=some (.lst acc) /\
   ((J.stop i H2/\Q (.ref p) H2)\/(J.go i H2/\acc.length<sizeLine/\∃N:List V->Hp->Prop,(∀acc' H',N acc' H'->∃m',m'<m/\W (i+1) m' acc' H') /\
     ∀x H',J.yld i H2 x H'->g x (cap js σ) H' λσ2 H3=>tif σ2 H3 λc H4 =>
       if c=true then te σ2 H4 λy H5=>H5 p=some (.lst acc)/\N (acc++[y]) (upd H5 p (.lst (acc++[y]))) else N acc H4))
def zxy (wi:TI) (g:TG) (tif:TT) (te:TE) (js:List (Option Nat)):TE:=λσ H Q=>wi σ H λJ H1=>∀p,H1 p=none->zre J g tif te js σ Q p H1
variable {wi:TI} {tif:TT} {te:TE}
theorem zqr {use:Option (Value->Sem Unit)} {Q':Value->Shared->Prop} {Q:VK} {pins:List (Addr×Obj)} {s:Shared} {σ:St} {g:TG} (hok:zmn scope X.env.scope N' X.N js=true) (hc:X.calm=true)
   (hi:PI X target iter wi) (ho:z2p js g) (hg:∀C s H fp,PG (zbx X N' scope C s H fp) target g) (hif:∀C s H fp,PIf (zbx X N' scope C s H fp) ifs tif) (he:∀C s H fp,PE (zbx X N' scope C s H fp) elt te)
   (hs:∀x,foldedSetIterable iter X.env x=pure x) (I:Inv X pins σ H s) (h:zxy wi g tif te js σ H Q)
   (hfin:∀(s2:Shared) (H2:Hp) (fp:List Addr) (C:Addr),Inv X pins σ H2 s2->(∀b∈fp,zq7 X pins H2 b)->s2.heap.objs.size<=C->∀(σ':St) (H':Hp) (s':Shared),Inv (zbx X N' scope C s2 H2 fp) [] σ' H' s'->Q (.ref s2.heap.objs.size) H' ->
     compPost (model X.prog X.w) X.A X.xe use Q' (.ref s2.heap.objs.size) C (.ok .next) s') :
   wpAny (model X.prog X.w) X.A (comprehension (.ListComp elt [⟨target,iter,ifs,0⟩] scope pos) scope X.env (firstIterPos [⟨target,iter,ifs,0⟩] pos) (newList []) false (eval iter X.env) use) Q' X.xe s:=by
 have O:=zpg hok;have hfr:∀y∈scope.names,y.2=.free->∃c,X.env.cells.lookup y.1=some c:=λy hy e=>I.ok.has y.1 (O.free y hy e);refine qeq (use:=use) rfl hs (zsp hfr) O.kind O.names (thn (hi pins s σ H _ I h) λv s1 h1=>thn h1 λitv s2 h2=>?_);obtain⟨it,fp,tn,J,H2,e,I2,T,st2,f2,hq⟩:=h2;subst e;have hf0:H2 s2.heap.objs.size=none:=I2.hok.fresh (qaj _);obtain⟨W,⟨m0,w0⟩,turn⟩:=hq _ hf0;refine qdf (wpAny_newFunctionEnv O.nocell (by intro y hy; simp at hy) (λh₁ hns₁ hsb₁=>?_) O.kind);dsimp only at hns₁ hsb₁ ⊢;generalize hH2:s2.heap.push { cls:=.type "list",dict:=none,data:=.seq ([]:List Value).toArray }=B at hns₁ hsb₁ ⊢;have hC:B.objs.size=s2.heap.objs.size+1:=by rw[<- hH2,qb4]
 have hCle:s2.heap.objs.size<=B.objs.size:=by rw[hC]; exact qcp _
 have old:∀b o,s2.heap.get? b=some o->h₁.get? b=some o:=λb o e=>hsb₁.extBut b o (by rw[hC]; exact qa6 (qem (Heap.lt_size e))) (Heap.get?_push_of_some _ (hH2 ▸ Heap.get?_push_of_some _ e));have hDC:s2.heap.objs.size≠B.objs.size:=by rw[hC]; exact qa6 (qcc _)
 have hacc:h₁.get? s2.heap.objs.size=some { cls:=.type "list",dict:=none,data:=.seq ([]:List Value).toArray }:=hsb₁.extBut _ _ hDC (Heap.get?_push_of_some _ (hH2 ▸ qat _ rfl));have fpO:∀b∈fp,b<s2.heap.objs.size:=λb hb=>by obtain⟨o,e,_⟩:=T.obj 0 _ st2 b hb;exact Heap.lt_size e
 have sub:∀x c,(zf5 scope.names X.env.cells []).lookup x=some c->X.env.cells.lookup x=some c:=zi7 scope.names [] hfr (λx c e=>by cases e);have hasC:∀x,((relabel scope X.env).names.lookup x=some .cell\/(relabel scope X.env).names.lookup x=some .free)->∃c,(zf5 scope.names X.env.cells []).lookup x=some c:=λx hx =>
   qc1.mp (zi5 scope.names [] (zhn (scope:=scope) (env:=X.env) scope.names x O.nocell hx))
 -- the block's context at its begin
 have IY:∀t,Inv (zbx X N' scope B.objs.size s2 H2 fp) [] (cap js σ) (upd H2 s2.heap.objs.size (.lst [])) { s2 with heap:=h₁,toks:=t }:=by
   intro t;refine⟨⟨I2.ok.mod,O.kind,I2.ok.glob,I2.ok.blt,hCle,λx y c h1 h2=>I2.ok.inj x y c (sub x c h1) (sub y c h2),λx hx=>hasC x hx,λx c h=>(by cases h),I2.ok.hd,I2.ok.frames,.inl rfl,λb hb=>⟨qa6 (Nat.lt_of_lt_of_le (fpO b hb) hCle),λx c e=>(f2 b hb).2.2.2.2.1 x c (sub x c e)⟩,
     I2.bs,qa7 I2.ok.bsz I2.sz,λb o e hb=>?_,λb hb z=>?_,I2.stack,I2.stkFree⟩,rfl,I2.bare,Un.laid old (qaj _) hf0,⟨_,hns₁,λi x v e1 e2 e3=>?_⟩,λx c e=>?_,?_,λx c e=>?_,λp hp=>absurd (show p∈([]:List (Addr×Obj)) from hp) (by simp),?_,?_⟩
   . rcases (f2 b hb).2.2.2.1 with z|z
     . exact I2.ok.noex b o e z
     . exact absurd (Nat.lt_of_lt_of_le (Nat.lt_of_lt_of_le (Heap.lt_size e) I2.ok.bsz) z) (qbm _)
   . rcases qay.mp (I2.stkSub b z) with q|q
     . exact(f2 b hb).2.1 q
     . exact(f2 b hb).2.2.1 q
   . have e1:N'[i]?=some x:=e1;unfold cap at e2;rw[List.getElem?_map] at e2;cases q:js[i]? with
     | none=>rw[q] at e2; cases e2
     | some o =>
       rw[q] at e2;cases o with
       | none=>cases e2
       | some j =>
         have e2:(σ[j]?).join=some v:=by simpa using e2
         have e2':σ[j]?=some (some v):=by
           cases z:σ[j]? with
           | none=>rw[z] at e2; cases e2
           | some a=>rw[z] at e2; cases a with
             | none=>cases e2
             | some a=>cases e2; rfl
         obtain⟨hN,hk,hsf⟩:=O.slots i j x q e1;obtain⟨m,hn,hl⟩:=I2.loc;obtain⟨u,r,l⟩:=hl j x v hN e2' (.inr hk);refine⟨u,r,?_⟩;have hkX:X.env.kindOf x=some .cell\/X.env.kindOf x=some .free:=hk;rcases l with⟨k,_⟩|⟨k,c,hc',hcell⟩
         . rcases hkX with z|z
           . rw[k] at z; cases z
           . rw[k] at z; cases z
         . have hky:(relabel scope X.env).names.lookup x=some .cell\/(relabel scope X.env).names.lookup x=some .free:=zgd (env:=X.env) scope.names x hsf;obtain⟨c2,hc2⟩:=hasC x hky;have:c2=c:=by have:=sub x c2 hc2;rw[hc'] at this;exact(Option.some.inj this).symm
           subst this;obtain⟨ob,ho,hd⟩:=hcell;exact .inr ⟨hky,c2,hc2,ob,old _ _ ho,hd⟩
   . obtain⟨v,ob,ho,hd⟩:=I2.cell x c (sub x c e);exact⟨v,ob,old _ _ ho,hd⟩
   . show upd H2 s2.heap.objs.size (.lst []) B.objs.size=none;rw[zal (Ne.symm hDC)];exact I2.hok.fresh hCle
   . obtain⟨v,ob,ho,hd⟩:=I2.cell x c (sub x c e);rw[zal (qa6 (Heap.lt_size ho))];exact I2.freeC x c (sub x c e)
   . exact I2.hok.laid old (qaj _) ⟨qaz _,[],0,.nil,hacc⟩
   . unfold cap;rw[List.length_map];exact O.len
 have hcl:(cap js σ).length=js.length:=by unfold cap; rw[List.length_map]
 have fin:∀{σ':St} {H':Hp} {s':Shared},Inv (zbx X N' scope B.objs.size s2 H2 fp) [] σ' H' s'->Q (.ref s2.heap.objs.size) H'->compPost (model X.prog X.w) X.A X.xe use Q' (.ref s2.heap.objs.size) B.objs.size (.ok .next) s' :=
   λ{σ' H' s'} J q=>hfin s2 H2 fp B.objs.size I2 f2 hCle σ' H' s' J q
 have loop:∀t,codeAny (model X.prog X.w) X.A (.compLoop (.ListComp elt [⟨target,iter,ifs,0⟩] scope pos) 0 (.ref it) (.ref s2.heap.objs.size) (compEnvC scope (zf5 scope.names X.env.cells []) B.objs.size X.env))
     (compPost (model X.prog X.w) X.A X.xe use Q' (.ref s2.heap.objs.size) B.objs.size) { s2 with heap:=h₁,toks:=t }:=by
   intro t;have stat:∀{H':Hp},(∀b∈fp,H' b=none)->∀b∈fp,zq7 (zbx X N' scope B.objs.size s2 H2 fp) [] H' b:=λhn b hb =>
     ⟨hn b hb,qa6 (Nat.lt_of_lt_of_le (fpO b hb) hCle),(IY t).ok.exfs b hb,.inl hb,λx c e=>((IY t).ok.exf b hb).2 x c e,λp hp=>absurd (show p∈([]:List (Addr×Obj)) from hp) (by simp)⟩
   refine zx2 (λn s'=>∃i acc H',Inv (zbx X N' scope B.objs.size s2 H2 fp) [] (cap js σ) H' s'/\tn i s'.heap/\(∀b∈fp,H' b=none)/\W i n acc H') ?_ m0
     ⟨0,[],_,IY t,T.keep 0 _ _ st2 (λb _ o e=>old b o e),λb hb=>by rw[zal (qa6 (fpO b hb))]; exact(f2 b hb).1,w0⟩
   rintro n s3 ⟨i,acc,H3,I3,st3,fr3,w3⟩;obtain⟨hD,turn⟩:=turn i n acc H3 w3;rcases turn with⟨stop,qn⟩|⟨go,hlen,N,hN,step⟩
   . refine thn (T.done (zbx X N' scope B.objs.size s2 H2 fp) rfl rfl rfl hc i [] s3 (cap js σ) H3 (λ_ _=>False) I3 (stat fr3) st3 stop) λr s4 ⟨hr,I4⟩=>?_;subst hr;exact fin I4 qn
   . refine thn (T.item (zbx X N' scope B.objs.size s2 H2 fp) rfl rfl rfl hc i [] s3 (cap js σ) H3 (λ_ _=>False) I3 (stat fr3) st3 go) λr s4 ⟨u,hr,h4⟩=>?_;subst hr;refine thn h4 λ_ s5 ⟨x,H5,I5,r5,y5,st5,fr5⟩=>?_;have I5':=I5.pinned (stat fr5) (T.obj _ _ st5);refine thn (hg _ _ _ _ _ s5 (cap js σ) H5 x u _ I5' r5 (ho x (cap js σ) H5 _ hcl (step x H5 y5))) λ_ s6 ⟨σ6,H6,I6,q6,hl6,hk6⟩=>?_;refine thn (hif _ _ _ _ _ s6 σ6 H6 _ I6 q6) λok s7 ⟨H7,I7,q7⟩=>?_;have again:∀{H8:Hp} {acc8:List V} {s8:Shared},Inv (zbx X N' scope B.objs.size s2 H2 fp) ([]++znq fp s5.heap) σ6 H8 s8->N acc8 H8 ->
         ∃m,m<n/\∃i acc H',Inv (zbx X N' scope B.objs.size s2 H2 fp) [] (cap js σ) H' s8/\tn i s8.heap/\(∀b∈fp,H' b=none)/\W i m acc H':=by
       intro H8 acc8 s8 I8 n8;obtain⟨m',hm,w8⟩:=hN acc8 H8 n8;refine⟨m',hm,i+1,acc8,H8,?_,T.keep _ _ _ st5 λb hb o e=>(I8.pin (b,o) (qbc _ (qbc _ (zfc hb e)))).1,λb hb=>?_,w8⟩
       . refine Inv.weak I8.unpinned (by rw[hl6,hcl]) λk v e=>?_;have e':=e;unfold cap at e;rw[List.getElem?_map] at e;cases q:js[k]? with
         | none=>rw[q] at e; cases e
         | some o =>
           cases o with
           | none=>rw[q] at e; cases e
           | some j=>rw[hk6 k j q]; exact e'
       . obtain⟨o,e,d⟩:=T.obj _ _ st5 b hb;exact(I8.pin (b,o) (qbc _ (qbc _ (zfc hb e)))).2.1
     cases ok with
     | false=>exact again I7 q7
     | true =>
       refine thn (he _ _ _ _ _ s7 σ6 H7 _ I7 q7) λy s8 ⟨yv,H8,I8,r8,hD8,q8⟩=>?_;refine thn (zfk _ s8 σ6 H8 (.ref s2.heap.objs.size) [yv] (.ref s2.heap.objs.size) [y] (λ_ H9=>N (acc++[yv]) H9) I8 rfl (.cons r8 .nil) ⟨_,acc,yv,rfl,rfl,hD8,hlen,q8⟩) λ_ s9 ⟨_,H9,I9,_,q9⟩=>?_;exact again I9 q9
 exact codeAny_compStart_list (loop _) (T.self X.A 0 _ _ _ (T.keep 0 _ _ st2 (λb _ o e=>old b o e)) (loop _))
theorem ze2 {g:TG} (hok:zmn scope X.env.scope N' X.N js=true) (hc:X.calm=true)
   (hi:PI X target iter wi) (ho:z2p js g) (hg:∀C s H fp,PG (zbx X N' scope C s H fp) target g) (hif:∀C s H fp,PIf (zbx X N' scope C s H fp) ifs tif) (he:∀C s H fp,PE (zbx X N' scope C s H fp) elt te)
   (hs:∀x,foldedSetIterable iter X.env x=pure x:=by intro _; rfl):PE X (.ListComp elt [⟨target,iter,ifs,0⟩] scope pos) (zxy wi g tif te js):=by
 intro pins s σ H Q I h;rw[eval_ListComp];refine zqr (use:=none) hok hc hi ho hg hif he hs I h λs2 H2 fp C I2 f2 hCle σ' H' s' J q=>?_;obtain⟨m,hn,_⟩:=J.loc;refine⟨m,hn,λh' hs'=>⟨.ref s2.heap.objs.size,H',?_,rfl,q⟩⟩;refine I2.call' (s':={ s' with heap:=h' }) (ch:=fp) J.os (J.base.sameBut hs' hCle) (λb ob e=>?_) J.bare λb hb=>⟨(f2 b hb).2.2.2.1,(f2 b hb).2.1,(f2 b hb).2.2.2.2.1,(f2 b hb).2.2.2.2.2⟩
 refine(J.hok b ob e).stay (λc w' hc q=>(hs'.2 c ?_).trans q) (λ_ q=>q) λ_ _ q=>q;have hfree:H' C=none:=J.free;intro hcC;rw[hcC] at hc;rcases hc with z|z
 . rw[<- z,hfree] at e; cases e
 . rw[hfree] at z; cases z
theorem zjx {i:Nat} {y:Str} {py spos:Pos}{g:TG} (hN:X.N.Nodup) (hi':X.N[i]?=some y) (hx:Loc X.env.scope y)
   (hok:zmn scope X.env.scope N' X.N js=true) (hc:X.calm=true)
   (hi:PI X target iter wi) (ho:z2p js g) (hg:∀C s H fp,PG (zbx X N' scope C s H fp) target g) (hif:∀C s H fp,PIf (zbx X N' scope C s H fp) ifs tif) (he:∀C s H fp,PE (zbx X N' scope C s H fp) elt te)
   (hsw:swapsWith (.ListComp elt [⟨target,iter,ifs,0⟩] scope pos) (some (.Name y py)) spos.line X.env=pure true)
   (hs:∀x,foldedSetIterable iter X.env x=pure x:=by intro _; rfl) (hf:X.fn y=true\/X.env.scope.names.lookup y=some .local:=by first|exact .inl rfl|exact .inr rfl|assumption) :
   PS X (.Assign [.Name y py] (.ListComp elt [⟨target,iter,ifs,0⟩] scope pos) spos) (z61 (zxy wi g tif te js) (zuo i)):=by
 intro pins s σ H D I h;rw[exec_Assign_Name_used _ _ _ _ hsw];refine wpAny_bind (qc9 (wpAny_bind ?_));show wpAny _ X.A (do let _ <- comprehension (.ListComp elt [⟨target,iter,ifs,0⟩] scope pos) scope X.env _ (newList []) false (eval iter X.env) (some (assign (.Name y py) X.env))) _ _ s;refine wpAny_bind (thn (zqr (use:=some (assign (.Name y py) X.env)) (Q':=λ_ s'=>SP X pins D .next s') hok hc hi ho hg hif he hs I h λs2 H2 fp C I2 f2 hCle σ' H' s' J q=>?_) λ_ s' q=>?_)
 . obtain⟨m,hn,_⟩:=J.loc;have I3:Inv X pins σ H' s':=I2.call' (ch:=fp) J.os J.base J.hok J.bare λb hb=>⟨(f2 b hb).2.2.2.1,(f2 b hb).2.1,(f2 b hb).2.2.2.2.1,(f2 b hb).2.2.2.2.2⟩
   have hCL:C≠X.env.locals:=λz=>absurd (Nat.lt_of_lt_of_le I2.lt hCle) (by rw[z]; exact qbm _);have hCc:∀x c,X.env.cells.lookup x=some c->c≠C:=λx c e z=>by obtain⟨v,ob,ho,_⟩:=I2.cell x c e;exact absurd (Nat.lt_of_lt_of_le (Heap.lt_size ho) hCle) (by rw[z]; exact qbm _)
   have hCp:∀p∈X.pn++pins,p.1≠C:=λp hp z=>by have e:=(I2.pin p hp).1;exact absurd (Nat.lt_of_lt_of_le (Heap.lt_size e) hCle) (by rw[z]; exact qbm _)
   show wpAny _ X.A (assign (.Name y py) X.env (.ref s2.heap.objs.size)) _ _ s';refine wpAny_assign_Name (zpm I3 hN hi' hx (v:=.ref s2.heap.objs.size) rfl (λs'' I4 ⟨a,hsb,ha⟩=>?_) hf);have hna:C≠a:=by
     rcases ha with z|z
     . rw[z]; exact hCL
     . exact(hCc _ _ z).symm
   refine⟨m,hn.sameBut hsb hna,λh' hs'=>⟨_,H',?_,q⟩⟩;exact I4.turned (t':=s''.toks) (h':=h') (it:=C) (λb o hb e=>(hs'.2 b hb).trans e) J.free hCL (.inr (qa7 I2.sz hCle)) hCc hCp
 . exact wpAny_pure (wpAny_pure q)
def Its (x:Str):It:=⟨λi _=>i<x.length,λi H v H'=>H'=H/\∃c,x.cps[i]?=some c/\v=.str ⟨#[c]⟩,λi _=>i=x.length⟩
theorem zst {P:Program} {w:World} {tg:Expr} {it:Addr} {x:Str} {t:Tok} {ty:String}
   (hty:["enumerate","zip","dict_itemiterator","dict_reverseitemiterator","odict_iterator","itertools.zip_longest","itertools.pairwise"].contains ty=false)
   (W:∀A:Around,A.handled=none->Walks P w A it [it] [it] x.cps.size (SignAt x) (λi h=>h.IsStrIter it ty x t i))
   (hs:∀(A:Around) (i:Nat) (s:Shared) (Q:Value->Shared->Prop) (E:Value->Shared->Prop),s.heap.IsStrIter it ty x t i->Q (.ref it) s->wpAny (model P w) A (pyIter (.ref it)) Q E s) :
   Turn P w K tg (Its x) [it] it (λi h=>h.IsStrIter it ty x t i) where
 mem:=by simp
 obj:=λi h st b hb=>by
   have e:b=it:=by simpa using hb
   subst e;obtain⟨o,e,c,d⟩:=st;exact⟨o,e,λv z=>by rw[d] at z; cases z⟩
 keep:=λi h h' st k=>by obtain⟨o,e,r⟩:=st;exact⟨o,k it (by simp) o e,r⟩
 item:=by intro X hP hw hK hc i pins s σ H E I hf st hg;subst hP hw hK;obtain⟨f0,f1,f2,f3,f4,f5⟩:=hf it (by simp);refine(W X.A (I.ok.hd hc)).item i s _ _ hg st λv h' tk hv st' kk=>?_;obtain⟨c,u,hx,rfl⟩:=hv;have I1:Inv X pins σ H { s with heap:=h',toks:=tk }:=I.turned (λb o hb e=>kk b o (by simpa using hb) e) f0 f1 f3 f4 f5;obtain⟨o,e,cc,d⟩:=id st';exact⟨_,rfl,zwn (s:={ s with heap:=h',toks:=tk }) e cc d hty ⟨.str ⟨#[c]⟩,H,I1,⟨u,rfl⟩,⟨rfl,c,hx,rfl⟩,st',λb hb=>(hf b hb).1⟩⟩
 done:=by intro X hP hw hK hc i pins s σ H E I hf st hg;subst hP hw hK;obtain⟨f0,f1,f2,f3,f4,f5⟩:=hf it (by simp);have hi:i=x.cps.size:=hg;subst hi;refine(W X.A (I.ok.hd hc)).done s _ _ st λh' tk kk=>⟨rfl,I.turned (λb o hb e=>kk b o (by simpa using hb) e) f0 f1 f3 f4 f5⟩
 self:=λA i s Q E st h=>hs A i s Q E st h
section
variable {X:Cx} {tg:Expr}
def iStr (tl:TE):TI:=λσ H R=>tl σ H λx H1=>∃z,x=.str z/\R (Its z) H1
theorem z6d {l:Expr} {tl:TE} (hl:PE X l tl):PI X tg l (iStr tl):=by
 intro pins s σ H R I h;refine thn (hl pins s σ H _ I h) λv s1 ⟨x,H1,I1,r1,q1⟩=>?_;obtain⟨z,e,q⟩:=q1;subst e;obtain⟨t,rfl⟩:=r1;have fo:∀b∈[s1.heap.objs.size],zq7 X pins H1 b:=λb hb=>by
   have e:b=s1.heap.objs.size:=by simpa using hb
   subst e;exact I1.fpOk (qaj _) (I1.hok.fresh (qaj _))
 cases ha:z.cps.all (·<128)
 . refine wpAny_pyIter_wide ha ?_;exact⟨s1.heap.objs.size,[s1.heap.objs.size],_,_,H1,rfl,I1.kept (t':=s1.toks) λb o e=>Heap.get?_push_of_some _ e,zst (t:=t) (by decide) (λA hA=>Walks.strWide hA _ z t) (λA i s Q E st h=>wpAny_pyIter_striter_wide st h),⟨_,qat _ rfl,rfl,rfl⟩,fo,q⟩
 . refine wpAny_pyIter_ascii ha ?_;exact⟨s1.heap.objs.size,[s1.heap.objs.size],_,_,H1,rfl,I1.kept (t':=s1.toks) λb o e=>Heap.get?_push_of_some _ e,zst (t:=t) (by decide) (λA hA=>Walks.strAscii hA _ z t) (λA i s Q E st h=>wpAny_pyIter_striter_ascii st h),⟨_,qat _ rfl,rfl,rfl⟩,fo,q⟩
end
variable {p:Addr}
section
variable {g:TG} {tif:TT} {te:TE} {js:List (Option Nat)} {σ:St} {H:Hp} {Q:VK}
def zw8 (g:TG) (tif:TT) (te:TE) (σ:St) (p:Addr) (acc:List V) (N:List V->Hp->Prop) (x:V) (H:Hp):Prop :=
 g x σ H λσ2 H3=>tif σ2 H3 λc H4=>if c=true then te σ2 H4 λy H5=>H5 p=some (.lst acc)/\N (acc++[y]) (upd H5 p (.lst (acc++[y]))) else N acc H4
theorem zd0 {lo:Int} {n:Nat} (hn:n<=1000000) (Pv:Nat->List V->Hp->Prop) (h0:Pv 0 [] (upd H p (.lst [])))
   (hl:∀i acc H2,i<=n->Pv i acc H2->H2 p=some (.lst acc)/\acc.length<=i)
   (hs:∀i acc H2,i<n->Pv i acc H2->zw8 g tif te (cap js σ) p acc (Pv (i+1)) (.int (lo+i)) H2) (hd:∀acc H2,Pv n acc H2->Q (.ref p) H2) :
   zre (Itr lo n) g tif te js σ Q p H:=by
 refine⟨λi m acc H=>m=n - i/\i<=n/\Pv i acc H,⟨n,by simp,qaz _,h0⟩,?_⟩;rintro i m acc H2 ⟨rfl,hi,q⟩;obtain⟨q1,q2⟩:=hl i acc H2 hi q;refine⟨q1,?_⟩;by_cases hlt:i<n
 . refine .inr ⟨hlt,?_,Pv (i+1),λacc' H' p'=>⟨n - (i+1),by omega,rfl,hlt,p'⟩,λx H' y=>?_⟩
   . have:(1000000:Nat)<sizeLine:=by decide
     omega
   . obtain⟨e,y⟩:=y;subst e y;exact hs i acc _ hlt q
 . have e:i=n:=by omega
   subst e;exact .inl ⟨qaj _,hd acc H2 q⟩
theorem zza {z:Str} (hn:z.length<=1000000) (Pv:Nat->List V->Hp->Prop) (h0:Pv 0 [] (upd H p (.lst [])))
   (hl:∀i acc H2,i<=z.length->Pv i acc H2->H2 p=some (.lst acc)/\acc.length<=i)
   (hs:∀i c acc H2,z.cps[i]?=some c->Pv i acc H2->zw8 g tif te (cap js σ) p acc (Pv (i+1)) (.str ⟨#[c]⟩) H2) (hd:∀acc H2,Pv z.length acc H2->Q (.ref p) H2) :
   zre (Its z) g tif te js σ Q p H:=by
 refine⟨λi m acc H=>m=z.length - i/\i<=z.length/\Pv i acc H,⟨z.length,by simp,qaz _,h0⟩,?_⟩;rintro i m acc H2 ⟨rfl,hi,q⟩;obtain⟨q1,q2⟩:=hl i acc H2 hi q;refine⟨q1,?_⟩;by_cases hlt:i<z.length
 . refine .inr ⟨hlt,?_,Pv (i+1),λacc' H' p'=>⟨z.length - (i+1),by omega,rfl,hlt,p'⟩,λx H' y=>?_⟩
   . have:(1000000:Nat)<sizeLine:=by decide
     omega
   . obtain⟨e,c,hc,y⟩:=y;subst e y;exact hs i c acc _ hc q
 . have e:i=z.length:=by omega
   subst e;exact .inl ⟨rfl,hd acc H2 q⟩
theorem zey {a:Addr} {xs:List V} (hn:xs.length<=1000000) (Pv:Nat->List V->Hp->Prop) (h0:Pv 0 [] (upd H p (.lst [])))
   (hl:∀i acc H2,i<=xs.length->Pv i acc H2->H2 p=some (.lst acc)/\acc.length<=i/\SqL K H2 a xs)
   (hs:∀i x acc H2,xs[i]?=some x->Pv i acc H2->zw8 g tif te (cap js σ) p acc (Pv (i+1)) x H2) (hd:∀acc H2,Pv xs.length acc H2->Q (.ref p) H2) :
   zre (Itl K a) g tif te js σ Q p H:=by
 refine⟨λi m acc H=>m=xs.length - i/\i<=xs.length/\Pv i acc H,⟨xs.length,by simp,qaz _,h0⟩,?_⟩;rintro i m acc H2 ⟨rfl,hi,q⟩;obtain⟨q1,q2,q3⟩:=hl i acc H2 hi q;refine⟨q1,?_⟩;by_cases hlt:i<xs.length
 . refine .inr ⟨⟨xs,xs[i],q3,by simp [hlt]⟩,?_,Pv (i+1),λacc' H' p'=>⟨xs.length - (i+1),by omega,rfl,hlt,p'⟩,λx H' y=>?_⟩
   . have:(1000000:Nat)<sizeLine:=by decide
     omega
   . obtain⟨e,y⟩:=y;subst e;exact hs i x acc _ (y xs q3) q
 . have e:i=xs.length:=by omega
   subst e;exact .inl ⟨⟨xs,q3,qaj _⟩,hd acc H2 q⟩
theorem zte {a:Addr} {xs:List V} (hn:xs.length<=1000000) (Pv:Nat->List V->Hp->Prop) (h0:Pv 0 [] (upd H p (.lst [])))
   (hl:∀i acc H2,i<=xs.length->Pv i acc H2->H2 p=some (.lst acc)/\acc.length<=i/\SqT K H2 a xs)
   (hs:∀i x acc H2,xs[i]?=some x->Pv i acc H2->zw8 g tif te (cap js σ) p acc (Pv (i+1)) x H2) (hd:∀acc H2,Pv xs.length acc H2->Q (.ref p) H2) :
   zre (Itt K a) g tif te js σ Q p H:=by
 refine⟨λi m acc H=>m=xs.length - i/\i<=xs.length/\Pv i acc H,⟨xs.length,by simp,qaz _,h0⟩,?_⟩;rintro i m acc H2 ⟨rfl,hi,q⟩;obtain⟨q1,q2,q3⟩:=hl i acc H2 hi q;refine⟨q1,?_⟩;by_cases hlt:i<xs.length
 . refine .inr ⟨⟨xs,xs[i],q3,by simp [hlt]⟩,?_,Pv (i+1),λacc' H' p'=>⟨xs.length - (i+1),by omega,rfl,hlt,p'⟩,λx H' y=>?_⟩
   . have:(1000000:Nat)<sizeLine:=by decide
     omega
   . obtain⟨e,y⟩:=y;subst e;exact hs i x acc _ (y xs q3) q
 . have e:i=xs.length:=by omega
   subst e;exact .inl ⟨⟨xs,q3,qaj _⟩,hd acc H2 q⟩
end
section
variable {X:Cx}
theorem zut {h:Heap} {sl:Addr} {vl vu:Value} {lo hi:Option Int} (hs:h.IsSliceOf sl vl vu .none) (pl:IsPart vl lo) (pu:IsPart vu hi):∃l u:Option (Int×Tok),l.map (·.1)=lo/\u.map (·.1)=hi/\h.IsSlice sl l u none:=by
 obtain⟨o,ho,hc,hd⟩:=hs;cases pl with
 | none =>
   cases pu with
   | none=>exact⟨none,none,rfl,rfl,o,ho,hc,hd⟩
   | int j t=>exact⟨none,some (j,t),rfl,rfl,o,ho,hc,hd⟩
 | int i t =>
   cases pu with
   | none=>exact⟨some (i,t),none,rfl,rfl,o,ho,hc,hd⟩
   | int j t'=>exact⟨some (i,t),some (j,t'),rfl,rfl,o,ho,hc,hd⟩
def rSlS:V->Option Int->Option Int->Hp->VK->Prop:=λx lo hi H Q=>∃z,x=.str z/\z.length<=sizeLine/\Q (.str (Txt.slice z lo hi)) H
theorem ziz:SlR X rSlS:=by
 intro pins s σ H x v vl vu lo hi sl Q I rx hs pl pu h;obtain⟨z,rfl,hz,q⟩:=h;obtain⟨t,rfl⟩:=rx;obtain⟨l,u,rfl,rfl,hsl⟩:=zut hs pl pu;refine⟨"str",_,F.slot_str_getitem.lookup,typeIs_str _ _ _,wpAny_getItem_str_slice (l:=l) (u:=u) (st:=none) hsl rfl
   (post_val_or_str ⟨qa7 (Txt.slice_le z _ _) hz,λt' k=>⟨.str (Txt.slice z (l.map (·.1)) (u.map (·.1))),H,I.tok _,⟨_,rfl⟩,q⟩⟩)⟩
theorem z3a {ys:List Str}:∀{us:List Value},zcp (ys.map V.str) us->StrsAre us ys:=by
 induction ys with
 | nil=>intro us h; cases h; exact .nil
 | cons y r ih =>
   intro us h;cases h with
   | cons r1 h =>
     obtain⟨t,rfl⟩:=r1;exact .cons y t (ih h)
def z7a (K:W.Frag):V->List V->Hp->VK->Prop:=λx xs H Q=>∃sep p ys,x=.str sep/\xs=[.ref p]/\SqL K H p (ys.map V.str)/\(ys.map (·.length)).sum+ys.length * sep.length<=16777216/\Q (.str (Txt.join sep ys)) H
theorem zin:MtR X "str.join" (z7a X.K):=by intro pins s σ H x xs v us Q I rx r h;obtain⟨sep,p,ys,rfl,rfl,hp,hl,q⟩:=h;obtain⟨t,rfl⟩:=rx;obtain⟨u,rfl,ru⟩:=zl2 r;cases (show u=Value.ref p from ru);obtain⟨its,rv,pl,hz⟩:=I.list hp;exact join_list pl.isList (by simpa using z3a rv) hl λt' k=>⟨.str (Txt.join sep ys),H,I.tok _,⟨_,rfl⟩,q⟩
theorem zr9:zbv X (.builtin "isinstance") (λxs H Q=>∃x c t b,xs=[x,.ty c]/\TyOf X.K H x t/\PySem.W.kitOne X.K t (.type c)=some b/\Q (.bl b) H):=by intro pins s σ H xs us Q I r h;obtain⟨x,c,t,b,rfl,ty,hk,q⟩:=h;obtain⟨u,w',rfl,rx,rc⟩:=zz3 r;cases (show w'=Value.type c from rc);exact zph I rx ty hk λtk=>⟨.bl b,H,I.tok _,rfl,q⟩
theorem zym (bs:List Bool):(List.range bs.length).all (λi=>bs.getD i false)=bs.all id:=by
 rw[qbt,qcm,qcm];constructor
 . intro h b hb;obtain⟨i,hi,rfl⟩:=List.mem_iff_getElem.mp hb;have:=h i (qce.mpr hi);simpa [List.getD,hi] using this
 . intro h i hi;have hi':=qce.mp hi;have:=h bs[i] (qcd hi');simpa [List.getD,hi'] using this
theorem zn5:X.calm=true->zbv X (.builtin "all") (λxs H Q=>∃(p:Addr) (bs:List Bool),xs=[.ref p]/\SqL X.K H p (bs.map V.bl)/\Q (.bl (bs.all id)) H):=by
 intro hc pins s σ H xs us Q I r h;obtain⟨p,bs,rfl,hp,q⟩:=h;obtain⟨u,rfl,ru⟩:=zl2 r;cases (show u=Value.ref p from ru);obtain⟨its,rv,pl,hz⟩:=I.list hp;have hlen:=rv.length;rw[List.length_map] at hlen;have hne:p≠s.heap.objs.size:=qa6 pl.lt;refine call_all_walk (qcg pl.isList ?_);have W:=Walks.list (prog:=X.prog) (w:=X.w) (A:=X.A.in1) (I.ok.hd hc) s.heap.objs.size p hne its.toArray;refine⟨s.heap.objs.size,_,_,_,_,_,λi=>bs.getD i false,rfl,W,⟨⟨_,qat _ rfl,rfl,rfl⟩,pl.isList.push _⟩,?_,λh' tk hk=>?_⟩
 . intro i v s' Q' E' hv hq;have hv':its[i]?=some v:=by simpa using hv
   have hi:i<bs.length:=by rw[hlen]; exact(List.getElem?_eq_some_iff.mp hv').1
   have hb:(bs.map V.bl)[i]?=some (.bl bs[i]):=by simp [hi]
   obtain⟨u',e1,r1⟩:=rv.get hb;rw[hv'] at e1;cases e1;cases (show v=Value.bool bs[i] from r1);have e2:bs.getD i false=bs[i]:=by simp [List.getD,hi]
   have hq:Q' (bs.getD i false) s':=hq;rw[e2] at hq;exact qb6 hq
 . have e:(List.range its.toArray.size).all (λi=>bs.getD i false)=bs.all id:=by rw[qaw,<- hlen];exact zym bs
   rw[e];exact⟨.bl (bs.all id),H,I.kept λb o q=>hk b o (λz=>by
     have z':b=s.heap.objs.size:=by simpa using z
     rw[z'] at q;exact absurd (Heap.lt_size q) (qbm _)) (Heap.get?_push_of_some _ q),rfl,q⟩
end
def z4d:Expr->Option V
 | .Constant (.str x) _ _=>some (.str x)
 | .Constant (.int i) _ _=>some (.int i)
 | .Constant (.bool b) _ _=>some (.bl b)
 | .Constant .none _ _=>some .non
 | _=>none
def zpa:List Expr->Option (List V)
 | []=>some []
 | e :: r=>match z4d e,zpa r with
   | some v,some vs=>some (v :: vs)
   | _,_=>none
theorem z3q {e:Expr} {v:V} (h:z4d e=some v):PE X e (tC v):=by
 unfold z4d at h;split at h
 . cases h; exact za5
 . cases h; exact zae
 . cases h; exact ziu
 . cases h; exact zkp
 . cases h
theorem zzn {e:Expr} {es:List Expr} {v:V} (h:z4d e=some v):starEach (e :: es) X.env=(false,eval e X.env) :: starEach es X.env:=by unfold z4d at h;split at h <;> first|rfl|cases h
theorem zrh {X:Cx}:∀{es:List Expr} {vs:List V},zpa es=some vs->PA X es (λ_ H Q=>Q vs H)
 | [],vs,h=>by cases h;exact zac
 | e :: r,vs,h=>by
   unfold zpa at h;split at h
   . rename_i v vs' h1 h2
     cases h;exact zaa (z3q h1) (zrh h2) (zzn h1)
   . cases h
theorem Same.tup {K:W.Frag} {H H':Hp} {a:Addr} {xs:List V} (e:Same H H') (h:SqT K H a xs):SqT K H' a xs:=by
 rcases h with(h|⟨o,h⟩)|h
 . exact .inl (.inl (e _ _ h))
 . exact .inl (.inr ⟨o,e _ _ h⟩)
 . exact .inr h
theorem Same.new {o:HO} (h:H p=none):Same H (upd H p o):=λb u e=>by rw[zal (zaf e h)];exact e
theorem Same.upd {H':Hp}{o:HO} (e:Same H H') (h:H p=none):Same H (upd H' p o):=λb u q=>by rw[zal (zaf q h)];exact e b u q
structure DefOk (K:W.Frag) (mg:Str->Option Value) (name:Str) (st:Stmt) (ps:List Str) (f:Addr) (fd:FuncData):Prop where
 F:Fun K name name st f fd
 g:mg name=some (.ref f)
 b:zk9 K fd ps []
section
variable {X:Cx} {k:Nat} {f:Addr} {fd:FuncData} {ps:List Str} {sp:Sp} {x:Str} {st:Stmt} {p pos:Pos} {e:Expr} {es:List Expr} {t:TA}
theorem za6 (D:DefOk X.K X.mg x st ps f fd) (G:FnOk X.prog X.w X.K X.mg X.base CX0 k f fd ps sp) (hr:Room k X.A) (ha:PA X (e :: es) t) (hg:Gl X x:=by rfl)
   (hdb:(x==("__debug__":Str))=false:=by decide) (he:starEach (e :: es) X.env=(false,eval e X.env) :: starEach es X.env:=by rfl) (hpl:(backTo pos (starEach es X.env)).any (·.1)=false:=by rfl) :
   PE X (.Call (.Name x p) (e :: es) [] pos) (zw4 sp [] E0 t):=zvk G hr hg D.g D.F.kp D.b .nil z58 ha hdb he hpl
theorem zxf {z:Str} (h:∃t,X.mg x=some (.str z t)) (hg:Gl X x:=by rfl) (hd:(x==("__debug__":Str))=false:=by decide):PE X (.Name x pos) (tC (.str z)):=by obtain⟨t,h⟩:=h;exact zrw hg h ⟨t,rfl⟩ hd
theorem zil {z:Int} (h:∃t,X.mg x=some (.int z t)) (hg:Gl X x:=by rfl) (hd:(x==("__debug__":Str))=false:=by decide):PE X (.Name x pos) (tC (.int z)):=by obtain⟨t,h⟩:=h;exact zrw hg h ⟨t,rfl⟩ hd
theorem zgn {a:Addr} (h:X.mg x=some (.ref a)) (hg:Gl X x:=by rfl) (hd:(x==("__debug__":Str))=false:=by decide):PE X (.Name x pos) (tC (.ref a)):=zrw hg h rfl hd
end
theorem za3 {mg:Str->Option Value} {h:Heap} {name:Str} {st:Stmt} {ps:List Str} {f:Addr} {oc:Value} {od an:Option Addr} {osl:Array (Option Value)} {kV doc pm cdv ct:Value} (X:K.In h) (G:h.Ns mainGlobals mg)
   (a:PySem.W.nsIn K mainGlobals name=some (some (.ref f))) (l:K.lookup f=some ⟨oc,od,.func (PySem.W.fnOf name name (zdu st) (zc8 st) (zah st) .none kV doc pm an cdv ct),osl⟩) (c:PySem.W.codeIn K cdv name=true) (k:PySem.W.keepIn K (.ref f)=true)
   (b:∀(kV doc pm:Value) (an:Option Addr) (cdv ct:Value) (us:List Value),us.length=ps.length->bindArgs (PySem.W.fnOf name name (zdu st) (zc8 st) (zah st) .none kV doc pm an cdv ct) ⟨us,[]⟩=pure (ps.zip us)) :
   DefOk K mg name st ps f (PySem.W.fnOf name name (zdu st) (zc8 st) (zah st) .none kV doc pm an cdv ct) :=
 ⟨zns l c k,PySem.W.mg_of X G a,(zns l c k).binds b⟩
theorem zb7 {p:Prop} [Decidable p] (h:decide p=true):p:=qdr h
theorem zdz {c A B:Prop} [Decidable c] (hc:c) (h:A):if c then A else B:=by rw[if_pos hc];exact h
theorem zdd {c A B:Prop} [Decidable c] (hc:¬ c) (h:B):if c then A else B:=by rw[if_neg hc];exact h
end L2
namespace L2
open PySem
theorem zbk:bootBuiltins "len"=some (.builtin "len"):=by decide +kernel
theorem zwf:bootBuiltins "all"=some (.builtin "all"):=by decide +kernel
theorem za4:bootBuiltins "isinstance"=some (.builtin "isinstance"):=by decide +kernel
theorem zto:bootBuiltins "str"=some (.type "str"):=by decide +kernel
theorem zo8:bootBuiltins "int"=some (.type "int"):=by decide +kernel
theorem zyk:bootBuiltins "bool"=some (.type "bool"):=by decide +kernel
theorem zf9:bootBuiltins "list"=some (.type "list"):=by decide +kernel
theorem ze3:bootBuiltins "tuple"=some (.type "tuple"):=by decide +kernel
theorem z2d:bootBuiltins "dict"=some (.type "dict"):=by decide +kernel
theorem zqa:bootBuiltins "enumerate"=some (.type "enumerate"):=by decide +kernel
theorem z43:bootBuiltins "zip"=some (.type "zip"):=by decide +kernel
theorem z4r {b:Bool} (h:b=false):¬ b=true:=by rw[h]; decide
end L2
namespace L2
open PySem PySem.Spec PyProof.Rows
mutual
def DatV (K:W.Frag) (H:Hp):PyData->V->Prop
 | .none,v=>v=.non
 | .bool b,v=>v=.bl b
 | .int i,v=>v=.int i
 | .str x,v=>v=.str x
 | .list ds,v=>∃a xs,v=.ref a/\SqL K H a xs/\DatAll K H ds xs
 | .tuple ds,v=>∃a xs,v=.ref a/\SqT K H a xs/\DatAll K H ds xs
 | .dict _,_=>False
def DatAll (K:W.Frag) (H:Hp):List PyData->List V->Prop
 | [],xs=>xs=[]
 | d :: ds,xs=>∃x r,xs=x :: r/\DatV K H d x/\DatAll K H ds r
end
section
variable {X:Cx} {pins:List (Addr×Obj)} {σ:St} {H:Hp} {s:Shared}
mutual
theorem zi4 (I:Inv X pins σ H s):∀(d:PyData) (v:V) (u:Value),DatV X.K H d v->zc1 v u->∃as,Reads s.heap u d as
 | .none,v,u,h,r=>by unfold DatV at h;subst h;cases (show u=Value.none from r);exact⟨_,.none⟩
 | .bool b,v,u,h,r=>by unfold DatV at h;subst h;cases (show u=Value.bool b from r);exact⟨_,.bool b⟩
 | .int i,v,u,h,r=>by
   unfold DatV at h;subst h;obtain⟨t,rfl⟩:=(show ∃t,u=Value.int i t from r)
   exact⟨_,.int i t⟩
 | .str x,v,u,h,r=>by
   unfold DatV at h;subst h;obtain⟨t,rfl⟩:=(show ∃t,u=Value.str x t from r)
   exact⟨_,.str x t⟩
 | .list ds,v,u,h,r=>by unfold DatV at h;obtain⟨a,xs,rfl,hq,hd⟩:=h;cases (show u=Value.ref a from r);obtain⟨its,rv,⟨o,n,ho,hc,_,hdt⟩,_⟩:=I.list hq;obtain⟨as,ra⟩:=zio I ds xs its hd rv;exact⟨_,.list ho hc hdt (by simpa using ra)⟩
 | .tuple ds,v,u,h,r=>by unfold DatV at h;obtain⟨a,xs,rfl,hq,hd⟩:=h;cases (show u=Value.ref a from r);obtain⟨its,rv,⟨o,ho,hc,n,hdt⟩,_⟩:=I.tuple hq;obtain⟨as,ra⟩:=zio I ds xs its hd rv;exact⟨_,.tuple ho hc hdt (by simpa using ra)⟩
 | .dict _,v,u,h,r=>by unfold DatV at h;exact h.elim
theorem zio (I:Inv X pins σ H s):∀(ds:List PyData) (xs:List V) (us:List Value),DatAll X.K H ds xs->zcp xs us->∃as,ReadsAll s.heap us ds as
 | [],xs,us,h,r=>by unfold DatAll at h;subst h;cases r;exact⟨_,.nil⟩
 | d :: ds,xs,us,h,r=>by
   unfold DatAll at h;obtain⟨x,rest,rfl,hd,hds⟩:=h;cases r with
   | cons r1 r2 =>
     obtain⟨as,ra⟩:=zi4 I d _ _ hd r1;obtain⟨bs,rb⟩:=zio I ds _ _ hds r2;exact⟨_,.cons ra rb⟩
end
end
def z63 (K:W.Frag):R2:=λx y H Q=>∃d e,DatV K H d x/\DatV K H e y/\SeqAt.shaped d=true/\SeqAt.shaped e=true/\Q (.bl (PyData.eqv d e)) H
def rNeD (K:W.Frag):R2:=λx y H Q=>∃d e,DatV K H d x/\DatV K H e y/\SeqAt.shaped d=true/\SeqAt.shaped e=true/\Q (.bl (!PyData.eqv d e)) H
variable {X:Cx}
theorem zp8 (hu:X.A.units+64<cLine):OpR X (compareOp .Eq) (z63 X.K):=by intro pins s σ H x y v u Q I rx ry h;obtain⟨d,e,hd,he,sd,se,q⟩:=h;obtain⟨as,ra⟩:=zi4 I d x v hd rx;obtain⟨bs,rb⟩:=zi4 I e y u he ry;exact SeqAt.compareEq_shaped ra rb sd se hu ⟨.bl _,H,I,rfl,q⟩
theorem zwx (hu:X.A.units+64<cLine):OpR X (compareOp .NotEq) (rNeD X.K):=by intro pins s σ H x y v u Q I rx ry h;obtain⟨d,e,hd,he,sd,se,q⟩:=h;obtain⟨as,ra⟩:=zi4 I d x v hd rx;obtain⟨bs,rb⟩:=zi4 I e y u he ry;exact SeqAt.compareNe_shaped ra rb sd se hu ⟨.bl _,H,I,rfl,q⟩
section
variable {prog:Program} {w:World} {A:Around} {E:Value->Shared->Prop}
theorem zqu {it t:Addr} {items:Array Value} (hne:t≠it):∀(n i:Nat) (s:Shared) (Q:List Value->Shared->Prop),s.heap.IsListIter it t i->s.heap.IsList t items->i+n<=items.size ->
   (∀h',h'.IsListIter it t (i+n)->Heap.SameBut it s.heap h'->Q ((items.toList.drop i).take n) { s with heap:=h' })->wpAny (model prog w) A (draw (.ref it) n) Q E s
 | 0,i,s,Q,hit,_,_,hQ=>by show wpAny _ _ (pure []) Q E s;exact wpAny_pure (by simpa using hQ s.heap hit (Heap.SameBut.refl ..))
 | n+1,i,s,Q,hit,ht,hle,hQ=>by
   have hlt:i<items.size:=by omega
   show wpAny _ _ (pyNext (.ref it) >>= _) Q E s;refine wpAny_bind (qdu hit ht (x:=items[i]) (by simp [hlt]) λh₁ hit₁ hs₁=>?_);refine wpAny_bind (qbs (zqu hne n (i+1) _ _ hit₁ (ht.extBut hs₁.extBut hne) (by omega) λh₂ hit₂ hs₂=>wpAny_pure ?_));have hd:items.toList.drop i=items[i] :: items.toList.drop (i+1):=by simp [List.drop_eq_getElem_cons,hlt]
   have:=hQ h₂ (by rw[show i+(n+1)=i+1+n by omega]; exact hit₂) (hs₁.trans hs₂);rw[hd,List.take_succ_cons] at this;exact this
theorem zld {s:Shared} {t:Addr} {items:Array Value} {Q:List Value->Shared->Prop} (hh:A.handled=none) (ht:s.heap.IsList t items)
   (hQ:∀h',Heap.ExtBut s.heap.objs.size s.heap h'->Q items.toList { s with heap:=h' }):wpAny (model prog w) A (unpackItems (.ref t) items.size none) Q E s:=by
 have hlt:t≠s.heap.objs.size:=by obtain⟨o,ho,_⟩:=ht; exact qa6 (Heap.lt_size ho)
 unfold unpackItems;refine wpAny_bind ?_;unfold notIterableAtAll;refine wpAny_bind (wpAny_specialOf ht.typeIs slot_list_iter.lookup ?_);refine wpAny_pure ?_;simp only[qcw,if_false];refine wpAny_bind (qbs (qcg ht ?_));refine wpAny_bind (qbs (zqu hlt items.size 0 _ _ ⟨_,qat _ rfl,rfl,rfl⟩ (ht.push _) (by omega) λh₁ hit₁ hs₁=>?_));have hall:List.take items.size (List.drop 0 items.toList)=items.toList:=by rw[List.drop_zero]; exact qdd (by simp)
 rw[hall];rw[if_neg (by simp)];have ht₁:h₁.IsList t items:=(ht.push _).extBut hs₁.extBut hlt;refine wpAny_bind (qbs (qdz hh hit₁ ht₁ (by simp) λh₂ he₂=>?_));simp only[Option.isSome_none,qcw,if_false];refine wpAny_pure (hQ h₂ λb o hb e=>he₂ b o hb (hs₁.extBut b o hb (Heap.get?_push_of_some _ e)))
end
def gLst (K:W.Frag) (n:Nat) (t:TGs):TG:=λv σ H Q=>∃a xs,v=.ref a/\SqL K H a xs/\xs.length=n/\t xs σ H Q
theorem z6f {pos:Pos} {es:List Expr} {k:Nat} {t:TGs} {n:Nat} (hc:X.calm=true) (h:PGs X es t)
   (hn:(assignEach es X.env).length=n:=by rfl) (hst:(assignEach es X.env).findIdx? (·.1)=none:=by rfl):PG X (.Tuple es k pos) (gLst X.K n t):=by
 intro pins s σ H v u Q I r hw;obtain⟨a,xs,e1,hq,hl,hw⟩:=hw;subst e1;cases r;obtain⟨its,rv,ht,hz⟩:=I.list hq;have hlen:=rv.length;rw[assign_Tuple];refine wpAny_bind (qc9 ?_);unfold unpack;rw[hst,hn,<- hl,hlen,show its.length=its.toArray.size by simp];refine wpAny_bind (qbs (zld (I.ok.hd hc) ht.isList λh' hx=>?_));have I1:Inv X pins σ H { s with heap:=h' }:=I.kept (t':=s.toks) λb o e=>hx b o (qa6 (Heap.lt_size e)) e;exact h pins _ σ H xs _ Q I1 (by simpa using rv) hw
section
variable {κ:Type} [DecidableEq κ]
def zg4 (kvs:List (κ×V)) (k:κ):Option V:=(kvs.find? λkv=>decide (kv.1=k)).map (·.2)
def zei (kvs:List (κ×V)) (k:κ) (v:V):List (κ×V) :=
 if(kvs.any λkv=>decide (kv.1=k))=true then kvs.map (λkv=>if kv.1=k then(kv.1,v) else kv) else kvs++[(k,v)]
theorem zea {p:κ×V} {r:List (κ×V)} {k:κ} (e:p.1=k):zg4 (p :: r) k=some p.2:=by simp [zg4,qdb,e]
theorem zd8 {p:κ×V} {r:List (κ×V)} {k:κ} (e:¬ p.1=k):zg4 (p :: r) k=zg4 r k:=by simp [zg4,qdb,e]
theorem zh5 (k:κ):∀kvs:List (κ×V),(kvs.any λkv=>decide (kv.1=k))=(zg4 kvs k).isSome
 | []=>rfl
 | p :: r=>by
   rw[qdv];by_cases e:p.1=k
   . simp only[zea e,decide_eq_true e,Bool.true_or,Option.isSome_some]
   . rw[zd8 e,qbn e,Bool.false_or]; exact zh5 k r
theorem ztp (k j:κ) (y:V):∀kvs:List (κ×V),zg4 (kvs.map λkv=>if kv.1=k then(kv.1,y) else kv) j=(zg4 kvs j).map λx=>if j=k then y else x
 | []=>rfl
 | p :: r=>by
   have ih:=ztp k j y r;rw[qbl];by_cases h:p.1=k
   . rw[if_pos h];by_cases e:p.1=j
     . rw[zea (p:=(p.1,y)) e,zea e,qd5,if_pos (e.symm.trans h)]
     . rw[zd8 (p:=(p.1,y)) e,zd8 e,ih]
   . rw[if_neg h];by_cases e:p.1=j
     . rw[zea (p:=p) e,zea e,qd5,if_neg (λz=>h (e.trans z))]
     . rw[zd8 (p:=p) e,zd8 e,ih]
theorem zqm (k j:κ) (y:V):∀kvs:List (κ×V),zg4 kvs k=none->zg4 (kvs++[(k,y)]) j=if j=k then some y else zg4 kvs j
 | [],_=>by
   by_cases e:k=j
   . rw[if_pos e.symm]; exact zea (p:=(k,y)) e
   . rw[if_neg (λz=>e z.symm)]; exact zd8 (p:=(k,y)) e
 | p :: r,hn=>by
   rw[List.cons_append];have hk:¬ p.1=k:=λz=>by rw[zea z] at hn; cases hn
   rw[zd8 hk] at hn;have ih:=zqm k j y r hn;by_cases e:p.1=j
   . rw[zea e,zea e,if_neg (λz=>hk (e.trans z))]
   . rw[zd8 e,zd8 e,ih]
theorem ziy (kvs:List (κ×V)) (k j:κ) (y:V):zg4 (zei kvs k y) j=if j=k then some y else zg4 kvs j:=by
 unfold zei;by_cases a:(kvs.any λkv=>decide (kv.1=k))=true
 . rw[if_pos a,ztp];rw[zh5] at a;by_cases e:j=k
   . obtain⟨x,hx⟩:=qc1.mp a;rw[if_pos e,e,hx,qd5,if_pos rfl]
   . rw[if_neg e];cases zg4 kvs j with
     | none=>rfl
     | some x=>rw[qd5,if_neg e]
 . rw[if_neg a];refine zqm k j y kvs ?_;rw[zh5] at a;cases q:zg4 kvs k with
   | none=>rfl
   | some x=>rw[q] at a; exact(a rfl).elim
theorem zbs (kvs:List (κ×V)) (k:κ) (v:V):(zei kvs k v).length<=kvs.length+1:=by
 unfold zei;split
 . rw[List.length_map]; omega
 . rw[List.length_append,List.length_cons,qdk]; omega
theorem ztj {kvs:List (κ×V)} {k:κ} (v:V) (h:zg4 kvs k=none):zei kvs k v=kvs++[(k,v)]:=by unfold zei;rw[zh5,h];exact if_neg (by decide)
theorem zq8.isSome_eq {o:Option V} {u:Option Value} (r:zq8 o u):o.isSome=u.isSome:=by
 cases o with
 | none=>cases u with
   | none=>rfl
   | some _=>exact(show False from r).elim
 | some _=>cases u with
   | none=>exact(show False from r).elim
   | some _=>rfl
theorem KV.val {kvs:List (κ×V)} {vs:List (κ×Value)} (r:KV kvs vs) (k:κ):zq8 (zg4 kvs k) (valueAt vs k):=by
 unfold KV at r
 induction r with
 | nil=>exact True.intro
 | @cons p q ps qs h t ih =>
   obtain⟨h1,h2⟩:=h;by_cases e:p.1=k
   . have e':q.1=k:=h1.symm.trans e;have b:valueAt (q :: qs) k=some q.2:=by simp [valueAt,qdb,e']
     rw[zea e,b]; exact h2
   . have e':¬ q.1=k:=λz=>e (h1.trans z);have b:valueAt (q :: qs) k=valueAt qs k:=by simp [valueAt,qdb,e']
     rw[zd8 e,b]; exact ih
theorem KV.any {kvs:List (κ×V)} {vs:List (κ×Value)} (r:KV kvs vs) (k:κ):(kvs.any λkv=>decide (kv.1=k))=vs.any λkv=>decide (kv.1=k):=by
 unfold KV at r
 induction r with
 | nil=>rfl
 | cons h t ih=>rw[qdv,qdv,ih,h.1]
variable {u:Value} {y:V}
theorem KV.repl {kvs:List (κ×V)} {vs:List (κ×Value)} (r:KV kvs vs) (k:κ) (ry:zc1 y u) :
   KV (kvs.map λkv=>if kv.1=k then(kv.1,y) else kv) (vs.map λkv=>if kv.1=k then(kv.1,u) else kv):=by
 unfold KV at r ⊢
 induction r with
 | nil=>exact .nil
 | @cons p q ps qs h t ih =>
   rw[qbl,qbl];refine .cons ?_ ih;obtain⟨h1,h2⟩:=h;by_cases e:p.1=k
   . rw[if_pos e,if_pos (h1.symm.trans e)]; exact⟨h1,ry⟩
   . rw[if_neg e,if_neg (λz=>e (h1.trans z))]; exact⟨h1,h2⟩
theorem KV.put {kvs:List (κ×V)} {vs:List (κ×Value)} (r:KV kvs vs) (k:κ) (ry:zc1 y u):KV (zei kvs k y) (stored vs k u):=by
 unfold zei stored;rw[r.any k];by_cases e:(vs.any λkv=>decide (kv.1=k))=true
 . rw[if_pos e,if_pos e]; exact r.repl k ry
 . rw[if_neg e,if_neg e]; exact Paired.snoc r ⟨rfl,ry⟩
theorem KV.length {kvs:List (κ×V)} {vs:List (κ×Value)} (r:KV kvs vs):kvs.length=vs.length:=Paired.length r
end
variable {w:World}
theorem zuk {P:Program} {k:Key} (r:zc1 (kV k) u):(zbz P w).is k u=true:=by
 cases k with
 | inl i=>obtain⟨t,e⟩:=(show ∃t,u=Value.int i t from r); subst e; exact zsf P w i t
 | inr x=>obtain⟨t,e⟩:=(show ∃t,u=Value.str x t from r); subst e; exact zsl P w x t
theorem zo1 {P:Program} {w:World}:∀{ks:List Key} {us:List Value},zcp (ks.map kV) us->ItemsAre (zbz P w) ks us
 | [],_,r=>by rw[qep] at r; cases r; exact .nil
 | k :: ks,_,r=>by
   rw[qbl] at r;cases r with
   | cons h t=>exact .cons (zuk h) (zo1 t)
abbrev KT (H:Hp):List (List Key×V)->List (List Key×Addr×Value)->Prop:=Paired λp q=>p.1=q.1/\H q.2.1=some (.tup (p.1.map kV))/\zc1 p.2 q.2.2
variable {H:Hp} {kvs:List (List Key×V)}
theorem KT.val {xs:List (List Key×Addr×Value)} (r:KT H kvs xs) (k:List Key):zq8 (zg4 kvs k) ((atKey xs k).map (·.2)):=by
 induction r with
 | nil=>exact True.intro
 | @cons p q ps qs h t ih =>
   obtain⟨h1,_,h2⟩:=h;by_cases e:p.1=k
   . have e':q.1=k:=h1.symm.trans e;have b:atKey (q :: qs) k=some q.2:=by simp [atKey,qdb,e']
     rw[zea e,b]; exact h2
   . have e':¬ q.1=k:=λz=>e (h1.trans z);have b:atKey (q :: qs) k=atKey qs k:=by simp [atKey,qdb,e']
     rw[zd8 e,b]; exact ih
theorem KT.repl {xs:List (List Key×Addr×Value)} (r:KT H kvs xs) (k:List Key) (ry:zc1 y u) :
   KT H (kvs.map λkv=>if kv.1=k then(kv.1,y) else kv) (xs.map (putAt k u)):=by
 induction r with
 | nil=>exact .nil
 | @cons p q ps qs h t ih =>
   rw[qbl,qbl];refine .cons ?_ ih;obtain⟨h1,h2,h3⟩:=h;unfold putAt;by_cases e:p.1=k
   . rw[if_pos e,if_pos (h1.symm.trans e)]; exact⟨h1,h2,ry⟩
   . rw[if_neg e,if_neg (λz=>e (h1.trans z))]; exact⟨h1,h2,h3⟩
theorem KT.put {xs:List (List Key×Addr×Value)} (r:KT H kvs xs) (k:List Key) {b:Addr} (hb:H b=some (.tup (k.map kV))) (ry:zc1 y u) :
   KT H (zei kvs k y) (storedH xs k b u):=by
 have e:(kvs.any λkv=>decide (kv.1=k))=(atKey xs k).isSome:=by rw[zh5,(r.val k).isSome_eq,Option.isSome_map]
 unfold zei storedH;rw[e];by_cases q:(atKey xs k).isSome=true
 . rw[if_pos q,if_pos q]; exact r.repl k ry
 . rw[if_neg q,if_neg q]; exact Paired.snoc r ⟨rfl,hb,ry⟩
variable {H':Hp}
theorem KT.keeps {xs:List (List Key×Addr×Value)} (r:KT H kvs xs) (ht:∀b ys,H b=some (.tup ys)->H' b=some (.tup ys)):KT H' kvs xs :=
 Paired.mapP r λ_ _ z=>⟨z.1,ht _ _ z.2.1,z.2.2⟩
section
variable {P:Program} {w:World} {H:Hp} {h:Heap} {a:Addr}
theorem z4i {u:HO} (ok:HOk P w H h) (e:Rd H a u):zdk P w H h a u:=e.ok ok
theorem zxo {kvs:List (Key×V)} (ok:HOk P w H h) (e:Rd H a (.dK kvs)):kvs.length<=sizeLine/\(a==sysModules)=false/\∃vs,KV kvs vs/\h.DictOf (zbz P w) a vs :=
 show zdk P w H h a (.dK kvs) from z4i ok e
theorem z0f {kvs:List (Key×V)} (ok:HOk P w H h) (e:H a=some (.dK kvs)):kvs.length<=sizeLine/\(a==sysModules)=false/\∃vs,KV kvs vs/\h.DictOf (zbz P w) a vs:=zxo ok (.inl e)
theorem zs9 {ks:List Key} (ok:HOk P w H h) (e:H a=some (.tup (ks.map kV))):(tupleKind (zbz P w)).is h ks a:=by
 obtain⟨_,its,r,o,h1,h2,n,h3⟩:=(show zdk P w H h a (.tup (ks.map kV)) from ok a _ e)
 exact⟨o,its.toArray,n,h1,h2,h3,by simpa using zo1 r⟩
theorem zyo (ok:HOk P w H h) (e:Rd H a (.dT kvs)):kvs.length<=sizeLine/\(a==sysModules)=false /\
   ∃xs,KT H kvs xs/\h.DictOfH (tupleKind (zbz P w)) a xs:=by
 obtain⟨z,y,xs,r,o,es,ep,h1,h2,h3,h4,h5⟩:=(show zdk P w H h a (.dT kvs) from z4i ok e)
 refine⟨z,y,xs,r,o,es,ep,h1,h2,h3,h4,λx hx=>?_,h5⟩;have all:∀{l:List (List Key×V)} {m:List (List Key×Addr×Value)},KT H l m->∀x∈m,(tupleKind (zbz P w)).is h x.1 x.2.1:=by
   intro l m q
   induction q with
   | nil=>intro x hx; exact nomatch hx
   | @cons p q ps qs hq t ih =>
     intro x hx;rcases qay.mp hx with e|hx
     . subst e;exact zs9 ok (by rw[<- hq.1]; exact hq.2.1)
     . exact ih x hx
 exact all r x hx
theorem z6u (ok:HOk P w H h) (e:H a=some (.dT kvs)):kvs.length<=sizeLine/\(a==sysModules)=false /\
   ∃xs,KT H kvs xs/\h.DictOfH (tupleKind (zbz P w)) a xs:=zyo ok (.inl e)
end
def zr1 (H:Hp) (a:Addr) (y:V) (r:Option V):Prop :=
 (∃kvs k,Rd H a (.dK kvs)/\y=kV k/\r=zg4 kvs k)\/∃kvs k b,Rd H a (.dT kvs)/\y=.ref b/\H b=some (.tup (k.map kV))/\r=zg4 kvs k
def zu4 (H:Hp) (a:Addr) (y v:V) (H':Hp):Prop :=
 (∃kvs k,H a=some (.dK kvs)/\y=kV k/\kvs.length<sizeLine/\H'=upd H a (.dK (zei kvs k v))) \/
 ∃kvs k b,H a=some (.dT kvs)/\y=.ref b/\H b=some (.tup (k.map kV))/\kvs.length<sizeLine/\H'=upd H a (.dT (zei kvs k v))
theorem zr1.k {H:Hp} {a:Addr} {kvs:List (Key×V)} {k:Key} (e:H a=some (.dK kvs)):zr1 H a (kV k) (zg4 kvs k):=.inl ⟨kvs,k,.inl e,rfl,rfl⟩
theorem zu4.k {H:Hp} {a:Addr} {kvs:List (Key×V)} {k:Key} {v:V} (e:H a=some (.dK kvs)) (hl:kvs.length<sizeLine):zu4 H a (kV k) v (upd H a (.dK (zei kvs k v))):=.inl ⟨kvs,k,e,rfl,hl,rfl⟩
section
variable {X:Cx} {pins:List (Addr×Obj)} {σ:St} {H:Hp} {s:Shared} {a:Addr} {y v:V} {u r:Value} {o:Option V} {A:Around} {E:Value->Shared->Prop}
theorem Inv.big (I:Inv X pins σ H s):sysModules<s.heap.objs.size:=by have h:mainGlobals<s.heap.objs.size:=(I.mod.glob.keeps I.bk).lt;exact Nat.lt_trans (by decide) h
theorem zx3 {Q:Value->Shared->Prop} (hu:A.units+1<cLine) (I:Inv X pins σ H s) (g:zr1 H a y (some v)) (ry:zc1 y u) (h:∀w' s',Inv X pins σ H s'->zc1 v w'->Q w' s') :
   wpAny (model X.prog X.w) A (getItem (.ref a) u) Q E s:=by
 rcases g with⟨kvs,k,e,ey,l⟩|⟨kvs,k,b,e,ey,eb,l⟩
 . subst ey;obtain⟨z,hd,vs,rel,dd⟩:=zxo I.hok e;obtain⟨w',hw,rw'⟩:=zq8.some_of (v:=v) (o:=valueAt vs k) (by rw[l]; exact rel.val k);exact wpAny_getItem_of (zuk ry) dd.mapOf hw (h w' _ (I.tok _) rw')
 . subst ey;cases (show u=Value.ref b from ry);obtain⟨z,hd,xs,rel,dd⟩:=zyo I.hok e;obtain⟨w',hw,rw'⟩:=zq8.some_of (v:=v) (o:=(atKey xs k).map (·.2)) (by rw[l]; exact rel.val k);obtain⟨p,hp,hp2⟩:=Option.map_eq_some_iff.mp hw;refine wpAny_getItem_heap (tupleKind_room_in1 hu) (zs9 I.hok eb) dd hp ?_;rw[hp2];exact h w' _ (I.tok _) rw'
theorem d_in {Q:Value->Shared->Prop} (hu:A.units+1<cLine) (I:Inv X pins σ H s) (g:zr1 H a y o) (ry:zc1 y u) (h:∀s',Inv X pins σ H s'->Q (.bool o.isSome) s') :
   wpAny (model X.prog X.w) A (compareOp .In u (.ref a)) Q E s:=by
 rcases g with⟨kvs,k,e,ey,l⟩|⟨kvs,k,b,e,ey,eb,l⟩
 . subst ey;obtain⟨z,hd,vs,rel,dd⟩:=zxo I.hok e;refine wpAny_in_of (zuk ry) hd dd.mapOf ?_;rw[<- (rel.val k).isSome_eq,<- l];exact h _ (I.tok _)
 . subst ey;cases (show u=Value.ref b from ry);obtain⟨z,hd,xs,rel,dd⟩:=zyo I.hok e;refine wpAny_in_heap (tupleKind_room_in1 hu) (zs9 I.hok eb) hd dd ?_;have q:=(rel.val k).isSome_eq;rw[Option.isSome_map] at q;rw[<- q,<- l];exact h _ (I.tok _)
theorem zof {h':Heap} {t':Nat} {ob:HO} (I:Inv X pins σ H s) (mu:Mut (H a)) (hs:Heap.SameBut a s.heap h') (he:∃q,h'.get? a=some q) (new:zdk X.prog X.w (upd H a ob) h' a ob) :
   Inv X pins σ (upd H a ob) { s with heap:=h',toks:=t' } :=
 I.write (x:=a) (e:=a) mu (.inl rfl) (λb q hb z=>(hs.2 b hb).trans z) he new
theorem zw3 {P:Program} {h':Heap} {kvs:List (Key×V)} {vs:List (Key×Value)} (z:kvs.length<=sizeLine) (hd:(a==sysModules)=false) (rel:KV kvs vs) (dd:h'.DictOf (zbz P w) a vs) :
   zdk P w H' h' a (.dK kvs):=⟨z,hd,vs,rel,dd⟩
theorem zxj {Q:Unit->Shared->Prop} (hu:A.units+1<cLine) (I:Inv X pins σ H s) (g:zu4 H a y v H') (ry:zc1 y u) (rv:zc1 v r) (h:∀s',Inv X pins σ H' s'->Q () s') :
   wpAny (model X.prog X.w) A (setItem (.ref a) u r) Q E s:=by
 rcases g with⟨kvs,k,e,ey,l,eH⟩|⟨kvs,k,b,e,ey,eb,l,eH⟩
 . subst ey eH;obtain⟨z,hd,vs,rel,dd⟩:=z0f I.hok e;have hz:vs.length<=sizeLine:=by rw[<- rel.length]; exact z
   have hl:(zei kvs k v).length<=sizeLine:=by have:=zbs kvs k v; omega
   refine wpAny_setItem_pairs (hsz:=hz) (zuk ry) dd λh' dd' hs=>h _ ?_;have he:∃q,h'.get? a=some q:=let ⟨q,_,_,hq,_⟩:=dd'; ⟨q,hq⟩
   exact zof I (by rw[e]; exact True.intro) hs he (zw3 hl hd (rel.put k rv) dd')
 . subst ey eH;cases (show u=Value.ref b from ry);obtain⟨z,hd,xs,rel,dd⟩:=z6u I.hok e;have hz:xs.length<=sizeLine:=by rw[<- Paired.length rel]; exact z
   have hl:(zei kvs k v).length<=sizeLine:=by have:=zbs kvs k v; omega
   refine wpAny_setItem_heap (hsz:=hz) (tupleKind_room_in1 hu) (zs9 I.hok eb) dd λh' dd' hs=>h _ ?_;obtain⟨q,es,ep,hq,h2,h3,h4,_,h5⟩:=dd';refine zof I (by rw[e]; exact True.intro) hs ⟨q,hq⟩ ⟨hl,hd,_,(rel.put k eb rv).keeps λc ys ec=>?_,q,es,ep,hq,h2,h3,h4,h5⟩;rw[zal (zrj ec e (λz=>nomatch z))];exact ec
end
def NoSl (i:Expr):Prop:=∀ov iv,subscripted i false ov iv=operate [ov,iv] (getItem ov iv)
theorem z2n {prog:Program} {A:Around} {E:Value->Shared->Prop} {s:Shared} {env:Env} {value slice:Expr} {pos:Pos} {T id:String} {Q:Value->Shared->Prop}
   (hl:typeLookup (.type T) "__getitem__"=pure (some (.builtin id))) (hs:NoSl slice)
   (h:wpAny (model prog w) A (eval value env) (λo s₁=>wpAny (model prog w) A (eval slice env) (λi s₂=>s₂.TypeIs o T/\wpAny (model prog w) A (getItem o i) Q E s₂) E s₁) E s) :
   wpAny (model prog w) A (eval (.Subscript value slice pos) env) Q E s:=by
 refine Subscript_ (qb0 h (λo s₁ h₁=>qb0 h₁ (λi s₂ h₂=>?_) λ_ _ x=>x) λ_ _ x=>x);obtain⟨hT,h₂⟩:=h₂;unfold subscriptTail;refine wpAny_bind ?_;rw[getitemInPython_of_ne hT.not_modules];refine wpAny_bind (wpAny_specialOf hT hl ?_);have fin:wpAny (model prog w) A (subscripted slice false o i) (λr s₃=>wpAny (model prog w) A (letTemporaryGo value o r >>= λ_=>pure r) Q E s₃) E s₂:=by rw[hs o i];exact wpAny_operating (qb0 h₂ (λr s₃ h₃=>wpAny_bind (wpAny_letTemporaryGo (wpAny_pure h₃))) λ_ _ x=>x)
 first
   | exact wpAny_pure (wpAny_bind fin)
   | exact wpAny_bind (wpAny_pure (wpAny_bind fin))
   | exact wpAny_bind fin
theorem zrl {pins:List (Addr×Obj)} {σ:St} {s:Shared} {a:Addr} {o:Option V} (I:Inv X pins σ H s) (g:zr1 H a y o):s.TypeIs (.ref a) "dict":=by
 rcases g with⟨kvs,k,e,_,_⟩|⟨kvs,k,b,e,_,_,_⟩
 . obtain⟨_,_,vs,_,dd⟩:=zxo I.hok e;exact dd.typeIs
 . obtain⟨_,_,xs,_,dd⟩:=zyo I.hok e;exact dd.typeIs
def z68 (td ty:TE):TE:=λσ H Q=>td σ H λx H1=>ty σ H1 λy H2=>∃a v,x=.ref a/\zr1 H2 a y (some v)/\Q v H2
def tDIn (ty td:TE):TE:=λσ H Q=>ty σ H λy H1=>td σ H1 λx H2=>∃a o,x=.ref a/\zr1 H2 a y o/\Q (.bl o.isSome) H2
def z60 (td ty tv:TE):TS:=λD σ H=>tv σ H λv H1=>td σ H1 λx H2=>ty σ H2 λy H3=>∃a H4,x=.ref a/\zu4 H3 a y v H4/\D.nx σ H4
section
variable {X:Cx} {o i e value:Expr} {pos pos' tpos:Pos} {td ty tv:TE}
theorem zhr (hu:X.A.units+1<cLine) (ho:PE X o td) (hi:PE X i ty) (hs:NoSl i):PE X (.Subscript o i pos) (z68 td ty):=by intro pins s σ H Q I h;refine z2n PySem.F.slot_dict_getitem.lookup hs (thn (ho pins s σ H _ I h) λu s1 ⟨x,H1,I1,rx,q1⟩=>thn (hi pins s1 σ H1 _ I1 q1) λiv s2 ⟨y,H2,I2,ry,a,v,ex,g,q2⟩=>?_);subst ex;obtain rfl:u=Value.ref a:=rx;exact⟨zrl I2 g,zx3 hu I2 g ry λw' s3 I3 rw'=>⟨v,H2,I3,rw',q2⟩⟩
theorem z6a (hu:X.A.units+1<cLine) (hi:PE X i ty) (ho:PE X o td):PC X .In i o (tDIn ty td):=by intro pins s σ H Q I h;refine thn (hi pins s σ H _ I h) λiv s1 ⟨y,H1,I1,ry,q1⟩=>thn (ho pins s1 σ H1 _ I1 q1) λu s2 ⟨x,H2,I2,rx,a,ov,ex,g,q2⟩=>?_;subst ex;obtain rfl:u=Value.ref a:=rx;exact d_in hu I2 g ry λs3 I3=>⟨.bl ov.isSome,H2,I3,rfl,q2⟩
theorem zgx (hu:X.A.units+1<cLine) (ho:PE X o td) (hi:PE X i ty) (hv:PE X value tv) (hs:swapsWith value (some (.Subscript o i pos')) pos.line X.env=pure false) :
   PS X (.Assign [.Subscript o i pos'] value pos) (z60 td ty tv):=by
 intro pins s σ H D I h;refine wpAny_Assign_Subscript (thn (hv pins s σ H _ I h) λr s1 ⟨v,H1,I1,rv,q1⟩=>thn (ho pins s1 σ H1 _ I1 q1) λu s2 ⟨x,H2,I2,rx,q2⟩=>thn (hi pins s2 σ H2 _ I2 q2) λiv s3 ⟨y,H3,I3,ry,a,H4,ex,g,q3⟩=>?_) hs;subst ex;obtain rfl:u=Value.ref a:=rx;exact zxj hu I3 g ry rv λs4 I4=>⟨σ,H4,I4,q3⟩
end
theorem zsq {P:Program} (h:Heap) (hb:sysModules<h.objs.size):zdk P w H (h.push { cls:=.type "dict",data:=.dict #[] }) h.objs.size (.dK []) :=
 ⟨qaz _,beq_eq_false_iff_ne.mpr (Ne.symm (qa6 hb)),[],.nil,Heap.DictOf.new h⟩
def z34:TE:=λ_ H Q=>∀p,H p=none->Q (.ref p) (upd H p (.dK []))
section
variable {X:Cx} {pos:Pos}
theorem ze9:PE X (.Dict [] [] pos) z34:=λpins s σ H Q I h =>
 wpAny_Dict_empty ⟨.ref s.heap.objs.size,_,I.laid (a:=s.heap.objs.size) (o:=.dK []) (t':=s.toks) (λ_ _ q=>Heap.get?_push_of_some _ q) (qaj _) (zsq s.heap I.big),rfl,h _ (I.hok.fresh (qaj _))⟩
end
structure M2 (X:Cx) (o:Expr) (m:Str) (apos:Pos) (e f:Expr) (cpos:Pos):Prop where
 base:attributeBase o m X.env (eval o X.env)=eval o X.env
 few:((backTo cpos (starEach [e,f] X.env)).all (λx=>!x.1)&&(backToKw cpos (keywordEach [] X.env)).all (λx=>x.1.isSome)
   && decide (([e,f]:List Expr).length+([]:List Keyword).length+(if([]:List Keyword).isEmpty then 0 else 1)<30))=true
 line:(apos.endLine==cpos.line)=true
 trees:backTo cpos (starEach [e,f] X.env)=[(false,eval e X.env),(false,eval f X.env)]
def IsD (H:Hp) (a:Addr):Prop:=(∃kvs,Rd H a (.dK kvs))\/∃kvs,Rd H a (.dT kvs)
theorem z54 {pins:List (Addr×Obj)} {σ:St} {s:Shared} {a:Addr} (I:Inv X pins σ H s) (d:IsD H a) :
   s.TypeIs (.ref a) "dict"/\(∀b,Value.ref a=.ref b->∃ob,s.heap.get? b=some ob/\ob.dict=none)/\(a==sysModules)=false:=by
 rcases d with⟨kvs,e⟩|⟨kvs,e⟩
 . obtain⟨_,hd,vs,_,dd⟩:=zxo I.hok e;refine⟨dd.typeIs,λb q=>?_,hd⟩;cases q;obtain⟨ob,_,_,h1,h2,_⟩:=dd;exact⟨ob,h1,h2.2.1⟩
 . obtain⟨_,hd,xs,_,dd⟩:=zyo I.hok e;refine⟨dd.typeIs,λb q=>?_,hd⟩;cases q;obtain⟨ob,_,_,h1,h2,_⟩:=dd;exact⟨ob,h1,h2.2.1⟩
end L2
namespace PySem
theorem zqe:typeLookup (.type "list") "keys"=pure none:=by rw[typeLookup_type,builtinLookup_eq_fast]; kernel_rfl
theorem zi1:entryFor table "dict.update.loop"=some Builtin.«dict.update.loop»:=entryFor_of_tree (by kernel_rfl)
theorem ze7:plainId "dict.update.loop"=true:=by decide +kernel
theorem zya {prog:Program} {w:World} {A:Around} {E:Value->Shared->Prop} {s:Shared} {a:Addr} {o:Obj} {xs:Array Value} {k:Nat} {Q:Option Value->Shared->Prop}
   (hx:s.heap.get? a=some o) (hc:o.cls=.type "list") (hdat:o.data=.seq xs k) (hd:o.dict=none) (hA:A.handled=none)
   (h:∀h' tk,(∀b ob,s.heap.get? b=some ob->h'.get? b=some ob)->Q none { s with heap:=h',toks:=tk }) :
   wpAny (model prog w) A (getAttr? (.ref a) "keys") Q E s:=by
 obtain⟨c,dct,dat,sl⟩:=o;simp only at hc hdat hd;subst hc hdat hd;obtain⟨hp,g,d,tk,os⟩:=s;have hT:∀tk',(⟨hp,g,d,tk',os⟩:Shared).TypeIs (.ref a) "list":=λ_=>⟨_,hx,rfl⟩
 have f1:=sub_AttributeError;have f3:=qdn.lookup;have f4:=qdn.bind (.ref a);have f5:=am_list_getattr_none;unfold getAttr? getAttrBy? getAttrBy
 repeat (any_goals (first|assumption|exact hT _|((with_reducible show wpAny _ _ (call (Value.builtin "list.__getattribute__") _ _) _ _ _); refine call_meets qdn (hT _) am_entry_list_getattribute (F.args_list_getattribute_2 _ _) (meets_getattribute_miss_list a xs k sl "keys" _ zqe (by decide +kernel) (by decide +kernel)) ⟨hx,hA,λh' tk' e hx'=>?_⟩)|wp_step))
 obtain⟨t',u',he⟩:=hx'.there
 try (show wpAny _ _ (getattributeRaised _ _ _ _ _ _ _) _ _ _)
 try unfold getattributeRaised
 repeat (any_goals (first|assumption|wp_step))
 all_goals (first|exact h _ _ hx'.keeps|trace_state)
end PySem
namespace L2
open PySem PySem.Spec PyProof.Rows
section
variable {X:Cx} {pins:List (Addr×Obj)} {σ:St} {H:Hp}
theorem zjj {α β:Type} {F:α->β->Prop}:∀{l:List α} {m:List β},Paired F l m->∀{i:Nat} (h1:i<l.length) (h2:i<m.length),F l[i] m[i]
 | _,_,.cons h _,0,_,_=>h
 | _,_,.cons _ t,i+1,h1,h2=>by have:=zjj t (i:=i) (by simpa using h1) (by simpa using h2);simpa using this
theorem zyf {A:Around} {R:Result->Shared->Prop} {p D it:Addr} {ps:List Addr} {kvs:List (Key×V)} (hA:A.handled=none) (hpD:p≠D) (hS:SqL X.K H p (ps.map V.ref)) (hps:Paired (λa (kv:Key×V)=>SqT X.K H a [kV kv.1,kv.2]) ps kvs)
   (hD:H D=none) (hz:kvs.length<=100000) (hit0:it≠D)
   (hR:∀s',Inv X pins σ (upd H D (.dK (kvs.foldl (λacc kv=>zei acc kv.1 kv.2) []))) s'->R (.ok (.ret .none)) s') :
   ∀(k i:Nat) (t:Tok) (s:Shared),kvs.length - i=k->i<=kvs.length->Inv X pins σ (upd H D (.dK ((kvs.take i).foldl (λacc kv=>zei acc kv.1 kv.2) []))) s->s.heap.IsListIter it p i ->
     (∀H',H' it=none->zq7 X pins H' it)->H it=none->codeAny (model X.prog X.w) A (.builtin "dict.update.loop" ⟨[.ref D,.ref it,.int (i:Nat) t,.none],[]⟩) R s:=by
 have sameD:∀o,Same H (upd H D o):=λo=>Same.new hD;have hlen:ps.length=kvs.length:=hps.length;have flen:∀(l:List (Key×V)) (acc:List (Key×V)),(l.foldl (λacc kv=>zei acc kv.1 kv.2) acc).length<=acc.length+l.length:=by
   intro l
   induction l with
   | nil=>intro acc; simp
   | cons x r ih =>
     intro acc;rw[qdj];have h1:=ih (zei acc x.1 x.2);have h2:=zbs acc x.1 x.2;simp only[List.length_cons];omega
 have big:(100000:Nat)<sizeLine:=by decide
 intro k
 induction k with
 | zero =>
   intro i t s hk hi I hit hfp hHit;have e:i=kvs.length:=by omega
   subst e;rw[qbb] at I;obtain⟨its,rv,pl,hz'⟩:=I.list ((sameD _).seq hS);obtain⟨f0,f1,f2,f3,f4,f5⟩:=hfp (upd H D (.dK (kvs.foldl (λacc kv=>zei acc kv.1 kv.2) []))) (by rw[zal hit0]; exact hHit);refine codeAny_builtin zi1 ?_;rw[Around.under_plainId ze7 _];show wpAny _ A.in1 (pyNext (.ref it) >>= _) _ _ s;have hl:=rv.length;rw[List.length_map] at hl;refine wpAny_bind (qdz hA hit pl.isList (by simp; omega) λh' eb=>?_);have I1:Inv X pins σ (upd H D (.dK (kvs.foldl (λacc kv=>zei acc kv.1 kv.2) []))) { s with heap:=h' }:=I.turned (t':=s.toks) (λb o hb e=>eb b o hb e) f0 f1 f3 f4 f5;show wpAny _ _ (Builtin.Dict.addKeywords D [] >>= _) _ _ _;exact wpAny_bind (wpAny_pure (wpAny_pure (hR _ I1)))
 | succ k ih =>
   intro i t s hk hi I hit hfp hHit;have hlt:i<kvs.length:=by omega
   obtain⟨its,rv,pl,hz'⟩:=I.list ((sameD _).seq hS);have hpi:(ps.map V.ref)[i]?=some (.ref (ps[i]'(by omega))):=by simp [show i<ps.length by omega]
   obtain⟨u,hu,ru⟩:=rv.get hpi;cases (show u=Value.ref _ from ru);obtain⟨f0,f1,f2,f3,f4,f5⟩:=hfp (upd H D (.dK ((kvs.take i).foldl (λacc kv=>zei acc kv.1 kv.2) []))) (by rw[zal hit0]; exact hHit);refine codeAny_builtin zi1 ?_;rw[Around.under_plainId ze7 _];show wpAny _ A.in1 (pyNext (.ref it) >>= _) _ _ s;refine wpAny_bind (qdu hit pl.isList (x:=.ref ps[i]) (by simpa using hu) λh' hit' sb=>?_);have I1:Inv X pins σ (upd H D (.dK ((kvs.take i).foldl (λacc kv=>zei acc kv.1 kv.2) []))) { s with heap:=h' }:=I.turned (t':=s.toks) (λb o hb e=>(sb.2 b hb).trans e) f0 f1 f3 f4 f5;have hpair:SqT X.K H ps[i] [kV (kvs[i]).1,(kvs[i]).2]:=zjj hps (by omega) hlt;obtain⟨its2,rv2,⟨o2,ho2,hc2,n2,hd2⟩,_⟩:=I1.tuple ((sameD _).tup hpair);cases rv2 with
   | cons r1 rr =>
     cases rr with
     | cons r2 rr =>
       cases rr
       rename_i ku vu
       refine wpAny_bind (qbs (wpAny_bind (wpAny_tryCatch ?_)));show wpAny _ _ (Builtin.Dict.pairItems (.ref ps[i])) _ _ _;unfold Builtin.Dict.pairItems;refine wpAny_bind (wpAny_typeOf (T:="tuple") ⟨o2,ho2,hc2⟩ ?_);rw[if_pos (by decide)];refine wpAny_bind ?_;show wpAny _ _ (load ps[i] >>= _) _ _ _;refine wpAny_bind (wpAny_load ho2 ?_);rw[hd2];refine wpAny_pure (wpAny_pure ?_);show wpAny _ _ (holding [ku,vu] (dictSet D ku vu)) _ _ _;refine qbs ?_;obtain⟨z,hd,vs,rel,dd⟩:=z0f I1.hok zab;have hl1:=flen (kvs.take i) [];have hl2:(kvs.take i).length<=kvs.length:=by rw[qbe]; omega
       simp only[qdk,qd6] at hl1;have hzv:vs.length<=sizeLine:=by rw[<- rel.length]; exact z
       refine wpAny_dictSet_pairs (hsz:=hzv) (zuk r1) dd λh2 dd2 hs2=>?_;have he:∃q,h2.get? D=some q:=let ⟨q,_,_,hq,_⟩:=dd2; ⟨q,hq⟩
       have hl3:(zei ((kvs.take i).foldl (λacc kv=>zei acc kv.1 kv.2) []) (kvs[i]).1 (kvs[i]).2).length<=sizeLine:=by have:=zbs ((kvs.take i).foldl (λacc kv=>zei acc kv.1 kv.2) []) (kvs[i]).1 (kvs[i]).2;omega
       have I2:=zof (t':=({ s with heap:=h' }:Shared).toks+1) I1 (by rw[zab]; exact True.intro) hs2 he (zw3 hl3 hd (rel.put (kvs[i]).1 r2) dd2);rw[zrp] at I2;have e3:(kvs.take (i+1)).foldl (λacc kv=>zei acc kv.1 kv.2) []=zei ((kvs.take i).foldl (λacc kv=>zei acc kv.1 kv.2) []) (kvs[i]).1 (kvs[i]).2:=by rw[qbj,qbx];simp [hlt]
       rw[<- e3] at I2;have hit2:h2.IsListIter it p (i+1):=by obtain⟨oi,hoi,ri⟩:=hit';exact⟨oi,(hs2.2 it hit0).trans hoi,ri⟩
       refine wpAny_pure ⟨plainId_quiet ze7 _,?_⟩;have:=ih (i+1) 0 _ (by omega) (by omega) I2 hit2 hfp hHit;exact this
end
section
variable {X:Cx}
def z2o (K:W.Frag):List V->Hp->VK->Prop:=λxs H Q=>∃(p:Addr) (ps:List Addr) (kvs:List (Key×V)),xs=[.ref p]/\SqL K H p (ps.map V.ref)/\Paired (λa (kv:Key×V)=>SqT K H a [kV kv.1,kv.2]) ps kvs/\kvs.length<=100000 /\
 ∀d,H d=none->Q (.ref d) (upd H d (.dK (kvs.foldl (λacc kv=>zei acc kv.1 kv.2) [])))
theorem zqh (hc:X.calm=true):zbv X (.type "dict") (z2o X.K):=by
 intro pins s σ H xs us Q I r h;obtain⟨p,ps,kvs,rfl,hS,hps,hz,q⟩:=h;obtain⟨u,rfl,ru⟩:=zl2 r;cases (show u=Value.ref p from ru);have hA:=I.ok.hd hc;have hD:H s.heap.objs.size=none:=I.hok.fresh (qaj _);obtain⟨its,rv,pl,_⟩:=I.list hS;have hplt:p<s.heap.objs.size:=pl.lt;have I0:Inv X pins σ (upd H s.heap.objs.size (.dK [])) { s with heap:=s.heap.push { cls:=.type "dict",data:=.dict #[] } } :=
   I.laid (a:=s.heap.objs.size) (o:=.dK []) (t':=s.toks) (λ_ _ q=>Heap.get?_push_of_some _ q) (qaj _) (zsq s.heap I.big)
 refine callType_codes (Q₁:=λobj s₁=>obj=.ref s.heap.objs.size/\s₁={ s with heap:=s.heap.push { cls:=.type "dict",data:=.dict #[] } }) PySem.F.kt_called_dict (PySem.F.kt_typeCall_dict_1 _) PySem.F.entry_dict_init (kt_code_dict_new _ ⟨rfl,rfl⟩) ?_;rintro obj s₁ ⟨rfl,rfl⟩;have hnew:(s.heap.push { cls:=.type "dict",data:=.dict #[] }).DictOf (zbz X.prog X.w) s.heap.objs.size []:=Heap.DictOf.new s.heap;refine⟨hnew.typeIs,PySem.F.args_dict_init_2 _ _,?_⟩;unfold Builtin.«dict.__init__»;refine wpAny_bind ?_;unfold Builtin.Dict.selfAndRest;refine wpAny_bind (wpAny_notOrdered_dict hnew.typeIs ?_);show wpAny _ _ (pure (s.heap.objs.size,[Value.ref p])) _ _ _;refine wpAny_pure ?_;show wpAny _ _ (Builtin.Dict.updateFrom "dict.__init__" s.heap.objs.size (.ref p) [] .none) _ _ _;unfold Builtin.Dict.updateFrom;obtain⟨o,n,ho,hcl,hdi,hda⟩:=pl;have ho1:(s.heap.push { cls:=.type "dict",data:=.dict #[] }).get? p=some o:=Heap.get?_push_of_some _ ho;refine wpAny_bind (wpAny_typeOf (T:="list") ⟨o,ho1,hcl⟩ ?_);rw[if_pos (by decide)];refine wpAny_bind (zya (s:={ s with heap:=s.heap.push { cls:=.type "dict",data:=.dict #[] } }) ho1 hcl hda hdi hA λh' tk hk=>?_);have I1:Inv X pins σ (upd H s.heap.objs.size (.dK [])) { s with heap:=h',toks:=tk }:=I0.kept hk;rw[if_pos (by rfl)];refine wpAny_bind (qfa ?_);have ho2:h'.get? p=some o:=hk _ _ ho1;refine wpAny_bind (qcg (s:={ s with heap:=h',toks:=tk }) (items:=its.toArray) ⟨o,ho2,hcl,n,hda⟩ ?_);have I2:Inv X pins σ (upd H s.heap.objs.size (.dK [])) { s with heap:=h'.push { cls:=.type "list_iterator",data:=.fields #[.ref p,.int 0 0] },toks:=tk }:=I1.kept (t':=tk) λb o e=>Heap.get?_push_of_some _ e;have hsz:s.heap.objs.size<h'.objs.size:=by have e:(s.heap.push { cls:=.type "dict",data:=.dict #[] }).get? s.heap.objs.size=some { cls:=.type "dict",data:=.dict #[] }:=qat _ rfl;exact Heap.lt_size (hk _ _ e)
 have hit0:h'.objs.size≠s.heap.objs.size:=qcu hsz;have hHit:H h'.objs.size=none:=I.hok.fresh (qen hsz);refine wpAny_pure ⟨plainId_quiet ze7 _,?_⟩;refine zyf (A:=X.A.in1) (it:=h'.objs.size) hA (qa6 hplt) hS hps hD hz hit0 (λs' J=>⟨rfl,.ref s.heap.objs.size,_,J,rfl,q _ hD⟩) kvs.length 0 0 _ (by omega) (qaz _) (by simpa using I2) ⟨_,qat _ rfl,rfl,rfl⟩ (λH' hn=>I1.fpOk (qaj _) hn) hHit
theorem zwe:∀(xs:List V) (us:List Value),xs.length=us.length->(∀(i:Nat) (x:V) (u:Value),xs[i]?=some x->us[i]?=some u->zc1 x u)->zcp xs us
 | [],[],_,_=>.nil
 | [],_ :: _,h,_=>by simp at h
 | _ :: _,[],h,_=>by simp at h
 | x :: xs,u :: us,h,k=>.cons (k 0 x u rfl rfl) (zwe xs us (by simpa using h) λi y v e1 e2=>k (i+1) y v (by simpa using e1) (by simpa using e2))
theorem z0s {P:Program} {w:World} {k:Key} {v:Value} (h:(zbz P w).is k v=true):zc1 (kV k) v:=by
 rcases zcn (show zsj k v=true from h) with⟨i,t,rfl,rfl⟩|⟨x,t,rfl,rfl⟩
 . exact⟨t,rfl⟩
 . exact⟨t,rfl⟩
theorem zwc {P:Program} {w:World} {kvs:List (Key×V)} {vs:List (Key×Value)} {acc:Array Value} (rel:KV kvs vs) (h:ItemsOf (λi v=>∃k x,vs[i]?=some (k,x)/\(zbz P w).is k v=true) acc vs.length) :
   zcp (kvs.map λkv=>kV kv.1) acc.toList:=by
 have hl:=rel.length;have el:acc.toList.length=acc.size:=by simp
 have hlen:(kvs.map λkv=>kV kv.1).length=acc.toList.length:=by rw[List.length_map,el,h.1]; exact hl
 refine zwe _ _ hlen λi x u e1 e2=>?_;obtain⟨k,y,e3,e4⟩:=h.2 i u (by simpa using e2);rw[List.getElem?_map] at e1;cases e5:kvs[i]? with
 | none=>rw[e5] at e1; cases e1
 | some kv =>
   rw[e5] at e1;have e1:kV kv.1=x:=by simpa using e1
   have e6:kv.1=k:=by
     have h1:i<kvs.length:=(List.getElem?_eq_some_iff.mp e5).1;have h2:i<vs.length:=by omega
     have e7:=zjj rel h1 h2;have e8:kvs[i]=kv:=by have:=List.getElem?_eq_some_iff.mp e5; exact this.2
     have e9:vs[i]=(k,y):=by have:=List.getElem?_eq_some_iff.mp e3; exact this.2
     rw[e8,e9] at e7;exact e7.1
   rw[<- e1,e6];exact z0s e4
theorem zks (hc:X.calm=true):zbv X (.type "list") (λxs H Q=>∃d kvs,xs=[.ref d]/\H d=some (.dK kvs)/\∀l,H l=none->Q (.ref l) (upd H l (.lst (kvs.map λkv=>kV kv.1)))):=by intro pins s σ H xs us Q I r h;obtain⟨d,kvs,rfl,hd,q⟩:=h;obtain⟨u,rfl,ru⟩:=zl2 r;cases (show u=Value.ref d from ru);obtain⟨z,lo,vs,rel,dd⟩:=z0f I.hok hd;have hlen:=rel.length;obtain⟨ep,dat⟩:∃ep,s.heap.DictAt (zbz X.prog X.w) d vs ep:=dd.dictAt;refine PySem.W.kdl_call (PySem.W.kdl_dict (knd:=zbz X.prog X.w) (kvs:=vs) (ep:=ep) lo) (I.ok.hd hc) dat (by rw[<- hlen]; exact z) λh' tk acc' c' hk hS hit=>?_;have hv:zcp (kvs.map λkv=>kV kv.1) acc'.toList:=zwc rel hit;refine⟨.ref s.heap.objs.size,_,I.laid (a:=s.heap.objs.size) (o:=.lst (kvs.map λkv=>kV kv.1)) hk (qaj _) ⟨by rw[List.length_map]; exact z,acc'.toList,c',hv,by simpa using hS⟩,rfl,q _ (I.hok.fresh (qaj _))⟩
end
end L2
namespace L2
open PySem PySem.Spec PyProof.Rows PySem.W
section
variable {prog:Program} {w:World} {A:Around} {E:Value->Shared->Prop} {s:Shared} {δ:Type} {R:δ->Value->Prop} {a:Addr} {D:List (Str×δ)} {k:Str} {tk:Tok} {d:δ}
theorem znn (T:KTD.TabOf R s.heap a D):s.TypeIs (.ref a) "dict":=let ⟨_,o,_,_,ho,hc,_⟩:=T; ⟨o,ho,hc.1⟩
theorem zr0 {Q:Value->Shared->Prop} (T:KTD.TabOf R s.heap a D) (hd:KTD.datumAt k D=some d) (h:∀v,R d v->Q v { s with toks:=s.toks+1 }) :
   wpAny (model prog w) A (getItem (.ref a) (.str k tk)) Q E s:=by
 have ty:=znn T;obtain⟨_,o,es,ep,ho,hc,hdt,hr⟩:=T;unfold getItem
 try with_reducible refine qbs ?_
 refine wpAny_bind (wpAny_sequenceKey ty (by decide) ?_);refine wpAny_bind (wpAny_callSpecial?_slot (name:=Str.ofString "__getitem__") ty slot_dict_getitem
   (qc3 slot_dict_getitem ty entry_dict_getitem ?_ (args_dict_getitem _ _)))
 show wpAny _ _ (dictGet a (.str k tk) >>= _) _ _ s;refine wpAny_bind ?_;unfold dictGet
 try with_reducible refine qbs ?_
 refine wpAny_bind (wpAny_pyHash_str (wpAny_bind (KTD.kt_dictFind_strs (s:={ s with toks:=s.toks+1 }) ho hdt (by obtain⟨l⟩:=es; simpa using hr.exact) ?_)));have hq:∃v,findBy (λk v=>v.isStr k) es k=some v/\R d v:=by
   have hf:findBy (λk v=>v.isStr k) es k=(es.toList.find? λe=>e.key.isStr k).map (·.val):=by obtain⟨l⟩:=es;simp [findBy]
   rw[hf];exact hr.find_some hd
 obtain⟨v,hv,hR⟩:=hq;rw[findBy_of_findIdx?] at hv;cases hi:es.findIdx? λe=>e.key.isStr k with
 | none=>rw[hi] at hv; cases hv
 | some i =>
   rw[hi] at hv;have hv:es[i]?.map (·.val)=some v:=hv;refine wpAny_bind (wpAny_dictEntries (s:={ s with toks:=s.toks+1 }) ho hdt (wpAny_pure ?_));show wpAny _ _ _ _ _ _;rw[hv];exact wpAny_pure ⟨v,rfl,wpAny_pure (h v hR)⟩
end
def z7f (K:W.Frag) (d:Addr) (rows:List (Str×List V)):Prop :=
 ∃(o:Obj) (es:Array DictEntry) (ep:Nat),K.lookup d=some o/\(d==sysModules)=false/\o.ExactDict/\o.data=.dict es ep/\KTD.Rows (λ(xs:List V) v=>∃a,v=.ref a/\∀H:Hp,SqT K H a xs) es.toList rows
def z4m (K:W.Frag):R2:=λx y H Q=>∃d rows k xs,x=.ref d/\y=.str k/\z7f K d rows/\KTD.datumAt k rows=some xs/\∀a,SqT K H a xs->Q (.ref a) H
theorem z57 {X:Cx}:IxR X (z4m X.K):=by
 intro value slice pins s σ H x y v u Q I rx ry h hs;obtain⟨d,rows,k,xs,rfl,rfl,⟨o,es,ep,ho,lo,hc,hd,hr⟩,hk,q⟩:=h;cases (show v=Value.ref d from rx);obtain⟨t,rfl⟩:=(show ∃t,u=Value.str k t from ry)
 have T:KTD.TabOf (λ(xs:List V) v=>∃a,v=.ref a/\∀H:Hp,SqT X.K H a xs) s.heap d rows:=⟨lo,o,es,ep,I.kIn d o ho,hc,hd,hr⟩
 refine tail_any (znn T) slot_dict_getitem.lookup (zr0 T hk λv hv=>?_) hs;obtain⟨a,rfl,hsq⟩:=hv;exact⟨.ref a,H,I.tok _,rfl,q a (hsq H)⟩
end L2
namespace L2
open PySem PySem.Spec PyProof.Rows
def zrn:V->Value->Bool
 | .non,.none=>true
 | .bl b,.bool c=>b==c
 | .int i,.int j _=>i==j
 | .str x,.str y _=>x==y
 | _,_=>false
theorem zsc:∀{x:V} {v:Value},zrn x v=true->zc1 x v:=by
 intro x v h;unfold zrn at h;split at h
 . rfl
 . obtain rfl:=beq_iff_eq.mp h; rfl
 . obtain rfl:=beq_iff_eq.mp h; exact⟨_,rfl⟩
 . obtain rfl:=beq_iff_eq.mp h; exact⟨_,rfl⟩
 . cases h
def zh2:List V->List Value->Bool
 | [],[]=>true
 | x :: xs,v :: vs=>zrn x v&&zh2 xs vs
 | _,_=>false
theorem zkw:∀{xs:List V} {vs:List Value},zh2 xs vs=true->zcp xs vs
 | [],[],_=>.nil
 | x :: xs,v :: vs,h=>by simp only[zh2,qa3] at h;exact .cons (zsc h.1) (zkw h.2)
 | [],_ :: _,h=>by simp [zh2] at h
 | _ :: _,[],h=>by simp [zh2] at h
def zob (K:W.Frag) (xs:List V) (v:Value):Bool:=match v with
 | .ref a=>match K.lookup a with
   | some o=>o.cls==.type "tuple"&&(match o.data with | .seq its _=>decide (its.size<=sizeLine)&&zh2 xs its.toList|_=>false)
   | none=>false
 | _=>false
theorem zr8 {K:W.Frag} (xs:List V) (v:Value) (h:zob K xs v=true):∃a,v=.ref a/\∀H:Hp,SqT K H a xs:=by
 unfold zob at h;split at h
 . rename_i a
   split at h
   . rename_i o ho
     rw[qa3] at h;obtain⟨h1,h2⟩:=h;split at h2
     . rename_i its n hd
       rw[qa3] at h2;exact⟨a,rfl,λH=>.inr ⟨o,its,n,ho,beq_iff_eq.mp h1,hd,qdr h2.1,zkw h2.2⟩⟩
     . cases h2
   . cases h
 . cases h
theorem zpq {K:W.Frag} {d:Addr} {rows:List (Str×List V)} (h:KTD.tabLook (zob K) (λa=>K.lookup a) d rows=true):z7f K d rows:=by
 simp only[KTD.tabLook,qa3] at h;obtain⟨h0,hl⟩:=h;split at hl
 . rename_i o ho
   simp only[qa3] at hl;obtain⟨⟨⟨e1,e2⟩,e3⟩,e4⟩:=hl;split at e4
   . rename_i es ep hd
     exact⟨o,es,ep,ho,by simpa using h0,⟨beq_iff_eq.mp e1,by simpa using e2,by simpa using e3⟩,hd,KTD.rows_of_look zr8 e4⟩
   . cases e4
 . cases hl
end L2
namespace L2
open PySem
def z0v:Expr->Option (List V)
 | .List es _=>zpa es
 | _=>none
def z1d:Expr->Option (List V)
 | .Tuple es _ _=>zpa es
 | _=>none
theorem z2l {X:Cx} {e:Expr} {vs:List V} (h:z0v e=some vs):PE X e (tLst λ_ H Q=>Q vs H):=by
 unfold z0v at h;split at h
 . exact zb9 (zrh h)
 . cases h
theorem zyi {X:Cx} {e:Expr} {vs:List V} (h:z1d e=some vs):PE X e (tTup λ_ H Q=>Q vs H):=by
 unfold z1d at h;split at h
 . exact zby (zrh h)
 . cases h
end L2
namespace L2
open PySem PySem.Spec PyProof.Rows
section
variable {prog:Program} {w:World} {A:Around} {E:Value->Shared->Prop} {s:Shared}
theorem gx_nextOf_tup {it t:Addr} {i:Nat} {items:Array Value} {x:Value} {Q:Value->Shared->Prop} (hit:s.heap.IsTupleIter it t i) (ht:s.heap.IsTuple t items) (hx:items[i]?=some x)
   (hQ:∀h',h'.IsTupleIter it t (i+1)->Heap.SameBut it s.heap h'->Q x { s with heap:=h' }):wpAny (model prog w) A (Builtin.SmallTypes.nextOf (.ref it)) Q E s:=by
 obtain⟨⟨o,ho,hc,hd⟩,⟨ol,hol,_,nl,hdl⟩⟩:=(⟨id hit,ht⟩:_/\_)
 unfold Builtin.SmallTypes.nextOf; refine wpAny_bind (wpAny_callSpecial?_slot (name:=Str.ofString "__next__") hit.typeIs qc0 (qc3 qc0 hit.typeIs qeh ?_ (qee _)));show wpAny (model prog w) _ (field (.ref it) 0 >>= _) _ _ s; refine wpAny_bind (qbp ho hd (x:=.ref t) rfl ?_);show wpAny (model prog w) _ (if(Value.ref t==Value.none)=true then _ else _) _ _ s; rw[if_neg (by exact qas)];show wpAny (model prog w) _ (field (.ref it) 1 >>= _) _ _ s; refine wpAny_bind (qbp ho hd (x:=.int i 0) rfl ?_);show wpAny (model prog w) _ (seqItems? (.ref t) >>= _) _ _ s; refine wpAny_bind (qct hol hdl ?_); simp only[qbu,hx];refine wpAny_bind (qdg ho hd (by simp) (wpAny_pure ⟨x,rfl,wpAny_pure (hQ _ ⟨_,qb9 _ ho (Obj.isFreed_of_fields (Obj.data_mapFields hd _)),(Obj.cls_mapFields ..).trans hc,by rw[Obj.data_mapFields hd]; simp [rawInt]⟩ (Heap.SameBut.update ..))⟩))
theorem gx_nextOf_tup_end {it t:Addr} {i:Nat} {items:Array Value} {Q:Value->Shared->Prop} (hh:A.handled=none) (hit:s.heap.IsTupleIter it t i) (ht:s.heap.IsTuple t items) (hx:items[i]?=none)
   (hE:∀h' e,Heap.ExtBut it s.heap h'->(∃o,h'.get? e=some o/\o.cls=.type "StopIteration")->E (.ref e) { s with heap:=h' }):wpAny (model prog w) A (Builtin.SmallTypes.nextOf (.ref it)) Q E s:=by
 obtain⟨⟨o,ho,hc,hd⟩,⟨ol,hol,_,nl,hdl⟩⟩:=(⟨id hit,ht⟩:_/\_)
 unfold Builtin.SmallTypes.nextOf; refine wpAny_bind (wpAny_callSpecial?_slot (name:=Str.ofString "__next__") hit.typeIs qc0 (qc3 qc0 hit.typeIs qeh ?_ (qee _)));show wpAny (model prog w) _ (field (.ref it) 0 >>= _) _ _ s; refine wpAny_bind (qbp ho hd (x:=.ref t) rfl ?_);show wpAny (model prog w) _ (if(Value.ref t==Value.none)=true then _ else _) _ _ s; rw[if_neg (by exact qas)];show wpAny (model prog w) _ (field (.ref it) 1 >>= _) _ _ s; refine wpAny_bind (qbp ho hd (x:=.int i 0) rfl ?_);show wpAny (model prog w) _ (seqItems? (.ref t) >>= _) _ _ s; refine wpAny_bind (qct hol hdl ?_); simp only[qbu,hx];refine wpAny_bind (qfa (wpAny_bind (qdg ho hd (by simp) ?_))); show wpAny (model prog w) _ (newExc (.type "StopIteration") [] >>= _) _ _ _;refine wpAny_bind ?_; simp only[newExc,newTuple]; refine wpAny_bind (qdf ?_ (by size_fits));refine wpAny_bind (m:=firstArgMember _ _) (wpAny_of_eq (a:=Value.none) (by first|rfl|(simp only[firstArgMember]; rfl)) (qdf ?_ (by size_fits)));simp only[raiseNew]; refine wpAny_bind (wpAny_handled ?_); first|rw[show A.in1.handled=none from hh] | rw[hh]
 refine wpAny_bind (wpAny_pure (wpAny_throw (hE _ _ (((Heap.SameBut.update ..).extBut.push _).push _) ⟨_,qat _ rfl,rfl⟩)))
end
variable {w:World}
theorem zkn {prog:Program} {A:Around} (hh:A.handled=none) (it t:Addr) (hne:t≠it) (items:Array Value) :
   Draws prog w A it [it,t] items.size (λi v=>items[i]?=some v) (λi h=>h.IsTupleIter it t i/\h.IsTuple t items) where
 live:=λ_ _ ⟨⟨o,ho,_⟩,_⟩=>⟨o,ho⟩
 frame:=λ_ _ _ ⟨⟨o,ho,r⟩,⟨o2,ho2,r2⟩⟩ hk=>⟨⟨o,hk it (by simp) o ho,r⟩,⟨o2,hk t (by simp) o2 ho2,r2⟩⟩
 item:=λi s Q E hi ⟨s1,s2⟩ hQ=>gx_nextOf_tup s1 s2 (x:=items[i]) (by simp [hi]) λh' hit' hs'=>hQ _ h' s.toks (by simp [hi]) ⟨hit',s2.extBut hs'.extBut hne⟩ hs'
 done:=λs Q E ⟨s1,s2⟩ hE=>gx_nextOf_tup_end hh s1 s2 (by simp) hE
variable {a:Addr}
section
variable {X:Cx} {pins:List (Addr×Obj)} {σ:St} {H:Hp} {s:Shared} {h':Heap}
theorem Inv.turnedL {t':Nat} {ch:List Addr} (I:Inv X pins σ H s) (k:∀b o,b ∉ ch->s.heap.get? b=some o->h'.get? b=some o) (hf:∀b∈ch,zq7 X pins H b):Inv X pins σ H { s with heap:=h',toks:=t' }:=by
 have nit:∀b u,H b=some u->b ∉ ch:=λb u e z=>by rw[(hf b z).1] at e; cases e
 refine I.step (g':=s.gens) (d':=s.drawn) (ch:=ch) (λb hb=>⟨(hf b hb).2.2.2.1,(hf b hb).2.1,(hf b hb).2.2.2.2.1,(hf b hb).2.2.2.2.2⟩) (λb o _ _ hc e _=>k b o hc e) (λb o _ _ hc e _=>⟨o.slots,k b o hc e⟩) (λ_ _ _ _ n=>n) (λb o hc e=>⟨o,k b o hc e⟩) (λ_ _ e=>e) (λ_ _ _ e=>e) (λb ps e=>⟨#[],by rw[e]; simp⟩) (λm hm=>?_) (λb u e=>?_) I.bare
 . obtain⟨o,es,ep,ho,r⟩:=hm;exact⟨o,es,ep,k _ _ (λz=>(hf _ z).2.1 rfl) ho,r⟩
 . have key:∀c,c=b\/H c=some (.own b)->c ∉ ch:=λc hc=>by
     rcases hc with z|z
     . subst z; exact nit _ u e
     . exact nit c _ z
   exact(I.hok b u e).stay (λc v hc q=>k c v (key c hc) q) (λ_ q=>q) λ_ _ q=>q
theorem Inv.turnLaid {t':Nat} {ch:List Addr} {o:HO} (I:Inv X pins σ H s) (k:∀b o,b ∉ ch->s.heap.get? b=some o->h'.get? b=some o) (hf:∀b∈ch,zq7 X pins H b) (hp:s.heap.objs.size<=a) (new:zdk X.prog X.w (upd H a o) h' a o) :
   Inv X pins σ (upd H a o) { s with heap:=h',toks:=t' }:=by
 have nit:∀b u,H b=some u->b ∉ ch:=λb u e z=>by rw[(hf b z).1] at e; cases e
 have hn:H a=none:=I.hok.fresh hp;refine I.step (g':=s.gens) (d':=s.drawn) (ch:=ch) (λb hb=>⟨(hf b hb).2.2.2.1,(hf b hb).2.1,(hf b hb).2.2.2.2.1,(hf b hb).2.2.2.2.2⟩) (λb o _ _ hc e _=>k b o hc e) (λb o _ _ hc e _=>⟨o.slots,k b o hc e⟩) (λb u _ q n=>by rw[zal (λz=>by subst z; exact absurd (Nat.lt_of_lt_of_le (Heap.lt_size q) hp) (qbm _))]; exact n) (λb o hc e=>⟨o,k b o hc e⟩) (λb xs q=>by rw[zal (zaf q hn)]; exact q) (λb u xs q=>by rw[zal (zaf q hn)]; exact q) (λb ps q=>⟨#[],by rw[zal (zaf q hn),q]; simp⟩) (λm hm=>?_) (λb u e=>?_) I.bare
 . obtain⟨o,es,ep,ho,r⟩:=hm;exact⟨o,es,ep,k _ _ (λz=>(hf _ z).2.1 rfl) ho,r⟩
 . by_cases hb:b=a
   . subst hb;rw[zab] at e;cases e;exact new
   . rw[zal hb] at e;have key:∀c,c=b\/H c=some (.own b)->c ∉ ch:=λc hc=>by
       rcases hc with z|z
       . subst z; exact nit _ u e
       . exact nit c _ z
     exact(I.hok b u e).stay (λc v hc q=>k c v (key c hc) q) (λc q=>(zal (zaf q hn)).trans q) λc xs q=>(zal (zaf q hn)).trans q
end
theorem zkh (l:Addr) (items:Array Value) (n:Nat) (dct:Option Addr) (sl:Array (Option Value)) :
   Meets (Builtin.«enumerate.__new__» ⟨[.type "enumerate",.ref l],[]⟩) (λ_ R s=>s.heap.get? l=some { cls:=.type "tuple",dict:=dct,data:=.seq items n,slots:=sl } /\
     R (.ok (.ret (.ref (s.heap.push { cls:=.type "tuple_iterator",data:=.fields #[.ref l,.int 0 0] }).objs.size)))
       { s with heap:=(s.heap.push { cls:=.type "tuple_iterator",data:=.fields #[.ref l,.int 0 0] }).push { cls:=.type "enumerate",data:=.fields #[.none,.bool false,.ref s.heap.objs.size,rawInt 0,.none,.none] } }) :=
 .of_wp λprog w A R s h=>by
   obtain⟨h0,g0,d0,t0,o0⟩:=s;obtain⟨hl,h⟩:=h;have hsub:=sub_enumerate;have hL:Heap.IsTuple (Shared.heap ⟨h0,g0,d0,t0,o0⟩) l items:=⟨_,hl,rfl,n,rfl⟩
   wp_walk using AutoSeq1.wpAny_loadPart' hl
   refine wpAny_stack_any λst=>wpAny_pure ?_;split
   . rename_i c _ _ _ _ _
     cases (c==Value.type "enumerate") <;> (wp_walk using AutoSeq1.wpAny_loadPart' hl,qcn hL; exact⟨_,rfl,h⟩)
   . wp_walk using AutoSeq1.wpAny_loadPart' hl,qcn hL; exact⟨_,rfl,h⟩
variable {l:Addr}
theorem zla {prog:Program} {A:Around} {E:Value->Shared->Prop} {s:Shared} {items:Array Value} {Q:Value->Shared->Prop} (hL:s.heap.IsTuple l items)
   (h:∀h',IsEnum h' (s.heap.objs.size+1) s.heap.objs.size 0 .none->h'.IsTupleIter s.heap.objs.size l 0->(∀b o,s.heap.get? b=some o->h'.get? b=some o)->Q (.ref (s.heap.objs.size+1)) { s with heap:=h' }) :
   wpAny (model prog w) A (call (.type "enumerate") [.ref l]) Q E s:=by
 obtain⟨⟨c,dct,dt,sl⟩,hl,hc,n,hd⟩:=hL;cases (show c=.type "tuple" from hc); cases (show dt=.seq items n from hd);refine callType_new F.called_enumerate (by decide) (F.typeCall_enumerate_1 _) (F.newCall_enumerate_1 _) (λobj=>F.args_object_init_2 obj _) F.entry_enumerate_new (zkh l items n dct sl) ⟨hl,?_⟩;have hz:(s.heap.push { cls:=.type "tuple_iterator",data:=.fields #[.ref l,.int 0 0] }).objs.size=s.heap.objs.size+1:=qb4 ..;have he:IsEnum ((s.heap.push { cls:=.type "tuple_iterator",data:=.fields #[.ref l,.int 0 0] }).push { cls:=.type "enumerate",data:=.fields #[.none,.bool false,.ref s.heap.objs.size,rawInt 0,.none,.none] }) (s.heap.objs.size+1) s.heap.objs.size 0 .none:=by have e:=qat (s.heap.push { cls:=.type "tuple_iterator",data:=.fields #[.ref l,.int 0 0] }) (o:={ cls:=.type "enumerate",data:=.fields #[.none,.bool false,.ref s.heap.objs.size,rawInt 0,.none,.none] }) rfl;rw[hz] at e;exact e
 show _/\_;rw[hz];exact⟨⟨_,he,rfl⟩,h _ he ⟨_,Heap.get?_push_of_some _ (qat _ rfl),rfl,rfl⟩ λb o x=>Heap.get?_push_of_some _ (Heap.get?_push_of_some _ x)⟩
def Ite (K:W.Frag) (a:Addr):It :=
 ⟨λi H=>∃xs x,SqT K H a xs/\xs[i]?=some x,λi H y H'=>∃b,y=.ref b/\H b=none/\∀xs x,SqT K H a xs->xs[i]?=some x->H'=upd H b (.tup [.int i,x]),λi H=>∃xs,SqT K H a xs/\xs.length=i⟩
variable {K:W.Frag} {elts:List Expr} {pos:Pos}
theorem zwh {P:Program} {k:Nat} (a e it:Addr) (hne:e≠it):Turn P w K (.Tuple elts k pos) (Ite K a) [e,it] e (λi h=>(∃old,IsEnum h e it i old)/\h.IsTupleIter it a i) where
 mem:=by simp
 obj:=λi h st b hb=>by
   obtain⟨⟨old,he⟩,⟨o,ho,hc,hd⟩⟩:=st;rcases qay.mp hb with z|z
   . subst z;exact⟨_,he,λv z=>by cases (show Data.fields _=Data.cell v from z)⟩
   . have z:b=it:=by simpa using z
     subst z;exact⟨o,ho,λv z=>by rw[hd] at z; cases z⟩
 keep:=λi h h' st kk=>by obtain⟨⟨old,he⟩,⟨o,ho,r⟩⟩:=st;exact⟨⟨old,kk e (by simp) _ he⟩,⟨o,kk it (by simp) o ho,r⟩⟩
 item:=by
   intro X hP hw hK hc i pins s σ H E I hf st hg;subst hP hw hK;obtain⟨⟨old,he⟩,hit⟩:=st;obtain⟨xs,x,hq,hx⟩:=hg;obtain⟨its,rv,p,hz⟩:=I.tuple hq;have pt:s.heap.IsTuple a its.toArray:=p;obtain⟨u,hu,ru⟩:=rv.get hx;have hia:a≠it:=λz=>by
     subst z;obtain⟨o1,h1,c1,_⟩:=hit;obtain⟨o2,h2,c2,_⟩:=pt;rw[h1] at h2;cases h2;rw[c1] at c2;injection c2 with c2
     exact absurd c2 (by decide)
   have hea:e ∉ [it,a]:=λz=>by
     rcases qay.mp z with z|z
     . exact hne z
     . have z:e=a:=by simpa using z
       subst z;obtain⟨o2,h2,c2,_⟩:=pt;rw[he] at h2;cases h2;injection (show Value.type "enumerate"=Value.type "tuple" from c2) with c2
       exact absurd c2 (by decide)
   have hlt:i<its.toArray.size:=by have:=(List.getElem?_eq_some_iff.mp hu).1;simpa using this
   refine qez (zkn (A:=X.A.in1) (I.ok.hd hc) it a hia its.toArray) he ⟨hit,pt⟩ hlt hne hea λy h' tk hy hout hst hT hsz hk=>?_;refine⟨_,rfl,qek hout λh2 he2 hs2=>?_⟩;have hs2:Heap.SameBut e h' h2:=hs2;have hyu:y=u:=by
     have hy:its.toArray[i]?=some y:=hy;have:its[i]?=some y:=by simpa using hy
     rw[hu] at this;exact(Option.some.inj this).symm
   subst hyu;have helt:e<s.heap.objs.size:=Heap.lt_size he;have hfr:H s.heap.objs.size=none:=I.hok.fresh (qaj _);have hnS:s.heap.objs.size≠e:=qcu helt;have hT2:h2.get? s.heap.objs.size=some { cls:=.type "tuple",data:=.seq #[.int i tk,y] }:=(hs2.2 _ hnS).trans hT;refine⟨.ref s.heap.objs.size,upd H s.heap.objs.size (.tup [.int i,x]),I.turnLaid (t':=tk+1) (ch:=[e,it]) (λb o hb q=>?_) hf (qaj _) ?_,rfl,⟨s.heap.objs.size,rfl,hfr,λxs' x' hq' hx'=>?_⟩,⟨⟨y,by exact_mod_cast he2⟩,?_⟩,λb hb=>?_⟩
   . have h1:b≠e:=λz=>hb (by simp [z]);have h3:b≠it:=λz=>hb (by simp [z]);exact(hs2.2 b h1).trans (hk b o h1 h3 q)
   . exact⟨by show 2<=sizeLine; decide,[.int i tk,y],.cons ⟨tk,rfl⟩ (.cons ru .nil),⟨_,hT2,rfl,_,rfl⟩⟩
   . have:=I.tuple_inj hq' hq;subst this;rw[hx] at hx';cases hx';rfl
   . obtain⟨⟨o,ho,r⟩,_⟩:=hst;exact⟨o,(hs2.2 it hne.symm).trans ho,r⟩
   . have hb0:=(hf b hb).1;rw[zal]
     . exact hb0
     . intro z;subst z;obtain⟨o,ho,_⟩:=hit;rcases qay.mp hb with z|z
       . exact hnS z
       . have z:s.heap.objs.size=it:=by simpa using z
         exact absurd (Heap.lt_size ho) (by rw[<- z]; exact qbm _)
 done:=by
   intro X hP hw hK hc i pins s σ H E I hf st hg;subst hP hw hK;obtain⟨⟨old,he⟩,hit⟩:=st;obtain⟨xs,hq,hx⟩:=hg;obtain⟨its,rv,p,hz⟩:=I.tuple hq;have pt:s.heap.IsTuple a its.toArray:=p;have hl:=rv.length;have hia:a≠it:=λz=>by
     subst z;obtain⟨o1,h1,c1,_⟩:=hit;obtain⟨o2,h2,c2,_⟩:=pt;rw[h1] at h2;cases h2;rw[c1] at c2;injection c2 with c2
     exact absurd c2 (by decide)
   have hi:i=its.toArray.size:=by simp; omega
   refine wpAny_pyNext_enum_endD (zkn (A:=X.A.in1) (I.ok.hd hc) it a hia its.toArray) he (by rw[<- hi]; exact⟨hit,pt⟩) λh' eb=>⟨rfl,?_⟩
   exact I.turnedL (t':=s.toks) (ch:=[e,it]) (λb o hb q=>eb b o (λz=>hb (by simp [z])) q) hf
 self:=λ_ _ _ _ _ st h=>by obtain⟨⟨old,he⟩,_⟩:=st;exact qds he h
variable {xs:List V} {tb:TS} {σ:St} {H:Hp}
section
variable {X:Cx}
theorem zo3:bootBuiltins "enumerate"=some (.type "enumerate"):=zqa
def z32 (K:W.Frag) (ta:TA):TI:=λσ H R=>ta σ H λvs H1=>∃a,vs=[.ref a]/\(∃xs,SqT K H1 a xs)/\R (Ite K a) H1
theorem zoh {a:Expr} {ta:TA} {p tpos:Pos}{k:Nat} (hg:Gl X "enumerate") (hm:X.mg "enumerate"=none) (ha:PA X [a] ta) (hs:starEach [a] X.env=[(false,eval a X.env)]:=by rfl):PI X (.Tuple elts k tpos) (.Call (.Name "enumerate" p) [a] [] pos) (z32 X.K ta):=by
 intro pins s σ H R I h;refine Call_ (zkr I hg hm zo3 (qbz (thn (ha pos pins s σ H _ I h) λus s1 ⟨vs,H1,I1,r1,q1⟩=>?_) hs rfl));obtain⟨a,e,⟨xs,hq⟩,q⟩:=q1;subst e;cases r1 with
 | cons r rr =>
   cases rr;cases r;obtain⟨its,rv,p,hz⟩:=I1.tuple hq;refine zla (show s1.heap.IsTuple a its.toArray from p) λh' he hit hk=>?_;refine qds he ?_;refine⟨s1.heap.objs.size+1,[s1.heap.objs.size+1,s1.heap.objs.size],_,_,H1,rfl,I1.kept (t':=s1.toks) hk,zwh a (s1.heap.objs.size+1) s1.heap.objs.size (Nat.succ_ne_self _),⟨⟨.none,he⟩,hit⟩,λb hb=>?_,q⟩;rcases qay.mp hb with z|z
   . subst z;exact I1.fpOk (qcp _) (I1.hok.fresh (qcp _))
   . have z:b=s1.heap.objs.size:=by simpa using z
     subst z;exact I1.fpOk (qaj _) (I1.hok.fresh (qaj _))
theorem zl1 {g:TG} {D:zjb} (Pv:Nat->St->Hp->Prop) (h0:Pv 0 σ H) (hl:∀i σ H,i<=xs.length->Pv i σ H->SqT K H a xs)
   (hs:∀i x σ H b,xs[i]?=some x->Pv i σ H->H b=none->g (.ref b) σ (upd H b (.tup [.int i,x])) λσ2 H2=>tb { D with nx:=Pv (i+1),ct:=Pv (i+1),bk:=D.nx } σ2 H2) (hd:∀σ H,Pv xs.length σ H->D.nx σ H) :
   ∃W:Nat->Nat->St->Hp->Prop,(∃m,W 0 m σ H)/\∀i m σ H,W i m σ H->((Ite K a).stop i H/\D.nx σ H)\/((Ite K a).go i H/\∃N:St->Hp->Prop,(∀σ' H',N σ' H'->∃m',m'<m/\W (i+1) m' σ' H')/\∀x H',(Ite K a).yld i H x H'->g x σ H' λσ2 H2=>tb { D with nx:=N,ct:=N,bk:=D.nx } σ2 H2):=by
 refine⟨λi m σ H=>m=xs.length - i/\i<=xs.length/\Pv i σ H,⟨xs.length,by simp,qaz _,h0⟩,?_⟩;rintro i m σ H ⟨rfl,hi,p⟩;have q:=hl i σ H hi p;by_cases hlt:i<xs.length
 . refine .inr ⟨⟨xs,xs[i],q,by simp [hlt]⟩,Pv (i+1),λσ' H' p'=>⟨xs.length - (i+1),by omega,rfl,hlt,p'⟩,λx H' y=>?_⟩;obtain⟨b,rfl,hb,y⟩:=y;rw[y xs xs[i] q (by simp [hlt])];exact hs i xs[i] σ H b (by simp [hlt]) p hb
 . have e:i=xs.length:=by omega
   subst e;exact .inl ⟨⟨xs,q,rfl⟩,hd σ H p⟩
end
section
variable {X:Cx} {pins:List (Addr×Obj)} {σ:St} {H:Hp} {s:Shared}
theorem Inv.freeze {d:Addr} {kvs:List (Key×V)} (I:Inv X pins σ H s) (e:H d=some (.dK kvs)):∃o,s.heap.get? d=some o/\Inv X pins σ (upd H d (.frz o (.dK kvs))) s:=by
 obtain⟨z,hd,vs,rel,⟨o,es,ep,ho,r⟩⟩:=I.hok d _ e;refine⟨o,ho,?_⟩;have nd:∀b u,H b=some u->u≠.dK kvs->b≠d:=λb u q n z=>by subst z;rw[e] at q;cases q;exact n rfl
 refine I.step (g':=s.gens) (t':=s.toks) (d':=s.drawn) (h':=s.heap) (ch:=[]) (λ_ z=>nomatch z) (λb o _ _ _ q _=>q) (λb o _ _ _ q _=>⟨o.slots,q⟩) (λb o _ _ n=>?_) (λb o _ q=>⟨o,q⟩) (λb xs q=>?_) (λb o u q=>?_) (λb ps q=>⟨#[],?_⟩) (λm hm=>hm) (λb u q=>?_) I.bare
 . rw[zal (λz=>by subst z; rw[e] at n; cases n)];exact n
 . rw[zal (nd b _ q (by intro z; cases z))];exact q
 . rw[zal (nd b _ q (by intro z; cases z))];exact q
 . rw[zal (nd b _ q (by intro z; cases z)),q];simp
 . have own:∀c b,H c=some (.own b)->(upd H d (.frz o (.dK kvs))) c=some (.own b):=λc b q=>(zal (nd c _ q (by intro z; cases z))).trans q;have tup:∀c xs,H c=some (.tup xs)->(upd H d (.frz o (.dK kvs))) c=some (.tup xs):=λc xs q=>(zal (nd c _ q (by intro z; cases z))).trans q;by_cases hb:b=d
   . subst hb;rw[zab] at q;cases q;exact⟨ho,(I.hok _ _ e).stay (λ_ _ _ q=>q) (λc q=>own c _ q) tup⟩
   . rw[zal hb] at q;exact(I.hok b u q).stay (λ_ _ _ q=>q) (λc q=>own c _ q) tup
end
theorem zna:entryFor table "dict_itemiterator.__iter__"=some Builtin.«dict_keyiterator.__iter__»:=entryFor_alias (id':="dict_keyiterator.__iter__") (by kernel_rfl) (by first|rfl|decide +kernel|(unfold String.splitOn; simp +decide [String.splitOnAux])) (by decide +kernel) (by kernel_rfl)
def Itd (o:Obj) (d:Addr) (kvs:List (Key×V)):It :=
 ⟨λi H=>H d=some (.frz o (.dK kvs))/\i<kvs.length,λi H y H'=>∃b,y=.ref b/\H b=none/\∀kv,kvs[i]?=some kv->H'=upd H b (.tup [kV kv.1,kv.2]),λi H=>H d=some (.frz o (.dK kvs))/\i=kvs.length⟩
theorem zwk {X:Cx} {pins:List (Addr×Obj)} {s:Shared} {o:Obj} {d:Addr} {kvs:List (Key×V)} (I:Inv X pins σ H s) (e:H d=some (.frz o (.dK kvs))) {es0:Array DictEntry} {ep:Nat} (hep:o.data=.dict es0 ep) :
   ∃vs,KV kvs vs/\s.heap.DictAt (zbz X.prog X.w) d vs ep:=by
 obtain⟨h1,z,hd,vs,rel,⟨o',es,ep',ho,hx,hdat,r⟩⟩:=I.hok d _ e;rw[h1] at ho;cases ho;rw[hep] at hdat;cases hdat;exact⟨vs,rel,o,es0,h1,hx,hep,r⟩
theorem zvd {P:Program} {k:Nat} (o:Obj) (d it:Addr) (kvs:List (Key×V)) (es0:Array DictEntry) (ep:Nat) (hep:o.data=.dict es0 ep) :
   Turn P w K (.Tuple elts k pos) (Itd o d kvs) [it] it (λi h=>∃ok ov,IsItemIter h it d i kvs.length ep ok ov) where
 mem:=by simp
 obj:=λi h st b hb=>by
   obtain⟨ok,ov,he⟩:=st;have z:b=it:=by simpa using hb
   subst z;exact⟨_,he,λv z=>by cases (show Data.fields _=Data.cell v from z)⟩
 keep:=λi h h' st kk=>by obtain⟨ok,ov,he⟩:=st;exact⟨ok,ov,kk it (by simp) _ he⟩
 item:=by
   intro X hP hw hK hc i pins s σ H E I hf st hg;subst hP hw hK;obtain⟨ok,ov,he⟩:=st;obtain⟨hfz,hi⟩:=hg;obtain⟨vs,rel,hD⟩:=zwk I hfz hep;have hlen:kvs.length=vs.length:=KV.length rel;have hi':i<vs.length:=by omega
   have rk:kvs[i].1=vs[i].1/\zc1 kvs[i].2 vs[i].2:=zjj rel hi hi';refine wpAny_pyNext_items_item (knd:=zbz X.prog X.w) (k:=vs[i].1) (v:=vs[i].2) (kvs:=vs) (by rw[<- hlen]; exact he) hD (by simp [hi']) λkey h' hkey hout hT hsz hk=>?_;refine⟨_,rfl,wpAny_letOwnedTupleGo_items hout λh2 he2 hs2=>?_⟩;have hs2:Heap.SameBut it h' h2:=hs2;have hilt:it<s.heap.objs.size:=Heap.lt_size he;have hnS:s.heap.objs.size≠it:=qcu hilt;have hfr:H s.heap.objs.size=none:=I.hok.fresh (qaj _);have hT2:h2.get? s.heap.objs.size=some { cls:=.type "tuple",data:=.seq #[key,vs[i].2] }:=(hs2.2 _ hnS).trans hT;refine⟨.ref s.heap.objs.size,upd H s.heap.objs.size (.tup [kV kvs[i].1,kvs[i].2]),I.turnLaid (t':=s.toks) (ch:=[it]) (λb o hb q=>?_) hf (qaj _) ?_,rfl,⟨s.heap.objs.size,rfl,hfr,λkv hkv=>?_⟩,⟨_,_,by rw[hlen]; exact he2⟩,λb hb=>?_⟩
   . have h1:b≠it:=λz=>hb (by simp [z]);exact(hs2.2 b h1).trans (hk b o h1 q)
   . exact⟨by show 2<=sizeLine; decide,[key,vs[i].2],.cons (by rw[rk.1]; exact z0s hkey) (.cons rk.2 .nil),⟨_,hT2,rfl,_,rfl⟩⟩
   . have:kvs[i]=kv:=by simpa [hi] using hkv
     rw[<- this]
   . have z:b=it:=by simpa using hb
     subst z;rw[zal hnS.symm];exact(hf _ hb).1
 done:=by
   intro X hP hw hK hc i pins s σ H E I hf st hg;subst hP hw hK;obtain⟨ok,ov,he⟩:=st;obtain⟨hfz,hi⟩:=hg;obtain⟨vs,rel,hD⟩:=zwk I hfz hep;have hlen:kvs.length=vs.length:=KV.length rel;refine wpAny_pyNext_items_end (knd:=zbz X.prog X.w) (kvs:=vs) (I.ok.hd hc) (by rw[<- hlen]; exact he) hD (by simp; omega) λh' eb=>⟨rfl,?_⟩
   exact I.turnedL (t':=s.toks) (ch:=[it]) (λb o hb q=>eb b o (λz=>hb (by simp [z])) q) hf
 self:=λA i s Q E st h=>by
   obtain⟨ok,ov,he⟩:=st;have hT:s.TypeIs (.ref it) "dict_itemiterator":=⟨_,he,rfl⟩
   exact wpAny_pyIter_slot hT qeb (qc3 qeb hT zna (show wpAny _ _ (ret (.ref it)) _ _ s from wpAny_pure ⟨_,rfl,"dict_itemiterator",_,hT,F.slot_dict_itemiterator_next.lookup,h⟩) (F.args_dict_itemiterator_iter_1 _))
section
variable {X:Cx}
def z6c (td:TE):TI:=λσ H R=>td σ H λx H1=>∃d kvs,x=.ref d/\((H1 d=some (.dK kvs)/\∀o,R (Itd o d kvs) (upd H1 d (.frz o (.dK kvs))))\/∃o,H1 d=some (.frz o (.dK kvs))/\R (Itd o d kvs) H1)
theorem zth {l:Expr} {td:TE} {apos cpos tpos:Pos} {k:Nat} (hl:PE X l td) (hbase:attributeBase l "items" X.env (eval l X.env)=eval l X.env:=by rfl) (hline:(apos.endLine==cpos.line)=true:=by rfl) :
   PI X (.Tuple elts k tpos) (.Call (.Attribute l "items" apos) [] [] cpos) (z6c td):=by
 intro pins s σ H R I h;refine qey hbase hline (thn (hl pins s σ H _ I h) λv s1 ⟨x,H1,I1,r1,q1⟩=>?_);obtain⟨d,kvs,rfl,q1⟩:=q1;cases r1;have key:∃o H2,Inv X pins σ H2 s1/\H2 d=some (.frz o (.dK kvs))/\R (Itd o d kvs) H2:=by
   rcases q1 with⟨e,q⟩|⟨o,e,q⟩
   . obtain⟨o,ho,I2⟩:=I1.freeze e;exact⟨o,_,I2,zab,q o⟩
   . exact⟨o,H1,I1,e,q⟩
 obtain⟨o,H2,I2,e2,q⟩:=key;obtain⟨ho,z,hd,vs,rel,dd⟩:=I2.hok d _ e2;obtain⟨o',es,ep,ho',hx,hdat,r⟩:=id dd;rw[ho] at ho';cases ho';refine⟨"dict","dict.items",qe0,qe1,PySem.F.type_dict_items,dd.typeIs,λb q=>?_,Calls.callWith_builtin rfl (PySem.evalArgs_none ?_)⟩
 . cases q;exact⟨o,ho,hx.2.1⟩
 refine call_meetsIn qe1 dd.typeIs PySem.F.entry_dict_items (PySem.F.args_dict_items_1 _) (meets_dict_items (zbz X.prog X.w) d hd) ⟨⟨vs,dd⟩,?_⟩;have I3:Inv X pins σ H2 { s1 with heap:=s1.heap.push { cls:=.type "dict_items",data:=.fields #[.ref d] } }:=I2.kept (t':=s1.toks) λb o e=>Heap.get?_push_of_some _ e;obtain⟨vs3,rel3,hD3⟩:=zwk I3 e2 hdat;refine wpAny_pyIter_items (knd:=zbz X.prog X.w) (kvs:=vs3) (ep:=ep) ⟨_,qat _ rfl,rfl,rfl⟩ hD3 ?_;have hlen:kvs.length=vs3.length:=KV.length rel3;rw[<- hlen];generalize hh3:s1.heap.push { cls:=.type "dict_items",data:=.fields #[.ref d] }=h3 at I3 ⊢;refine⟨h3.objs.size,[h3.objs.size],_,_,H2,rfl,I3.kept (t':=s1.toks) λb o e=>Heap.get?_push_of_some _ e,zvd o d h3.objs.size kvs es ep hdat,⟨_,_,qat _ rfl⟩,λb hb=>?_,q⟩;have z:b=h3.objs.size:=by simpa using hb
 subst z;exact I3.fpOk (qaj _) (I3.hok.fresh (qaj _))
theorem zqk {o:Obj} {d:Addr} {kvs:List (Key×V)} {g:TG} {D:zjb} (Pv:Nat->St->Hp->Prop) (h0:Pv 0 σ H) (hl:∀i σ H,i<=kvs.length->Pv i σ H->H d=some (.frz o (.dK kvs)))
   (hs:∀i kv σ H b,kvs[i]?=some kv->Pv i σ H->H b=none->g (.ref b) σ (upd H b (.tup [kV kv.1,kv.2])) λσ2 H2=>tb { D with nx:=Pv (i+1),ct:=Pv (i+1),bk:=D.nx } σ2 H2) (hd:∀σ H,Pv kvs.length σ H->D.nx σ H) :
   ∃W:Nat->Nat->St->Hp->Prop,(∃m,W 0 m σ H)/\∀i m σ H,W i m σ H->((Itd o d kvs).stop i H/\D.nx σ H)\/((Itd o d kvs).go i H/\∃N:St->Hp->Prop,(∀σ' H',N σ' H'->∃m',m'<m/\W (i+1) m' σ' H')/\∀x H',(Itd o d kvs).yld i H x H'->g x σ H' λσ2 H2=>tb { D with nx:=N,ct:=N,bk:=D.nx } σ2 H2):=by
 refine⟨λi m σ H=>m=kvs.length - i/\i<=kvs.length/\Pv i σ H,⟨kvs.length,by simp,qaz _,h0⟩,?_⟩;rintro i m σ H ⟨rfl,hi,p⟩;have q:=hl i σ H hi p;by_cases hlt:i<kvs.length
 . refine .inr ⟨⟨q,hlt⟩,Pv (i+1),λσ' H' p'=>⟨kvs.length - (i+1),by omega,rfl,hlt,p'⟩,λx H' y=>?_⟩;obtain⟨b,rfl,hb,y⟩:=y;rw[y kvs[i] (by simp [hlt])];exact hs i kvs[i] σ H b (by simp [hlt]) p hb
 . have e:i=kvs.length:=by omega
   subst e;exact .inl ⟨⟨q,rfl⟩,hd σ H p⟩
end
section
variable {X:Cx} {o e f:Expr} {apos cpos:Pos} {td ty tx:TE}
def z48 (td ty tx:TE):TE:=λσ H Q=>td σ H λx H1=>∃a,x=.ref a/\IsD H1 a/\ty σ H1 λy H2=>tx σ H2 λz H3=>∃kvs k,H3 a=some (.dK kvs)/\y=kV k/\kvs.length<sizeLine /\
 (∀v,zg4 kvs k=some v->Q v H3)/\(zg4 kvs k=none->Q z (upd H3 a (.dK (zei kvs k z))))
theorem z0g (ho:PE X o td) (he:PE X e ty) (hf:PE X f tx) (m:M2 X o "setdefault" apos e f cpos):PE X (.Call (.Attribute o "setdefault" apos) [e,f] [] cpos) (z48 td ty tx):=by
 intro pins s σ H Q I h;refine wpAny_Call_method m.base m.few m.line qe0 qef PySem.F.type_dict_setdefault (thn (ho pins s σ H _ I h) λu s1 ⟨x,H1,I1,rx,a,ex,d,q1⟩=>?_);subst ex;obtain rfl:u=Value.ref a:=rx;obtain⟨t1,t2,_⟩:=z54 I1 d;refine⟨t1,t2,?_⟩;rw[m.trees];refine Calls.callWith_builtin rfl (Calls.evalArgs_plain (Calls.spliced_cons (thn (he pins s1 σ H1 _ I1 q1) λiv s2 ⟨y,H2,I2,ry,q2⟩=>Calls.spliced_cons (thn (hf pins s2 σ H2 _ I2 q2) λfv s3 ⟨z,H3,I3,rz,kvs,k,ea,ey,hl,q3,q4⟩=>Calls.spliced_nil ?_))));subst ey;obtain⟨hz,hd,vs,rel,dd⟩:=z0f I3.hok ea;refine call_meetsIn qef dd.typeIs PySem.F.entry_dict_setdefault (PySem.F.args_dict_setdefault_3 _ _ _) (kt_meets_setdefault (zbz X.prog X.w) a (zuk ry) hd fv) ⟨vs,dd,by rw[<- rel.length]; exact hz,λv hv=>?_,λhn h' dd' hs=>?_⟩
 . have rv:=rel.val k;rw[hv] at rv;cases l:zg4 kvs k with
   | none=>rw[l] at rv; exact absurd rv (by intro z; cases z)
   | some v' =>
     rw[l] at rv;exact⟨v',H3,I3.tok _,rv,q3 v' l⟩
 . have rv:=rel.val k;rw[hn] at rv;have l:zg4 kvs k=none:=by
     cases l:zg4 kvs k with
     | none=>rfl
     | some v'=>rw[l] at rv; exact absurd rv (by intro z; cases z)
   have hex:∃q,h'.get? a=some q:=let ⟨q,_,_,hq,_⟩:=dd'; ⟨q,hq⟩
   have hlp:(zei kvs k z).length<=sizeLine:=by have:=zbs kvs k z; omega
   exact⟨z,_,zof I3 (by rw[ea]; exact True.intro) hs hex (zw3 hlp hd (rel.put k rz) dd'),rz,q4 l⟩
end
def Itn (hi:Int) (n:Nat):It:=⟨λi _=>i<n,λi H x H'=>H'=H/\x=.int (hi - i),λi _=>n<=i⟩
theorem zvu {P:Program} {tg:Expr} (it:Addr) (hi:Int) (n:Nat):Turn P w K tg (Itn hi n) [it] it (λi h=>IsRangeIter h it (hi+(i:Nat) * (-1)) ((n:Int) - (i:Nat)) (-1)) where
 mem:=by simp
 obj:=λi h st b hb=>by
   have e:b=it:=by simpa using hb
   subst e;exact⟨_,st,λv z=>by cases (show Data.fields _=Data.cell v from z)⟩
 keep:=λi h h' st k=>k it (by simp) _ st
 item:=by
   intro X hP hw hK hc i pins s σ H E I hf st hg;subst hP hw hK;refine(Walks.range (prog:=X.prog) (w:=X.w) (I.ok.hd hc) it hi (-1) n).item i s _ _ hg st λv h' tk hv st' kk=>?_;obtain⟨t,rfl⟩:=hv;have I1:Inv X pins σ H { s with heap:=h',toks:=tk }:=I.turnedL (ch:=[it]) (λb o hb e=>kk b o hb e) hf;have e:hi+(i:Int) * (-1)=hi - (i:Int):=by omega
   exact⟨_,rfl,zwn (s:={ s with heap:=h',toks:=tk }) (n:="range_iterator") st' rfl rfl (by decide) ⟨.int (hi - i),H,I1,⟨t,by rw[e]⟩,⟨rfl,rfl⟩,st',λb hb=>(hf b hb).1⟩⟩
 done:=by intro X hP hw hK hc i pins s σ H E I hf st hg;subst hP hw hK;exact wpAny_pyNext_range_end (I.ok.hd hc) st (by have:n<=i:=hg; omega) λh' eb=>⟨rfl,I.turnedL (t':=s.toks) (ch:=[it]) (λb o hb e=>eb b o (λz=>hb (by simp [z])) e) hf⟩
 self:=λ_ _ _ _ _ st h=>wpAny_pyIter_rangeiter st h
theorem zic (a b:Int):Builtin.Range.rangeSize a b (-1)=if b<a then a - b else 0:=by
 unfold Builtin.Range.rangeSize;rw[if_neg (by decide)];have:(-(-1):Int)=1:=by decide
 rw[this];rw[Int.ediv_one];by_cases h:b<a
 . rw[if_pos h,if_pos h]; omega
 . rw[if_neg h,if_neg h]
theorem zuh {a b:Int} (ha:-(2 ^ 60)<=a) (ha':a<2 ^ 60) (hb:-(2 ^ 60)<=b) (hb':b<2 ^ 60):Builtin.Range.small a b (-1)=true:=by
 unfold Builtin.Range.small;rw[zic];simp only[Builtin.Range.rangeFitsLong,qa3,qe5,decide_eq_true_eq,qdq,show ¬ ((-1:Int) > 0) by decide,if_false];by_cases h:b<a
 . simp only[if_pos h]; omega
 . simp only[if_neg h]; omega
variable {n:Nat}
section
variable {X:Cx} {tg:Expr}
def z62 (ta:TA):TI:=λσ H R=>ta σ H λvs H1=>∃i j:Int,vs=[.int i,.int j,.int (-1)]/\(-(2 ^ 60)<=i/\i<2 ^ 60/\-(2 ^ 60)<=j/\j<2 ^ 60)/\R (Itn i (i - j).toNat) H1
theorem zvm {a b c:Expr} {ta:TA} {p:Pos}(hg:Gl X "range") (hm:X.mg "range"=none) (ha:PA X [a,b,c] ta) (hs:starEach [a,b,c] X.env=(false,eval a X.env) :: starEach [b,c] X.env:=by rfl) (hs2:(backTo pos (starEach [b,c] X.env)).any (·.1)=false:=by rfl) :
   PI X tg (.Call (.Name "range" p) [a,b,c] [] pos) (z62 ta):=by
 intro pins s σ H R I h;refine Call_ (zkr I hg hm boot_range (qbz (thn (ha pos pins s σ H _ I h) λus s1 ⟨vs,H1,I1,r1,q1⟩=>?_) hs hs2));obtain⟨i,j,e,⟨q1,q2,q3,q4⟩,q⟩:=q1;subst e;cases r1 with
 | cons r rr =>
   cases rr with
   | cons r' rr =>
     cases rr with
     | cons r'' rr =>
       cases rr;obtain⟨t,rfl⟩:=r;obtain⟨t',rfl⟩:=r';obtain⟨t'',rfl⟩:=r'';refine call_range_3 (by decide) ?_ (.inl (PyProof.noPylong_small (by omega)));refine wpAny_pyIter_range (IsRange.new ..) (zuh q1 q2 q3 q4) ?_;have I2:Inv X pins σ H1 { s1 with heap:=s1.heap.push { cls:=.type "range",data:=.fields #[.int i t,.int j t',.int (-1) t''] },toks:=s1.toks }:=I1.kept λb o e=>Heap.get?_push_of_some _ e;refine⟨_,[(s1.heap.push { cls:=.type "range",data:=.fields #[.int i t,.int j t',.int (-1) t''] }).objs.size],_,_,H1,rfl,I2.kept (t':=s1.toks) λb o e=>Heap.get?_push_of_some _ e,zvu _ i (i - j).toNat,?_,λb hb=>?_,q⟩
       . have e1:i+((0:Nat):Int) * (-1)=i:=by omega
         have e2:(((i - j).toNat:Nat):Int) - ((0:Nat):Int)=Builtin.Range.rangeSize i j (-1):=by rw[zic]; split <;> omega
         show IsRangeIter _ _ (i+((0:Nat):Int) * (-1)) ((((i - j).toNat:Nat):Int) - ((0:Nat):Int)) (-1);rw[e1,e2];exact qat _ rfl
       . have e:b=(s1.heap.push { cls:=.type "range",data:=.fields #[.int i t,.int j t',.int (-1) t''] }).objs.size:=by simpa using hb
         subst e;exact I2.fpOk (qaj _) (I2.hok.fresh (qaj _))
theorem zy2 {hi:Int} {g:TG} {D:zjb} (Pv:Nat->St->Hp->Prop) (h0:Pv 0 σ H) (hs:∀i σ H,i<n->Pv i σ H->g (.int (hi - i)) σ H λσ2 H2=>tb { D with nx:=Pv (i+1),ct:=Pv (i+1),bk:=D.nx } σ2 H2) (hd:∀σ H,Pv n σ H->D.nx σ H) :
   ∃W:Nat->Nat->St->Hp->Prop,(∃m,W 0 m σ H)/\∀i m σ H,W i m σ H->((Itn hi n).stop i H/\D.nx σ H)\/((Itn hi n).go i H/\∃N:St->Hp->Prop,(∀σ' H',N σ' H'->∃m',m'<m/\W (i+1) m' σ' H')/\∀x H',(Itn hi n).yld i H x H'->g x σ H' λσ2 H2=>tb { D with nx:=N,ct:=N,bk:=D.nx } σ2 H2):=by
 refine⟨λi m σ H=>m=n - i/\i<=n/\Pv i σ H,⟨n,by simp,qaz _,h0⟩,?_⟩;rintro i m σ H ⟨rfl,hi',p⟩;by_cases hlt:i<n
 . refine .inr ⟨hlt,Pv (i+1),λσ' H' p'=>⟨n - (i+1),by omega,rfl,hlt,p'⟩,λx H' y=>?_⟩;obtain⟨e,y⟩:=y;subst e y;exact hs i σ _ hlt p
 . have e:i=n:=by omega
   subst e;exact .inl ⟨qaj _,hd σ H p⟩
end
theorem z29 {X:Cx} {st:Stmt} {rest:List Stmt} {t u:TS} (h1:PS X st t) (h2:PSs X rest u):PSs X (st :: rest) (λD σ H=>∃M:St->Hp->Prop,t { D with nx:=M } σ H/\∀σ' H',M σ' H'->u D σ' H'):=by
 intro pins s σ H D I h;obtain⟨M,h,hm⟩:=h;refine qdw (thn (h1 pins s σ H { D with nx:=M } I h) λf s1 q=>?_);cases f with
 | next =>
   obtain⟨σ',H',I',q⟩:=q;exact h2 pins s1 σ' H' D I' (hm _ _ q)
 | ret v=>exact q
 | brk=>exact q
 | cont=>exact q
def Lay (n:Nat) (d:PyData):Prop:=PyData.canLay0 d=true/\PyData.depth d<=n
theorem Lay.int (i:Int):Lay n (.int i):=⟨by unfold PyData.canLay0; rfl,by unfold PyData.depth; exact qaz _⟩
theorem Lay.bool (b:Bool):Lay n (.bool b):=⟨by unfold PyData.canLay0; rfl,by unfold PyData.depth; exact qaz _⟩
theorem Lay.none :Lay n .none:=⟨by unfold PyData.canLay0; rfl,by unfold PyData.depth; exact qaz _⟩
theorem Lay.str {x:Str} (h:PyData.strOk x=true):Lay n (.str x):=⟨by unfold PyData.canLay0; exact h,by unfold PyData.depth; exact qaz _⟩
theorem z7o {n:Nat}:∀{ds:List PyData},(∀d∈ds,Lay n d)->PyData.canLayAll0 ds=true/\PyData.depthAll ds<=n
 | [],_=>⟨by unfold PyData.canLayAll0; rfl,by unfold PyData.depthAll; exact qaz _⟩
 | d :: ds,h=>by
   have h1:=h d qbh;have h2:=z7o (λx hx=>h x (qba _ hx));constructor
   . unfold PyData.canLayAll0; rw[h1.1,h2.1]; rfl
   . unfold PyData.depthAll; exact Nat.max_le.mpr ⟨h1.2,h2.2⟩
variable {ds:List PyData}
theorem Lay.list (h:∀d∈ds,Lay n d):Lay (n+1) (.list ds):=by have h2:=z7o h;exact⟨by unfold PyData.canLay0; exact h2.1,by unfold PyData.depth; have:=h2.2; omega⟩
theorem Lay.tuple (h:∀d∈ds,Lay n d):Lay (n+1) (.tuple ds):=by have h2:=z7o h;exact⟨by unfold PyData.canLay0; exact h2.1,by unfold PyData.depth; have:=h2.2; omega⟩
theorem Lay.shaped {n:Nat} {d:PyData} (h:Lay n d) (hn:n<=64):SeqAt.shaped d=true:=by unfold SeqAt.shaped;rw[h.1,decide_eq_true (qa7 h.2 hn)];rfl
theorem Lay.refl {d:PyData} (h:Lay n d):PyData.eqv d d=true:=SeqAt.eqv_refl d h.1
theorem Lay.mono {m:Nat}{d:PyData} (h:Lay n d) (hn:n<=m):Lay m d:=⟨h.1,qa7 h.2 hn⟩
theorem zbc (h:SqL K H a xs) (hd:DatAll K H ds xs):DatV K H (.list ds) (.ref a):=by unfold DatV; exact⟨a,xs,rfl,h,hd⟩
theorem zch (h:SqT K H a xs) (hd:DatAll K H ds xs):DatV K H (.tuple ds) (.ref a):=by unfold DatV; exact⟨a,xs,rfl,h,hd⟩
theorem zfr (i:Int):DatV K H (.int i) (.int i):=by unfold DatV; rfl
theorem z26 (b:Bool):DatV K H (.bool b) (.bl b):=by unfold DatV; rfl
theorem zdo (x:Str):DatV K H (.str x) (.str x):=by unfold DatV; rfl
theorem zso :DatV K H .none .non:=by unfold DatV; rfl
theorem zap :DatAll K H [] []:=by unfold DatAll; rfl
theorem za1 {d:PyData} {x:V} (h:DatV K H d x) (hs:DatAll K H ds xs):DatAll K H (d :: ds) (x :: xs):=by unfold DatAll; exact⟨x,xs,rfl,h,hs⟩
mutual
theorem DatV.mono {K:W.Frag} {H H':Hp} (e:Same H H'):∀(d:PyData) (v:V),DatV K H d v->DatV K H' d v
 | .none,v,h=>by unfold DatV at h ⊢; exact h
 | .bool b,v,h=>by unfold DatV at h ⊢; exact h
 | .int i,v,h=>by unfold DatV at h ⊢; exact h
 | .str x,v,h=>by unfold DatV at h ⊢; exact h
 | .list ds,v,h=>by unfold DatV at h ⊢;obtain⟨a,xs,rfl,hq,hd⟩:=h;exact⟨a,xs,rfl,e.seq hq,DatAll.mono e ds xs hd⟩
 | .tuple ds,v,h=>by unfold DatV at h ⊢;obtain⟨a,xs,rfl,hq,hd⟩:=h;exact⟨a,xs,rfl,e.tup hq,DatAll.mono e ds xs hd⟩
 | .dict _,v,h=>by unfold DatV at h; exact h.elim
theorem DatAll.mono {K:W.Frag} {H H':Hp} (e:Same H H'):∀(ds:List PyData) (xs:List V),DatAll K H ds xs->DatAll K H' ds xs
 | [],xs,h=>by unfold DatAll at h ⊢; exact h
 | d :: ds,xs,h=>by unfold DatAll at h ⊢;obtain⟨x,r,rfl,hd,hds⟩:=h;exact⟨x,r,rfl,DatV.mono e d x hd,DatAll.mono e ds r hds⟩
end
def ers (l:Addr) (H:Hp):Hp:=λb=>if b=l then none else H b
theorem zao {b:Addr}(h:b≠l):ers l H b=H b:=by unfold ers; rw[if_neg h]
theorem zaz :Same (ers l H) H:=λb o h=>by
 unfold ers at h;split at h
 . cases h
 . exact h
theorem zdi {o:HO}:ers l (upd H l o)=ers l H:=by funext b;unfold ers upd;split <;> rfl
theorem Same.ers {l:Addr} {H H':Hp} (e:Same H H'):Same (ers l H) (ers l H'):=λb o h=>by
 unfold L2.ers at h ⊢;split at h
 . cases h
 . rename_i hb
   rw[if_neg hb];exact e b o h
theorem ixI {i:Int} (h0:0<=i) (h:i<n):ixN n i=some i.toNat:=by unfold ixN;rw[if_pos h0,if_pos h]
theorem zvy {cs:List Int} {i:Int} (h0:0<=i) (h:i<cs.length):atI (cs.map V.int) i=some (V.int (cs.getD i.toNat 0)):=by
 obtain⟨j,rfl⟩:=qa5 h0;have hj:j<cs.length:=by omega
 refine zcg ?_;rw[List.getElem?_map,List.getElem?_eq_getElem hj,qbu,List.getD_eq_getElem?_getD,List.getElem?_eq_getElem hj];rfl
end L2
namespace Gx
open PySem L2
theorem le0:0<=sizeLine:=by decide
theorem le1:1<=sizeLine:=by decide
theorem le2:2<=sizeLine:=by decide
theorem le3:3<=sizeLine:=by decide
theorem le4:4<=sizeLine:=by decide
theorem le6:6<=sizeLine:=by decide
theorem zb0 {n:Nat} (h:n<1000000):n<=sizeLine:=by
 have:(1000000:Nat)<sizeLine:=by decide
 omega
theorem at0 {x:V} {r:List V}:atI (x :: r) 0=some x:=by unfold atI ixN;rw[if_pos (by decide),if_pos (by simp)];rfl
theorem vq {Q:VK} {H:Hp} {x y:V} (h:x=y) (q:Q y H):Q x H:=by subst h; exact q
theorem pw48:((2:Int) ^ (48:Int).toNat)=281474976710656:=by decide
theorem z37:(0:Int)<(2:Int) ^ (48:Int).toNat:=by decide
theorem z5g:("+-*/<=&|^":Str).length<=sizeLine:=by decide +kernel
theorem zeb (z n:Int) (h:0<n):0<=z%n/\z%n<n:=⟨Int.emod_nonneg _ (by omega),Int.emod_lt_of_pos _ h⟩
theorem z4s {α:Type} {es:List α} {f:α->V} {i:Nat} {x:V} (h:(es.map f)[i]?=some x):∃e,es[i]?=some e/\e∈es/\x=f e:=by
 rw[List.getElem?_map] at h;cases he:es[i]? with
 | none=>rw[he] at h; cases h
 | some e=>rw[he] at h; cases h; exact⟨e,rfl,List.mem_of_getElem? he,rfl⟩
end Gx
namespace L2
open PySem PySem.Spec PyProof.Rows
section
variable {g:TG} {tif:TT} {te:TE} {js:List (Option Nat)} {σ:St} {H:Hp} {Q:VK}
theorem zw0 {hi:Int} {n:Nat} {p:Addr} (f:Nat->V) (hn:n<=1000000) (hp:H p=none)
   (hs:∀i H2 (R:VK),i<n->Same H H2->R (f i) H2->g (.int (hi - i)) (cap js σ) H2 λσ2 H3=>tif σ2 H3 λc H4=>if c=true then te σ2 H4 R else False)
   (hd:∀H2,Same H H2->H2 p=some (.lst ((List.range n).map f))->Q (.ref p) H2) (mono:∀x H2 (M M':St->Hp->Prop),(∀σ' H',M σ' H'->M' σ' H')->g x (cap js σ) H2 M->g x (cap js σ) H2 M':=by intro _ _ _ _ h z; exact h _ _ z) (mon2:∀σ2 H2 (M M':Bool->Hp->Prop),(∀c H',M c H'->M' c H')->tif σ2 H2 M->tif σ2 H2 M':=by intro _ _ _ _ h z; exact h _ _ z) :
   zre (Itn hi n) g tif te js σ Q p H:=by
 refine⟨λi m acc H2=>m=n - i/\i<=n/\Same H H2/\H2 p=some (.lst acc)/\acc=(List.range i).map f,⟨n,by simp,qaz _,Same.new hp,zab,rfl⟩,?_⟩;rintro i m acc H2 ⟨rfl,hi',s2,e2,rfl⟩;refine⟨e2,?_⟩;by_cases hlt:i<n
 . refine .inr ⟨hlt,?_,λacc' H'=>Same H H'/\H' p=some (.lst acc')/\acc'=(List.range (i+1)).map f,λacc' H' p'=>⟨n - (i+1),by omega,rfl,hlt,p'⟩,λx H' y=>?_⟩
   . have:(1000000:Nat)<sizeLine:=by decide
     rw[List.length_map,qa9];omega
   . obtain⟨e,y⟩:=y;subst e y;refine mono _ _ _ _ (λσ' H'' z=>?_) (hs i _ (λy H5=>H5 p=some (.lst ((List.range i).map f))/\(Same H (upd H5 p (.lst ((List.range i).map f++[y])))/\upd H5 p (.lst ((List.range i).map f++[y])) p=some (.lst ((List.range i).map f++[y]))/\(List.range i).map f++[y]=(List.range (i+1)).map f)) hlt s2 ⟨e2,s2.upd hp,zab,?_⟩)
     . refine mon2 _ _ _ _ (λc H'' zz=>?_) z;cases c with
       | true=>exact zz
       | false=>exact zz.elim
     . rw[qby,List.map_append];rfl
 . have e:i=n:=by omega
   subst e;exact .inl ⟨qaj _,hd H2 s2 e2⟩
end
def tTru (K:W.Frag) (ta:TE):TT:=λσ H Q=>ta σ H λx H'=>∃k,z6q K x H' k/\Q k H'
theorem z0r {X:Cx} {K:W.Frag} {a:Expr} {ta:TE} (hK:X.K=K) (ha:PE X a ta) (he:∀whole,isTrue a X.env whole=(do let v <- whole; standAt a.pos; holding [v] (truthy v))):PT X a (tTru K ta):=by subst hK;exact zzi ha he
end L2
namespace Gx
open PySem L2
def tx (l:List Nat):Str:=⟨l.toArray⟩
theorem ztu (l:List Nat):(tx l).cps.toList=l:=by unfold tx; simp
theorem zcs (l:List Nat):(tx l).length=l.length:=by unfold tx Str.length; simp
theorem zfs (a b:List Nat):tx a++tx b=tx (a++b):=by show(⟨_++_⟩:Str)=_;unfold tx;simp
theorem tx_inj {a b:List Nat} (h:tx a=tx b):a=b:=by rw[<- ztu a,h,ztu]
theorem zzo {l:List Nat} {i j:Int} (h0:0<=i) (h1:i<=j) (h2:j<=l.length):Txt.slice (tx l) (some i) (some j)=tx ((l.drop i.toNat).take (j - i).toNat):=by have:=PyProof.Rows.slice_closes (x:=tx l) (i:=i) (j:=j) ⟨h0,h1,by rw[ztu]; exact h2⟩;rw[qdq,ztu] at this;exact this
theorem zv4 (y:Str) (ys:List Str):PySem.Txt.join "" (y :: ys)=y++PySem.Txt.join "" ys:=by
 show PySem.Builtin.Str.glued ("":Str) (y :: ys)=y++PySem.Builtin.Str.glued ("":Str) ys;rw[PySem.StrLaws.glued_eq_join,PySem.StrLaws.glued_eq_join];cases ys with
 | nil =>
   show y=y++Str.empty;cases y;show _=(⟨_++#[]⟩:Str);simp
 | cons z zs =>
   show y++""++Str.join "" (z :: zs)=_;have:y++("":Str)=y:=by cases y;show(⟨_++#[]⟩:Str)=_;simp
   rw[this]
theorem zhp:∀(ls:List (List Nat)),PySem.Txt.join "" (ls.map tx)=tx ls.flatten
 | []=>by show PySem.Builtin.Str.glued ("":Str) []=_;rw[PySem.StrLaws.glued_eq_join];rfl
 | l :: ls=>by rw[qbl,zv4,zhp ls,zfs,qbv]
end Gx
namespace PySem
open PySem.SeqAt
theorem znc {M:Model} {A:Around} {E:Value->Shared->Prop} {s:Shared} {β:Type} (f:Nat->β->Sem (ForInStep β)) (I:Nat->β->Shared->Prop) (Q:β->Shared->Prop) (n:Nat)
   (turn:∀i b s,i<n->I i b s->wpAny M A (f i b) (λr s'=>match r with | .yield b'=>I (i+1) b' s' | .done b'=>Q b' s') E s)
   (fin:∀b s,I n b s->Q b s) (b:β) (h:I 0 b s):wpAny M A (forIn ([0:n]:Std.Legacy.Range) b f) Q E s:=by
 rw[Std.Legacy.Range.forIn_eq_forIn_range'];have hsz:([0:n]:Std.Legacy.Range).size=n:=by simp [Std.Legacy.Range.size]
 show wpAny M A (forIn (List.range' 0 ([0:n]:Std.Legacy.Range).size 1) b f) Q E s;rw[hsz];refine wpAny_forIn_list f (λl c st=>∃i,i<=n/\l=List.range' i (n - i) 1/\I i c st) Q ?_ ?_ _ b ⟨0,qaz _,rfl,h⟩
 . rintro x rest c st ⟨i,hib,hl,hI⟩;have hlt:i<n:=by
     rcases qbo i n with h' | h'
     . exact h'
     . rw[show n - i=0 by omega] at hl; simp at hl
   obtain⟨m,hm⟩:∃m,n - i=m+1:=⟨n - i - 1,by omega⟩
   rw[hm,List.range'_succ] at hl;obtain⟨rfl,rfl⟩:=List.cons.inj hl;refine qb0 (turn x c st hlt hI) (λr st' h'=>?_) λ_ _ e=>e;cases r with
   | done c'=>exact h'
   | yield c'=>exact⟨x+1,by omega,by congr 1; omega,h'⟩
 . rintro c st ⟨i,hib,hl,hI⟩;have:i=n:=by
     rcases qbo i n with h' | h'
     . obtain⟨m,hm⟩:∃m,n - i=m+1:=⟨n - i - 1,by omega⟩
       rw[hm,List.range'_succ] at hl; simp at hl
     . omega
   subst this; exact fin _ _ hI
theorem zm8 (l:Addr) (items:Array Value) (n:Nat) (dd:Option Addr) (sl:Array (Option Value)) (x:Value) (e:Value->Bool) (j:Nat) (hj:j<items.size) (hit:e items[j]=true) (hno:∀m (hm:m<items.size),m<j->e items[m]=false) :
   Meets (Builtin.«tuple.index» ⟨[.ref l,x],[]⟩)
     (λA R s=>s.heap.get? l=some { cls:=.type "tuple",dict:=dd,data:=.seq items n,slots:=sl }/\(∀y,y∈items->EqAt A.in1 s y x (e y))/\R (.ok (.ret (.int j s.toks))) { s with toks:=s.toks+1 }) :=
 .of_wp λprog w A R s h=>by
   obtain⟨hp,g,d,tk,os⟩:=s; obtain⟨hl,he,h⟩:=h
   wp_walk using wpAny_loadPart' hl,znc _ (λi b s'=>b.1=none/\s'=⟨hp,g,d,tk,os⟩/\i<=j) _ _
   case turn =>
     rintro i ⟨b1,b2⟩ s' hi ⟨hb,rfl,hij⟩;have hi:i<items.size:=by simpa using hi
     simp only at hb;subst hb;have hx:items[i]?=some items[i]:=Array.getElem?_eq_getElem hi;rw[hx];refine wpAny_bind (he _ (Array.getElem_mem hi) prog w _ _ ?_);by_cases hij':i=j
     . subst hij';rw[hit]
       wp_walk
       exact⟨_,rfl,h⟩
     . rw[hno i hi (by omega)]
       wp_walk
       exact⟨rfl,rfl,by omega⟩
   case fin =>
     rintro ⟨b1,b2⟩ s' ⟨hb,rfl,hij⟩;have:items.size<=j:=by simpa using hij
     omega
   case h =>
     exact⟨rfl,rfl,qaz _⟩
end PySem
namespace L2
open PySem PySem.Spec PyProof.Rows
def rTIx (K:W.Frag):V->List V->Hp->VK->Prop:=λx xs H Q=>∃p ys y j,x=.ref p/\xs=[y]/\SqT K H p ys/\zj7 y=true/\ys.all zj7=true/\(∃z,ys[j]?=some z/\eqV z y=true)/\(∀m z,m<j->ys[m]?=some z->eqV z y=false)/\Q (.int (j:Nat)) H
theorem zx6 {X:Cx}:MtR X "tuple.index" (rTIx X.K):=by
 intro pins s σ H x vs v us Q I rx rv h;obtain⟨p,ys,y,j,rfl,rfl,hT,fy,fs,⟨z,hz,ez⟩,hno,q⟩:=h;cases rx;obtain⟨u,rfl,ru⟩:=rv.one;obtain⟨its,r,⟨⟨cls,dd,data,sl⟩,ho,hc,n,hd⟩,hl⟩:=I.tuple hT;simp only at hc hd;subst hc hd;obtain⟨uz,huz,rz⟩:=r.get hz;have hj:j<its.toArray.size:=by rw[qaw];exact(List.getElem?_eq_some_iff.mp huz).1
 have eU:∀(m:Nat) (hm:m<its.toArray.size) (zz:V),ys[m]?=some zz->eqU y its.toArray[m]=eqV zz y:=λm hm zz hzz=>by
   obtain⟨uu,huu,ruu⟩:=r.get hzz;have:its.toArray[m]=uu:=by have h2:=(List.getElem?_eq_some_iff.mp huu).2;simpa using h2
   rw[this];exact zs0 ruu (qcm.mp fs zz (List.mem_of_getElem? hzz))
 refine call_meets F.slot_tuple_index ⟨_,ho,rfl⟩ F.entry_tuple_index (F.args_tuple_index_2 _ _) (zm8 p its.toArray n dd sl u (eqU y) j hj (by rw[eU j hj z hz]; exact ez) λm hm hmj=>?_) ⟨ho,λw hw=>zi0 ru fy r fs w (by simpa using hw),?_⟩
 . have hm':m<ys.length:=by rw[r.length]; simpa using hm
   rw[eU m hm ys[m] (List.getElem?_eq_getElem hm')];exact hno m _ hmj (List.getElem?_eq_getElem hm')
 . exact⟨.int j,H,I.tok _,⟨_,rfl⟩,q⟩
def ItE (K:W.Frag) (a:Addr):It :=
 ⟨λi H=>∃xs x,SqL K H a xs/\xs[i]?=some x,λi H y H'=>∃b,y=.ref b/\H b=none/\∀xs x,SqL K H a xs->xs[i]?=some x->H'=upd H b (.tup [.int i,x]),λi H=>∃xs,SqL K H a xs/\xs.length=i⟩
theorem zu3 {P:Program} {w:World} {K:W.Frag} {elts:List Expr} {k:Nat} {pos:Pos} (a e it:Addr) (hne:e≠it):Turn P w K (.Tuple elts k pos) (ItE K a) [e,it] e (λi h=>(∃old,IsEnum h e it i old)/\h.IsListIter it a i) where
 mem:=by simp
 obj:=λi h st b hb=>by
   obtain⟨⟨old,he⟩,⟨o,ho,hc,hd⟩⟩:=st;rcases qay.mp hb with z|z
   . subst z;exact⟨_,he,λv z=>by cases (show Data.fields _=Data.cell v from z)⟩
   . have z:b=it:=by simpa using z
     subst z;exact⟨o,ho,λv z=>by rw[hd] at z; cases z⟩
 keep:=λi h h' st kk=>by obtain⟨⟨old,he⟩,⟨o,ho,r⟩⟩:=st;exact⟨⟨old,kk e (by simp) _ he⟩,⟨o,kk it (by simp) o ho,r⟩⟩
 item:=by
   intro X hP hw hK hc i pins s σ H E I hf st hg;subst hP hw hK;obtain⟨⟨old,he⟩,hit⟩:=st;obtain⟨xs,x,hq,hx⟩:=hg;obtain⟨its,rv,p,hz⟩:=I.list hq;have pt:s.heap.IsList a its.toArray:=p.isList;obtain⟨u,hu,ru⟩:=rv.get hx;have hia:a≠it:=λz=>by
     subst z;obtain⟨o1,h1,c1,_⟩:=hit;obtain⟨o2,h2,c2,_⟩:=pt;rw[h1] at h2;cases h2;rw[c1] at c2;injection c2 with c2
     exact absurd c2 (by decide)
   have hea:e ∉ [it,a]:=λz=>by
     rcases qay.mp z with z|z
     . exact hne z
     . have z:e=a:=by simpa using z
       subst z;obtain⟨o2,h2,c2,_⟩:=pt;rw[he] at h2;cases h2;injection (show Value.type "enumerate"=Value.type "list" from c2) with c2
       exact absurd c2 (by decide)
   have hlt:i<its.toArray.size:=by have:=(List.getElem?_eq_some_iff.mp hu).1;simpa using this
   refine qez (Draws.list (A:=X.A.in1) (I.ok.hd hc) it a hia its.toArray) he ⟨hit,pt⟩ hlt hne hea λy h' tk hy hout hst hT hsz hk=>?_;refine⟨_,rfl,qek hout λh2 he2 hs2=>?_⟩;have hs2:Heap.SameBut e h' h2:=hs2;have hyu:y=u:=by
     have hy:its.toArray[i]?=some y:=hy;have:its[i]?=some y:=by simpa using hy
     rw[hu] at this;exact(Option.some.inj this).symm
   subst hyu;have helt:e<s.heap.objs.size:=Heap.lt_size he;have hfr:H s.heap.objs.size=none:=I.hok.fresh (qaj _);have hnS:s.heap.objs.size≠e:=qcu helt;have hT2:h2.get? s.heap.objs.size=some { cls:=.type "tuple",data:=.seq #[.int i tk,y] }:=(hs2.2 _ hnS).trans hT;refine⟨.ref s.heap.objs.size,upd H s.heap.objs.size (.tup [.int i,x]),I.turnLaid (t':=tk+1) (ch:=[e,it]) (λb o hb q=>?_) hf (qaj _) ?_,rfl,⟨s.heap.objs.size,rfl,hfr,λxs' x' hq' hx'=>?_⟩,⟨⟨y,by exact_mod_cast he2⟩,?_⟩,λb hb=>?_⟩
   . have h1:b≠e:=λz=>hb (by simp [z]);have h3:b≠it:=λz=>hb (by simp [z]);exact(hs2.2 b h1).trans (hk b o h1 h3 q)
   . exact⟨by show 2<=sizeLine; decide,[.int i tk,y],.cons ⟨tk,rfl⟩ (.cons ru .nil),⟨_,hT2,rfl,_,rfl⟩⟩
   . have:=I.list_inj hq' hq;subst this;rw[hx] at hx';cases hx';rfl
   . obtain⟨⟨o,ho,r⟩,_⟩:=hst;exact⟨o,(hs2.2 it hne.symm).trans ho,r⟩
   . have hb0:=(hf b hb).1;rw[zal]
     . exact hb0
     . intro z;subst z;obtain⟨o,ho,_⟩:=hit;rcases qay.mp hb with z|z
       . exact hnS z
       . have z:s.heap.objs.size=it:=by simpa using z
         exact absurd (Heap.lt_size ho) (by rw[<- z]; exact qbm _)
 done:=by
   intro X hP hw hK hc i pins s σ H E I hf st hg;subst hP hw hK;obtain⟨⟨old,he⟩,hit⟩:=st;obtain⟨xs,hq,hx⟩:=hg;obtain⟨its,rv,p,hz⟩:=I.list hq;have pt:s.heap.IsList a its.toArray:=p.isList;have hl:=rv.length;have hia:a≠it:=λz=>by
     subst z;obtain⟨o1,h1,c1,_⟩:=hit;obtain⟨o2,h2,c2,_⟩:=pt;rw[h1] at h2;cases h2;rw[c1] at c2;injection c2 with c2
     exact absurd c2 (by decide)
   have hi:i=its.toArray.size:=by simp; omega
   refine wpAny_pyNext_enum_endD (Draws.list (A:=X.A.in1) (I.ok.hd hc) it a hia its.toArray) he (by rw[<- hi]; exact⟨hit,pt⟩) λh' eb=>⟨rfl,?_⟩
   exact I.turnedL (t':=s.toks) (ch:=[e,it]) (λb o hb q=>eb b o (λz=>hb (by simp [z])) q) hf
 self:=λ_ _ _ _ _ st h=>by obtain⟨⟨old,he⟩,_⟩:=st;exact qds he h
section
variable {X:Cx}
def z4t (K:W.Frag) (ta:TA):TI:=λσ H R=>ta σ H λvs H1=>∃a,vs=[.ref a]/\(∃xs,SqL K H1 a xs)/\R (ItE K a) H1
theorem zsz {a:Expr} {ta:TA} {p pos tpos:Pos} {elts:List Expr} {k:Nat} (hg:Gl X "enumerate") (hm:X.mg "enumerate"=none) (ha:PA X [a] ta) (hs:starEach [a] X.env=[(false,eval a X.env)]:=by rfl):PI X (.Tuple elts k tpos) (.Call (.Name "enumerate" p) [a] [] pos) (z4t X.K ta):=by
 intro pins s σ H R I h;refine Call_ (zkr I hg hm zo3 (qbz (thn (ha pos pins s σ H _ I h) λus s1 ⟨vs,H1,I1,r1,q1⟩=>?_) hs rfl));obtain⟨a,e,⟨xs,hq⟩,q⟩:=q1;subst e;cases r1 with
 | cons r rr =>
   cases rr;cases r;obtain⟨its,rv,p,hz⟩:=I1.list hq;refine call_enumerate_list p.isList λh' he hit _ hk=>?_;refine qds he ?_;refine⟨s1.heap.objs.size+1,[s1.heap.objs.size+1,s1.heap.objs.size],_,_,H1,rfl,I1.kept (t':=s1.toks) hk,zu3 a (s1.heap.objs.size+1) s1.heap.objs.size (Nat.succ_ne_self _),⟨⟨.none,he⟩,hit⟩,λb hb=>?_,q⟩;rcases qay.mp hb with z|z
   . subst z;exact I1.fpOk (qcp _) (I1.hok.fresh (qcp _))
   . have z:b=s1.heap.objs.size:=by simpa using z
     subst z;exact I1.fpOk (qaj _) (I1.hok.fresh (qaj _))
theorem zpj {K:W.Frag} {a:Addr} {xs:List V} {g:TG} {tb:TS} {D:zjb} {σ:St} {H:Hp} (Pv:Nat->St->Hp->Prop) (h0:Pv 0 σ H) (hl:∀i σ H,i<=xs.length->Pv i σ H->SqL K H a xs)
   (hs:∀i x σ H b,xs[i]?=some x->Pv i σ H->H b=none->g (.ref b) σ (upd H b (.tup [.int i,x])) λσ2 H2=>tb { D with nx:=Pv (i+1),ct:=Pv (i+1),bk:=D.nx } σ2 H2) (hd:∀σ H,Pv xs.length σ H->D.nx σ H) :
   ∃W:Nat->Nat->St->Hp->Prop,(∃m,W 0 m σ H)/\∀i m σ H,W i m σ H->((ItE K a).stop i H/\D.nx σ H)\/((ItE K a).go i H/\∃N:St->Hp->Prop,(∀σ' H',N σ' H'->∃m',m'<m/\W (i+1) m' σ' H')/\∀x H',(ItE K a).yld i H x H'->g x σ H' λσ2 H2=>tb { D with nx:=N,ct:=N,bk:=D.nx } σ2 H2):=by
 refine⟨λi m σ H=>m=xs.length - i/\i<=xs.length/\Pv i σ H,⟨xs.length,by simp,qaz _,h0⟩,?_⟩;rintro i m σ H ⟨rfl,hi,p⟩;have q:=hl i σ H hi p;by_cases hlt:i<xs.length
 . refine .inr ⟨⟨xs,xs[i],q,by simp [hlt]⟩,Pv (i+1),λσ' H' p'=>⟨xs.length - (i+1),by omega,rfl,hlt,p'⟩,λx H' y=>?_⟩;obtain⟨b,rfl,hb,y⟩:=y;rw[y xs xs[i] q (by simp [hlt])];exact hs i xs[i] σ H b (by simp [hlt]) p hb
 . have e:i=xs.length:=by omega
   subst e;exact .inl ⟨⟨xs,q,rfl⟩,hd σ H p⟩
end
end L2
namespace PySem
open Sem (wp)
def ItB (b:Bool) (h:Heap) (it l:Addr) (k:Nat):Prop:=match b with|true=>h.IsTupleIter it l k|false=>h.IsListIter it l k
def SqB (b:Bool) (h:Heap) (l:Addr) (xs:Array Value):Prop:=match b with|true=>h.IsTuple l xs|false=>h.IsList l xs
variable {b:Bool} {h h':Heap} {it l:Addr}
theorem ItB.at {k:Nat} (p:ItB b h it l k) (e:∀o,h.get? it=some o->h'.get? it=some o):ItB b h' it l k:=by cases b <;> (obtain⟨o,ho,r⟩:=p; exact⟨o,e o ho,r⟩)
variable {xs:Array Value}
theorem SqB.at (p:SqB b h l xs) (e:∀o,h.get? l=some o->h'.get? l=some o):SqB b h' l xs:=by cases b <;> (obtain⟨o,ho,r⟩:=p; exact⟨o,e o ho,r⟩)
theorem ItB.extBut {c:Addr}{k:Nat} (p:ItB b h it l k) (e:Heap.ExtBut c h h') (n:it≠c):ItB b h' it l k:=p.at λo ho=>e _ _ n ho
theorem SqB.extBut {c:Addr}(p:SqB b h l xs) (e:Heap.ExtBut c h h') (n:l≠c):SqB b h' l xs:=p.at λo ho=>e _ _ n ho
theorem ItB.lt {k:Nat} (p:ItB b h it l k):it<h.objs.size:=by cases b <;> (obtain⟨o,ho,r⟩:=p; exact Heap.lt_size ho)
variable {b1 b2:Bool} {z i1 i2 l1 l2:Addr} {k1 k2:Nat} {ys:Array Value} {a:Value}
section
variable {prog:Program} {w:World} {A:Around} {E:Value->Shared->Prop} {s:Shared}
theorem zj6 {i:Nat} {items:Array Value} {x:Value} {Q:Value->Shared->Prop} (p:ItB b s.heap it l i) (q:SqB b s.heap l items) (hx:items[i]?=some x)
   (hQ:∀h',ItB b h' it l (i+1)->Heap.SameBut it s.heap h'->Q x { s with heap:=h' }):wpAny (model prog w) A (Builtin.SmallTypes.nextOf (.ref it)) Q E s:=by
 cases b with
 | true=>exact L2.gx_nextOf_tup p q hx hQ
 | false=>exact wpAny_nextOf_list_item p q hx hQ
theorem zqi {i:Nat} {items:Array Value} {Q:Value->Shared->Prop} (hh:A.handled=none) (p:ItB b s.heap it l i) (q:SqB b s.heap l items) (hx:items[i]?=none)
   (hE:∀h' e,Heap.ExtBut it s.heap h'->(∃o,h'.get? e=some o/\o.cls=.type "StopIteration")->E (.ref e) { s with heap:=h' }):wpAny (model prog w) A (Builtin.SmallTypes.nextOf (.ref it)) Q E s:=by
 cases b with
 | true=>exact L2.gx_nextOf_tup_end hh p q hx hE
 | false=>exact wpAny_nextOf_list_end hh p q hx hE
theorem zpk {TI TO:Addr}{x y b:Value}{Q:Value->Shared->Prop} (D:ZipApart z TI TO i1 i2 l1 l2)
   (zZ:IsZip s.heap z TI TO .none) (zI:IsPair s.heap TI (.ref i1) (.ref i2)) (zO:IsPair s.heap TO a b)
   (p1:ItB b1 s.heap i1 l1 k1) (p2:ItB b2 s.heap i2 l2 k2) (q1:SqB b1 s.heap l1 xs) (q2:SqB b2 s.heap l2 ys) (hx:xs[k1]?=some x) (hy:ys[k2]?=some y)
   (hQ:∀h',IsZip h' z TI TO (rawInt s.heap.objs.size)->IsPair h' TO x y->ItB b1 h' i1 l1 (k1+1)->ItB b2 h' i2 l2 (k2+1)->IsPair h' s.heap.objs.size x y->h'.objs.size=s.heap.objs.size+1 ->
     (∀c o,c≠z->c≠TO->c≠i1->c≠i2->s.heap.get? c=some o->h'.get? c=some o)->Q (.ref s.heap.objs.size) { s with heap:=h' }) :
   wpAny (model prog w) A (Builtin.«zip.__next__» ⟨[.ref z],[]⟩) (λfin s'=>∃v,fin=.done (.ret v)/\Q v s') E s:=by
 show wpAny _ _ (field (.ref z) 2 >>= _) _ _ _; refine wpAny_bind (qbp zZ rfl (x:=.bool false) rfl ?_); show wpAny _ _ (field (.ref z) 3 >>= _) _ _ _; refine wpAny_bind (qbp zZ rfl (x:=.ref TI) rfl ?_); refine wpAny_bind (qct zI rfl ?_); show wpAny _ _ (Builtin.SmallTypes.ownedTupleIsFree (.ref z) >>= _) _ _ _; refine wpAny_bind ?_; unfold Builtin.SmallTypes.ownedTupleIsFree; refine wpAny_bind (qbp zZ rfl (x:=.none) rfl (wpAny_pure ?_)); simp only[if_true]; refine wpAny_bind (qfa ?_); refine wpAny_bind (qbp zZ rfl (x:=.ref TO) rfl ?_);refine wpAny_bind (qcx zZ (by simp) λh₁ zZ₁ hs₁=>?_); replace zZ₁:IsZip h₁ z TI TO .ellipsis:=zZ₁; refine wpAny_bind ?_; simp only[List.zipIdx_cons,List.zipIdx_nil,qd4,qe9];refine wpAny_bind (wpAny_bind (qel ?_)); show wpAny _ _ (Builtin.SmallTypes.nextOf (.ref i1) >>= _) _ _ _; refine wpAny_bind (zj6 (p1.extBut hs₁.extBut D.i1z) (q1.extBut hs₁.extBut D.l1z) hx λh₂ h1₂ hs₂=>wpAny_pure ?_); have hTO₂:IsPair h₂ TO a b:=hs₂.extBut _ _ D.TOi1 (hs₁.extBut _ _ D.TOz zO); refine wpAny_bind (qct hTO₂ rfl ?_); refine wpAny_bind (qd7 hTO₂ λh₃ hTO₃ hs₃=>?_); replace hTO₃:IsPair h₃ TO x b:=hTO₃; refine wpAny_bind (wpAny_letGo (wpAny_pure ?_))
 refine wpAny_bind (wpAny_bind (qel ?_)); show wpAny _ _ (Builtin.SmallTypes.nextOf (.ref i2) >>= _) _ _ _; refine wpAny_bind (zj6 (((p2.extBut hs₁.extBut D.i2z).extBut hs₂.extBut D.i12.symm).extBut hs₃.extBut D.TOi2.symm)
   (((q2.extBut hs₁.extBut D.l2z).extBut hs₂.extBut D.l2i1).extBut hs₃.extBut D.l2TO) hy λh₄ h2₄ hs₄=>wpAny_pure ?_)
 have hTO₄:IsPair h₄ TO x b:=hs₄.extBut _ _ D.TOi2 hTO₃; refine wpAny_bind (qct hTO₄ rfl ?_); refine wpAny_bind (qd7 hTO₄ λh₅ hTO₅ hs₅=>?_); replace hTO₅:IsPair h₅ TO x y:=hTO₅; refine wpAny_bind (wpAny_letGo (wpAny_pure (wpAny_pure ?_)));refine wpAny_bind (qct hTO₅ rfl ?_); refine wpAny_bind (wpAny_newTuple ?_); have hsz:h₅.objs.size=s.heap.objs.size:=(by rw[hs₅.1,hs₄.1,hs₃.1,hs₂.1,hs₁.1]); have hz₅:IsZip h₅ z TI TO .ellipsis:=hs₅.extBut _ _ D.TOz.symm (hs₄.extBut _ _ D.i2z.symm (hs₃.extBut _ _ D.TOz.symm (hs₂.extBut _ _ D.i1z.symm zZ₁))); have hk₅:∀c o,c≠z->c≠TO->c≠i1->c≠i2->s.heap.get? c=some o->h₅.get? c=some o:=λc o c1 c2 c3 c4 e =>
   hs₅.extBut _ _ c2 (hs₄.extBut _ _ c4 (hs₃.extBut _ _ c2 (hs₂.extBut _ _ c3 (hs₁.extBut _ _ c1 e))))
 have h1₅:ItB b1 h₅ i1 l1 (k1+1):=((h1₂.extBut hs₃.extBut D.TOi1.symm).extBut hs₄.extBut D.i12).extBut hs₅.extBut D.TOi1.symm; have h2₅:ItB b2 h₅ i2 l2 (k2+1):=h2₄.extBut hs₅.extBut D.TOi2.symm; have hzlt:z<h₅.objs.size:=Heap.lt_size hz₅; have hTOlt:TO<h₅.objs.size:=Heap.lt_size hTO₅; have hi1lt:i1<h₅.objs.size:=ItB.lt h1₅; have hi2lt:i2<h₅.objs.size:=ItB.lt h2₅; show wpAny _ _ (Builtin.SmallTypes.ownedTupleHandOut (.ref z) (.ref h₅.objs.size) >>= _) _ _ _; refine wpAny_bind ?_; unfold Builtin.SmallTypes.ownedTupleHandOut; have hz₆:IsZip (h₅.push { cls:=.type "tuple",data:=.seq #[x,y] }) z TI TO .ellipsis:=Heap.get?_push_of_some _ hz₅
 refine wpAny_bind (qcx hz₆ (by simp) λh₇ hz₇ hs₇=>?_); replace hz₇:IsZip h₇ z TI TO (rawInt h₅.objs.size):=hz₇; refine qcx hz₇ (by simp) λh₈ hz₈ hs₈=>?_; replace hz₈:IsZip h₈ z TI TO (rawInt h₅.objs.size):=hz₈; have up:∀c o,c≠z->h₅.get? c=some o->h₈.get? c=some o:=λc o c1 e=>hs₈.extBut _ _ c1 (hs₇.extBut _ _ c1 (Heap.get?_push_of_some _ e)); have hT₈:IsPair h₈ h₅.objs.size x y:=hs₈.extBut _ _ (qcu hzlt) (hs₇.extBut _ _ (qcu hzlt) (qat _ rfl)); have hz8:h₈.objs.size=h₅.objs.size+1:=(by rw[hs₈.1,hs₇.1,qb4])
 rw[hsz] at hz₈ hT₈ hz8;refine wpAny_pure ⟨_,rfl,?_⟩; show Q (.ref h₅.objs.size) _;rw[hsz];exact hQ h₈ hz₈ (up _ _ D.TOz hTO₅) (h1₅.at λo e=>up _ o D.i1z e) (h2₅.at λo e=>up _ o D.i2z e) hT₈ hz8 λc o c1 c2 c3 c4 e=>up c o c1 (hk₅ c o c1 c2 c3 c4 e)
theorem zrb {TI TO:Addr}{b:Value}{Q:Fin->Shared->Prop} (hh:A.handled=none) (D:ZipApart z TI TO i1 i2 l1 l2)
   (zZ:IsZip s.heap z TI TO .none) (zI:IsPair s.heap TI (.ref i1) (.ref i2)) (zO:IsPair s.heap TO a b)
   (p1:ItB b1 s.heap i1 l1 k1) (p2:ItB b2 s.heap i2 l2 k2) (q1:SqB b1 s.heap l1 xs) (q2:SqB b2 s.heap l2 ys) (hend:xs[k1]?=none\/ys[k2]?=none)
   (hE:∀h' e,(∀c o,c≠z->c≠TO->c≠i1->c≠i2->s.heap.get? c=some o->h'.get? c=some o)->(∃o,h'.get? e=some o/\o.cls=.type "StopIteration")->E (.ref e) { s with heap:=h' }) :
   wpAny (model prog w) A (Builtin.«zip.__next__» ⟨[.ref z],[]⟩) Q E s:=by
 show wpAny _ _ (field (.ref z) 2 >>= _) _ _ _; refine wpAny_bind (qbp zZ rfl (x:=.bool false) rfl ?_); show wpAny _ _ (field (.ref z) 3 >>= _) _ _ _; refine wpAny_bind (qbp zZ rfl (x:=.ref TI) rfl ?_); refine wpAny_bind (qct zI rfl ?_); show wpAny _ _ (Builtin.SmallTypes.ownedTupleIsFree (.ref z) >>= _) _ _ _; refine wpAny_bind ?_; unfold Builtin.SmallTypes.ownedTupleIsFree; refine wpAny_bind (qbp zZ rfl (x:=.none) rfl (wpAny_pure ?_)); simp only[if_true]; refine wpAny_bind (qfa ?_); refine wpAny_bind (qbp zZ rfl (x:=.ref TO) rfl ?_);refine wpAny_bind (qcx zZ (by simp) λh₁ zZ₁ hs₁=>?_); replace zZ₁:IsZip h₁ z TI TO .ellipsis:=zZ₁; refine wpAny_bind ?_; simp only[List.zipIdx_cons,List.zipIdx_nil,qd4,qe9]; refine wpAny_bind (wpAny_bind (qel ?_)); show wpAny _ _ (Builtin.SmallTypes.nextOf (.ref i1) >>= _) _ _ _;cases hx:xs[k1]? with
 | none =>
   refine wpAny_bind (zqi hh (p1.extBut hs₁.extBut D.i1z) (q1.extBut hs₁.extBut D.l1z) hx λh₂ e hs₂ he=>?_); obtain⟨oe,hoe,hce⟩:=he; have hz₂:IsZip h₂ z TI TO .ellipsis:=hs₂ _ _ D.i1z.symm zZ₁; have hez:e≠z:=(λx=>by subst x; rw[hz₂] at hoe; cases hoe; simp at hce); refine qcx hz₂ (by simp) λh₃ _ hs₃=>hE h₃ e (λc o c1 _ c3 _ x=>hs₃.extBut _ _ c1 (hs₂ _ _ c3 (hs₁.extBut _ _ c1 x))) ⟨oe,hs₃.extBut _ _ hez hoe,hce⟩
 | some x =>
   have hy:ys[k2]?=none:=(by rcases hend with h|h; rw[hx] at h; cases h; exact h); refine wpAny_bind (zj6 (p1.extBut hs₁.extBut D.i1z) (q1.extBut hs₁.extBut D.l1z) hx λh₂ h1₂ hs₂=>wpAny_pure ?_); have hTO₂:IsPair h₂ TO a b:=hs₂.extBut _ _ D.TOi1 (hs₁.extBut _ _ D.TOz zO); refine wpAny_bind (qct hTO₂ rfl ?_); refine wpAny_bind (qd7 hTO₂ λh₃ hTO₃ hs₃=>?_); refine wpAny_bind (wpAny_letGo (wpAny_pure ?_)); refine wpAny_bind (wpAny_bind (qel ?_)); show wpAny _ _ (Builtin.SmallTypes.nextOf (.ref i2) >>= _) _ _ _; refine wpAny_bind (zqi hh (((p2.extBut hs₁.extBut D.i2z).extBut hs₂.extBut D.i12.symm).extBut hs₃.extBut D.TOi2.symm)
     (((q2.extBut hs₁.extBut D.l2z).extBut hs₂.extBut D.l2i1).extBut hs₃.extBut D.l2TO) hy λh₄ e hs₄ he=>?_)
   obtain⟨oe,hoe,hce⟩:=he; have hz₄:IsZip h₄ z TI TO .ellipsis:=hs₄ _ _ D.i2z.symm (hs₃.extBut _ _ D.TOz.symm (hs₂.extBut _ _ D.i1z.symm zZ₁)); have hez:e≠z:=(λx=>by subst x; rw[hz₄] at hoe; cases hoe; simp at hce); refine qcx hz₄ (by simp) λh₅ _ hs₅=>hE h₅ e (λc o c1 c2 c3 c4 x=>hs₅.extBut _ _ c1 (hs₄ _ _ c4 (hs₃.extBut _ _ c2 (hs₂.extBut _ _ c3 (hs₁.extBut _ _ c1 x))))) ⟨oe,hs₅.extBut _ _ hez hoe,hce⟩
theorem zqq {TI TO:Addr}{x y b:Value}{Q:Option Value->Shared->Prop} (D:ZipApart z TI TO i1 i2 l1 l2)
   (zZ:IsZip s.heap z TI TO .none) (zI:IsPair s.heap TI (.ref i1) (.ref i2)) (zO:IsPair s.heap TO a b)
   (p1:ItB b1 s.heap i1 l1 k1) (p2:ItB b2 s.heap i2 l2 k2) (q1:SqB b1 s.heap l1 xs) (q2:SqB b2 s.heap l2 ys) (hx:xs[k1]?=some x) (hy:ys[k2]?=some y)
   (hQ:∀h',IsZip h' z TI TO (rawInt s.heap.objs.size)->IsPair h' TO x y->ItB b1 h' i1 l1 (k1+1)->ItB b2 h' i2 l2 (k2+1)->IsPair h' s.heap.objs.size x y->h'.objs.size=s.heap.objs.size+1 ->
     (∀c o,c≠z->c≠TO->c≠i1->c≠i2->s.heap.get? c=some o->h'.get? c=some o)->Q (some (.ref s.heap.objs.size)) { s with heap:=h' }) :
   wpAny (model prog w) A (pyNext (.ref z)) Q E s:=by
 have hT:s.TypeIs (.ref z) "zip":=⟨_,zZ,rfl⟩; unfold pyNext;exact wpAny_bind (qfb (wpAny_callSpecial?_slot (name:=Str.ofString "__next__") hT qd8
   (qc3 qd8 hT F.entry_zip_next
     (zpk D zZ zI zO p1 p2 q1 q2 hx hy λh' a1 a2 a3 a4 a5 a6 a7=>wpAny_pure (hQ h' a1 a2 a3 a4 a5 a6 a7)) (F.args_zip_next_1 _))))
theorem zrd {TI TO:Addr}{b:Value}{Q:Option Value->Shared->Prop} (hh:A.handled=none) (D:ZipApart z TI TO i1 i2 l1 l2)
   (zZ:IsZip s.heap z TI TO .none) (zI:IsPair s.heap TI (.ref i1) (.ref i2)) (zO:IsPair s.heap TO a b)
   (p1:ItB b1 s.heap i1 l1 k1) (p2:ItB b2 s.heap i2 l2 k2) (q1:SqB b1 s.heap l1 xs) (q2:SqB b2 s.heap l2 ys) (hend:xs[k1]?=none\/ys[k2]?=none)
   (hQ:∀h',(∀c o,c≠z->c≠TO->c≠i1->c≠i2->s.heap.get? c=some o->h'.get? c=some o)->Q none { s with heap:=h' }):wpAny (model prog w) A (pyNext (.ref z)) Q E s:=by
 have hT:s.TypeIs (.ref z) "zip":=⟨_,zZ,rfl⟩; unfold pyNext; refine wpAny_bind (qfb (wpAny_callSpecial?_slot (name:=Str.ofString "__next__") hT qd8
   (qc3 qd8 hT F.entry_zip_next (zrb hh D zZ zI zO p1 p2 q1 q2 hend λh' e hk he=>?_) (F.args_zip_next_1 _))))
 obtain⟨o,ho,hc⟩:=he; refine wpAny_bind (wpAny_isInstance (T:="StopIteration") (b:=true) ⟨o,ho,hc⟩ isSubtype_stop ?_);exact wpAny_pure (hQ _ hk)
end
def itO (b:Bool) (l:Addr):Obj:={ cls:=.type (match b with|true=>"tuple_iterator" | false=>"list_iterator"),data:=.fields #[.ref l,.int 0 0] }
theorem zuw (b1 b2:Bool) (l1 l2:Addr) (xs ys:Array Value) :
   Meets (Builtin.«zip.__new__» ⟨[.type "zip",.ref l1,.ref l2],[]⟩) (λ_ R s=>SqB b1 s.heap l1 xs/\SqB b2 s.heap l2 ys /\
     R (.ok (.ret (.ref ((((s.heap.push (itO b1 l1)).push (itO b2 l2)).push { cls:=.type "tuple",data:=.seq #[.ref s.heap.objs.size,.ref (s.heap.push (itO b1 l1)).objs.size] }).push { cls:=.type "tuple",data:=.seq #[.none,.none] }).objs.size)))
       { s with heap:=(((((s.heap.push (itO b1 l1)).push (itO b2 l2)).push { cls:=.type "tuple",data:=.seq #[.ref s.heap.objs.size,.ref (s.heap.push (itO b1 l1)).objs.size] }).push { cls:=.type "tuple",data:=.seq #[.none,.none] }).push
         { cls:=.type "zip",data:=.fields #[.none,.bool false,.bool false,.ref ((s.heap.push (itO b1 l1)).push (itO b2 l2)).objs.size,.ref (((s.heap.push (itO b1 l1)).push (itO b2 l2)).push { cls:=.type "tuple",data:=.seq #[.ref s.heap.objs.size,.ref (s.heap.push (itO b1 l1)).objs.size] }).objs.size] }) }) :=
 .of_wp λprog w A R s h=>by
   obtain⟨hp,g,d,tk,os⟩:=s; obtain⟨q1,q2,h⟩:=h;have hsub:=sub_zip;have q2':SqB b2 (hp.push (itO b1 l1)) l2 ys:=q2.at λo e=>Heap.get?_push_of_some _ e;cases b1 with
   | true =>
     have hL1:Heap.IsTuple (Shared.heap ⟨hp,g,d,tk,os⟩) l1 xs:=q1;cases b2 with
     | true =>
       have hL2:Heap.IsTuple (Shared.heap ⟨hp.push { cls:=.type "tuple_iterator",data:=.fields #[.ref l1,.int 0 0] },g,d,tk,os⟩) l2 ys:=q2'
       wp_walk using qcn hL1,qcn hL2; exact⟨_,rfl,h⟩
     | false =>
       have hL2:Heap.IsList (Shared.heap ⟨hp.push { cls:=.type "tuple_iterator",data:=.fields #[.ref l1,.int 0 0] },g,d,tk,os⟩) l2 ys:=q2'
       wp_walk using qcn hL1,qcg hL2; exact⟨_,rfl,h⟩
   | false =>
     have hL1:Heap.IsList (Shared.heap ⟨hp,g,d,tk,os⟩) l1 xs:=q1;cases b2 with
     | true =>
       have hL2:Heap.IsTuple (Shared.heap ⟨hp.push { cls:=.type "list_iterator",data:=.fields #[.ref l1,.int 0 0] },g,d,tk,os⟩) l2 ys:=q2'
       wp_walk using qcg hL1,qcn hL2; exact⟨_,rfl,h⟩
     | false =>
       have hL2:Heap.IsList (Shared.heap ⟨hp.push { cls:=.type "list_iterator",data:=.fields #[.ref l1,.int 0 0] },g,d,tk,os⟩) l2 ys:=q2'
       wp_walk using qcg hL1,qcg hL2; exact⟨_,rfl,h⟩
section
variable {prog:Program} {w:World} {A:Around} {E:Value->Shared->Prop} {s:Shared}
theorem z1g (e:h.get? it=some (itO b l)):ItB b h it l 0:=by cases b <;> exact⟨_,e,rfl,rfl⟩
theorem zrf {Q:Value->Shared->Prop} (q1:SqB b1 s.heap l1 xs) (q2:SqB b2 s.heap l2 ys)
   (h:∀h' (n:Nat),n=s.heap.objs.size->IsZip h' (n+4) (n+2) (n+3) .none->IsPair h' (n+2) (.ref n) (.ref (n+1))->IsPair h' (n+3) .none .none->ItB b1 h' n l1 0->ItB b2 h' (n+1) l2 0 ->
     (∀c o,s.heap.get? c=some o->h'.get? c=some o)->Q (.ref (n+4)) { s with heap:=h' }) :
   wpAny (model prog w) A (call (.type "zip") [.ref l1,.ref l2]) Q E s:=by
 refine callType_new F.called_zip (by decide) (F.typeCall_zip_2 _ _) (F.newCall_zip_2 _ _) (λobj=>F.args_object_init_3 obj _ _) F.entry_zip_new (zuw b1 b2 l1 l2 xs ys) ⟨q1,q2,?_⟩;generalize ho1:itO b1 l1=o1;generalize ho2:itO b2 l2=o2;have z1:(s.heap.push o1).objs.size=s.heap.objs.size+1:=qb4 ..;have z2:((s.heap.push o1).push o2).objs.size=s.heap.objs.size+2:=by rw[qb4,z1]
 rw[z1,z2];generalize hT1:({ cls:=.type "tuple",data:=.seq #[.ref s.heap.objs.size,.ref (s.heap.objs.size+1)] }:Obj)=t1;generalize hT2:({ cls:=.type "tuple",data:=.seq #[.none,.none] }:Obj)=t2;have z3:(((s.heap.push o1).push o2).push t1).objs.size=s.heap.objs.size+3:=by rw[qb4,z2]
 have z4:((((s.heap.push o1).push o2).push t1).push t2).objs.size=s.heap.objs.size+4:=by rw[qb4,z3]
 rw[z3,z4];generalize hZ:({ cls:=.type "zip",data:=.fields #[.none,.bool false,.bool false,.ref (s.heap.objs.size+2),.ref (s.heap.objs.size+3)] }:Obj)=tz;have g5:=qat ((((s.heap.push o1).push o2).push t1).push t2) (o:=tz) (by rw[<- hZ]; rfl);have g4:=Heap.get?_push_of_some tz (qat (((s.heap.push o1).push o2).push t1) (o:=t2) (by rw[<- hT2]; rfl));have g3:=Heap.get?_push_of_some tz (Heap.get?_push_of_some t2 (qat ((s.heap.push o1).push o2) (o:=t1) (by rw[<- hT1]; rfl)));have g2:=Heap.get?_push_of_some tz (Heap.get?_push_of_some t2 (Heap.get?_push_of_some t1 (qat (s.heap.push o1) (o:=o2) (by rw[<- ho2]; rfl))));have g1:=Heap.get?_push_of_some tz (Heap.get?_push_of_some t2 (Heap.get?_push_of_some t1 (Heap.get?_push_of_some o2 (qat s.heap (o:=o1) (by rw[<- ho1]; rfl)))));rw[z4] at g5;rw[z3] at g4;rw[z2] at g3;rw[z1] at g2;subst hZ hT1 hT2 ho1 ho2;exact⟨⟨_,g5,rfl⟩,h _ s.heap.objs.size rfl g5 g3 g4 (z1g g1) (z1g g2) λc o x =>
   Heap.get?_push_of_some _ (Heap.get?_push_of_some _ (Heap.get?_push_of_some _ (Heap.get?_push_of_some _ (Heap.get?_push_of_some _ x))))⟩
end
end PySem
namespace L2
open PySem PySem.Spec PyProof.Rows
def SqV (b:Bool) (K:W.Frag) (H:Hp) (l:Addr) (xs:List V):Prop:=match b with|true=>SqT K H l xs|false=>SqL K H l xs
theorem Inv.sqv {X:Cx} {pins:List (Addr×Obj)} {σ:St} {H:Hp} {s:Shared} {b:Bool} {l:Addr} {xs:List V} (I:Inv X pins σ H s) (h:SqV b X.K H l xs):∃its:List Value,zcp xs its/\SqB b s.heap l its.toArray:=by
 cases b with
 | true=>obtain⟨its,r,p,_⟩:=I.tuple h; exact⟨its,r,p⟩
 | false=>obtain⟨its,r,p,_⟩:=I.list h; exact⟨its,r,p.isList⟩
theorem Inv.sqv_inj {X:Cx} {pins:List (Addr×Obj)} {σ:St} {H:Hp} {s:Shared} {b:Bool} {l:Addr} {xs ys:List V} (I:Inv X pins σ H s) (h:SqV b X.K H l xs) (h':SqV b X.K H l ys):xs=ys:=by
 cases b with
 | true=>exact I.tuple_inj h h'
 | false=>exact I.list_inj h h'
theorem SqB.lt {b:Bool} {h:Heap} {l:Addr} {xs:Array Value} (p:SqB b h l xs):l<h.objs.size:=by cases b <;> (obtain⟨o,ho,r⟩:=p; exact Heap.lt_size ho)
def Itz (K:W.Frag) (b1 b2:Bool) (l1 l2:Addr):It :=
 ⟨λi H=>∃xs ys x y,SqV b1 K H l1 xs/\SqV b2 K H l2 ys/\xs[i]?=some x/\ys[i]?=some y,
  λi H v H'=>∃b,v=.ref b/\H b=none/\∀xs ys x y,SqV b1 K H l1 xs->SqV b2 K H l2 ys->xs[i]?=some x->ys[i]?=some y->H'=upd H b (.tup [x,y]),
  λi H=>∃xs ys,SqV b1 K H l1 xs/\SqV b2 K H l2 ys/\(xs[i]?=none\/ys[i]?=none)⟩
theorem zzj {P:Program} {w:World} {K:W.Frag} {elts:List Expr} {k:Nat} {pos:Pos} (b1 b2:Bool) (z TI TO i1 i2 l1 l2:Addr) (D:ZipApart z TI TO i1 i2 l1 l2) :
   Turn P w K (.Tuple elts k pos) (Itz K b1 b2 l1 l2) [z,TI,TO,i1,i2] z (λi h=>IsZip h z TI TO .none/\IsPair h TI (.ref i1) (.ref i2)/\(∃a b,IsPair h TO a b)/\ItB b1 h i1 l1 i/\ItB b2 h i2 l2 i) where
 mem:=by simp
 obj:=λi h st b hb=>by
   obtain⟨hz,hTI,⟨a,c,hTO⟩,h1,h2⟩:=st;simp only[qay,qdx,or_false] at hb;rcases hb with rfl|rfl|rfl|rfl|rfl
   . exact⟨_,hz,λv z=>by cases (show Data.fields _=Data.cell v from z)⟩
   . exact⟨_,hTI,λv z=>by cases (show Data.seq _ _=Data.cell v from z)⟩
   . exact⟨_,hTO,λv z=>by cases (show Data.seq _ _=Data.cell v from z)⟩
   . cases b1 <;> (obtain⟨o,ho,hc,hd⟩:=h1; exact⟨o,ho,λv z=>by rw[hd] at z; cases z⟩)
   . cases b2 <;> (obtain⟨o,ho,hc,hd⟩:=h2; exact⟨o,ho,λv z=>by rw[hd] at z; cases z⟩)
 keep:=λi h h' st kk=>by obtain⟨hz,hTI,⟨a,c,hTO⟩,h1,h2⟩:=st;exact⟨kk _ (by simp) _ hz,kk _ (by simp) _ hTI,⟨a,c,kk _ (by simp) _ hTO⟩,h1.at λo e=>kk _ (by simp) o e,h2.at λo e=>kk _ (by simp) o e⟩
 item:=by
   intro X hP hw hK hc i pins s σ H E I hf st hg;subst hP hw hK;obtain⟨hz,hTI,⟨oa,ob,hTO⟩,h1,h2⟩:=st;obtain⟨xs,ys,x,y,e1,e2,hx,hy⟩:=hg;obtain⟨is1,r1,p1⟩:=I.sqv e1;obtain⟨is2,r2,p2⟩:=I.sqv e2;obtain⟨u,hu,ru⟩:=r1.get hx;obtain⟨v,hv,rv⟩:=r2.get hy;refine zqq D hz hTI hTO h1 h2 p1 p2 (by simpa using hu) (by simpa using hv) λh' a1 a2 a3 a4 a5 a6 hk=>?_;refine⟨_,rfl,wpAny_letOwnedTupleGo_zip a1 λh3 hz3 hs3=>?_⟩;have hs3:Heap.SameBut z h' h3:=hs3;have hzlt:z<s.heap.objs.size:=Heap.lt_size hz;have hfr:H s.heap.objs.size=none:=I.hok.fresh (qaj _);have hnS:s.heap.objs.size≠z:=qcu hzlt;have hT3:IsPair h3 s.heap.objs.size u v:=(hs3.2 _ hnS).trans a5;refine⟨.ref s.heap.objs.size,upd H s.heap.objs.size (.tup [x,y]),I.turnLaid (t':=s.toks) (ch:=[z,TI,TO,i1,i2]) (λb o hb q=>?_) hf (qaj _) ?_,rfl,⟨s.heap.objs.size,rfl,hfr,λxs' ys' x' y' q1 q2 hx' hy'=>?_⟩,⟨hz3,?_,⟨u,v,?_⟩,?_,?_⟩,λb hb=>?_⟩
   . have n1:b≠z:=λzz=>hb (by simp [zz]);have n3:b≠TO:=λzz=>hb (by simp [zz]);have n4:b≠i1:=λzz=>hb (by simp [zz]);have n5:b≠i2:=λzz=>hb (by simp [zz]);exact(hs3.2 b n1).trans (hk b o n1 n3 n4 n5 q)
   . exact⟨by show 2<=sizeLine; decide,[u,v],.cons ru (.cons rv .nil),⟨_,hT3,rfl,_,rfl⟩⟩
   . have t1:=I.sqv_inj q1 e1;have t2:=I.sqv_inj q2 e2;subst t1 t2;rw[hx] at hx';rw[hy] at hy';cases hx';cases hy';rfl
   . exact(hs3.2 _ D.TIz).trans (hk _ _ D.TIz D.TITO D.TIi1 D.TIi2 hTI)
   . exact(hs3.2 _ D.TOz).trans a2
   . exact a3.at λo e=>(hs3.2 _ D.i1z).trans e
   . exact a4.at λo e=>(hs3.2 _ D.i2z).trans e
   . have hb0:=(hf b hb).1;rw[zal]
     . exact hb0
     . intro zz;subst zz;simp only[qay,qdx,or_false] at hb;rcases hb with e|e|e|e|e
       . exact hnS e
       . exact absurd (Heap.lt_size hTI) (by rw[<- e]; exact qbm _)
       . exact absurd (Heap.lt_size hTO) (by rw[<- e]; exact qbm _)
       . exact absurd h1.lt (by rw[<- e]; exact qbm _)
       . exact absurd h2.lt (by rw[<- e]; exact qbm _)
 done:=by
   intro X hP hw hK hc i pins s σ H E I hf st hg;subst hP hw hK;obtain⟨hz,hTI,⟨oa,ob,hTO⟩,h1,h2⟩:=st;obtain⟨xs,ys,e1,e2,hend⟩:=hg;obtain⟨is1,r1,p1⟩:=I.sqv e1;obtain⟨is2,r2,p2⟩:=I.sqv e2;refine zrd (I.ok.hd hc) D hz hTI hTO h1 h2 p1 p2 ?_ λh' hk=>⟨rfl,?_⟩
   . rcases hend with h|h
     . left; have:=r1.none_of h; simpa using this
     . right; have:=r2.none_of h; simpa using this
   . exact I.turnedL (t':=s.toks) (ch:=[z,TI,TO,i1,i2]) (λb o hb q=>hk b o (λzz=>hb (by simp [zz])) (λzz=>hb (by simp [zz])) (λzz=>hb (by simp [zz])) (λzz=>hb (by simp [zz])) q) hf
 self:=λ_ _ _ _ _ st h=>wpAny_pyIter_zip st.1 h
section
variable {X:Cx}
def iZip (b1 b2:Bool) (K:W.Frag) (ta:TA):TI:=λσ H R=>ta σ H λvs H1=>∃l1 l2,vs=[.ref l1,.ref l2]/\(∃xs,SqV b1 K H1 l1 xs)/\(∃ys,SqV b2 K H1 l2 ys)/\R (Itz K b1 b2 l1 l2) H1
theorem zwd (b1 b2:Bool) {a b:Expr} {ta:TA} {p pos tpos:Pos} {elts:List Expr} {k:Nat} (hg:Gl X "zip") (hm:X.mg "zip"=none) (ha:PA X [a,b] ta) (hs:starEach [a,b] X.env=(false,eval a X.env) :: starEach [b] X.env:=by rfl) (hs2:(backTo pos (starEach [b] X.env)).any (·.1)=false:=by rfl) :
   PI X (.Tuple elts k tpos) (.Call (.Name "zip" p) [a,b] [] pos) (iZip b1 b2 X.K ta):=by
 intro pins s σ H R I h;refine Call_ (zkr I hg hm z43 (qbz (thn (ha pos pins s σ H _ I h) λus s1 ⟨vs,H1,I1,r1,q1⟩=>?_) hs hs2));obtain⟨l1,l2,e,⟨xs,hx⟩,⟨ys,hy⟩,q⟩:=q1;subst e;cases r1 with
 | cons r rr =>
   cases rr with
   | cons r' rr =>
     cases rr;cases r;cases r';obtain⟨is1,v1,p1⟩:=I1.sqv hx;obtain⟨is2,v2,p2⟩:=I1.sqv hy;refine zrf p1 p2 λh' n hn hz hTI hTO h1 h2 hk=>?_;subst hn;refine wpAny_pyIter_zip hz ?_;refine⟨s1.heap.objs.size+4,[s1.heap.objs.size+4,s1.heap.objs.size+2,s1.heap.objs.size+3,s1.heap.objs.size,s1.heap.objs.size+1],_,_,H1,rfl,I1.kept (t':=s1.toks) hk,zzj b1 b2 _ _ _ _ _ l1 l2 (zipApart_new (SqB.lt p1) (SqB.lt p2)),⟨hz,hTI,⟨_,_,hTO⟩,h1,h2⟩,λb hb=>?_,q⟩;have hb':s1.heap.objs.size<=b:=by simp only[qay,qdx,or_false] at hb;rcases hb with e|e|e|e|e <;> rw[e] <;> first|exact qaj _|exact qer _ _
     exact I1.fpOk hb' (I1.hok.fresh hb')
theorem zwz {b1 b2:Bool} {K:W.Frag} {l1 l2:Addr} {xs ys:List V} {g:TG} {tb:TS} {D:zjb} {σ:St} {H:Hp} (Pv:Nat->St->Hp->Prop) (h0:Pv 0 σ H) (hl:∀i σ H,i<=min xs.length ys.length->Pv i σ H->SqV b1 K H l1 xs/\SqV b2 K H l2 ys)
   (hs:∀i x y σ H b,xs[i]?=some x->ys[i]?=some y->Pv i σ H->H b=none->g (.ref b) σ (upd H b (.tup [x,y])) λσ2 H2=>tb { D with nx:=Pv (i+1),ct:=Pv (i+1),bk:=D.nx } σ2 H2) (hd:∀σ H,Pv (min xs.length ys.length) σ H->D.nx σ H) :
   ∃W:Nat->Nat->St->Hp->Prop,(∃m,W 0 m σ H)/\∀i m σ H,W i m σ H->((Itz K b1 b2 l1 l2).stop i H/\D.nx σ H)\/((Itz K b1 b2 l1 l2).go i H/\∃N:St->Hp->Prop,(∀σ' H',N σ' H'->∃m',m'<m/\W (i+1) m' σ' H')/\∀x H',(Itz K b1 b2 l1 l2).yld i H x H'->g x σ H' λσ2 H2=>tb { D with nx:=N,ct:=N,bk:=D.nx } σ2 H2):=by
 refine⟨λi m σ H=>m=min xs.length ys.length - i/\i<=min xs.length ys.length/\Pv i σ H,⟨min xs.length ys.length,by simp,qaz _,h0⟩,?_⟩;rintro i m σ H ⟨rfl,hi,p⟩;obtain⟨q1,q2⟩:=hl i σ H hi p;by_cases hlt:i<min xs.length ys.length
 . have l1':i<xs.length:=by omega
   have l2':i<ys.length:=by omega
   refine .inr ⟨⟨xs,ys,xs[i],ys[i],q1,q2,by simp [l1'],by simp [l2']⟩,Pv (i+1),λσ' H' p'=>⟨min xs.length ys.length - (i+1),by omega,rfl,hlt,p'⟩,λx H' y=>?_⟩;obtain⟨b,rfl,hb,y⟩:=y;rw[y xs ys xs[i] ys[i] q1 q2 (by simp [l1']) (by simp [l2'])];exact hs i xs[i] ys[i] σ H b (by simp [l1']) (by simp [l2']) p hb
 . have e:i=min xs.length ys.length:=by omega
   subst e;refine .inl ⟨⟨xs,ys,q1,q2,?_⟩,hd σ H p⟩;rcases Nat.le_total xs.length ys.length with h|h
   . left; rw[qdc h]; exact qbi (qaj _)
   . right; rw[qes h]; exact qbi (qaj _)
end
structure ClsOk (K:W.Frag) (mg:Str->Option Value) (name:Str) (C:Addr):Prop where
 cl:Cls K C
 g:mg name=some (.ref C)
structure MetOk (K:W.Frag) (C:Addr) (m qual:Str) (st:Stmt) (ps:List Str) (f:Addr) (fd:FuncData):Prop where
 F:Fun K m qual st f fd
 b:zk9 K fd ps []
 m:Meth K C m f
structure IniOk (K:W.Frag) (C:Addr) (qual:Str) (st:Stmt) (ps:List Str) (f:Addr) (fd:FuncData):Prop where
 F:Fun K "__init__" qual st f fd
 b:zk9 K fd ps []
 M:Mk K C f
section
variable {X:Cx} {k:Nat} {C f:Addr} {fd:FuncData} {ps:List Str} {sp:Sp} {x m qual:Str} {st:Stmt} {p pos apos:Pos} {o e:Expr} {es:List Expr} {ta:TE} {t:TA}
theorem z53 (Cc:ClsOk X.K X.mg x C) (D:IniOk X.K C qual st ps f fd) (G:FnOk X.prog X.w X.K X.mg X.base CX0 k f fd ps sp) (hr:Room (k+1) X.A) (ha:PA X (e :: es) t) (hg:Gl X x:=by rfl)
   (hdb:(x==("__debug__":Str))=false:=by decide) (he:starEach (e :: es) X.env=(false,eval e X.env) :: starEach es X.env:=by rfl) (hpl:(backTo pos (starEach es X.env)).any (·.1)=false:=by rfl) :
   PE X (.Call (.Name x p) (e :: es) [] pos) (z2i C sp [] E0 t):=zvx D.M G hr hg Cc.g D.b .nil z58 ha hdb he hpl
theorem ze6 {K:W.Frag} {C:Addr} {m qual:Str} {st:Stmt} {ps:List Str} {f:Addr} {oc:Value} {od an:Option Addr} {osl:Array (Option Value)} {kV doc pm cdv ct:Value}
   (a:PySem.W.findIn K (.ref C) m=some (some (.ref f))) (i:PySem.W.isFn K (.ref f)=true) (l:K.lookup f=some ⟨oc,od,.func (PySem.W.fnOf m qual (zdu st) (zc8 st) (zah st) .none kV doc pm an cdv ct),osl⟩) (c:PySem.W.codeIn K cdv qual=true) (k:PySem.W.keepIn K (.ref f)=true)
   (b:∀(kV doc pm:Value) (an:Option Addr) (cdv ct:Value) (us:List Value),us.length=ps.length->bindArgs (PySem.W.fnOf m qual (zdu st) (zc8 st) (zah st) .none kV doc pm an cdv ct) ⟨us,[]⟩=pure (ps.zip us)) :
   MetOk K C m qual st ps f (PySem.W.fnOf m qual (zdu st) (zc8 st) (zah st) .none kV doc pm an cdv ct) :=
 ⟨zns l c k,(zns l c k).binds b,⟨a,i,k⟩⟩
theorem zsr {K:W.Frag} {C:Addr} {qual:Str} {st:Stmt} {ps:List Str} {f:Addr} {oc:Value} {od an:Option Addr} {osl:Array (Option Value)} {kV doc pm cdv ct:Value}
   (mk:PySem.W.makesIn K C=true) (kc:PySem.W.keepIn K (.ref C)=true) (a:PySem.W.findIn K (.ref C) "__init__"=some (some (.ref f))) (i:PySem.W.isFn K (.ref f)=true) (l:K.lookup f=some ⟨oc,od,.func (PySem.W.fnOf "__init__" qual (zdu st) (zc8 st) (zah st) .none kV doc pm an cdv ct),osl⟩) (c:PySem.W.codeIn K cdv qual=true) (k:PySem.W.keepIn K (.ref f)=true)
   (b:∀(kV doc pm:Value) (an:Option Addr) (cdv ct:Value) (us:List Value),us.length=ps.length->bindArgs (PySem.W.fnOf "__init__" qual (zdu st) (zc8 st) (zah st) .none kV doc pm an cdv ct) ⟨us,[]⟩=pure (ps.zip us)) :
   IniOk K C qual st ps f (PySem.W.fnOf "__init__" qual (zdu st) (zc8 st) (zah st) .none kV doc pm an cdv ct) :=
 ⟨zns l c k,(zns l c k).binds b,⟨mk,a,i,kc⟩⟩
end
theorem u1' {A:Around} (h:A.units+64<cLine):A.units+1<cLine:=by omega
end L2
namespace K12
open PySem L2
def step (acc:List Str) (s:Str):List Str:=if s∈acc then acc else acc++[s]
def onceL (ss:List Str):List Str:=ss.foldl step []
def zfd (as:List V):List Str:=as.filterMap λv=>match v with | .str s=>some s|_=>none
theorem zn1 (a b:List V):zfd (a++b)=zfd a++zfd b:=List.filterMap_append ..
theorem zuq (i:Int):zfd [.int i]=[]:=rfl
theorem zz8 (acc:List Str) (s:Str):∀x∈acc,x∈step acc s:=λx hx=>by
 unfold step;split
 . exact hx
 . exact qd0 _ hx
theorem zz0 (acc:List Str) (s:Str):s∈step acc s:=by
 unfold step;split
 . assumption
 . exact qbc _ (by simp)
theorem zsw:∀(ss acc:List Str),∀x∈acc,x∈ss.foldl step acc
 | [],acc,x,hx=>hx
 | s :: ss,acc,x,hx=>zsw ss _ x (zz8 acc s x hx)
theorem ztv:∀(ss acc:List Str),∀x∈ss,x∈ss.foldl step acc
 | s :: ss,acc,x,hx=>by
   rcases qay.mp hx with e|e
   . subst e;exact zsw ss _ _ (zz0 acc _)
   . exact ztv ss _ x e
theorem zo2:∀(B:List Str) (acc C:List Str),(B.foldl step C).foldl step acc=B.foldl step (C.foldl step acc)
 | [],acc,C=>rfl
 | s :: B,acc,C=>by
   rw[qdj,zo2 B acc (step C s),qdj];congr 1;unfold step;by_cases h:s∈C
   . rw[if_pos h];have h2:s∈C.foldl step acc:=ztv C acc s h;have h2':s∈List.foldl (λacc s=>if s∈acc then acc else acc++[s]) acc C:=h2;rw[if_pos h2']
   . rw[if_neg h,qbx];rfl
theorem zvs (A B C:List Str):onceL (A++onceL B++C)=onceL (A++B++C):=by unfold onceL;rw[qbx,qbx,qbx,qbx];have e:=zo2 B (A.foldl step []) [];rw[e];rfl
theorem zz1 (acc:List Str) (s:Str):(step acc s).length<=acc.length+1:=by
 unfold step;split
 . omega
 . simp
theorem zxl (ss:List Str):(onceL ss).length<=ss.length:=by
 have key:∀(ss acc:List Str),(ss.foldl step acc).length<=acc.length+ss.length:=by
   intro ss
   induction ss with
   | nil=>intro acc; simp
   | cons s ss ih =>
     intro acc;have h1:=ih (step acc s);have h2:=zz1 acc s;rw[qdj];simp only[List.length_cons];omega
 have:=key ss [];unfold onceL;simpa using this
def tru (ss:List Str):List (Key×V):=ss.map λs=>(Sum.inr s,V.bl true)
theorem z3b (acc:List Str) (s:Str):zei (tru acc) (Sum.inr s) (.bl true)=tru (step acc s):=by
 unfold zei step;have e:((tru acc).any λkv=>decide (kv.1=(Sum.inr s:Key)))=decide (s∈acc):=by
   unfold tru;rw[List.any_map];rw[qbt,List.any_eq_true];simp only[Function.comp,decide_eq_true_eq];constructor
   . rintro ⟨x,hx,h⟩;have:x=s:=Sum.inr.inj h;rw[<- this];exact hx
   . intro h;exact⟨s,h,rfl⟩
 rw[e];by_cases h:s∈acc
 . rw[decide_eq_true h,if_pos rfl,if_pos h];unfold tru;rw[qbg];apply qci;intro x _;show(if(Sum.inr x:Key)=Sum.inr s then((Sum.inr x:Key),V.bl true) else(Sum.inr x,V.bl true))=_;split <;> rfl
 . rw[qbn h,if_neg (by decide),if_neg h];unfold tru;rw[List.map_append];rfl
theorem ztq:∀(ss acc:List Str),(tru ss).foldl (λacc kv=>zei acc kv.1 kv.2) (tru acc)=tru (ss.foldl step acc)
 | [],acc=>rfl
 | s :: ss,acc=>by show(tru ss).foldl _ (zei (tru acc) (Sum.inr s) (.bl true))=_;rw[z3b];exact ztq ss (step acc s)
theorem zzd (ss:List Str):(tru ss).foldl (λacc kv=>zei acc kv.1 kv.2) []=tru (onceL ss):=ztq ss []
theorem zzc (ss:List Str):((tru ss).map λkv=>kV kv.1)=ss.map V.str:=by unfold tru;rw[qbg];rfl
theorem z16 {K:W.Frag} {H:Hp} {a q:Addr} {xs l l':List V} (h:SqT K H a xs) (hq:H q=some (.lst l)):SqT K (upd H q (.lst l')) a xs:=by
 rcases h with(h|⟨o,h⟩)|h
 . exact .inl (.inl (by rw[zal (zrj h hq (by intro z; cases z))]; exact h))
 . exact .inl (.inr ⟨o,by rw[zal (zrj h hq (by intro z; cases z))]; exact h⟩)
 . exact .inr h
def Nm (s:Str):Prop:=s.length<=1000/\PyData.strOk s=true
end K12
namespace K12
open PySem L2 PySem.W PyProof.Rows
inductive RowS (K:W.Frag) (H:Hp):List V->Option Str->List V->Prop
 | copy (x:Str) (a:V):RowS K H [.str "copy",.str x,a] (some x) [a]
 | op (x s:Str) (a b:V):RowS K H [.str "op",.str x,.str s,a,b] (some x) [a,b]
 | new (x:Str):RowS K H [.str "new",.str x] (some x) []
 | get (x:Str) (a:V) (f:Str):RowS K H [.str "get",.str x,a,.str f] (some x) [a]
 | put (a:V) (f:Str) (b:V):RowS K H [.str "put",a,.str f,b] none [a,b]
 | call (x f:Str) (p:Addr) (as:List V):SqT K H p as->RowS K H [.str "call",.str x,.str f,.ref p] (some x) as
 | out (a:V):RowS K H [.str "out",a] none [a]
 | back (a:V):RowS K H [.str "back",a] none [a]
 | ifs (a:V):RowS K H [.str "if",a] none [a]
 | whl (a:V):RowS K H [.str "while",a] none [a]
 | els:RowS K H [.str "else"] none []
 | fin:RowS K H [.str "end"] none []
theorem RowS.mono {K:W.Frag} {H H':Hp} {xs:List V} {g:Option Str} {as:List V} (h:RowS K H xs g as) (e:Same H H'):RowS K H' xs g as:=by
 cases h with
 | call x f p as hp=>exact .call x f p as (e.tup hp)
 | copy x a=>exact .copy x a
 | op x s a b=>exact .op x s a b
 | new x=>exact .new x
 | get x a f=>exact .get x a f
 | put a f b=>exact .put a f b
 | out a=>exact .out a
 | back a=>exact .back a
 | ifs a=>exact .ifs a
 | whl a=>exact .whl a
 | els=>exact .els
 | fin=>exact .fin
def tabl:List (Str×List V):=[("copy",[.int 2]),("op",[.int 3,.int 4]),("new",[]),("get",[.int 2]),("put",[.int 1,.int 3]),("out",[.int 1]),("back",[.int 1]),("if",[.int 1]),("while",[.int 1]),("else",[]),("end",[])]
def giving:List Str:=["copy","op","new","get","call"]
theorem zvc {K:W.Frag} {H:Hp} {xs:List V} {g:Option Str} {as:List V} (h:RowS K H xs g as):∃kd:Str,atI xs 0=some (.str kd) /\
   ((kd="call"/\∃p,atI xs 3=some (.ref p)/\SqT K H p as)\/(kd≠"call"/\∃pl:List Int,KTD.datumAt kd tabl=some (pl.map V.int)/\pl.length=as.length/\∀(i:Nat) (a:V),as[i]?=some a->∃p,pl[i]?=some p/\atI xs p=some a)):=by
 cases h with
 | call x f p as hp=>exact⟨"call",rfl,.inl ⟨rfl,p,rfl,hp⟩⟩
 | copy x a=>exact⟨"copy",rfl,.inr ⟨by decide +kernel,[2],by decide +kernel,rfl,λi a' e=>by match i,e with|0,e=>exact⟨2,rfl,e⟩⟩⟩
 | op x s a b=>exact⟨"op",rfl,.inr ⟨by decide +kernel,[3,4],by decide +kernel,rfl,λi a' e=>by match i,e with|0,e=>exact⟨3,rfl,e⟩|1,e=>exact⟨4,rfl,e⟩⟩⟩
 | new x=>exact⟨"new",rfl,.inr ⟨by decide +kernel,[],by decide +kernel,rfl,λi a' e=>by simp at e⟩⟩
 | get x a f=>exact⟨"get",rfl,.inr ⟨by decide +kernel,[2],by decide +kernel,rfl,λi a' e=>by match i,e with|0,e=>exact⟨2,rfl,e⟩⟩⟩
 | put a f b=>exact⟨"put",rfl,.inr ⟨by decide +kernel,[1,3],by decide +kernel,rfl,λi a' e=>by match i,e with|0,e=>exact⟨1,rfl,e⟩|1,e=>exact⟨3,rfl,e⟩⟩⟩
 | out a=>exact⟨"out",rfl,.inr ⟨by decide +kernel,[1],by decide +kernel,rfl,λi a' e=>by match i,e with|0,e=>exact⟨1,rfl,e⟩⟩⟩
 | back a=>exact⟨"back",rfl,.inr ⟨by decide +kernel,[1],by decide +kernel,rfl,λi a' e=>by match i,e with|0,e=>exact⟨1,rfl,e⟩⟩⟩
 | ifs a=>exact⟨"if",rfl,.inr ⟨by decide +kernel,[1],by decide +kernel,rfl,λi a' e=>by match i,e with|0,e=>exact⟨1,rfl,e⟩⟩⟩
 | whl a=>exact⟨"while",rfl,.inr ⟨by decide +kernel,[1],by decide +kernel,rfl,λi a' e=>by match i,e with|0,e=>exact⟨1,rfl,e⟩⟩⟩
 | els=>exact⟨"else",rfl,.inr ⟨by decide +kernel,[],by decide +kernel,rfl,λi a' e=>by simp at e⟩⟩
 | fin=>exact⟨"end",rfl,.inr ⟨by decide +kernel,[],by decide +kernel,rfl,λi a' e=>by simp at e⟩⟩
def xv:Option Str->V
 | some x=>.str x
 | none=>.non
theorem zwv {K:W.Frag} {H:Hp} {xs:List V} {g:Option Str} {as:List V} (h:RowS K H xs g as):∃kd:Str,atI xs 0=some (.str kd) /\
   ((∃x,g=some x/\inV (.str kd) (giving.map V.str)=true/\atI xs 1=some (.str x))\/(g=none/\inV (.str kd) (giving.map V.str)=false)):=by
 cases h with
 | call x f p as hp=>exact⟨"call",rfl,.inl ⟨x,rfl,by decide +kernel,rfl⟩⟩
 | copy x a=>exact⟨"copy",rfl,.inl ⟨x,rfl,by decide +kernel,rfl⟩⟩
 | op x s a b=>exact⟨"op",rfl,.inl ⟨x,rfl,by decide +kernel,rfl⟩⟩
 | new x=>exact⟨"new",rfl,.inl ⟨x,rfl,by decide +kernel,rfl⟩⟩
 | get x a f=>exact⟨"get",rfl,.inl ⟨x,rfl,by decide +kernel,rfl⟩⟩
 | put a f b=>exact⟨"put",rfl,.inr ⟨rfl,by decide +kernel⟩⟩
 | out a=>exact⟨"out",rfl,.inr ⟨rfl,by decide +kernel⟩⟩
 | back a=>exact⟨"back",rfl,.inr ⟨rfl,by decide +kernel⟩⟩
 | ifs a=>exact⟨"if",rfl,.inr ⟨rfl,by decide +kernel⟩⟩
 | whl a=>exact⟨"while",rfl,.inr ⟨rfl,by decide +kernel⟩⟩
 | els=>exact⟨"else",rfl,.inr ⟨rfl,by decide +kernel⟩⟩
 | fin=>exact⟨"end",rfl,.inr ⟨rfl,by decide +kernel⟩⟩
theorem zsd:(giving.map V.str).all zj7=true:=by decide +kernel
def Atom (v:V):Prop:=(∃s,v=.str s/\Nm s)\/∃i,v=.int i
structure RowD where
 r:Addr
 e:Addr
 a:Addr
 gx:Option Str
 as:List V
structure RowAt (K:W.Frag) (H:Hp) (d:RowD):Prop where
 row:∃xs,SqT K H d.r xs/\RowS K H xs d.gx d.as
 ats:∀v∈d.as,Atom v
 len:d.as.length<=10
 nm:∀x,d.gx=some x->Nm x
theorem RowAt.mono {K:W.Frag} {H H':Hp} {d:RowD} (h:RowAt K H d) (e:Same H H'):RowAt K H' d :=
 ⟨let ⟨xs,h1,h2⟩:=h.row; ⟨xs,e.tup h1,h2.mono e⟩,h.ats,h.len,h.nm⟩
structure FunAt (K:W.Frag) (H:Hp) (f:Addr) (ps:List Str) (ds:List RowD):Prop where
 fn:∃n b p r,SqT K H f [n,b,.ref p,.ref r]/\SqT K H p (ps.map V.str)/\SqT K H r (ds.map λd=>V.ref d.r)
 rows:∀d∈ds,RowAt K H d
 pn:∀s∈ps,Nm s
 pl:ps.length<=100
 dl:ds.length<=100
theorem FunAt.mono {K:W.Frag} {H H':Hp} {f:Addr} {ps:List Str} {ds:List RowD} (h:FunAt K H f ps ds) (e:Same H H'):FunAt K H' f ps ds :=
 ⟨let ⟨n,b,p,r,h1,h2,h3⟩:=h.fn; ⟨n,b,p,r,e.tup h1,e.tup h2,e.tup h3⟩,λd hd=>(h.rows d hd).mono e,h.pn,h.pl,h.dl⟩
def rowStrs (d:RowD):List Str:=d.gx.toList++zfd d.as
def allOf (ps:List Str) (ds:List RowD):List Str:=ps++ds.flatMap rowStrs
theorem zj0 (as:List V):(zfd as).length<=as.length:=List.length_filterMap_le _ _
end K12
namespace K12
open PySem L2
section
variable {P:Program} {w:World} {K:W.Frag} {mg:Str->Option Value} {base:Heap}
def Gives (H:Hp) (Q:VK) (vs:List V):Prop:=∀l H',Same H H'->H l=none->H' l=some (.lst vs)->Q (.ref l) H'
def sp_gives (K:W.Frag):Sp:=λvs H Q _=>∃(r:Addr) (xs:List V) (g:Option Str) (as:List V),vs=[.ref r]/\SqT K H r xs/\RowS K H xs g as/\Q (xv g) H
def sp_atoms_of (K:W.Frag):Sp:=λvs H Q _=>∃(r:Addr) (xs:List V) (g:Option Str) (as:List V),vs=[.ref r]/\SqT K H r xs/\RowS K H xs g as/\as.length<=10/\Gives H Q as
def sp_each_once (K:W.Frag):Sp:=λvs H Q _=>∃(p:Addr) (ss:List Str),vs=[.ref p]/\SqL K H p (ss.map V.str)/\ss.length<=5000/\Gives H Q ((onceL ss).map V.str)
def sp_reads (K:W.Frag):Sp:=λvs H Q _=>∃(r:Addr) (xs:List V) (g:Option Str) (as:List V),vs=[.ref r]/\SqT K H r xs/\RowS K H xs g as/\as.length<=10/\(∀v∈as,Atom v)/\Gives H Q ((onceL (zfd as)).map V.str)
def sp_names_of (K:W.Frag):Sp:=λvs H Q _=>∃(f:Addr) (ps:List Str) (ds:List RowD),vs=[.ref f]/\FunAt K H f ps ds/\Gives H Q ((onceL (allOf ps ds)).map V.str)
theorem zb0 {n:Nat} (h:n<1000000):n<=sizeLine:=by
 have:(1000000:Nat)<sizeLine:=by decide
 omega
theorem zed {n:Nat} (h:n<1000000):n<sizeLine:=by
 have:(1000000:Nat)<sizeLine:=by decide
 omega
theorem zs6 {fs P G B:List Str} (h:onceL fs=onceL P):onceL (fs++G++onceL B)=onceL (P++(G++B)):=by have e:=zvs (fs++G) B [];rw[qbf,qbf] at e;rw[e,qbd];unfold onceL at h ⊢;rw[qbx,h,<- qbx]
def lets:Str:="abcdefghijklmnopqrstuvwxyz"
theorem lets_ok:PyData.strOk lets=true:=by decide +kernel
end
end K12
namespace K13
open PySem L2
def isO (s:Str):Bool:=decide (s="if") || decide (s="while")
def isE (s:Str):Bool:=decide (s="else") || decide (s="end")
def push (st:List Nat) (i:Nat) (s:Str):List Nat:=if isO s=true then i :: st else if s="end" then st.tail else st
def kd (ks:List Str) (i:Nat):Str:=ks.getD i ""
def stk (ks:List Str):Nat->List Nat
 | 0=>[]
 | i+1=>push (stk ks i) i (kd ks i)
theorem zcx (ks:List Str) (i:Nat):stk ks (i+1)=push (stk ks i) i (kd ks i):=rfl
theorem zkx (ks:List Str):∀i,∀x∈stk ks i,x<i/\isO (kd ks x)=true
 | 0,x,h=>by cases h
 | i+1,x,h=>by
   rw[zcx] at h;unfold push at h;split at h
   . rcases qay.mp h with e|e
     . subst e;exact⟨qcc _,by assumption⟩
     . have:=zkx ks i x e;exact⟨by omega,this.2⟩
   . split at h
     . have:=zkx ks i x (List.mem_of_mem_tail h);exact⟨by omega,this.2⟩
     . have:=zkx ks i x h;exact⟨by omega,this.2⟩
variable {s:Str}
theorem zsg (h:isO s=true):¬ s="end":=by intro e;subst e;revert h;decide +kernel
theorem zku (h:isO s=true):¬ s="else":=by intro e;subst e;revert h;decide +kernel
theorem zp1:isO ("end":Str)=false:=by decide +kernel
structure Wf (ks:List Str):Prop where
 open_:∀i,i<ks.length->isE (kd ks i)=true->stk ks i≠[]
 els:∀i b r,i<ks.length->kd ks i="else"->stk ks i=b :: r->kd ks b="if"
 shut:stk ks ks.length=[]
 last:∀i,i+1=ks.length->kd ks i="back"
 pos:0<ks.length
def At (ks:List Str) (b j d:Nat):Prop:=∃pre,stk ks j=pre++b :: stk ks b/\pre.length+1=d
variable {ks:List Str} {b:Nat}
theorem zt0 (h:isO (kd ks b)=true):At ks b (b+1) 1:=⟨[],by rw[zcx]; unfold push; rw[if_pos h]; rfl,rfl⟩
variable {j d:Nat}
theorem z2r (h:At ks b j d) (ho:isO (kd ks j)=true):At ks b (j+1) (d+1):=by obtain⟨pre,e,l⟩:=h;exact⟨j :: pre,by rw[zcx]; unfold push; rw[if_pos ho,e]; rfl,by simp [l]⟩
theorem z56 (h:At ks b j (d+1)) (hd:0<d) (he:kd ks j="end"):At ks b (j+1) d:=by
 obtain⟨pre,e,l⟩:=h;cases pre with
 | nil=>simp at l; omega
 | cons p pre =>
   refine⟨pre,?_,by simpa using l⟩;rw[zcx];unfold push;rw[he,if_neg (by rw[zp1]; decide),if_pos rfl,e];rfl
theorem zzf (h:At ks b j d) (ho:¬ isO (kd ks j)=true) (he:¬ kd ks j="end"):At ks b (j+1) d:=by obtain⟨pre,e,l⟩:=h;exact⟨pre,by rw[zcx]; unfold push; rw[if_neg ho,if_neg he,e],l⟩
theorem z6b (h:At ks b j 1):stk ks j=b :: stk ks b:=by
 obtain⟨pre,e,l⟩:=h;cases pre with
 | nil=>exact e
 | cons p pre=>simp at l
theorem z5o (w:Wf ks) (h:At ks b j d) (hj:j<=ks.length):j<ks.length:=by
 rcases qbo j ks.length with q|q
 . exact q
 . have e:j=ks.length:=by omega
   subst e;obtain⟨pre,e,_⟩:=h;rw[w.shut] at e;simp at e
theorem z44 (h:At ks b j d):0<d:=by obtain⟨pre,_,l⟩:=h;omega
def zjb (ks:List Str) (b e:Nat):Prop:=b<e/\e<ks.length/\kd ks e="end"/\stk ks e=b :: stk ks b/\∀j,b<j->j<=e->∃d,At ks b j d
theorem zp6 {ks:List Str} (w:Wf ks) {b:Nat}:∀(m j d:Nat),m=ks.length - j->j<=ks.length->b<j->(∀i,b<i->i<=j->∃d,At ks b i d)->At ks b j d->∃e,j<=e/\zjb ks b e
 | 0,j,d,hm,hj,hb,hall,h=>absurd (z5o w h hj) (by omega)
 | m+1,j,d,hm,hj,hb,hall,h=>by
   have hlt:=z5o w h hj;have go:∀d',At ks b (j+1) d'->∃e,j<=e/\zjb ks b e:=λd' h'=>by
     obtain⟨e,he,q⟩:=zp6 w m (j+1) d' (by omega) (by omega) (by omega) (λi h1 h2=>by
       rcases qbo j i with z|z
       . have:i=j+1:=by omega
         subst this;exact⟨d',h'⟩
       . exact hall i h1 z) h'
     exact⟨e,by omega,q⟩
   by_cases ho:isO (kd ks j)=true
   . exact go _ (z2r h ho)
   by_cases he:kd ks j="end"
   . have hp:=z44 h;by_cases hd:d=1
     . subst hd;exact⟨j,qaj _,hb,hlt,he,z6b h,hall⟩
     . obtain⟨d',rfl⟩:∃d',d=d'+1:=⟨d - 1,by omega⟩
       exact go _ (z56 h (by omega) he)
   . exact go _ (zzf h ho he)
theorem zxi (w:Wf ks) (hb:b<ks.length) (ho:isO (kd ks b)=true):∃e,zjb ks b e:=by
 obtain⟨e,_,h⟩:=zp6 w (ks.length - (b+1)) (b+1) 1 rfl (by omega) (by omega) (λi h1 h2=>by
   have:i=b+1:=by omega
   subst this;exact⟨1,zt0 ho⟩) (zt0 ho)
 exact⟨e,h⟩
def Hit (ks:List Str) (b k:Nat):Prop:=isE (kd ks k)=true/\(stk ks k).head?=some b
theorem zxe {k:Nat}(h:Hit ks b k):b<k/\isO (kd ks b)=true:=zkx ks k b (List.mem_of_mem_head? h.2)
variable {e:Nat}
theorem zrs (h:zjb ks b e):Hit ks b e:=by
 refine⟨?_,?_⟩
 . rw[h.2.2.1]; decide +kernel
 . rw[h.2.2.2.1]; rfl
theorem gone {ks:List Str} {b e:Nat} (h:zjb ks b e):∀j,e<j->b ∉ stk ks j
 | 0,hj,_=>by omega
 | j+1,hj,hm=>by
   rcases qbo e j with q|q
   . have ih:=gone h j q;rw[zcx] at hm;unfold push at hm;split at hm
     . rcases qay.mp hm with z|z
       . have:=h.1;omega
       . exact ih z
     . split at hm
       . exact ih (List.mem_of_mem_tail hm)
       . exact ih hm
   . have e1:j=e:=by omega
     subst e1;rw[zcx] at hm;unfold push at hm;rw[h.2.2.1,if_neg (by rw[zp1]; decide),if_pos rfl,h.2.2.2.1] at hm;have:=(zkx ks b b hm).1;omega
theorem z1q {k:Nat}(h:zjb ks b e) (hk:Hit ks b k):k<=e:=by
 rcases qbo e k with q|q
 . exact absurd (List.mem_of_mem_head? hk.2) (gone h k q)
 . exact q
def one (ks:List Str) (i:Nat):List (Nat×Nat):=if isE (kd ks i)=true then(match stk ks i with | []=>[] | b :: _=>[(i,b)]) else []
def prs (ks:List Str):Nat->List (Nat×Nat)
 | 0=>[]
 | i+1=>prs ks i++one ks i
def zg6 (L:List (Nat×Nat)) (b:Nat):Option Nat:=L.foldl (λacc p=>if p.2=b then some p.1 else acc) none
def zcd (L:List (Nat×Nat)) (b:Nat):Option Nat:=L.foldl (λacc p=>if acc.isSome=true then acc else if p.2=b then some p.1 else none) none
theorem zfe (ks:List Str) (i:Nat):(∃b,one ks i=[(i,b)]/\Hit ks b i)\/(one ks i=[]/\∀b,¬ Hit ks b i):=by
 unfold one Hit;by_cases h:isE (kd ks i)=true
 . rw[if_pos h];cases q:stk ks i with
   | nil=>exact .inr ⟨rfl,λb z=>by simp at z⟩
   | cons b r=>exact .inl ⟨b,rfl,h,rfl⟩
 . rw[if_neg h];exact .inr ⟨rfl,λb z=>h z.1⟩
theorem zlz (L:List (Nat×Nat)) (p:Nat×Nat) (b:Nat):zg6 (L++[p]) b=if p.2=b then some p.1 else zg6 L b:=by unfold zg6; rw[qbx]; rfl
theorem zkt (L:List (Nat×Nat)) (p:Nat×Nat) (b:Nat):zcd (L++[p]) b=if(zcd L b).isSome=true then zcd L b else if p.2=b then some p.1 else none:=by unfold zcd; rw[qbx]; rfl
theorem zot {b' k:Nat}(h:Hit ks b k) (h':Hit ks b' k):b=b':=by have:=h.2.symm.trans h'.2;simpa using this
theorem zqd (ks:List Str) (b:Nat):∀i,(∀m,zg6 (prs ks i) b=some m->m<i/\Hit ks b m/\∀k,m<k->k<i->¬ Hit ks b k)/\(zg6 (prs ks i) b=none->∀k,k<i->¬ Hit ks b k)
 | 0=>⟨λm h=>(by cases h),λ_ k hk=>(by omega)⟩
 | i+1=>by
   obtain⟨ih1,ih2⟩:=zqd ks b i;show(∀m,zg6 (prs ks i++one ks i) b=some m->_)/\(zg6 (prs ks i++one ks i) b=none->_)
   rcases zfe ks i with⟨b',e,hh⟩|⟨e,hn⟩
   . rw[e,zlz];by_cases hb:b'=b
     . rw[if_pos hb];subst hb;exact⟨λm h=>by cases h; exact⟨qcc _,hh,λk h1 h2=>by omega⟩,λh=>by cases h⟩
     . rw[if_neg hb];refine⟨λm h=>?_,λh k hk=>?_⟩
       . obtain⟨h1,h2,h3⟩:=ih1 m h;refine⟨by omega,h2,λk q1 q2 hk=>?_⟩;rcases qbo k i with z|z
         . exact h3 k q1 z hk
         . have:k=i:=by omega
           subst this;exact hb (zot hh hk)
       . intro hk';rcases qbo k i with z|z
         . exact ih2 h k z hk'
         . have:k=i:=by omega
           subst this;exact hb (zot hh hk')
   . rw[e,qbf];refine⟨λm h=>?_,λh k hk hk'=>?_⟩
     . obtain⟨h1,h2,h3⟩:=ih1 m h;refine⟨by omega,h2,λk q1 q2 hk=>?_⟩;rcases qbo k i with z|z
       . exact h3 k q1 z hk
       . have:k=i:=by omega
         subst this;exact hn b hk
     . rcases qbo k i with z|z
       . exact ih2 h k z hk'
       . have:k=i:=by omega
         subst this;exact hn b hk'
theorem zh4 (ks:List Str) (b:Nat):∀i,(∀m,zcd (prs ks i) b=some m->m<i/\Hit ks b m/\∀k,k<m->¬ Hit ks b k)/\(zcd (prs ks i) b=none->∀k,k<i->¬ Hit ks b k)
 | 0=>⟨λm h=>(by cases h),λ_ k hk=>(by omega)⟩
 | i+1=>by
   obtain⟨ih1,ih2⟩:=zh4 ks b i;show(∀m,zcd (prs ks i++one ks i) b=some m->_)/\(zcd (prs ks i++one ks i) b=none->_)
   rcases zfe ks i with⟨b',e,hh⟩|⟨e,hn⟩
   . rw[e,zkt];cases hf:zcd (prs ks i) b with
     | some m0 =>
       rw[if_pos (show(some m0).isSome=true from rfl)];obtain⟨h1,h2,h3⟩:=ih1 m0 hf;exact⟨λm h=>by cases h; exact⟨by omega,h2,h3⟩,λh=>by cases h⟩
     | none =>
       rw[if_neg (show ¬ (none:Option Nat).isSome=true by decide)];have hno:=ih2 hf;by_cases hb:b'=b
       . rw[if_pos hb];subst hb;exact⟨λm h=>by cases h; exact⟨qcc _,hh,λk hk=>hno k hk⟩,λh=>by cases h⟩
       . rw[if_neg hb];refine⟨λm h=>(by cases h),λ_ k hk hk'=>?_⟩;rcases qbo k i with z|z
         . exact hno k z hk'
         . have:k=i:=by omega
           subst this;exact hb (zot hh hk')
   . rw[e,qbf];refine⟨λm h=>?_,λh k hk hk'=>?_⟩
     . obtain⟨h1,h2,h3⟩:=ih1 m h;exact⟨by omega,h2,h3⟩
     . rcases qbo k i with z|z
       . exact ih2 h k z hk'
       . have:k=i:=by omega
         subst this;exact hn b hk'
theorem zze (h:zjb ks b e):zg6 (prs ks ks.length) b=some e:=by
 obtain⟨h1,h2⟩:=zqd ks b ks.length;cases q:zg6 (prs ks ks.length) b with
 | none=>exact absurd (zrs h) (h2 q e h.2.1)
 | some m =>
   obtain⟨q1,q2,q3⟩:=h1 m q;have:=z1q h q2;rcases qbo m e with z|z
   . exact absurd (zrs h) (q3 e z h.2.1)
   . have:m=e:=by omega
     rw[this]
def zrq (ks:List Str) (b f:Nat):Prop:=f<ks.length/\Hit ks b f/\∀k,k<f->¬ Hit ks b k
theorem zuz {f f':Nat}(h:zrq ks b f) (h':zrq ks b f'):f=f':=by
 rcases Nat.lt_trichotomy f f' with z|z|z
 . exact absurd h.2.1 (h'.2.2 f z)
 . exact z
 . exact absurd h'.2.1 (h.2.2 f' z)
theorem zzy {f:Nat}(h:zrq ks b f):zcd (prs ks ks.length) b=some f:=by
 obtain⟨h1,h2⟩:=zh4 ks b ks.length;cases q:zcd (prs ks ks.length) b with
 | none=>exact absurd h.2.1 (h2 q f h.1)
 | some m =>
   obtain⟨q1,q2,q3⟩:=h1 m q;rw[zuz (⟨q1,q2,q3⟩:zrq ks b m) h]
theorem zue (h:¬ isO (kd ks b)=true):zcd (prs ks ks.length) b=none:=by
 obtain⟨h1,h2⟩:=zh4 ks b ks.length;cases q:zcd (prs ks ks.length) b with
 | none=>rfl
 | some m=>exact absurd (zxe (h1 m q).2.1).2 h
inductive Beh (ks:List Str):Nat->Nat->Prop
 | els {k b e r:Nat}:kd ks (k+1)="else"->(stk ks (k+1)).head?=some b->zjb ks b e->Beh ks e r->Beh ks k r
 | whl {k b:Nat}:kd ks (k+1)="end"->(stk ks (k+1)).head?=some b->kd ks b="while"->Beh ks k b
 | fin {k b r:Nat}:kd ks (k+1)="end"->(stk ks (k+1)).head?=some b->¬ kd ks b="while"->Beh ks (k+1) r->Beh ks k r
 | oth {k:Nat}:¬ kd ks (k+1)="else"->¬ kd ks (k+1)="end"->Beh ks k (k+1)
theorem zr6:¬ (("else":Str)="end"):=by decide +kernel
theorem zw1:¬ (("back":Str)="else")/\¬ (("back":Str)="end"):=by decide +kernel
theorem zpf (h:isO s=true):¬ isE s=true:=by unfold isE;rw[qbn (zku h),qbn (zsg h)];decide
theorem z6g (h1:¬ s="else") (h2:¬ s="end"):¬ isE s=true:=by unfold isE;rw[qbn h1,qbn h2];decide
inductive Due (ks:List Str):Nat->Option (List Nat)->Prop
 | no {k:Nat}:isE (kd ks k)=true->Due ks k none
 | back {k:Nat}:kd ks k="back"->Due ks k (some [])
 | two {k f r1 r2:Nat}:isO (kd ks k)=true->zrq ks k f->Beh ks k r1->Beh ks f r2->Due ks k (some [r1,r2])
 | one {k r:Nat}:¬ isE (kd ks k)=true->¬ kd ks k="back"->¬ isO (kd ks k)=true->Beh ks k r->Due ks k (some [r])
theorem z0w:¬ isE ("back":Str)=true:=by decide +kernel
theorem z5e:¬ isO ("back":Str)=true:=by decide +kernel
theorem zz4 (h:zjb ks b e):∃f,zrq ks b f:=by
 obtain⟨h1,h2⟩:=zh4 ks b ks.length;cases q:zcd (prs ks ks.length) b with
 | none=>exact absurd (zrs h) (h2 q e h.2.1)
 | some m =>
   obtain⟨q1,q2,q3⟩:=h1 m q;exact⟨m,q1,q2,q3⟩
theorem zss (w:Wf ks) {k:Nat} (hk:k<ks.length) (h:¬ kd ks k="back"):k+1<ks.length:=by
 rcases qbo (k+1) ks.length with z|z
 . exact z
 . exact absurd (w.last k (by omega)) h
theorem zu2 (w:Wf ks) {f:Nat}(h:zrq ks b f):f+1<ks.length:=by refine zss w h.1 λz=>?_;have:=h.2.1.1;rw[z] at this;exact z0w this
variable {i:Nat}
theorem zkk {ys:List Str}(h:i<ks.length):kd (ks++ys) i=kd ks i:=by unfold kd;rw[List.getD_eq_getElem?_getD,List.getD_eq_getElem?_getD,qb8 h]
theorem zz9 (ks ys:List Str) (i:Nat):kd (ks++ys) (ks.length+i)=kd ys i:=by unfold kd;rw[List.getD_eq_getElem?_getD,List.getD_eq_getElem?_getD,qbw (qer _ _),qe2]
theorem zmi (ks:List Str) (x:Str):kd (ks++[x]) ks.length=x:=by have:=zz9 ks [x] 0;rw[Nat.add_zero] at this;rw[this];rfl
theorem zlk (ks ys:List Str):∀i,i<=ks.length->stk (ks++ys) i=stk ks i
 | 0,_=>rfl
 | i+1,h=>by rw[zcx,zcx,zlk ks ys i (by omega),zkk (by omega)]
structure Good (ks os:List Str):Prop where
 open_:∀i,i<ks.length->isE (kd ks i)=true->stk ks i≠[]
 els:∀i b r,i<ks.length->kd ks i="else"->stk ks i=b :: r->kd ks b="if"
 len:(stk ks ks.length).length=os.length
 mt:∀(i b:Nat),(stk ks ks.length)[i]?=some b->os[i]?=some "if"->kd ks b="if"
theorem good_nil:Good [] []:=⟨λi h=>absurd h (qbq i),λi _ _ h=>absurd h (qbq i),rfl,λi b h=>by cases h⟩
theorem zty (ks:List Str) (x:Str):stk (ks++[x]) (ks++[x]).length=push (stk ks ks.length) ks.length x:=by rw[List.length_append];show stk (ks++[x]) (ks.length+1)=_;rw[zcx,zlk _ _ _ (qaj _),zmi]
variable {os:List Str}
theorem Good.snoc {os':List Str}{x:Str} (g:Good ks os) (ho:isE x=true->os≠[]) (he:x="else"->∃r,os=("if":Str) :: r)
   (hl:(push (stk ks ks.length) ks.length x).length=os'.length) (hm:∀(i b:Nat),(push (stk ks ks.length) ks.length x)[i]?=some b->os'[i]?=some "if"->kd (ks++[x]) b="if"):Good (ks++[x]) os':=by
 have hn:(ks++[x]).length=ks.length+1:=by rw[List.length_append]; rfl
 refine⟨λi h hE=>?_,λi b r h hE hs=>?_,by rw[zty]; exact hl,by rw[zty]; exact hm⟩
 . rw[zlk _ _ _ (by omega)];rcases qbo i ks.length with z|z
   . rw[zkk z] at hE;exact g.open_ i z hE
   . have:i=ks.length:=by omega
     subst this;rw[zmi] at hE;intro e;have:=g.len;rw[e] at this;exact ho hE (qcf.mp this.symm)
 . rw[zlk _ _ _ (by omega)] at hs;rcases qbo i ks.length with z|z
   . rw[zkk z] at hE;have hb:=(zkx ks i b (by rw[hs]; exact qbh)).1;rw[zkk (by omega)];exact g.els i b r z hE hs
   . have:i=ks.length:=by omega
     subst this;rw[zmi] at hE;obtain⟨r',e⟩:=he hE;have hb:=(zkx ks ks.length b (by rw[hs]; exact qbh)).1;rw[zkk hb];exact g.mt 0 b (by rw[hs]; rfl) (by rw[e]; rfl)
theorem Good.keep (g:Good ks os) (x:Str) (h:(stk ks ks.length)[i]?=some b) (h':os[i]?=some "if"):kd (ks++[x]) b="if":=by have hb:=(zkx ks ks.length b (List.mem_of_getElem? h)).1;rw[zkk hb];exact g.mt i b h h'
theorem Good.opn {x:Str} (g:Good ks os) (ho:isO x=true):Good (ks++[x]) (x :: os):=by
 have e:push (stk ks ks.length) ks.length x=ks.length :: stk ks ks.length:=by unfold push; rw[if_pos ho]
 refine g.snoc (λz=>absurd z (zpf ho)) (λz=>absurd z (zku ho)) (by rw[e,List.length_cons,List.length_cons,g.len]) ?_;rw[e];intro i b h h';cases i with
 | zero =>
   have h1:ks.length=b:=by simpa using h
   have h2:x="if":=by simpa using h'
   rw[<- h1,zmi];exact h2
 | succ i=>exact g.keep x (by simpa using h) (by simpa using h')
theorem Good.plain {x:Str} (g:Good ks os) (h1:¬ isO x=true) (h2:¬ isE x=true) (h3:¬ x="end"):Good (ks++[x]) os:=by
 have e:push (stk ks ks.length) ks.length x=stk ks ks.length:=by unfold push; rw[if_neg h1,if_neg h3]
 refine g.snoc (λz=>absurd z h2) (λz=>absurd (by rw[z]; decide +kernel) h2) (by rw[e,g.len]) ?_;rw[e];intro i b h h';exact g.keep x h h'
theorem Good.els' {r:List Str}(g:Good ks (("if":Str) :: r)):Good (ks++[("else":Str)]) (("else":Str) :: r):=by
 have e:push (stk ks ks.length) ks.length "else"=stk ks ks.length:=by unfold push; rw[if_neg (by decide +kernel),if_neg zr6]
 refine g.snoc (λ_=>qet _ _) (λ_=>⟨r,rfl⟩) (by rw[e,g.len]; rfl) ?_;rw[e];intro i b h h';cases i with
 | zero =>
   have:("else":Str)="if":=by simpa using h'
   exact absurd this (by decide +kernel)
 | succ i=>exact g.keep _ h (by simpa using h')
theorem Good.fin {r:List Str}{o:Str} (g:Good ks (o :: r)):Good (ks++[("end":Str)]) r:=by
 have e:push (stk ks ks.length) ks.length "end"=(stk ks ks.length).tail:=by unfold push; rw[if_neg (by decide +kernel),if_pos rfl]
 have l:=g.len;rw[List.length_cons] at l;refine g.snoc (λ_=>qet _ _) (λz=>absurd z.symm zr6) (by rw[e,List.length_tail]; omega) ?_;rw[e];intro i b h h';rw[List.getElem?_tail] at h;exact g.keep _ h (by simpa using h')
theorem Good.back (g:Good ks []):Wf (ks++[("back":Str)]):=by
 have hs:stk ks ks.length=[]:=qcf.mp g.len;have g':=g.plain z5e z0w (by decide +kernel);refine⟨g'.open_,g'.els,qcf.mp g'.len,λi h=>?_,by rw[List.length_append]; exact Nat.succ_pos _⟩;have:i=ks.length:=by rw[List.length_append] at h; simpa using h
 rw[this,zmi]
structure RowsAt (K:W.Frag) (H:Hp) (a:Addr) (ks:List Str):Prop where
 ex:∃rs:List Addr,SqT K H a (rs.map V.ref)/\rs.length=ks.length/\∀i r,rs[i]?=some r->∃rest,SqT K H r (V.str (kd ks i) :: rest)
variable {H:Hp}
theorem RowsAt.mono {K:W.Frag} {H':Hp}{a:Addr} (h:RowsAt K H a ks) (e:Same H H'):RowsAt K H' a ks :=
 ⟨let ⟨rs,h1,h2,h3⟩:=h.ex; ⟨rs,e.tup h1,h2,λi r q=>let ⟨rest,z⟩:=h3 i r q; ⟨rest,e.tup z⟩⟩⟩
theorem at0 {x:V} {r:List V}:atI (x :: r) 0=some x:=by unfold atI ixN;rw[if_pos (by decide),if_pos (by simp)];rfl
theorem ixk {K:W.Frag} {Q:VK} {a:Addr} {i:Int} (h:RowsAt K H a ks) (h0:0<=i) (h1:i<ks.length) (q:Q (.str (kd ks i.toNat)) H):z66 K (.ref a) (.int i) H λx H1=>z66 K x (.int 0) H1 Q:=by
 obtain⟨rs,e1,e2,e3⟩:=h.ex;have hi:i.toNat<rs.length:=by omega
 obtain⟨rest,hr⟩:=e3 i.toNat rs[i.toNat] (by simp [hi]);refine⟨a,_,i,.ref rs[i.toNat],rfl,rfl,e1,?_,rs[i.toNat],_,0,_,rfl,rfl,hr,at0,q⟩;have e:atI (rs.map V.ref) i=some (V.ref rs[i.toNat]):=by unfold atI ixN;rw[if_pos h0,if_pos (by rw[List.length_map]; omega),qc4,List.getElem?_map];simp [hi]
 exact e
def zyz (L:List (Nat×Nat)):List (Key×V):=L.map λp=>(Sum.inl (p.1:Int),V.int (p.2:Int))
def bg (ks:List Str) (i:Nat):List (Key×V):=zyz (prs ks i)
theorem z04 (ks:List Str):∀i,∀p∈prs ks i,p.1<i
 | 0,p,h=>by cases h
 | i+1,p,h=>by
   rcases qbk.mp h with h|h
   . have:=z04 ks i p h;omega
   . rcases zfe ks i with⟨b,e,_⟩|⟨e,_⟩
     . rw[e] at h;have:p=(i,b):=by simpa using h
       rw[this];exact qcc _
     . rw[e] at h;cases h
theorem z5x (ks:List Str) (i:Nat):zg4 (bg ks i) (Sum.inl (i:Int):Key)=none:=by
 have h:=zh5 (Sum.inl (i:Int):Key) (bg ks i);cases q:zg4 (bg ks i) (Sum.inl (i:Int):Key) with
 | none=>rfl
 | some v =>
   rw[q] at h;obtain⟨kv,hm,e⟩:=List.any_eq_true.mp h;obtain⟨p,hp,rfl⟩:=qa8.mp hm;have e:=qdr e;have:(p.1:Int)=(i:Int):=Sum.inl.inj e;have:=z04 ks i p hp;omega
theorem ztg (h:Hit ks b i):zei (bg ks i) (Sum.inl (i:Int):Key) (V.int (b:Int))=bg ks (i+1):=by
 rw[ztj _ (z5x ks i)];rcases zfe ks i with⟨b',e,h'⟩|⟨e,h'⟩
 . show zyz (prs ks i)++_=zyz (prs ks i++one ks i);rw[e,zot h h'];unfold zyz;rw[List.map_append];rfl
 . exact absurd h (h' b)
theorem zx0 (h:¬ isE (kd ks i)=true):bg ks (i+1)=bg ks i:=by
 rcases zfe ks i with⟨b',e,h'⟩|⟨e,h'⟩
 . exact absurd h'.1 h
 . show zyz (prs ks i++one ks i)=_;rw[e,qbf];rfl
theorem zsb (ks:List Str):∀i,(prs ks i).length<=i
 | 0=>qaj _
 | i+1=>by have:=zsb ks i;show(prs ks i++one ks i).length<=i+1;rw[List.length_append];rcases zfe ks i with⟨b',e,h'⟩|⟨e,h'⟩ <;> rw[e] <;> simp <;> omega
theorem zwm (ks:List Str) (i:Nat):(bg ks i).length<=i:=by unfold bg zyz; rw[List.length_map]; exact zsb ks i
def zve (ks:List Str) (i:Nat):List V:=(stk ks i).reverse.map λ(n:Nat)=>V.int (n:Int)
theorem z0b (ks:List Str):∀i,(zve ks i).length<=i:=by
 intro i;unfold zve;rw[List.length_map,List.length_reverse]
 induction i with
 | zero=>exact qaj _
 | succ i ih =>
   rw[zcx];unfold push;split
   . simp; omega
   . split
     . simp; omega
     . omega
theorem inO (s:Str):inV (.str s) [V.str "if",V.str "while"]=isO s:=by show((("if":Str)==s) || ((("while":Str)==s) || false))=isO s;unfold isO;rw[qej];congr 1 <;> (rw[qbt,qdq,decide_eq_true_eq]; exact eq_comm)
theorem inE (s:Str):inV (.str s) [V.str "else",V.str "end"]=isE s:=by show((("else":Str)==s) || ((("end":Str)==s) || false))=isE s;unfold isE;rw[qej];congr 1 <;> (rw[qbt,qdq,decide_eq_true_eq]; exact eq_comm)
theorem le0:0<=sizeLine:=by decide
theorem le1:1<=sizeLine:=by decide
theorem le2:2<=sizeLine:=by decide
theorem zed {n:Nat} (h:n<1000000):n<sizeLine:=by
 have:(1000000:Nat)<sizeLine:=by decide
 omega
theorem zsy {r:List Nat} (h:stk ks i=b :: r):atI (zve ks i) (-1)=some (.int (b:Int))/\(zve ks i)[(zve ks i).length - 1]?=some (.int (b:Int))/\(zve ks i).dropLast=r.reverse.map λ(n:Nat)=>V.int (n:Int):=by
 have e:zve ks i=(r.reverse.map λ(n:Nat)=>V.int (n:Int))++[V.int (b:Int)]:=by unfold zve;rw[h,List.reverse_cons,List.map_append];rfl
 rw[e];refine⟨?_,by simp,by simp⟩;unfold atI ixN;rw[if_neg (by decide),if_pos (by simp; omega),qc4];have:((-1:Int)+(((r.reverse.map λ(n:Nat)=>V.int (n:Int))++[V.int (b:Int)]).length:Int)).toNat=(r.reverse.map λ(n:Nat)=>V.int (n:Int)).length:=by rw[List.length_append];simp;omega
 rw[this];simp
theorem zvi {K:W.Frag} {a q:Addr} {xs:List V} {kvs:List (Key×V)} {o:HO} (h:SqT K H a xs) (hq:H q=some (.dK kvs)):SqT K (upd H q o) a xs:=by
 rcases h with(h|⟨o,h⟩)|h
 . exact .inl (.inl (by rw[zal (zrj h hq (by intro z; cases z))]; exact h))
 . exact .inl (.inr ⟨o,by rw[zal (zrj h hq (by intro z; cases z))]; exact h⟩)
 . exact .inr h
theorem RowsAt.frz {K:W.Frag} {H:Hp} {a q:Addr} {ks:List Str} {kvs:List (Key×V)} {o:HO} (h:RowsAt K H a ks) (hq:H q=some (.dK kvs)):RowsAt K (upd H q o) a ks :=
 ⟨let ⟨rs,h1,h2,h3⟩:=h.ex; ⟨rs,zvi h1 hq,h2,λi r z=>let ⟨rest,y⟩:=h3 i r z; ⟨rest,zvi y hq⟩⟩⟩
def BehL (H:Hp) (l:Addr) (ks:List Str):Prop:=∃bs,H l=some (.lst bs)/\bs.length=ks.length/\∀k,k+1<ks.length->∃r:Nat,Beh ks k r/\bs[k]?=some (.int (r:Int))
def z5u (n:Nat):List V:=(List.replicate n [V.non]).flatten
theorem zx8 (n:Nat):(z5u n).length=n:=by unfold z5u; rw[zoa]; simp
theorem z59 {k:Nat}(n:Nat) (hk:k<n) (h:Hit ks b k):zg4 (bg ks n) (Sum.inl (k:Int):Key)=some (.int (b:Int)):=by
 induction n with
 | zero=>omega
 | succ n ih =>
   rcases qbo k n with z|z
   . rcases zfe ks n with⟨b',e,h'⟩|⟨e,h'⟩
     . rw[<- ztg h',ziy,if_neg (λz'=>by have:(k:Int)=(n:Int):=Sum.inl.inj z'; omega)];exact ih z
     . have:bg ks (n+1)=bg ks n:=by show zyz (prs ks n++one ks n)=_;rw[e,qbf];rfl
       rw[this];exact ih z
   . have:k=n:=by omega
     subst this;rw[<- ztg h,ziy,if_pos rfl]
theorem z07 {n:Nat}{kv:Key×V} (h:(bg ks n)[i]?=some kv):∃p:Nat×Nat,(prs ks n)[i]?=some p/\kv=(Sum.inl (p.1:Int),V.int (p.2:Int)):=by
 unfold bg zyz at h;rw[List.getElem?_map] at h;cases q:(prs ks n)[i]? with
 | none=>rw[q] at h; cases h
 | some p=>rw[q] at h; exact⟨p,rfl,by simpa using h.symm⟩
def z65 (l:List Nat):List V:=l.map λ(n:Nat)=>V.int (n:Int)
def zy0 (H:Hp) (v:V):Option (List Nat)->Prop
 | none=>v=.non
 | some l=>∃p,v=.ref p/\H p=some (.tup (z65 l))
theorem zy0.mono {H':Hp}{v:V} {o:Option (List Nat)} (h:zy0 H v o) (e:Same H H'):zy0 H' v o:=by
 cases o with
 | none=>exact h
 | some l=>obtain⟨p,h1,h2⟩:=h; exact⟨p,h1,e _ _ h2⟩
theorem zy0.lst {H:Hp} {q:Addr} {l l':List V} {v:V} {o:Option (List Nat)} (h:zy0 H v o) (hq:H q=some (.lst l)):zy0 (upd H q (.lst l')) v o:=by
 cases o with
 | none=>exact h
 | some l=>obtain⟨p,h1,h2⟩:=h; exact⟨p,h1,by rw[zal (zrj h2 hq (by intro z; cases z))]; exact h2⟩
def FoundN (H:Hp) (l:Addr) (ks:List Str) (i:Nat):Prop:=∃vs:List V,H l=some (.lst vs)/\vs.length=i/\∀k v,vs[k]?=some v->∃o,Due ks k o/\zy0 H v o
theorem FoundN.mono {H H':Hp} {l:Addr} {ks:List Str} {i:Nat} (h:FoundN H l ks i) (e:Same H H'):FoundN H' l ks i :=
 let ⟨vs,h1,h2,h3⟩:=h; ⟨vs,e _ _ h1,h2,λk v q=>let ⟨o,d,z⟩:=h3 k v q; ⟨o,d,z.mono e⟩⟩
theorem FoundN.push {l:Addr} {vs:List V} {v:V} {o:Option (List Nat)} (h1:H l=some (.lst vs)) (h2:vs.length=i) (h3:∀k v,vs[k]?=some v->∃o,Due ks k o/\zy0 H v o) (hd:Due ks i o) (hv:zy0 H v o):FoundN (upd H l (.lst (vs++[v]))) l ks (i+1):=by
 refine⟨_,zab,by rw[List.length_append,h2]; rfl,λk v' q=>?_⟩;rcases qbo k vs.length with z|z
 . rw[qb8 z] at q;obtain⟨o',d,y⟩:=h3 k v' q;exact⟨o',d,y.lst h1⟩
 . rw[qbw z] at q;have hk:k - vs.length=0:=by
     rcases Nat.eq_zero_or_pos (k - vs.length) with y|y
     . exact y
     . rw[qbi (by simp; omega)] at q;cases q
   rw[hk] at q;have hv':v=v':=by simpa using q
   subst hv';have:k=i:=by omega
   subst this;exact⟨o,hd,hv.lst h1⟩
section
variable {P:Program} {w:World} {K:W.Frag} {mg:Str->Option Value} {base:Heap}
def sp_begins_of (K:W.Frag):Sp:=λvs H Q _=>∃(a:Addr) (ks:List Str),vs=[.ref a]/\RowsAt K H a ks/\Wf ks/\ks.length<=1000/\∀d H',Same H H'->H d=none->H' d=some (.dK (bg ks ks.length))->Q (.ref d) H'
def sp_firsts_behind (K:W.Frag):Sp:=λvs H Q _=>∃(a d:Addr) (ks:List Str),vs=[.ref a,.ref d]/\RowsAt K H a ks/\Wf ks/\ks.length<=1000/\H d=some (.dK (bg ks ks.length))/\∀l o H',Same (upd H d (.frz o (.dK (bg ks ks.length)))) H'->H l=none->BehL H' l ks->Q (.ref l) H'
def sp_ways (K:W.Frag):Sp:=λvs H Q _=>∃(a:Addr) (ks:List Str),vs=[.ref a]/\RowsAt K H a ks/\Wf ks/\ks.length<=1000/\∀l H',Same H H'->H l=none->FoundN H' l ks ks.length->Q (.ref l) H'
theorem zb0 {n:Nat} (h:n<1000000):n<=sizeLine:=by
 have:(1000000:Nat)<sizeLine:=by decide
 omega
end
end K13
namespace Fl
open PySem L2 Gx
structure Rw where
 r:Addr
 k:Str
 c:Str
structure Fd where
 name:Str
 fa:Addr
 ra:Addr
 rs:List Rw
def z3n (K:W.Frag) (H:Hp) (w:Rw):Prop:=∃rest,SqT K H w.r (V.str w.k :: rest)/\(w.k="call"->∃x y,rest=[x,.str w.c,y])
variable {H:Hp}
theorem z3n.mono {K:W.Frag} {H':Hp}{w:Rw} (e:Same H H') (h:z3n K H w):z3n K H' w:=let ⟨rest,h1,h2⟩:=h; ⟨rest,e.tup h1,h2⟩
structure FnAt (K:W.Frag) (H:Hp) (f:Fd):Prop where
 fn:∃fo pa,SqT K H f.fa [.str f.name,fo,.ref pa,.ref f.ra]
 rw_:SqT K H f.ra (f.rs.map λw=>V.ref w.r)
 rk:∀w∈f.rs,z3n K H w
 fu:∃ps ds,K12.FunAt K H f.fa ps ds
 wf:K13.Wf (f.rs.map (·.k))
 len:f.rs.length<=100
theorem FnAt.mono {K:W.Frag} {H H':Hp} {f:Fd} (e:Same H H') (h:FnAt K H f):FnAt K H' f :=
 ⟨let ⟨a,b,z⟩:=h.fn; ⟨a,b,e.tup z⟩,e.tup h.rw_,λw hw=>(h.rk w hw).mono e,let ⟨a,b,z⟩:=h.fu; ⟨a,b,z.mono e⟩,h.wf,h.len⟩
theorem FnAt.rows {K:W.Frag} {f:Fd} (h:FnAt K H f):K13.RowsAt K H f.ra (f.rs.map (·.k)):=by
 refine⟨f.rs.map (·.r),by rw[qbg]; exact h.rw_,by rw[List.length_map,List.length_map],λi r hr=>?_⟩;rw[List.getElem?_map] at hr;cases e:f.rs[i]? with
 | none=>rw[e] at hr; cases hr
 | some w =>
   rw[e] at hr;cases hr;obtain⟨rest,h1,_⟩:=h.rk w (List.mem_of_getElem? e);refine⟨rest,?_⟩;have:K13.kd (f.rs.map (·.k)) i=w.k:=by unfold K13.kd;rw[List.getD_eq_getElem?_getD,List.getElem?_map,e];rfl
   rw[this];exact h1
structure FS (C:Addr) (H:Hp) (x dx:Addr) (fs:List (Str×V)) (d:Nat->Addr) (kv:Nat->List (Key×V)):Prop where
 ob:H x=some (.ins C dx fs)
 dc:∀j,j<6->H (d j)=some (.dK (kv j))
theorem FS.mono {C:Addr} {H':Hp}{x dx:Addr} {fs:List (Str×V)} {d:Nat->Addr} {kv:Nat->List (Key×V)} (e:Same H H') (h:FS C H x dx fs d kv):FS C H' x dx fs d kv:=⟨e _ _ h.ob,λj hj=>e _ _ (h.dc j hj)⟩
theorem FS.put {C:Addr} {x dx:Addr} {fs:List (Str×V)} {d:Nat->Addr} {kv:Nat->List (Key×V)} (h:FS C H x dx fs d kv) (inj:∀i j,i<6->j<6->d i=d j->i=j) (j:Nat) (hj:j<6) (k':List (Key×V)):FS C (upd H (d j) (.dK k')) x dx fs d (λi=>if i=j then k' else kv i):=by
 refine⟨?_,λi hi=>?_⟩
 . rw[zal (zrj h.ob (h.dc j hj) (by intro z; cases z))]; exact h.ob
 . by_cases e:i=j
   . subst e;rw[zab,if_pos rfl]
   . rw[zal (λz=>e (inj i j hi hj z)),if_neg e];exact h.dc i hi
def zrk (v:V) (d:Nat->Addr):List (Str×V):=ziw "ways_in" (.ref (d 5)) (ziw "names_in" (.ref (d 4)) (ziw "rows_of" (.ref (d 3)) (ziw "params_of" (.ref (d 2)) (ziw "folded_of" (.ref (d 1)) (ziw "number_of" (.ref (d 0)) (ziw "last" v []))))))
theorem lk_number (v:V) (d:Nat->Addr):(zrk v d).lookup ("number_of":Str)=some (.ref (d 0)):=by unfold zrk;rw[za0,if_neg (by decide +kernel),za0,if_neg (by decide +kernel),za0,if_neg (by decide +kernel),za0,if_neg (by decide +kernel),za0,if_neg (by decide +kernel),za0,if_pos rfl]
theorem zw2 (v:V) (d:Nat->Addr):(zrk v d).lookup ("folded_of":Str)=some (.ref (d 1)):=by unfold zrk;rw[za0,if_neg (by decide +kernel),za0,if_neg (by decide +kernel),za0,if_neg (by decide +kernel),za0,if_neg (by decide +kernel),za0,if_pos rfl]
theorem zxt (v:V) (d:Nat->Addr):(zrk v d).lookup ("params_of":Str)=some (.ref (d 2)):=by unfold zrk;rw[za0,if_neg (by decide +kernel),za0,if_neg (by decide +kernel),za0,if_neg (by decide +kernel),za0,if_pos rfl]
theorem lk_rows (v:V) (d:Nat->Addr):(zrk v d).lookup ("rows_of":Str)=some (.ref (d 3)):=by unfold zrk;rw[za0,if_neg (by decide +kernel),za0,if_neg (by decide +kernel),za0,if_pos rfl]
theorem lk_names (v:V) (d:Nat->Addr):(zrk v d).lookup ("names_in":Str)=some (.ref (d 4)):=by unfold zrk;rw[za0,if_neg (by decide +kernel),za0,if_pos rfl]
theorem z12 (v:V) (d:Nat->Addr):(zrk v d).lookup ("ways_in":Str)=some (.ref (d 5)):=by unfold zrk;rw[za0,if_pos rfl]
def dd (d0 d1 d2 d3 d4 d5:Addr):Nat->Addr
 | 0=>d0
 | 1=>d1
 | 2=>d2
 | 3=>d3
 | 4=>d4
 | _=>d5
theorem zbg {a b:Addr} {o:HO} (h:upd H a o b=none):b≠a/\H b=none:=by
 have hn:b≠a:=λz=>by rw[z,zab] at h; cases h
 rw[zal hn] at h;exact⟨hn,h⟩
theorem za7 {a b:Addr} {o o':HO} (h:H b=some o) (hn:b≠a):upd H a o' b=some o:=by rw[zal hn]; exact h
theorem zka (f:Str) (v:V) (l:List (Str×V)) (k:Nat) (h:l.length<=k):(ziw f v l).length<=k+1:=qa7 (ziq f v l) (by omega)
end Fl
namespace L2
open PySem
def hl (H:Hp):Hp:=λb=>match H b with
 | some (.lst xs)=>some (.lst xs)
 | some (.tup xs)=>some (.tup xs)
 | _=>none
variable {H:Hp}
theorem zrv :Same (hl H) H:=λb o h=>by
 unfold hl at h;split at h
 . rename_i e; rw[e]; exact h
 . rename_i e; rw[e]; exact h
 . cases h
theorem z01 {b:Addr} {xs:List V} (h:H b=some (.lst xs)):hl H b=some (.lst xs):=by unfold hl; rw[h]
theorem z55 {b:Addr} {xs:List V} (h:H b=some (.tup xs)):hl H b=some (.tup xs):=by unfold hl; rw[h]
theorem Same.hl {H H':Hp} (e:Same H H'):Same (hl H) (hl H'):=λb o h=>by have h1:=zrv _ _ h;have h2:=e _ _ h1;unfold L2.hl at h ⊢;rw[h1] at h;rw[h2];exact h
theorem z5y {a:Addr} {o:HO} (h:∀xs,H a≠some (.lst xs)/\H a≠some (.tup xs)) (ho:∀xs,o≠.lst xs/\o≠.tup xs):hl (upd H a o)=hl H:=by
 funext b;unfold hl upd;by_cases hb:b=a
 . subst hb;rw[if_pos rfl];cases o with
   | lst xs=>exact absurd rfl (ho xs).1
   | tup xs=>exact absurd rfl (ho xs).2
   | _ =>
     cases e:H b with
     | none=>rfl
     | some u=>cases u with
       | lst xs=>exact absurd e (h xs).1
       | tup xs=>exact absurd e (h xs).2
       | _=>rfl
 . rw[if_neg hb]
theorem zuj {a:Addr} {kvs kvs':List (Key×V)} (h:H a=some (.dK kvs)):hl (upd H a (.dK kvs'))=hl H :=
 z5y (λxs=>⟨(by rw[h]; intro z; cases z),(by rw[h]; intro z; cases z)⟩) λxs=>⟨(by intro z; cases z),(by intro z; cases z)⟩
end L2
namespace K13
open PySem L2
theorem FoundN.hl {H:Hp} {l:Addr} {ks:List Str} {i:Nat} (h:FoundN H l ks i):FoundN (L2.hl H) l ks i:=by
 obtain⟨vs,h1,h2,h3⟩:=h;refine⟨vs,z01 h1,h2,λk v q=>?_⟩;obtain⟨o,d,z⟩:=h3 k v q;refine⟨o,d,?_⟩;cases o with
 | none=>exact z
 | some l=>obtain⟨p,z1,z2⟩:=z; exact⟨p,z1,z55 z2⟩
end K13
namespace F2
open PySem L2 Gx Fl
structure Fd where
 name:Str
 fo:V
 fa:Addr
 pa:Addr
 ra:Addr
 ps:List Str
 rs:List Rw
 ds:List K12.RowD
structure FnAt (K:W.Frag) (H:Hp) (f:Fd):Prop where
 fn:SqT K H f.fa [.str f.name,f.fo,.ref f.pa,.ref f.ra]
 pr:SqT K H f.pa (f.ps.map V.str)
 rw_:SqT K H f.ra (f.rs.map λw=>V.ref w.r)
 rk:∀w∈f.rs,z3n K H w
 fu:K12.FunAt K H f.fa f.ps f.ds
 wf:K13.Wf (f.rs.map (·.k))
 len:f.rs.length<=100
theorem FnAt.mono {K:W.Frag} {H H':Hp} {f:Fd} (e:Same H H') (h:FnAt K H f):FnAt K H' f :=
 ⟨e.tup h.fn,e.tup h.pr,e.tup h.rw_,λw hw=>(h.rk w hw).mono e,h.fu.mono e,h.wf,h.len⟩
def toF (f:Fd):Fl.Fd:=⟨f.name,f.fa,f.ra,f.rs⟩
theorem FnAt.old {K:W.Frag} {H:Hp} {f:Fd} (h:FnAt K H f):Fl.FnAt K H (toF f):=⟨⟨_,_,h.fn⟩,h.rw_,h.rk,⟨_,_,h.fu⟩,h.wf,h.len⟩
def nms (f:Fd):List Str:=K12.onceL (K12.allOf f.ps f.ds)
def kds (f:Fd):List Str:=f.rs.map (·.k)
def kD (g:Nat->Fd->V) (fns:List Fd):List (Key×V):=fns.mapIdx λi f=>(Sum.inr f.name,g i f)
theorem z17 (g:Nat->Fd->V) (fns:List Fd) (f:Fd):kD g (fns++[f])=kD g fns++[(Sum.inr f.name,g fns.length f)]:=by unfold kD;rw[List.mapIdx_append];simp
variable {fns:List Fd}
theorem zy1 {g g':Nat->Fd->V} (h:∀i f,i<fns.length->g i f=g' i f):kD g fns=kD g' fns:=by unfold kD;refine List.ext_getElem (by simp) λi h1 h2=>?_;simp only[List.getElem_mapIdx];rw[h i _ (by simpa using h1)]
theorem z2z (g:Nat->Fd->V) {s:Str} (h:s ∉ fns.map (·.name)):zg4 (kD g fns) (Sum.inr s:Key)=none:=by
 unfold zg4;rw[Option.map_eq_none_iff,List.find?_eq_none];intro kv hkv z;unfold kD at hkv;obtain⟨i,hi,e⟩:=List.mem_mapIdx.mp hkv;subst e;have z:(Sum.inr fns[i].name:Key)=Sum.inr s:=by simpa using z
 exact h (qa8.mpr ⟨fns[i],qcd hi,Sum.inr.inj z⟩)
theorem znm {f:Fd} {i:Nat} (h:fns[i]?=some f) (nd:(fns.map (·.name)).Nodup):f.name ∉ (fns.take i).map (·.name):=by
 intro z;obtain⟨g,hg,e⟩:=qa8.mp z;obtain⟨j,hj⟩:=qb1 hg;have hji:j<i:=by have:=(List.getElem?_eq_some_iff.mp hj).1;rw[qbe] at this;omega
 rw[qdm hji] at hj;have h1:(fns.map (·.name))[i]?=some f.name:=by rw[List.getElem?_map,h]; rfl
 have h2:(fns.map (·.name))[j]?=some f.name:=by rw[List.getElem?_map,hj]; exact qa0 some e
 have:=(List.getElem?_inj (List.getElem?_eq_some_iff.mp h2).1 nd).mp (h2.trans h1.symm);omega
theorem zl7 {g g':Nat->Fd->V} {f:Fd} {i:Nat} {v:V} (h:fns[i]?=some f) (nd:(fns.map (·.name)).Nodup) (hg:∀j f,j<i->g j f=g' j f) (hv:v=g' i f):zei (kD g (fns.take i)) (Sum.inr f.name:Key) v=kD g' (fns.take (i+1)):=by
 have hi:i<fns.length:=(List.getElem?_eq_some_iff.mp h).1;have hl:(fns.take i).length=i:=by rw[qbe]; omega
 rw[ztj _ (z2z g (znm h nd)),qbj,h];show _=kD g' (fns.take i++[f]);rw[z17,hl,<- hv,zy1 (g:=g) (g':=g') λj f hj=>hg j f (by omega)]
theorem kD_at (g:Nat->Fd->V):∀{fns:List Fd} {i:Nat} {f:Fd},(fns.map (·.name)).Nodup->fns[i]?=some f->zg4 (kD g fns) (Sum.inr f.name:Key)=some (g i f):=by
 intro fns i f nd h;have hi:i<fns.length:=(List.getElem?_eq_some_iff.mp h).1;have key:∀k,i<k->k<=fns.length->zg4 (kD g (fns.take k)) (Sum.inr f.name:Key)=some (g i f):=by
   intro k
   induction k with
   | zero=>intro h0; exact absurd h0 (qbq _)
   | succ k ih =>
     intro hk hk';obtain⟨f',hf'⟩:∃f',fns[k]?=some f':=⟨fns[k],List.getElem?_eq_getElem (by omega)⟩
     rw[<- zl7 (g:=g) (g':=g) hf' nd (λ_ _ _=>rfl) rfl,ziy];by_cases e:i=k
     . subst e;rw[h] at hf';cases hf';rw[if_pos rfl]
     . have hn:¬ (Sum.inr f.name:Key)=Sum.inr f'.name:=λz=>znm hf' nd (qa8.mpr ⟨f,List.mem_of_getElem? (by rw[qdm (show i<k by omega)]; exact h),Sum.inr.inj z⟩);rw[if_neg hn];exact ih (by omega) (by omega)
 have:=key fns.length hi (qaj _);rw[qbb] at this;exact this
structure FlowsAt (K:W.Frag) (C:Addr) (H:Hp) (x:Addr) (fns:List Fd):Prop where
 all:∀f∈fns,FnAt K H f
 nd:(fns.map (·.name)).Nodup
 ob:∃dx fz d kv,∃nl wl:Nat->Addr,fns[fns.length - 1]?=some fz/\FS C H x dx (zrk (V.str fz.name) d) d kv/\kv 0=kD (λi _=>.int i) fns/\kv 1=kD (λ_ f=>f.fo) fns/\kv 2=kD (λ_ f=>.ref f.pa) fns/\kv 3=kD (λ_ f=>.ref f.ra) fns /\
   kv 4=kD (λi _=>.ref (nl i)) fns/\kv 5=kD (λi _=>.ref (wl i)) fns/\∀i f,fns[i]?=some f->H (nl i)=some (.lst ((nms f).map V.str))/\K13.FoundN H (wl i) (kds f) (kds f).length
theorem FlowsAt.mono {K:W.Frag} {C:Addr} {H H':Hp} {x:Addr} {fns:List Fd} (e:Same H H') (h:FlowsAt K C H x fns):FlowsAt K C H' x fns:=by obtain⟨dx,fz,d,kv,nl,wl,h0,h1,h2,h3,h4,h5,h6,h7,h8⟩:=h.ob;exact⟨λf hf=>(h.all f hf).mono e,h.nd,⟨dx,fz,d,kv,nl,wl,h0,h1.mono e,h2,h3,h4,h5,h6,h7,λi f hi=>⟨e _ _ (h8 i f hi).1,(h8 i f hi).2.mono e⟩⟩⟩
end F2
namespace K41
open PySem L2 Gx Fl
structure RR where
 w:Rw
 d:K12.RowD
def RRok (K:W.Frag) (H:Hp) (x:RR):Prop:=x.w.r=x.d.r/\z3n K H x.w/\K12.RowAt K H x.d
theorem at_i (i:Int):K12.Atom (.int i):=.inr ⟨i,rfl⟩
theorem z7l {p:V->Prop} {a:V} (h:p a):∀v∈[a],p v:=λv hv=>by rw[qa4.mp hv]; exact h
def rone (k:Str) (r:Addr) (a:V):RR:=⟨⟨r,k,""⟩,⟨r,0,0,none,[a]⟩⟩
def rnone (k:Str) (r:Addr):RR:=⟨⟨r,k,""⟩,⟨r,0,0,none,[]⟩⟩
variable {H:Hp} {r:Addr}
theorem ok_if {K:W.Frag} {a:V} (h:SqT K H r [.str "if",a]) (ha:K12.Atom a):RRok K H (rone "if" r a) :=
 ⟨rfl,⟨_,h,λz=>absurd z (by show ¬ (("if":Str)="call"); decide +kernel)⟩,⟨⟨_,h,.ifs a⟩,z7l ha,by show 1<=10; decide,λx hx=>by cases hx⟩⟩
theorem ok_back {K:W.Frag} {a:V} (h:SqT K H r [.str "back",a]) (ha:K12.Atom a):RRok K H (rone "back" r a) :=
 ⟨rfl,⟨_,h,λz=>absurd z (by show ¬ (("back":Str)="call"); decide +kernel)⟩,⟨⟨_,h,.back a⟩,z7l ha,by show 1<=10; decide,λx hx=>by cases hx⟩⟩
theorem ok_else {K:W.Frag} (h:SqT K H r [.str "else"]):RRok K H (rnone "else" r) :=
 ⟨rfl,⟨_,h,λz=>absurd z (by show ¬ (("else":Str)="call"); decide +kernel)⟩,⟨⟨_,h,.els⟩,(λv hv=>by cases hv),qaz _,λx hx=>by cases hx⟩⟩
theorem ok_end {K:W.Frag} (h:SqT K H r [.str "end"]):RRok K H (rnone "end" r) :=
 ⟨rfl,⟨_,h,λz=>absurd z (by show ¬ (("end":Str)="call"); decide +kernel)⟩,⟨⟨_,h,.fin⟩,(λv hv=>by cases hv),qaz _,λx hx=>by cases hx⟩⟩
theorem zs2 {ks os:List Str} {x:Str} (g:K13.Good ks os) (h1:¬ K13.isO x=true) (h2:¬ K13.isE x=true) (h3:¬ x="end"):∀n,K13.Good (ks++List.replicate n x) os
 | 0=>by rw[List.replicate_zero,qbf]; exact g
 | n+1=>by rw[List.replicate_succ',<- qbd]; exact(zs2 g h1 h2 h3 n).plain h1 h2 h3
def lc (z:Int):Nat:=K12.lets.cps.toList.getD z.toNat 0
theorem z1b:K12.lets.cps.toList.length=26:=by decide +kernel
theorem lc_at {z:Int} (h0:0<=z) (h1:z<26):atI K12.lets.cps.toList z=some (lc z):=by
 obtain⟨j,rfl⟩:=qa5 h0;have hj:j<K12.lets.cps.toList.length:=by rw[z1b]; omega
 refine zcg ?_;unfold lc;rw[qbu,List.getD_eq_getElem?_getD,List.getElem?_eq_getElem hj];rfl
theorem z0t {z:Int} (h0:0<=z) (h1:z<26):lc z∈K12.lets.cps.toList:=by
 have hj:z.toNat<K12.lets.cps.toList.length:=by rw[z1b]; omega
 unfold lc;rw[List.getD_eq_getElem?_getD,List.getElem?_eq_getElem hj];exact qcd hj
theorem z40 {x y:Int} (x0:0<=x) (x1:x<26) (y0:0<=y) (y1:y<26) (h:lc x=lc y):x=y:=by
 have key:∀i<26,∀j<26,K12.lets.cps.toList.getD i 0=K12.lets.cps.toList.getD j 0->i=j:=by decide +kernel
 have:=key x.toNat (by omega) y.toNat (by omega) h;omega
theorem zws {l:List Nat} (h:∀c∈l,c∈K12.lets.cps.toList):PyData.strOk (tx l)=true:=by
 have hz:=K12.lets_ok;unfold PyData.strOk at hz ⊢;rw[Array.all_eq_true'] at hz ⊢;intro x hx;have hx:x∈l:=by simpa [tx] using hx
 exact hz x (by simpa using h x hx)
def tkV:List V:=[V.str "fn",V.str "in",V.str "new",V.str "get",V.str "put",V.str "call",V.str "out",V.str "if",V.str "while",V.str "else",V.str "end",V.str "back"]
end K41
namespace L2
open PySem PySem.Spec PyProof.Rows
inductive WVar (i:Nat) (σ:St) (H:Hp) (Q:VK):Prop
 | mk (v:V) (h:σ[i]?=some (some v)) (q:Q v H):WVar i σ H Q
def zzg (i:Nat):TE:=λσ H Q=>WVar i σ H Q
variable {X:Cx}
theorem pvC (i:Nat) {x:Str} {pos:Pos} (hN:X.N[i]?=some x:=by rfl) (hv:Vis X.env.scope x:=by first|exact Or.inl rfl|exact Or.inr (Or.inl rfl)|exact Or.inr (Or.inr rfl)) (hd:(x==("__debug__":Str))=false:=by decide)
   (hcd:(x==("__classdict__":Str))=false:=by decide):PE X (.Name x pos) (zzg i):=λpins s σ H Q I h=>pv i hN hv hd hcd pins s σ H Q I (let ⟨v,e,q⟩:=h; ⟨v,e,q⟩)
inductive WIxL (K:W.Frag) (x y:V) (H:Hp) (Q:VK):Prop
 | mk (p:Addr) (xs:List V) (i:Int) (v:V) (h1:x=.ref p) (h2:y=.int i) (h3:SqL K H p xs) (h4:atI xs i=some v) (q:Q v H):WIxL K x y H Q
inductive WIxT (K:W.Frag) (x y:V) (H:Hp) (Q:VK):Prop
 | mk (p:Addr) (xs:List V) (i:Int) (v:V) (h1:x=.ref p) (h2:y=.int i) (h3:SqT K H p xs) (h4:atI xs i=some v) (q:Q v H):WIxT K x y H Q
def zim (K:W.Frag):R2:=λx y H Q=>WIxL K x y H Q
def zcz (K:W.Frag):R2:=λx y H Q=>WIxT K x y H Q
theorem IxR.imp {r r':R2} (h:IxR X r) (f:∀x y H Q,r' x y H Q->r x y H Q):IxR X r':=λa b pins s σ H x y v u Q I r1 r2 q z=>h a b pins s σ H x y v u Q I r1 r2 (f x y H Q q) z
theorem OpR.imp {g:Value->Value->Sem Value} {r r':R2} (h:OpR X g r) (f:∀x y H Q,r' x y H Q->r x y H Q):OpR X g r':=λpins s σ H x y v u Q I r1 r2 q=>h pins s σ H x y v u Q I r1 r2 (f x y H Q q)
theorem zbv.imp {g:Value} {r r':List V->Hp->VK->Prop} (h:zbv X g r) (f:∀xs H Q,r' xs H Q->r xs H Q):zbv X g r':=λpins s σ H xs us Q I r1 q=>h pins s σ H xs us Q I r1 (f xs H Q q)
theorem zbb :IxR X (zim X.K):=zkj.imp λx y H Q h=>let ⟨p,xs,i,v,h1,h2,h3,h4,q⟩:=h; ⟨p,xs,i,v,h1,h2,h3,h4,q⟩
theorem zak :IxR X (zcz X.K):=zmg.imp λx y H Q h=>let ⟨p,xs,i,v,h1,h2,h3,h4,q⟩:=h; ⟨p,xs,i,v,h1,h2,h3,h4,q⟩
inductive WI (C:Int->Int->Prop) (g:Int->Int->V) (x y:V) (H:Hp) (Q:VK):Prop
 | mk (i j:Int) (h1:x=.int i) (h2:y=.int j) (h3:C i j) (q:Q (g i j) H):WI C g x y H Q
inductive WI0 (g:Int->Int->V) (x y:V) (H:Hp) (Q:VK):Prop
 | mk (i j:Int) (h1:x=.int i) (h2:y=.int j) (q:Q (g i j) H):WI0 g x y H Q
def cI (C:Int->Int->Prop) (g:Int->Int->V):R2:=λx y H Q=>WI C g x y H Q
def cI0 (g:Int->Int->V):R2:=λx y H Q=>WI0 g x y H Q
theorem zhu {f:Value->Value->Sem Value} {C:Int->Int->Prop} {g:Int->Int->V} (h:OpR X f (rI C g)):OpR X f (cI C g):=h.imp λx y H Q h=>let ⟨i,j,h1,h2,h3,q⟩:=h; ⟨i,j,h1,h2,h3,q⟩
theorem zc2 {f:Value->Value->Sem Value} {g:Int->Int->V} (h:OpR X f (rI0 g)):OpR X f (cI0 g):=h.imp λx y H Q h=>let ⟨i,j,h1,h2,q⟩:=h; ⟨i,j,h1,h2,q⟩
inductive WLen (K:W.Frag) (xs:List V) (H:Hp) (Q:VK):Prop
 | mk (p:Addr) (ys:List V) (h1:xs=[.ref p]) (h2:SqL K H p ys\/SqT K H p ys) (q:Q (.int ys.length) H):WLen K xs H Q
def zh9 (K:W.Frag):List V->Hp->VK->Prop:=λxs H Q=>WLen K xs H Q
theorem zay :zbv X (.builtin "len") (zh9 X.K):=zhs.imp λxs H Q h=>let ⟨p,ys,h1,h2,q⟩:=h; ⟨p,ys,h1,h2,q⟩
inductive WApp (x:V) (vs:List V) (H:Hp) (Q:VK):Prop
 | mk (l:Addr) (xs:List V) (y:V) (h1:x=.ref l) (h2:vs=[y]) (h3:H l=some (.lst xs)) (h4:xs.length<sizeLine) (q:Q .non (upd H l (.lst (xs++[y])))):WApp x vs H Q
def cApp:V->List V->Hp->VK->Prop:=λx vs H Q=>WApp x vs H Q
theorem zbr :MtM X "list.append" cApp:=λpins s σ H x xs v us Q I r1 r2 q=>zfk pins s σ H x xs v us Q I r1 r2 (let ⟨l,xs,y,h1,h2,h3,h4,q⟩:=q; ⟨l,xs,y,h1,h2,h3,h4,q⟩)
inductive WBl (x:V) (H:Hp) (Q:Bool->Hp->Prop):Prop
 | mk (k:Bool) (h:x=.bl k) (q:Q k H):WBl x H Q
def z14 (t:TE):TT:=λσ H Q=>t σ H λx H'=>WBl x H' Q
section
variable {X:Cx} {a b:Expr} {ta tb:TE} {pos:Pos}
theorem zan {op:CmpOp} {r:R2} (ho:OpR X (compareOp op) r) (ha:PE X a ta) (hb:PE X b tb) (hm:behindInMarks op b=false):PT X (.Compare a [op] [b] pos) (z14 (tOp r ta tb)):=by
 intro pins s σ H Q I h;refine qdy (thn (ha pins s σ H _ I h) λv s1 ⟨x,H1,I1,r1,q1⟩=>thn (hb pins s1 σ H1 _ I1 q1) λu s2 ⟨y,H2,I2,r2,q2⟩ =>
   thn (ho pins s2 σ H2 x y v u _ I2 r1 r2 q2) λc s3 ⟨z,H3,I3,r3,w⟩=>?_) hm
 obtain⟨k,e,q3⟩:=w;subst e;cases r3;exact qb6 ⟨H3,I3,q3⟩
theorem zcy {e:Expr} {t:TE} (h:PE X e t) (he:∀whole,isTrue e X.env whole=(do let v <- whole; standAt e.pos; holding [v] (truthy v)):=by intro _; rfl):PT X e (z14 t):=by intro pins s σ H Q I hw;refine isTrue_plain (thn (h pins s σ H _ I hw) λv s1 ⟨x,H1,I1,r1,q1⟩=>?_) (he _);obtain⟨d,rfl,q⟩:=q1;cases r1;exact qb6 ⟨H1,I1,q⟩
end
def tCut (t u:TS):TS:=λD σ H=>∃M:St->Hp->Prop,t { D with nx:=M } σ H/\∀σ' H',M σ' H'->u D σ' H'
theorem zoe {X:Cx} {st:Stmt} {rest:List Stmt} {t u:TS} (h1:PS X st t) (h2:PSs X rest u):PSs X (st :: rest) (tCut t u):=z29 h1 h2
end L2
namespace Bg
open PySem L2 Gx K41
theorem RRok.mono {K:W.Frag} {H H':Hp} {x:RR} (h:RRok K H x) (e:Same H H'):RRok K H' x:=⟨h.1,h.2.1.mono e,h.2.2.mono e⟩
theorem fn_mk2 {K:W.Frag} {H:Hp} {nk:Str} {fa tr qC:Addr} {fo:V} {ps:List Str} (rr:List RR) (h1:SqT K H fa [.str nk,fo,.ref qC,.ref tr]) (h2:SqT K H tr (rr.map λx=>V.ref x.w.r)) (h3:∀x∈rr,RRok K H x) (h4:SqT K H qC (ps.map V.str)) (h5:∀s∈ps,K12.Nm s) (h6:ps.length<=100) (h7:rr.length<=100) (wf:K13.Wf (rr.map λx=>x.w.k)) :
   F2.FnAt K H ⟨nk,fo,fa,qC,tr,ps,rr.map (·.w),rr.map (·.d)⟩:=by
 refine⟨h1,h4,by show SqT K H tr ((rr.map (·.w)).map λw=>V.ref w.r); rw[qbg]; exact h2,λw hw=>?_,⟨⟨_,_,_,_,h1,h4,?_⟩,λd hd=>?_,h5,h6,by show(rr.map (·.d)).length<=100; rw[List.length_map]; exact h7⟩,by show K13.Wf ((rr.map (·.w)).map (·.k)); rw[qbg]; exact wf,by show(rr.map (·.w)).length<=100; rw[List.length_map]; exact h7⟩
 . obtain⟨x,hx,rfl⟩:=qa8.mp hw;exact(h3 x hx).2.1
 . show SqT K H tr ((rr.map (·.d)).map λd=>V.ref d.r);rw[qbg];have:(rr.map λx=>V.ref x.w.r)=rr.map ((λd=>V.ref d.r) ∘ (·.d)):=qci λx hx=>by show V.ref x.w.r=V.ref x.d.r;rw[(h3 x hx).1]
   rw[<- this];exact h2
 . obtain⟨x,hx,rfl⟩:=qa8.mp hd;exact(h3 x hx).2.2
def rcopyV (r:Addr) (nm:Str) (i:Int):RR:=⟨⟨r,"copy",""⟩,⟨r,0,0,some nm,[.int i]⟩⟩
theorem ok_copyV {K:W.Frag} {H:Hp} {r:Addr} {nm:Str} {i:Int} (h:SqT K H r [.str "copy",.str nm,.int i]) (hn:K12.Nm nm):RRok K H (rcopyV r nm i) :=
 ⟨rfl,⟨_,h,λz=>absurd z (by show ¬ (("copy":Str)="call"); decide +kernel)⟩,⟨⟨_,h,.copy nm _⟩,z7l (at_i i),by show 1<=10; decide,λx hx=>by cases hx; exact hn⟩⟩
end Bg
namespace Bt
open PySem L2 Gx
def pb (n c:Nat):List Nat:=(List.range c).map λi=>if n / 2 ^ (c - 1 - i)%2=1 then 49 else 48
theorem zih (n c:Nat):(pb n c).length=c:=by unfold pb; rw[List.length_map,qa9]
theorem z3w {n c x:Nat} (h:x∈pb n c):x=48\/x=49:=by
 unfold pb at h;obtain⟨i,_,rfl⟩:=qa8.mp h;split
 . exact .inr rfl
 . exact .inl rfl
def nb (n:Nat):List Nat:=if n<8 then 48 :: pb n 3 else 49 :: pb (n%8) 3++nb (n / 8)
termination_by n
decreasing_by omega
theorem zmf {n:Nat} (h:n<8):nb n=48 :: pb n 3:=by rw[nb,if_pos h]
theorem zl9 {n:Nat} (h:¬ n<8):nb n=49 :: pb (n%8) 3++nb (n / 8):=by rw[nb,if_neg h]
theorem zl3:∀(k n:Nat),n<8 ^ (k+1)->(nb n).length<=4 * (k+1)
 | 0,n,h=>by rw[zmf (by simpa using h),List.length_cons,zih];exact qaj _
 | k+1,n,h=>by
   by_cases c:n<8
   . rw[zmf c,List.length_cons,zih]; omega
   . have h':n / 8<8 ^ (k+1):=by
       have:8 ^ (k+1+1)=8 * 8 ^ (k+1):=by rw[qdo]; omega
       omega
     have ih:=zl3 k (n / 8) h';rw[zl9 c,List.length_append,List.length_cons,zih];omega
theorem z2h (n k:Nat):Builtin.bitAnd ((n:Int) / 2 ^ ((k:Int)).toNat) 1=((n / 2 ^ k%2:Nat):Int):=by
 rw[PyProof.Rows.bitAnd_m1,qbu];have:(2:Int) ^ k=((2 ^ k:Nat):Int):=by simp
 rw[this];omega
theorem and7 (n:Nat):Builtin.bitAnd (n:Int) 7=((n%8:Nat):Int):=by rw[PyProof.Rows.bitAnd_m3];omega
theorem z1o (l:List Nat):("1":Str)++tx l=tx (49 :: l):=zfs [49] l
theorem zyq:("0":Str)=tx [48]:=rfl
theorem ztn (f:Nat->Nat):∀l:List Nat,(l.map λi=>[f i]).flatten=l.map f
 | []=>rfl
 | x :: l=>by rw[qbl,qbv,ztn f l]; rfl
theorem zyc (f:Nat->Nat):∀l:List Nat,(((l.map λi=>[f i]).map tx).map (·.length)).sum=l.length
 | []=>rfl
 | x :: l=>by rw[qbl,qbl,qbl,List.sum_cons,zyc f l,zcs,List.length_cons]; simp; omega
inductive BTr where
 | box (k:Nat):BTr
 | num (v:Nat):BTr
 | op (i:Nat) (l r:BTr):BTr
def z2w:List Nat:=[43,45,42,47,60,61,38,124,94]
def sgn (i:Nat):Str:=tx [z2w.getD i 0]
def rb:BTr->List Nat
 | .box k=>48 :: nb k
 | .num v=>49 :: 48 :: nb v
 | .op i l r=>49 :: 49 :: pb i 4++rb l++rb r
def lv:BTr->Nat
 | .box _=>1
 | .num _=>1
 | .op _ l r=>lv l+lv r
def bdp:BTr->Nat
 | .box _=>0
 | .num _=>0
 | .op _ l r=>max (bdp l) (bdp r)+1
theorem znj:∀t:BTr,bdp t<lv t
 | .box _=>qd9
 | .num _=>qd9
 | .op _ l r=>by have h1:=znj l;have h2:=znj r;show max (bdp l) (bdp r)+1<lv l+lv r;omega
def bok:BTr->Prop
 | .box k=>k<8 ^ 16
 | .num v=>v<8 ^ 16
 | .op _ l r=>bok l/\bok r
theorem znk:∀{t:BTr},bok t->(rb t).length+6<=72 * lv t
 | .box k,h=>by have:=zl3 15 k h;show(48 :: nb k).length+6<=72 * 1;rw[List.length_cons]; omega
 | .num k,h=>by have:=zl3 15 k h;show(49 :: 48 :: nb k).length+6<=72 * 1;rw[List.length_cons,List.length_cons]; omega
 | .op i l r,h=>by have h1:=znk h.1;have h2:=znk h.2;show(49 :: 49 :: pb i 4++rb l++rb r).length+6<=72 * (lv l+lv r);rw[List.length_append,List.length_append,List.length_cons,List.length_cons,zih];omega
theorem zw5:∀i<9,¬ sgn i="box"/\¬ sgn i="num":=by decide +kernel
def sgTup:List V:=[V.str "+",V.str "-",V.str "*",V.str "/",V.str "<",V.str "=",V.str "&",V.str "|",V.str "^"]
theorem z4b:∀i<9,∃z,sgTup[i]?=some z/\eqV z (V.str (sgn i))=true:=by
 intro i hi;have:∀i<9,sgTup[i]?=some (V.str (sgn i)):=by decide +kernel
 refine⟨_,this i hi,?_⟩;have:∀i<9,eqV (V.str (sgn i)) (V.str (sgn i))=true:=by decide +kernel
 exact this i hi
theorem z2x:∀i<9,∀m z,m<i->sgTup[m]?=some z->eqV z (V.str (sgn i))=false:=by
 have key:∀i<9,∀m<i,(sgTup[m]?.map λz=>eqV z (V.str (sgn i)))=some false:=by decide +kernel
 intro i hi m z hm hz;have:=key i hi m hm;rw[hz] at this;exact Option.some.inj this
theorem z2y:∀i<9,atI ("+-*/<=&|^":Str).cps.toList (i:Nat)=some (z2w.getD i 0):=by decide +kernel
theorem z4n (l:List Nat):("0":Str)++tx l=tx (48 :: l):=zfs [48] l
theorem z38 (l:List Nat):("10":Str)++tx l=tx (49 :: 48 :: l):=zfs [49,48] l
theorem zxr (l:List Nat):("11":Str)++tx l=tx (49 :: 49 :: l):=zfs [49,49] l
theorem z24 (a b:List Nat) (h:a.length+b.length<1000000):(tx a).length+(tx b).length<=sizeLine:=by rw[zcs,zcs]; exact zb0 h
theorem zle:(8:Nat) ^ 16=281474976710656:=by decide
end Bt
namespace Pk
open PySem L2 Gx Bt Bg
variable {xs:List V} {v:V}
section
variable {K:W.Frag} {H H':Hp}
theorem zc0:∀{ds:List PyData} {xs:List V},DatAll K H ds xs->xs.length=ds.length
 | [],xs,h=>by unfold DatAll at h; rw[h]; rfl
 | d :: ds,xs,h=>by unfold DatAll at h;obtain⟨x,r,rfl,_,h2⟩:=h;rw[List.length_cons,List.length_cons,zc0 h2]
theorem z13:∀{ds:List PyData} {xs:List V} {i:Nat} {d:PyData},DatAll K H ds xs->ds[i]?=some d->∃x,xs[i]?=some x/\DatV K H d x
 | [],xs,i,d,h,e=>by cases i <;> cases e
 | d' :: ds,xs,i,d,h,e=>by
   unfold DatAll at h;obtain⟨x,r,rfl,h1,h2⟩:=h;cases i with
   | zero=>cases e; exact⟨x,rfl,h1⟩
   | succ i =>
     obtain⟨y,e2,hy⟩:=z13 (i:=i) h2 (by simpa using e);exact⟨y,by simpa using e2,hy⟩
theorem zvo {ds:List PyData} {i:Nat} {x:V} (h:DatAll K H ds xs) (e:xs[i]?=some x):∃d,ds[i]?=some d/\DatV K H d x:=by
 have hi:i<ds.length:=by rw[<- zc0 h]; exact(List.getElem?_eq_some_iff.mp e).1
 obtain⟨y,e2,hy⟩:=z13 h (List.getElem?_eq_getElem hi);rw[e] at e2;cases e2;exact⟨_,List.getElem?_eq_getElem hi,hy⟩
theorem zfg:∀{ds:List PyData} {xs:List V} {d:PyData} {x:V},DatAll K H ds xs->DatV K H d x->DatAll K H (ds++[d]) (xs++[x])
 | [],xs,d,x,h,hx=>by unfold DatAll at h; subst h; exact za1 hx zap
 | d' :: ds,xs,d,x,h,hx=>by unfold DatAll at h;obtain⟨y,r,rfl,h1,h2⟩:=h;exact za1 h1 (zfg h2 hx)
theorem z42:∀{ds:List PyData} {xs:List V},xs.length=ds.length->(∀(i:Nat) d x,ds[i]?=some d->xs[i]?=some x->DatV K H d x)->DatAll K H ds xs
 | [],[],_,_=>zap
 | d :: ds,x :: xs,e,h=>za1 (h 0 d x rfl rfl) (z42 (by simpa using e) λi d' x' h1 h2=>h (i+1) d' x' (by simpa using h1) (by simpa using h2))
 | [],_ :: _,e,_=>by cases e
 | _ :: _,[],e,_=>by cases e
theorem zid {α:Type} {f:α->PyData} {l:List α} {i:Nat} {x:V} (h:DatAll K H (l.map f) xs) (e:xs[i]?=some x):∃a,l[i]?=some a/\DatV K H (f a) x:=by
 obtain⟨d,hd,hx⟩:=zvo h e;rw[List.getElem?_map] at hd;cases ha:l[i]? with
 | none=>rw[ha] at hd; cases hd
 | some a=>rw[ha] at hd; cases hd; exact⟨a,rfl,hx⟩
theorem zji {α:Type} {f:α->PyData} {l:List α} {i:Nat} {a:α} (h:DatAll K H (l.map f) xs) (e:l[i]?=some a):∃x,xs[i]?=some x/\DatV K H (f a) x:=z13 h (by rw[List.getElem?_map,e]; rfl)
theorem zit {ds:List PyData} (h:DatV K H (.list ds) v):∃a xs,v=.ref a/\SqL K H a xs/\DatAll K H ds xs:=by unfold DatV at h; exact h
theorem zkg {ds:List PyData} (h:DatV K H (.tuple ds) v):∃a xs,v=.ref a/\SqT K H a xs/\DatAll K H ds xs:=by unfold DatV at h; exact h
theorem dat2 {d e:PyData} (h:DatAll K H [d,e] xs):∃x y,xs=[x,y]/\DatV K H d x/\DatV K H e y:=by unfold DatAll at h;obtain⟨x,r,rfl,h1,h2⟩:=h;unfold DatAll at h2;obtain⟨y,r,rfl,h2,h3⟩:=h2;unfold DatAll at h3;subst h3;exact⟨x,y,rfl,h1,h2⟩
theorem z5t {d e f:PyData} (h:DatAll K H [d,e,f] xs):∃x y z,xs=[x,y,z]/\DatV K H d x/\DatV K H e y/\DatV K H f z:=by unfold DatAll at h;obtain⟨x,r,rfl,h1,h2⟩:=h;obtain⟨y,z,rfl,h3,h4⟩:=dat2 h2;exact⟨x,y,z,rfl,h1,h3,h4⟩
theorem zia {s:Str} (h:DatV K H (.str s) v):v=.str s:=by unfold DatV at h; exact h
theorem zra {s:Int} (h:DatV K H (.int s) v):v=.int s:=by unfold DatV at h; exact h
theorem z7b (h:DatV K H .none v):v=.non:=by unfold DatV at h; exact h
theorem dt2 {d e:PyData} (h:DatV K H (.tuple [d,e]) v):∃a x y,v=.ref a/\SqT K H a [x,y]/\DatV K H d x/\DatV K H e y:=by obtain⟨a,xs,rfl,h1,h2⟩:=zkg h;obtain⟨x,y,rfl,h3,h4⟩:=dat2 h2;exact⟨a,x,y,rfl,h1,h3,h4⟩
theorem zg7 {d e:PyData} {a:Addr} {x y:V} (h:SqT K H a [x,y]) (h1:DatV K H d x) (h2:DatV K H e y):DatV K H (.tuple [d,e]) (.ref a):=zch h (za1 h1 (za1 h2 zap))
mutual
def zjl:PyData->Bool
 | .tuple ds=>zbj ds
 | .list _=>false
 | .dict _=>false
 | _=>true
def zbj:List PyData->Bool
 | []=>true
 | d :: ds=>zjl d&&zbj ds
end
def NoT (H:Hp) (z:Addr):Prop:=H z=none\/∃ys,H z=some (.lst ys)
theorem NoT.lst {z:Addr} {ys:List V} (h:H z=some (.lst ys)):NoT H z:=.inr ⟨ys,h⟩
theorem NoT.ers {z y:Addr} (h:NoT H z):NoT (ers y H) z:=by
 by_cases e:z=y
 . left; unfold L2.ers; rw[if_pos e]
 . unfold NoT; rw[zao e]; exact h
variable {z:Addr}
theorem zoi {a:Addr}(h:SqT K H a xs) (hz:NoT H z):SqT K (ers z H) a xs:=by
 have key:∀o:HO,H a=some o->(∀ys,o≠.lst ys)->a≠z:=λo ho hn e=>by
   subst e;rcases hz with hz|⟨ys,hz⟩
   . rw[ho] at hz; cases hz
   . rw[ho] at hz; exact hn ys (Option.some.inj hz)
 rcases h with(h|⟨o,h⟩)|h
 . exact .inl (.inl (by rw[zao (key _ h (by intro ys z; cases z))]; exact h))
 . exact .inl (.inr ⟨o,by rw[zao (key _ h (by intro ys z; cases z))]; exact h⟩)
 . exact .inr h
mutual
theorem DatV.ersT {z:Addr} (hz:NoT H z):∀(d:PyData) (v:V),zjl d=true->DatV K H d v->DatV K (ers z H) d v
 | .none,v,t,h=>by unfold DatV at h ⊢; exact h
 | .bool b,v,t,h=>by unfold DatV at h ⊢; exact h
 | .int i,v,t,h=>by unfold DatV at h ⊢; exact h
 | .str x,v,t,h=>by unfold DatV at h ⊢; exact h
 | .list ds,v,t,h=>by unfold zjl at t; cases t
 | .tuple ds,v,t,h=>by unfold DatV at h ⊢;unfold zjl at t;obtain⟨a,xs,rfl,hq,hd⟩:=h;exact⟨a,xs,rfl,zoi hq hz,DatAll.ersT hz ds xs t hd⟩
 | .dict _,v,t,h=>by unfold zjl at t; cases t
theorem DatAll.ersT {z:Addr} (hz:NoT H z):∀(ds:List PyData) (xs:List V),zbj ds=true->DatAll K H ds xs->DatAll K (ers z H) ds xs
 | [],xs,t,h=>by unfold DatAll at h ⊢; exact h
 | d :: ds,xs,t,h=>by unfold DatAll at h ⊢;unfold zbj at t;rw[qa3] at t;obtain⟨x,r,rfl,hd,hds⟩:=h;exact⟨x,r,rfl,DatV.ersT hz d x t.1 hd,DatAll.ersT hz ds r t.2 hds⟩
end
theorem z2t {a:Addr}(h:H a=some (.lst xs)) (hz:a≠z):SqL K (ers z H) a xs:=SqL.of (by rw[zao hz]; exact h)
theorem zc6 (e:Same H H') (h:H z=none):Same H (ers z H'):=λb o hb=>by rw[zao (zaf hb h)]; exact e _ _ hb
theorem zme {o:HO}:Same (ers z H) (upd H z o):=by rw[<- zdi (o:=o)]; exact zaz
end
def btD:BTr->PyData
 | .box k=>.tuple [.str "box",.int k]
 | .num k=>.tuple [.str "num",.int k]
 | .op i l r=>.tuple [.str (sgn i),btD l,btD r]
def btO:Option BTr->PyData
 | none=>.none
 | some t=>btD t
def tok:BTr->Prop
 | .box k=>k<8 ^ 16
 | .num k=>k<8 ^ 16
 | .op i l r=>i<9/\tok l/\tok r
def pok:Option BTr->Prop
 | none=>True
 | some t=>tok t/\lv t<=8
theorem zxa:∀t:BTr,zjl (btD t)=true
 | .box k=>by unfold btD zjl zbj zbj zbj; unfold zjl; rfl
 | .num k=>by unfold btD zjl zbj zbj zbj; unfold zjl; rfl
 | .op i l r=>by unfold btD zjl zbj zbj zbj; rw[zxa l,zxa r]; unfold zbj zjl; rfl
theorem z5l:∀o:Option BTr,zjl (btO o)=true
 | none=>by unfold btO zjl; rfl
 | some t=>zxa t
theorem zj8:∀{t:BTr},tok t->bok t
 | .box k,h=>h
 | .num k,h=>h
 | .op i l r,h=>⟨zj8 h.2.1,zj8 h.2.2⟩
theorem z5a:∀i<9,PyData.strOk (sgn i)=true:=by decide +kernel
theorem zxw:∀{t:BTr},tok t->Lay (bdp t+1) (btD t)
 | .box k,h=>Lay.tuple (n:=0) λd hd=>by
   rcases qay.mp hd with e|hd
   . rw[e]; exact .str (by decide +kernel)
   . rw[qa4.mp hd]; exact .int _
 | .num k,h=>Lay.tuple (n:=0) λd hd=>by
   rcases qay.mp hd with e|hd
   . rw[e]; exact .str (by decide +kernel)
   . rw[qa4.mp hd]; exact .int _
 | .op i l r,h=>Lay.tuple (n:=max (bdp l) (bdp r)+1) λd hd=>by
   rcases qay.mp hd with e|hd
   . rw[e]; exact .str (z5a i h.1)
   . rcases qay.mp hd with e|hd
     . rw[e]; exact(zxw h.2.1).mono (by omega)
     . rw[qa4.mp hd]; exact(zxw h.2.2).mono (by omega)
theorem znp {o:Option BTr} (h:pok o):Lay 8 (btO o):=by
 cases o with
 | none=>exact .none
 | some t=>exact(zxw h.1).mono (by have:=znj t; have:=h.2; omega)
def ob:Option BTr->List Nat
 | none=>[48,48]
 | some tr=>49 :: rb tr
theorem z4y {o:Option BTr} (h:pok o):(ob o).length<=600:=by
 cases o with
 | none=>show 2<=600; decide
 | some t =>
   have:=znk (zj8 h.1);have:=h.2;show(49 :: rb t).length<=600;rw[List.length_cons];omega
theorem z0n {K:W.Frag} {H:Hp} {o:Option BTr} (h:DatV K H (btO o) v):v=.non <-> o=none:=by
 cases o with
 | none=>exact⟨λ_=>rfl,λ_=>z7b h⟩
 | some t =>
   refine⟨λe=>?_,λe=>by cases e⟩;subst e;cases t <;> (obtain⟨a,xs,h1,_⟩:=zkg h; cases h1)
def lk (ah:List (Option BTr)) (o:Option BTr) (i:Nat):Bool:=match ah[i]? with
 | some a=>PyData.eqv (btO a) (btO o)
 | none=>false
def vb1 (ah pl:List (Option BTr)) (i:Nat):List Nat:=if lk ah (pl.getD i none) i=true then [48,49] else ob (pl.getD i none)
def vbL (ah pl:List (Option BTr)) (n:Nat):List (List Nat):=(List.range n).map (vb1 ah pl)
def vb (ah pl:List (Option BTr)):List Nat:=(vbL ah pl pl.length).flatten
theorem zs4 (ah pl:List (Option BTr)) (n:Nat):vbL ah pl (n+1)=vbL ah pl n++[vb1 ah pl n]:=by unfold vbL; rw[qby,List.map_append]; rfl
theorem z3c {ah pl:List (Option BTr)} (h:∀o∈pl,pok o) (i:Nat):(vb1 ah pl i).length<=600:=by
 unfold vb1;split
 . show 2<=600; decide
 . refine z4y ?_;rw[List.getD_eq_getElem?_getD];cases e:pl[i]? with
   | none=>exact True.intro
   | some o=>exact h o (List.mem_of_getElem? e)
theorem z4q {l:List (List Nat)} {c:Nat} (h:∀x∈l,x.length<=c):(l.map (·.length)).sum<=l.length * c:=by
 induction l with
 | nil=>simp
 | cons x l ih =>
   have h1:=h x qbh;have h2:=ih λy hy=>h y (qba _ hy);rw[qbl,List.sum_cons,List.length_cons,Nat.succ_mul];omega
theorem z3u (l:List (List Nat)):((l.map tx).map (·.length)).sum=(l.map (·.length)).sum:=by have e:(l.map ((λx:Str=>x.length) ∘ tx))=l.map (·.length):=qci λx _=>zcs x;rw[qbg,e]
theorem zj1 {l:List (List Nat)} {c:Nat} (h:∀x∈l,x.length<=c):l.flatten.length<=l.length * c:=by rw[qec];exact z4q h
theorem z45 {ah pl:List (Option BTr)} (h:∀o∈pl,pok o) (n:Nat):∀x∈vbL ah pl n,x.length<=600:=λx hx=>by obtain⟨i,_,rfl⟩:=qa8.mp hx;exact z3c h i
theorem zxp (ah pl:List (Option BTr)) (n:Nat):(vbL ah pl n).length=n:=by unfold vbL; rw[List.length_map,qa9]
theorem z1i {ah pl:List (Option BTr)} (h:∀o∈pl,pok o):(vb ah pl).length<=pl.length * 600:=by have:=zj1 (z45 (ah:=ah) h pl.length);rw[zxp] at this;exact this
theorem zvq {k:Nat}:z3o xs (some (k:Int)) (some ((k:Int)+1))=(xs[k]?).toList:=by
 have e:((k:Int)+1)=((k+1:Nat):Int):=by omega
 rw[e];unfold z3o;rw[HT.sIx_nat,HT.sIx_nat];by_cases h:k<xs.length
 . rw[qdc (by omega),qdc (by omega),List.getElem?_eq_getElem h,qe2,<- List.getElem_cons_drop (h:=h)];rfl
 . rw[qde (by omega),qbi (by omega)];simp
end Pk
namespace Pk
open PySem L2 Gx Bt Bg K41
def z6m:List Int:=[10007,10009,10037,10039,10061,10067,10069,10079]
def prm (j:Int):Int:=z6m.getD (j%8).toNat 1
theorem z5i (j:Int):atI (z6m.map V.int) (j%8)=some (V.int (prm j)):=by
 have b:=zeb j 8 (by decide);exact zvy b.1 (by show j%8<8; exact b.2) |>.trans (by
   unfold prm;have:(j%8).toNat<z6m.length:=by show(j%8).toNat<8; omega
   rw[List.getD_eq_getElem?_getD,List.getD_eq_getElem?_getD,List.getElem?_eq_getElem this];rfl)
theorem z2c (j:Int):0<prm j:=by
 have b:=zeb j 8 (by decide);have key:∀i<8,0<z6m.getD i 1:=by decide
 exact key _ (by omega)
def zd3 (c j m:Int):Int:=(c * 48271+7919 * j)%prm j%m
theorem zdb (c j m:Int) (h:0<m):0<=zd3 c j m/\zd3 c j m<m:=zeb _ m h
def wsz (b:Int):Nat:=(1+zd3 b 8 8).toNat
theorem zye (b:Int):1<=wsz b/\wsz b<=8/\(wsz b:Int)=1+zd3 b 8 8:=by have h:=zdb b 8 8 (by decide);unfold wsz;omega
def wd (b:Int):List Nat:=(List.range (wsz b)).map λj:Nat=>lc (zd3 b j 26)
def wat (b:Int):Nat:=(zd3 b 9 (1+zd3 b 8 8)).toNat
theorem z0z (b:Int):wat b<wsz b/\(wat b:Int)=zd3 b 9 (1+zd3 b 8 8):=by have h1:=zye b;have h2:=zdb b 9 (1+zd3 b 8 8) (by omega);unfold wat;omega
def wk (b k:Int):List Nat:=(wd b).set (wat b) (lc ((zd3 b 10 26+k)%26))
def nmL (b k:Int):Str:=if inV (.str (tx (wk b k))) tkV=true then tx (wk b k++[122]) else tx (wk b k)
theorem z1e (b:Int):(wd b).length=wsz b:=by unfold wd; rw[List.length_map,qa9]
theorem ztd (b k:Int):(wk b k).length=wsz b:=by unfold wk; rw[qch,z1e]
variable {b:Int}
theorem z1l {k k':Int}(h:wk b k=wk b k'):(zd3 b 10 26+k)%26=(zd3 b 10 26+k')%26:=by
 have hl:wat b<(wd b).length:=by rw[z1e]; exact(z0z b).1
 have h1:(wk b k)[wat b]?=some (lc ((zd3 b 10 26+k)%26)):=by unfold wk; rw[qcj hl]
 have h2:(wk b k')[wat b]?=some (lc ((zd3 b 10 26+k')%26)):=by unfold wk; rw[qcj hl]
 rw[h,h2] at h1;have b1:=zeb (zd3 b 10 26+k) 26 (by decide);have b2:=zeb (zd3 b 10 26+k') 26 (by decide);exact z40 b1.1 b1.2 b2.1 b2.2 (Option.some.inj h1).symm
theorem zxd {k k':Int}(h:nmL b k=nmL b k'):(zd3 b 10 26+k)%26=(zd3 b 10 26+k')%26:=by
 have l1:=ztd b k;have l2:=ztd b k';unfold nmL at h;split at h
 . split at h
   . exact z1l (List.append_cancel_right (tx_inj h))
   . have:=qa0 List.length (tx_inj h);rw[List.length_append] at this;simp at this;omega
 . split at h
   . have:=qa0 List.length (tx_inj h);rw[List.length_append] at this;simp at this;omega
   . exact z1l (tx_inj h)
theorem z02 {k:Int}:∀c∈wk b k,c∈K12.lets.cps.toList:=λc hc=>by
 unfold wk at hc;rcases qdl hc with h|h
 . unfold wd at h;obtain⟨j,_,rfl⟩:=qa8.mp h;have b1:=zdb b j 26 (by decide);exact z0t b1.1 b1.2
 . rw[h];have b1:=zeb (zd3 b 10 26+k) 26 (by decide);exact z0t b1.1 b1.2
theorem zxz (b k:Int):K12.Nm (nmL b k):=by
 have l1:=ztd b k;have l2:=zye b;unfold nmL;split
 . refine⟨by rw[zcs,List.length_append,l1]; simp; omega,zws λc hc=>?_⟩;rcases qbk.mp hc with h|h
   . exact z02 c h
   . rw[qa4.mp h]; decide +kernel
 . exact⟨by rw[zcs,l1]; omega,zws z02⟩
def ziv (K:W.Frag) (H:Hp) (n:Nat) (v:V):Prop:=∃d,zjl d=true/\Lay n d/\DatV K H d v
def zhi (K:W.Frag) (H:Hp) (n:Nat) (xs:List V):Prop:=∃ds,zbj ds=true/\(∀d∈ds,Lay n d)/\DatAll K H ds xs
variable {z:Addr} {xs:List V}
section
variable {K:W.Frag} {H H':Hp} {n m:Nat}
theorem ziv.mono {v:V} (h:ziv K H n v) (e:Same H H'):ziv K H' n v:=let ⟨d,t,l,z⟩:=h; ⟨d,t,l,DatV.mono e d v z⟩
theorem ziv.up {v:V} (h:ziv K H n v) (e:n<=m):ziv K H m v:=let ⟨d,t,l,z⟩:=h; ⟨d,t,l.mono e,z⟩
theorem ziv.str {s:Str} (h:PyData.strOk s=true):ziv K H n (.str s):=⟨.str s,by unfold zjl; rfl,Lay.str h,zdo s⟩
theorem ziv.int {i:Int}:ziv K H n (.int i):=⟨.int i,by unfold zjl; rfl,Lay.int i,zfr i⟩
theorem ziv.bl {b:Bool}:ziv K H n (.bl b):=⟨.bool b,by unfold zjl; rfl,Lay.bool b,z26 b⟩
theorem zhi.mono {xs:List V} (h:zhi K H n xs) (e:Same H H'):zhi K H' n xs:=let ⟨d,t,l,z⟩:=h; ⟨d,t,l,DatAll.mono e d xs z⟩
theorem zhi.ers (h:zhi K H n xs) (hz:NoT H z):zhi K (ers z H) n xs:=let ⟨d,t,l,y⟩:=h; ⟨d,t,l,DatAll.ersT hz d xs t y⟩
theorem zhi.nil:zhi K H n []:=⟨[],by unfold zbj; rfl,λd h=>(by cases h),zap⟩
theorem zhi.cons {x:V} {xs:List V} (h:ziv K H n x) (t:zhi K H n xs):zhi K H n (x :: xs):=by obtain⟨d,u,l,z⟩:=h;obtain⟨ds,us,ls,zs⟩:=t;exact⟨d :: ds,by unfold zbj; rw[u,us]; rfl,λe he=>(qay.mp he).elim (λz=>z ▸ l) (ls e),za1 z zs⟩
theorem zhi.of:∀{xs:List V},(∀x∈xs,ziv K H n x)->zhi K H n xs
 | [],_=>.nil
 | x :: xs,h=>.cons (h x qbh) (zhi.of λy hy=>h y (qba _ hy))
theorem ziv.tup {a:Addr} {xs:List V} (h:SqT K H a xs) (t:zhi K H n xs):ziv K H (n+1) (.ref a):=by obtain⟨ds,us,ls,zs⟩:=t;exact⟨.tuple ds,by unfold zjl; exact us,Lay.tuple ls,zch h zs⟩
def z3p (K:W.Frag) (H:Hp) (x:RR):Prop:=RRok K H x/\ziv K H 3 (.ref x.w.r)
theorem z3p.mono {x:RR} (h:z3p K H x) (e:Same H H'):z3p K H' x:=⟨Bg.RRok.mono h.1 e,h.2.mono e⟩
theorem zzu {g:Option Str} {as:List V} (h:K12.RowS K H xs g as) (hz:NoT H z):K12.RowS K (ers z H) xs g as:=by
 cases h with
 | call x f p as hp=>exact .call x f p as (zoi hp hz)
 | copy x a=>exact .copy x a
 | op x s a b=>exact .op x s a b
 | new x=>exact .new x
 | get x a f=>exact .get x a f
 | put a f b=>exact .put a f b
 | out a=>exact .out a
 | back a=>exact .back a
 | ifs a=>exact .ifs a
 | whl a=>exact .whl a
 | els=>exact .els
 | fin=>exact .fin
theorem z47 {f:F2.Fd} (h:F2.FnAt K H f) (hz:NoT H z):F2.FnAt K (ers z H) f:=by
 have tt:∀{a:Addr} {xs:List V},SqT K H a xs->SqT K (ers z H) a xs:=λh=>zoi h hz;refine⟨tt h.fn,tt h.pr,tt h.rw_,λw hw=>?_,?_,h.wf,h.len⟩
 . obtain⟨rest,h1,h2⟩:=h.rk w hw;exact⟨rest,tt h1,h2⟩
 . obtain⟨n,b,pp,r,z1,z2,z3⟩:=h.fu.fn;refine⟨⟨n,b,pp,r,tt z1,tt z2,tt z3⟩,λd hd=>?_,h.fu.pn,h.fu.pl,h.fu.dl⟩;have hr:=h.fu.rows d hd;exact⟨let ⟨xs,h1,h2⟩:=hr.row; ⟨xs,tt h1,zzu h2 hz⟩,hr.ats,hr.len,hr.nm⟩
end
theorem ztk {ks:List Str} (g:K13.Good ks []):∀n,K13.Good (ks++(List.replicate n [("if":Str),"else","end"]).flatten) []
 | 0=>by rw[List.replicate_zero,List.flatten_nil,qbf]; exact g
 | n+1=>by
   have g0:=ztk g n;have g1:=((g0.opn (x:="if") (by decide +kernel)).els').fin;rw[List.replicate_succ',qc7];have e:ks++((List.replicate n [("if":Str),"else","end"]).flatten++[[("if":Str),"else","end"]].flatten)=ks++(List.replicate n [("if":Str),"else","end"]).flatten++[("if":Str)]++[("else":Str)]++[("end":Str)]:=by simp
   rw[e];exact g1
theorem z15 (a n:Nat):K13.Wf (List.replicate a ("copy":Str)++(List.replicate n [("if":Str),"else","end"]).flatten++[("back":Str)]):=by have g0:=zs2 K13.good_nil (x:="copy") (by decide +kernel) (by decide +kernel) (by decide +kernel) a;rw[qe4] at g0;exact(ztk g0 n).back
structure Bd where
 f:F2.Fd
 cnt:Nat
 e:Addr
structure EntAt (K:W.Frag) (H:Hp) (x:Bd):Prop where
 en:SqL K H x.e [.ref x.f.fa,.int x.cnt]
 fn:F2.FnAt K H x.f
 hd:zhi K H 4 [x.f.fo,.ref x.f.pa,.ref x.f.ra]
 ne:x.f.rs≠[]
 cn:x.cnt<=24
 ok:PyData.strOk x.f.name=true
 dr:SqT K H x.f.ra (x.f.ds.map λd=>V.ref d.r)
theorem EntAt.mono {K:W.Frag} {H H':Hp} {x:Bd} (h:EntAt K H x) (e:Same H H'):EntAt K H' x:=⟨e.seq h.en,h.fn.mono e,h.hd.mono e,h.ne,h.cn,h.ok,e.tup h.dr⟩
structure BuiltAt (K:W.Frag) (H:Hp) (b:Addr) (bs:List Bd):Prop where
 ls:SqL K H b (bs.map λx=>V.ref x.e)
 all:∀x∈bs,EntAt K H x
 n0:bs≠[]
 n12:bs.length<=12
 nd:(bs.map λx=>x.f.name).Nodup
theorem BuiltAt.mono {K:W.Frag} {H H':Hp} {b:Addr} {bs:List Bd} (h:BuiltAt K H b bs) (e:Same H H'):BuiltAt K H' b bs:=⟨e.seq h.ls,λx hx=>(h.all x hx).mono e,h.n0,h.n12,h.nd⟩
def nmF (fns:List F2.Fd) (k:Nat):Str:=(fns[k]?.map (·.name)).getD ""
theorem zgl {fns:List F2.Fd} {k:Nat} {f:F2.Fd} (h:fns[k]?=some f):nmF fns k=f.name:=by unfold nmF; rw[h]; rfl
theorem zri {fns:List F2.Fd} (nd:(fns.map (·.name)).Nodup) {i j:Nat} (hi:i<fns.length) (hj:j<fns.length) (h:nmF fns i=nmF fns j):i=j:=by
 rw[zgl (List.getElem?_eq_getElem hi),zgl (List.getElem?_eq_getElem hj)] at h;have h1:(fns.map (·.name))[i]?=some fns[i].name:=by rw[List.getElem?_map,List.getElem?_eq_getElem hi]; rfl
 have h2:(fns.map (·.name))[j]?=some fns[j].name:=by rw[List.getElem?_map,List.getElem?_eq_getElem hj]; rfl
 rw[h] at h1;exact(List.getElem?_inj (List.getElem?_eq_some_iff.mp h1).1 nd).mp (h1.trans h2.symm)
structure Mk where
 ch:List (Nat×Nat)
 vs:List (List (Option BTr))
def mk0:Mk:=⟨[],[]⟩
structure MOk (n:Nat) (m:Mk):Prop where
 l3:m.ch.length<=3
 ix:∀c∈m.ch,c.1<n/\c.2<100
 vl:m.vs.length=m.ch.length
 c24:∀v∈m.vs,v.length<=24
 ok:∀v∈m.vs,∀o∈v,pok o
def z7k (cn:Nat->Nat) (m:Mk):Prop:=∀(l:Nat) c v,m.ch[l]?=some c->m.vs[l]?=some v->v.length=cn c.1
theorem z06 (n:Nat):MOk n mk0:=⟨qaz _,(λc h=>by cases h),rfl,(λv h=>by cases h),(λv h=>by cases h)⟩
theorem z3z (cn:Nat->Nat):z7k cn mk0:=λl c v h=>by cases h
def z6i (m0:Mk) (l k:Nat):Bool:=match m0.ch[l]? with
 | some c=>decide (c.1=k)
 | none=>false
def ahd (m0:Mk) (l k:Nat):List (Option BTr):=if z6i m0 l k=true then m0.vs.getD l [] else []
def fB (c:Nat×Nat):List Nat:=nb c.1++nb c.2
def kAt (m:Mk) (l:Nat):Nat:=(m.ch.getD l (0,0)).1
def vAt (m:Mk) (l:Nat):List (Option BTr):=m.vs.getD l []
def wB (m0 m:Mk) (l:Nat):List Nat:=vb (ahd m0 l (kAt m l)) (vAt m l)
def mb (m0 m:Mk):List Nat:=nb m.ch.length++(m.ch.map fB).flatten++((List.range m.ch.length).map (wB m0 m)).flatten
def prv (ms:List Mk):Nat->Mk
 | 0=>mk0
 | j+1=>ms.getD j mk0
def mbs (ms:List Mk) (n:Nat):List (List Nat):=(List.range n).map λj=>mb (prv ms j) (ms.getD j mk0)
def zib (ms:List Mk):List Nat:=nb ms.length++(mbs ms ms.length).flatten
theorem zzk (ms:List Mk) (n:Nat):mbs ms (n+1)=mbs ms n++[mb (prv ms n) (ms.getD n mk0)]:=by unfold mbs; rw[qby,List.map_append]; rfl
theorem zrc (ms:List Mk) (n:Nat):(mbs ms n).length=n:=by unfold mbs; rw[List.length_map,qa9]
variable {n:Nat}
theorem nb64 (h:n<8 ^ 16):(nb n).length<=64:=zl3 15 n h
theorem zg2 (h:n<1000):(nb n).length<=64:=nb64 (by rw[zle]; omega)
variable {m:Mk}
theorem z49 (h:MOk n m) (hn:n<=12):∀x∈m.ch.map fB,x.length<=128:=λx hx=>by obtain⟨c,hc,rfl⟩:=qa8.mp hx;have h1:=h.ix c hc;have h2:=zg2 (n:=c.1) (by omega);have h3:=zg2 (n:=c.2) (by omega);unfold fB;rw[List.length_append];omega
theorem zwi (h:MOk n m) (l:Nat):(vAt m l).length<=24/\∀o∈vAt m l,pok o:=by
 unfold vAt;rw[List.getD_eq_getElem?_getD];cases e:m.vs[l]? with
 | none=>exact⟨qaz _,λo h=>by cases h⟩
 | some v=>exact⟨h.c24 v (List.mem_of_getElem? e),h.ok v (List.mem_of_getElem? e)⟩
theorem z03 (h:MOk n m) (l k:Nat):(ahd m l k).length<=24/\∀o∈ahd m l k,pok o:=by
 unfold ahd;split
 . exact zwi h l
 . exact⟨qaz _,λo h=>by cases h⟩
theorem z3r {m0:Mk}(h:MOk n m) (l:Nat):(wB m0 m l).length<=14400:=by have h1:=zwi h l;have h2:=z1i (ah:=ahd m0 l (kAt m l)) h1.2;have:(vAt m l).length * 600<=24 * 600:=qcs _ h1.1;unfold wB;omega
theorem z1k {m0:Mk}(h:MOk n m) (hn:n<=12):(mb m0 m).length<=43700:=by
 have h1:=zg2 (n:=m.ch.length) (by have:=h.l3; omega);have h2:=zj1 (z49 h hn);have h3:=zj1 (l:=(List.range m.ch.length).map (wB m0 m)) (c:=14400) λx hx=>by obtain⟨l,_,rfl⟩:=qa8.mp hx;exact z3r h l
 rw[List.length_map,qa9] at h3;rw[List.length_map] at h2;have:=h.l3;have a1:m.ch.length * 14400<=3 * 14400:=qcs _ this;have a2:m.ch.length * 128<=3 * 128:=qcs _ this;unfold mb;rw[List.length_append,List.length_append];omega
theorem z1m {ms:List Mk} (h:∀m∈ms,MOk n m) (hn:n<=12) (k:Nat) (hk:k<=ms.length):∀x∈mbs ms k,x.length<=43700:=λx hx=>by obtain⟨j,hj,rfl⟩:=qa8.mp hx;have hj:=qce.mp hj;refine z1k (h _ ?_) hn;rw[List.getD_eq_getElem?_getD,List.getElem?_eq_getElem (by omega)];exact qcd _
theorem zz6 {ms:List Mk} (h:∀m∈ms,MOk n m) (hn:n<=12) (hl:ms.length<=200):(zib ms).length<=8800000:=by have h1:=zg2 (n:=ms.length) (by omega);have h2:=zj1 (z1m h hn ms.length (qaj _));rw[zrc] at h2;have a1:ms.length * 43700<=200 * 43700:=qcs _ hl;unfold zib;rw[List.length_append];omega
def plD (v:List (Option BTr)):PyData:=.list (v.map btO)
def tfD (nm:Nat->Str) (c:Nat×Nat):PyData:=.tuple [.str (nm c.1),.int c.2]
def tmD (nm:Nat->Str) (m:Mk):PyData:=.tuple [.tuple (m.ch.map (tfD nm)),.list (m.vs.map plD)]
def teD (nm:Nat->Str) (e:Str×List Mk):PyData:=.tuple [.str e.1,.list (e.2.map (tmD nm))]
theorem zhm {α:Type} {f:α->PyData} {l:List α} (h:∀a∈l,Lay n (f a)):∀d∈l.map f,Lay n d:=λd hd=>by obtain⟨a,ha,rfl⟩:=qa8.mp hd;exact h a ha
theorem zry {a b:PyData} (h1:Lay n a) (h2:Lay n b):∀d∈[a,b],Lay n d:=λd hd=>by
 rcases qay.mp hd with e|hd
 . rw[e]; exact h1
 . rw[qa4.mp hd]; exact h2
theorem z1j {v:List (Option BTr)} (h:∀o∈v,pok o):Lay 9 (plD v):=Lay.list (zhm λo ho=>znp (h o ho))
theorem z4l {nm:Nat->Str} (h:MOk n m) (hs:∀k<n,PyData.strOk (nm k)=true):Lay 11 (tmD nm m) :=
 Lay.tuple (zry (Lay.tuple (n:=9) (zhm λc hc=>Lay.tuple (n:=8) (zry (.str (hs _ (h.ix c hc).1)) (.int _)))) (Lay.list (zhm λv hv=>z1j (h.ok v hv))))
theorem z46 {nm:Nat->Str} {e:Str×List Mk} (h:∀m∈e.2,MOk n m) (hs:∀k<n,PyData.strOk (nm k)=true) (h1:PyData.strOk e.1=true):Lay 13 (teD nm e) :=
 Lay.tuple (zry (.str h1) (Lay.list (zhm λm hm=>z4l (h m hm) hs)))
theorem znr (nm:Nat->Str) (c:Nat×Nat):zjl (tfD nm c)=true:=by unfold tfD zjl zbj zbj zbj; unfold zjl; rfl
theorem zc9 {α:Type} {f:α->PyData} (h:∀a,zjl (f a)=true):∀l:List α,zbj (l.map f)=true
 | []=>by show zbj []=true; unfold zbj; rfl
 | a :: l=>by rw[qbl]; unfold zbj; rw[h a,zc9 h l]; rfl
theorem z51 (nm:Nat->Str) (ch:List (Nat×Nat)):zjl (.tuple (ch.map (tfD nm)))=true:=by unfold zjl; exact zc9 (znr nm) ch
variable {H:Hp}
theorem zvw {K:W.Frag} {ah:List (Option BTr)} {ys:List V} (h:DatAll K H (ah.map btO) ys) (i:Nat):DatAll K H ((ah[i]?).toList.map btO) (ys[i]?).toList:=by
 cases e:ah[i]? with
 | none =>
   have:ys[i]?=none:=qbi (by have:=qco.mp e;rw[zc0 h,List.length_map];exact this)
   rw[this];exact zap
 | some a =>
   obtain⟨x,hx,hd⟩:=zji h e;rw[hx];exact za1 hd zap
theorem eqv1 (x y:PyData):PyData.eqv (.list [x]) (.list [y])=PyData.eqv x y:=by rw[show PyData.eqv (.list [x]) (.list [y])=PyData.eqvAll [x] [y] by rw[PyData.eqv],PyData.eqvAll,PyData.eqvAll,Bool.and_true]
theorem z3y (ah:List (Option BTr)) (o:Option BTr) (i:Nat):PyData.eqv (.list ((ah[i]?).toList.map btO)) (.list [btO o])=lk ah o i:=by
 unfold lk;cases ah[i]? with
 | none=>show PyData.eqv (.list []) _=_; unfold PyData.eqv PyData.eqvAll; rfl
 | some a=>exact eqv1 _ _
theorem lay1 {n:Nat} {l:List (Option BTr)} (h:∀o∈l,pok o):SeqAt.shaped (.list (l.map btO))=true:=(Lay.list (zhm λo ho=>znp (h o ho))).shaped (by decide:9<=64)
theorem zmk (l:List (List Nat)) (x:List Nat):((l++[x]).map tx).map V.str=(l.map tx).map V.str++[V.str (tx x)]:=by rw[List.map_append,List.map_append]; rfl
theorem ztb (l:List (List Nat)):((l.map tx).map V.str).length=l.length:=by rw[List.length_map,List.length_map]
theorem zlx {l:List (List Nat)} (h:l.flatten.length<=16777216):((l.map tx).map (·.length)).sum+(l.map tx).length * ("":Str).length<=16777216:=by rw[z3u,<- qec];show l.flatten.length+(l.map tx).length * 0<=16777216;omega
theorem zv6 {α:Type} {p:α->Prop} {a:α} (h:p a):∀b∈[a],p b:=λb hb=>by rw[qa4.mp hb]; exact h
theorem z3f (b k:Int):(((List.range (wsz b)).map λj:Nat=>V.str (tx [lc (zd3 b j 26)])).set (wat b) (V.str (tx [lc ((zd3 b 10 26+k)%26)])))=(((wk b k).map λc=>[c]).map tx).map V.str:=by
 have e:((List.range (wsz b)).map λj:Nat=>V.str (tx [lc (zd3 b j 26)]))=(wd b).map λc=>V.str (tx [c]):=by unfold wd; rw[qbg]; rfl
 rw[e,qbg,qbg];unfold wk;rw[qea];rfl
theorem zpz:∀l:List Nat,(l.map λc=>[c]).flatten=l
 | []=>rfl
 | x :: l=>by rw[qbl,qbv,zpz l]; rfl
def zou (ns:List Int) (k:Int):Int:=if(0:Int)<(ns.length:Int) then ns.getD (k%(ns.length:Int)).toNat 0%999983 else 7
def zfm (ns:List Int) (k:Int):Int:=if k<(ns.length:Int) then ns.getD k.toNat 0 else(zou ns k+613 * k+29) * (zou ns k+71 * k+5)%1000003
theorem z2v {K:W.Frag} {x:Bd} {ys:List V} (h:EntAt K H x) (hz:H z=some (.lst ys)) (he:H x.e=some (.lst [.ref x.f.fa,.int x.cnt])) (hn:x.e≠z):EntAt K (ers z H) x :=
 ⟨z2t he hn,z47 h.fn (.lst hz),h.hd.ers (.lst hz),h.ne,h.cn,h.ok,zoi h.dr (.lst hz)⟩
theorem zzz (h:n<=12):((List.range n).map λj:Nat=>nmL b ((j:Int)+3)).Nodup:=by refine List.pairwise_map.mpr (qeu (λ{i j} hi hj hlt e=>?_) List.pairwise_lt_range);have h1:=qce.mp hi;have h2:=qce.mp hj;have:=zxd e;omega
variable {o:HO}
theorem DatAll.putT {K:W.Frag} {ds:List PyData} {ys:List V}{p:Addr} (t:zbj ds=true) (hp:H p=some (.lst ys)) (h:DatAll K H ds xs):DatAll K (upd H p o) ds xs:=L2.DatAll.mono zme _ _ (DatAll.ersT (.lst hp) _ _ t h)
theorem zzx {y:Addr}:ers y (ers z (upd H y o))=ers y (ers z H):=by
 funext b;unfold ers upd;by_cases h:b=y
 . rw[if_pos h,if_pos h]
 . rw[if_neg h,if_neg h,if_neg h]
theorem zff (l:List (Option BTr)):zbj (l.map btO)=true:=zc9 z5l l
theorem zxh (l:List PyData):PyData.eqv (.list l) (.list [])=l.isEmpty:=by
 rw[show PyData.eqv (.list l) (.list [])=PyData.eqvAll l [] by rw[PyData.eqv]];cases l with
 | nil=>rw[PyData.eqvAll]; rfl
 | cons a l=>rw[PyData.eqvAll]; rfl
theorem zzs (xs:List V) (x y:V):(xs++[x]).set xs.length y=xs++[y]:=by simp
theorem z10 (n:Nat):ixN (n+1) (-1)=some n:=by unfold ixN;rw[if_neg (by decide),if_pos (by omega)];congr 1;omega
theorem z6p {K:W.Frag} {rr:List RR} {a:Addr} (h:SqT K H a (rr.map λx=>V.ref x.w.r)) (h3:∀x∈rr,RRok K H x):SqT K H a ((rr.map (·.d)).map λd=>V.ref d.r):=by
 rw[qbg];have:(rr.map λx=>V.ref x.w.r)=rr.map ((λd=>V.ref d.r) ∘ (·.d)):=qci λx hx=>by show V.ref x.w.r=V.ref x.d.r;rw[(h3 x hx).1]
 rw[<- this];exact h
def stx (l:List (List Nat)):List V:=(l.map tx).map V.str
theorem zlh (l:List (List Nat)) (x:List Nat):stx (l++[x])=stx l++[V.str (tx x)]:=zmk l x
theorem zhx (l:List (List Nat)):(stx l).length=l.length:=ztb l
theorem z7q (c:Nat×Nat):tx (nb c.1)++tx (nb c.2)=tx (fB c):=zfs _ _
theorem zvv {l:Nat} {v:List (Option BTr)} (h:m.vs[l]?=some v):vAt m l=v:=by unfold vAt; rw[List.getD_eq_getElem?_getD,h]; rfl
theorem zpb (m0 m:Mk):(nb m.ch.length :: (m.ch.map fB++(List.range m.ch.length).map (wB m0 m))).flatten=mb m0 m:=by unfold mb;rw[qbv,qc7,qbd]
theorem zp7 (ms:List Mk):(nb ms.length :: mbs ms ms.length).flatten=zib ms:=by unfold zib;rw[qbv]
def nwL (H0 H:Hp):Hp:=λb=>match H0 b with
 | some (.lst _)=>none
 | _=>H b
section
variable {K:W.Frag} {H0 H H':Hp}
theorem zs7 {b:Addr} (h:nwL H0 H b=some o):(∀ys,H0 b≠some (.lst ys))/\H b=some o:=by
 unfold nwL at h;split at h
 . cases h
 . rename_i e
   exact⟨λys z=>e ys z,h⟩
theorem zqo {b:Addr} (h:∀ys,H0 b≠some (.lst ys)):nwL H0 H b=H b:=by
 unfold nwL;split
 . rename_i ys e
   exact absurd e (h ys)
 . rfl
theorem zge {b:Addr} (h:H0 b=none):nwL H0 H b=H b:=zqo λys z=>by rw[h] at z; cases z
theorem zlm:Same (nwL H0 H) H:=λb o h=>(zs7 h).2
theorem Same.nwL (e:Same H H'):Same (nwL H0 H) (nwL H0 H'):=λb o h=>by have:=zs7 h;rw[zqo this.1];exact e b o this.2
theorem z5j {a:Addr} (e:Same H0 H) (h:SqT K H a xs):SqT K (nwL H0 H) a xs:=by
 have key:∀o:HO,H a=some o->(∀ys,o≠.lst ys)->nwL H0 H a=some o:=λo ho hn=>by
   rw[zqo λys z=>?_]
   . exact ho
   . have:=e _ _ z;rw[ho] at this;exact hn ys (Option.some.inj this)
 rcases h with(h|⟨o,h⟩)|h
 . exact .inl (.inl (key _ h (by intro ys z; cases z)))
 . exact .inl (.inr ⟨o,key _ h (by intro ys z; cases z)⟩)
 . exact .inr h
mutual
theorem DatV.nwT (e:Same H0 H):∀(d:PyData) (v:V),zjl d=true->DatV K H d v->DatV K (nwL H0 H) d v
 | .none,v,t,h=>by unfold DatV at h ⊢; exact h
 | .bool b,v,t,h=>by unfold DatV at h ⊢; exact h
 | .int i,v,t,h=>by unfold DatV at h ⊢; exact h
 | .str x,v,t,h=>by unfold DatV at h ⊢; exact h
 | .list ds,v,t,h=>by unfold zjl at t; cases t
 | .tuple ds,v,t,h=>by unfold DatV at h ⊢;unfold zjl at t;obtain⟨a,xs,rfl,hq,hd⟩:=h;exact⟨a,xs,rfl,z5j e hq,DatAll.nwT e ds xs t hd⟩
 | .dict _,v,t,h=>by unfold zjl at t; cases t
theorem DatAll.nwT (e:Same H0 H):∀(ds:List PyData) (xs:List V),zbj ds=true->DatAll K H ds xs->DatAll K (nwL H0 H) ds xs
 | [],xs,t,h=>by unfold DatAll at h ⊢; exact h
 | d :: ds,xs,t,h=>by unfold DatAll at h ⊢;unfold zbj at t;rw[qa3] at t;obtain⟨x,r,rfl,hd,hds⟩:=h;exact⟨x,r,rfl,DatV.nwT e d x t.1 hd,DatAll.nwT e ds r t.2 hds⟩
end
theorem zmd {l:Addr} :ers l (nwL H0 (upd H l o))=ers l (nwL H0 H):=by
 funext b;by_cases h:b=l
 . subst h; unfold ers; rw[if_pos rfl,if_pos rfl]
 . rw[zao h,zao h];unfold nwL;rw[zal h]
end
def bts (l:List Nat):Prop:=∀x∈l,x=48\/x=49
theorem zmq:bts []:=λx h=>by cases h
theorem zcv {c:Nat} {l:List Nat} (h:c=48\/c=49) (t:bts l):bts (c :: l):=λx hx=>(qay.mp hx).elim (λe=>e ▸ h) (t x)
theorem zd5 {a b:List Nat} (h:bts a) (t:bts b):bts (a++b):=λx hx=>(qbk.mp hx).elim (h x) (t x)
theorem zja {l:List (List Nat)} (h:∀x∈l,bts x):bts l.flatten:=λc hc=>by obtain⟨x,hx,hc⟩:=qev.mp hc;exact h x hx c hc
theorem zvj (n c:Nat):bts (pb n c):=λx hx=>z3w hx
theorem zni (n:Nat):bts (nb n):=by
 induction n using Nat.strongRecOn with
 | _ n ih =>
   by_cases h:n<8
   . rw[zmf h]; exact zcv (.inl rfl) (zvj _ _)
   . rw[zl9 h]; exact zd5 (zcv (.inr rfl) (zvj _ _)) (ih (n / 8) (by omega))
theorem zv7:∀t:BTr,bts (rb t)
 | .box k=>zcv (.inl rfl) (zni k)
 | .num k=>zcv (.inr rfl) (zcv (.inl rfl) (zni k))
 | .op i l r=>zd5 (zd5 (zcv (.inr rfl) (zcv (.inr rfl) (zvj _ _))) (zv7 l)) (zv7 r)
theorem z33 (o:Option BTr):bts (ob o):=by
 cases o with
 | none=>exact zcv (.inl rfl) (zcv (.inl rfl) zmq)
 | some t=>exact zcv (.inr rfl) (zv7 t)
theorem z5k (ah pl:List (Option BTr)):bts (vb ah pl):=zja λx hx=>by
 obtain⟨i,_,rfl⟩:=qa8.mp hx;unfold vb1;split
 . exact zcv (.inl rfl) (zcv (.inr rfl) zmq)
 . exact z33 _
theorem z3x (m0 m:Mk):bts (mb m0 m):=zd5 (zd5 (zni _) (zja λx hx=>by
 obtain⟨c,_,rfl⟩:=qa8.mp hx;exact zd5 (zni _) (zni _))) (zja λx hx=>by
 obtain⟨l,_,rfl⟩:=qa8.mp hx;exact z5k _ _)
theorem zwt (ms:List Mk):bts (zib ms):=zd5 (zni _) (zja λx hx=>by obtain⟨j,_,rfl⟩:=qa8.mp hx;exact z3x _ _)
theorem z4w {l:List Nat} (h:bts l):PyData.strOk (tx l)=true:=by
 unfold PyData.strOk;rw[Array.all_eq_true'];intro x hx;have hx:x∈l:=by simpa [tx] using hx
 rcases h x hx with e|e <;> subst e <;> decide
end Pk
namespace Dc
open PySem L2 Gx Bt Pk
def bv (l:List Nat):Nat:=l.foldl (λp c=>2 * p+if c=49 then 1 else 0) 0
theorem pb3:∀n<8,∃x y z,pb n 3=[x,y,z]/\bv [x,y,z]=n/\(n=0 <-> x=48/\y=48/\z=48):=by
 intro n h
 match n,h with
 | 0,_=>exact⟨48,48,48,by decide,by decide,by decide⟩
 | 1,_=>exact⟨48,48,49,by decide,by decide,by decide⟩
 | 2,_=>exact⟨48,49,48,by decide,by decide,by decide⟩
 | 3,_=>exact⟨48,49,49,by decide,by decide,by decide⟩
 | 4,_=>exact⟨49,48,48,by decide,by decide,by decide⟩
 | 5,_=>exact⟨49,48,49,by decide,by decide,by decide⟩
 | 6,_=>exact⟨49,49,48,by decide,by decide,by decide⟩
 | 7,_=>exact⟨49,49,49,by decide,by decide,by decide⟩
theorem bv3 {x y z:Nat} (hx:x=48\/x=49) (hy:y=48\/y=49) (hz:z=48\/z=49):bv [x,y,z]<8/\pb (bv [x,y,z]) 3=[x,y,z]:=by rcases hx with rfl|rfl <;> rcases hy with rfl|rfl <;> rcases hz with rfl|rfl <;> exact⟨by decide,by decide⟩
theorem bv4 {x y z u:Nat} (hx:x=48\/x=49) (hy:y=48\/y=49) (hz:z=48\/z=49) (hu:u=48\/u=49):bv [x,y,z,u]<16/\pb (bv [x,y,z,u]) 4=[x,y,z,u]:=by rcases hx with rfl|rfl <;> rcases hy with rfl|rfl <;> rcases hz with rfl|rfl <;> rcases hu with rfl|rfl <;> exact⟨by decide,by decide⟩
theorem pb4:∀n<9,∃x y z u,pb n 4=[x,y,z,u]/\bv [x,y,z,u]=n:=by
 intro n h
 match n,h with
 | 0,_=>exact⟨48,48,48,48,by decide,by decide⟩
 | 1,_=>exact⟨48,48,48,49,by decide,by decide⟩
 | 2,_=>exact⟨48,48,49,48,by decide,by decide⟩
 | 3,_=>exact⟨48,48,49,49,by decide,by decide⟩
 | 4,_=>exact⟨48,49,48,48,by decide,by decide⟩
 | 5,_=>exact⟨48,49,48,49,by decide,by decide⟩
 | 6,_=>exact⟨48,49,49,48,by decide,by decide⟩
 | 7,_=>exact⟨48,49,49,49,by decide,by decide⟩
 | 8,_=>exact⟨49,48,48,48,by decide,by decide⟩
def zl5:Nat->Nat->Nat->List Nat->Option (Nat×List Nat)
 | f+1,k,acc,a :: b :: c :: d :: r=>if a=48 then(if(b=48/\c=48/\d=48)/\0<k then none else some (acc+bv [b,c,d] * 8 ^ k,r)) else zl5 f (k+1) (acc+bv [b,c,d] * 8 ^ k) r
 | _,_,_,_=>none
theorem z1h:∀(f k acc n:Nat) (r:List Nat),n<8 ^ (f+1)->(0<k->0<n)->zl5 (f+1) k acc (nb n++r)=some (acc+n * 8 ^ k,r):=by
 intro f
 induction f with
 | zero =>
   intro k acc n r hn hk;have h8:n<8:=by simpa using hn
   obtain⟨x,y,z,e,v,nz⟩:=pb3 n h8;rw[zmf h8,e];show(if(48:Nat)=48 then(if(x=48/\y=48/\z=48)/\0<k then none else some (acc+bv [x,y,z] * 8 ^ k,r)) else _)=_;rw[if_pos rfl,if_neg (λh=>by have:=hk h.2; have:=nz.mpr h.1; omega),v]
 | succ f ih =>
   intro k acc n r hn hk;by_cases h8:n<8
   . obtain⟨x,y,z,e,v,nz⟩:=pb3 n h8;rw[zmf h8,e];show(if(48:Nat)=48 then(if(x=48/\y=48/\z=48)/\0<k then none else some (acc+bv [x,y,z] * 8 ^ k,r)) else _)=_;rw[if_pos rfl,if_neg (λh=>by have:=hk h.2; have:=nz.mpr h.1; omega),v]
   . obtain⟨x,y,z,e,v,nz⟩:=pb3 (n%8) (Nat.mod_lt _ (by decide));rw[zl9 h8,e];show(if(49:Nat)=48 then _ else zl5 (f+1) (k+1) (acc+bv [x,y,z] * 8 ^ k) (nb (n / 8)++r))=_;rw[if_neg (by decide),v,ih (k+1) _ (n / 8) r (by rw[qdo] at hn; omega) (λ_=>by omega)];congr 2;rw[qdo];have e1:n / 8 * (8 ^ k * 8)=(n / 8 * 8) * 8 ^ k:=by rw[qeo (8 ^ k) 8,Nat.mul_assoc]
     have e2:n%8 * 8 ^ k+n / 8 * 8 * 8 ^ k=n * 8 ^ k:=by rw[<- Nat.add_mul]; congr 1; omega
     rw[e1,Nat.add_assoc,e2]
theorem z1r:∀(f k acc:Nat) (l:List Nat) (m:Nat) (r:List Nat),bts l->zl5 f k acc l=some (m,r)->∃n,m=acc+n * 8 ^ k/\l=nb n++r/\n<8 ^ f/\(0<k->0<n):=by
 intro f
 induction f with
 | zero=>intro k acc l m r _ h; cases l <;> simp [zl5] at h
 | succ f ih =>
   intro k acc l m r hb h
   match l,hb,h with
   | a :: b :: c :: d :: l',hb,h =>
     have ba:=hb a (by simp);have hp:=bv3 (hb b (by simp)) (hb c (by simp)) (hb d (by simp));have hl:bts l':=λx hx=>hb x (by simp [hx]);have h:(if a=48 then(if(b=48/\c=48/\d=48)/\0<k then none else some (acc+bv [b,c,d] * 8 ^ k,l')) else zl5 f (k+1) (acc+bv [b,c,d] * 8 ^ k) l')=some (m,r):=h;by_cases ha:a=48
     . rw[if_pos ha] at h;by_cases hz:(b=48/\c=48/\d=48)/\0<k
       . rw[if_pos hz] at h; cases h
       . rw[if_neg hz] at h;cases h;refine⟨bv [b,c,d],rfl,?_,?_,λhk=>?_⟩
         . rw[zmf hp.1,hp.2,ha]; rfl
         . exact Nat.lt_of_lt_of_le hp.1 (by rw[qdo]; exact Nat.le_mul_of_pos_left 8 (Nat.pow_pos (by decide)))
         . refine Nat.pos_of_ne_zero λz=>hz ⟨?_,hk⟩;obtain⟨x,y,w,e,v,nz⟩:=pb3 _ hp.1;rw[hp.2] at e;cases e;exact nz.mp z
     . rw[if_neg ha] at h;have ha:a=49:=ba.resolve_left ha;obtain⟨n,h1,h2,h3,h4⟩:=ih (k+1) _ l' m r hl h;have hn:=h4 (Nat.succ_pos k);have hd:(bv [b,c,d]+8 * n) / 8=n:=by omega
       have hm:(bv [b,c,d]+8 * n)%8=bv [b,c,d]:=by omega
       refine⟨bv [b,c,d]+8 * n,?_,?_,?_,λ_=>by omega⟩
       . rw[h1,qdo,Nat.add_mul,Nat.add_assoc];congr 2;rw[qeo (8 ^ k) 8,<- Nat.mul_assoc,qeo n 8]
       . rw[zl9 (by omega),hm,hd,hp.2,ha,h2]; rfl
       . rw[qdo]; omega
   | [],_,h=>cases h
   | [_],_,h=>cases h
   | [_,_],_,h=>cases h
   | [_,_,_],_,h=>cases h
def zjv (lo hi:Nat) (l:List Nat):Option (Nat×List Nat):=(zl5 16 0 0 l).bind λx=>if lo<=x.1/\x.1<=hi then some x else none
variable {n:Nat}
theorem zpo {lo hi:Nat}(r:List Nat) (h1:lo<=n) (h2:n<=hi) (h3:n<8 ^ 16):zjv lo hi (nb n++r)=some (n,r):=by unfold zjv;rw[z1h 15 0 0 n r h3 (λz=>absurd z (by decide))];show(if lo<=0+n * 8 ^ 0/\0+n * 8 ^ 0<=hi then some (0+n * 8 ^ 0,r) else none)=_;rw[qew,qe7,qd6,if_pos ⟨h1,h2⟩]
variable {l r:List Nat}
theorem zkv {lo hi:Nat} {m:Nat} (hb:bts l) (h:zjv lo hi l=some (m,r)):l=nb m++r/\lo<=m/\m<=hi/\m<8 ^ 16:=by
 unfold zjv at h;cases e:zl5 16 0 0 l with
 | none=>rw[e] at h; cases h
 | some x =>
   rw[e] at h;have h:(if lo<=x.1/\x.1<=hi then some x else none)=some (m,r):=h;split at h
   . rename_i hx
     cases h;obtain⟨n,h1,h2,h3,_⟩:=z1r 16 0 0 l m r hb e;rw[qew,qe7,qd6] at h1;subst h1;exact⟨h2,hx.1,hx.2,h3⟩
   . cases h
theorem z2q {m:Nat} (hb:bts l) (h:zl5 16 0 0 l=some (m,r)):l=nb m++r/\m<8 ^ 16:=by obtain⟨n,h1,h2,h3,_⟩:=z1r 16 0 0 l m r hb h;rw[qew,qe7,qd6] at h1;subst h1;exact⟨h2,h3⟩
theorem z2a (r:List Nat) (h:n<8 ^ 16):zl5 16 0 0 (nb n++r)=some (n,r):=by rw[z1h 15 0 0 n r h (λz=>absurd z (by decide)),qew,qe7,qd6]
def zgq:Nat->Nat->List Nat->Option (BTr×List Nat)
 | f+1,most,48 :: r=>if most<1 then none else(zjv 0 127 r).map λx=>(.box x.1,x.2)
 | f+1,most,49 :: 48 :: r=>if most<1 then none else(zl5 16 0 0 r).map λx=>(.num x.1,x.2)
 | f+1,most,49 :: 49 :: a :: b :: c :: d :: r=>if most<1 then none else if bv [a,b,c,d]<9 then(zgq f (most - 1) r).bind λx=>(zgq f (most - lv x.1) x.2).map λy=>(.op (bv [a,b,c,d]) x.1 y.1,y.2) else none
 | _,_,_=>none
def sml:BTr->Prop
 | .box k=>k<=127
 | .num _=>True
 | .op _ l r=>sml l/\sml r
theorem zpv:∀t:BTr,0<lv t
 | .box _=>qd9
 | .num _=>qd9
 | .op _ l r=>Nat.lt_of_lt_of_le (zpv l) (qer _ _)
theorem zwq:∀(t:BTr) (f most:Nat) (r:List Nat),tok t->sml t->lv t<=most->most<=f->zgq f most (rb t++r)=some (t,r)
 | .box k,f,most,r,ht,hs,hl,hf=>by
   have hl:1<=most:=hl;obtain⟨f,rfl⟩:∃g,f=g+1:=⟨f - 1,by omega⟩
   show(if most<1 then none else(zjv 0 127 (nb k++r)).map λx=>(BTr.box x.1,x.2))=_;rw[if_neg (by omega),zpo r (qaz _) hs ht];rfl
 | .num k,f,most,r,ht,hs,hl,hf=>by
   have hl:1<=most:=hl;obtain⟨f,rfl⟩:∃g,f=g+1:=⟨f - 1,by omega⟩
   show(if most<1 then none else(zl5 16 0 0 (nb k++r)).map λx=>(BTr.num x.1,x.2))=_;rw[if_neg (by omega),z2a r ht];rfl
 | .op i u v,f,most,r,ht,hs,hl,hf=>by
   have hl:lv u+lv v<=most:=hl;have pu:=zpv u;have pv:=zpv v;obtain⟨f,rfl⟩:∃g,f=g+1:=⟨f - 1,by omega⟩
   obtain⟨x,y,z,w,e,q⟩:=pb4 i ht.1;have er:rb (.op i u v)++r=49 :: 49 :: x :: y :: z :: w :: (rb u++(rb v++r)):=by show(49 :: 49 :: pb i 4++rb u++rb v)++r=_;rw[e];simp
   rw[er];show(if most<1 then none else if bv [x,y,z,w]<9 then(zgq f (most - 1) (rb u++(rb v++r))).bind λa=>(zgq f (most - lv a.1) a.2).map λb=>(BTr.op (bv [x,y,z,w]) a.1 b.1,b.2) else none)=_;rw[if_neg (by omega),q,if_pos ht.1,zwq u f (most - 1) _ ht.2.1 hs.1 (by omega) (by omega)];show(zgq f (most - lv u) (rb v++r)).map (λb=>(BTr.op i u b.1,b.2))=_;rw[zwq v f (most - lv u) r ht.2.2 hs.2 (by omega) (by omega)];rfl
theorem zvl:∀(f most:Nat) (l:List Nat) (t:BTr) (r:List Nat),bts l->zgq f most l=some (t,r)->l=rb t++r/\tok t/\sml t/\lv t<=most:=by
 intro f
 induction f with
 | zero=>intro most l t r _ h; simp [zgq] at h
 | succ f ih =>
   intro most l t r hb h
   match l,hb,h with
   | [],_,h=>simp [zgq] at h
   | x :: l',hb,h =>
     rcases hb x (by simp) with rfl|rfl
     . have h:(if most<1 then none else(zjv 0 127 l').map λx=>(BTr.box x.1,x.2))=some (t,r):=h;split at h
       . cases h
       . cases e:zjv 0 127 l' with
         | none=>rw[e] at h; cases h
         | some x =>
           rw[e] at h;cases h;obtain⟨h1,_,h3,h4⟩:=zkv (λc hc=>hb c (by simp [hc])) (show zjv 0 127 l'=some (x.1,x.2) from e);refine⟨?_,h4,h3,by show 1<=most; omega⟩;rw[h1]; rfl
     . match l',hb,h with
       | [],_,h=>simp [zgq] at h
       | x :: l',hb,h =>
         rcases hb x (by simp) with rfl|rfl
         . have h:(if most<1 then none else(zl5 16 0 0 l').map λx=>(BTr.num x.1,x.2))=some (t,r):=h;split at h
           . cases h
           . cases e:zl5 16 0 0 l' with
             | none=>rw[e] at h; cases h
             | some x =>
               rw[e] at h;cases h;obtain⟨h1,h4⟩:=z2q (λc hc=>hb c (by simp [hc])) (show zl5 16 0 0 l'=some (x.1,x.2) from e);refine⟨?_,h4,trivial,by show 1<=most; omega⟩;rw[h1]; rfl
         . match l',hb,h with
           | [],_,h=>simp [zgq] at h
           | [_],_,h=>simp [zgq] at h
           | [_,_],_,h=>simp [zgq] at h
           | [_,_,_],_,h=>simp [zgq] at h
           | a :: b :: c :: d :: l',hb,h =>
             have h:(if most<1 then none else if bv [a,b,c,d]<9 then(zgq f (most - 1) l').bind λx=>(zgq f (most - lv x.1) x.2).map λy=>(BTr.op (bv [a,b,c,d]) x.1 y.1,y.2) else none)=some (t,r):=h;split at h
             . cases h
             . split at h
               . rename_i hm h9
                 cases e:zgq f (most - 1) l' with
                 | none=>rw[e] at h; cases h
                 | some x =>
                   rw[e] at h;have h:(zgq f (most - lv x.1) x.2).map (λy=>(BTr.op (bv [a,b,c,d]) x.1 y.1,y.2))=some (t,r):=h;have hl:bts l':=λc hc=>hb c (by simp [hc]);obtain⟨u1,u2,u3,u4⟩:=ih (most - 1) l' x.1 x.2 hl e;cases e2:zgq f (most - lv x.1) x.2 with
                   | none=>rw[e2] at h; cases h
                   | some y =>
                     rw[e2] at h;cases h;obtain⟨v1,v2,v3,v4⟩:=ih _ x.2 y.1 y.2 (λc hc=>hl c (by rw[u1]; simp [hc])) e2;have hp:=bv4 (hb a (by simp)) (hb b (by simp)) (hb c (by simp)) (hb d (by simp));have:=zpv y.1;refine⟨?_,⟨h9,u2,v2⟩,⟨u3,v3⟩,by show lv x.1+lv y.1<=most; omega⟩;show _=(49 :: 49 :: pb (bv [a,b,c,d]) 4++rb x.1++rb y.1)++y.2;rw[hp.2,u1,v1];simp
               . cases h
theorem z20:∀i<9,∀j<9,sgn i=sgn j->i=j:=by decide +kernel
theorem et (a b:List PyData):PyData.eqv (.tuple a) (.tuple b)=PyData.eqvAll a b:=by rw[PyData.eqv]
theorem ec (a b:PyData) (l m:List PyData):PyData.eqvAll (a :: l) (b :: m)=(PyData.eqv a b&&PyData.eqvAll l m):=by rw[PyData.eqvAll]
theorem es (a b:Str) (h:PyData.eqv (.str a) (.str b)=true):a=b:=by rw[PyData.eqv] at h; exact eq_of_beq h
theorem ei (a b:Nat) (h:PyData.eqv (.int a) (.int b)=true):a=b:=by rw[PyData.eqv] at h; exact Int.ofNat.inj (eq_of_beq h)
theorem e0 (a:PyData) (l:List PyData):PyData.eqvAll [] (a :: l)=false:=by rw[PyData.eqvAll]
theorem e0' (a:PyData) (l:List PyData):PyData.eqvAll (a :: l) []=false:=by rw[PyData.eqvAll]
theorem e2 {a b c d:PyData} (h:PyData.eqv (.tuple [a,b]) (.tuple [c,d])=true):PyData.eqv a c=true/\PyData.eqv b d=true:=by rw[et,ec,ec,qa3,qa3] at h;exact⟨h.1,h.2.1⟩
theorem e3 {a b c d e f:PyData} (h:PyData.eqv (.tuple [a,b,c]) (.tuple [d,e,f])=true):PyData.eqv a d=true/\PyData.eqv b e=true/\PyData.eqv c f=true:=by rw[et,ec,ec,ec,qa3,qa3,qa3] at h;exact⟨h.1,h.2.1,h.2.2.1⟩
theorem e23 {a b c d e:PyData} (h:PyData.eqv (.tuple [a,b]) (.tuple [c,d,e])=true):False:=by rw[et,ec,ec,e0,qdp,qdp] at h;cases h
theorem e32 {a b c d e:PyData} (h:PyData.eqv (.tuple [a,b,e]) (.tuple [c,d])=true):False:=by rw[et,ec,ec,e0',qdp,qdp] at h;cases h
theorem z7n {a:BTr}:∀{b:BTr},tok a->tok b->PyData.eqv (btD a) (btD b)=true->a=b:=by
 induction a with
 | box k =>
   intro b _ _ h;cases b with
   | box j=>rw[ei _ _ (e2 h).2]
   | num j=>exact absurd (es _ _ (e2 h).1) (by decide)
   | op i l r=>exact(e23 h).elim
 | num k =>
   intro b _ _ h;cases b with
   | num j=>rw[ei _ _ (e2 h).2]
   | box j=>exact absurd (es _ _ (e2 h).1) (by decide)
   | op i l r=>exact(e23 h).elim
 | op i l r hl hr =>
   intro b ha hb h;cases b with
   | num j=>exact(e32 h).elim
   | box j=>exact(e32 h).elim
   | op j u v =>
     have h:=e3 h;rw[z20 i ha.1 j hb.1 (es _ _ h.1),hl ha.2.1 hb.2.1 h.2.1,hr ha.2.2 hb.2.2 h.2.2]
theorem z2e {a b:Option BTr} (ha:pok a) (hb:pok b) (h:PyData.eqv (btO a) (btO b)=true):a=b:=by
 cases a with
 | none=>cases b with
   | none=>rfl
   | some t=>cases t <;> simp [btO,btD,PyData.eqv] at h
 | some t=>cases b with
   | none=>cases t <;> simp [btO,btD,PyData.eqv] at h
   | some u=>rw[z7n ha.1 hb.1 h]
def zov {α:Type} (f:Nat->List α->List Nat->Option (α×List Nat)):Nat->List Nat->Option (List α×List Nat)
 | 0,l=>some ([],l)
 | n+1,l=>(zov f n l).bind λx=>(f n x.1 x.2).map λy=>(x.1++[y.1],y.2)
theorem zhv {α:Type} {f:Nat->List α->List Nat->Option (α×List Nat)} {m:Nat}(h:zov f n l=none) (hm:n<=m):zov f m l=none:=by
 induction m with
 | zero=>rw[Nat.le_zero.mp hm] at h; exact h
 | succ m ih =>
   by_cases e:n=m+1
   . rw[<- e]; exact h
   . show(zov f m l).bind _=none;rw[ih (by omega)];rfl
theorem zgh {α:Type} {f:Nat->List α->List Nat->Option (α×List Nat)} {xs:List α} (h:zov f n l=some (xs,r)):zov f (n+1) l=(f n xs r).map λy=>(xs++[y.1],y.2):=by show(zov f n l).bind _=_;rw[h];rfl
theorem zjc {α:Type} {f:Nat->List α->List Nat->Option (α×List Nat)} {xs:List α} {e:Nat->List Nat} (h:∀(k:Nat) x r,xs[k]?=some x->f k (xs.take k) (e k++r)=some (x,r)):∀(n:Nat) (r:List Nat),n<=xs.length->zov f n (((List.range n).map e).flatten++r)=some (xs.take n,r)
 | 0,r,_=>rfl
 | n+1,r,hn=>by
   have ih:=zjc h n (e n++r) (by omega);have e1:((List.range (n+1)).map e).flatten++r=((List.range n).map e).flatten++(e n++r):=by rw[qby,List.map_append,qc7];simp
   have hx:=List.getElem?_eq_getElem (show n<xs.length by omega);rw[e1,zgh ih,h n _ r hx,qbj,hx];rfl
theorem zmo {α:Type} (d:α) {f:Nat->List α->List Nat->Option (α×List Nat)} {e:Nat->List α->α->List Nat} {I:Nat->α->Prop}
   (h:∀(k:Nat) acc r x r',bts r->acc.length=k->(∀(j:Nat) a,acc[j]?=some a->I j a)->f k acc r=some (x,r')->r=e k acc x++r'/\I k x) :
   ∀(n:Nat) (l:List Nat) (xs:List α) (r:List Nat),bts l->zov f n l=some (xs,r)->xs.length=n/\l=((List.range n).map λk=>e k (xs.take k) (xs.getD k d)).flatten++r/\∀(j:Nat) a,xs[j]?=some a->I j a
 | 0,l,xs,r,_,hm=>by cases hm; exact⟨rfl,rfl,λj a z=>by cases z⟩
 | n+1,l,xs,r,hb,hm=>by
   cases e1:zov f n l with
   | none=>rw[zhv e1 (qcp n)] at hm; cases hm
   | some x =>
     rw[zgh (show zov f n l=some (x.1,x.2) from e1)] at hm;cases e2:f n x.1 x.2 with
     | none=>rw[e2] at hm; cases hm
     | some y =>
       rw[e2] at hm;cases hm;obtain⟨h1,h2,h3⟩:=zmo d h n l x.1 x.2 hb e1;obtain⟨g1,g2⟩:=h n x.1 x.2 y.1 y.2 (λc hc=>hb c (by rw[h2]; simp [hc])) h1 h3 e2;refine⟨by rw[List.length_append,h1]; rfl,?_,λj a ha=>?_⟩
       . rw[qby,List.map_append,qc7,qbl,qep,qbv,List.flatten_nil,qbf];have e3:(List.range n).map (λk=>e k ((x.1++[y.1]).take k) ((x.1++[y.1]).getD k d))=(List.range n).map (λk=>e k (x.1.take k) (x.1.getD k d)):=qci λk hk=>by have hk:=qce.mp hk;rw[List.take_append_of_le_length (by omega),List.getD_eq_getElem?_getD,List.getD_eq_getElem?_getD,qb8 (by omega)]
         have e4:(x.1++[y.1]).take n=x.1:=by rw[<- h1]; simp
         have e5:(x.1++[y.1]).getD n d=y.1:=by rw[List.getD_eq_getElem?_getD,<- h1,qbw (qaj _),qex]; rfl
         rw[e3,e4,e5,qbd,<- g1,<- h2]
       . by_cases hj:j<n
         . rw[qb8 (by omega)] at ha;exact h3 j a ha
         . have:j=n:=by have:=(List.getElem?_eq_some_iff.mp ha).1;rw[List.length_append] at this;simp at this;omega
           subst this;rw[<- h1,qbw (qaj _),qex] at ha;cases ha;exact g2
def lkO (a:Option (Option BTr)) (o:Option BTr):Bool:=match a with
 | some a=>PyData.eqv (btO a) (btO o)
 | none=>false
theorem zwu (ah:List (Option BTr)) (o:Option BTr) (i:Nat):lkO ah[i]? o=lk ah o i:=rfl
def dPl (a:Option (Option BTr)):List Nat->Option (Option BTr×List Nat)
 | 49 :: r=>(zgq 8 8 r).bind λx=>if lkO a (some x.1)=true then none else some (some x.1,x.2)
 | 48 :: 48 :: r=>if lkO a none=true then none else some (none,r)
 | 48 :: 49 :: r=>a.map λa=>(a,r)
 | _=>none
def smO:Option BTr->Prop
 | none=>True
 | some t=>sml t
def pOk (o:Option BTr):Prop:=pok o/\smO o
theorem z4p {ah:List (Option BTr)} {i:Nat} {o:Option BTr} (r:List Nat) (ha:∀a∈ah,pok a) (ho:pOk o):dPl ah[i]? ((if lk ah o i=true then [48,49] else Pk.ob o)++r)=some (o,r):=by
 by_cases h:lk ah o i=true
 . rw[if_pos h];show(ah[i]?).map (λa=>(a,r))=_;unfold lk at h;cases e:ah[i]? with
   | none=>rw[e] at h; cases h
   | some a =>
     rw[e] at h;rw[<- z2e (ha a (List.mem_of_getElem? e)) ho.1 h];rfl
 . rw[if_neg h];rw[<- zwu] at h;cases o with
   | none=>show(if lkO ah[i]? none=true then none else some (none,r))=_; rw[if_neg h]
   | some t =>
     show((zgq 8 8 (rb t++r)).bind λx=>if lkO ah[i]? (some x.1)=true then none else some (some x.1,x.2))=_;rw[zwq t 8 8 r ho.1.1 ho.2 ho.1.2 (qaj _)];show(if lkO ah[i]? (some t)=true then none else some (some t,r))=_;rw[if_neg h]
theorem z6o {ah:List (Option BTr)} {i:Nat} {o:Option BTr} (hb:bts l) (ha:∀a∈ah,pOk a) (h:dPl ah[i]? l=some (o,r)):l=(if lk ah o i=true then [48,49] else Pk.ob o)++r/\pOk o:=by
 match l,hb,h with
 | [],_,h=>simp [dPl] at h
 | x :: l',hb,h =>
   rcases hb x (by simp) with rfl|rfl
   . match l',hb,h with
     | [],_,h=>simp [dPl] at h
     | x :: l',hb,h =>
       rcases hb x (by simp) with rfl|rfl
       . have h:(if lkO ah[i]? none=true then none else some (none,l'))=some (o,r):=h;split at h
         . cases h
         . rename_i hn
           cases h;rw[zwu] at hn;rw[if_neg hn];exact⟨rfl,trivial,trivial⟩
       . have h:(ah[i]?).map (λa=>(a,l'))=some (o,r):=h;cases e:ah[i]? with
         | none=>rw[e] at h; cases h
         | some a =>
           rw[e] at h;cases h;have hm:=ha o (List.mem_of_getElem? e);have:lk ah o i=true:=by unfold lk;rw[e];exact(znp hm.1).refl
           rw[if_pos this];exact⟨rfl,hm⟩
   . have h:((zgq 8 8 l').bind λx=>if lkO ah[i]? (some x.1)=true then none else some (some x.1,x.2))=some (o,r):=h;cases e:zgq 8 8 l' with
     | none=>rw[e] at h; cases h
     | some x =>
       rw[e] at h;have h:(if lkO ah[i]? (some x.1)=true then none else some (some x.1,x.2))=some (o,r):=h;split at h
       . cases h
       . rename_i hn
         cases h;rw[zwu] at hn;obtain⟨h1,h2,h3,h4⟩:=zvl 8 8 l' x.1 x.2 (λc hc=>hb c (by simp [hc])) e;rw[if_neg hn,h1];exact⟨rfl,⟨h2,h4⟩,h3⟩
def zo9 (ah:List (Option BTr)) (n:Nat) (l:List Nat):Option (List (Option BTr)×List Nat):=zov (λi _ r=>dPl ah[i]? r) n l
theorem zzw {ah pl:List (Option BTr)} (r:List Nat) (ha:∀a∈ah,pok a) (hp:∀o∈pl,pOk o):zo9 ah pl.length (vb ah pl++r)=some (pl,r):=by
 have:=zjc (f:=λi _ r=>dPl ah[i]? r) (xs:=pl) (e:=vb1 ah pl) (λk x r hx=>by
   have e:vb1 ah pl k=if lk ah x k=true then [48,49] else Pk.ob x:=by unfold vb1; rw[List.getD_eq_getElem?_getD,hx]; rfl
   rw[e];exact z4p r ha (hp x (List.mem_of_getElem? hx))) pl.length r (qaj _)
 rw[qbb] at this;exact this
theorem z2j {ah pl:List (Option BTr)} (hb:bts l) (ha:∀a∈ah,pOk a) (h:zo9 ah n l=some (pl,r)):l=vb ah pl++r/\pl.length=n/\∀o∈pl,pOk o:=by
 obtain⟨h1,h2,h3⟩:=zmo none (e:=λi _ o=>if lk ah o i=true then [48,49] else Pk.ob o) (I:=λ_ o=>pOk o) (λk acc r x r' hr _ _ hf=>z6o hr ha hf) n l pl r hb h;refine⟨?_,h1,λo ho=>?_⟩
 . subst h1;exact h2
 . obtain⟨k,hk⟩:=qb1 ho;exact h3 k o hk
def dFr (rl:List Nat) (l:List Nat):Option ((Nat×Nat)×List Nat):=(zjv 0 (rl.length - 1) l).bind λx=>(zjv 0 (rl.getD x.1 0 - 1) x.2).map λy=>((x.1,y.1),y.2)
def kk (ch:List (Nat×Nat)) (k:Nat):Nat:=(ch.getD k (0,0)).1
def zyy (rl:List Nat) (n:Nat) (l:List Nat):Option (List (Nat×Nat)×List Nat):=zov (λ_ _ r=>dFr rl r) n l
def dVs (cn:Nat->Nat) (m0:Mk) (ch:List (Nat×Nat)) (n:Nat) (l:List Nat):Option (List (List (Option BTr))×List Nat):=zov (λk _ r=>zo9 (ahd m0 k (kk ch k)) (cn (kk ch k)) r) n l
def zlb (rl:List Nat) (cn:Nat->Nat) (m0:Mk) (l:List Nat):Option (Mk×List Nat):=(zjv 1 3 l).bind λx=>(zyy rl x.1 x.2).bind λch=>(dVs cn m0 ch.1 ch.1.length ch.2).map λv=>(⟨ch.1,v.1⟩,v.2)
def zf0 (rl:List Nat) (cn:Nat->Nat) (n:Nat) (l:List Nat):Option (List Mk×List Nat):=zov (λk acc r=>zlb rl cn (prv acc k) r) n l
instance (l:List Nat):Decidable (bts l):=by unfold bts; infer_instance
def zu8 (rl:List Nat) (cn:Nat->Nat) (l:List Nat):Option (List Mk):=if bts l then(zjv 1 200 l).bind λx=>(zf0 rl cn x.1 x.2).bind λy=>if y.2=[] then some y.1 else none else none
structure MFit (rl:List Nat) (cn:Nat->Nat) (m:Mk):Prop where
 l1:1<=m.ch.length
 l3:m.ch.length<=3
 ix:∀c∈m.ch,c.1<rl.length/\c.2<rl.getD c.1 0
 vl:m.vs.length=m.ch.length
 cn:z7k cn m
 ok:∀v∈m.vs,∀o∈v,pOk o
structure RlOk (rl:List Nat) (cn:Nat->Nat):Prop where
 n1:1<=rl.length
 n12:rl.length<=12
 pos:∀n∈rl,1<=n/\n<=100
 cn:∀k,cn k<=24
variable {rl:List Nat} {cn:Nat->Nat}
theorem RlOk.at (h:RlOk rl cn) {k:Nat} (hk:k<rl.length):1<=rl.getD k 0/\rl.getD k 0<=100:=by rw[List.getD_eq_getElem?_getD,List.getElem?_eq_getElem hk];exact h.pos _ (qcd hk)
variable {m:Mk}
theorem MFit.mok (h:MFit rl cn m) (hr:RlOk rl cn):MOk rl.length m :=
 ⟨h.l3,λc hc=>⟨(h.ix c hc).1,by have:=h.ix c hc; have:=hr.at this.1; omega⟩,h.vl,λv hv=>by
   obtain⟨k,hk⟩:=qb1 hv;have hl:k<m.ch.length:=by rw[<- h.vl]; exact(List.getElem?_eq_some_iff.mp hk).1
   rw[h.cn k _ v (List.getElem?_eq_getElem hl) hk];exact hr.cn _,λv hv o ho=>(h.ok v hv o ho).1⟩
theorem z4h (hr:RlOk rl cn) {c:Nat×Nat} (h:c.1<rl.length/\c.2<rl.getD c.1 0) (r:List Nat):dFr rl (fB c++r)=some (c,r):=by have hk:=hr.at h.1;have h12:=hr.n12;unfold dFr fB;rw[qbd,zpo _ (qaz _) (by omega) (by rw[zle]; omega)];show(zjv 0 (rl.getD c.1 0 - 1) (nb c.2++r)).map _=_;rw[zpo r (qaz _) (by omega) (by rw[zle]; omega)];rfl
theorem z7d (hr:RlOk rl cn) {c:Nat×Nat} (hb:bts l) (h:dFr rl l=some (c,r)):l=fB c++r/\c.1<rl.length/\c.2<rl.getD c.1 0:=by
 unfold dFr at h;cases e:zjv 0 (rl.length - 1) l with
 | none=>rw[e] at h; cases h
 | some x =>
   rw[e] at h;have h:(zjv 0 (rl.getD x.1 0 - 1) x.2).map (λy=>((x.1,y.1),y.2))=some (c,r):=h;obtain⟨h1,_,h2,_⟩:=zkv hb (show _=some (x.1,x.2) from e);cases e2:zjv 0 (rl.getD x.1 0 - 1) x.2 with
   | none=>rw[e2] at h; cases h
   | some y =>
     rw[e2] at h;cases h;obtain⟨g1,_,g2,_⟩:=zkv (λc hc=>hb c (by rw[h1]; simp [hc])) (show _=some (y.1,y.2) from e2);have hn:=hr.n1;have hx:x.1<rl.length:=by omega
     have:=hr.at hx;refine⟨?_,hx,by show y.1<rl.getD x.1 0; omega⟩;rw[h1,g1];show _=(nb x.1++nb y.1)++y.2;rw[qbd]
theorem ztz (xs:List (Nat×Nat)):((List.range xs.length).map λk=>fB (xs.getD k (0,0))).flatten=(xs.map fB).flatten:=by
 congr 1;refine qdt λk=>?_;rw[List.getElem?_map,List.getElem?_map];by_cases h:k<xs.length
 . rw[qdh h,List.getElem?_eq_getElem h];show some (fB (xs.getD k (0,0)))=_;rw[List.getD_eq_getElem?_getD,List.getElem?_eq_getElem h];rfl
 . rw[qbi (by rw[qa9]; omega),qbi (by omega)];rfl
theorem z18 (hr:RlOk rl cn) {ch:List (Nat×Nat)} (h:∀c∈ch,c.1<rl.length/\c.2<rl.getD c.1 0) (r:List Nat):zyy rl ch.length ((ch.map fB).flatten++r)=some (ch,r):=by
 have:=zjc (f:=λ_ _ r=>dFr rl r) (xs:=ch) (e:=λk=>fB (ch.getD k (0,0))) (λk x r hx=>by rw[List.getD_eq_getElem?_getD,hx];exact z4h hr (h x (List.mem_of_getElem? hx)) r) ch.length r (qaj _)
 rw[qbb,ztz] at this;exact this
theorem z00 (hr:RlOk rl cn) {ch:List (Nat×Nat)} (hb:bts l) (h:zyy rl n l=some (ch,r)):l=(ch.map fB).flatten++r/\ch.length=n/\∀c∈ch,c.1<rl.length/\c.2<rl.getD c.1 0:=by obtain⟨h1,h2,h3⟩:=zmo (0,0) (e:=λ_ _ c=>fB c) (I:=λ_ c=>c.1<rl.length/\c.2<rl.getD c.1 0) (λk acc r x r' hb _ _ hf=>z7d hr hb hf) n l ch r hb h;subst h1;rw[ztz] at h2;refine⟨h2,rfl,λc hc=>?_⟩;obtain⟨k,hk⟩:=qb1 hc;exact h3 k c hk
theorem zx4 {P:Option BTr->Prop} (h:∀v∈m.vs,∀o∈v,P o) (l k:Nat):∀o∈ahd m l k,P o:=λo ho=>by
 unfold ahd at ho;split at ho
 . rw[List.getD_eq_getElem?_getD] at ho;cases e:m.vs[l]? with
   | none=>rw[e] at ho; cases ho
   | some v=>rw[e] at ho; exact h v (List.mem_of_getElem? e) o ho
 . cases ho
theorem z0k (hr:RlOk rl cn) {m0:Mk}(h0:∀v∈m0.vs,∀o∈v,pok o) (h:MFit rl cn m) (r:List Nat):zlb rl cn m0 (mb m0 m++r)=some (m,r):=by
 have h3:=h.l3;unfold zlb mb;rw[qbd,qbd,zpo _ h.l1 h3 (by rw[zle]; omega)];show((zyy rl m.ch.length ((m.ch.map fB).flatten++(((List.range m.ch.length).map (wB m0 m)).flatten++r))).bind _)=_;rw[z18 hr h.ix];show(dVs cn m0 m.ch m.ch.length (((List.range m.ch.length).map (wB m0 m)).flatten++r)).map _=_;have:=zjc (f:=λk _ r=>zo9 (ahd m0 k (kk m.ch k)) (cn (kk m.ch k)) r) (xs:=m.vs) (e:=wB m0 m) (λk v r hv=>by
   have hl:k<m.ch.length:=by rw[<- h.vl]; exact(List.getElem?_eq_some_iff.mp hv).1
   have hc:=List.getElem?_eq_getElem hl;have e1:cn (kk m.ch k)=v.length:=by rw[h.cn k _ v hc hv];unfold kk;rw[List.getD_eq_getElem?_getD,hc];rfl
   have e2:wB m0 m k=vb (ahd m0 k (kk m.ch k)) v:=by unfold wB;rw[zvv hv];rfl
   rw[e1,e2];exact zzw r (zx4 h0 _ _) (h.ok v (List.mem_of_getElem? hv))) m.ch.length r (by rw[h.vl]; exact qaj _)
 unfold dVs;rw[this,<- h.vl,qbb];rfl
theorem z21 (hr:RlOk rl cn) {m0:Mk}(h0:∀v∈m0.vs,∀o∈v,pOk o) (hb:bts l) (h:zlb rl cn m0 l=some (m,r)):l=mb m0 m++r/\MFit rl cn m:=by
 unfold zlb at h;cases e:zjv 1 3 l with
 | none=>rw[e] at h; cases h
 | some x =>
   rw[e] at h;have h:(zyy rl x.1 x.2).bind (λch=>(dVs cn m0 ch.1 ch.1.length ch.2).map λv=>((⟨ch.1,v.1⟩:Mk),v.2))=some (m,r):=h;obtain⟨h1,h2,h3,_⟩:=zkv hb (show _=some (x.1,x.2) from e);have hb2:bts x.2:=λc hc=>hb c (by rw[h1]; simp [hc]);cases e2:zyy rl x.1 x.2 with
   | none=>rw[e2] at h; cases h
   | some y =>
     rw[e2] at h;have h:(dVs cn m0 y.1 y.1.length y.2).map (λv=>((⟨y.1,v.1⟩:Mk),v.2))=some (m,r):=h;obtain⟨g1,g2,g3⟩:=z00 hr hb2 (show _=some (y.1,y.2) from e2);have hb3:bts y.2:=λc hc=>hb2 c (by rw[g1]; simp [hc]);cases e3:dVs cn m0 y.1 y.1.length y.2 with
     | none=>rw[e3] at h; cases h
     | some z =>
       rw[e3] at h;cases h;obtain⟨k1,k2,k3⟩:=zmo [] (e:=λk _ v=>vb (ahd m0 k (kk y.1 k)) v) (I:=λk v=>v.length=cn (kk y.1 k)/\∀o∈v,pOk o) (λk acc r x r' hb _ _ hf=>z2j hb (zx4 h0 _ _) hf) _ y.2 z.1 z.2 hb3 e3;refine⟨?_,?_⟩
       . show _=(nb y.1.length++(y.1.map fB).flatten++((List.range y.1.length).map (wB m0 ⟨y.1,z.1⟩)).flatten)++z.2;rw[h1,g2,g1,k2,qbd,qbd];rw[show y.1.length=x.1 from g2];rfl
       . refine⟨by show 1<=y.1.length; omega,by show y.1.length<=3; omega,g3,k1,λj c v hc hv=>?_,λv hv o ho=>?_⟩
         . rw[(k3 j v hv).1];unfold kk;rw[List.getD_eq_getElem?_getD,show y.1[j]?=some c from hc];rfl
         . obtain⟨k,hk⟩:=qb1 hv;exact(k3 k v hk).2 o ho
theorem ztc (ms:List Mk) (k:Nat):prv (ms.take k) k=prv ms k:=by
 cases k with
 | zero=>rfl
 | succ k =>
   show(ms.take (k+1)).getD k mk0=ms.getD k mk0;rw[List.getD_eq_getElem?_getD,List.getD_eq_getElem?_getD,List.getElem?_take,if_pos (qcc k)]
variable {ms:List Mk}
theorem z08 {P:Option BTr->Prop} (h:∀m∈ms,∀v∈m.vs,∀o∈v,P o) (k:Nat):∀v∈(prv ms k).vs,∀o∈v,P o:=by
 cases k with
 | zero=>exact λv hv=>by cases hv
 | succ k =>
   show ∀v∈(ms.getD k mk0).vs,_;rw[List.getD_eq_getElem?_getD];cases e:ms[k]? with
   | none=>exact λv hv=>by cases hv
   | some m=>exact h m (List.mem_of_getElem? e)
theorem zyg (hr:RlOk rl cn) (h:∀m∈ms,MFit rl cn m) (r:List Nat):zf0 rl cn ms.length ((mbs ms ms.length).flatten++r)=some (ms,r):=by
 have:=zjc (f:=λk acc r=>zlb rl cn (prv acc k) r) (xs:=ms) (e:=λj=>mb (prv ms j) (ms.getD j mk0)) (λk m r hm=>by rw[ztc,List.getD_eq_getElem?_getD,hm];exact z0k hr (z08 (λm hm v hv o ho=>((h m hm).ok v hv o ho).1) k) (h m (List.mem_of_getElem? hm)) r) ms.length r (qaj _)
 rw[qbb] at this;exact this
theorem ztt (hr:RlOk rl cn) (hb:bts l) (h:zf0 rl cn n l=some (ms,r)):l=(mbs ms n).flatten++r/\ms.length=n/\∀m∈ms,MFit rl cn m:=by
 obtain⟨h1,h2,h3⟩:=zmo mk0 (e:=λk acc m=>mb (prv acc k) m) (I:=λ_ m=>MFit rl cn m) (λk acc r x r' hb hl ha hf=>z21 hr (z08 (λm hm v hv o ho=>by obtain⟨j,hj⟩:=qb1 hm;exact(ha j m hj).ok v hv o ho) k) hb hf) n l ms r hb h
 refine⟨?_,h1,λm hm=>?_⟩
 . rw[h2];congr 2;exact qci λk _=>by rw[ztc]
 . obtain⟨j,hj⟩:=qb1 hm;exact h3 j m hj
theorem z25 (hr:RlOk rl cn) (h:∀m∈ms,MFit rl cn m) (h1:1<=ms.length) (h2:ms.length<=200):zu8 rl cn (zib ms)=some ms:=by unfold zu8;rw[if_pos (zwt ms)];unfold zib;rw[zpo _ h1 h2 (by rw[zle]; omega)];show((zf0 rl cn ms.length (mbs ms ms.length).flatten).bind _)=_;have:=zyg hr h [];rw[qbf] at this;rw[this];rfl
theorem z36 (hr:RlOk rl cn) (h:zu8 rl cn l=some ms):l=zib ms/\1<=ms.length/\ms.length<=200/\∀m∈ms,MFit rl cn m:=by
 unfold zu8 at h;split at h
 . rename_i hb
   cases e:zjv 1 200 l with
   | none=>rw[e] at h; cases h
   | some x =>
     rw[e] at h;have h:(zf0 rl cn x.1 x.2).bind (λy=>if y.2=[] then some y.1 else none)=some ms:=h;obtain⟨h1,h2,h3,_⟩:=zkv hb (show _=some (x.1,x.2) from e);cases e2:zf0 rl cn x.1 x.2 with
     | none=>rw[e2] at h; cases h
     | some y =>
       rw[e2] at h;have h:(if y.2=[] then some y.1 else none)=some ms:=h;split at h
       . rename_i hn
         cases h;obtain⟨g1,g2,g3⟩:=ztt hr (λc hc=>hb c (by rw[h1]; simp [hc])) (show _=some (y.1,y.2) from e2);refine⟨?_,by omega,by omega,g3⟩;unfold zib;rw[h1,g1,hn,qbf,g2]
       . cases h
 . cases h
end Dc
namespace Ex
open PySem PySem.W PyProof.Rows PySem.Spec
variable {rest:List Value}
section
variable {prog:Program} {w:World} {A:Around} {E:Value->Shared->Prop} {R:Result->Shared->Prop} {h:Heap} {g:Array GenState} {d:Drawn} {t:Nat} {os:OsState}
 {nm q:Str} {C N:Addr} {bs bm:List Value} {hdct:Bool} {sn:List Str} {sub:List Value} {ab:Bool} {col:Option Bool} {dd:Option Addr} {k0 k1 k2 k3 k5:Option Value}
structure VE (C:Addr) (bm:List Value):Prop where
 b:(Value.ref C :: bm).contains (.type "ValueError")=true
 e:(Value.ref C :: bm).contains (.type "BaseException")=true
 a:(Value.ref C :: bm).contains (.type "AttributeError")=false
 n:(Value.ref C :: bm).contains (.type "NameError")=false
theorem z19 {M:Model} (hC:h.get? C=some (excClassObj nm q C N bs bm hdct sn sub ab col dd k0 k1 k2 k3 k5 "ValueError.__new__")) (V:VE C bm) {Q:Unit->Shared->Prop}
   (hq:Q () ⟨h,g,d,t,os⟩):wpAny M A (checkBuiltinCall "ValueError.__new__" ⟨.ref C :: rest,[]⟩) Q E ⟨h,g,d,t,os⟩:=by
 have F:=qck;have v:=V.b;have st:=F.noStar;simp only[checkBuiltinCall,F.newKind,F.newSplit,F.newRow]
 repeat (first|refine qb7 hC ?_|(refine qc8 hC ?_; rw[v])|refine wpAny_staticBase_exc hC ?_|refine wpAny_madeBy_exc hC ?_|simp only[bne_self_eq_false,qcw,if_false] | wp_step)
 exact hq
def zuu (h:Heap) (C:Addr) (rest:List Value):Heap:=(h.push { cls:=.type "tuple",data:=.seq rest.toArray }).push { cls:=.ref C,data:=.fields #[.ref h.objs.size,.none,.none,.none,.bool false,.none] }
theorem heapX_keeps :∀b o,h.get? b=some o->(zuu h C rest).get? b=some o:=λ_ _ e=>Heap.get?_push_of_some _ (Heap.get?_push_of_some _ e)
theorem heapX_at :(zuu h C rest).get? (h.objs.size+1)=some { cls:=.ref C,data:=.fields #[.ref h.objs.size,.none,.none,.none,.bool false,.none] }:=by unfold zuu; heap_get
theorem z67 (hC:h.get? C=some (excClassObj nm q C N bs bm hdct sn sub ab col dd k0 k1 k2 k3 k5 "ValueError.__new__")) (V:VE C bm) (hz:rest.length<=sizeLine)
   (hq:R (.ok (.ret (.ref (h.objs.size+1)))) ⟨zuu h C rest,g,d,t,os⟩):codeAny (model prog w) A (.builtin "ValueError.__new__" ⟨.ref C :: rest,[]⟩) R ⟨h,g,d,t,os⟩:=by
 have F:=qck;have en:=F.ends;have vb:=V.b;have va:=V.a;have vn:=V.n;refine codeAny_builtinAt F.entry ?_;unfold Builtin.«BaseException.__new__»;refine PySem.wpAt_bind ?_;show PySem.wpAt _ _ _ (stack >>= _) _ _ _;refine PySem.wpAt_bind (PySem.wpAt_stack λp below=>PySem.wpAt_of_wpAny ?_)
 wp_walk
 refine PySem.wpAt_of_wpAny ?_;rw[F.owner]
 repeat (first|with_reducible refine wpAny_madeHere_exc F.canon hC ?_|with_reducible refine qb7 hC ?_|(with_reducible refine qc8 hC ?_; first|rw[vb] | rw[va] | rw[vn])|wp_step)
 show R _ _;rw[qb4];exact hq
theorem z5s (hC:h.get? C=some (excClassObj nm q C N bs bm hdct sn sub ab col dd k0 k1 k2 k3 k5 "ValueError.__new__")) (V:VE C bm) (hz:rest.length<=sizeLine) {fI:Value}
   (hi:Looks (model prog w) h (typeLookup (.ref C) "__init__") (some fI)) (hb:Looks (model prog w) h (bindSpecial fI (.ref (h.objs.size+1))) (fI,[.ref (h.objs.size+1)])) {Q:Fin->Shared->Prop}
   (hq:wpAny (model prog w) A (call fI (.ref (h.objs.size+1) :: rest)) (λr s'=>r=.none/\Q (.done (.ret (.ref (h.objs.size+1)))) s') E ⟨zuu h C rest,g,d,t,os⟩) :
   wpAny (model prog w) A (Builtin.«type.__call__» ⟨.ref C :: rest,[]⟩) Q E ⟨h,g,d,t,os⟩:=by
 repeat (first|with_reducible refine qb7 hC ?_|with_reducible refine wpAny_madeBy_exc hC ?_|wp_step)
 refine codeAny_call_builtin_code (Code.quiet_builtin _ qck.quiet) (z19 hC V ?_);refine z67 hC V hz ?_;show wpAny _ _ _ _ _ _;have hC1:=heapX_keeps (C:=C) (rest:=rest) _ _ hC;have hg:=heapX_at (h:=h) (C:=C) (rest:=rest);have hcC:(Value.ref C :: bm).contains (.ref C)=true:=by simp
 have i1:=hi.keeps (heapX_keeps (C:=C) (rest:=rest));have b1:=hb.keeps (heapX_keeps (C:=C) (rest:=rest));unfold isInstance
 repeat (first|with_reducible refine qb7 hg ?_|(with_reducible refine qc8 hC1 ?_; rw[hcC])|wp_step)
 show wpAny _ _ (typeLookup (.ref C) _) _ _ _;refine i1.at ?_;refine qbs (wpAny_bind ?_);refine b1.at ?_;refine wpAny_bind (qb0 hq (λr s' hr=>?_) λ_ _ x=>x);obtain⟨rfl,hQ⟩:=hr
 wp_walk
 exact hQ
theorem x_call (hC:h.get? C=some (excClassObj nm q C N bs bm hdct sn sub ab col dd k0 k1 k2 k3 k5 "ValueError.__new__")) (V:VE C bm) (hz:rest.length<=sizeLine) {fI:Value}
   (hi:Looks (model prog w) h (typeLookup (.ref C) "__init__") (some fI)) (hb:Looks (model prog w) h (bindSpecial fI (.ref (h.objs.size+1))) (fI,[.ref (h.objs.size+1)])) {Q:Value->Shared->Prop}
   (hq:wpAny (model prog w) (A.under (.builtin "type.__call__" ⟨.ref C :: rest,[]⟩)) (call fI (.ref (h.objs.size+1) :: rest)) (λr s'=>r=.none/\Q (.ref (h.objs.size+1)) s') E ⟨zuu h C rest,g,d,t,os⟩) :
   wpAny (model prog w) A (call (.ref C) rest) Q E ⟨h,g,d,t,os⟩:=by
 have f1:=tc_lookup;have f2:=tc_bind (.ref C);have hT:(⟨h,g,d,t,os⟩:Shared).TypeIs (.ref C) "type":=⟨_,hC,rfl⟩
 refine qd1 (codeAny_of_tree ?_);show wpAny _ _ (callAny (.ref C) _) _ _ _
 repeat (any_goals (first|assumption|with_reducible refine qb7 hC ?_|wp_step))
 refine⟨rfl,?_⟩;exact codeAny_call_builtin_at (Code.quiet_builtin _ (by decide +kernel)) entry_typeCall (wpAny_check_type_call_sub hC (z5s hC V hz hi hb hq))
theorem x_raise {M:Model} {env:Env} {s:Shared} {x:Sem Value} {Q:Flow->Shared->Prop} (hh:A.handled=none)
   (hx:wpAny M A x (λv s₁=>∃e o vs,v=.ref e/\s₁.heap.get? C=some (excClassObj nm q C N bs bm hdct sn sub ab col dd k0 k1 k2 k3 k5 "ValueError.__new__")/\VE C bm /\
     s₁.heap.get? e=some o/\o.cls=.ref C/\o.data=.fields vs/\vs[1]?=some .none/\E (.ref e) s₁) E s):wpAny M A (raiseStmt env (some x) none) Q E s:=by
 unfold raiseStmt;refine wpAny_bind (qb0 hx (λv s₁ h₁=>?_) λ_ _ x=>x);obtain⟨e,o,vs,rfl,hC,V,he,hc,hd,h1,hE⟩:=h₁;obtain⟨hp,g,d,tk,os⟩:=s₁;obtain⟨oc,od,oda,osl⟩:=o;dsimp only at hc hd;subst hc hd;have ve:=V.e
 repeat (first|with_reducible refine qb7 he ?_|with_reducible refine qb7 hC ?_|(with_reducible refine qc8 hC ?_; rw[ve])|wp_step)
 rw[h1];refine wpAny_pure ?_;rw[if_neg (by decide)];exact wpAny_pure (wpAny_raiseNew_none hh hE)
end
end Ex
namespace Ex
open PySem PySem.W PyProof.Rows PySem.Spec L2
structure Mvd (S:List Addr) (D:Addr->Prop) (h h':Heap):Prop where
 keep:∀b o,¬ D b->b ∉ S->h.get? b=some o->h'.get? b=some o
 slot:∀b o,¬ D b->h.get? b=some o->∃sl,h'.get? b=some { o with slots:=sl }
theorem Mvd.trans {S:List Addr} {D:Addr->Prop} {h h1 h2:Heap} (a:Mvd S D h h1) (b:Mvd S D h1 h2):Mvd S D h h2 :=
 ⟨λc o n m e=>b.keep c o n m (a.keep c o n m e),λc o n e=>by obtain⟨sl,e1⟩:=a.slot c o n e;obtain⟨sl2,e2⟩:=b.slot c _ n e1;exact⟨sl2,e2⟩⟩
theorem Mvd.mono {S:List Addr} {D D':Addr->Prop} {h h':Heap} (a:Mvd S D h h') (hd:∀b,D b->D' b):Mvd S D' h h':=⟨λb o n=>a.keep b o λz=>n (hd b z),λb o n=>a.slot b o λz=>n (hd b z)⟩
def Tr (h:Heap) (e:Addr) (cls:Value) (d:Option Addr) (T:Addr) (fl:Value):Prop :=
 ∃o vs oT ts,h.get? e=some o/\o.cls=cls/\o.dict=d/\o.data=.fields vs/\vs[1]?=some (.ref T)/\T≠e/\h.get? T=some oT/\oT.data=.fields ts/\ts[3]?=some fl
def Raw (h:Heap) (e:Addr) (cls:Value) (d:Option Addr):Prop:=∃o vs,h.get? e=some o/\o.cls=cls/\o.dict=d/\o.data=.fields vs/\vs[1]?=some .none
section
variable {M:Model} {A:Around} {E:Value->Shared->Prop} {s:Shared} {base:Heap} {env:Env} {outer:List Env} {L e:Addr} {cls:Value} {d:Option Addr}
theorem mapF (f:Array Value->Array Value) {o:Obj} {vs:Array Value} (hd:o.data=.fields vs):Obj.mapFields f o={ o with data:=.fields (f vs) }:=by obtain⟨c,d,dt,sl⟩:=o;dsimp only at hd;subst hd;rfl
theorem zr2 {oe:Obj} {vs:Array Value} {head:Value} {hadNext:Bool} {Q:Unit->Shared->Prop} (hfr:A.frames=some (env :: outer)) (hl:s.heap.FunFrames base (env :: outer)) (hf:env.frame=some L)
   (he:s.heap.get? e=some oe) (hd:oe.data=.fields vs) (hsz:1<vs.size)
   (h:∀h' T,s.heap.get? T=none->Mvd (frs (env :: outer)) (λb=>b=e) s.heap h'->Tr h' e oe.cls oe.dict T (rawInt L)->Q () { s with heap:=h' }) :
   wpAny M A (do let a <- frameOf env; let pl <- entryPlaceOf L hadNext; let b <- EntryCells.newEntry head a .none (rawInt L) .none pl; setField (.ref e) 1 b) Q E s:=by
 have hene:e ∉ frs (env :: outer):=λhm=>by obtain⟨_,o,ho,hnf⟩:=hl.mem hm;rw[he] at ho; cases ho; exact hnf vs hd
 refine wpAny_bind (wpAny_frameOf_fun hfr hl hf λh₁ hs₁=>?_);refine wpAny_bind (wpAny_entryPlaceOf λpl hpl=>?_);unfold EntryCells.newEntry newFields;refine wpAny_bind (qdf ?_ (hpl.sizeOk5 _ _ _ _ _));have he₁:h₁.get? e=some oe:=(hs₁.2.1 e hene).trans he;have he₂:=Heap.get?_push_of_some (h:=h₁) { cls:=.type "traceback",dict:=none,data:=.fields ([head,.ref L,.none,rawInt L,.none]++(if pl.isEmpty then List.replicate 6 Value.none else pl)).toArray } he₁;refine qdg he₂ hd hsz (h _ h₁.objs.size (qcq (by rw[hs₁.1]; exact qaj _)) ?_ ?_)
 . refine⟨λb o hb hm hbo=>?_,λb o hb hbo=>?_⟩
   . rw[qbr _ _ (Ne.symm hb)];exact Heap.get?_push_of_some _ ((hs₁.2.1 b hm).trans hbo)
   . obtain⟨sl,e1⟩:=hs₁.2.2 b o hbo;refine⟨sl,?_⟩;rw[qbr _ _ (Ne.symm hb)];exact Heap.get?_push_of_some _ e1
 . have hTe:h₁.objs.size≠e:=qcu (Heap.lt_size he₁);have hd₃:=Obj.data_mapFields hd (·.setIfInBounds 1 (Value.ref h₁.objs.size));have he₃:=qb9 (Obj.mapFields (·.setIfInBounds 1 (Value.ref h₁.objs.size))) he₂ (Obj.isFreed_of_fields hd₃);have hT₃:=(qbr (h₁.push { cls:=.type "traceback",dict:=none,data:=.fields ([head,.ref L,.none,rawInt L,.none]++(if pl.isEmpty then List.replicate 6 Value.none else pl)).toArray })
     (Obj.mapFields (·.setIfInBounds 1 (Value.ref h₁.objs.size))) (Ne.symm hTe)).trans (qat h₁ rfl)
   refine⟨_,_,_,_,he₃,?_,?_,hd₃,by simp [hsz],hTe,hT₃,rfl,by first|(simp; done)|(rcases hpl with rfl|⟨_,_,_,_,_,_,_,rfl⟩ <;> simp)⟩
   . rw[mapF _ hd]
   . rw[mapF _ hd]
theorem x_mark {T:Addr} {fl:Value} {fr:Option Addr} {Q:Unit->Shared->Prop} (ht:Tr s.heap e cls d T fl)
   (h:∀h',Mvd [] (λb=>b=T) s.heap h'->Tr h' e cls d T (fr.elim .none λf=>rawInt f)->Q () { s with heap:=h' }):wpAny M A (setFlight (.ref e) fr) Q E s:=by
 obtain⟨o,vs,oT,ts,he,hc,hdc,hd,h1,hTe,hT,hdT,h3⟩:=ht;have hsz:3<ts.size:=(qb2.mp h3).1;unfold setFlight;refine wpAny_bind (qbp he hd h1 ?_);rw[if_pos (show(Value.ref T != Value.none)=true from by simp)];have other:∀(g:Obj->Obj) (b:Addr),b≠T->(s.heap.update T g).get? b=s.heap.get? b:=λg b hb=>qbr _ _ (Ne.symm hb);refine qdg hT hdT hsz (h _ ⟨λb o hb _ hbo=>(other _ b hb).trans hbo,λb o hb hbo=>⟨o.slots,(other _ b hb).trans hbo⟩⟩ ?_);exact⟨o,vs,_,_,(other _ e (Ne.symm hTe)).trans he,hc,hdc,hd,h1,hTe,qb9 _ hT (Obj.isFreed_of_fields (Obj.data_mapFields hdT _)),Obj.data_mapFields hdT _,by simp [hsz]⟩
theorem x_noteR {Q:Unit->Shared->Prop} (hfr:A.frames=some (env :: outer)) (hl:s.heap.FunFrames base (env :: outer)) (hf:env.frame=some L) (hr:Raw s.heap e cls d)
   (h:∀h' T,s.heap.get? T=none->Mvd (frs (env :: outer)) (λb=>b=e) s.heap h'->Tr h' e cls d T (rawInt L)->Q () { s with heap:=h' }):wpAny M A (noteFrame (.ref e) env) Q E s:=by
 obtain⟨o,vs,he,rfl,rfl,hd,h1⟩:=hr;unfold noteFrame;simp only[hf];refine wpAny_bind (qbp he hd h1 ?_);rw[if_neg (by decide)];exact zr2 hfr hl hf he hd (qb2.mp h1).1 h
theorem x_noteT {T0:Addr} {Q:Unit->Shared->Prop} (hfr:A.frames=some (env :: outer)) (hl:s.heap.FunFrames base (env :: outer)) (hf:env.frame=some L) (hr:Tr s.heap e cls d T0 .none)
   (h:∀h' T,s.heap.get? T=none->Mvd (frs (env :: outer)) (λb=>b=e\/b=T0) s.heap h'->Tr h' e cls d T (rawInt L)->Q () { s with heap:=h' }):wpAny M A (noteFrame (.ref e) env) Q E s:=by
 obtain⟨o,vs,oT,ts,he,rfl,rfl,hd,h1,hTe,hT,hdT,h3⟩:=hr;unfold noteFrame;simp only[hf];refine wpAny_bind (qbp he hd h1 ?_);rw[if_pos (show(Value.ref T0 != Value.none)=true from by simp)];refine wpAny_bind (qbp hT hdT h3 ?_);rw[if_neg (show ¬ ((Value.none==rawInt L)=true) from by simp [rawInt])];refine wpAny_bind (qdg hT hdT (qb2.mp h3).1 ?_);have other:∀(g:Obj->Obj) (b:Addr),b≠T0->(s.heap.update T0 g).get? b=s.heap.get? b:=λg b hb=>qbr _ _ (Ne.symm hb);have noT:∀b o,s.heap.get? b=some o->(∀vs,o.data≠.fields vs)->b≠T0:=λb o hb hnf q=>by rw[q,hT] at hb; cases hb; exact hnf ts hdT
 have m1:Mvd (frs (env :: outer)) (λb=>b=e\/b=T0) s.heap (s.heap.update T0 (Obj.mapFields (·.setIfInBounds 3 Value.none))) :=
   ⟨λb o hb _ hbo=>(other _ b λz=>hb (.inr z)).trans hbo,λb o hb hbo=>⟨o.slots,(other _ b λz=>hb (.inr z)).trans hbo⟩⟩
 have hl2:(s.heap.update T0 (Obj.mapFields (·.setIfInBounds 3 Value.none))).FunFrames base (env :: outer):=hl.of_keeps λb o hb hnf=>⟨o,(other _ b (noT b o hb hnf)).trans hb,rfl⟩
 refine zr2 (s:={ s with heap:=s.heap.update T0 (Obj.mapFields (·.setIfInBounds 3 Value.none)) }) hfr hl2 hf ((other _ e (Ne.symm hTe)).trans he) hd (qb2.mp h1).1 λh' T hT' m2 tr=>h h' T ?_ (m1.trans (m2.mono λb z=>.inl z)) tr;by_cases z:T=T0
 . subst z;exfalso;have q:=qb9 (Obj.mapFields (·.setIfInBounds 3 Value.none)) hT (Obj.isFreed_of_fields (Obj.data_mapFields hdT _));dsimp only at hT';rw[q] at hT'; cases hT'
 . dsimp only at hT';rwa [other _ T z] at hT'
end
end Ex
namespace L2
open PySem PySem.Spec PyProof.Rows
def XO (e C:Addr) (d:Option Addr):HO:=.ext λh=>∃t,h.get? e=some { cls:=.ref C,dict:=d,data:=.fields #[.ref t,.none,.none,.none,.bool false,.none] }
def XC (e C:Addr) (d:Option Addr):HO:=.ext λh=>∃o vs,h.get? e=some o/\o.cls=.ref C/\o.dict=d/\o.data=.fields vs
def XCls (K:W.Frag) (C:Addr):Prop:=∃(nm q:Str) (N:Addr) (bs bm:List Value) (sn:List Str) (sub:List Value) (ab:Bool) (col:Option Bool) (dd:Option Addr) (k0 k1 k2 k3 k5:Option Value),
 K.lookup C=some (excClassObj nm q C N bs bm true sn sub ab col dd k0 k1 k2 k3 k5 "ValueError.__new__")/\Ex.VE C bm
def CXe (P:Program) (w:World):CXT:=λouter H s E e s'=>∃ea cls d T H',e=.ref ea/\s'.os=s.os/\AllBare s'.gens/\Un (frs outer) [] H H' s.heap s'.heap/\HOk P w H' s'.heap /\
 s.heap.get? ea=none/\H' ea=none/\s.heap.get? T=none/\H' T=none/\Ex.Tr s'.heap ea cls d T .none/\E cls d H'
section
variable {P:Program} {w:World} {H H':Hp} {h h':Heap} {a:Addr} {o:HO} {fs S:List Addr} {D:Addr->Prop} {H0:Hp} {h0:Heap}
theorem zdk.some_at (x:zdk P w H h a o):∃u,h.get? a=some u:=by
 cases o with
 | lst xs=>obtain⟨_,_,_,_,e⟩:=x; exact⟨_,e⟩
 | tup xs=>obtain⟨_,_,_,ob,e,_⟩:=x; exact⟨_,e⟩
 | dK kvs=>obtain⟨_,_,_,_,o,_,_,e,_⟩:=x; exact⟨_,e⟩
 | dT kvs=>obtain⟨_,_,_,_,o,_,_,e,_⟩:=x; exact⟨_,e⟩
 | set S n=>obtain⟨o,_,_,_,e,_⟩:=x; exact⟨_,e⟩
 | ins C dx fs=>obtain⟨_,_,_,e,_⟩:=x; exact⟨_,e⟩
 | own y=>exact x
 | xd fs=>obtain⟨_,⟨_,_,_,e,_⟩,_⟩:=x; exact⟨_,e⟩
 | rng lo hi=>obtain⟨_,_,_,e⟩:=x; exact⟨_,e⟩
 | frz ob u=>obtain⟨e,_⟩:=x; exact⟨_,e⟩
 | tbl ps=>exact⟨_,(show h.get? a=some _ from x)⟩
 | met f y=>exact⟨_,(show h.get? a=some _ from x)⟩
 | ext φ=>exact x.2.1
theorem HOk.none_of (x:HOk P w H h) (e:h.get? a=none):H a=none:=by
 cases q:H a with
 | none=>rfl
 | some u=>obtain⟨v,z⟩:=(x a u q).some_at; rw[e] at z; cases z
theorem Un.moved (u:Un fs [] H0 H h0 h) (m:Ex.Mvd S D h h') (hD:∀b,D b->h0.get? b=none) (hS:∀b∈S,b∈fs\/h0.get? b=none):Un fs [] H0 H h0 h' where
 keep:=λb o q n hb hx=>m.keep b o (λz=>by rw[hD b z] at q; cases q) (λz=>(hS b z).elim hb λr=>by rw[r] at q; cases q) (u.keep b o q n hb hx)
 slot:=λb o q n hb hx=>by obtain⟨sl,e⟩:=u.slot b o q n hb hx;obtain⟨sl2,e2⟩:=m.slot b _ (λz=>by rw[hD b z] at q; cases q) e;exact⟨sl2,e2⟩
 free:=u.free
 there:=λb o q hx=>by obtain⟨o',e⟩:=u.there b o q hx;obtain⟨sl2,e2⟩:=m.slot b _ (λz=>by rw[hD b z] at q; cases q) e;exact⟨_,e2⟩
 tups:=u.tups
 frzs:=u.frzs
 tbls:=u.tbls
theorem HOk.moved (x:HOk P w H h) (m:Ex.Mvd S D h h') (hD:∀b,D b->H b=none) (hS:∀b∈S,H b=none):HOk P w H h':=λa o e =>
 (x a o e).stay (λb u hb q=>by
   have t:∃z,H b=some z:=by
     rcases hb with rfl|hb
     . exact⟨_,e⟩
     . exact⟨_,hb⟩
   obtain⟨z,t⟩:=t;exact m.keep b u (λy=>by rw[hD b y] at t; cases t) (λy=>by rw[hS b y] at t; cases t) q) (λ_ q=>q) λ_ _ q=>q
theorem Un.ers {φ:Heap->Prop} (u:Un fs [] H0 H h0 h) (e:H a=some (.ext φ)):Un fs [] H0 (ers a H) h0 h where
 keep:=u.keep
 slot:=u.slot
 free:=λb o q n hx=>by
   have r:=u.free b o q n hx;unfold L2.ers;split
   . rfl
   . exact r
 there:=u.there
 tups:=λb xs q=>by have r:=u.tups b xs q;rw[zao (λz=>by rw[z,e] at r; cases r)]; exact r
 frzs:=λb o xs q=>by have r:=u.frzs b o xs q;rw[zao (λz=>by rw[z,e] at r; cases r)]; exact r
 tbls:=λb ps q=>by obtain⟨m,r⟩:=u.tbls b ps q;exact⟨m,by rw[zao (λz=>by rw[z,e] at r; cases r)]; exact r⟩
theorem HOk.ers {φ:Heap->Prop} (x:HOk P w H h) (e:H a=some (.ext φ)):HOk P w (ers a H) h:=λb o q=>by
 have hb:b≠a:=λz=>by subst z; unfold L2.ers at q; rw[if_pos rfl] at q; cases q
 rw[zao hb] at q;exact(x b o q).stay (λc u _ r=>r) (λc r=>by rw[zao (λz=>by rw[z,e] at r; cases r)]; exact r) λc xs r=>by rw[zao (λz=>by rw[z,e] at r; cases r)]; exact r
end
theorem zui {S S':List Addr} {D:Addr->Prop} {h h':Heap} (m:Ex.Mvd S D h h') (hs:∀b∈S,b∈S'):Ex.Mvd S' D h h':=⟨λb o n z=>m.keep b o n λq=>z (hs b q),m.slot⟩
section
variable {P:Program} {w:World} {K:W.Frag} {mg:Str->Option Value} {base:Heap} {N:List Str} {qual:Str} {sc:Scope} {f:Addr} {cd:Value} {A:Around} {outer:List Env} {s0 s:Shared} {H0 H:Hp} {E:XK}
 {pins:List (Addr×Obj)} {σ:St} {cls:Value} {d:Option Addr} {e:Addr}
theorem z1f {h2:Heap} {T:Addr} {D:Addr->Prop} {S:List Addr} (I:Inv (zfb (CXe P w) P w K mg base N qual sc f cd A outer s0 H0 E) pins σ H s) {H1:Hp} (hn:s0.heap.get? e=none) (hT:s.heap.get? T=none)
   (u:Un (frs outer) [] H0 H1 s0.heap s.heap) (hok:HOk P w H1 s.heap) (he1:H1 e=none) (hS:S=frs (zfb (CXe P w) P w K mg base N qual sc f cd A outer s0 H0 E).stack) (hS1:∀b∈S,H1 b=none)
   (m:Ex.Mvd S D s.heap h2) (hD0:∀b,D b->s0.heap.get? b=none) (hD1:∀b,D b->H1 b=none)
   (t:Ex.Tr h2 e cls d T .none) (hE:E cls d H1):CXe P w outer H0 s0 E (.ref e) { s with heap:=h2 }:=by
 have fresh:∀b,s.heap.get? b=none->s0.heap.get? b=none:=λb q=>by
   cases r:s0.heap.get? b with
   | none=>rfl
   | some o=>obtain⟨o',z⟩:=u.there b o r (by simp); rw[q] at z; cases z
 refine⟨e,cls,d,T,H1,rfl,I.os,I.bare,u.moved m hD0 λb hb=>?_,hok.moved m hD1 hS1,hn,he1,fresh T hT,hok.none_of hT,t,hE⟩;subst hS;rcases qay.mp (I.stkSub b hb) with z|z
 . exact .inr (by rw[z]; exact qcq I.ok.above)
 . exact .inl z
theorem z4g (I:Inv (zfb (CXe P w) P w K mg base N qual sc f cd A outer s0 H0 E) pins σ H s) {φ:Heap->Prop} (he:H e=some (.ext φ)) (hn:s0.heap.get? e=none) (hr:Ex.Raw s.heap e cls d) (hE:E cls d (ers e H)) :
   (zfb (CXe P w) P w K mg base N qual sc f cd A outer s0 H0 E).xe (.ref e) s:=by
 show wpAny _ _ (leaving _ _) _ _ s;unfold leaving;refine wpAny_bind (Ex.x_noteR I.ok.frames I.stack rfl hr λh1 T hT m1 t1=>?_);refine Ex.x_mark (fr:=none) t1 λh2 m2 t2=>?_;have hfr:=I.stkFree;have fresh:∀b,s.heap.get? b=none->s0.heap.get? b=none:=λb q=>by
   cases r:s0.heap.get? b with
   | none=>rfl
   | some o=>obtain⟨o',z⟩:=I.base.there b o r (λq=>nomatch q); rw[q] at z; cases z
 refine z1f (s:=s) (D:=λb=>b=e\/b=T) (S:=frs (zfb (CXe P w) P w K mg base N qual sc f cd A outer s0 H0 E).stack) I hn hT (Un.ers I.base he) (HOk.ers I.hok he) (if_pos rfl) rfl (λb hb=>?_) ((m1.mono λb z=>.inl z).trans (zui (m2.mono λb z=>.inr z) λb z=>nomatch z)) ?_ ?_ t2 hE
 . unfold L2.ers; split; rfl; exact hfr b hb
 . rintro b (rfl|rfl); exact hn; exact fresh _ hT
 . rintro b (rfl|rfl)
   . exact if_pos rfl
   . exact(HOk.ers I.hok he).none_of hT
theorem zem:zg9 (CXe P w) (zfb (CXe P w) P w K mg base N qual sc f cd A outer s0 H0 E) E:=by
 intro pins σ H s ev s' I c;obtain⟨e,cls,d,T0,H1,rfl,os,bare,un,hok,hn,he1,hT0,hT1,tr,hE⟩:=c;have I1:Inv (zfb (CXe P w) P w K mg base N qual sc f cd A outer s0 H0 E) pins σ H1 s':=I.call' os un hok bare λb z=>nomatch z;show wpAny _ _ (leaving _ _) _ _ s';unfold leaving;refine wpAny_bind (Ex.x_noteT I1.ok.frames I1.stack rfl tr λh1 T hT m1 t1=>?_);refine Ex.x_mark (fr:=none) t1 λh2 m2 t2=>?_;have fr0:∀b,s.heap.get? b=none->s0.heap.get? b=none:=λb q=>by
   cases r:s0.heap.get? b with
   | none=>rfl
   | some o=>obtain⟨o',z⟩:=I.base.there b o r (λq=>nomatch q); rw[q] at z; cases z
 have fr1:∀b,s'.heap.get? b=none->s0.heap.get? b=none:=λb q=>by
   cases r:s0.heap.get? b with
   | none=>rfl
   | some o=>obtain⟨o',z⟩:=I1.base.there b o r (λq=>nomatch q); rw[q] at z; cases z
 refine z1f (s:=s') (D:=λb=>(b=e\/b=T0)\/b=T) (S:=frs (zfb (CXe P w) P w K mg base N qual sc f cd A outer s0 H0 E).stack) I1 (fr0 _ hn) hT I1.base I1.hok he1 rfl I1.stkFree ((m1.mono λb z=>.inl z).trans (zui (m2.mono λb z=>.inr z) λb z=>nomatch z)) ?_ ?_ t2 hE
 . rintro b ((rfl|rfl)|rfl)
   . exact fr0 _ hn
   . exact fr0 _ hT0
   . exact fr1 _ hT
 . rintro b ((rfl|rfl)|rfl)
   . exact he1
   . exact hT1
   . exact I1.hok.none_of hT
theorem zod:PassesOwn (model P w) (zfb (CXe P w) P w K mg base N qual sc f cd A outer s0 H0 E).A (zfb (CXe P w) P w K mg base N qual sc f cd A outer s0 H0 E).env (zfb (CXe P w) P w K mg base N qual sc f cd A outer s0 H0 E).xe:=PassesOwn.leaving
end
def zxu (X:Cx) (EX:XK):Prop:=∀(pins:List (Addr×Obj)) (σ:St) (H:Hp) (s:Shared) (e:Addr) (φ:Heap->Prop) (cls:Value) (d:Option Addr),
 Inv X pins σ H s->H e=some (.ext φ)->X.s₀.heap.get? e=none->Ex.Raw s.heap e cls d->EX cls d (ers e H)->X.xe (.ref e) s
theorem zeg {P:Program} {w:World} {K:W.Frag} {mg:Str->Option Value} {base:Heap} {N:List Str} {qual:Str} {sc:Scope} {f:Addr} {cd:Value} {A:Around} {outer:List Env} {s0:Shared} {H0:Hp} {E:XK} :
   zxu (zfb (CXe P w) P w K mg base N qual sc f cd A outer s0 H0 E) E:=λ_ _ _ _ _ _ _ _ I he hn hr hE=>z4g I he hn hr hE
theorem z7h {P:Program} {w:World} {H:Hp} {h:Heap} {e C:Addr} {d:Option Addr} {t:Addr} (q:h.get? e=some { cls:=.ref C,dict:=d,data:=.fields #[.ref t,.none,.none,.none,.bool false,.none] }):zdk P w H h e (XO e C d) :=
 ⟨⟨t,q⟩,⟨_,q⟩,λh1 h2 ⟨u,z⟩ k=>⟨u,k _ z⟩⟩
theorem z6y {P:Program} {w:World} {H:Hp} {h:Heap} {e C:Addr} {d:Option Addr} {o:Obj} {vs:Array Value} (q:h.get? e=some o) (hc:o.cls=.ref C) (hd:o.dict=d) (hf:o.data=.fields vs):zdk P w H h e (XC e C d) :=
 ⟨⟨o,vs,q,hc,hd,hf⟩,⟨_,q⟩,λh1 h2 ⟨o,vs,z,r⟩ k=>⟨o,vs,k _ z,r⟩⟩
end L2
namespace Ex
open PySem PySem.W PyProof.Rows PySem.Spec
section
variable {prog:Program} {w:World} {A:Around} {E:Value->Shared->Prop} {R:Result->Shared->Prop} {h:Heap} {g:Array GenState} {d:Drawn} {t:Nat} {os:OsState}
 {nm q:Str} {C N:Addr} {bs bm:List Value} {hdct:Bool} {sn:List Str} {sub:List Value} {ab:Bool} {col:Option Bool} {dd:Option Addr} {k0 k1 k2 k3 k5:Option Value}
theorem x_init0 {e t0:Addr} {Q:Value->Shared->Prop} (hC:h.get? C=some (excClassObj nm q C N bs bm hdct sn sub ab col dd k0 k1 k2 k3 k5 "ValueError.__new__")) (V:VE C bm)
   (he:h.get? e=some { cls:=.ref C,data:=.fields #[.ref t0,.none,.none,.none,.bool false,.none] })
   (hq:∀h' t',(∀b o,b≠e->h.get? b=some o->h'.get? b=some o)->h'.get? e=some { cls:=.ref C,data:=.fields #[.ref t',.none,.none,.none,.bool false,.none] }->Q .none ⟨h',g,d,t,os⟩) :
   wpAny (model prog w) A (call (.builtin "ValueError.__init__") [.ref e]) Q E ⟨h,g,d,t,os⟩:=by
 have F:=qck;have vb:=V.b;have st:=F.noStar;refine qd1 (codeAny_call_builtin F.init.plain F.initEntry ?_);simp only[checkBuiltinCall,F.initKind,F.initSplit,F.initRow]
 repeat (first|with_reducible refine qb7 he ?_|with_reducible refine qb7 hC ?_|(with_reducible refine qc8 hC ?_; rw[vb])|wp_step)
 show Q _ _;refine hq _ h.objs.size (λb o hb hbo=>?_) ?_
 . rw[qbr _ _ (Ne.symm hb)];exact Heap.get?_push_of_some _ hbo
 . rw[qb9 _ (Heap.get?_push_of_some _ he) rfl];rfl
end
end Ex
namespace L2
open PySem PySem.Spec PyProof.Rows
def zsk (C:Addr) (EX:XK):TS:=λ_ _ H=>EX (.ref C) none H
section
variable {X:Cx} {C:Addr} {EX:XK} {x:Str} {p pos cpos:Pos}
theorem zxq (hX:XCls X.K C) (hm:X.mg x=some (.ref C)) (hi:PySem.W.findIn X.K (.ref C) "__init__"=some (some (.builtin "ValueError.__init__"))) (hk:PySem.W.keepIn X.K (.ref C)=true)
   (hc:X.calm=true) (hx:zxu X EX) (hg:Gl X x:=by rfl) (hdb:(x==("__debug__":Str))=false:=by decide) :
   PS X (.Raise (some (.Call (.Name x p) [] [] cpos)) none pos) (zsk C EX):=by
 intro pins s σ H D I h;obtain⟨nm,q,N,bs,bm,sn,sub,ab,col,dd,k0,k1,k2,k3,k5,hl,VV⟩:=hX;rw[arm_exec_Raise];refine wpAny_bind (qc9 (Ex.x_raise (C:=C) (nm:=nm) (q:=q) (N:=N) (bs:=bs) (bm:=bm) (hdct:=true) (sn:=sn) (sub:=sub) (ab:=ab) (col:=col) (dd:=dd) (k0:=k0) (k1:=k1) (k2:=k2) (k3:=k3) (k5:=k5) (I.ok.hd hc) ?_));show wpAny _ _ (eval (.Call (.Name x p) [] [] cpos) X.env >>= λv=>standAt pos >>= λ_=>pure v) _ _ _;refine wpAny_bind (qb0 (Q:=λv s₁=>∃e o vs,v=.ref e/\s₁.heap.get? C=some (excClassObj nm q C N bs bm true sn sub ab col dd k0 k1 k2 k3 k5 "ValueError.__new__")/\Ex.VE C bm /\
     s₁.heap.get? e=some o/\o.cls=.ref C/\o.data=.fields vs/\vs[1]?=some .none/\X.xe (.ref e) s₁) ?_ (λv s3 h3=>wpAny_bind (qc9 (wpAny_pure h3))) λ_ _ z=>z)
 refine qcv (zke I hg hm ?_ hdb);refine PySem.W.callWith_K0 I.kIn hk ?_;obtain⟨hp,g,dr,tk,os⟩:=s;refine Ex.x_call (fI:=.builtin "ValueError.__init__") (rest:=[]) (I.kIn _ _ hl) VV (by decide) (PySem.W.looks_findIn I.kIn hi) (PySem.W.Looks.of_pure (qck.init.bind _)) ?_;have hC2:=Ex.heapX_keeps (C:=C) (rest:=[]) _ _ (I.kIn _ _ hl);refine Ex.x_init0 hC2 VV Ex.heapX_at λh' t' hk' he'=>⟨rfl,?_⟩
 have ne:∀b o,hp.get? b=some o->b≠hp.objs.size+1:=λb o z=>qa6 (qem (Heap.lt_size z));have I2:Inv X pins σ (upd H (hp.objs.size+1) (XO (hp.objs.size+1) C none)) ⟨h',g,dr,tk,os⟩ :=
   I.laid (h':=h') (t':=tk) (λb u z=>hk' b u (ne b u z) (Ex.heapX_keeps b u z)) (qcp _) (z7h he')
 have eH:ers (hp.objs.size+1) (upd H (hp.objs.size+1) (XO (hp.objs.size+1) C none))=H:=by
   funext b;unfold L2.ers upd;by_cases z:b=hp.objs.size+1
   . rw[if_pos z,z]; exact(I.hok.fresh (qcp _)).symm
   . rw[if_neg z,if_neg z]
 exact⟨_,_,_,rfl,I2.kIn _ _ hl,VV,he',rfl,rfl,rfl,hx pins σ _ ⟨h',g,dr,tk,os⟩ (hp.objs.size+1) _ (.ref C) none I2 zab (qcq (qa7 I.sz (qcp _))) ⟨_,_,he',rfl,rfl,rfl,rfl⟩ (by rw[eH]; exact h)⟩
end
end L2
namespace Ex
open PySem PySem.W PyProof.Rows PySem.Spec
def veTail:List Value->Bool
 | .ref _ :: r=>veTail r
 | l=>l==[.type "ValueError",.type "Exception",.type "BaseException",.type "object"]
theorem znh {p:List Value->Prop} (h0:p [.type "ValueError",.type "Exception",.type "BaseException",.type "object"]) (h1:∀a r,p r->p (.ref a :: r)):∀{l:List Value},veTail l=true->p l
 | [],e=>by cases e
 | c :: r,e=>by
   cases c with
   | ref a=>exact h1 a r (znh h0 h1 e)
   | _=>rw[show _ :: r=_ from beq_iff_eq.mp e]; exact h0
theorem veTail_has {l:List Value} (h:veTail l=true) {X:String} {b:Bool} (hb:([.type "ValueError",.type "Exception",.type "BaseException",.type "object"]:List Value).contains (.type X)=b):l.contains (.type X)=b :=
 znh (p:=λl=>l.contains (.type X)=b) hb (λa r z=>by rw[List.contains_cons,z]; rfl) h
theorem VE.of {C:Addr} {bm:List Value} (h:veTail bm=true):VE C bm:=by have h':veTail (.ref C :: bm)=true:=h;exact⟨veTail_has h' (by decide +kernel),veTail_has h' (by decide +kernel),veTail_has h' (by decide +kernel),veTail_has h' (by decide +kernel)⟩
end Ex
namespace L2
open PySem PySem.Spec PyProof.Rows
structure XClsOk (K:W.Frag) (mg:Str->Option Value) (name:Str) (C:Addr):Prop where
 g:mg name=some (.ref C)
 obj:∃(nm q:Str) (N:Addr) (bs bm:List Value) (sn:List Str) (sub:List Value) (ab:Bool) (col:Option Bool) (dd:Option Addr) (k0 k1 k2 k3 k5:Option Value),
   K.lookup C=some (excClassObj nm q C N bs bm true sn sub ab col dd k0 k1 k2 k3 k5 "ValueError.__new__")/\Ex.veTail bm=true
 kp:PySem.W.keepIn K (.ref C)=true
 sa:PySem.W.findIn K (.ref C) "__setattr__"=some (some (.builtin "object.__setattr__"))
 ga:PySem.W.findIn K (.ref C) "__getattribute__"=some (some (.builtin "BaseException.__getattribute__"))
 gt:PySem.W.findIn K (.ref C) "__getattr__"=some none
 cl:PySem.W.findIn K (.ref C) "__class__"=some (some (.builtin "object.__class__"))
 sg:PySem.W.specialIn K (.builtin "object.__class__") "__get__"=some (some (.builtin "getset_descriptor.__get__"))
 tk:PySem.W.takesIn K (.builtin "object.__class__")=some true
variable {name:Str}
theorem XClsOk.cls {K:W.Frag} {mg:Str->Option Value} {C:Addr} (c:XClsOk K mg name C):XCls K C:=by obtain⟨nm,q,N,bs,bm,sn,sub,ab,col,dd,k0,k1,k2,k3,k5,l,v⟩:=c.obj;exact⟨nm,q,N,bs,bm,sn,sub,ab,col,dd,k0,k1,k2,k3,k5,l,Ex.VE.of v⟩
theorem XClsOk.cd {K:W.Frag} {mg:Str->Option Value} {C:Addr} (c:XClsOk K mg name C):∃cd,PySem.W.clsIn K C=some cd/\Ex.veTail cd.mro=true/\cd.hasDict=true/\∃bm,cd.mro=.ref C :: bm:=by obtain⟨nm,q,N,bs,bm,sn,sub,ab,col,dd,k0,k1,k2,k3,k5,l,v⟩:=c.obj;refine⟨_,by unfold PySem.W.clsIn; rw[l],v,rfl,_,rfl⟩
theorem XClsOk.mro {K:W.Frag} {mg:Str->Option Value} {C:Addr} (c:XClsOk K mg name C) {X:String} {b:Bool} (hb:([.type "ValueError",.type "Exception",.type "BaseException",.type "object"]:List Value).contains (.type X)=b):PySem.W.mroIn K C (.type X)=some b:=by obtain⟨cd,hcd,hv,_,bm,hm⟩:=c.cd;unfold PySem.W.mroIn;rw[hcd,qc4,if_neg (by rw[hm]; exact qas),Ex.veTail_has hv hb]
end L2
namespace Ex
open PySem PySem.W PyProof.Rows PySem.Spec
section
variable {prog:Program} {w:World} {A:Around} {E:Value->Shared->Prop} {K:Frag} {x C:Addr} {ox:Obj} {od:Option Obj} {h:Heap} {g:Array GenState} {d:Drawn} {t:Nat} {os:OsState}
theorem z2k {tk:Tok} {R:Result->Shared->Prop} (X:K.In h) (I:InstAt h x ox C od) (hb:mroIn K C (.type "BaseException")=some true) (ho:mroIn K C (.type "object")=some true)
   (hf:findObj K C od "__class__"=some (.bind (.builtin "getset_descriptor.__get__") (.builtin "object.__class__"))) (hq:R (.ok (.ret (.ref C))) ⟨h,g,d,t,os⟩) :
   codeAny (model prog w) A (.call (.builtin "BaseException.__getattribute__") ⟨[.ref x,.str "__class__" tk],[]⟩) R ⟨h,g,d,t,os⟩:=by
 have hk:builtinKind "BaseException.__getattribute__"=some .slot:=by decide +kernel
 have hsp:splitId "BaseException.__getattribute__"=some ("BaseException","__getattribute__"):=by decide +kernel
 have sub:Looks (model prog w) h (isInstance (.ref x) (.type "BaseException")) true:=I.type.andThen (looks_mroIn X hb);have L0:=I.type (M:=model prog w);have L1:=looks_find (M:=model prog w) X I hf;refine codeAny_call_builtin qei.ga.plain PySem.F.entry_bexc_ga (@check_slot (model prog w) _ _ ⟨h,g,d,t,os⟩ "BaseException.__getattribute__" "BaseException" "__getattribute__" (.ref x) [.str "__class__" tk] [] _ hk hsp sub (PySem.F.args_bexc_ga (.ref x) (.str "__class__" tk)) ?_);unfold Builtin.«object.__getattribute__»;refine wpAny_bind (wpAny_pure ?_);refine wpAny_bind (wpAny_pure ?_);refine wpAny_bind (L0.at ?_);refine wpAny_bind (L1.at ?_);show wpAny _ _ (holding [.builtin "object.__class__"] (call (.builtin "getset_descriptor.__get__") [.builtin "object.__class__",.ref x,.ref C]) >>= ret) _ _ _;exact wpAny_bind (qbs (qd1 (class_get (ox:=ox) (od:=od) X I ho (wpAny_pure hq))))
theorem xc_attr {Q:Option Value->Shared->Prop} (X:K.In h) (I:InstAt h x ox C od) (hb:mroIn K C (.type "BaseException")=some true) (ho:mroIn K C (.type "object")=some true)
   (hga:findIn K (.ref C) "__getattribute__"=some (some (.builtin "BaseException.__getattribute__"))) (hgt:findIn K (.ref C) "__getattr__"=some none)
   (hf:findObj K C od "__class__"=some (.bind (.builtin "getset_descriptor.__get__") (.builtin "object.__class__"))) (hq:Q (some (.ref C)) ⟨h,g,d,t+1,os⟩):wpAny (model prog w) A (getAttr? (.ref x) "__class__") Q E ⟨h,g,d,t,os⟩:=by
 have L0:=I.type (M:=model prog w);have L1:=looks_findIn (M:=model prog w) X hga;have L2:=looks_findIn (M:=model prog w) X hgt;have f3:=qei.ga.bind (.ref x);have hx0:(false&&onTheHeap (Value.builtin "BaseException.__getattribute__"))=false:=rfl;have hx2:(Value.builtin "BaseException.__getattribute__"==Value.builtin "object.__getattribute__")=false:=by decide +kernel
 have hx1:(onTheHeap (Value.ref C)&&Value.builtin "BaseException.__getattribute__"==Value.builtin "object.__getattribute__")=false:=by rw[hx2]; rfl
 unfold getAttr? getAttrBy? getAttrBy;refine wpAny_bind (wpAny_mkText (wpAny_bind (qfb (qbs (wpAny_bind (L0.at (wpAny_bind (L1.at ?_))))))))
 repeat (any_goals (first|assumption|with_reducible refine L0.at ?_|with_reducible refine L1.at ?_|with_reducible refine L2.at ?_|wp_step))
 refine z2k X I hb ho hf ?_;show wpAny _ _ (handedOut (.ref C)) _ _ _;exact wpAny_pure (wpAny_pure hq)
end
end Ex
namespace L2
open PySem PySem.Spec PyProof.Rows
def XAt (x C:Addr) (h:Heap):Prop:=∃o vs,h.get? x=some o/\o.cls=.ref C/\o.data=.fields vs/\(o.dict=none\/∃dx od,o.dict=some dx/\h.get? dx=some od)
theorem XAt.inst {x C:Addr} {h:Heap} (p:XAt x C h):∃ox od,PySem.W.InstAt h x ox C od:=by
 obtain⟨o,vs,ho,hc,hd,z|⟨dx,od,z,q⟩⟩:=p
 . exact⟨o,none,ho,hc,by unfold PySem.W.notCls; rw[hd],by rw[z]; trivial⟩
 . exact⟨o,some od,ho,hc,by unfold PySem.W.notCls; rw[hd],by rw[z]; exact q⟩
theorem zzl {K:W.Frag} {mg:Str->Option Value} {nm:Str} {x C:Addr} (c:XClsOk K mg nm C):PySem.W.KitX K (.ref x) (.ref C) (XAt x C) where
 ty:=λM h _ p=>by obtain⟨ox,od,I⟩:=p.inst; exact I.type
 it:=λM h X _=>by obtain⟨nm,q,N,bs,bm,sn,sub,ab,col,dd,k0,k1,k2,k3,k5,l,v⟩:=c.obj;intro A' Q' E' s' k q;unfold isType loadHead;exact wpAny_bind (qe8 (k _ _ (X _ _ l)) (wpAny_pure q))
 ne:=λh tp dd its n sl X htp=>by obtain⟨nm,q,N,bs,bm,sn,sub,ab,col,dd',k0,k1,k2,k3,k5,l,v⟩:=c.obj;refine Bool.eq_false_iff.mpr λq=>?_;have e:C=tp:=Value.ref.inj (beq_iff_eq.mp q);subst e;have z:=qa0 Obj.cls (Option.some.inj ((X _ _ l).symm.trans htp));exact absurd (Value.type.inj z) (by decide)
 ca:=λ{prog w A E Q s} X p hq=>by
   obtain⟨ox,od,I⟩:=p.inst;obtain⟨cd,hcd,_⟩:=c.cd;have hf:PySem.W.findObj K C od "__class__"=some (.bind (.builtin "getset_descriptor.__get__") (.builtin "object.__class__")):=by unfold PySem.W.findObj;rw[hcd,qc4,c.cl,qc4];simp [c.sg,c.tk]
   obtain⟨hp,g,dr,tk,os⟩:=s;exact Ex.xc_attr X I (c.mro (by decide +kernel)) (c.mro (by decide +kernel)) c.ga c.gt hf hq
def rIsX (K:W.Frag) (mg:Str->Option Value):List V->Hp->VK->Prop:=λxs H Q=>∃a C d nm y u b,xs=[.ref a,y]/\H a=some (XC a C d)/\(∀dx,d=some dx->∃o,H dx=some o)/\XClsOk K mg nm C/\zc1 y u/\PySem.W.kitOne K (.ref C) u=some b/\Q (.bl b) H
section
variable {X:Cx}
theorem z5z {pins:List (Addr×Obj)} {σ:St} {H:Hp} {s:Shared} {a C:Addr} {d:Option Addr} (I:Inv X pins σ H s) (e:H a=some (XC a C d)) (hd:∀dx,d=some dx->∃o,H dx=some o):XAt a C s.heap:=by
 obtain⟨o,vs,ho,hc,hdd,hf⟩:=(I.hok _ _ e).1;refine⟨o,vs,ho,hc,hf,?_⟩;cases d with
 | none=>exact .inl hdd
 | some dx =>
   obtain⟨z,q⟩:=hd dx rfl;obtain⟨u,r⟩:=(I.hok _ _ q).some_at;exact .inr ⟨dx,u,hdd,r⟩
theorem ztw:zbv X (.builtin "isinstance") (rIsX X.K X.mg):=by
 intro pins s σ H xs us Q I r h;obtain⟨a,C,d,nm,y,u,b,rfl,e,hd,c,ry,hk,q⟩:=h;obtain⟨v,w',rfl,rx,rc⟩:=zz3 r;cases (show v=Value.ref a from rx);have hw:PySem.W.kitOne X.K (.ref C) w'=some b:=by
   cases y with
   | ref z=>cases (show w'=Value.ref z from rc); cases (show u=Value.ref z from ry); exact hk
   | ty z=>cases (show w'=Value.type z from rc); cases (show u=Value.type z from ry); exact hk
   | non=>cases (show w'=Value.none from rc); cases (show u=Value.none from ry); exact hk
   | bl z=>cases (show w'=Value.bool z from rc); cases (show u=Value.bool z from ry); exact hk
   | int z=>obtain⟨t,rfl⟩:=ry; cases hk
   | str z=>obtain⟨t,rfl⟩:=ry; cases hk
   | byt z=>obtain⟨t,rfl⟩:=ry; cases hk
   | flt z=>obtain⟨t,rfl⟩:=ry; cases hk
 exact PySem.W.kia_one (zzl c) I.kIn (z5z I e hd) hw (λz=>nomatch z) λtk=>⟨.bl b,H,I.tok _,rfl,q⟩
end
end L2
namespace Ex
open PySem PySem.W PyProof.Rows PySem.Spec
theorem x_match {M:Model} {A:Around} {E:Value->Shared->Prop} {s:Shared} {K:Frag} {e C G:Addr} {Q:Bool->Shared->Prop} (X:K.In s.heap) (ht:Looks M s.heap (typeOf (.ref e)) (.ref C)) (hG:typeIn K (.ref G)=some (.type "type"))
   (hi:Looks M s.heap (isType (.ref G)) true) (hb:mroIn K G (.type "BaseException")=some true) (hs:mroIn K C (.ref G)=some true) (h:Q true s):wpAny M A (excMatches (.ref e) (.ref G)) Q E s:=by
 obtain⟨hp,g,d,tk,os⟩:=s;have L0:=looks_typeIn (M:=M) X hG;have L1:=looks_mroIn (M:=M) X hb;have L2:=looks_mroIn (M:=M) X hs;have f:=tc_notTuple;unfold excMatches isExcClass isInstance;refine wpAny_bind (wpAny_bind (L0.at ?_));rw[f];refine wpAny_pure ?_;simp only[qcw,if_false];refine wpAny_bind (wpAny_pure ?_);simp only[qd4,qe9];refine wpAny_bind (wpAny_bind (wpAny_bind (wpAny_bind (hi.at ?_))));simp only[if_true];refine L1.at ?_;simp only[Bool.not_true,qcw,if_false];refine wpAny_pure (wpAny_pure (wpAny_bind (ht.at ?_)));refine wpAny_bind (wpAny_bind (wpAny_bind (L2.at ?_)));simp only[if_true];exact wpAny_pure (wpAny_pure (wpAny_pure h))
end Ex
namespace L2
open PySem PySem.Spec PyProof.Rows
abbrev TX:=St->Hp->VK->XK->Prop
def PX (X:Cx) (e:Expr) (t:TX):Prop:=∀(pins:List (Addr×Obj)) (s:Shared) (σ:St) (H:Hp) (Q:VK) (E:XK),Inv X pins σ H s->t σ H Q E ->
 wpAny (model X.prog X.w) X.A (eval e X.env) (EP X pins σ Q) (λev s'=>∃H1 s1,Inv X pins σ H1 s1/\CXe X.prog X.w X.stack H1 s1 E ev s') s
def PSx (X:Cx) (st:Stmt) (t:zjb->XK->St->Hp->Prop):Prop:=∀(pins:List (Addr×Obj)) (s:Shared) (σ:St) (H:Hp) (D:zjb) (E:XK),Inv X pins σ H s->t D E σ H ->
 wpAny (model X.prog X.w) X.A (exec st X.env) (SP X pins D) (λev s'=>∃H1 s1,Inv X pins σ H1 s1/\CXe X.prog X.w X.stack H1 s1 E ev s') s
section
variable {X:Cx} {k:Nat} {f:Addr} {fd:FuncData} {ps:List Str} {sp:Sp} {x:Str} {st:Stmt} {p pos:Pos} {e:Expr} {es:List Expr} {t:TA} {tx:TX}
theorem z3g (Dd:DefOk X.K X.mg x st ps f fd) (F:FnOk X.prog X.w X.K X.mg X.base (CXe X.prog X.w) k f fd ps sp) (hr:Room k X.A) (ha:PA X.nox (e :: es) t) (hg:Gl X x:=by rfl)
   (hdb:(x==("__debug__":Str))=false:=by decide) (he:starEach (e :: es) X.env=(false,eval e X.env) :: starEach es X.env:=by rfl) (hpl:(backTo pos (starEach es X.env)).any (·.1)=false:=by rfl) :
   PX X (.Call (.Name x p) (e :: es) [] pos) (λσ H Q E=>t σ H λvs H1=>sp vs H1 Q E):=by
 intro pins s σ H Q E I h;refine qcv (zke I hg Dd.g ?_ hdb);refine PySem.W.callWith_K (h₀:=X.base) I.ok.mod.kin Dd.F.kp (qb0 (ha pos pins s σ H _ (I.wish _) h) (λus s1 ⟨vs,H1,I1,r,q⟩=>⟨I1.kIn,?_⟩) λ_ _ z=>z.elim) he hpl;have I1:=I1.unwish;have hl:us.length=ps.length:=by rw[<- r.length]; exact F.len _ _ _ _ q
 have hb:BindsTo s1 fd ⟨us,[]⟩ (ps.zip us):=by have:=Dd.b s1 us I1.kIn (by rw[qbf]; exact hl);rwa [qbf] at this
 refine qd1 (qd2 (F.run X.A X.stack s1 H1 ⟨us,[]⟩ us vs Q E hr I1.env0 hb r q) λrr s' hq=>?_);cases rr with
 | error ev=>exact⟨H1,s1,I1,hq⟩
 | ok fl =>
   cases fl with
   | ret u=>exact I1.after hq
   | next=>exact False.elim hq
   | brk=>exact False.elim hq
   | cont=>exact False.elim hq
theorem z28 {i:Nat} {y:Str} {pos':Pos} (hN:X.N.Nodup) (hi:X.N[i]?=some y) (hx:Loc X.env.scope y) (he:PX X e tx) (hs:swapsWith e (some (.Name y pos')) pos.line X.env=pure false:=by rfl)
   (hf:X.fn y=true\/X.env.scope.names.lookup y=some .local:=by first|exact .inl rfl|exact .inr rfl|assumption):PSx X (.Assign [.Name y pos'] e pos) (λD E σ H=>tx σ H (λv H'=>D.nx (σ.set i (some v)) H') E):=by
 intro pins s σ H D E I h;refine wpAny_Assign_Name (qb0 (he pins s σ H _ E I h) (λv s1 ⟨y,H1,I1,r1,q1⟩=>?_) λ_ _ z=>z) hs;exact zi9 I1 hN hi hx r1 (λs2 I2=>⟨_,H1,I2,q1⟩) hf
end
abbrev Cx.hdl (X:Cx) (ea:Addr):Cx:={ X with A:=X.A.mark (some (.ref ea)),calm:=false }
variable {X:Cx} {H:Hp}
theorem Inv.hdl {pins:List (Addr×Obj)} {σ:St} {s:Shared} (I:Inv X pins σ H s) (ea:Addr):Inv (X.hdl ea) pins σ H s :=
 ⟨⟨I.ok.mod,I.ok.kind,I.ok.glob,I.ok.blt,I.ok.above,I.ok.inj,I.ok.has,I.ok.cab,λz=>Bool.noConfusion z,I.ok.frames,I.ok.stk,I.ok.exf,I.ok.bs,I.ok.bsz,I.ok.noex,I.ok.exfs,I.ok.funs,I.ok.frf⟩,I.os,I.bare,I.base,I.loc,I.cell,I.free,I.freeC,I.pin,I.hok,I.len⟩
theorem Inv.unhdl {pins:List (Addr×Obj)} {σ:St} {s:Shared} {ea:Addr} {E:Value->Shared->Prop} (ok:X.Ok) (I:Inv ((X.hdl ea).wish E) pins σ H s):Inv X pins σ H s :=
 ⟨ok,I.os,I.bare,I.base,I.loc,I.cell,I.free,I.freeC,I.pin,I.hok,I.len⟩
theorem Inv.dropped {pins:List (Addr×Obj)} {σ:St} {s:Shared} {j:Nat} {n:Str} {m:Str->Option Value} {h':Heap} {v:Option Value} {t':Nat} (I:Inv X pins σ H s) (hN:X.N.Nodup) (hj:X.N[j]?=some n) (hk:X.env.kindOf n=some .local)
   (hm:∀(i:Nat) (x:Str) (v:V),X.N[i]?=some x->σ[i]?=some (some v)->Vis X.env.scope x->∃u,zc1 v u/\Look X.env s.heap m x u) (hn0:s.heap.Ns X.env.locals m)
   (hn:h'.Ns X.env.locals (λx=>if x=n then v else m x)) (hs:Heap.SameBut X.env.locals s.heap h'):Inv X pins (σ.set j none) H { s with heap:=h',toks:=t' }:=by
 have cne:=I.cne;have lt:∀b o,X.s₀.heap.get? b=some o->b≠X.env.locals:=λb o e=>qa6 (Nat.lt_of_lt_of_le (Heap.lt_size e) I.ok.above);obtain⟨oL,_,_,hoL,_⟩:=id hn0;refine⟨I.ok,I.os,I.bare,⟨λb o e n hb hx=>(hs.2 b (lt b o e)).trans (I.base.keep b o e n hb hx),λb o e n hb hx=>?_,I.base.free,λb o e hx=>?_,I.base.tups,I.base.frzs,I.base.tbls⟩,
   ⟨_,hn,λi y w e1 e2 e3=>?_⟩,λy c e=>?_,I.free,I.freeC,λp hp=>?_,λb ob e=>?_,by rw[qch]; exact I.len⟩
 . obtain⟨sl,e1⟩:=I.base.slot b o e n hb hx;exact⟨sl,(hs.2 b (lt b o e)).trans e1⟩
 . obtain⟨o',e1⟩:=I.base.there b o e hx;exact⟨o',(hs.2 b (lt b o e)).trans e1⟩
 . have hij:j≠i:=λz=>by
     subst z;by_cases q:j<σ.length
     . rw[qcj q] at e2; cases e2
     . rw[qbi (by rw[qch]; omega)] at e2; cases e2
   rw[qcr hij] at e2;obtain⟨u,r,q⟩:=hm i y w e1 e2 e3;refine⟨u,r,?_⟩;rcases q with⟨k,e⟩|⟨k,c,e,z⟩
   . have:y≠n:=λz=>hij (zon hN hj (z ▸ e1));exact .inl ⟨k,by show(if y=n then v else m y)=some u; rw[if_neg this]; exact e⟩
   . exact .inr ⟨k,c,e,z.sameBut hs (cne y c e)⟩
 . obtain⟨w',z⟩:=I.cell y c e;exact⟨w',z.sameBut hs (cne y c e)⟩
 . obtain⟨e,n,ne,nf,d⟩:=I.pin p hp;exact⟨(hs.2 p.1 ne).trans e,n,ne,nf,d⟩
 . refine(I.hok b ob e).stay (λc w' hc q=>(hs.2 c ?_).trans q) (λ_ q=>q) λ_ _ q=>q;rintro rfl;rcases hc with rfl|hc
   . rw[I.free] at e; cases e
   . rw[I.free] at hc; cases hc
theorem Un.track {fs:List Addr} {H0:Hp}{h0 h:Heap} {a:Addr} {o:HO} (u:Un fs [] H0 H h0 h) (n:h0.get? a=none) (e:H a=none):Un fs [] H0 (upd H a o) h0 h where
 keep:=u.keep
 slot:=u.slot
 free:=λb ob q z hx=>by rw[zal (λy=>by rw[y,n] at q; cases q)]; exact u.free b ob q z hx
 there:=u.there
 tups:=λb xs q=>by have r:=u.tups b xs q;rw[zal (zaf r e)]; exact r
 frzs:=λb ob xs q=>by have r:=u.frzs b ob xs q;rw[zal (zaf r e)]; exact r
 tbls:=λb ps q=>by obtain⟨m,r⟩:=u.tbls b ps q;exact⟨m,by rw[zal (zaf r e)]; exact r⟩
theorem HOk.track {P:Program} {w:World} {h:Heap} {a:Addr} {o:HO} (x:HOk P w H h) (e:H a=none) (k:zdk P w (upd H a o) h a o):HOk P w (upd H a o) h:=λb u q=>by
 by_cases hb:b=a
 . subst hb; rw[zab] at q; cases q; exact k
 . rw[zal hb] at q;exact(x b u q).stay (λc v _ r=>r) (λc r=>by rw[zal (zaf r e)]; exact r) λc xs r=>by rw[zal (zaf r e)]; exact r
def tTry (K:W.Frag) (mg:Str->Option Value) (G:Addr) (j:Nat) (tb:zjb->XK->St->Hp->Prop) (th:TS):TS:=λD σ H=>tb D (λcls d H'=>∃C nm,cls=.ref C/\XClsOk K mg nm C/\PySem.W.mroIn K C (.ref G)=some true /\
 ∀ea,H' ea=none->th { nx:=λσ' H2=>D.nx (σ'.set j none) H2,rt:=D.rt,bk:=λσ' H2=>D.bk (σ'.set j none) H2,ct:=λσ' H2=>D.ct (σ'.set j none) H2 } (σ.set j (some (.ref ea))) (upd H' ea (XC ea C d))) σ H
section
variable {X:Cx} {st b0:Stmt} {suite:List Stmt} {tb:zjb->XK->St->Hp->Prop} {th:TS} {G:Addr} {j:Nat} {c n:Str} {cp hp pos:Pos}
theorem z52 (hN:X.N.Nodup) (hj:X.N[j]?=some n) (hk:X.env.scope.names.lookup n=some .local) (hG:XClsOk X.K X.mg c G) (hst:X.stack=X.env :: X.outer) (hfr:X.env.frame=some X.env.locals)
   (hb:PSx X st tb) (hh:∀ea,PSs (X.hdl ea).nox (b0 :: suite) th) (hg:Gl X c:=by rfl) (hdb:(c==("__debug__":Str))=false:=by decide) :
   PS X (.Try [st] [.ExceptHandler (some (.Name c cp)) (some n) (b0 :: suite) hp] [] [] pos) (tTry X.K X.mg G j tb th):=by
 intro pins s σ H D I h;refine wpAny_Try_except (qdw (qb0 (hb pins s σ H D _ I h) (λf s1 q=>?_) λev s1 q=>?_))
 . cases f with
   | next=>exact qda (qda q)
   | ret v=>exact q
   | brk=>exact q
   | cont=>exact q
 obtain⟨H1,s2,I1,ea,cls,d,T0,H',rfl,os,bare,un,hok,hn,he1,hT0,hT1,tr,C,nm,rfl,hC,hsub,hth⟩:=q;have I2:Inv X pins σ H' s1:=I1.call' os un hok bare λb z=>nomatch z;have hframes:X.A.frames=some (X.env :: X.outer):=by rw[<- hst]; exact I.ok.frames
 have hfun:s1.heap.FunFrames X.base (X.env :: X.outer):=by rw[<- hst]; exact I2.stack
 have hS1:∀b∈frs (X.env :: X.outer),H' b=none:=by rw[<- hst]; exact I2.stkFree
 -- the state with a heap that moved
 have mv:∀(h':Heap) (D':Addr->Prop) (g:Array GenState) (dr:Drawn) (tk:Nat),Ex.Mvd (frs (X.env :: X.outer)) D' s1.heap h'->(∀b,D' b->s2.heap.get? b=none)->(∀b,D' b->H' b=none)->AllBare g ->
     Inv X pins σ H' ⟨h',g,dr,tk,s1.os⟩:=λh' D' g dr tk m h1 h2 h3=>by
   refine I1.call' (s':=⟨h',g,dr,tk,s1.os⟩) os (Un.moved un m h1 λb hb=>.inl ?_) (HOk.moved hok m h2 hS1) h3 λb z=>nomatch z;rw[hst]; exact hb
 refine Ex.x_noteT hframes hfun hfr tr λh3 T hT m3 t3=>?_;refine Ex.x_mark (fr:=none) t3 λh4 m4 t4=>?_;have fr2:∀b,s1.heap.get? b=none->s2.heap.get? b=none:=λb q=>by
   cases r:s2.heap.get? b with
   | none=>rfl
   | some o=>obtain⟨o',z⟩:=un.there b o r (by simp); rw[q] at z; cases z
 have D1:∀b,((b=ea\/b=T0)\/b=T)->s2.heap.get? b=none:=by
   rintro b ((rfl|rfl)|rfl)
   . exact hn
   . exact hT0
   . exact fr2 _ hT
 have D2:∀b,((b=ea\/b=T0)\/b=T)->H' b=none:=by
   rintro b ((rfl|rfl)|rfl)
   . exact he1
   . exact hT1
   . exact hok.none_of hT
 have M4:Ex.Mvd (frs (X.env :: X.outer)) (λb=>(b=ea\/b=T0)\/b=T) s1.heap h4:=(m3.mono λb z=>.inl z).trans (zui (m4.mono λb z=>.inr z) λb z=>nomatch z);have I4:Inv X pins σ H' { s1 with heap:=h4 }:=mv h4 _ s1.gens s1.drawn s1.toks M4 D1 D2 bare;have Ih:=I4.hdl ea;obtain⟨cdG,hcG,hvG,_,bmG,hmG⟩:=hG.cd;obtain⟨nmG,qG,NG,bsG,bm',snG,subG,abG,colG,ddG,k0,k1,k2,k3,k5,lG,vG⟩:=hG.obj;refine wpAny_handleBy_cons (codeAny_handlers_test (A:=X.A.mark (some (.ref ea))) (zke Ih hg hG.g ?_ hdb)) (by intro q; cases q);have ty:PySem.W.typeIn X.K (.ref G)=some (.type "type"):=by show(List.lookup G X.K).map (·.cls)=_; rw[lG]; rfl
 obtain⟨oe,vs,oT,ts,q1,q2,q3,q4,q5,q6,q7,q8,q9⟩:=id t4;have Lt:PySem.W.Looks (model X.prog X.w) h4 (typeOf (.ref ea)) (.ref C):=q2 ▸ (PySem.W.Looks.ld q1).andThen .now;have Li:PySem.W.Looks (model X.prog X.w) h4 (isType (.ref G)) true:=by intro A' Q' E' s' k q;unfold isType loadHead;exact wpAny_bind (qe8 (k _ _ (I4.kIn _ _ lG)) (wpAny_pure q))
 refine Ex.x_match (s:={ s1 with heap:=h4 }) I4.kIn Lt ty Li (hG.mro (by decide +kernel)) hsub ?_;dsimp only;refine codeAny_handlers_suite_as ?_;refine Ex.x_mark (s:={ s1 with heap:=h4 }) (fr:=none) t4 λh5 m5 t5=>?_;have M5:Ex.Mvd (frs (X.env :: X.outer)) (λb=>(b=ea\/b=T0)\/b=T) s1.heap h5:=M4.trans (zui (m5.mono λb z=>.inr z) λb z=>nomatch z);have I5:Inv X pins σ H' { s1 with heap:=h5 }:=mv h5 _ s1.gens s1.drawn s1.toks M5 D1 D2 bare;obtain⟨oe5,vs5,oT5,ts5,p1,p2,p3,p4,_⟩:=id t5;have I6:Inv X pins σ (upd H' ea (XC ea C d)) { s1 with heap:=h5 }:=by refine I1.call' (s':={ s1 with heap:=h5 }) os (Un.track (Un.moved un M5 D1 λb hb=>.inl (by rw[hst]; exact hb)) hn he1) (HOk.track (HOk.moved hok M5 D2 hS1) he1 (z6y p1 p2 p3 p4)) bare λb z=>nomatch z
 refine zi9 I6 hN hj (.inl hk) (show zc1 (.ref ea) (.ref ea) from rfl) (λs6 I7=>?_) (.inr hk);refine qb0 (hh ea pins s6 _ _ _ ((I7.hdl ea).wish _) (hth ea he1)) (λf s7 q=>?_) λ_ _ z=>z.elim;have go:∀{σ':St} {H2:Hp} {Q:Flow->Shared->Prop},Inv ((X.hdl ea).nox) pins σ' H2 s7->(∀s8,Inv X pins (σ'.set j none) H2 s8->Q f s8)->wpAny (model X.prog X.w) X.A (do bindName X.env n .none; unbindBehindTheSuite X.env n hp) (λ_ s8=>Q f s8) X.xe s7:=λ{σ' H2 Q} J k=>by have J':=J.unhdl I.ok;obtain⟨m,hm,hl⟩:=id J'.loc;exact wpAny_nameGoes_keeps hk hm (by rw[I.ok.kind]; rfl) λh' v hn' hs'=>k _ (J'.dropped hN hj hk hl hm hn' hs')
 cases f with
 | next =>
   obtain⟨σ',H2,J,z⟩:=q;exact go J λs8 K8=>⟨_,H2,K8,z⟩
 | ret u =>
   obtain⟨v,σ',H2,J,rv,z⟩:=q;exact go J λs8 K8=>⟨v,_,H2,K8,rv,z⟩
 | brk =>
   obtain⟨σ',H2,J,z⟩:=q;exact go J λs8 K8=>⟨_,H2,K8,z⟩
 | cont =>
   obtain⟨σ',H2,J,z⟩:=q;exact go J λs8 K8=>⟨_,H2,K8,z⟩
end
section
variable {P:Program} {w:World} {K:W.Frag} {mg:Str->Option Value} {base:Heap}
theorem Fun.okE {x qual:Str} {st:Stmt} {f:Addr} {fd:FuncData} {N ps:List Str} {k:Nat} {sp:Sp} (F:Fun K x qual st f fd) (S:FnScope N ps (zah st)) (len:∀vs H Q E,sp vs H Q E->vs.length=ps.length)
   (hbody:∀(cdv:Value) (A:Around) (outer:List Env) (s:Shared) (H:Hp) (vs:List V) (Q:VK) (E:XK),Room k (A.deeper (envOfC qual (zah st) s.heap.objs.size f cdv))->sp vs H Q E ->
     ∃t,PSs (zfb (CXe P w) P w K mg base N qual (zah st) f cdv A outer s H E) (zc8 st) t/\t { nx:=λ_ H'=>Q .non H',rt:=Q } (zoo N vs) H):FnOk P w K mg base (CXe P w) (k+1) f fd ps sp:=by
 obtain⟨oc,od,kV,doc,pm,an,cdv,ct,osl,rfl,lk,hcd⟩:=F.ex;exact z5h lk hcd S len λA outer s H vs Q E hr hsp=>hbody cdv A outer s H vs Q E hr hsp
end
section
variable {X:Cx} {k:Nat} {f C:Addr} {fd:FuncData} {ps:List Str} {sp:Sp} {x qual:Str} {st:Stmt} {p pos cpos:Pos} {e:Expr} {es:List Expr} {t:TA} {E:XK}
theorem z4o (D:DefOk X.K X.mg x st ps f fd) (G:FnOk X.prog X.w X.K X.mg X.base (CXe X.prog X.w) k f fd ps sp) (hr:Room k X.A) (hx:zg9 (CXe X.prog X.w) X E) (ha:PA X (e :: es) t) (hg:Gl X x:=by rfl)
   (hdb:(x==("__debug__":Str))=false:=by decide) (he:starEach (e :: es) X.env=(false,eval e X.env) :: starEach es X.env:=by rfl) (hpl:(backTo pos (starEach es X.env)).any (·.1)=false:=by rfl) :
   PE X (.Call (.Name x p) (e :: es) [] pos) (zw4 sp [] E t):=zvk G hr hg D.g D.F.kp D.b .nil hx ha hdb he hpl
theorem zfh (c:XClsOk X.K X.mg x C) (hi:PySem.W.findIn X.K (.ref C) "__init__"=some (some (.builtin "ValueError.__init__"))) (hc:X.calm=true) (hx:zxu X E) (hg:Gl X x:=by rfl)
   (hdb:(x==("__debug__":Str))=false:=by decide):PS X (.Raise (some (.Call (.Name x p) [] [] cpos)) none pos) (zsk C E):=zxq c.cls c.g hi c.kp hc hx hg hdb
end
theorem zpw {K:W.Frag} {mg:Str->Option Value} {h:Heap} {name:Str} {C N:Addr} {nm q:Str} {bs bm:List Value} {sn:List Str} {sub:List Value} {ab:Bool} {col:Option Bool} {dd:Option Addr} {k0 k1 k2 k3 k5:Option Value} (X:K.In h) (G:h.Ns mainGlobals mg)
   (a:PySem.W.nsIn K mainGlobals name=some (some (.ref C))) (l:K.lookup C=some (excClassObj nm q C N bs bm true sn sub ab col dd k0 k1 k2 k3 k5 "ValueError.__new__")) (v:Ex.veTail bm=true) (kp:PySem.W.keepIn K (.ref C)=true)
   (sa:PySem.W.findIn K (.ref C) "__setattr__"=some (some (.builtin "object.__setattr__"))) (ga:PySem.W.findIn K (.ref C) "__getattribute__"=some (some (.builtin "BaseException.__getattribute__"))) (gt:PySem.W.findIn K (.ref C) "__getattr__"=some none)
   (cl:PySem.W.findIn K (.ref C) "__class__"=some (some (.builtin "object.__class__"))) (sg:PySem.W.specialIn K (.builtin "object.__class__") "__get__"=some (some (.builtin "getset_descriptor.__get__"))) (tk:PySem.W.takesIn K (.builtin "object.__class__")=some true):XClsOk K mg name C :=
 ⟨PySem.W.mg_of X G a,⟨nm,q,N,bs,bm,sn,sub,ab,col,dd,k0,k1,k2,k3,k5,l,v⟩,kp,sa,ga,gt,cl,sg,tk⟩
theorem zom:bootBuiltins "ValueError"=some (.type "ValueError"):=by decide +kernel
def noX:XK:=λ_ _ _=>False
theorem zyl {P:Program} {w:World} :zg9 (CXe P w) X noX:=by rintro pins σ H s e s' I ⟨ea,cls,d,T,H',_,_,_,_,_,_,_,_,_,_,h⟩;exact h.elim
end L2
namespace Sk
open PySem PySem.Spec PyProof.Rows
mutual
def hsh (w:World):PyData->Int
 | .int i=>hashInt i
 | .str x=>hashStr w x
 | .bool b=>hashInt (if b then 1 else 0)
 | .tuple ds=>reduceHash (Builtin.Tuple.tupleHashOf (hshs w ds))
 | _=>0
def hshs (w:World):List PyData->List Int
 | []=>[]
 | d :: ds=>hsh w d :: hshs w ds
end
mutual
def drw:PyData->Nat
 | .tuple ds=>drws ds+1
 | _=>1
def drws:List PyData->Nat
 | []=>0
 | d :: ds=>drw d+drws ds
end
end Sk
namespace L2
open PySem PySem.Spec PyProof.Rows
def rLIx (K:W.Frag):V->List V->Hp->VK->Prop:=λx xs H Q=>∃p ys y j,x=.ref p/\xs=[y]/\SqL K H p ys/\zj7 y=true/\ys.all zj7=true/\j<1000/\(∃z,ys[j]?=some z/\eqV z y=true)/\(∀m z,m<j->ys[m]?=some z->eqV z y=false)/\Q (.int (j:Nat)) H
theorem zzb {X:Cx}:MtR X "list.index" (rLIx X.K):=by
 intro pins s σ H x vs v us Q I rx rv h;obtain⟨p,ys,y,j,rfl,rfl,hT,fy,fs,hj0,⟨z,hz,ez⟩,hno,q⟩:=h;cases rx;obtain⟨u,rfl,ru⟩:=rv.one;obtain⟨its,r,⟨⟨cls,dd,data,sl⟩,n,ho,hc,_,hd⟩,hl⟩:=I.list hT;simp only at hc hd;subst hc hd;obtain⟨uz,huz,rz⟩:=r.get hz;have hj:j<its.toArray.size:=by rw[qaw];exact(List.getElem?_eq_some_iff.mp huz).1
 have eU:∀(m:Nat) (hm:m<its.toArray.size) (zz:V),ys[m]?=some zz->eqU y its.toArray[m]=eqV zz y:=λm hm zz hzz=>by
   obtain⟨uu,huu,ruu⟩:=r.get hzz;have:its.toArray[m]=uu:=by have h2:=(List.getElem?_eq_some_iff.mp huu).2;simpa using h2
   rw[this];exact zs0 ruu (qcm.mp fs zz (List.mem_of_getElem? hzz))
 refine call_meets F.slot_list_index ⟨_,ho,rfl⟩ F.entry_list_index (F.args_list_index_2 _ _) (SeqAt.list_indexAt p its.toArray n dd sl u (eqU y) j hj (by omega) (by rw[eU j hj z hz]; exact ez) λm hm hmj=>?_) ⟨ho,λw hw=>zi0 ru fy r fs w (by simpa using hw),?_⟩
 . have hm':m<ys.length:=by rw[r.length]; simpa using hm
   rw[eU m hm ys[m] (List.getElem?_eq_getElem hm')];exact hno m _ hmj (List.getElem?_eq_getElem hm')
 . exact⟨.int j,H,I.tok _,⟨_,rfl⟩,q⟩
theorem iN {c A B:Prop} [Decidable c] (h:B) (hc:¬ c:=by decide +kernel):if c then A else B:=zdd hc h
theorem iP {c A B:Prop} [Decidable c] (h:A) (hc:c:=by decide +kernel):if c then A else B:=zdz hc h
end L2
namespace Ex
open PySem PySem.Spec PyProof.Rows L2
section
variable {M:Model} {A:Around} {E:Value->Shared->Prop} {s:Shared} {base:Heap} {env:Env} {outer:List Env} {L e:Addr} {cls:Value} {d:Option Addr}
theorem note_same {x:Value} {env env':Env} (h:env.frame=env'.frame):noteFrame x env=noteFrame x env':=by unfold noteFrame PySem.frameOf;rw[h]
theorem x_noteA {T0:Addr} {fl:Value} {Q:Unit->Shared->Prop} (hfr:A.frames=some (env :: outer)) (hl:s.heap.FunFrames base (env :: outer)) (hf:env.frame=some L) (hr:Tr s.heap e cls d T0 fl)
   (h:∀h' T,(s.heap.get? T=none\/T=T0)->Mvd (frs (env :: outer)) (λb=>b=e\/b=T0) s.heap h'->Tr h' e cls d T (rawInt L)->Q () { s with heap:=h' }):wpAny M A (noteFrame (.ref e) env) Q E s:=by
 by_cases hz:(fl==rawInt L)=true
 . obtain⟨o,vs,oT,ts,he,hc,hdc,hd,h1,hTe,hT,hdT,h3⟩:=id hr;unfold noteFrame;simp only[hf];refine wpAny_bind (qbp he hd h1 ?_);rw[if_pos (show(Value.ref T0 != Value.none)=true from by simp)];refine wpAny_bind (qbp hT hdT h3 ?_);rw[if_pos hz];have e2:fl=rawInt L:=eq_of_beq hz;exact wpAny_pure (h s.heap T0 (.inr rfl) ⟨λ_ _ _ _ z=>z,λb o _ z=>⟨o.slots,z⟩⟩ (e2 ▸ hr))
 . obtain⟨o,vs,oT,ts,he,rfl,rfl,hd,h1,hTe,hT,hdT,h3⟩:=hr;unfold noteFrame;simp only[hf];refine wpAny_bind (qbp he hd h1 ?_);rw[if_pos (show(Value.ref T0 != Value.none)=true from by simp)];refine wpAny_bind (qbp hT hdT h3 ?_);rw[if_neg hz];refine wpAny_bind (qdg hT hdT (qb2.mp h3).1 ?_);have other:∀(g:Obj->Obj) (b:Addr),b≠T0->(s.heap.update T0 g).get? b=s.heap.get? b:=λg b hb=>qbr _ _ (Ne.symm hb);have noT:∀b o,s.heap.get? b=some o->(∀vs,o.data≠.fields vs)->b≠T0:=λb o hb hnf q=>by rw[q,hT] at hb; cases hb; exact hnf ts hdT
   have m1:Mvd (frs (env :: outer)) (λb=>b=e\/b=T0) s.heap (s.heap.update T0 (Obj.mapFields (·.setIfInBounds 3 Value.none))) :=
     ⟨λb o hb _ hbo=>(other _ b λz=>hb (.inr z)).trans hbo,λb o hb hbo=>⟨o.slots,(other _ b λz=>hb (.inr z)).trans hbo⟩⟩
   have hl2:(s.heap.update T0 (Obj.mapFields (·.setIfInBounds 3 Value.none))).FunFrames base (env :: outer):=hl.of_keeps λb o hb hnf=>⟨o,(other _ b (noT b o hb hnf)).trans hb,rfl⟩
   refine zr2 (s:={ s with heap:=s.heap.update T0 (Obj.mapFields (·.setIfInBounds 3 Value.none)) }) hfr hl2 hf ((other _ e (Ne.symm hTe)).trans he) hd (qb2.mp h1).1 λh' T hT' m2 tr=>h h' T (.inl ?_) (m1.trans (m2.mono λb z=>.inl z)) tr;by_cases z:T=T0
   . subst z;exfalso;have q:=qb9 (Obj.mapFields (·.setIfInBounds 3 Value.none)) hT (Obj.isFreed_of_fields (Obj.data_mapFields hdT _));dsimp only at hT';rw[q] at hT'; cases hT'
   . dsimp only at hT';rwa [other _ T z] at hT'
theorem FunFrames.moved {S:List Addr} {D:Addr->Prop} {h h' base:Heap} (m:Mvd S D h h'):∀{l:List Env},h.FunFrames base l->(∀b∈frs l,¬ D b)->h'.FunFrames base l
 | [],_,_=>trivial
 | env :: rest,⟨hk,⟨L,o,hf,hn,ho,hd⟩,hr⟩,hD=>by
   have hL:L∈frs (env :: rest):=by unfold frs;rw[qc5,hf];exact qbh
   obtain⟨sl,e⟩:=m.slot L o (hD L hL) ho;refine⟨hk,⟨L,_,hf,hn,e,hd⟩,FunFrames.moved m hr λb hb=>hD b ?_⟩;unfold frs at hb ⊢;rw[qc5,hf];exact qba _ hb
end
end Ex
namespace L2
open PySem PySem.Spec PyProof.Rows
def z0a (X:Cx) (N':List Str) (scope:Scope) (C:Addr) (s:Shared) (H:Hp) (fp:List Addr) (EX:XK) (x:Value) (s':Shared):Prop :=
 ∃pins σ H1 s1,Inv (zbx X N' scope C s H fp) pins σ H1 s1/\CXe X.prog X.w X.stack H1 s1 EX x s'
abbrev zrx (X:Cx) (N':List Str) (scope:Scope) (C:Addr) (s:Shared) (H:Hp) (fp:List Addr) (EX:XK):Cx:=(zbx X N' scope C s H fp).wish (z0a X N' scope C s H fp EX)
variable {N':List Str} {scope:Scope}
theorem zs5 {X:Cx} {C:Addr} {s:Shared} {H:Hp} {fp:List Addr} {EX:XK}:zg9 (CXe X.prog X.w) (zrx X N' scope C s H fp EX) EX:=λpins σ H1 s1 e s' I c=>⟨pins,σ,H1,s1,I.unwish,c⟩
variable {elt target iter:Expr} {pos:Pos}
theorem zvb {prog:Program} {w:World} {A:Around} {R:Result->Shared->Prop} {s:Shared} {ifs:List Expr} {it acc:Value} {env:Env} (Ei:Value->Shared->Prop)
   (hE:∀x s',Ei x s'->notedBy (model prog w) A env (λx s'=>R (.error x) s') x s') (I:Nat->Shared->Prop)
   (turn:∀n s,I n s->wpAny (model prog w) A (pyNext it) (λr s₁=>match r with
     | none=>R (.ok .next) s₁
     | some v=>wpAny (model prog w) A (letOwnedTupleGo target it v) (λ_ s₂=>wpAny (model prog w) A (assign target env v) (λ_ s₃ =>
         wpAny (model prog w) A (forIn ifs true λc r=>if r=true then do let ok <- isTrue c env (eval c env); pure (ForInStep.yield ok) else pure (ForInStep.yield r)) (λok s₄ =>
           if ok=true then wpAny (model prog w) A (eval elt env) (λx s₅ =>
             wpAny (model prog w) A (call (.builtin "list.append") [acc,x]) (λ_ s₆=>∃m,m<n/\I m s₆) (λ_ _=>False) s₅) Ei s₄
           else ∃m,m<n/\I m s₄) (λ_ _=>False) s₃) (λ_ _=>False) s₂) (λ_ _=>False) s₁) (λ_ _=>False) s)
   (n:Nat) (h:I n s):codeAny (model prog w) A (.compLoop (.ListComp elt [⟨target,iter,ifs,0⟩] scope pos) 0 it acc env) R s:=by
 refine codeAny_loop rfl I (λn s hI=>?_) n h;show wpAny _ A ((compTurn (.ListComp elt [⟨target,iter,ifs,0⟩] scope pos) 0 it acc env).onRaise (λx=>do noteFrame x env; theTreesLotGoes x)) _ _ s;refine wpAny_noted ?_;rw[compTurn_list];refine wpAny_bind (qc9 (wpAny_bind (zv3 (turn n s hI) λr s₁ h₁=>?_)));cases r with
 | none=>exact wpAny_pure h₁
 | some v =>
   refine wpAny_bind (zv3 h₁ λ_ s₂ h₂=>wpAny_bind (zv3 h₂ λ_ s₃ h₃=>wpAny_bind (zv3 h₃ λok s₄ h₄=>?_)));cases ok with
   | false=>exact wpAny_pure ⟨rfl,h₄⟩
   | true =>
     exact wpAny_bind (wpAny_bind (qb0 h₄ (λx s₅ h₅=>wpAny_bind (zv3 h₅ λ_ s₆ h₆=>wpAny_pure (wpAny_pure ⟨rfl,h₆⟩))) hE))
theorem zu6 {X:Cx} {EX:XK} {use:Option (Value->Sem Unit)} {Q':Value->Shared->Prop} {Q:VK} {pins:List (Addr×Obj)} {s:Shared} {σ:St} {H:Hp} {ifs:List Expr} {wi:TI} {g:TG} {tif:TT} {te:TE} {js:List (Option Nat)} (hok:zmn scope X.env.scope N' X.N js=true) (hc:X.calm=true)
   (hi:PI X target iter wi) (ho:z2p js g) (hg:∀C s H fp,PG (zbx X N' scope C s H fp) target g) (hif:∀C s H fp,PIf (zbx X N' scope C s H fp) ifs tif) (he:∀C s H fp,PE (zrx X N' scope C s H fp EX) elt te)
   (hs:∀x,foldedSetIterable iter X.env x=pure x) (I:Inv X pins σ H s) (h:zxy wi g tif te js σ H Q)
   (hfin:∀(s2:Shared) (H2:Hp) (fp:List Addr) (C:Addr),Inv X pins σ H2 s2->(∀b∈fp,zq7 X pins H2 b)->s2.heap.objs.size<=C->∀(σ':St) (H':Hp) (s':Shared),Inv (zbx X N' scope C s2 H2 fp) [] σ' H' s'->Q (.ref s2.heap.objs.size) H' ->
     compPost (model X.prog X.w) X.A X.xe use Q' (.ref s2.heap.objs.size) C (.ok .next) s')
   (herr:∀(s2:Shared) (H2:Hp) (fp:List Addr) (C:Addr),Inv X pins σ H2 s2->(∀b∈fp,zq7 X pins H2 b)->s2.heap.objs.size<=C->∀(x:Value) (s':Shared),z0a X N' scope C s2 H2 fp EX x s' ->
     notedBy (model X.prog X.w) X.A (compEnvC scope (zf5 scope.names X.env.cells []) C X.env) (λx s'=>compPost (model X.prog X.w) X.A X.xe use Q' (.ref s2.heap.objs.size) C (.error x) s') x s') :
   wpAny (model X.prog X.w) X.A (comprehension (.ListComp elt [⟨target,iter,ifs,0⟩] scope pos) scope X.env (firstIterPos [⟨target,iter,ifs,0⟩] pos) (newList []) false (eval iter X.env) use) Q' X.xe s:=by
 have O:=zpg hok;have hfr:∀y∈scope.names,y.2=.free->∃c,X.env.cells.lookup y.1=some c:=λy hy e=>I.ok.has y.1 (O.free y hy e);refine qeq (use:=use) rfl hs (zsp hfr) O.kind O.names (thn (hi pins s σ H _ I h) λv s1 h1=>thn h1 λitv s2 h2=>?_);obtain⟨it,fp,tn,J,H2,e,I2,T,st2,f2,hq⟩:=h2;subst e;have hf0:H2 s2.heap.objs.size=none:=I2.hok.fresh (qaj _);obtain⟨W,⟨m0,w0⟩,turn⟩:=hq _ hf0;refine qdf (wpAny_newFunctionEnv O.nocell (by intro y hy; simp at hy) (λh₁ hns₁ hsb₁=>?_) O.kind);dsimp only at hns₁ hsb₁ ⊢;generalize hH2:s2.heap.push { cls:=.type "list",dict:=none,data:=.seq ([]:List Value).toArray }=B at hns₁ hsb₁ ⊢;have hC:B.objs.size=s2.heap.objs.size+1:=by rw[<- hH2,qb4]
 have hCle:s2.heap.objs.size<=B.objs.size:=by rw[hC]; exact qcp _
 have old:∀b o,s2.heap.get? b=some o->h₁.get? b=some o:=λb o e=>hsb₁.extBut b o (by rw[hC]; exact qa6 (qem (Heap.lt_size e))) (Heap.get?_push_of_some _ (hH2 ▸ Heap.get?_push_of_some _ e));have hDC:s2.heap.objs.size≠B.objs.size:=by rw[hC]; exact qa6 (qcc _)
 have hacc:h₁.get? s2.heap.objs.size=some { cls:=.type "list",dict:=none,data:=.seq ([]:List Value).toArray }:=hsb₁.extBut _ _ hDC (Heap.get?_push_of_some _ (hH2 ▸ qat _ rfl));have fpO:∀b∈fp,b<s2.heap.objs.size:=λb hb=>by obtain⟨o,e,_⟩:=T.obj 0 _ st2 b hb;exact Heap.lt_size e
 have sub:∀x c,(zf5 scope.names X.env.cells []).lookup x=some c->X.env.cells.lookup x=some c:=zi7 scope.names [] hfr (λx c e=>by cases e);have hasC:∀x,((relabel scope X.env).names.lookup x=some .cell\/(relabel scope X.env).names.lookup x=some .free)->∃c,(zf5 scope.names X.env.cells []).lookup x=some c:=λx hx =>
   qc1.mp (zi5 scope.names [] (zhn (scope:=scope) (env:=X.env) scope.names x O.nocell hx))
 -- the block's context at its begin
 have IY:∀t,Inv (zbx X N' scope B.objs.size s2 H2 fp) [] (cap js σ) (upd H2 s2.heap.objs.size (.lst [])) { s2 with heap:=h₁,toks:=t }:=by
   intro t;refine⟨⟨I2.ok.mod,O.kind,I2.ok.glob,I2.ok.blt,hCle,λx y c h1 h2=>I2.ok.inj x y c (sub x c h1) (sub y c h2),λx hx=>hasC x hx,λx c h=>(by cases h),I2.ok.hd,I2.ok.frames,.inl rfl,λb hb=>⟨qa6 (Nat.lt_of_lt_of_le (fpO b hb) hCle),λx c e=>(f2 b hb).2.2.2.2.1 x c (sub x c e)⟩,
     I2.bs,qa7 I2.ok.bsz I2.sz,λb o e hb=>?_,λb hb z=>?_,I2.stack,I2.stkFree⟩,rfl,I2.bare,Un.laid old (qaj _) hf0,⟨_,hns₁,λi x v e1 e2 e3=>?_⟩,λx c e=>?_,?_,λx c e=>?_,λp hp=>absurd (show p∈([]:List (Addr×Obj)) from hp) (by simp),?_,?_⟩
   . rcases (f2 b hb).2.2.2.1 with z|z
     . exact I2.ok.noex b o e z
     . exact absurd (Nat.lt_of_lt_of_le (Nat.lt_of_lt_of_le (Heap.lt_size e) I2.ok.bsz) z) (qbm _)
   . rcases qay.mp (I2.stkSub b z) with q|q
     . exact(f2 b hb).2.1 q
     . exact(f2 b hb).2.2.1 q
   . have e1:N'[i]?=some x:=e1;unfold cap at e2;rw[List.getElem?_map] at e2;cases q:js[i]? with
     | none=>rw[q] at e2; cases e2
     | some o =>
       rw[q] at e2;cases o with
       | none=>cases e2
       | some j =>
         have e2:(σ[j]?).join=some v:=by simpa using e2
         have e2':σ[j]?=some (some v):=by
           cases z:σ[j]? with
           | none=>rw[z] at e2; cases e2
           | some a=>rw[z] at e2; cases a with
             | none=>cases e2
             | some a=>cases e2; rfl
         obtain⟨hN,hk,hsf⟩:=O.slots i j x q e1;obtain⟨m,hn,hl⟩:=I2.loc;obtain⟨u,r,l⟩:=hl j x v hN e2' (.inr hk);refine⟨u,r,?_⟩;have hkX:X.env.kindOf x=some .cell\/X.env.kindOf x=some .free:=hk;rcases l with⟨k,_⟩|⟨k,c,hc',hcell⟩
         . rcases hkX with z|z
           . rw[k] at z; cases z
           . rw[k] at z; cases z
         . have hky:(relabel scope X.env).names.lookup x=some .cell\/(relabel scope X.env).names.lookup x=some .free:=zgd (env:=X.env) scope.names x hsf;obtain⟨c2,hc2⟩:=hasC x hky;have:c2=c:=by have:=sub x c2 hc2;rw[hc'] at this;exact(Option.some.inj this).symm
           subst this;obtain⟨ob,ho,hd⟩:=hcell;exact .inr ⟨hky,c2,hc2,ob,old _ _ ho,hd⟩
   . obtain⟨v,ob,ho,hd⟩:=I2.cell x c (sub x c e);exact⟨v,ob,old _ _ ho,hd⟩
   . show upd H2 s2.heap.objs.size (.lst []) B.objs.size=none;rw[zal (Ne.symm hDC)];exact I2.hok.fresh hCle
   . obtain⟨v,ob,ho,hd⟩:=I2.cell x c (sub x c e);rw[zal (qa6 (Heap.lt_size ho))];exact I2.freeC x c (sub x c e)
   . exact I2.hok.laid old (qaj _) ⟨qaz _,[],0,.nil,hacc⟩
   . unfold cap;rw[List.length_map];exact O.len
 have hcl:(cap js σ).length=js.length:=by unfold cap; rw[List.length_map]
 have fin:∀{σ':St} {H':Hp} {s':Shared},Inv (zbx X N' scope B.objs.size s2 H2 fp) [] σ' H' s'->Q (.ref s2.heap.objs.size) H'->compPost (model X.prog X.w) X.A X.xe use Q' (.ref s2.heap.objs.size) B.objs.size (.ok .next) s' :=
   λ{σ' H' s'} J q=>hfin s2 H2 fp B.objs.size I2 f2 hCle σ' H' s' J q
 have loop:∀t,codeAny (model X.prog X.w) X.A (.compLoop (.ListComp elt [⟨target,iter,ifs,0⟩] scope pos) 0 (.ref it) (.ref s2.heap.objs.size) (compEnvC scope (zf5 scope.names X.env.cells []) B.objs.size X.env))
     (compPost (model X.prog X.w) X.A X.xe use Q' (.ref s2.heap.objs.size) B.objs.size) { s2 with heap:=h₁,toks:=t }:=by
   intro t;have stat:∀{H':Hp},(∀b∈fp,H' b=none)->∀b∈fp,zq7 (zbx X N' scope B.objs.size s2 H2 fp) [] H' b:=λhn b hb =>
     ⟨hn b hb,qa6 (Nat.lt_of_lt_of_le (fpO b hb) hCle),(IY t).ok.exfs b hb,.inl hb,λx c e=>((IY t).ok.exf b hb).2 x c e,λp hp=>absurd (show p∈([]:List (Addr×Obj)) from hp) (by simp)⟩
   refine zvb (z0a X N' scope B.objs.size s2 H2 fp EX) (λx s' z=>herr s2 H2 fp B.objs.size I2 f2 hCle x s' z) (λn s'=>∃i acc H',Inv (zbx X N' scope B.objs.size s2 H2 fp) [] (cap js σ) H' s'/\tn i s'.heap/\(∀b∈fp,H' b=none)/\W i n acc H') ?_ m0
     ⟨0,[],_,IY t,T.keep 0 _ _ st2 (λb _ o e=>old b o e),λb hb=>by rw[zal (qa6 (fpO b hb))]; exact(f2 b hb).1,w0⟩
   rintro n s3 ⟨i,acc,H3,I3,st3,fr3,w3⟩;obtain⟨hD,turn⟩:=turn i n acc H3 w3;rcases turn with⟨stop,qn⟩|⟨go,hlen,N,hN,step⟩
   . refine thn (T.done (zbx X N' scope B.objs.size s2 H2 fp) rfl rfl rfl hc i [] s3 (cap js σ) H3 (λ_ _=>False) I3 (stat fr3) st3 stop) λr s4 ⟨hr,I4⟩=>?_;subst hr;exact fin I4 qn
   . refine thn (T.item (zbx X N' scope B.objs.size s2 H2 fp) rfl rfl rfl hc i [] s3 (cap js σ) H3 (λ_ _=>False) I3 (stat fr3) st3 go) λr s4 ⟨u,hr,h4⟩=>?_;subst hr;refine thn h4 λ_ s5 ⟨x,H5,I5,r5,y5,st5,fr5⟩=>?_;have I5':=I5.pinned (stat fr5) (T.obj _ _ st5);refine thn (hg _ _ _ _ _ s5 (cap js σ) H5 x u _ I5' r5 (ho x (cap js σ) H5 _ hcl (step x H5 y5))) λ_ s6 ⟨σ6,H6,I6,q6,hl6,hk6⟩=>?_;refine thn (hif _ _ _ _ _ s6 σ6 H6 _ I6 q6) λok s7 ⟨H7,I7,q7⟩=>?_;have again:∀{H8:Hp} {acc8:List V} {s8:Shared},Inv (zbx X N' scope B.objs.size s2 H2 fp) ([]++znq fp s5.heap) σ6 H8 s8->N acc8 H8 ->
         ∃m,m<n/\∃i acc H',Inv (zbx X N' scope B.objs.size s2 H2 fp) [] (cap js σ) H' s8/\tn i s8.heap/\(∀b∈fp,H' b=none)/\W i m acc H':=by
       intro H8 acc8 s8 I8 n8;obtain⟨m',hm,w8⟩:=hN acc8 H8 n8;refine⟨m',hm,i+1,acc8,H8,?_,T.keep _ _ _ st5 λb hb o e=>(I8.pin (b,o) (qbc _ (qbc _ (zfc hb e)))).1,λb hb=>?_,w8⟩
       . refine Inv.weak I8.unpinned (by rw[hl6,hcl]) λk v e=>?_;have e':=e;unfold cap at e;rw[List.getElem?_map] at e;cases q:js[k]? with
         | none=>rw[q] at e; cases e
         | some o =>
           cases o with
           | none=>rw[q] at e; cases e
           | some j=>rw[hk6 k j q]; exact e'
       . obtain⟨o,e,d⟩:=T.obj _ _ st5 b hb;exact(I8.pin (b,o) (qbc _ (qbc _ (zfc hb e)))).2.1
     cases ok with
     | false=>exact again I7 q7
     | true =>
       refine thn (he _ _ _ _ _ s7 σ6 H7 _ (I7.wish _) q7) λy s8 ⟨yv,H8,I8,r8,hD8,q8⟩=>?_;have I8:=I8.unwish;refine thn (zfk _ s8 σ6 H8 (.ref s2.heap.objs.size) [yv] (.ref s2.heap.objs.size) [y] (λ_ H9=>N (acc++[yv]) H9) I8 rfl (.cons r8 .nil) ⟨_,acc,yv,rfl,rfl,hD8,hlen,q8⟩) λ_ s9 ⟨_,H9,I9,_,q9⟩=>?_;exact again I9 q9
 exact codeAny_compStart_list (loop _) (T.self X.A 0 _ _ _ (T.keep 0 _ _ st2 (λb _ o e=>old b o e)) (loop _))
section
variable {P:Program} {w:World} {K:W.Frag} {mg:Str->Option Value} {base:Heap} {N:List Str} {qual:Str} {sc:Scope} {f:Addr} {cd:Value} {A:Around} {outer:List Env} {s0:Shared} {H0:Hp} {E:XK}
theorem z6x {pins:List (Addr×Obj)} {σ:St} {C:Addr} {s2:Shared} {H2:Hp} {fp:List Addr} {use:Option (Value->Sem Unit)} {Q':Value->Shared->Prop} {acc x:Value} {s':Shared}
   (I2:Inv (zfb (CXe P w) P w K mg base N qual sc f cd A outer s0 H0 E) pins σ H2 s2) (f2:∀b∈fp,zq7 (zfb (CXe P w) P w K mg base N qual sc f cd A outer s0 H0 E) pins H2 b) (hCle:s2.heap.objs.size<=C)
   (h:z0a (zfb (CXe P w) P w K mg base N qual sc f cd A outer s0 H0 E) N' scope C s2 H2 fp E x s') :
   notedBy (model P w) (zfb (CXe P w) P w K mg base N qual sc f cd A outer s0 H0 E).A (compEnvC scope (zf5 scope.names (zfb (CXe P w) P w K mg base N qual sc f cd A outer s0 H0 E).env.cells []) C (zfb (CXe P w) P w K mg base N qual sc f cd A outer s0 H0 E).env)
     (λx s'=>compPost (model P w) (zfb (CXe P w) P w K mg base N qual sc f cd A outer s0 H0 E).A (zfb (CXe P w) P w K mg base N qual sc f cd A outer s0 H0 E).xe use Q' acc C (.error x) s') x s':=by
 obtain⟨pins',σ',H1,s1,J1,e,cls,d,T0,H',rfl,os,bare,un,hok,hn,he1,hT0,hT1,tr,hE⟩:=h;have J:Inv (zbx (zfb (CXe P w) P w K mg base N qual sc f cd A outer s0 H0 E) N' scope C s2 H2 fp) pins' σ' H' s':=J1.call' os un hok bare λb z=>nomatch z;have I1:Inv (zfb (CXe P w) P w K mg base N qual sc f cd A outer s0 H0 E) pins σ H1 s1:=I2.call' (ch:=fp) J1.os J1.base J1.hok J1.bare λb hb=>⟨(f2 b hb).2.2.2.1,(f2 b hb).2.1,(f2 b hb).2.2.2.2.1,(f2 b hb).2.2.2.2.2⟩
 have I3:Inv (zfb (CXe P w) P w K mg base N qual sc f cd A outer s0 H0 E) pins σ H' s':=I2.call' (ch:=fp) J.os J.base J.hok J.bare λb hb=>⟨(f2 b hb).2.2.2.1,(f2 b hb).2.1,(f2 b hb).2.2.2.2.1,(f2 b hb).2.2.2.2.2⟩
 have fr0:∀b,s1.heap.get? b=none->s0.heap.get? b=none:=λb q=>by
   cases r:s0.heap.get? b with
   | none=>rfl
   | some o=>obtain⟨o',z⟩:=I1.base.there b o r (λq=>nomatch q); rw[q] at z; cases z
 have fr1:∀b,s'.heap.get? b=none->s0.heap.get? b=none:=λb q=>by
   cases r:s0.heap.get? b with
   | none=>rfl
   | some o=>obtain⟨o',z⟩:=I3.base.there b o r (λq=>nomatch q); rw[q] at z; cases z
 have hC0:s0.heap.get? C=none:=qcq (qa7 I2.sz hCle);obtain⟨m0,hns,_⟩:=J.loc;obtain⟨m1_,hns1,_⟩:=J1.loc;obtain⟨oC,hoC⟩:∃o,s1.heap.get? C=some o:=let ⟨o,_,_,ho,_⟩:=hns1; ⟨o,ho⟩
 have hCe:C≠e:=λz=>by rw[z,hn] at hoC; cases hoC
 have hCT:C≠T0:=λz=>by rw[z,hT0] at hoC; cases hoC
 have hCf:C ∉ frs (zfb (CXe P w) P w K mg base N qual sc f cd A outer s0 H0 E).stack:=λhb=>by obtain⟨_,o,ho,_⟩:=I2.stack.mem hb;exact absurd (Nat.lt_of_lt_of_le (Heap.lt_size ho) hCle) (qbm _)
 unfold notedBy;rw[Ex.note_same (show(compEnvC scope (zf5 scope.names (zfb (CXe P w) P w K mg base N qual sc f cd A outer s0 H0 E).env.cells []) C (zfb (CXe P w) P w K mg base N qual sc f cd A outer s0 H0 E).env).frame=(zfb (CXe P w) P w K mg base N qual sc f cd A outer s0 H0 E).env.frame from rfl)];refine Ex.x_noteT I3.ok.frames I3.stack rfl tr λh1 T hT m1 t1=>?_;have hCTn:T≠C:=λz=>by obtain⟨o,_,_,ho,_⟩:=hns;rw[z] at hT;exact absurd (hT.symm.trans ho) (by simp)
 refine⟨m0,?_,λh' hs cenv hcl=>?_⟩
 . obtain⟨o,a2,a3,ho,rest⟩:=hns;exact⟨o,a2,a3,m1.keep C o (λz=>z.elim hCe hCT) hCf ho,rest⟩
 obtain⟨o,vs,oT,ts,he,hc,hdc,hd,h1',hTe,hT',hdT,h3⟩:=t1;have t1':Ex.Tr h' e cls d T (rawInt (zfb (CXe P w) P w K mg base N qual sc f cd A outer s0 H0 E).env.locals):=⟨o,vs,oT,ts,(hs.2 e (Ne.symm hCe)).trans he,hc,hdc,hd,h1',hTe,(hs.2 T hCTn).trans hT',hdT,h3⟩
 unfold PySem.passOn;refine wpAny_bind (qbp ((hs.2 e (Ne.symm hCe)).trans he) hd h1' ?_);rw[if_neg (show ¬ ((Value.ref T==Value.none)=true) from by simp)];have m12:Ex.Mvd (frs (zfb (CXe P w) P w K mg base N qual sc f cd A outer s0 H0 E).stack) (λb=>b=e\/b=T0\/b=C) s'.heap h':=(m1.mono λb z=>z.elim .inl λy=>.inr (.inl y)).trans ⟨λb o hb _ q=>(hs.2 b λz=>hb (.inr (.inr z))).trans q,λb o hb q=>⟨o.slots,(hs.2 b λz=>hb (.inr (.inr z))).trans q⟩⟩;refine wpAny_bind (Ex.x_mark (fr:=cenv.frame) t1' λh2 m2 t2=>wpAny_throw ?_);have m13:Ex.Mvd (frs (zfb (CXe P w) P w K mg base N qual sc f cd A outer s0 H0 E).stack) (λb=>b=e\/b=T0\/b=C\/b=T) s'.heap h2:=(m12.mono λb z=>z.elim .inl λy=>.inr (y.elim .inl λy=>.inr (.inl y))).trans (zui (m2.mono λb z=>.inr (.inr (.inr z))) λb z=>nomatch z);have nfr:∀b∈frs (zfb (CXe P w) P w K mg base N qual sc f cd A outer s0 H0 E).stack,¬ (b=e\/b=T0\/b=C\/b=T):=λb hb z=>by
   obtain⟨_,ob,hob,_⟩:=I1.stack.mem hb;obtain⟨_,ob3,hob3,_⟩:=I3.stack.mem hb;rcases z with rfl|rfl|rfl|rfl
   . rw[hn] at hob; cases hob
   . rw[hT0] at hob; cases hob
   . exact hCf hb
   . rw[hT] at hob3; cases hob3
 show wpAny _ _ (leaving _ _) _ _ _;unfold leaving;refine wpAny_bind (Ex.x_noteA (s:={ s' with heap:=h2 }) I3.ok.frames (Ex.FunFrames.moved m13 I3.stack nfr) rfl t2 λh3 T' hT2 m3 t3=>?_);refine Ex.x_mark (fr:=none) t3 λh4 m4 t4=>?_;have hH1:∀b,(b=e\/b=T0\/b=C\/b=T)->s0.heap.get? b=none/\H' b=none:=λb z=>by
   rcases z with rfl|rfl|rfl|rfl
   . exact⟨fr0 _ hn,he1⟩
   . exact⟨fr0 _ hT0,hT1⟩
   . exact⟨hC0,J.free⟩
   . exact⟨fr1 _ hT,I3.hok.none_of hT⟩
 have hT4:s0.heap.get? T'=none/\H' T'=none:=by
   rcases hT2 with z|z
   . by_cases y:T'=e\/T'=T0\/T'=C\/T'=T
     . exact hH1 T' y
     . have:s'.heap.get? T'=none:=by
         cases q:s'.heap.get? T' with
         | none=>rfl
         | some ob=>obtain⟨sl,r⟩:=m13.slot T' ob y q; rw[r] at z; cases z
       exact⟨fr1 _ this,I3.hok.none_of this⟩
   . rw[z]; exact hH1 T (.inr (.inr (.inr rfl)))
 have mT:Ex.Mvd (frs (zfb (CXe P w) P w K mg base N qual sc f cd A outer s0 H0 E).stack) (λb=>(b=e\/b=T0\/b=C\/b=T)\/b=T') s'.heap h4 :=
   ((m13.mono λb z=>.inl z).trans (m3.mono λb z=>.inl (z.elim .inl λy=>.inr (.inr (.inr y))))).trans (zui (m4.mono λb z=>.inr z) λb z=>nomatch z)
 refine⟨e,cls,d,T',H',rfl,I3.os,I3.bare,I3.base.moved mT ?_ λb hb=>?_,I3.hok.moved mT ?_ I3.stkFree,fr0 _ hn,he1,hT4.1,hT4.2,t4,hE⟩
 . rintro b (z|rfl)
   . exact(hH1 b z).1
   . exact hT4.1
 . rcases qay.mp (I3.stkSub b hb) with z|z
   . exact .inr (by rw[z]; exact qcq I3.ok.above)
   . exact .inl z
 . rintro b (z|rfl)
   . exact(hH1 b z).2
   . exact hT4.2
theorem zn9 {ifs:List Expr} {wi:TI} {g:TG} {tif:TT} {te:TE} {js:List (Option Nat)} (hok:zmn scope (zfb (CXe P w) P w K mg base N qual sc f cd A outer s0 H0 E).env.scope N' (zfb (CXe P w) P w K mg base N qual sc f cd A outer s0 H0 E).N js=true) (hc:(zfb (CXe P w) P w K mg base N qual sc f cd A outer s0 H0 E).calm=true)
   (hi:PI (zfb (CXe P w) P w K mg base N qual sc f cd A outer s0 H0 E) target iter wi) (ho:z2p js g) (hg:∀C s H fp,PG (zbx (zfb (CXe P w) P w K mg base N qual sc f cd A outer s0 H0 E) N' scope C s H fp) target g) (hif:∀C s H fp,PIf (zbx (zfb (CXe P w) P w K mg base N qual sc f cd A outer s0 H0 E) N' scope C s H fp) ifs tif) (he:∀C s H fp,PE (zrx (zfb (CXe P w) P w K mg base N qual sc f cd A outer s0 H0 E) N' scope C s H fp E) elt te)
   (hs:∀x,foldedSetIterable iter (zfb (CXe P w) P w K mg base N qual sc f cd A outer s0 H0 E).env x=pure x:=by intro _; rfl):PE (zfb (CXe P w) P w K mg base N qual sc f cd A outer s0 H0 E) (.ListComp elt [⟨target,iter,ifs,0⟩] scope pos) (zxy wi g tif te js):=by
 intro pins s σ H Q I h;rw[eval_ListComp];refine zu6 (EX:=E) (use:=none) hok hc hi ho hg hif he hs I h (λs2 H2 fp C I2 f2 hCle σ' H' s' J q=>?_) (λs2 H2 fp C I2 f2 hCle x s' z=>z6x I2 f2 hCle z);obtain⟨m,hn,_⟩:=J.loc;refine⟨m,hn,λh' hs'=>⟨.ref s2.heap.objs.size,H',?_,rfl,q⟩⟩;refine I2.call' (s':={ s' with heap:=h' }) (ch:=fp) J.os (J.base.sameBut hs' hCle) (λb ob e=>?_) J.bare λb hb=>⟨(f2 b hb).2.2.2.1,(f2 b hb).2.1,(f2 b hb).2.2.2.2.1,(f2 b hb).2.2.2.2.2⟩
 refine(J.hok b ob e).stay (λc w' hc q=>(hs'.2 c ?_).trans q) (λ_ q=>q) λ_ _ q=>q;have hfree:H' C=none:=J.free;intro hcC;rw[hcC] at hc;rcases hc with z|z
 . rw[<- z,hfree] at e; cases e
 . rw[hfree] at z; cases z
end
end L2
namespace PySem.W
open PySem PySem.Calls PySem.NumText PyProof.Rows
namespace KIN
theorem zzh {M:Model} {A:Around} {E:Value->Shared->Prop} {s:Shared} {Q:Value->Shared->Prop} {v:Value} {text:List Nat} {n:Int}
   (hs:(text.takeWhile (· != 0)).length<=640) (hr:(int_private% "readNumeral") 0 2 (text.takeWhile (· != 0))=(int_private% "Numeral.value") n)
   (ha:((text.takeWhile (· != 0)).length==text.length)=true) (h:Q (.int n s.toks) { s with toks:=s.toks+1 }) :
   wpAny M A ((int_private% "intFromText") v text 2) Q E s:=by
 obtain⟨hp,g,d,tk,os⟩:=s
 repeat (any_goals (first
   | assumption
   | (with_reducible refine qeg (decide_eq_true hs) ?_)
   | (with_reducible refine qeg (decide_eq_true ha) ?_)
   | wp_step))
 all_goals (try rw[hr])
 all_goals (try dsimp only)
 repeat (any_goals (first
   | assumption
   | (with_reducible refine qeg (decide_eq_true hs) ?_)
   | (with_reducible refine qeg (decide_eq_true ha) ?_)
   | wp_step))
theorem zr7 {x:PySem.Str} {u t:Tok} {n:Int} (hs:(numSeenOf x).length<=640) (hr:(int_private% "readNumeral") 0 2 (numSeenOf x)=(int_private% "Numeral.value") n) (ha:((numSeenOf x).length==(numTextOf x).length)=true):PySem.Gives (Builtin.«int.__new__» ⟨[.type "int",.str x u,.int 2 t],[]⟩) (.int n) :=
 .of_wp λM A E s Q h=>by
   obtain⟨hp,g,d,tk,os⟩:=s;have f1:=F.conv_sub_int;have f2:=F.madeHere_int;have f3:=str_int;have f4:=str_idx;have f5:=str_trunc;have f6:typeOf (.str x u)=pure (.type "str"):=rfl;have hk:=Hid.mk (And.intro hs (And.intro hr ha));clear hs hr ha
   repeat (any_goals (first
     | assumption
     | ((with_reducible show wpAny _ _ ((int_private% "intFromText") _ _ _) _ _ _); refine zzh hk.out.1 hk.out.2.1 hk.out.2.2 ?_)
     | wp_step))
   all_goals first|exact⟨_,rfl,h⟩|skip
theorem call_text2 {prog:Program} {w:World} {A:Around} {E:Value->Shared->Prop} {s:Shared} {Q:Value->Shared->Prop} {x:PySem.Str} {t u:Tok} {n:Int} (hs:(numSeenOf x).length<=640) (hr:(int_private% "readNumeral") 0 2 (numSeenOf x)=(int_private% "Numeral.value") n) (ha:((numSeenOf x).length==(numTextOf x).length)=true) (h:Q (.int n s.toks) { s with toks:=s.toks+1 }):wpAny (model prog w) A (call (.type "int") [.str x t,.int 2 u]) Q E s :=
 callType_new F.called_int F.newNe_int (by kernel_rfl) (by kernel_rfl) (λobj=>by kernel_rfl) F.entry_int_new (zr7 hs hr ha).meets (show(Made.int n).post _ s from⟨rfl,h⟩)
end KIN
end PySem.W
namespace L2
open PySem PySem.Spec PyProof.Rows
def zp9:List (Str×Int):=[("000",0),("001",1),("010",2),("011",3),("100",4),("101",5),("110",6),("111",7),("0000",0),("0001",1),("0010",2),("0011",3),("0100",4),("0101",5),("0110",6),("0111",7),("1000",8),("1001",9),("1010",10),("1011",11),("1100",12),("1101",13),("1110",14),("1111",15)]
theorem zpu {X:Cx}:zbv X (.type "int") (λxs H Q=>∃x n,xs=[.str x,.int 2]/\(x,n)∈zp9/\Q (.int n) H):=by
 intro pins s σ H xs us Q I r h;obtain⟨x,n,rfl,hm,q⟩:=h;obtain⟨u,w',rfl,⟨t,rfl⟩,⟨t2,rfl⟩⟩:=zz3 r;have key:∀p∈zp9,(PySem.numSeenOf p.1).length<=640/\(int_private% "readNumeral") 0 2 (PySem.numSeenOf p.1)=(int_private% "Numeral.value") p.2/\((PySem.numSeenOf p.1).length==(PySem.numTextOf p.1).length)=true:=by intro p hp;simp only[zp9,qay,qdx,or_false] at hp;rcases hp with rfl|rfl|rfl|rfl|rfl|rfl|rfl|rfl|rfl|rfl|rfl|rfl|rfl|rfl|rfl|rfl|rfl|rfl|rfl|rfl|rfl|rfl|rfl|rfl <;> exact⟨by decide +kernel,by kernel_rfl,by decide +kernel⟩
 obtain⟨h1,h2,h3⟩:=key _ hm;exact PySem.W.KIN.call_text2 h1 h2 h3 ⟨.int n,H,I.tok _,⟨_,rfl⟩,q⟩
section
variable {X:Cx} {x qual:Str} {C f:Addr} {fd:FuncData} {st:Stmt} {ps:List Str} {sp:Sp} {k:Nat} {p pos:Pos} {e:Expr} {es:List Expr} {t:TA} {E:XK}
theorem z6s (Cc:ClsOk X.K X.mg x C) (D:IniOk X.K C qual st ps f fd) (G:FnOk X.prog X.w X.K X.mg X.base (CXe X.prog X.w) k f fd ps sp) (hr:Room (k+1) X.A) (hx:zg9 (CXe X.prog X.w) X E) (ha:PA X (e :: es) t) (hg:Gl X x:=by rfl)
   (hdb:(x==("__debug__":Str))=false:=by decide) (he:starEach (e :: es) X.env=(false,eval e X.env) :: starEach es X.env:=by rfl) (hpl:(backTo pos (starEach es X.env)).any (·.1)=false:=by rfl) :
   PE X (.Call (.Name x p) (e :: es) [] pos) (z2i C sp [] E t):=zvx D.M G hr hg Cc.g D.b .nil hx ha hdb he hpl
end
section
variable {g:TG} {tif:TT} {te:TE} {js:List (Option Nat)} {σ:St} {H:Hp} {Q:VK}
theorem zy8 {b1 b2:Bool} {K:W.Frag} {l1 l2:Addr} {xs ys:List V} {p:Addr} (hn:xs.length<=1000000) (Pv:Nat->List V->Hp->Prop) (h0:Pv 0 [] (upd H p (.lst [])))
   (hl:∀i acc H2,i<=min xs.length ys.length->Pv i acc H2->H2 p=some (.lst acc)/\acc.length<=i/\SqV b1 K H2 l1 xs/\SqV b2 K H2 l2 ys)
   (hs:∀i x y acc H2 b,xs[i]?=some x->ys[i]?=some y->Pv i acc H2->H2 b=none->zw8 g tif te (cap js σ) p acc (Pv (i+1)) (.ref b) (upd H2 b (.tup [x,y]))) (hd:∀acc H2,Pv (min xs.length ys.length) acc H2->Q (.ref p) H2) :
   zre (Itz K b1 b2 l1 l2) g tif te js σ Q p H:=by
 refine⟨λi m acc H=>m=min xs.length ys.length - i/\i<=min xs.length ys.length/\Pv i acc H,⟨min xs.length ys.length,by simp,qaz _,h0⟩,?_⟩;rintro i m acc H2 ⟨rfl,hi,q⟩;obtain⟨q1,q2,q3,q4⟩:=hl i acc H2 hi q;refine⟨q1,?_⟩;by_cases hlt:i<min xs.length ys.length
 . have l1':i<xs.length:=by omega
   have l2':i<ys.length:=by omega
   refine .inr ⟨⟨xs,ys,xs[i],ys[i],q3,q4,by simp [l1'],by simp [l2']⟩,?_,Pv (i+1),λacc' H' p'=>⟨min xs.length ys.length - (i+1),by omega,rfl,hlt,p'⟩,λx H' y=>?_⟩
   . have:(1000000:Nat)<sizeLine:=by decide
     omega
   . obtain⟨b,rfl,hb,y⟩:=y;rw[y xs ys xs[i] ys[i] q3 q4 (by simp [l1']) (by simp [l2'])];exact hs i xs[i] ys[i] acc H2 b (by simp [l1']) (by simp [l2']) q hb
 . have e:i=min xs.length ys.length:=by omega
   subst e;refine .inl ⟨⟨xs,ys,q3,q4,?_⟩,hd acc H2 q⟩;rcases Nat.le_total xs.length ys.length with h|h
   . left; rw[qdc h]; exact qbi (qaj _)
   . right; rw[qes h]; exact qbi (qaj _)
end
inductive TyD (K:W.Frag) (H:Hp):V->Value->Prop where
 | of {x:V} {t:Value} (h:TyOf K H x t):TyD K H x t
 | tup {a:Addr} {xs:List V} (h:SqT K H a xs):TyD K H (.ref a) (.type "tuple")
 | lst {a:Addr} {xs:List V} (h:SqL K H a xs):TyD K H (.ref a) (.type "list")
theorem zbe {X:Cx}:zbv X (.builtin "isinstance") (λxs H Q=>∃x c t b,xs=[x,.ty c]/\TyD X.K H x t/\PySem.W.kitOne X.K t (.type c)=some b/\Q (.bl b) H):=by
 intro pins s σ H xs us Q I r h;obtain⟨x,c,t,b,rfl,ty,hk,q⟩:=h;obtain⟨u,w',rfl,rx,rc⟩:=zz3 r;cases (show w'=Value.type c from rc);cases ty with
 | of ty=>exact zph I rx ty hk λtk=>⟨.bl b,H,I.tok _,rfl,q⟩
 | @tup a xs h =>
   cases (show u=Value.ref a from rx);obtain⟨_,_,⟨o,h1,h2,_⟩,_⟩:=I.tuple h;exact PySem.W.kia_one PySem.W.kitx_tuple I.kIn ⟨o,h1,h2⟩ hk (λz=>nomatch z) λtk=>⟨.bl b,H,I.tok _,rfl,q⟩
 | @lst a xs h =>
   cases (show u=Value.ref a from rx);obtain⟨_,_,pl,_⟩:=I.list h;obtain⟨o,h1,h2,_⟩:=pl.isList;exact PySem.W.kia_one PySem.W.kitx_list I.kIn ⟨o,h1,h2⟩ hk (λz=>nomatch z) λtk=>⟨.bl b,H,I.tok _,rfl,q⟩
end L2
namespace K15
open PySem PySem.NumText L2 K11 K14 Gx
theorem zsh (i j n:Nat):Builtin.Str.strSliceIndices (some (i:Int)) (some (j:Int)) 1 n=Builtin.Str.strSliceIndices (some ((min i n:Nat):Int)) (some ((min j n:Nat):Int)) 1 n:=by unfold Builtin.Str.strSliceIndices;simp only[show(1:Int) > 0 by decide,if_true];have h:∀k:Nat,(if(k:Int)<0 then(k:Int)+(n:Int) else(k:Int))=(k:Int):=λk=>if_neg (by omega);rw[h,h,h,h];congr 1 <;> omega
theorem sl_mid (l:List Nat) {i j:Nat} (h:i<=j):Txt.slice (tx l) (some (i:Int)) (some (j:Int))=tx ((l.take j).drop i):=by
 have e:Txt.slice (tx l) (some (i:Int)) (some (j:Int))=Txt.slice (tx l) (some ((min i l.length:Nat):Int)) (some ((min j l.length:Nat):Int)):=by unfold Txt.slice;rw[zcs,zsh i j l.length]
 rw[e,zzo (by omega) (by omega) (by omega)];congr 1;rw[qbu];by_cases hi:i<=l.length
 . rw[qdc hi];by_cases hj:j<=l.length
   . rw[qdc hj,List.drop_take];congr 1;omega
   . rw[qes (by omega),qdd (l:=l) (by omega),qdd];rw[qc2]; omega
 . rw[qde (show l.length<=min i l.length by omega),qde (by rw[qbe]; omega)];simp
theorem sl_to (l:List Nat) (j:Nat):Txt.slice (tx l) none (some (j:Int))=tx (l.take j):=by
 have e:Txt.slice (tx l) none (some (j:Int))=Txt.slice (tx l) (some ((0:Nat):Int)) (some (j:Int)):=by unfold Txt.slice;rw[StrLaws.sliceIdx_none_lo];rfl
 rw[e,sl_mid l (qaz _),List.drop_zero]
theorem sl_from (l:List Nat) (i:Nat):Txt.slice (tx l) (some (i:Int)) none=tx (l.drop i):=by
 have e:Txt.slice (tx l) (some (i:Int)) none=Txt.slice (tx l) (some (i:Int)) (some ((max i l.length:Nat):Int)):=by
   unfold Txt.slice;rw[StrLaws.sliceIdx_none_hi,zcs,zsh i l.length l.length,zsh i (max i l.length) l.length];have:min (max i l.length) l.length=min l.length l.length:=by omega
   rw[this]
 rw[e,sl_mid l (by omega),qdd (by omega)]
end K15
namespace Dc
open PySem L2 Gx Bt Pk
def z2s (rl:List Nat) (cn:Nat->Nat) (l:List Nat):Option (List Mk×List Nat):=(zjv 1 200 l).bind λx=>(zf0 rl cn x.1 x.2).bind λy=>if y.2=[] then some (y.1,[]) else none
theorem z0e (rl:List Nat) (cn:Nat->Nat) (l:List Nat):zu8 rl cn l=if bts l then(z2s rl cn l).map (·.1) else none:=by
 unfold zu8 z2s;split
 . cases zjv 1 200 l with
   | none=>rfl
   | some x =>
     show(zf0 rl cn x.1 x.2).bind _=((zf0 rl cn x.1 x.2).bind _).map _;cases zf0 rl cn x.1 x.2 with
     | none=>rfl
     | some y =>
       show(if y.2=[] then some y.1 else none)=(if y.2=[] then some (y.1,[]) else none).map _;split <;> rfl
 . rfl
structure Rdr where
 x:Addr
 dx:Addr
 fl:Addr
 cl:Addr
def rF (R:Rdr) (l:List Nat) (p:Nat):List (Str×V):=[("flows",.ref R.fl),("called",.ref R.cl),("bits",.str (tx l)),("at",.int p)]
def rlF (fns:List F2.Fd):List Nat:=fns.map λf=>f.rs.length
def cnF (fns:List F2.Fd) (k:Nat):Nat:=(fns[k]?.map λf=>(F2.nms f).length).getD 0
structure RdAt (K:W.Frag) (CB CF:Addr) (H:Hp) (R:Rdr) (fns:List F2.Fd) (r:List Nat):Prop where
 ob:∃l p,H R.x=some (.ins CB R.dx (rF R l p))/\p<=l.length/\l.drop p=r/\l.length<=1000000
 fl:F2.FlowsAt K CF (ers R.x H) R.fl fns
 ls:SqL K (ers R.x H) R.cl (fns.map λf=>V.str f.name)
 bt:bts r
 ok:RlOk (rlF fns) (cnF fns)
variable {l:List Nat}
theorem zti (n:Nat) (h:bts l):bts (l.drop n):=λx hx=>h x (List.mem_of_mem_drop hx)
def zrm (c:Nat) (r:List Nat):Option (List Nat×List Nat):=if c<=r.length then some (r.take c,r.drop c) else none
variable {x:Addr} {H:Hp}
theorem zru :ers x (ers x H)=ers x H:=by
 funext b;by_cases h:b=x
 . subst h; unfold ers; rw[if_pos rfl,if_pos rfl]
 . rw[zao h]
theorem Same.ers2 {H':Hp}(e:Same (ers x H) H'):Same (ers x H) (ers x H'):=by have:=L2.Same.ers (l:=x) e;rw[zru] at this;exact this
variable {c:Nat}
section
variable {K:W.Frag} {CB CF:Addr} {H H':Hp} {R:Rdr} {fns:List F2.Fd} {r r':List Nat}
theorem RdAt.grow (h:RdAt K CB CF H R fns r) (e:Same H H'):RdAt K CB CF H' R fns r :=
 let ⟨l,p,h1,h2,h3,h4⟩:=h.ob
 ⟨⟨l,p,e _ _ h1,h2,h3,h4⟩,h.fl.mono (Same.ers e),Same.seq (Same.ers e) h.ls,h.bt,h.ok⟩
theorem RdAt.mv {p:Nat}(h:RdAt K CB CF H R fns (l.drop p)) (hp:p<=l.length) (hl:l.length<=1000000) (hc:c<=(l.drop p).length):RdAt K CB CF (upd H R.x (.ins CB R.dx (rF R l (p+c)))) R fns ((l.drop p).drop c):=by
 refine⟨⟨l,p+c,zab,by rw[qc2] at hc; omega,by rw[List.drop_drop],hl⟩,?_,?_,zti _ h.bt,h.ok⟩
 . rw[zdi]; exact h.fl
 . rw[zdi]; exact h.ls
theorem z4z (h:4<=l.length):∃a b c d r,l=a :: b :: c :: d :: r:=by
 match l,h with
 | a :: b :: c :: d :: r,_=>exact⟨a,b,c,d,r,rfl⟩
 | [],h=>cases h
 | [_],h=>simp at h
 | [_,_],h=>simp at h
 | [_,_,_],h=>simp at h
theorem zva {f k acc:Nat} (h:l.length<4):zl5 f k acc l=none:=by
 match f,l,h with
 | 0,_,_=>unfold zl5; rfl
 | f+1,[],_=>rfl
 | f+1,[_],_=>rfl
 | f+1,[_,_],_=>rfl
 | f+1,[_,_,_],_=>rfl
 | f+1,_ :: _ :: _ :: _ :: _,h=>simp at h; omega
theorem z6v:∀a∈[48,49],∀b∈[48,49],∀c∈[48,49],(tx [a,b,c],(bv [a,b,c]:Int))∈zp9:=by decide +kernel
theorem z6w:∀a∈[48,49],∀b∈[48,49],∀c∈[48,49],∀d∈[48,49],(tx [a,b,c,d],(bv [a,b,c,d]:Int))∈zp9:=by decide +kernel
theorem zr3 {a:Nat} (h:a=48\/a=49):a∈[48,49]:=by rcases h with rfl|rfl <;> simp
theorem zy6 (l:List Nat) (i j:Nat):Txt.slice (tx l) (some (i:Int)) (some ((i:Int)+(j:Int)))=tx ((l.drop i).take j):=by
 have e:(i:Int)+(j:Int)=((i+j:Nat):Int):=by omega
 rw[e,K15.sl_mid l (by omega),List.drop_take];congr 2;omega
theorem zun (a:Nat) (l:List Nat):Txt.slice (tx (a :: l)) (some 1) none=tx l:=K15.sl_from (a :: l) 1
theorem sE {H1 H2 H3:Hp} (a:Same (ers x H1) H2) (b:Same (ers x H2) H3):Same (ers x H1) H3:=(Same.ers2 a).trans b
theorem zzt (acc v i:Nat):(acc:Int)+(v:Int) * 2 ^ ((3:Int) * (0+(i:Int))).toNat=((acc+v * 8 ^ i:Nat):Int):=by
 have e:((3:Int) * (0+(i:Int))).toNat=3 * i:=by omega
 rw[e,qe6,Int.natCast_mul,Int.natCast_pow,show((2:Int)) ^ (3 * i)=((2:Int) ^ 3) ^ i from Int.pow_mul ..];rfl
theorem zjy {a b:List Nat}:decide (V.str (tx a)=V.str (tx b))=decide (a=b):=by rw[qbt,decide_eq_true_eq,decide_eq_true_eq];exact⟨λh=>Gx.tx_inj (V.str.inj h),λh=>by rw[h]⟩
theorem zjw {r a r':List Nat} (h:zrm c r=some (a,r')):c<=r.length/\a=r.take c/\r'=r.drop c:=by
 unfold zrm at h;split at h
 . rename_i hc
   cases h;exact⟨hc,rfl,rfl⟩
 . cases h
theorem zkf {r:List Nat} (h:zrm c r=none):r.length<c:=by
 unfold zrm at h;split at h
 . cases h
 . omega
theorem RdAt.newT {u:Addr} {xs:List V} (h:RdAt K CB CF H R fns r) (hu:H u=none):SqT K (ers R.x (upd H u (.tup xs))) u xs:=by obtain⟨l,p,ho,-⟩:=h.ob;exact SqT.of (by rw[zao (zaf ho hu).symm]; exact zab)
theorem RdAt.newL {u:Addr} {xs:List V} (h:RdAt K CB CF H R fns r) (hu:H u=none):SqL K (ers R.x (upd H u (.lst xs))) u xs:=by obtain⟨l,p,ho,-⟩:=h.ob;exact SqL.of (by rw[zao (zaf ho hu).symm]; exact zab)
end
section
variable {f most:Nat} {r:List Nat}
theorem z5d (h:most<1):zgq f most r=none:=by unfold zgq;split <;> first|rfl|rw[if_pos h]
theorem rec0:zgq f most []=none:=by unfold zgq; split <;> first|rfl|contradiction
theorem z5n (h:¬ most<1):zgq (f+1) most (48 :: r)=(zjv 0 127 r).map λx=>(.box x.1,x.2):=if_neg h
theorem z7g:zgq f most [49]=none:=by cases f <;> rfl
theorem z0o (h:¬ most<1):zgq (f+1) most (49 :: 48 :: r)=(zl5 16 0 0 r).map λx=>(.num x.1,x.2):=if_neg h
theorem z2f (h:r.length<4):zgq f most (49 :: 49 :: r)=none:=by
 match f,r,h with
 | 0,_,_=>unfold zgq; rfl
 | f+1,[],_=>rfl
 | f+1,[_],_=>rfl
 | f+1,[_,_],_=>rfl
 | f+1,[_,_,_],_=>rfl
 | f+1,_ :: _ :: _ :: _ :: _,h=>simp at h; omega
theorem z4x {a b d:Nat}(h:¬ most<1):zgq (f+1) most (49 :: 49 :: a :: b :: c :: d :: r)=if bv [a,b,c,d]<9 then(zgq f (most - 1) r).bind λx=>(zgq f (most - lv x.1) x.2).map λy=>(.op (bv [a,b,c,d]) x.1 y.1,y.2) else none:=if_neg h
theorem z7m:∀i<9,sgTup[i]?=some (V.str (sgn i)):=by decide +kernel
end
variable {o:HO}
section
variable {K:W.Frag} {CB CF:Addr} {H H' H4:Hp} {R:Rdr} {fns:List F2.Fd} {r r0:List Nat}
theorem RdAt.back (h0:RdAt K CB CF H R fns r0) (h4:RdAt K CB CF H4 R fns r) (s:Same (ers R.x H) H') (e:H' R.x=H4 R.x):RdAt K CB CF H' R fns r :=
 ⟨by rw[e]; exact h4.ob,h0.fl.mono (Same.ers2 s),Same.seq (Same.ers2 s) h0.ls,h4.bt,h4.ok⟩
theorem zsu {p:Addr}(h:x≠p):ers x (upd H p o)=upd (ers x H) p o:=by
 funext b;by_cases hb:b=x
 . subst hb;rw[zal h];unfold ers;rw[if_pos rfl,if_pos rfl]
 . rw[zao hb];by_cases hp:b=p
   . subst hp; rw[zab,zab]
   . rw[zal hp,zal hp,zao hb]
theorem zvn {p:Addr}{ds:List PyData} {xs ys:List V} (t:zbj ds=true) (hp:H p=some (.lst ys)) (hx:x≠p) (h:DatAll K (ers x H) ds xs):DatAll K (ers x (upd H p o)) ds xs:=by rw[zsu hx];exact DatAll.putT t (by rw[zao hx.symm]; exact hp) h
end
theorem zy4 {y:Addr}:ers x (ers y H)=ers y (ers x H):=by
 funext b;unfold ers;by_cases h1:b=x
 . rw[if_pos h1,if_pos h1];by_cases h2:b=y
   . rw[if_pos h2]
   . rw[if_neg h2]
 . rw[if_neg h1,if_neg h1]
theorem zg3 :ers x H x=none:=by unfold ers; rw[if_pos rfl]
theorem zs1 {fns:List F2.Fd} {k:Nat} {f:F2.Fd} (h:fns[k]?=some f):cnF fns k=(F2.nms f).length:=by unfold cnF; rw[h]; rfl
theorem z4a (c:Nat):inV (V.str { cps:=#[c] }) [V.str (Str.ofString "0"),V.str (Str.ofString "1")]=decide (c=48\/c=49):=by
 have h0:=zjy (a:=[c]) (b:=[48]);have h1:=zjy (a:=[c]) (b:=[49]);show(((Str.ofString "0")==({ cps:=#[c] }:Str)) || (((Str.ofString "1")==({ cps:=#[c] }:Str)) || false))=_;have k0:((Str.ofString "0")==({ cps:=#[c] }:Str))=decide (c=48):=by rw[qbt,qdq,decide_eq_true_eq];exact⟨λh=>by have:=Gx.tx_inj (a:=[c]) (b:=[48]) h.symm; simpa using this,λh=>by rw[h]; rfl⟩
 have k1:((Str.ofString "1")==({ cps:=#[c] }:Str))=decide (c=49):=by rw[qbt,qdq,decide_eq_true_eq];exact⟨λh=>by have:=Gx.tx_inj (a:=[c]) (b:=[49]) h.symm; simpa using this,λh=>by rw[h]; rfl⟩
 rw[k0,k1,qej,qbt,qe5,decide_eq_true_eq,decide_eq_true_eq,decide_eq_true_eq]
def isB (c:Nat):Bool:=decide (c=48\/c=49)
theorem zwp :(l.map isB).all id=true <-> bts l:=by rw[qcm];refine⟨λh c hc=>qdr (h _ (qa8.mpr ⟨c,hc,rfl⟩)),λh b hb=>?_⟩;obtain⟨c,hc,rfl⟩:=qa8.mp hb;exact decide_eq_true (h c hc)
theorem z11 (g:Nat->F2.Fd->V) (fns:List F2.Fd):(F2.kD g fns).map (λkv=>kV kv.1)=fns.map λf=>V.str f.name:=by refine qdt λk=>?_;unfold F2.kD;rw[List.getElem?_map,List.getElem?_mapIdx,List.getElem?_map];cases fns[k]? <;> rfl
theorem zvr {P:Mk->Prop} {ms:List Mk} (h0:P mk0) (h:∀m∈ms,P m) (i:Nat):P (prv ms i):=by
 cases i with
 | zero=>exact h0
 | succ i =>
   show P (ms.getD i mk0);rw[List.getD_eq_getElem?_getD];cases e:ms[i]? with
   | none=>exact h0
   | some m=>exact h m (List.mem_of_getElem? e)
theorem zs8 {ms:List Mk} {m:Mk} {i:Nat} (h:ms.length=i):prv (ms++[m]) (i+1)=m:=by show(ms++[m]).getD i mk0=m;rw[List.getD_eq_getElem?_getD,<- h,qbw (qaj _),qex];rfl
variable {G:Hp}
theorem zwo {A B:Hp}{L:Addr} {us:List V} (s:Same A B) (hL:B L=some (.lst us)):Same (nwL B G) (ers L (nwL A G)):=λb o h=>by obtain⟨h1,h2⟩:=zs7 h;rw[zao (λe=>by subst e; exact h1 _ hL),zqo λys z=>h1 ys (s _ _ z)];exact h2
theorem z0u {L:Addr}{H0:Hp}(h:x≠L):ers L (nwL H0 (ers x (upd H L o)))=ers L (nwL H0 (ers x H)):=by rw[zsu h,zmd]
def zx1 {α β:Type} (f:α->Option β):List α->Option (List β)
 | []=>some []
 | a :: l=>(f a).bind λb=>(zx1 f l).map (b :: ·)
theorem zp0 {α β:Type} {f:α->Option β}:∀{l:List α} {a:α},a∈l->f a=none->zx1 f l=none
 | x :: l,a,h,e=>by
   unfold zx1;rcases qay.mp h with rfl|h
   . rw[e]; rfl
   . rw[zp0 h e]; cases f x <;> rfl
theorem zq9 {α β:Type} {f:α->Option β}:∀{l:List α} {m:List β},m.length=l.length->(∀(k:Nat) a b,l[k]?=some a->m[k]?=some b->f a=some b)->zx1 f l=some m
 | [],m,hl,_=>by rw[qcf.mp hl]; rfl
 | a :: l,[],hl,_=>by simp at hl
 | a :: l,b :: m,hl,h=>by unfold zx1;rw[h 0 a b rfl rfl,zq9 (m:=m) (by simpa using hl) λk a b h1 h2=>h (k+1) a b h1 h2];rfl
theorem zpp {α β:Type} {f:α->Option β}:∀{l:List α} {m:List β},zx1 f l=some m->m.length=l.length/\∀(k:Nat) a b,l[k]?=some a->m[k]?=some b->f a=some b
 | [],m,h=>by cases h; exact⟨rfl,λk a b h1=>by cases h1⟩
 | a :: l,m,h=>by
   unfold zx1 at h;cases e:f a with
   | none=>rw[e] at h; cases h
   | some b =>
     rw[e] at h;have h:(zx1 f l).map (b :: ·)=some m:=h;cases e2:zx1 f l with
     | none=>rw[e2] at h; cases h
     | some m' =>
       rw[e2] at h;cases h;obtain⟨h1,h2⟩:=zpp e2;refine⟨by rw[List.length_cons,List.length_cons,h1],λk x y hx hy=>?_⟩;cases k with
       | zero=>cases hx; cases hy; exact e
       | succ k=>exact h2 k x y hx hy
def z2b (fns:List F2.Fd) (ls:List (List Nat)):Option (List (List Mk)):=if ls.length=fns.length then zx1 (zu8 (rlF fns) (cnF fns)) ls else none
theorem zgb {α:Type} {xs:List α} {x y:α} {k:Nat} (h:(xs++[x])[k]?=some y):(k<xs.length/\xs[k]?=some y)\/(k=xs.length/\y=x):=by
 by_cases hk:k<xs.length
 . rw[qb8 hk] at h;exact .inl ⟨hk,h⟩
 . have:k=xs.length:=by have:=(List.getElem?_eq_some_iff.mp h).1;rw[List.length_append] at this;simp at this;omega
   subst this;rw[qbw (qaj _),qex] at h;cases h;exact .inr ⟨rfl,rfl⟩
theorem z5v {B:Hp}{L:Addr} {us:List V} (hL:B L=some (.lst us)):Same (nwL B G) (ers L G):=(zwo (Same.refl B) hL).trans (Same.ers zlm)
theorem z5b {P1:Prop} [Decidable P1] {X A B:Prop} (h:P1->B->X) (b:B):if decide P1=true then X else(if false=true then A else B):=by
 by_cases p:P1
 . exact zdz (decide_eq_true p) (h p b)
 . exact zdd (by rw[decide_eq_true_eq]; exact p) (zdd qas b)
theorem z3k {l:List Str} (h:l.Nodup):K12.onceL l=l:=by
 have key:∀(l acc:List Str),(acc++l).Nodup->l.foldl K12.step acc=acc++l:=by
   intro l
   induction l with
   | nil=>intro acc _; rw[qbf]; rfl
   | cons s l ih =>
     intro acc h;have hs:s ∉ acc:=λhm=>(List.nodup_append.mp h).2.2 s hm s qbh rfl;show l.foldl K12.step (K12.step acc s)=_;have e:K12.step acc s=acc++[s]:=by unfold K12.step; rw[if_neg hs]
     rw[e,ih (acc++[s]) (by rw[qbd]; exact h),qbd];rfl
 exact(key l [] (by simpa using h)).trans (qe4 l)
theorem z7e {b:Int} {n:Nat} (h:n<=12):((List.range n).map λj:Nat=>nmL b (j:Int)).Nodup:=by refine List.pairwise_map.mpr (qeu (λ{i j} hi hj hlt e=>?_) List.pairwise_lt_range);have h1:=qce.mp hi;have h2:=qce.mp hj;have:=zxd e;omega
theorem z30 (b:Int) (p m:Nat):((List.range p).map λj:Nat=>nmL b (j:Int))++((List.range m).map λj:Nat=>nmL b ((p:Int)+(j:Int)))=(List.range (p+m)).map λj:Nat=>nmL b (j:Int):=by rw[List.range_add,List.map_append,qbg];congr 1
theorem zta {K:W.Frag} {H:Hp}:∀ls:List (List Nat),DatAll K H (ls.map λl=>PyData.str (tx l)) (stx ls)
 | []=>zap
 | l :: ls=>za1 (zdo _) (zta ls)
theorem zzm {ls:List (List Nat)} (h:∀l∈ls,bts l):Lay 1 (.list (ls.map λl=>PyData.str (tx l))):=Lay.list (zhm λl hl=>.str (z4w (h l hl)))
def apT (H:Hp) (cl vl:Addr) (G:Hp):Hp:=ers cl (ers vl (nwL H G))
variable {cl vl:Addr}
theorem z31 {b:Addr}(h:apT H cl vl G b=some o):b≠cl/\b≠vl/\(∀ys,H b≠some (.lst ys))/\G b=some o:=by
 unfold apT at h;have n1:b≠cl:=λe=>by subst e; rw[zg3] at h; cases h
 rw[zao n1] at h;have n2:b≠vl:=λe=>by subst e; rw[zg3] at h; cases h
 rw[zao n2] at h;exact⟨n1,n2,zs7 h⟩
theorem z1n {b:Addr}(h1:b≠cl) (h2:b≠vl) (h3:∀ys,H b≠some (.lst ys)):apT H cl vl G b=G b:=by unfold apT;rw[zao h1,zao h2,zqo h3]
theorem zzp {G':Hp}(h:∀b o,b≠cl->b≠vl->G b=some o->G' b=some o):Same (apT H cl vl G) (apT H cl vl G'):=λb o hb=>by obtain⟨h1,h2,h3,h4⟩:=z31 hb;rw[z1n h1 h2 h3];exact h b o h1 h2 h4
theorem z6e :Same (apT H cl vl G) (nwL H G):=zaz.trans zaz
theorem zsx {K:W.Frag} {H:Hp}:∀l:List (Nat×Nat),DatAll K H (l.map λc=>PyData.int c.1) (l.map λc=>V.int c.1)
 | []=>zap
 | c :: l=>za1 (zfr _) (zsx l)
theorem bes {a:Option (Option BTr)} {o:Option BTr} (ha:∀x∈a,pok x) (ho:pok o):PyData.eqv (.list [btO o]) (.list (a.toList.map btO))=lkO a o:=by
 cases a with
 | none=>exact(zxh _).trans rfl
 | some x =>
   have hx:=ha x rfl;refine(eqv1 _ _).trans ?_;show PyData.eqv (btO o) (btO x)=PyData.eqv (btO x) (btO o);rw[qbt];exact⟨λh=>by rw[z2e ho hx h]; exact(znp hx).refl,λh=>by rw[z2e hx ho h]; exact(znp ho).refl⟩
theorem shp {l:List (Option BTr)} (h:∀o∈l,pok o):SeqAt.shaped (.list (l.map btO))=true:=(Lay.list (zhm λo ho=>znp (h o ho))).shaped (by decide:9<=64)
theorem tx0 {b:Nat}:decide (V.str (tx [b])=V.str (Str.ofString "0"))=decide (b=48):=by have:=zjy (a:=[b]) (b:=[48]);rw[show decide ([b]=[48])=decide (b=48) by simp] at this;exact this
theorem tx1 {b:Nat}:decide (V.str (tx [b])=V.str (Str.ofString "1"))=decide (b=49):=by have:=zjy (a:=[b]) (b:=[49]);rw[show decide ([b]=[49])=decide (b=49) by simp] at this;exact this
theorem zsv {r a r':List Nat} (h:zrm 1 r=some (a,r')):∃b,r=b :: r'/\a=[b]:=by
 obtain⟨h1,rfl,rfl⟩:=zjw h;cases r with
 | nil=>simp at h1
 | cons b r=>exact⟨b,rfl,rfl⟩
theorem zoc {r:List Nat} (h:zrm 1 r=none):r=[]:=qcf.mp (by have:=zkf h; omega)
end Dc
namespace K85
open PySem L2 Gx Fl Bt Pk Dc
def top (i:Nat):Stmt:=PySem.Challenge.pw_stopglass_k85_bits_changed.main.body.getD i (.Pass ⟨0,0,0,0⟩)
abbrev zh6:Stmt:=top 7
abbrev zn8:Stmt:=top 8
abbrev zos:Stmt:=top 9
abbrev zh1:Stmt:=top 10
abbrev zgt:Stmt:=top 11
abbrev zts:Stmt:=top 12
abbrev zgu:Stmt:=top 13
abbrev zd6:Stmt:=top 14
abbrev zfv:Stmt:=zfj (top 15) 0
abbrev zi2:Stmt:=top 19
abbrev zll:Stmt:=top 20
abbrev ze4:Stmt:=top 29
abbrev zfw:Stmt:=top 30
abbrev zft:Stmt:=top 31
abbrev zdr:Stmt:=top 32
abbrev ztl:Stmt:=top 33
abbrev zfz:Stmt:=top 34
abbrev zgv:Stmt:=top 35
abbrev zgs:Stmt:=top 36
abbrev zfa:Stmt:=top 37
abbrev zlo:Stmt:=top 38
abbrev zdm:Stmt:=zfj (top 39) 0
abbrev zdp:Stmt:=zfj (top 39) 1
abbrev zc5:Stmt:=zfj (top 39) 2
abbrev zcf:Stmt:=zfj (top 39) 3
abbrev zci:Stmt:=zfj (top 39) 4
abbrev zdn:Stmt:=zfj (top 39) 5
abbrev zde:Stmt:=zfj (top 39) 6
abbrev zdq:Stmt:=zfj (top 39) 7
abbrev zbw:Stmt:=zfj (top 39) 8
abbrev zcj:Stmt:=zfj (top 39) 9
abbrev zlp:Stmt:=top 41
abbrev zln:Stmt:=top 42
abbrev zlr:Stmt:=top 43
abbrev zfp:Stmt:=top 44
abbrev zlj:Stmt:=top 45
abbrev zjh:Stmt:=top 46
abbrev zlf:Stmt:=top 47
abbrev zix:Stmt:=top 48
abbrev zgy:Stmt:=top 49
abbrev zh3:Stmt:=top 50
abbrev zes:Stmt:=top 51
abbrev ze5:Stmt:=top 52
abbrev zli:Stmt:=top 53
abbrev zi8:Stmt:=top 54
abbrev zv0:Stmt:=top 55
set_option genInjectivity false in
set_option genSizeOf false in
structure Adr where
 zf3:Addr
 za2:Addr
 zaw:Addr
 zaj:Addr
 znw:Addr
 zny:FuncData
 zys:Addr
 zyu:FuncData
 zyr:Addr
 zyt:FuncData
 znv:Addr
 znx:FuncData
 zmu:Addr
 zm2:FuncData
 z1t:Addr
 z1v:FuncData
 zmt:Addr
 zm1:FuncData
 zhy:Addr
 zhz:FuncData
 zky:Addr
 zk3:FuncData
 zqx:Addr
 zq1:FuncData
 zlu:Addr
 zlw:FuncData
 zjp:Addr
 zjs:FuncData
 zk2:Addr
 zk7:FuncData
 zk1:Addr
 zk6:FuncData
 zds:Addr
 zdt:FuncData
 z1s:Addr
 z1u:FuncData
 zk0:Addr
 zk5:FuncData
 zmw:Addr
 zm4:FuncData
 zmx:Addr
 zm5:FuncData
 zjq:Addr
 zjt:FuncData
 zt6:Addr
 zuc:FuncData
 zha:Addr
 zhe:FuncData
 zhc:Addr
 zhg:FuncData
 zf1:Addr
 zf2:FuncData
 zeo:Addr
 zep:FuncData
 zez:Addr
 ze0:FuncData
 zhb:Addr
 zhf:FuncData
 zgo:Addr
 zgp:FuncData
 zhd:Addr
 zhh:FuncData
 zd1:Addr
 zd2:FuncData
 zck:Addr
 zcl:FuncData
 zt1:Addr
 zt7:FuncData
 zt5:Addr
 zub:FuncData
 zt4:Addr
 zua:FuncData
 zkz:Addr
 zk4:FuncData
 zlt:Addr
 zlv:FuncData
 zqy:Addr
 zq2:FuncData
 zt3:Addr
 zt9:FuncData
 zq0:Addr
 zq4:FuncData
 zmv:Addr
 zm3:FuncData
 zh7:Addr
 zh8:FuncData
 zij:Addr
 zik:FuncData
 zjo:Addr
 zjr:FuncData
 zt2:Addr
 zt8:FuncData
 zqz:Addr
 zq3:FuncData
 z6h:Addr
 z0l:FuncData
 zow:Addr
 zms:Addr
 z3l:Addr
structure Txt (K:W.Frag) (mg:Str->Option Value) (t:Adr):Prop where
 zf3:XClsOk K mg "GlassError" t.zf3
 za2:XClsOk K mg "BadBits" t.za2
 i0_BadBits:W.findIn K (.ref t.za2) "__init__"=some (some (.builtin "ValueError.__init__"))
 e_BadBits:W.mroIn K t.za2 (.ref t.zf3)=some true
 k_BadBits_BadBits:W.kitOne K (.ref t.za2) (.ref t.za2)=some true
 v_BadBits:W.kitOne K (.ref t.za2) (.type "ValueError")=some true
 names_of:DefOk K mg "names_of" zh6 ["function"] t.znw t.zny
 reads:DefOk K mg "reads" zn8 ["row"] t.zys t.zyu
 gives:DefOk K mg "gives" zos ["row"] t.zyr t.zyt
 atoms_of:DefOk K mg "atoms_of" zh1 ["row"] t.znv t.znx
 each_once:DefOk K mg "each_once" zgt ["names"] t.zmu t.zm2
 ways:DefOk K mg "ways" zts ["rows"] t.z1t t.z1v
 begins_of:DefOk K mg "begins_of" zgu ["rows"] t.zmt t.zm1
 firsts_behind:DefOk K mg "firsts_behind" zd6 ["rows","begins"] t.zhy t.zhz
 zkl:IniOk K t.zaw "Flows.__init__" zfv ["self","program"] t.zky t.zk3
 is_leaf:DefOk K mg "is_leaf" zi2 ["one"] t.zqx t.zq1
 leaves:DefOk K mg "leaves" zll ["one"] t.zlu t.zlw
 number_bits:DefOk K mg "number_bits" ze4 ["number"] t.zjp t.zjs
 plain_bits:DefOk K mg "plain_bits" zfw ["number","count"] t.zk2 t.zk7
 place_bits:DefOk K mg "place_bits" zft ["place"] t.zk1 t.zk6
 reckoning_bits:DefOk K mg "reckoning_bits" zdr ["one"] t.zds t.zdt
 pack:DefOk K mg "pack" ztl ["program","table"] t.z1s t.z1u
 marks_bits:DefOk K mg "marks_bits" zfz ["flows","marks"] t.zk0 t.zk5
 mark_bits:DefOk K mg "mark_bits" zgv ["flows","before","mark"] t.zmw t.zm4
 view_bits:DefOk K mg "view_bits" zgs ["places","ahead"] t.zmx t.zm5
 views_ahead:DefOk K mg "views_ahead" zfa ["before","chain"] t.zjq t.zjt
 unpack:DefOk K mg "unpack" zlo ["program","rows"] t.zt6 t.zuc
 zii:IniOk K t.zaj "BitReader.__init__" zdm ["self","flows","bits"] t.zha t.zhe
 zba:MetOk K t.zaj "take" "BitReader.take" zdp ["self","count"] t.zhc t.zhg
 za8:MetOk K t.zaj "number" "BitReader.number" zc5 ["self","least","most"] t.zf1 t.zf2
 zb5:MetOk K t.zaj "any_number" "BitReader.any_number" zcf ["self"] t.zeo t.zep
 zdx:MetOk K t.zaj "all_marks" "BitReader.all_marks" zci ["self"] t.zez t.ze0
 zgf:MetOk K t.zaj "mark" "BitReader.mark" zdn ["self","before"] t.zhb t.zhf
 zfl:MetOk K t.zaj "frame" "BitReader.frame" zde ["self"] t.zgo t.zgp
 zgg:MetOk K t.zaj "view" "BitReader.view" zdq ["self","count","ahead"] t.zhd t.zhh
 zc4:MetOk K t.zaj "place_beside" "BitReader.place_beside" zbw ["self","ahead"] t.zd1 t.zd2
 zbd:MetOk K t.zaj "reckoning" "BitReader.reckoning" zcj ["self","most"] t.zck t.zcl
 zh0:DefOk K mg "_law_cell" zlp ["_law_script","_law_k"] t.zt1 t.zt7
 zc7:DefOk K mg "_law_part" zln ["_law_cell_here","_law_j","_law_many"] t.zt5 t.zub
 zud:DefOk K mg "_law_name" zlr ["_law_cell_here","_law_k"] t.zt4 t.zua
 znz:DefOk K mg "_law_function" zfp ["_law_cell_here","_law_k","_law_base"] t.zkz t.zk4
 zq6:DefOk K mg "_law_tree" zlj ["_law_cell_here","_law_many"] t.zlt t.zlv
 zyv:DefOk K mg "_law_place" zjh ["_law_cell_here"] t.zqy t.zq2
 z1x:DefOk K mg "_law_mark" zlf ["_law_cell_here","_law_built","_law_last"] t.zt3 t.zt9
 zyx:DefOk K mg "_law_table" zix ["_law_script","_law_built"] t.zq0 t.zq4
 zq5:DefOk K mg "_law_changed" zgy ["_law_row","_law_cell_here"] t.zmv t.zm3
 zju:DefOk K mg "_law_leaves" zh3 ["_law_one"] t.zh7 t.zh8
 zk8:DefOk K mg "_law_frame_fits" zes ["_law_frame","_law_places","_law_built"] t.zij t.zik
 zm6:DefOk K mg "_law_mark_fits" ze5 ["_law_mark_here","_law_built"] t.zjo t.zjr
 z1w:DefOk K mg "_law_fits" zli ["_law_table_here","_law_built"] t.zt2 t.zt8
 zyw:DefOk K mg "_law_right" zi8 ["_law_rows","_law_built"] t.zqz t.zq3
 law:DefOk K mg "law" zv0 ["_law_script"] t.z6h t.z0l
 zb8:ClsOk K mg "Flows" t.zaw
 zai:ClsOk K mg "BitReader" t.zaj
 ze1:zej K t.zaw "last"
 zbh:zej K t.zaw "number_of"
 zca:zej K t.zaw "folded_of"
 zcb:zej K t.zaw "params_of"
 zce:zej K t.zaw "rows_of"
 zb2:zej K t.zaw "names_in"
 zcr:zej K t.zaw "ways_in"
 zbt:zej K t.zaj "flows"
 zbm:zej K t.zaj "called"
 zb1:zej K t.zaj "bits"
 zbu:zej K t.zaj "at"
 zm0:∃tk,mg "SIGN_BITS"=some (.int 4 tk)
 zsm:∃tk,mg "GONE_BITS"=some (.str "00" tk)
 zmy:∃tk,mg "AS_AHEAD_BITS"=some (.str "01" tk)
 zo0:∃tk,mg "MOST_LEAVES"=some (.int 8 tk)
 zmz:∃tk,mg "MOST_STATIONS"=some (.int 200 tk)
 zoy:∃tk,mg "MOST_FRAMES"=some (.int 3 tk)
 zoz:∃tk,mg "MOST_GROUPS"=some (.int 16 tk)
 zvh:∃tk,mg "MOST_BOX"=some (.int 127 tk)
 zne:mg "GIVING_KINDS"=some (.ref t.zow)
 z0m:∀H:Hp,SqT K H t.zow (K12.giving.map V.str)
 zsn:mg "SIGNS"=some (.ref t.zms)
 t_SIGNS:∀H:Hp,SqT K H t.zms sgTup
 z3m:∃o,K.lookup t.zms=some o/\o.cls=.type "tuple"/\o.dict=none
 zox:mg "ATOM_PLACES"=some (.ref t.z3l)
 z7s:z7f K t.z3l K12.tabl
 b_ValueError:mg "ValueError"=none
 b_len:mg "len"=none
 b_list:mg "list"=none
 b_tuple:mg "tuple"=none
 b_isinstance:mg "isinstance"=none
 b_range:mg "range"=none
 b_all:mg "all"=none
 b_enumerate:mg "enumerate"=none
 b_dict:mg "dict"=none
 b_str:mg "str"=none
 b_zip:mg "zip"=none
 b_int:mg "int"=none
 b_bool:mg "bool"=none
 bl:∀(s:Shared) (u:Value),BindsTo s t.z0l ⟨[u],[]⟩ [("_law_script",u)]
section
variable {P:Program} {w:World} {K:W.Frag} {mg:Str->Option Value} {base:Heap} {t:Adr}
def zop (K:W.Frag) (t:Adr):Sp:=λvs H Q _=>∃(x dx p:Addr) (fns:List F2.Fd),vs=[.ref x,.ref p]/\H x=some (.ins t.zaw dx [])/\SqL K (ers x H) p (fns.map λf=>V.ref f.fa)/\fns≠[]/\fns.length<=12/\(∀f∈fns,F2.FnAt K (ers x H) f)/\(fns.map (·.name)).Nodup /\
 ∀H',Same (ers x H) H'->F2.FlowsAt K t.zaw H' x fns->Q .non H'
def zog (K:W.Frag):Sp:=λvs H Q _=>∃(n c:Nat),vs=[.int n,.int c]/\c<=8/\∀H',Same H H'->Q (.str (tx (pb n c))) H'
def znd (K:W.Frag):Sp:=λvs H Q _=>∃(n:Nat),vs=[.int n]/\n<8 ^ 16/\∀H',Same H H'->Q (.str (tx (nb n))) H'
def zeq (K:W.Frag) (n:Nat):Sp:=λvs H Q _=>∃(tr:BTr) (v:V),vs=[v]/\bdp tr<n/\DatV K H (btD tr) v/\tok tr/\lv tr<=16/\∀H',Same H H'->Q (.str (tx (rb tr))) H'
def zoq (K:W.Frag):Sp:=λvs H Q _=>∃(o:Option BTr) (v:V),vs=[v]/\DatV K H (btO o) v/\pok o/\∀H',Same H H'->Q (.str (tx (Pk.ob o))) H'
def zqb (K:W.Frag):Sp:=λvs H Q _=>∃(p a:V) (pl ah:List (Option BTr)),vs=[p,a]/\DatV K H (plD pl) p/\DatV K H (plD ah) a/\(∀o∈pl,pok o)/\(∀o∈ah,pok o)/\pl.length<=24/\∀H',Same H H'->Q (.str (tx (vb ah pl))) H'
def zig (m0:Mk) (ch:List (Nat×Nat)) (n:Nat):List PyData:=(List.range n).map λi=>plD (ahd m0 i (ch.getD i (0,0)).1)
def zm9 (K:W.Frag):Sp:=λvs H Q _=>∃(b0 c:V) (fns:List F2.Fd) (m0:Mk) (ch:List (Nat×Nat)) (z zz:Addr) (oz ozz:HO),vs=[b0,c]/\H z=some oz/\H zz=some ozz/\(fns.map (·.name)).Nodup/\DatV K (ers zz (ers z H)) (tmD (nmF fns) m0) b0/\MOk fns.length m0/\DatV K H (.tuple (ch.map (tfD (nmF fns)))) c/\(∀c∈ch,c.1<fns.length)/\ch.length<=3 /\
 ∀l xs H',Same H H'->H l=none->H' l=some (.lst xs)->DatAll K (ers zz (ers z H')) (zig m0 ch ch.length) xs->Q (.ref l) H'
def zpl (K:W.Frag) (t:Adr):Sp:=λvs H Q _=>∃(x:Addr) (b0 v:V) (fns:List F2.Fd) (m0 m:Mk),vs=[.ref x,b0,v]/\F2.FlowsAt K t.zaw H x fns/\fns.length<=12/\DatV K H (tmD (nmF fns) m0) b0/\MOk fns.length m0/\DatV K H (tmD (nmF fns) m) v/\MOk fns.length m/\∀H',Same H H'->Q (.str (tx (mb m0 m))) H'
def zol (K:W.Frag) (t:Adr):Sp:=λvs H Q _=>∃(x:Addr) (v:V) (fns:List F2.Fd) (ms:List Mk),vs=[.ref x,v]/\F2.FlowsAt K t.zaw H x fns/\fns.length<=12/\DatV K H (.list (ms.map (tmD (nmF fns)))) v/\ms.length<=200/\(∀m∈ms,MOk fns.length m)/\∀H',Same H H'->Q (.str (tx (zib ms))) H'
def z3d (K:W.Frag):Sp:=λvs H Q _=>∃(p:Addr) (v:V) (fns:List F2.Fd) (tb:List (Str×List Mk)),vs=[.ref p,v]/\SqL K H p (fns.map λf=>V.ref f.fa)/\fns≠[]/\fns.length<=12/\(∀f∈fns,F2.FnAt K H f)/\(fns.map (·.name)).Nodup/\DatV K H (.list (tb.map (teD (nmF fns)))) v/\tb.length<=12/\(∀e∈tb,e.2.length<=200/\∀m∈e.2,MOk fns.length m) /\
 ∀l H',Same H H'->H l=none->H' l=some (.lst (tb.map λe=>V.str (tx (zib e.2))))->Q (.ref l) H'
def tbl (nm:Nat->Str) (mss:List (List Mk)):List (Str×List Mk):=(List.range mss.length).map λk=>(nm k,mss.getD k [])
theorem zmh (nm:Nat->Str) (mss:List (List Mk)):(tbl nm mss).length=mss.length:=by unfold tbl; rw[List.length_map,qa9]
theorem zv1 {nm:Nat->Str} {mss:List (List Mk)} {k:Nat} {ms:List Mk} (h:mss[k]?=some ms):(tbl nm mss)[k]?=some (nm k,ms):=by unfold tbl;rw[List.getElem?_map,qdh (List.getElem?_eq_some_iff.mp h).1];show some (nm k,mss.getD k [])=_;rw[List.getD_eq_getElem?_getD,h];rfl
theorem zse {nm:Nat->Str} {mss:List (List Mk)} {e:Str×List Mk} (h:e∈tbl nm mss):e.2∈mss/\∃k,k<mss.length/\e.1=nm k:=by unfold tbl at h;obtain⟨k,hk,rfl⟩:=qa8.mp h;have hk:=qce.mp hk;refine⟨?_,k,hk,rfl⟩;show mss.getD k []∈mss;rw[List.getD_eq_getElem?_getD,List.getElem?_eq_getElem hk];exact qcd hk
theorem ztm (nm:Nat->Str) (mss:List (List Mk)) (f:List Mk->V):((tbl nm mss).map λe=>f e.2)=mss.map f:=by
 refine qdt λk=>?_;rw[List.getElem?_map,List.getElem?_map];cases h:mss[k]? with
 | none=>rw[qbi (by rw[zmh]; exact qco.mp h)]; rfl
 | some ms=>rw[zv1 h]; rfl
theorem z0x {H:Hp} {T:Addr} {nm:Nat->Str} {mss:List (List Mk)} {xs:List V} (h1:SqL K H T xs) (hl:xs.length=mss.length) (h2:∀(k:Nat) ms x,mss[k]?=some ms->xs[k]?=some x->DatV K H (teD nm (nm k,ms)) x):DatV K H (.list ((tbl nm mss).map (teD nm))) (.ref T):=by
 refine zbc h1 (z42 (by rw[List.length_map,zmh,hl]) λk d x hd hx=>?_);have hk:k<mss.length:=by rw[<- hl]; exact(List.getElem?_eq_some_iff.mp hx).1
 have hm:=List.getElem?_eq_getElem hk;rw[List.getElem?_map,zv1 hm] at hd;cases hd;exact h2 k _ x hm hx
def zur (K:W.Frag):Sp:=λvs H Q _=>∃(tr:BTr) (v:V),vs=[v]/\DatV K H (btD tr) v/\tok tr/\∀H',Same H H'->Q (.bl (decide (bdp tr=0))) H'
def zl0 (K:W.Frag) (n:Nat):Sp:=λvs H Q _=>∃(tr:BTr) (v:V),vs=[v]/\bdp tr<n/\DatV K H (btD tr) v/\tok tr/\∀H',Same H H'->Q (.int (lv tr)) H'
def zn3 {α:Type} (K:W.Frag) (t:Adr) (H:Hp) (R:Rdr) (fns:List F2.Fd) (o:Option (α×List Nat)) (res:α->V->Hp->Prop) (Q:VK) (E:XK):Prop :=
 (∀a r',o=some (a,r')->∀v H',Same (ers R.x H) H'->RdAt K t.zaj t.zaw H' R fns r'->res a v H'->Q v H')/\(o=none->∀H',Same (ers R.x H) H'->E (.ref t.za2) none H')
def isL (K:W.Frag) (R:Rdr) (H:Hp) (pl:List (Option BTr)) (v:V) (H':Hp):Prop:=∃lv xs,v=.ref lv/\H lv=none/\H' lv=some (.lst xs)/\DatAll K (ers R.x H') (pl.map btO) xs
def isM {α:Type} (K:W.Frag) (R:Rdr) (H:Hp) (d:α->PyData) (m:α) (v:V) (H':Hp):Prop:=DatV K (nwL (ers R.x H) (ers R.x H')) (d m) v
def isI (n:Nat) (v:V) (_:Hp):Prop:=v=.int n
def isD {α:Type} (K:W.Frag) (R:Rdr) (f:α->PyData) (a:α) (v:V) (H:Hp):Prop:=DatV K (ers R.x H) (f a) v
def zj4 (K:W.Frag) (t:Adr):Sp:=λvs H Q E=>∃(x dx fl:Addr) (fns:List F2.Fd) (l:List Nat),vs=[.ref x,.ref fl,.str (tx l)]/\H x=some (.ins t.zaj dx [])/\F2.FlowsAt K t.zaw (ers x H) fl fns/\RlOk (rlF fns) (cnF fns)/\l.length<=1000000 /\
 (bts l->∀cl H',Same (ers x H) H'->RdAt K t.zaj t.zaw H' ⟨x,dx,fl,cl⟩ fns l->Q .non H')/\(¬ bts l->∀H',Same (ers x H) H'->E (.ref t.za2) none H')
def zj3 (K:W.Frag) (t:Adr):Sp:=λvs H Q E=>∃(R:Rdr) (fns:List F2.Fd) (r:List Nat) (c:Nat),vs=[.ref R.x,.int c]/\c<=4/\RdAt K t.zaj t.zaw H R fns r/\zn3 K t H R fns (zrm c r) (λa v _=>v=.str (tx a)) Q E
def zgz (K:W.Frag) (t:Adr):Sp:=λvs H Q E=>∃(R:Rdr) (fns:List F2.Fd) (r:List Nat),vs=[.ref R.x]/\RdAt K t.zaj t.zaw H R fns r/\zn3 K t H R fns (zl5 16 0 0 r) isI Q E
def zir (K:W.Frag) (t:Adr):Sp:=λvs H Q E=>∃(R:Rdr) (fns:List F2.Fd) (r:List Nat) (lo hi:Nat),vs=[.ref R.x,.int lo,.int hi]/\RdAt K t.zaj t.zaw H R fns r/\zn3 K t H R fns (zjv lo hi r) isI Q E
def zjk (K:W.Frag) (t:Adr):Sp:=λvs H Q E=>∃(R:Rdr) (fns:List F2.Fd) (r:List Nat),vs=[.ref R.x]/\RdAt K t.zaj t.zaw H R fns r/\zn3 K t H R fns (dFr (rlF fns) r) (isD K R (tfD (nmF fns))) Q E
def zc3 (K:W.Frag) (t:Adr) (n:Nat):Sp:=λvs H Q E=>∃(R:Rdr) (fns:List F2.Fd) (r:List Nat) (f most:Nat),vs=[.ref R.x,.int most]/\f<n/\most<=f/\most<=8/\RdAt K t.zaj t.zaw H R fns r/\zn3 K t H R fns (zgq f most r) (isD K R btD) Q E
def zf8 (K:W.Frag) (t:Adr):Sp:=λvs H Q E=>∃(R:Rdr) (fns:List F2.Fd) (r:List Nat) (a:Option (Option BTr)) (u:V),vs=[.ref R.x,u]/\DatV K (ers R.x H) (plD a.toList) u/\(∀o∈a,pok o)/\RdAt K t.zaj t.zaw H R fns r/\zn3 K t H R fns (dPl a r) (isD K R btO) Q E
def zkc (K:W.Frag) (t:Adr):Sp:=λvs H Q E=>∃(R:Rdr) (fns:List F2.Fd) (r:List Nat) (n:Nat) (ah:List (Option BTr)) (u:V),vs=[.ref R.x,.int n,u]/\n<=24/\DatV K (ers R.x H) (plD ah) u/\(∀o∈ah,pok o)/\RdAt K t.zaj t.zaw H R fns r/\zn3 K t H R fns (zo9 ah n r) (isL K R H) Q E
def zj9 (K:W.Frag) (t:Adr):Sp:=λvs H Q E=>∃(R:Rdr) (fns:List F2.Fd) (r:List Nat) (m0:Mk) (u:V),vs=[.ref R.x,u]/\DatV K (ers R.x H) (tmD (nmF fns) m0) u/\MOk fns.length m0/\RdAt K t.zaj t.zaw H R fns r/\zn3 K t H R fns (zlb (rlF fns) (cnF fns) m0 r) (isM K R H (tmD (nmF fns))) Q E
def zhk (K:W.Frag) (t:Adr):Sp:=λvs H Q E=>∃(R:Rdr) (fns:List F2.Fd) (r:List Nat),vs=[.ref R.x]/\RdAt K t.zaj t.zaw H R fns r/\zn3 K t H R fns (z2s (rlF fns) (cnF fns) r) (isM K R H λms=>.list (ms.map (tmD (nmF fns)))) Q E
def zpx (K:W.Frag) (t:Adr):Sp:=λvs H Q E=>∃(p rl:Addr) (fns:List F2.Fd) (ls:List (List Nat)),vs=[.ref p,.ref rl]/\SqL K H p (fns.map λf=>V.ref f.fa)/\(∀f∈fns,F2.FnAt K H f)/\(fns.map (·.name)).Nodup/\RlOk (rlF fns) (cnF fns)/\SqL K H rl (stx ls)/\(∀l∈ls,l.length<=1000000) /\
 (∀mss,z2b fns ls=some mss->∀v H',Same H H'->DatV K H' (.list ((tbl (nmF fns) mss).map (teD (nmF fns)))) v->Q v H')/\(z2b fns ls=none->∀H',Same H H'->E (.ref t.za2) none H')
def zvt (K:W.Frag):Sp:=λvs H Q _=>∃(a:Addr) (ns:List Int) (k:Int),vs=[.ref a,.int k]/\SqL K H a (ns.map V.int)/\ns.length<=63/\0<=k/\k<1000/\Q (.int (zfm ns k)) H
def zv2 (K:W.Frag):Sp:=λvs H Q _=>∃(c j m:Int),vs=[.int c,.int j,.int m]/\0<=j/\0<m/\∀H',Same H H'->Q (.int (zd3 c j m)) H'
def zw9 (K:W.Frag):Sp:=λvs H Q _=>∃(b k:Int),vs=[.int b,.int k]/\∀H',Same H H'->Q (.str (nmL b k)) H'
def zmj (K:W.Frag) (n:Nat):Sp:=λvs H Q _=>∃(c:Int) (m:Nat),vs=[.int c,.int m]/\m<n/\0<m/\∀tr v H',Same H H'->DatV K H' (btD tr) v->tok tr->sml tr->lv tr=m->Q v H'
def zug (K:W.Frag):Sp:=λvs H Q _=>∃(c:Int),vs=[.int c]/\∀o v H',Same H H'->DatV K H' (btO o) v->pOk o->Q v H'
def zn7 (K:W.Frag):Sp:=λvs H Q _=>∃(c k b:Int),vs=[.int c,.int k,.int b]/\0<=k/\k<100/\∀(x:Bd) H',Same H H'->H x.e=none->EntAt K H' x->x.f.name=nmL b (k+3)->H' x.e=some (.lst [.ref x.f.fa,.int x.cnt])->x.cnt=(F2.nms x.f).length->Q (.ref x.e) H'
structure Blt (K:W.Frag) (H:Hp) (b:Addr) (bs:List Bd):Prop where
 bt:BuiltAt K H b bs
 cn:∀x∈bs,x.cnt=(F2.nms x.f).length
theorem Blt.mono {H H':Hp} {b:Addr} {bs:List Bd} (h:Blt K H b bs) (e:Same H H'):Blt K H' b bs:=⟨h.bt.mono e,h.cn⟩
def rlB (bs:List Bd):List Nat:=rlF (bs.map (·.f))
def cnB (bs:List Bd):Nat->Nat:=cnF (bs.map (·.f))
def nmB (bs:List Bd):Nat->Str:=nmF (bs.map (·.f))
theorem zyh {H:Hp} {b:Addr} {bs:List Bd} (h:Blt K H b bs):RlOk (rlB bs) (cnB bs):=by
 have hl:(rlB bs).length=bs.length:=by unfold rlB rlF; rw[List.length_map,List.length_map]
 refine⟨?_,by rw[hl]; exact h.bt.n12,λn hn=>?_,λk=>?_⟩
 . rw[hl];cases e:bs with
   | nil=>exact absurd e h.bt.n0
   | cons x l=>rw[List.length_cons]; omega
 . unfold rlB rlF at hn;rw[qbg] at hn;obtain⟨x,hx,rfl⟩:=qa8.mp hn;have hE:=h.bt.all x hx;refine⟨?_,hE.fn.len⟩;show 1<=x.f.rs.length;cases e:x.f.rs with
   | nil=>exact absurd e hE.ne
   | cons y l=>rw[List.length_cons]; omega
 . show((bs.map (·.f))[k]?.map λf=>(F2.nms f).length).getD 0<=24;rw[List.getElem?_map];cases e:bs[k]? with
   | none=>exact qaz _
   | some x =>
     have hm:=List.mem_of_getElem? e;show(F2.nms x.f).length<=24;rw[<- h.cn x hm];exact(h.bt.all x hm).cn
def zl4 (K:W.Frag):Sp:=λvs H Q _=>∃(u w:V) (b:Addr) (bs:List Bd) (c:Nat×Nat) (pl:List (Option BTr)),vs=[u,w,.ref b]/\Blt K H b bs/\DatV K H (tfD (nmB bs) c) u/\DatV K H (plD pl) w/\c.1<(rlB bs).length/\c.2<(rlB bs).getD c.1 0/\pl.length=cnB bs c.1/\(∀o∈pl,pOk o)/\∀H',Same H H'->Q (.bl true) H'
def znb (K:W.Frag):Sp:=λvs H Q _=>∃(u:V) (b:Addr) (bs:List Bd) (m:Mk),vs=[u,.ref b]/\Blt K H b bs/\DatV K H (tmD (nmB bs) m) u/\MFit (rlB bs) (cnB bs) m/\∀H',Same H H'->Q (.bl true) H'
def zw6 (K:W.Frag):Sp:=λvs H Q _=>∃(u:V) (b:Addr) (bs:List Bd) (mss:List (List Mk)),vs=[u,.ref b]/\Blt K H b bs/\DatV K H (.list ((tbl (nmB bs) mss).map (teD (nmB bs)))) u/\mss.length=bs.length/\(∀ms∈mss,1<=ms.length/\ms.length<=200/\∀m∈ms,MFit (rlB bs) (cnB bs) m)/\∀H',Same H H'->Q (.bl true) H'
def znu (K:W.Frag) (t:Adr):Sp:=λvs H Q _=>∃(rw_ b:Addr) (bs:List Bd) (ls:List (List Nat)),vs=[.ref rw_,.ref b]/\Blt K H b bs/\SqL K H rw_ (stx ls)/\ls.length<=12/\(∀l∈ls,bts l/\l.length<=1000000)/\∀H',Same H H'->Q (.bl true) H'
def lsD (nm:Nat->Str) (m:Mk):PyData:=.tuple [.tuple (m.ch.map (tfD nm)),.list (m.vs.map plD),.list (m.ch.map λc=>.int c.1)]
def zxc (K:W.Frag):Sp:=λvs H Q _=>∃(c:Int) (b:Addr) (bs:List Bd) (v:V) (m0:Mk),vs=[.int c,.ref b,v]/\Blt K H b bs/\DatV K H (lsD (nmB bs) m0) v/\(m0=mk0\/MFit (rlB bs) (cnB bs) m0) /\
 ∀m v' H',Same H H'->DatV K (nwL H H') (tmD (nmB bs) m) v'->MFit (rlB bs) (cnB bs) m->Q v' H'
def z3s (bs:List Bd) (ms:List Mk):Prop:=1<=ms.length/\ms.length<=3/\∀m∈ms,MFit (rlB bs) (cnB bs) m
def zu5 (K:W.Frag):Sp:=λvs H Q _=>∃(a:Addr) (ns:List Int) (b:Addr) (bs:List Bd),vs=[.ref a,.ref b]/\SqL K H a (ns.map V.int)/\ns.length<=63/\Blt K H b bs /\
 ∀(mss:List (List Mk)) v H',Same H H'->DatV K H' (.list ((tbl (nmB bs) mss).map (teD (nmB bs)))) v->mss.length=bs.length->(∀ms∈mss,z3s bs ms)->Q v H'
def zqv (K:W.Frag):Sp:=λvs H Q _=>∃(l:List Nat) (c:Int),vs=[.str (tx l),.int c]/\bts l/\l.length<=900000/\∀l' H',Same H H'->bts l'->l'.length<=l.length+8->Q (.str (tx l')) H'
def zis (K:W.Frag) (n:Nat):Sp:=λvs H Q _=>∃(tr:BTr) (v:V),vs=[v]/\bdp tr<n/\DatV K H (btD tr) v/\tok tr/\sml tr/\∀H',Same H H'->Q (.int (lv tr)) H'
def sp_law (K:W.Frag):Sp:=λvs H Q _=>∃(a:Addr) (ns:List Int),vs=[.ref a]/\SqL K H a (ns.map V.int)/\ns.length<=63/\∀H',Q (.bl true) H'
def rIsi (K:W.Frag):List V->Hp->VK->Prop:=λxs H Q=>∃x c t b,xs=[x,.ty c]/\TyOf K H x t/\W.kitOne K t (.type c)=some b/\Q (.bl b) H
end
end K85
namespace K85
open PySem L2 K12
section
variable {P:Program} {w:World} {K:W.Frag} {mg:Str->Option Value} {base:Heap} {t:Adr}
theorem zo5:FnScope ["names"] ["names"] (zah zgt):=by walk_at "s"
theorem zkm (T:Txt K mg t):FnOk P w K mg base CX0 1 t.zmu t.zm2 ["names"] (K12.sp_each_once K):=by
 refine T.each_once.F.ok zo5 (λvs H Q E h=>?_) (λcdv A outer s H vs Q E hr h=>?_)
 . obtain⟨p0,ss,rfl,hS,hl,q⟩:=h;rfl
 . obtain⟨p0,ss,rfl,hS,hl,q⟩:=h;refine⟨_,(@zad _ _ _ _ _ (@zat _ _ _ _ (zb3 (zks rfl) (by rfl) T.b_list zf9 (@zaa _ _ _ _ _ (zb3 (zqh rfl) (by rfl) T.b_dict z2d (@zaa _ _ _ _ _ (ze2 (N':=["name"]) (js:=[none]) (by kernel_rfl) rfl (zgc (pvC 0)) zb6 (λ_ _ _ _=>(zar (i:=0) (show(["name"]:List Str).Nodup by decide +kernel) rfl (Or.inl rfl) (.inr rfl))) (λ_ _ _ _=>zcw) (λ_ _ _ _=>(@zby _ _ _ _ _ (@zaa _ _ _ _ _ (pvC 0) (@zaa _ _ _ _ _ ziu zac (by rfl)) (by rfl))))) zac (by rfl))) zac (by rfl)))) zau),?_⟩;refine⟨_,rfl,p0,rfl,⟨_,hS⟩,λp hp=>zey (xs:=ss.map V.str) (by rw[List.length_map]; omega) (λi acc H2=>i<=ss.length/\Same H H2/\H2 p=some (.lst acc)/\∃ps:List Addr,acc=ps.map V.ref/\Paired (λa (kv:Key×V)=>SqT K H2 a [kV kv.1,kv.2]) ps (tru (ss.take i))) ⟨qaz _,Same.new hp,zab,[],rfl,.nil⟩ ?_ ?_ ?_⟩
   . rintro i acc H2 hi ⟨hi',s2,h2,ps,rfl,hps⟩;refine⟨h2,?_,s2.seq hS⟩;have:=Paired.length hps;rw[List.length_map,this];unfold tru;rw[List.length_map,qbe];omega
   . rintro i x acc H2 hx ⟨hi',s2,h2,ps,rfl,hps⟩;have hi:i<ss.length:=by have:=(List.getElem?_eq_some_iff.mp hx).1;rw[List.length_map] at this;exact this
     rw[List.getElem?_map] at hx;have hx:V.str ss[i]=x:=by simpa [hi] using hx
     subst hx;refine⟨_,rfl,(by show 2<=sizeLine; decide),λa ha=>?_⟩;have hap:a≠p:=λz=>by rw[z,h2] at ha; cases ha
     have e:(upd H2 a (.tup [V.str ss[i],V.bl true])) p=some (.lst (ps.map V.ref)):=by rw[zal hap.symm]; exact h2
     refine⟨e,hi,?_,zab,ps++[a],by rw[List.map_append]; rfl,?_⟩
     . exact(s2.trans (Same.new ha)).upd hp
     . have e2:tru (ss.take (i+1))=tru (ss.take i)++[(Sum.inr ss[i],V.bl true)]:=by unfold tru;rw[qbj,List.map_append];simp [hi]
       rw[e2];refine Paired.snoc (Paired.mapP hps λb kv z=>z16 ((Same.new ha).tup z) e) ?_;exact SqT.of (by rw[zal hap]; exact zab)
   . rintro acc H2 ⟨hi',s2,h2,ps,rfl,hps⟩;have e0:ss.take (ss.map V.str).length=ss:=by rw[List.length_map]; exact qbb
     rw[e0] at hps;refine⟨p,ps,tru ss,rfl,SqL.of h2,hps,by unfold tru; rw[List.length_map]; omega,λd hd=>?_⟩;rw[zzd];refine⟨d,tru (onceL ss),rfl,zab,λl hl'=>?_⟩;rw[zzc];exact q l _ ((s2.trans (Same.new hd)).trans (Same.new hl')) (s2.free ((Same.new hd).free hl')) zab
theorem zz2:FnScope ["row"] ["row"] (zah zos):=by walk_at "s"
theorem zy5 (T:Txt K mg t):FnOk P w K mg base CX0 1 t.zyr t.zyt ["row"] (K12.sp_gives K):=by
 refine T.gives.F.ok zz2 (λvs H Q E h=>?_) (λcdv A outer s H vs Q E hr h=>?_)
 . obtain⟨r,xs,g,as,rfl,hr,hrow,q⟩:=h;rfl
 . obtain⟨r,xs,g,as,rfl,hr,hrow,q⟩:=h;refine⟨_,(@zad _ _ _ _ _ (@zat _ _ _ _ (@zi3 _ _ _ _ _ _ _ _ (@zan _ _ _ _ _ _ _ _ zgk (@zaq _ _ _ _ _ _ _ (show IxR _ (zcz K) from zak) (pvC 0) zae (λ_ _=>rfl)) (zgn T.zne) (by with_unfolding_all rfl)) (@zaq _ _ _ _ _ _ _ (show IxR _ (zcz K) from zak) (pvC 0) zae (λ_ _=>rfl)) zkp)) zau),?_⟩;obtain⟨kd,h0,hc⟩:=zwv hrow;refine⟨_,rfl,r,xs,_,_,rfl,rfl,hr,h0,t.zow,giving.map V.str,rfl,.inr (T.z0m H),rfl,zsd,_,rfl,?_⟩;rcases hc with⟨x,rfl,e,h1⟩|⟨rfl,e⟩
   . exact zdz e ⟨_,rfl,r,xs,_,_,rfl,rfl,hr,h1,q⟩
   . exact zdd (z4r e) q
theorem zr5:FnScope ["row"] ["row"] (zah zh1):=by walk_at "s"
theorem zsi (T:Txt K mg t):FnOk P w K mg base CX0 1 t.znv t.znx ["row"] (K12.sp_atoms_of K):=by
 refine T.atoms_of.F.ok zr5 (λvs H Q E h=>?_) (λcdv A outer s H vs Q E hr h=>?_)
 . obtain⟨r,xs,g,as,rfl,hr,hrow,hl,q⟩:=h;rfl
 . obtain⟨r,xs,g,as,rfl,hr,hrow,hl,q⟩:=h;refine⟨_,(@zad _ _ _ _ _ (@zbi _ _ _ _ _ _ _ _ (@zan _ _ _ _ _ _ _ _ zdw (@zaq _ _ _ _ _ _ _ (show IxR _ (zcz K) from zak) (pvC 0) zae (λ_ _=>rfl)) za5 (zax _)) (@zag _ _ _ (@zat _ _ _ _ (zb3 zfy (by rfl) T.b_list zf9 (@zaa _ _ _ _ _ (@zaq _ _ _ _ _ _ _ (show IxR _ (zcz K) from zak) (pvC 0) zae (λ_ _=>rfl)) zac (by rfl))))) zau) (@zag _ _ _ (@zat _ _ _ _ (ze2 (N':=["place","row"]) (js:=[none,some 0]) (by kernel_rfl) rfl (ztf (@zaq _ _ _ _ _ _ _ z57 (zgn T.zox) (@zaq _ _ _ _ _ _ _ (show IxR _ (zcz K) from zak) (pvC 0) zae (λ_ _=>rfl)) (λ_ _=>rfl))) zb6 (λ_ _ _ _=>(zar (i:=0) (show(["place","row"]:List Str).Nodup by decide +kernel) rfl (Or.inl rfl) (.inr rfl))) (λ_ _ _ _=>zcw) (λ_ _ _ _=>(@zaq _ _ _ _ _ _ _ (show IxR _ (zcz K) from zak) (pvC 1) (pvC 0) (λ_ _=>rfl))))))),?_⟩;obtain⟨kd,h0,hc⟩:=zvc hrow;refine⟨_,rfl,r,xs,_,_,rfl,rfl,hr,h0,rfl,_,rfl,?_⟩;rcases hc with⟨rfl,p,h3,hp⟩|⟨hne,pl,hk,hpl,hat⟩
   . exact zdz (decide_eq_true rfl) ⟨_,rfl,r,xs,_,_,rfl,rfl,hr,h3,p,as,rfl,.inr hp,λl hl=>q l _ (Same.new hl) hl zab⟩
   . refine zdd (λh=>hne (V.str.inj (zb7 h))) ?_;refine⟨_,rfl,r,xs,_,_,rfl,rfl,hr,h0,t.z3l,tabl,_,_,rfl,rfl,T.z7s,hk,λa ha=>?_⟩;refine⟨a,rfl,⟨_,ha⟩,λp hp=>zte (xs:=pl.map V.int) (by rw[List.length_map]; omega) (λi acc H2=>acc=as.take i/\H2=upd H p (.lst acc)) ⟨rfl,rfl⟩ ?_ ?_ ?_⟩
     . rintro i acc H2 hi ⟨rfl,rfl⟩;exact⟨zab,by rw[qbe]; omega,(Same.new hp).tup ha⟩
     . rintro i x acc H2 hx ⟨rfl,rfl⟩;have hi:i<as.length:=by have:=(List.getElem?_eq_some_iff.mp hx).1;rw[List.length_map] at this;omega
       obtain⟨p1,hp1,hp2⟩:=hat i as[i] (by simp [hi]);rw[List.getElem?_map,hp1] at hx;have hx:V.int p1=x:=by simpa using hx
       subst hx;refine⟨_,rfl,_,rfl,r,xs,_,_,rfl,rfl,(Same.new hp).tup hr,hp2,zab,?_,zrp⟩;rw[qbj];simp [hi]
     . rintro acc H2 ⟨rfl,rfl⟩;have e:(as.take (pl.map V.int).length)=as:=by rw[List.length_map,hpl]; exact qbb
       exact q p _ (Same.new hp) hp (by rw[zab,e])
theorem zzr:FnScope ["row"] ["row"] (zah zn8):=by walk_at "s"
theorem zy3 (T:Txt K mg t):FnOk P w K mg base CX0 2 t.zys t.zyu ["row"] (K12.sp_reads K):=by
 have G_each_once:=zkm (P:=P) (w:=w) (base:=base) T;have G_atoms_of:=zsi (P:=P) (w:=w) (base:=base) T;refine T.reads.F.ok zzr (λvs H Q E h=>?_) (λcdv A outer s H vs Q E hr h=>?_)
 . obtain⟨r,xs,g,as,rfl,hrw,hrow,hl,hat,q⟩:=h;rfl
 . obtain⟨r,xs,g,as,rfl,hrw,hrow,hl,hat,q⟩:=h;refine⟨_,(@zad _ _ _ _ _ (@zat _ _ _ _ (za6 T.each_once G_each_once (hr.mono (by decide)) (@zaa _ _ _ _ _ (ze2 (N':=["atom"]) (js:=[none]) (by kernel_rfl) rfl (zgc (za6 T.atoms_of G_atoms_of (hr.mono (by decide)) (@zaa _ _ _ _ _ (pvC 0) zac (by rfl)))) zb6 (λ_ _ _ _=>(zar (i:=0) (show(["atom"]:List Str).Nodup by decide +kernel) rfl (Or.inl rfl) (.inr rfl))) (λ_ _ _ _=>(zwj (zcy (zam (show zbv _ (.builtin "isinstance") (rIsi K) from zr9) (by rfl) T.b_isinstance za4 (@zaa _ _ _ _ _ (pvC 0) (@zaa _ _ _ _ _ (zdj (v:=V.ty "str") rfl T.b_str zto rfl) zac (by rfl)) (by rfl)))))) (λ_ _ _ _=>(pvC 0))) zac (by rfl)))) zau),?_⟩;refine⟨_,rfl,r,xs,g,as,rfl,hrw,hrow,hl,λl0 H1 s1 n1 e1=>?_⟩;refine⟨l0,rfl,⟨_,SqL.of e1⟩,λp hp=>zey (xs:=as) (by omega) (λi acc H2=>acc=(zfd (as.take i)).map V.str/\H2=upd H1 p (.lst acc)) ⟨rfl,rfl⟩ ?_ ?_ ?_⟩
   . rintro i acc H2 hi ⟨rfl,rfl⟩;refine⟨zab,?_,(Same.new hp).seq (SqL.of e1)⟩;have:=zj0 (as.take i);rw[List.length_map];rw[qbe] at this;omega
   . rintro i x acc H2 hx ⟨rfl,rfl⟩;have hi:i<as.length:=(List.getElem?_eq_some_iff.mp hx).1;have e2:zfd (as.take (i+1))=zfd (as.take i)++zfd [x]:=by rw[qbj,hx,zn1];rfl
     rcases hat x (List.mem_of_getElem? hx) with⟨s,rfl,hn⟩|⟨z,rfl⟩
     . refine⟨_,rfl,_,_,_,true,rfl,.str _,rfl,_,rfl,?_⟩;refine⟨_,rfl,zab,?_,zrp⟩;rw[e2,List.map_append];rfl
     . refine⟨_,rfl,_,_,_,false,rfl,.int _,rfl,_,rfl,?_⟩;refine⟨?_,?_⟩
       . rw[e2,zuq,qbf]
       . rfl
   . rintro acc H2 ⟨rfl,rfl⟩;rw[qbb];have hle:=zj0 as;exact⟨p,zfd as,rfl,SqL.of zab,by omega,λl H3 s3 n3 e3=>q l H3 ((s1.trans (Same.new hp)).trans s3) (s1.free ((Same.new hp).free n3)) e3⟩
theorem zgw:FnScope ["function","found","row","given"] ["function"] (zah zh6):=by walk_at "s"
theorem zro (T:Txt K mg t):FnOk P w K mg base CX0 3 t.znw t.zny ["function"] (K12.sp_names_of K):=by
 have G_each_once:=zkm (P:=P) (w:=w) (base:=base) T;have G_gives:=zy5 (P:=P) (w:=w) (base:=base) T;have G_reads:=zy3 (P:=P) (w:=w) (base:=base) T;refine T.names_of.F.ok zgw (λvs H Q E h=>?_) (λcdv A outer s H vs Q E hr h=>?_)
 . obtain⟨f,ps,ds,rfl,hf,q⟩:=h;rfl
 . obtain⟨f,ps,ds,rfl,hf,q⟩:=h;refine⟨_,(@zad _ _ _ _ _ (@zas _ _ 1 _ _ _ _ zgw.nd rfl (Or.inl rfl) (zb3 zfy (by rfl) T.b_list zf9 (@zaa _ _ _ _ _ (@zaq _ _ _ _ _ _ _ (show IxR _ (zcz K) from zak) (pvC 0) zae (λ_ _=>rfl)) zac (by rfl))) (by rfl) (by walk_at "f")) (@zad _ _ _ _ _ (zdh PassesOwn.never rfl (ztf (@zaq _ _ _ _ _ _ _ (show IxR _ (zcz K) from zak) (pvC 0) zae (λ_ _=>rfl))) (zar (i:=2) zgw.nd rfl (Or.inl rfl)) (@zad _ _ _ _ _ (@zas _ _ 3 _ _ _ _ zgw.nd rfl (Or.inl rfl) (za6 T.gives G_gives (hr.mono (by decide)) (@zaa _ _ _ _ _ (pvC 2) zac (by rfl))) (by rfl) (by walk_at "f")) (@zad _ _ _ _ _ (@zbi _ _ _ _ _ _ _ _ (zpn (zrr (pvC 3))) (@zag _ _ _ (@zco _ _ _ _ (zeh qax qa1 qa2 zbr (pvC 1) (@zaa _ _ _ _ _ (pvC 3) zac (by rfl))) (by rfl))) zau) (@zag _ _ _ (@zco _ _ _ _ (zeh qax PySem.F.slot_list_extend PySem.F.type_list_extend zyp (pvC 1) (@zaa _ _ _ _ _ (za6 T.reads G_reads (hr.mono (by decide)) (@zaa _ _ _ _ _ (pvC 2) zac (by rfl))) zac (by rfl))) (by rfl)))))) (@zag _ _ _ (@zat _ _ _ _ (za6 T.each_once G_each_once (hr.mono (by decide)) (@zaa _ _ _ _ _ (pvC 1) zac (by rfl))))))),?_⟩;obtain⟨n,b,pp,rr,hF,hP,hR⟩:=hf.fn;refine⟨_,rfl,f,_,_,_,rfl,rfl,hF,rfl,pp,_,rfl,.inr hP,λl hl=>?_⟩;refine⟨_,rfl,f,_,_,_,rfl,rfl,(Same.new hl).tup hF,rfl,?_⟩;refine⟨rr,rfl,⟨_,(Same.new hl).tup hR⟩,zxm (xs:=ds.map λd=>V.ref d.r) (λi σ H2=>Same H H2/\∃v1 v2 fs,σ=[some (.ref f),some (.ref l),v1,v2]/\H2 l=some (.lst (List.map V.str fs))/\onceL fs=onceL (ps++(ds.take i).flatMap rowStrs)/\fs.length<=100+11 * i) ⟨Same.new hl,_,_,ps,rfl,zab,by simp,by have:=hf.pl; omega⟩ ?_ ?_ ?_⟩
   . rintro i σ H2 hi ⟨s2,_⟩;exact s2.tup hR
   . rintro i x σ H2 hx ⟨s2,v1,v2,fs,rfl,h2,ho,hlen⟩;have hi:i<ds.length:=by have:=(List.getElem?_eq_some_iff.mp hx).1;rw[List.length_map] at this;exact this
     rw[List.getElem?_map] at hx;have hx:V.ref ds[i].r=x:=by simpa [hi] using hx
     subst hx;have hd:=hf.rows ds[i] (qcd hi);have hds:=hf.dl;have ef:(ds.take (i+1)).flatMap rowStrs=(ds.take i).flatMap rowStrs++rowStrs ds[i]:=by rw[qbj,qdi];simp [hi]
     have hol:=zxl (zfd ds[i].as);have hsl:=zj0 ds[i].as;have hal:=hd.len;obtain⟨xs,hr1,hr2⟩:=(hd.mono s2).row;refine⟨_,rfl,ds[i].r,xs,_,_,rfl,hr1,hr2,?_⟩;refine⟨_,rfl,_,rfl,?_⟩;cases hg:ds[i].gx with
     | none =>
       refine z3v ⟨_,rfl,.inl ⟨rfl,_,SqL.of h2⟩,_,rfl,ds[i].r,xs,_,_,rfl,hr1,hr2,hd.len,hd.ats,λl4 H4 s4 n4 e4=>?_⟩;refine⟨l,l4,_,_,rfl,rfl,s4 _ _ h2,e4,zb0 (by rw[List.length_map,List.length_map]; omega),?_⟩;refine⟨(s2.trans s4).upd hl,_,_,fs++[]++onceL (zfd ds[i].as),rfl,(by rw[zab,qbf,List.map_append]),?_,(by simp only[List.length_append,qdk]; omega)⟩;rw[zs6 ho,ef,qbd];unfold rowStrs;rw[hg];rfl
     | some x =>
       refine iteT ⟨_,rfl,.inl ⟨rfl,_,SqL.of h2⟩,_,rfl,l,_,_,rfl,rfl,h2,zed (by rw[List.length_map]; omega),?_⟩;have s3:Same H (upd H2 l (.lst (List.map V.str fs++[V.str x]))):=s2.upd hl;obtain⟨xs',hr1',hr2'⟩:=(hd.mono s3).row;refine⟨_,rfl,.inl ⟨rfl,_,SqL.of zab⟩,_,rfl,ds[i].r,xs',_,_,rfl,hr1',hr2',hd.len,hd.ats,λl4 H4 s4 n4 e4=>?_⟩;refine⟨l,l4,_,_,rfl,rfl,s4 _ _ zab,e4,zb0 (by simp only[List.length_append,List.length_map,List.length_cons,qdk]; omega),?_⟩;refine⟨(s3.trans s4).upd hl,_,_,fs++[x]++onceL (zfd ds[i].as),rfl,(by rw[zab,List.map_append,List.map_append]; rfl),?_,(by simp only[List.length_append,List.length_cons,qdk]; omega)⟩;rw[zs6 ho,ef,qbd];unfold rowStrs;rw[hg];rfl
   . rintro σ H2 ⟨s2,v1,v2,fs,rfl,h2,ho,hlen⟩;rw[List.length_map,qbb] at ho;rw[List.length_map] at hlen;have hds:=hf.dl;refine⟨_,rfl,l,fs,rfl,SqL.of h2,by omega,λl3 H3 s3 n3 e3=>q l3 H3 (s2.trans s3) (s2.free n3) ?_⟩;rw[e3,ho];rfl
end
end K85
namespace K85
open PySem L2 K13
section
variable {P:Program} {w:World} {K:W.Frag} {mg:Str->Option Value} {base:Heap} {t:Adr}
theorem zev:FnScope ["rows","opened","begins","k","row"] ["rows"] (zah zgu):=by walk_at "s"
theorem zp3 (T:Txt K mg t):FnOk P w K mg base CX0 1 t.zmt t.zm1 ["rows"] (K13.sp_begins_of K):=by
 refine T.begins_of.F.ok zev (λvs H Q E h=>?_) (λcdv A outer s H vs Q E hr h=>?_)
 . obtain⟨a,ks,rfl,hR,w,hn,q⟩:=h;rfl
 . obtain⟨a,ks,rfl,hR,w,hn,q⟩:=h;refine⟨_,(@zad _ _ _ _ _ (@zas _ _ 1 _ _ _ _ zev.nd rfl (Or.inl rfl) (@zb9 _ _ _ _ zac) (by rfl) (by walk_at "f")) (@zad _ _ _ _ _ (@zas _ _ 2 _ _ _ _ zev.nd rfl (Or.inl rfl) ze9 (by rfl) (by walk_at "f")) (@zad _ _ _ _ _ (zdh PassesOwn.never rfl (zoh rfl T.b_enumerate (@zaa _ _ _ _ _ (pvC 0) zac (by rfl))) (zfq rfl (za9 (zar (i:=3) zev.nd rfl (Or.inl rfl)) (za9 (zar (i:=4) zev.nd rfl (Or.inl rfl)) zdv))) (@zag _ _ _ (@zbi _ _ _ _ _ _ _ _ (@zan _ _ _ _ _ _ _ _ zgk (@zaq _ _ _ _ _ _ _ (show IxR _ (zcz K) from zak) (pvC 4) zae (λ_ _=>rfl)) (@zby _ _ _ _ _ (@zaa _ _ _ _ _ za5 (@zaa _ _ _ _ _ za5 zac (by rfl)) (by rfl))) (by with_unfolding_all rfl)) (@zag _ _ _ (@zco _ _ _ _ (zeh qax qa1 qa2 zbr (pvC 1) (@zaa _ _ _ _ _ (pvC 3) zac (by rfl))) (by rfl))) (@zag _ _ _ (@zbi _ _ _ _ _ _ _ _ (@zan _ _ _ _ _ _ _ _ zdw (@zaq _ _ _ _ _ _ _ (show IxR _ (zcz K) from zak) (pvC 4) zae (λ_ _=>rfl)) za5 (zax _)) (@zag _ _ _ (zgx (u1' hr.units) (pvC 2) (pvC 3) (@zaq _ _ _ _ _ _ _ (show IxR _ (zim K) from zbb) (pvC 1) (zrz zly zae) (λ_ _=>rfl)) (by rfl))) (@zag _ _ _ (@zbi _ _ _ _ _ _ _ _ (@zan _ _ _ _ _ _ _ _ zdw (@zaq _ _ _ _ _ _ _ (show IxR _ (zcz K) from zak) (pvC 4) zae (λ_ _=>rfl)) za5 (zax _)) (@zag _ _ _ (zgx (u1' hr.units) (pvC 2) (pvC 3) (z4k qax PySem.F.slot_list_pop PySem.F.type_list_pop z4f (pvC 1)) (by rfl))) zau))))))) (@zag _ _ _ (@zat _ _ _ _ (pvC 2)))))),?_⟩;refine⟨le0,λol hol=>λd hd=>?_⟩;obtain⟨rs,e1,e2,e3⟩:=hR.ex;have hdo:d≠ol:=λz=>by rw[z,zab] at hd; cases hd
   have s0:Same H (upd (upd H ol (.lst [])) d (.dK [])):=(Same.new hol).trans (Same.new hd);have hd0:H d=none:=(Same.new hol).free hd;refine⟨_,rfl,a,rfl,⟨_,s0.tup e1⟩,zl1 (xs:=rs.map V.ref) (λi σ H2=>i<=ks.length/\Same H H2/\∃v3 v4,σ=[some (.ref a),some (.ref ol),some (.ref d),v3,v4]/\H2 ol=some (.lst (zve ks i))/\H2 d=some (.dK (bg ks i))) ⟨qaz _,s0,_,_,rfl,by rw[zal hdo.symm]; exact zab,zab⟩ ?_ ?_ ?_⟩
   . rintro i σ H2 hi ⟨_,s2,_⟩;exact s2.tup e1
   . rintro i x σ H2 b hx ⟨hi',s2,v3,v4,rfl,ho,hg⟩ hb;have hi:i<rs.length:=by have:=(List.getElem?_eq_some_iff.mp hx).1;rw[List.length_map] at this;exact this
     rw[List.getElem?_map] at hx;have hx:V.ref rs[i]=x:=by simpa [hi] using hx
     subst hx;obtain⟨rest,hrow⟩:=e3 i rs[i] (by simp [hi]);have s3:Same H (upd H2 b (.tup [.int i,.ref rs[i]])):=s2.trans (Same.new hb);have ho3:=Same.new (o:=.tup [.int i,.ref rs[i]]) hb _ _ ho;have hg3:=Same.new (o:=.tup [.int i,.ref rs[i]]) hb _ _ hg;have sl:=z0b ks i;have bl:=zwm ks i;refine⟨b,_,rfl,SqT.of zab,rfl,_,_,rfl,_,_,rfl,rfl,?_⟩;refine⟨_,rfl,rs[i],_,_,_,rfl,rfl,s3.tup hrow,at0,le2,λtw htw=>⟨tw,[V.str "if",V.str "while"],rfl,.inr (SqT.of zab),rfl,rfl,_,rfl,?_⟩⟩;have s4:=s3.trans (Same.new (o:=.tup [V.str "if",V.str "while"]) htw);have ho4:=Same.new (o:=.tup [V.str "if",V.str "while"]) htw _ _ ho3;have hg4:=Same.new (o:=.tup [V.str "if",V.str "while"]) htw _ _ hg3;by_cases hO:isO (kd ks i)=true
     . refine zdz ((inO _).trans hO) ?_;refine⟨_,rfl,.inl ⟨rfl,_,SqL.of ho4⟩,_,rfl,ol,_,_,rfl,rfl,ho4,zed (by omega),?_⟩;refine⟨by omega,s4.upd hol,_,_,rfl,?_,?_⟩
       . rw[zab];have:stk ks (i+1)=i :: stk ks i:=by rw[zcx]; unfold push; rw[if_pos hO]
         unfold zve;rw[this,List.reverse_cons,List.map_append];rfl
       . rw[zal hdo,zx0 (zpf hO)];exact hg4
     refine zdd (λz=>hO ((inO _).symm.trans z)) ?_;refine⟨_,rfl,rs[i],_,_,_,rfl,rfl,s4.tup hrow,at0,rfl,_,rfl,?_⟩;by_cases h1:kd ks i="else"
     . refine zdz (decide_eq_true (qa0 V.str h1)) ?_;have hE:isE (kd ks i)=true:=by rw[h1]; decide +kernel
       obtain⟨t,r,ht⟩:∃t r,stk ks i=t :: r:=by
         cases z:stk ks i with
         | nil=>exact absurd z (w.open_ i (by omega) hE)
         | cons t r=>exact⟨t,r,rfl⟩
       obtain⟨q1,q2,q3⟩:=zsy ht;refine⟨_,rfl,_,rfl,ol,_,_,_,rfl,rfl,SqL.of ho4,q1,_,rfl,_,rfl,d,_,rfl,zu4.k (k:=Sum.inl (i:Int)) hg4 (zed (by omega)),?_⟩;refine⟨by omega,s4.upd hd0,_,_,rfl,?_,?_⟩
       . rw[zal hdo.symm];have:stk ks (i+1)=stk ks i:=by rw[zcx]; unfold push; rw[if_neg hO,if_neg (by rw[h1]; exact zr6)]
         unfold zve;rw[this];exact ho4
       . rw[zab,ztg ⟨hE,by rw[ht]; rfl⟩]
     refine zdd (λz=>h1 (V.str.inj (zb7 z))) ?_;refine⟨_,rfl,rs[i],_,_,_,rfl,rfl,s4.tup hrow,at0,rfl,_,rfl,?_⟩;by_cases h2:kd ks i="end"
     . refine zdz (decide_eq_true (qa0 V.str h2)) ?_;have hE:isE (kd ks i)=true:=by rw[h2]; decide +kernel
       obtain⟨t,r,ht⟩:∃t r,stk ks i=t :: r:=by
         cases z:stk ks i with
         | nil=>exact absurd z (w.open_ i (by omega) hE)
         | cons t r=>exact⟨t,r,rfl⟩
       obtain⟨q1,q2,q3⟩:=zsy ht;refine⟨_,rfl,.inl ⟨rfl,_,SqL.of ho4⟩,ol,_,_,rfl,rfl,ho4,q2,_,rfl,_,rfl,d,_,rfl,zu4.k (k:=Sum.inl (i:Int)) (by rw[zal hdo]; exact hg4) (zed (by omega)),?_⟩;refine⟨by omega,(s4.upd hol).upd hd0,_,_,rfl,?_,?_⟩
       . rw[zal hdo.symm,zab,q3];have:stk ks (i+1)=r:=by rw[zcx]; unfold push; rw[if_neg hO,if_pos h2,ht]; rfl
         unfold zve;rw[this]
       . rw[zab,ztg ⟨hE,by rw[ht]; rfl⟩]
     refine zdd (λz=>h2 (V.str.inj (zb7 z))) ?_;refine⟨by omega,s4,_,_,rfl,?_,?_⟩
     . have:stk ks (i+1)=stk ks i:=by rw[zcx]; unfold push; rw[if_neg hO,if_neg h2]
       unfold zve;rw[this];exact ho4
     . rw[zx0 (z6g h1 h2)];exact hg4
   . rintro σ H2 ⟨_,s2,v3,v4,rfl,ho,hg⟩;rw[List.length_map,e2] at hg;exact⟨_,rfl,q d H2 s2 hd0 hg⟩
theorem zbn:FnScope ["rows","begins","ends","k","begin","behind","follower","kind"] ["rows","begins"] (zah zd6):=by walk_at "s"
theorem zlc (T:Txt K mg t):FnOk P w K mg base CX0 1 t.zhy t.zhz ["rows","begins"] (K13.sp_firsts_behind K):=by
 refine T.firsts_behind.F.ok zbn (λvs H Q E h=>?_) (λcdv A outer s H vs Q E hr h=>?_)
 . obtain⟨a,d,ks,rfl,hR,w,hn,hd,q⟩:=h;rfl
 . obtain⟨a,d,ks,rfl,hR,w,hn,hd,q⟩:=h;refine⟨_,(@zad _ _ _ _ _ (@zas _ _ 2 _ _ _ _ zbn.nd rfl (Or.inl rfl) ze9 (by rfl) (by walk_at "f")) (@zad _ _ _ _ _ (zdh PassesOwn.never rfl (zth (pv 1)) (zfq rfl (za9 (zar (i:=3) zbn.nd rfl (Or.inl rfl)) (za9 (zar (i:=4) zbn.nd rfl (Or.inl rfl)) zdv))) (@zag _ _ _ (zgx (u1' hr.units) (pv 2) (pv 4) (pv 3) (by rfl)))) (@zad _ _ _ _ _ (@zas _ _ 5 _ _ _ _ zbn.nd rfl (Or.inl rfl) (@zav _ _ _ _ _ _ _ _ z0y (@zb9 _ _ _ _ (@zaa _ _ _ _ _ zkp zac (by rfl))) (zam zhs (by rfl) T.b_len zbk (@zaa _ _ _ _ _ (pv 0) zac (by rfl)))) (by rfl) (by walk_at "f")) (@zad _ _ _ _ _ (zdh PassesOwn.never rfl (zvm rfl T.b_range (@zaa _ _ _ _ _ (@zav _ _ _ _ _ _ _ _ zje (zam zhs (by rfl) T.b_len zbk (@zaa _ _ _ _ _ (pv 0) zac (by rfl))) zae) (@zaa _ _ _ _ _ (zrz zly zae) (@zaa _ _ _ _ _ (zrz zly zae) zac (by rfl)) (by rfl)) (by rfl))) (zar (i:=3) zbn.nd rfl (Or.inl rfl)) (@zad _ _ _ _ _ (@zas _ _ 6 _ _ _ _ zbn.nd rfl (Or.inl rfl) (@zav _ _ _ _ _ _ _ _ zbp (pv 3) zae) (by rfl) (by walk_at "f")) (@zad _ _ _ _ _ (@zas _ _ 7 _ _ _ _ zbn.nd rfl (Or.inl rfl) (@zaq _ _ _ _ _ _ _ zmg (@zaq _ _ _ _ _ _ _ zmg (pv 0) (pv 6) (λ_ _=>rfl)) zae (λ_ _=>rfl)) (by rfl) (by walk_at "f")) (@zag _ _ _ (@zbi _ _ _ _ _ _ _ _ (@zkb _ _ _ _ _ _ _ _ zdw (pv 7) za5 (zax _)) (@zag _ _ _ (zie (@zaq _ _ _ _ _ _ _ zkj (pv 5) (zhr (u1' hr.units) (pv 2) (zhr (u1' hr.units) (pv 1) (pv 6) (λ_ _=>rfl)) (λ_ _=>rfl)) (λ_ _=>rfl)) (zko (pv 5) (pv 3) zfo))) (@zag _ _ _ (@zbi _ _ _ _ _ _ _ _ (@PW.pt _ _ _ (@zjf _ _ _ _ _ _ _ (@zkb _ _ _ _ _ _ _ _ zdw (pv 7) za5 (zax _)) (@zg0 _ _ _ _ (@zkb _ _ _ _ _ _ _ _ zdw (@zaq _ _ _ _ _ _ _ zmg (@zaq _ _ _ _ _ _ _ zmg (pv 0) (zhr (u1' hr.units) (pv 1) (pv 6) (λ_ _=>rfl)) (λ_ _=>rfl)) zae (λ_ _=>rfl)) za5 (zax _))))) (@zag _ _ _ (zie (zhr (u1' hr.units) (pv 1) (pv 6) (λ_ _=>rfl)) (zko (pv 5) (pv 3) zfo))) (@zag _ _ _ (@zbi _ _ _ _ _ _ _ _ (@zkb _ _ _ _ _ _ _ _ zdw (pv 7) za5 (zax _)) (@zag _ _ _ (zie (@zaq _ _ _ _ _ _ _ zkj (pv 5) (pv 6) (λ_ _=>rfl)) (zko (pv 5) (pv 3) zfo))) (@zag _ _ _ (zie (pv 6) (zko (pv 5) (pv 3) zfo)))))))))))) (@zag _ _ _ (@zat _ _ _ _ (pv 5))))))),?_⟩;refine λed hed=>?_;have hde:d≠ed:=λz=>by rw[<- z,hd] at hed; cases hed
   refine⟨_,rfl,d,bg ks ks.length,rfl,.inl ⟨Same.new hed _ _ hd,λo=>?_⟩⟩;have sF:Same (upd H d (.frz o (.dK (bg ks ks.length)))) (upd (upd H ed (.dK [])) d (.frz o (.dK (bg ks ks.length)))):=λb u h=>by
     by_cases hb:b=d
     . subst hb;rw[zab] at h ⊢;exact h
     . rw[zal hb] at h ⊢;rw[zal (λz=>by rw[z,hed] at h; cases h)];exact h
   have hF:(upd H d (.frz o (.dK (bg ks ks.length)))) d=some (.frz o (.dK (bg ks ks.length))):=zab;have hedF:(upd H d (.frz o (.dK (bg ks ks.length)))) ed=none:=by rw[zal hde.symm]; exact hed
   have hRF:RowsAt K (upd H d (.frz o (.dK (bg ks ks.length)))) a ks:=hR.frz hd;have qF:∀l H',Same (upd H d (.frz o (.dK (bg ks ks.length)))) H'->(upd H d (.frz o (.dK (bg ks ks.length)))) l=none->BehL H' l ks->Q (.ref l) H':=λl H' h1 h2 h3=>q l o H' h1 (by rw[zal (λz=>by rw[z,hF] at h2; cases h2)] at h2; exact h2) h3;generalize upd H d (.frz o (.dK (bg ks ks.length)))=HF at sF hF hedF hRF qF;have bl:=zwm ks ks.length;have pl:=zsb ks ks.length;refine zqk (λi σ H2=>i<=(bg ks ks.length).length/\Same HF H2/\∃v3 v4 eds,σ=[some (.ref a),some (.ref d),some (.ref ed),v3,v4,none,none,none]/\H2 ed=some (.dK eds)/\eds.length<=i/\∀b:Nat,zg4 eds (Sum.inl (b:Int):Key)=(zg6 ((prs ks ks.length).take i) b).map λ(m:Nat)=>V.int (m:Int)) ⟨qaz _,sF,_,_,[],rfl,by rw[zal hde.symm]; exact zab,qaj _,λb=>rfl⟩ ?_ ?_ ?_
   . rintro i σ H2 hi ⟨_,s2,_⟩;exact s2 _ _ hF
   . rintro i kv σ H2 b hkv ⟨hi,s2,v3,v4,eds,rfl,he,hel,hv⟩ hb;obtain⟨p,hp,rfl⟩:=z07 hkv;have hlt:=(List.getElem?_eq_some_iff.mp hkv).1;have he3:=Same.new (o:=.tup [V.int (p.1:Int),V.int (p.2:Int)]) hb _ _ he;refine⟨b,_,rfl,SqT.of zab,rfl,_,_,rfl,_,_,rfl,rfl,?_⟩;refine⟨_,rfl,_,rfl,_,rfl,ed,_,rfl,zu4.k (k:=Sum.inl (p.2:Int)) he3 (zed (by omega)),?_⟩;refine⟨hlt,(s2.trans (Same.new hb)).upd hedF,_,_,_,rfl,zab,?_,λb'=>?_⟩
     . exact qa7 (zbs _ _ _) (by omega)
     . rw[ziy,qbj,hp];show _=(zg6 ((prs ks ks.length).take i++[p]) b').map _;rw[zlz,hv b'];by_cases h:p.2=b'
       . rw[if_pos h,if_pos (by rw[h])];rfl
       . rw[if_neg h,if_neg (λz=>h (by have:(b':Int)=(p.2:Int):=Sum.inl.inj z; omega))]
   . rintro σ H2 ⟨_,s2,v3,v4,eds,rfl,he,hel,hv⟩;have hv:∀b:Nat,zg4 eds (Sum.inl (b:Int):Key)=(zg6 (prs ks ks.length) b).map λ(m:Nat)=>V.int (m:Int):=λb=>by rw[hv b];unfold bg zyz;rw[List.length_map,qbb]
     obtain⟨rs,r1,r2,r3⟩:=hRF.ex;have rl:(rs.map V.ref).length=ks.length:=by rw[List.length_map,r2]
     refine⟨le1,λnl hnl=>⟨_,rfl,a,_,rfl,.inr ((s2.trans (Same.new hnl)).tup r1),nl,_,_,rfl,rfl,zab,by omega,by rw[rl]; omega,by rw[rl]; exact zb0 (by simp; omega),λbl hbl=>?_⟩⟩;have s3:=(s2.trans (Same.new (o:=.lst [V.non]) hnl)).trans (Same.new (o:=.lst (List.replicate (((rs.map V.ref).length:Int).toNat) [V.non]).flatten) hbl);have hbF:HF bl=none:=s2.free ((Same.new hnl).free hbl);have hbe:bl≠ed:=λz=>by have:=(Same.new hnl).free hbl;rw[z,he] at this;cases this
     have he3:=(Same.new (o:=.lst (List.replicate (((rs.map V.ref).length:Int).toNat) [V.non]).flatten) hbl) _ _ ((Same.new (o:=.lst [V.non]) hnl) _ _ he);refine⟨_,rfl,a,_,rfl,.inr (s3.tup r1),_,_,rfl,rfl,_,rfl,_,rfl,(ks.length:Int) - 2,-1,by rw[rl],⟨by omega,by omega,by omega,by omega⟩,?_⟩;have hnn:(((ks.length:Int) - 2) - -1).toNat=ks.length - 1:=by omega
     rw[hnn];refine zy2 (λi σ H4=>Same HF H4/\∃v3 v4 v6 v7 bs,σ=[some (.ref a),some (.ref d),some (.ref ed),v3,v4,some (.ref bl),v6,v7]/\H4 ed=some (.dK eds)/\H4 bl=some (.lst bs)/\bs.length=ks.length/\∀k,k+1<ks.length->ks.length - 1 - i<=k->∃r:Nat,Beh ks k r/\bs[k]?=some (.int (r:Int))) ⟨s3,_,_,_,_,_,rfl,he3,zab,by rw[rl]; exact zx8 _,λk h1 h2=>by omega⟩ ?_ ?_
     . rintro i σ H4 hi ⟨s4,v3,v4,v6,v7,bs,rfl,e4,b4,l4,hb4⟩;obtain⟨k,hk⟩:∃k:Nat,k+2+i=ks.length:=⟨ks.length - 2 - i,by omega⟩
       have ek:((ks.length:Int) - 2) - (i:Int)=(k:Int):=by omega
       rw[ek];have hR4:=hRF.mono s4;have old:∀j,j+1<ks.length->k<j->∃r:Nat,Beh ks j r/\bs[j]?=some (.int (r:Int)):=λj h1 h2=>hb4 j h1 (by omega);have fin:∀(r:Nat) (v3 v4 v6 v7:Option V),Beh ks k r->Same HF (upd H4 bl (.lst (bs.set k (.int (r:Int)))))/\∃v3' v4' v6' v7' bs',([some (.ref a),some (.ref d),some (.ref ed),v3,v4,some (.ref bl),v6,v7]:St)=[some (.ref a),some (.ref d),some (.ref ed),v3',v4',some (.ref bl),v6',v7']/\(upd H4 bl (.lst (bs.set k (.int (r:Int))))) ed=some (.dK eds)/\(upd H4 bl (.lst (bs.set k (.int (r:Int))))) bl=some (.lst bs')/\bs'.length=ks.length/\∀j,j+1<ks.length->ks.length - 1 - (i+1)<=j->∃r:Nat,Beh ks j r/\bs'[j]?=some (.int (r:Int)):=λr v3 v4 v6 v7 hr=>by
         refine⟨s4.upd hbF,_,_,_,_,_,rfl,by rw[zal hbe.symm]; exact e4,zab,by rw[qch]; exact l4,λj h1 h2=>?_⟩;by_cases hj:j=k
         . subst hj;exact⟨r,hr,by rw[qcj (by omega)]⟩
         . obtain⟨r',q1,q2⟩:=old j h1 (by omega);exact⟨r',q1,by rw[qcr (λz=>hj z.symm)]; exact q2⟩
       have hix:ixN bs.length (k:Int)=some k:=by unfold ixN;rw[if_pos (by omega),if_pos (by omega),qbu]
       have at_bs:∀j r:Nat,bs[j]?=some (.int (r:Int))->atI bs (j:Int)=some (.int (r:Int)):=λj r h=>zcg h;refine⟨_,rfl,_,_,rfl,rfl,?_⟩;show zuo 6 (V.int ((k:Int)+1)) _ _ _;rw[show((k:Int)+1)=((k+1:Nat):Int) by omega];refine⟨_,rfl,_,rfl,ixk hR4 (by omega) (by omega) ?_⟩;refine⟨_,rfl,rfl,_,rfl,?_⟩;have top:isE (kd ks (k+1))=true->∃b,(stk ks (k+1)).head?=some b:=λh=>by
         cases z:stk ks (k+1) with
         | nil=>exact absurd z (w.open_ (k+1) (by omega) h)
         | cons b r=>exact⟨b,rfl⟩
       have fz:Rd H4 d (.dK (bg ks ks.length)):=.inr ⟨o,s4 _ _ hF⟩;by_cases h1:kd ks (k+1)="else"
       . refine zdz (decide_eq_true (qa0 V.str h1)) ?_;have hE:isE (kd ks (k+1))=true:=by rw[h1]; decide +kernel
         obtain⟨b,hb⟩:=top hE;have hbo:=zxe (⟨hE,hb⟩:Hit ks b (k+1));obtain⟨e,hEn⟩:=zxi w (by omega) hbo.2;have h5:k+1<=e:=z1q hEn ⟨hE,hb⟩;have h6:e+1<ks.length:=by
           rcases qbo (e+1) ks.length with z|z
           . exact z
           . have:=w.last e (by have:=hEn.2.1; omega);rw[hEn.2.2.1] at this;exact absurd this.symm zw1.2
         obtain⟨r,hr1,hr2⟩:=old e h6 (by omega);have g1:zr1 H4 d (.int ((k+1:Nat):Int)) (some (.int (b:Int))):=.inl ⟨_,Sum.inl ((k+1:Nat):Int),fz,rfl,(z59 ks.length (by omega) ⟨hE,hb⟩).symm⟩;have g2:zr1 H4 ed (.int (b:Int)) (some (.int (e:Int))):=.inl ⟨_,Sum.inl (b:Int),.inl e4,rfl,by rw[hv b,zze hEn]; rfl⟩;exact⟨_,rfl,_,rfl,_,rfl,_,rfl,d,_,rfl,g1,ed,_,rfl,g2,bl,_,_,_,rfl,rfl,SqL.of b4,at_bs e r hr2,_,rfl,_,rfl,bl,_,_,_,rfl,rfl,b4,hix,fin r _ _ _ _ (.els h1 hb hEn hr1)⟩
       refine zdd (λz=>h1 (V.str.inj (zb7 z))) ?_;refine⟨_,rfl,rfl,_,rfl,?_⟩;by_cases h2:kd ks (k+1)="end"
       . have hE:isE (kd ks (k+1))=true:=by rw[h2]; decide +kernel
         obtain⟨b,hb⟩:=top hE;have hbo:=zxe (⟨hE,hb⟩:Hit ks b (k+1));have g1:zr1 H4 d (.int ((k+1:Nat):Int)) (some (.int (b:Int))):=.inl ⟨_,Sum.inl ((k+1:Nat):Int),fz,rfl,(z59 ks.length (by omega) ⟨hE,hb⟩).symm⟩;refine zdz (decide_eq_true (qa0 V.str h2)) ?_;refine⟨_,rfl,_,rfl,_,rfl,d,_,rfl,g1,ixk hR4 (by omega) (by omega) ⟨rfl,_,rfl,?_⟩⟩;by_cases h3:kd ks b="while"
         . refine zdz (decide_eq_true (qa0 V.str h3)) ?_;exact⟨_,rfl,_,rfl,d,_,rfl,g1,_,rfl,_,rfl,bl,_,_,_,rfl,rfl,b4,hix,fin b _ _ _ _ (.whl h2 hb h3)⟩
         . refine zdd (λz=>h3 (V.str.inj (zb7 z))) ?_;refine⟨_,rfl,rfl,_,rfl,zdz (decide_eq_true (qa0 V.str h2)) ?_⟩;have h6:k+1+1<ks.length:=by
             rcases qbo (k+1+1) ks.length with z|z
             . exact z
             . have:=w.last (k+1) (by omega);rw[h2] at this;exact absurd this.symm zw1.2
           obtain⟨r,hr1,hr2⟩:=old (k+1) h6 (by omega);exact⟨_,rfl,_,rfl,bl,_,_,_,rfl,rfl,SqL.of b4,at_bs (k+1) r hr2,_,rfl,_,rfl,bl,_,_,_,rfl,rfl,b4,hix,fin r _ _ _ _ (.fin h2 hb h3 hr1)⟩
       . refine zdd (λz=>h2 (V.str.inj (zb7 z))) (z3v ?_);refine⟨_,rfl,rfl,_,rfl,zdd (λz=>h2 (V.str.inj (zb7 z))) ?_⟩;exact⟨_,rfl,_,rfl,_,rfl,bl,_,_,_,rfl,rfl,b4,hix,fin (k+1) _ _ _ _ (.oth h1 h2)⟩
     . rintro σ H4 ⟨s4,v3,v4,v6,v7,bs,rfl,e4,b4,l4,hb4⟩;exact⟨_,rfl,qF bl H4 s4 hbF ⟨bs,b4,l4,λk h1=>hb4 k h1 (by omega)⟩⟩
theorem zg1:FnScope ["rows","begins","behind","turns","k","begin","found","row"] ["rows"] (zah zts):=by walk_at "s"
theorem z2u (T:Txt K mg t):FnOk P w K mg base CX0 2 t.z1t t.z1v ["rows"] (K13.sp_ways K):=by
 have G_begins_of:=zp3 (P:=P) (w:=w) (base:=base) T;have G_firsts_behind:=zlc (P:=P) (w:=w) (base:=base) T;refine T.ways.F.ok zg1 (λvs H Q E h=>?_) (λcdv A outer s H vs Q E hr h=>?_)
 . obtain⟨a,ks,rfl,hR,w,hn,q⟩:=h;rfl
 . obtain⟨a,ks,rfl,hR,w,hn,q⟩:=h;refine⟨_,(@zad _ _ _ _ _ (@zas _ _ 1 _ _ _ _ zg1.nd rfl (Or.inl rfl) (za6 T.begins_of G_begins_of (hr.mono (by decide)) (@zaa _ _ _ _ _ (pv 0) zac (by rfl))) (by rfl) (by walk_at "f")) (@zad _ _ _ _ _ (@zas _ _ 2 _ _ _ _ zg1.nd rfl (Or.inl rfl) (za6 T.firsts_behind G_firsts_behind (hr.mono (by decide)) (@zaa _ _ _ _ _ (pv 0) (@zaa _ _ _ _ _ (pv 1) zac (by rfl)) (by rfl))) (by rfl) (by walk_at "f")) (@zad _ _ _ _ _ (@zas _ _ 3 _ _ _ _ zg1.nd rfl (Or.inl rfl) ze9 (by rfl) (by walk_at "f")) (@zad _ _ _ _ _ (zdh PassesOwn.never rfl (zth (pv 1)) (zfq rfl (za9 (zar (i:=4) zg1.nd rfl (Or.inl rfl)) (za9 (zar (i:=5) zg1.nd rfl (Or.inl rfl)) zdv))) (@zag _ _ _ (@zco _ _ _ _ (z0g (pv 3) (pv 5) (pv 4) ⟨rfl,rfl,rfl,rfl⟩) (by rfl)))) (@zad _ _ _ _ _ (@zas _ _ 6 _ _ _ _ zg1.nd rfl (Or.inl rfl) (@zb9 _ _ _ _ zac) (by rfl) (by walk_at "f")) (@zad _ _ _ _ _ (zdh PassesOwn.never rfl (zoh rfl T.b_enumerate (@zaa _ _ _ _ _ (pv 0) zac (by rfl))) (zfq rfl (za9 (zar (i:=4) zg1.nd rfl (Or.inl rfl)) (za9 (zar (i:=7) zg1.nd rfl (Or.inl rfl)) zdv))) (@zag _ _ _ (@zbi _ _ _ _ _ _ _ _ (@zkb _ _ _ _ _ _ _ _ zgk (@zaq _ _ _ _ _ _ _ zmg (pv 7) zae (λ_ _=>rfl)) (@zby _ _ _ _ _ (@zaa _ _ _ _ _ za5 (@zaa _ _ _ _ _ za5 zac (by rfl)) (by rfl))) (by with_unfolding_all rfl)) (@zag _ _ _ (@zco _ _ _ _ (zeh qax qa1 qa2 zfk (pv 6) (@zaa _ _ _ _ _ zkp zac (by rfl))) (by rfl))) (@zag _ _ _ (@zbi _ _ _ _ _ _ _ _ (@zkb _ _ _ _ _ _ _ _ zdw (@zaq _ _ _ _ _ _ _ zmg (pv 7) zae (λ_ _=>rfl)) za5 (zax _)) (@zag _ _ _ (@zco _ _ _ _ (zeh qax qa1 qa2 zfk (pv 6) (@zaa _ _ _ _ _ (@zby _ _ _ _ _ zac) zac (by rfl))) (by rfl))) (@zag _ _ _ (@zbi _ _ _ _ _ _ _ _ (zpn (z6a (u1' hr.units) (pv 4) (pv 3))) (@zag _ _ _ (@zco _ _ _ _ (zeh qax qa1 qa2 zfk (pv 6) (@zaa _ _ _ _ _ (@zby _ _ _ _ _ (@zaa _ _ _ _ _ (@zaq _ _ _ _ _ _ _ zkj (pv 2) (pv 4) (λ_ _=>rfl)) (@zaa _ _ _ _ _ (@zaq _ _ _ _ _ _ _ zkj (pv 2) (zhr (u1' hr.units) (pv 3) (pv 4) (λ_ _=>rfl)) (λ_ _=>rfl)) zac (by rfl)) (by rfl))) zac (by rfl))) (by rfl))) (@zag _ _ _ (@zco _ _ _ _ (zeh qax qa1 qa2 zfk (pv 6) (@zaa _ _ _ _ _ (@zby _ _ _ _ _ (@zaa _ _ _ _ _ (@zaq _ _ _ _ _ _ _ zkj (pv 2) (pv 4) (λ_ _=>rfl)) zac (by rfl))) zac (by rfl))) (by rfl)))))))))) (@zag _ _ _ (@zat _ _ _ _ (pv 6))))))))),?_⟩;refine⟨_,rfl,a,ks,rfl,hR,w,hn,λd H1 s1 n1 e1=>?_⟩;refine⟨_,rfl,_,rfl,a,d,ks,rfl,hR.mono s1,w,hn,e1,λl o H2 s2 n2 hB=>?_⟩;have s02:Same H H2:=(s1.upd n1).trans s2;have hdF:H2 d=some (.frz o (.dK (bg ks ks.length))):=s2 _ _ zab;have hl0:H l=none:=s1.free n2;refine λtd htd=>?_;have bl:=zwm ks ks.length;obtain⟨bs,hb1,hb2,hb3⟩:=hB;refine⟨_,rfl,d,bg ks ks.length,rfl,.inr ⟨o,Same.new htd _ _ hdF,?_⟩⟩;refine zqk (λi σ H3=>i<=(bg ks ks.length).length/\Same H2 H3/\∃v4 v5 tds,σ=[some (.ref a),some (.ref d),some (.ref l),some (.ref td),v4,v5,none,none]/\H3 td=some (.dK tds)/\tds.length<=i/\∀b:Nat,zg4 tds (Sum.inl (b:Int):Key)=(zcd ((prs ks ks.length).take i) b).map λ(m:Nat)=>V.int (m:Int)) ⟨qaz _,Same.new htd,_,_,[],rfl,zab,qaj _,λb=>rfl⟩ ?_ ?_ ?_
   . rintro i σ H3 hi ⟨_,s3,_⟩;exact s3 _ _ hdF
   . rintro i kv σ H3 b hkv ⟨hi,s3,v4,v5,tds,rfl,he,hel,hv⟩ hb;obtain⟨p,hp,rfl⟩:=z07 hkv;have hlt:=(List.getElem?_eq_some_iff.mp hkv).1;have he3:=Same.new (o:=.tup [V.int (p.1:Int),V.int (p.2:Int)]) hb _ _ he;refine⟨b,_,rfl,SqT.of zab,rfl,_,_,rfl,_,_,rfl,rfl,?_⟩;have tk:∀b',zcd ((prs ks ks.length).take (i+1)) b'=if(zcd ((prs ks ks.length).take i) b').isSome=true then zcd ((prs ks ks.length).take i) b' else if p.2=b' then some p.1 else none:=λb'=>by rw[qbj,hp];exact zkt _ p b'
     refine⟨_,rfl,td,rfl,.inl ⟨tds,.inl he3⟩,_,rfl,_,rfl,tds,Sum.inl (p.2:Int),he3,rfl,zed (by omega),λv hv'=>?_,λhv'=>?_⟩
     . refine⟨hlt,s3.trans (Same.new hb),_,_,tds,rfl,he3,by omega,λb'=>?_⟩;rw[hv b',tk b'];cases z:zcd ((prs ks ks.length).take i) b' with
       | some m=>rfl
       | none =>
         rw[if_neg (show ¬ (none:Option Nat).isSome=true by decide),if_neg];intro h;rw[h,hv b',z] at hv';cases hv'
     . refine⟨hlt,(s3.trans (Same.new hb)).upd htd,_,_,_,rfl,zab,qa7 (zbs _ _ _) (by omega),λb'=>?_⟩;rw[ziy,tk b'];by_cases h:p.2=b'
       . subst h;have z:zcd ((prs ks ks.length).take i) p.2=none:=by
           rw[hv p.2] at hv';cases y:zcd ((prs ks ks.length).take i) p.2 with
           | none=>rfl
           | some m=>rw[y] at hv'; cases hv'
         rw[if_pos rfl,z,if_neg (show ¬ (none:Option Nat).isSome=true by decide),if_pos rfl];rfl
       . rw[if_neg (λz=>h (by have:(b':Int)=(p.2:Int):=Sum.inl.inj z; omega)),hv b',if_neg h];cases z:zcd ((prs ks ks.length).take i) b' with
         | some m=>rfl
         | none=>rfl
   . rintro σ H3 ⟨_,s3,v4,v5,tds,rfl,he,hel,hv⟩;have hv:∀b:Nat,zg4 tds (Sum.inl (b:Int):Key)=(zcd (prs ks ks.length) b).map λ(m:Nat)=>V.int (m:Int):=λb=>by rw[hv b];unfold bg zyz;rw[List.length_map,qbb]
     obtain⟨rs,r1,r2,r3⟩:=hR.ex;refine⟨le0,λfl hfl=>?_⟩;have s03:=s02.trans s3;have hf2:H3 fl=none:=hfl;have htf:td≠fl:=λz=>by rw[<- z,he] at hfl; cases hfl
     have hf0:H fl=none:=s03.free hfl;refine⟨_,rfl,a,rfl,⟨_,(s03.trans (Same.new hfl)).tup r1⟩,zl1 (xs:=rs.map V.ref) (λi σ H4=>i<=ks.length/\Same H3 H4/\(∃v4 v5 v7,σ=[some (.ref a),some (.ref d),some (.ref l),some (.ref td),v4,v5,some (.ref fl),v7])/\FoundN H4 fl ks i) ⟨qaz _,Same.new hfl,⟨_,_,_,rfl⟩,⟨[],zab,rfl,λk v z=>by simp at z⟩⟩ ?_ ?_ ?_⟩
     . rintro i σ H4 hi ⟨_,s4,_⟩;exact(s03.trans s4).tup r1
     . rintro i x σ H4 b hx ⟨hi',s4,⟨v4,v5,v7,rfl⟩,hF⟩ hb;have hi:i<rs.length:=by have:=(List.getElem?_eq_some_iff.mp hx).1;rw[List.length_map] at this;exact this
       rw[List.getElem?_map] at hx;have hx:V.ref rs[i]=x:=by simpa [hi] using hx
       subst hx;obtain⟨rest,hrow⟩:=r3 i rs[i] (by simp [hi]);have s5:=s4.trans (Same.new (o:=.tup [.int i,.ref rs[i]]) hb);have hF5:=hF.mono (Same.new (o:=.tup [.int i,.ref rs[i]]) hb);refine⟨b,_,rfl,SqT.of zab,rfl,_,_,rfl,_,_,rfl,rfl,?_⟩;refine⟨_,rfl,rs[i],_,_,_,rfl,rfl,(s03.trans s5).tup hrow,at0,le2,λtw htw=>⟨tw,[V.str "else",V.str "end"],rfl,.inr (SqT.of zab),rfl,rfl,_,rfl,?_⟩⟩;have s6:=s5.trans (Same.new (o:=.tup [V.str "else",V.str "end"]) htw);obtain⟨vs,f1,f2,f3⟩:=hF5.mono (Same.new (o:=.tup [V.str "else",V.str "end"]) htw);generalize upd (upd H4 b (.tup [.int i,.ref rs[i]])) tw (.tup [V.str "else",V.str "end"])=H6 at s6 f1 f3 ⊢;have s06:=s03.trans s6;have fin:∀{H7:Hp} {v:V} {oo:Option (List Nat)} (u4 u5 u7:Option V),Same H6 H7->Due ks i oo->zy0 H7 v oo->i+1<=ks.length/\Same H3 (upd H7 fl (.lst (vs++[v])))/\(∃v4 v5 v7,([some (.ref a),some (.ref d),some (.ref l),some (.ref td),u4,u5,some (.ref fl),u7]:St)=[some (.ref a),some (.ref d),some (.ref l),some (.ref td),v4,v5,some (.ref fl),v7])/\FoundN (upd H7 fl (.lst (vs++[v]))) fl ks (i+1):=λu4 u5 u7 s7 hd hv=>by refine⟨by omega,(s6.trans s7).upd hfl,⟨_,_,_,rfl⟩,FoundN.push (s7 _ _ f1) f2 (λk v z=>?_) hd hv⟩;obtain⟨o',d',y⟩:=f3 k v z;exact⟨o',d',y.mono s7⟩
       by_cases hE:isE (kd ks i)=true
       . refine zdz ((inE _).trans hE) ?_;exact⟨_,rfl,.inl ⟨rfl,_,SqL.of f1⟩,fl,_,_,rfl,rfl,f1,zed (by omega),fin _ _ _ (Same.refl _) (.no hE) rfl⟩
       refine zdd (λz=>hE ((inE _).symm.trans z)) ?_;refine⟨_,rfl,rs[i],_,_,_,rfl,rfl,s06.tup hrow,at0,rfl,_,rfl,?_⟩;by_cases hbk:kd ks i="back"
       . refine zdz (decide_eq_true (qa0 V.str hbk)) ?_;exact⟨_,rfl,.inl ⟨rfl,_,SqL.of f1⟩,le0,λp hp=>⟨fl,_,_,rfl,rfl,Same.new hp _ _ f1,zed (by omega),fin _ _ _ (Same.new hp) (.back hbk) ⟨p,rfl,zab⟩⟩⟩
       refine zdd (λz=>hbk (V.str.inj (zb7 z))) ?_;have hlast:=zss w (by omega) hbk;obtain⟨r,hr1,hr2⟩:=hb3 i hlast;have hb6:=(s3.trans s6) _ _ hb1;have ht6:=s6 _ _ he;refine⟨_,rfl,_,rfl,td,_,rfl,zr1.k (k:=Sum.inl (i:Int)) ht6,_,rfl,?_⟩;by_cases hO:isO (kd ks i)=true
       . obtain⟨e,hEn⟩:=zxi w (by omega) hO;obtain⟨f,hf⟩:=zz4 hEn;obtain⟨r',hr3,hr4⟩:=hb3 f (zu2 w hf);have hvi:zg4 tds (Sum.inl (i:Int):Key)=some (V.int (f:Int)):=by rw[hv i,zzy hf]; rfl
         refine zdz (by rw[hvi]; rfl) ?_;have g:zr1 H6 td (.int (i:Int)) (some (V.int (f:Int))):=.inl ⟨_,Sum.inl (i:Int),.inl ht6,rfl,hvi.symm⟩;exact⟨_,rfl,.inl ⟨rfl,_,SqL.of f1⟩,_,rfl,_,rfl,l,_,_,_,rfl,rfl,SqL.of hb6,zcg hr2,_,rfl,_,rfl,_,rfl,td,_,rfl,g,l,_,_,_,rfl,rfl,SqL.of hb6,zcg hr4,le2,λp hp=>⟨fl,_,_,rfl,rfl,Same.new hp _ _ f1,zed (by omega),fin _ _ _ (Same.new hp) (.two hO hf hr1 hr3) ⟨p,rfl,zab⟩⟩⟩
       . have hvi:zg4 tds (Sum.inl (i:Int):Key)=none:=by rw[hv i,zue hO]; rfl
         refine zdd (by rw[hvi]; decide) ?_;exact⟨_,rfl,.inl ⟨rfl,_,SqL.of f1⟩,_,rfl,_,rfl,l,_,_,_,rfl,rfl,SqL.of hb6,zcg hr2,le1,λp hp=>⟨fl,_,_,rfl,rfl,Same.new hp _ _ f1,zed (by omega),fin _ _ _ (Same.new hp) (.one hE hbk hO hr1) ⟨p,rfl,zab⟩⟩⟩
     . rintro σ H4 ⟨_,s4,⟨v4,v5,v7,rfl⟩,hF⟩;rw[List.length_map,r2] at hF;exact⟨_,rfl,q fl H4 (s03.trans s4) hf0 hF⟩
end
end K85
namespace K85
open PySem L2 Gx Fl F2
section
variable {P:Program} {w:World} {K:W.Frag} {mg:Str->Option Value} {base:Heap} {t:Adr}
theorem zgr:FnScope ["self","program","k","function"] ["self","program"] (zah zfv):=by walk_at "s"
theorem zjm (T:Txt K mg t):FnOk P w K mg base CX0 4 t.zky t.zk3 ["self","program"] (zop K t):=by
 have G_names_of:=zro (P:=P) (w:=w) (base:=base) T;have G_ways:=z2u (P:=P) (w:=w) (base:=base) T;refine T.zkl.F.ok zgr (λvs H Q E h=>?_) (λcdv A outer s H vs Q E hr h=>?_)
 . obtain⟨x,dx,p,fns,rfl,hx,hS,n0,n12,hE,nd,q⟩:=h;rfl
 . obtain⟨x,dx,p,fns,rfl,hx,hS,n0,n12,hE,nd,q⟩:=h;refine⟨_,(@zad _ _ _ _ _ (zhq (pvC 0) (@zaq _ _ _ _ _ _ _ (show IxR _ (zcz K) from zak) (@zaq _ _ _ _ _ _ _ (show IxR _ (zim K) from zbb) (pvC 1) (zrz zly zae) (λ_ _=>rfl)) zae (λ_ _=>rfl)) (by rfl)) (@zad _ _ _ _ _ (zhq (pvC 0) ze9 (by rfl)) (@zad _ _ _ _ _ (zhq (pvC 0) ze9 (by rfl)) (@zad _ _ _ _ _ (zhq (pvC 0) ze9 (by rfl)) (@zad _ _ _ _ _ (zhq (pvC 0) ze9 (by rfl)) (@zad _ _ _ _ _ (zhq (pvC 0) ze9 (by rfl)) (@zoe _ _ _ _ _ (zhq (pvC 0) ze9 (by rfl)) (@zag _ _ _ (zdh PassesOwn.never rfl (zsz rfl T.b_enumerate (@zaa _ _ _ _ _ (pvC 1) zac (by rfl))) (zfq rfl (za9 (zar (i:=2) zgr.nd rfl (Or.inl rfl)) (za9 (zar (i:=3) zgr.nd rfl (Or.inl rfl)) zdv))) (@zad _ _ _ _ _ (zgx (u1' hr.units) (zd7 (pvC 0) (by rfl)) (@zaq _ _ _ _ _ _ _ (show IxR _ (zcz K) from zak) (pvC 3) zae (λ_ _=>rfl)) (pvC 2) (by rfl)) (@zad _ _ _ _ _ (zgx (u1' hr.units) (zd7 (pvC 0) (by rfl)) (@zaq _ _ _ _ _ _ _ (show IxR _ (zcz K) from zak) (pvC 3) zae (λ_ _=>rfl)) (@zaq _ _ _ _ _ _ _ (show IxR _ (zcz K) from zak) (pvC 3) zae (λ_ _=>rfl)) (by rfl)) (@zad _ _ _ _ _ (zgx (u1' hr.units) (zd7 (pvC 0) (by rfl)) (@zaq _ _ _ _ _ _ _ (show IxR _ (zcz K) from zak) (pvC 3) zae (λ_ _=>rfl)) (@zaq _ _ _ _ _ _ _ (show IxR _ (zcz K) from zak) (pvC 3) zae (λ_ _=>rfl)) (by rfl)) (@zad _ _ _ _ _ (zgx (u1' hr.units) (zd7 (pvC 0) (by rfl)) (@zaq _ _ _ _ _ _ _ (show IxR _ (zcz K) from zak) (pvC 3) zae (λ_ _=>rfl)) (@zaq _ _ _ _ _ _ _ (show IxR _ (zcz K) from zak) (pvC 3) zae (λ_ _=>rfl)) (by rfl)) (@zad _ _ _ _ _ (zgx (u1' hr.units) (zd7 (pvC 0) (by rfl)) (@zaq _ _ _ _ _ _ _ (show IxR _ (zcz K) from zak) (pvC 3) zae (λ_ _=>rfl)) (za6 T.names_of G_names_of (hr.mono (by decide)) (@zaa _ _ _ _ _ (pvC 3) zac (by rfl))) (by rfl)) (@zag _ _ _ (zgx (u1' hr.units) (zd7 (pvC 0) (by rfl)) (@zaq _ _ _ _ _ _ _ (show IxR _ (zcz K) from zak) (pvC 3) zae (λ_ _=>rfl)) (za6 T.ways G_ways (hr.mono (by decide)) (@zaa _ _ _ _ _ (@zaq _ _ _ _ _ _ _ (show IxR _ (zcz K) from zak) (pvC 3) zae (λ_ _=>rfl)) zac (by rfl))) (by rfl))))))))))))))))),?_⟩;have fl:(fns.map λf=>V.ref f.fa).length=fns.length:=List.length_map _;have np:0<fns.length:=List.length_pos_iff.mpr n0;obtain⟨fz,hz⟩:∃fz,fns[fns.length - 1]?=some fz:=⟨fns[fns.length - 1],List.getElem?_eq_getElem (by omega)⟩
   have hzT:=(hE fz (List.mem_of_getElem? hz)).fn;have eL:atI (fns.map λf=>V.ref f.fa) (-1)=some (V.ref fz.fa):=by
     unfold atI ixN;rw[if_neg (by decide),if_pos (by rw[fl]; omega),qc4];have:((-1:Int)+((fns.map λf=>V.ref f.fa).length:Int)).toNat=fns.length - 1:=by rw[fl]; omega
     rw[this,List.getElem?_map,hz];rfl
   refine⟨_,rfl,_,rfl,p,_,_,_,rfl,rfl,zaz.seq hS,eL,fz.fa,_,_,_,rfl,rfl,zaz.tup hzT,at0,_,rfl,x,t.zaw,dx,_,rfl,hx,T.zb8.cl,T.ze1,(by show 0<1000; decide),?_⟩;have sx:∀{b:Addr} {o:HO},ers x H b=some o->b≠x/\H b=some o:=λ{b o} e=>by
     have hb:b≠x:=λz=>by rw[z] at e; unfold ers at e; rw[if_pos rfl] at e; cases e
     rw[zao hb] at e;exact⟨hb,e⟩
   have l1:=zka "last" (V.str fz.name) [] 0 (qaj _);intro d0 h0;refine⟨_,rfl,x,t.zaw,dx,_,rfl,za7 zab (Ne.symm (zbg h0).1),T.zb8.cl,T.zbh,(by omega),?_⟩;have l2:=zka "number_of" (.ref d0) _ 1 l1;intro d1 h1;refine⟨_,rfl,x,t.zaw,dx,_,rfl,za7 zab (Ne.symm (zbg h1).1),T.zb8.cl,T.zca,(by omega),?_⟩;have l3:=zka "folded_of" (.ref d1) _ 2 l2;intro d2 h2;refine⟨_,rfl,x,t.zaw,dx,_,rfl,za7 zab (Ne.symm (zbg h2).1),T.zb8.cl,T.zcb,(by omega),?_⟩;have l4:=zka "params_of" (.ref d2) _ 3 l3;intro d3 h3;refine⟨_,rfl,x,t.zaw,dx,_,rfl,za7 zab (Ne.symm (zbg h3).1),T.zb8.cl,T.zce,(by omega),?_⟩;have l5:=zka "rows_of" (.ref d3) _ 4 l4;intro d4 h4;refine⟨_,rfl,x,t.zaw,dx,_,rfl,za7 zab (Ne.symm (zbg h4).1),T.zb8.cl,T.zb2,(by omega),?_⟩;have l6:=zka "names_in" (.ref d4) _ 5 l5;refine⟨λσ' G=>∃d:Nat->Addr,σ'=[some (.ref x),some (.ref p),none,none]/\FS t.zaw G x dx (zrk (V.str fz.name) d) d (λ_=>[])/\(∀i j,i<6->j<6->d i=d j->i=j)/\Same (ers x H) G/\∀k,ers x H (d k)=none,?_,?_⟩
   . intro d5 h5;obtain⟨nx0,z0⟩:=zbg h0;have q0:H d0=none:=z0;obtain⟨nx1,z1⟩:=zbg h1;obtain⟨n10,w10⟩:=zbg z1;obtain⟨_,y10⟩:=zbg w10;have q1:H d1=none:=y10;obtain⟨nx2,z2⟩:=zbg h2;obtain⟨n21,w21⟩:=zbg z2;obtain⟨_,y21⟩:=zbg w21;obtain⟨n20,w20⟩:=zbg y21;obtain⟨_,y20⟩:=zbg w20;have q2:H d2=none:=y20;obtain⟨nx3,z3⟩:=zbg h3;obtain⟨n32,w32⟩:=zbg z3;obtain⟨_,y32⟩:=zbg w32;obtain⟨n31,w31⟩:=zbg y32;obtain⟨_,y31⟩:=zbg w31;obtain⟨n30,w30⟩:=zbg y31;obtain⟨_,y30⟩:=zbg w30;have q3:H d3=none:=y30;obtain⟨nx4,z4⟩:=zbg h4;obtain⟨n43,w43⟩:=zbg z4;obtain⟨_,y43⟩:=zbg w43;obtain⟨n42,w42⟩:=zbg y43;obtain⟨_,y42⟩:=zbg w42;obtain⟨n41,w41⟩:=zbg y42;obtain⟨_,y41⟩:=zbg w41;obtain⟨n40,w40⟩:=zbg y41;obtain⟨_,y40⟩:=zbg w40;have q4:H d4=none:=y40;obtain⟨nx5,z5⟩:=zbg h5;obtain⟨n54,w54⟩:=zbg z5;obtain⟨_,y54⟩:=zbg w54;obtain⟨n53,w53⟩:=zbg y54;obtain⟨_,y53⟩:=zbg w53;obtain⟨n52,w52⟩:=zbg y53;obtain⟨_,y52⟩:=zbg w52;obtain⟨n51,w51⟩:=zbg y52;obtain⟨_,y51⟩:=zbg w51;obtain⟨n50,w50⟩:=zbg y51;obtain⟨_,y50⟩:=zbg w50;have q5:H d5=none:=y50;have inj:∀i j,i<6->j<6->dd d0 d1 d2 d3 d4 d5 i=dd d0 d1 d2 d3 d4 d5 j->i=j:=λi j hi hj e=>by
       match i,j,hi,hj with
       | 0,0,_,_=>rfl
       | 0,1,_,_=>exact absurd e.symm n10
       | 0,2,_,_=>exact absurd e.symm n20
       | 0,3,_,_=>exact absurd e.symm n30
       | 0,4,_,_=>exact absurd e.symm n40
       | 0,5,_,_=>exact absurd e.symm n50
       | 1,0,_,_=>exact absurd e n10
       | 1,1,_,_=>rfl
       | 1,2,_,_=>exact absurd e.symm n21
       | 1,3,_,_=>exact absurd e.symm n31
       | 1,4,_,_=>exact absurd e.symm n41
       | 1,5,_,_=>exact absurd e.symm n51
       | 2,0,_,_=>exact absurd e n20
       | 2,1,_,_=>exact absurd e n21
       | 2,2,_,_=>rfl
       | 2,3,_,_=>exact absurd e.symm n32
       | 2,4,_,_=>exact absurd e.symm n42
       | 2,5,_,_=>exact absurd e.symm n52
       | 3,0,_,_=>exact absurd e n30
       | 3,1,_,_=>exact absurd e n31
       | 3,2,_,_=>exact absurd e n32
       | 3,3,_,_=>rfl
       | 3,4,_,_=>exact absurd e.symm n43
       | 3,5,_,_=>exact absurd e.symm n53
       | 4,0,_,_=>exact absurd e n40
       | 4,1,_,_=>exact absurd e n41
       | 4,2,_,_=>exact absurd e n42
       | 4,3,_,_=>exact absurd e n43
       | 4,4,_,_=>rfl
       | 4,5,_,_=>exact absurd e.symm n54
       | 5,0,_,_=>exact absurd e n50
       | 5,1,_,_=>exact absurd e n51
       | 5,2,_,_=>exact absurd e n52
       | 5,3,_,_=>exact absurd e n53
       | 5,4,_,_=>exact absurd e n54
       | 5,5,_,_=>rfl
       | n+6,_,h,_=>omega
       | _,n+6,_,h=>omega
     refine⟨_,rfl,x,t.zaw,dx,_,rfl,za7 zab (Ne.symm nx5),T.zb8.cl,T.zcr,(by omega),dd d0 d1 d2 d3 d4 d5,rfl,⟨zab,λj hj=>?_⟩,inj,λb o e=>za7 (za7 (za7 (za7 (za7 (za7 (za7 (za7 (za7 (za7 (za7 (za7 (za7 (sx e).2 (sx e).1) (zaf (sx e).2 q0)) (sx e).1) (zaf (sx e).2 q1)) (sx e).1) (zaf (sx e).2 q2)) (sx e).1) (zaf (sx e).2 q3)) (sx e).1) (zaf (sx e).2 q4)) (sx e).1) (zaf (sx e).2 q5)) (sx e).1,λk=>?_⟩
     . match j,hj with
       | 0,_=>exact za7 (za7 (za7 (za7 (za7 (za7 (za7 (za7 (za7 (za7 (za7 zab nx0) (Ne.symm n10)) nx0) (Ne.symm n20)) nx0) (Ne.symm n30)) nx0) (Ne.symm n40)) nx0) (Ne.symm n50)) nx0
       | 1,_=>exact za7 (za7 (za7 (za7 (za7 (za7 (za7 (za7 (za7 zab nx1) (Ne.symm n21)) nx1) (Ne.symm n31)) nx1) (Ne.symm n41)) nx1) (Ne.symm n51)) nx1
       | 2,_=>exact za7 (za7 (za7 (za7 (za7 (za7 (za7 zab nx2) (Ne.symm n32)) nx2) (Ne.symm n42)) nx2) (Ne.symm n52)) nx2
       | 3,_=>exact za7 (za7 (za7 (za7 (za7 zab nx3) (Ne.symm n43)) nx3) (Ne.symm n53)) nx3
       | 4,_=>exact za7 (za7 (za7 zab nx4) (Ne.symm n54)) nx4
       | 5,_=>exact za7 zab nx5
       | n+6,h=>omega
     . match k with
       | 0=>exact(zao nx0).trans q0
       | 1=>exact(zao nx1).trans q1
       | 2=>exact(zao nx2).trans q2
       | 3=>exact(zao nx3).trans q3
       | 4=>exact(zao nx4).trans q4
       | n+5=>exact(zao nx5).trans q5
   rintro σ' G ⟨d,rfl,hFS,inj,hsm,hfd⟩;refine⟨_,rfl,p,rfl,⟨_,hsm.seq hS⟩,(let Jv1:Nat->St->Hp->Prop:=λi σ H2=>∃(v2 v3:Option V) (kv:Nat->List (Key×V)) (nl wl:Nat->Addr),σ=[some (.ref x),some (.ref p),v2,v3]/\Same (ers x H) H2/\FS t.zaw H2 x dx (zrk (V.str fz.name) d) d kv/\kv 0=kD (λi _=>.int i) (fns.take i)/\kv 1=kD (λ_ f=>f.fo) (fns.take i)/\kv 2=kD (λ_ f=>.ref f.pa) (fns.take i)/\kv 3=kD (λ_ f=>.ref f.ra) (fns.take i)/\kv 4=kD (λi _=>.ref (nl i)) (fns.take i)/\kv 5=kD (λi _=>.ref (wl i)) (fns.take i)/\(∀j g,j<i->fns[j]?=some g->hl H2 (nl j)=some (.lst ((nms g).map V.str))/\K13.FoundN (hl H2) (wl j) (kds g) (kds g).length)/\∀j,j<6->(kv j).length<=i; zpj (xs:=fns.map λf=>V.ref f.fa) Jv1 ⟨_,_,_,λ_=>0,λ_=>0,rfl,hsm,hFS,rfl,rfl,rfl,rfl,rfl,rfl,λj g h=>absurd h (qbq _),λj hj=>qaj _⟩ ?_ ?_ ?_)⟩
   . rintro i σ H2 hi ⟨v2,v3,kv,nlf,wlf,rfl,s2,_⟩;exact s2.seq hS
   . rintro i y σ H2 b hy ⟨v2,v3,kv,nlf,wlf,rfl,s2,o2,k0,k1,k2,k3,k4,k5,hnw,kl⟩ hb;obtain⟨f,hi,hm,rfl⟩:=z4s hy;have ilt:i<fns.length:=(List.getElem?_eq_some_iff.mp hi).1;have hT:=(hE f hm).fn;have hfu:=(hE f hm).fu;have fit:∀{n:Nat},n<=i+1->n<sizeLine:=λ{n} h=>zqc (by omega);refine⟨b,_,rfl,SqT.of zab,rfl,_,_,rfl,_,_,rfl,rfl,?_⟩;have s3:=s2.trans (Same.new (o:=.tup [.int i,.ref f.fa]) hb);have o3:=o2.mono (Same.new (o:=.tup [.int i,.ref f.fa]) hb);refine⟨_,rfl,_,rfl,x,t.zaw,dx,_,_,rfl,o3.ob,T.zb8.cl,T.zbh,lk_number _ _,_,rfl,f.fa,_,_,_,rfl,rfl,s3.tup hT,at0,d 0,_,rfl,zu4.k (k:=(Sum.inr f.name:Key)) (show _=some (HO.dK (kv 0)) from o3.dc 0 (by decide)) (fit (by have:=kl 0 (by decide); simpa using (by omega:_<=i+1))),?_⟩;have s4:=Same.upd (o:=.dK (zei (kv 0) (Sum.inr f.name:Key) (V.int i))) s3 (hfd 0);have o4:=o3.put inj 0 (by decide) (zei (kv 0) (Sum.inr f.name:Key) (V.int i));refine⟨_,rfl,f.fa,_,_,_,rfl,rfl,s4.tup hT,rfl,_,rfl,x,t.zaw,dx,_,_,rfl,o4.ob,T.zb8.cl,T.zca,zw2 _ _,_,rfl,f.fa,_,_,_,rfl,rfl,s4.tup hT,at0,d 1,_,rfl,zu4.k (k:=(Sum.inr f.name:Key)) (show _=some (HO.dK (kv 1)) from o4.dc 1 (by decide)) (fit (by have:=kl 1 (by decide); simpa using (by omega:_<=i+1))),?_⟩;have s5:=Same.upd (o:=.dK (zei (kv 1) (Sum.inr f.name:Key) f.fo)) s4 (hfd 1);have o5:=o4.put inj 1 (by decide) (zei (kv 1) (Sum.inr f.name:Key) f.fo);refine⟨_,rfl,f.fa,_,_,_,rfl,rfl,s5.tup hT,rfl,_,rfl,x,t.zaw,dx,_,_,rfl,o5.ob,T.zb8.cl,T.zcb,zxt _ _,_,rfl,f.fa,_,_,_,rfl,rfl,s5.tup hT,at0,d 2,_,rfl,zu4.k (k:=(Sum.inr f.name:Key)) (show _=some (HO.dK (kv 2)) from o5.dc 2 (by decide)) (fit (by have:=kl 2 (by decide); simpa using (by omega:_<=i+1))),?_⟩;have s6:=Same.upd (o:=.dK (zei (kv 2) (Sum.inr f.name:Key) (.ref f.pa))) s5 (hfd 2);have o6:=o5.put inj 2 (by decide) (zei (kv 2) (Sum.inr f.name:Key) (.ref f.pa));refine⟨_,rfl,f.fa,_,_,_,rfl,rfl,s6.tup hT,rfl,_,rfl,x,t.zaw,dx,_,_,rfl,o6.ob,T.zb8.cl,T.zce,lk_rows _ _,_,rfl,f.fa,_,_,_,rfl,rfl,s6.tup hT,at0,d 3,_,rfl,zu4.k (k:=(Sum.inr f.name:Key)) (show _=some (HO.dK (kv 3)) from o6.dc 3 (by decide)) (fit (by have:=kl 3 (by decide); simpa using (by omega:_<=i+1))),?_⟩;have s7:=Same.upd (o:=.dK (zei (kv 3) (Sum.inr f.name:Key) (.ref f.ra))) s6 (hfd 3);have o7:=o6.put inj 3 (by decide) (zei (kv 3) (Sum.inr f.name:Key) (.ref f.ra));refine⟨_,rfl,f.fa,f.ps,f.ds,rfl,hfu.mono s7,λnl H8 e8 hnl hl8=>?_⟩;have s8:=s7.trans e8;have o8:=o7.mono e8;refine⟨_,rfl,x,t.zaw,dx,_,_,rfl,o8.ob,T.zb8.cl,T.zb2,lk_names _ _,_,rfl,f.fa,_,_,_,rfl,rfl,s8.tup hT,at0,d 4,_,rfl,zu4.k (k:=(Sum.inr f.name:Key)) (show _=some (HO.dK (kv 4)) from o8.dc 4 (by decide)) (fit (by have:=kl 4 (by decide); simpa using (by omega:_<=i+1))),?_⟩;have s9:=Same.upd (o:=.dK (zei (kv 4) (Sum.inr f.name:Key) (.ref nl))) s8 (hfd 4);have o9:=o8.put inj 4 (by decide) (zei (kv 4) (Sum.inr f.name:Key) (.ref nl));refine⟨_,rfl,f.fa,_,_,_,rfl,rfl,s9.tup hT,rfl,f.ra,kds f,rfl,((hE f hm).old.mono s9).rows,(hE f hm).wf,(by unfold kds; rw[List.length_map]; have:=(hE f hm).len; omega),λwl HA eA hwl hfn=>?_⟩;have sA:=s9.trans eA;have oA:=o9.mono eA;refine⟨_,rfl,x,t.zaw,dx,_,_,rfl,oA.ob,T.zb8.cl,T.zcr,z12 _ _,_,rfl,f.fa,_,_,_,rfl,rfl,sA.tup hT,at0,d 5,_,rfl,zu4.k (k:=(Sum.inr f.name:Key)) (show _=some (HO.dK (kv 5)) from oA.dc 5 (by decide)) (fit (by have:=kl 5 (by decide); simpa using (by omega:_<=i+1))),?_⟩;have sB:=Same.upd (o:=.dK (zei (kv 5) (Sum.inr f.name:Key) (.ref wl))) sA (hfd 5);have oB:=oA.put inj 5 (by decide) (zei (kv 5) (Sum.inr f.name:Key) (.ref wl));have c3:Same (hl H2) (hl H8):=by have z1:Same (hl H2) (hl (upd H2 b (.tup [.int i,.ref f.fa]))):=(Same.new (o:=.tup [.int i,.ref f.fa]) hb).hl;have z2:=e8.hl;rw[zuj (o6.dc 3 (by decide)),zuj (o5.dc 2 (by decide)),zuj (o4.dc 1 (by decide)),zuj (o3.dc 0 (by decide))] at z2;exact z1.trans z2
     have c4:Same (hl H8) (hl HA):=by have z2:=eA.hl;rw[zuj (o8.dc 4 (by decide))] at z2;exact z2
     have c5:hl (upd HA (d 5) (.dK (zei (kv 5) (Sum.inr f.name:Key) (.ref wl))))=hl HA:=zuj (oA.dc 5 (by decide));refine⟨_,_,_,λj=>if j=i then nl else nlf j,λj=>if j=i then wl else wlf j,rfl,sB,oB,?_,?_,?_,?_,?_,?_,λj g hj hg=>?_,λj hj=>?_⟩
     . show zei (kv 0) (Sum.inr f.name:Key) (V.int i)=_;rw[k0];exact zl7 hi nd (λ_ _ _=>rfl) rfl
     . show zei (kv 1) (Sum.inr f.name:Key) f.fo=_;rw[k1];exact zl7 hi nd (λ_ _ _=>rfl) rfl
     . show zei (kv 2) (Sum.inr f.name:Key) (.ref f.pa)=_;rw[k2];exact zl7 hi nd (λ_ _ _=>rfl) rfl
     . show zei (kv 3) (Sum.inr f.name:Key) (.ref f.ra)=_;rw[k3];exact zl7 hi nd (λ_ _ _=>rfl) rfl
     . show zei (kv 4) (Sum.inr f.name:Key) (.ref nl)=_;rw[k4];exact zl7 hi nd (λj _ hj=>by show V.ref (nlf j)=V.ref (if j=i then nl else nlf j); rw[if_neg (by omega)]) (by show V.ref nl=V.ref (if i=i then nl else nlf i); rw[if_pos rfl])
     . show zei (kv 5) (Sum.inr f.name:Key) (.ref wl)=_;rw[k5];exact zl7 hi nd (λj _ hj=>by show V.ref (wlf j)=V.ref (if j=i then wl else wlf j); rw[if_neg (by omega)]) (by show V.ref wl=V.ref (if i=i then wl else wlf i); rw[if_pos rfl])
     . rw[c5];by_cases hji:j=i
       . subst hji;rw[hi] at hg;cases hg;refine⟨?_,?_⟩
         . show hl HA (if j=j then nl else nlf j)=_;rw[if_pos rfl];exact c4 _ _ (z01 hl8)
         . show K13.FoundN (hl HA) (if j=j then wl else wlf j) _ _;rw[if_pos rfl];exact hfn.hl
       . obtain⟨y1,y2⟩:=hnw j g (by omega) hg;refine⟨?_,?_⟩
         . show hl HA (if j=i then nl else nlf j)=_;rw[if_neg hji];exact c4 _ _ (c3 _ _ y1)
         . show K13.FoundN (hl HA) (if j=i then wl else wlf j) _ _;rw[if_neg hji];exact y2.mono (c3.trans c4)
     . have e:=kl j hj
       match j,hj with
       | 0,_=>exact qa7 (zbs _ _ _) (by omega)
       | 1,_=>exact qa7 (zbs _ _ _) (by omega)
       | 2,_=>exact qa7 (zbs _ _ _) (by omega)
       | 3,_=>exact qa7 (zbs _ _ _) (by omega)
       | 4,_=>exact qa7 (zbs _ _ _) (by omega)
       | 5,_=>exact qa7 (zbs _ _ _) (by omega)
       | n+6,h=>omega
   . rintro σ H2 ⟨v2,v3,kv,nlf,wlf,rfl,s2,o2,k0,k1,k2,k3,k4,k5,hnw,kl⟩;rw[fl,qbb] at k0 k1 k2 k3 k4 k5;exact q H2 s2 ⟨λf hf=>(hE f hf).mono s2,nd,dx,fz,d,kv,nlf,wlf,hz,o2,k0,k1,k2,k3,k4,k5,λi f hi=>let ⟨y1,y2⟩:=hnw i f (by rw[fl]; exact(List.getElem?_eq_some_iff.mp hi).1) hi; ⟨zrv _ _ y1,y2.mono zrv⟩⟩
end
end K85
namespace K85
open PySem L2 Gx Bt Pk Dc
section
variable {P:Program} {w:World} {K:W.Frag} {mg:Str->Option Value} {base:Heap} {t:Adr}
theorem zux:FnScope ["one"] ["one"] (zah zi2):=by walk_at "s"
theorem zvg (T:Txt K mg t):FnOk P w K mg base CX0 1 t.zqx t.zq1 ["one"] (zur K):=by
 refine T.is_leaf.F.ok zux (λvs H Q E h=>?_) (λcdv A outer s H vs Q E hr h=>?_)
 . obtain⟨tr,v,rfl,hv,ht,q⟩:=h;rfl
 . obtain⟨tr,v,rfl,hv,ht,q⟩:=h;refine⟨_,(@zad _ _ _ _ _ (@zat _ _ _ _ (zf7 zgk (@zaq _ _ _ _ _ _ _ (show IxR _ (zcz K) from zak) (pvC 0) zae (λ_ _=>rfl)) (@zby _ _ _ _ _ (@zaa _ _ _ _ _ za5 (@zaa _ _ _ _ _ za5 zac (by rfl)) (by rfl))) (by with_unfolding_all rfl))) zau),?_⟩;have sb:∀i<9,inV (V.str (sgn i)) [V.str "box",V.str "num"]=false:=by decide +kernel
   cases tr with
   | box k =>
     obtain⟨p,x,y,rfl,e,h1,h2⟩:=dt2 hv;cases zia h1;exact⟨_,rfl,p,_,_,_,rfl,rfl,e,at0,le2,λu hu=>⟨u,_,rfl,.inr (SqT.of zab),rfl,rfl,vq (qa0 V.bl (show inV (V.str "box") [V.str "box",V.str "num"]=true by decide +kernel)) (q _ (Same.new hu))⟩⟩
   | num k =>
     obtain⟨p,x,y,rfl,e,h1,h2⟩:=dt2 hv;cases zia h1;exact⟨_,rfl,p,_,_,_,rfl,rfl,e,at0,le2,λu hu=>⟨u,_,rfl,.inr (SqT.of zab),rfl,rfl,vq (qa0 V.bl (show inV (V.str "num") [V.str "box",V.str "num"]=true by decide +kernel)) (q _ (Same.new hu))⟩⟩
   | op i l r =>
     obtain⟨p,xs,rfl,e,hx⟩:=zkg hv;obtain⟨s,x,y,rfl,h1,bl,br⟩:=z5t hx;cases zia h1;exact⟨_,rfl,p,_,_,_,rfl,rfl,e,at0,le2,λu hu=>⟨u,_,rfl,.inr (SqT.of zab),rfl,rfl,vq (qa0 V.bl ((sb i ht.1).trans (by simp [bdp]))) (q _ (Same.new hu))⟩⟩
theorem zqj:FnScope ["one"] ["one"] (zah zll):=by walk_at "s"
theorem zpc (T:Txt K mg t):∀n,FnOk P w K mg base CX0 (n+2) t.zlu t.zlw ["one"] (zl0 K n)
| 0=>T.leaves.F.ok zqj (λvs H Q E h=>by obtain⟨tr,v,rfl,hd,hv,ht,q⟩:=h; exact absurd hd (qbq _)) (λcdv A outer s H vs Q E hr h=>by obtain⟨tr,v,rfl,hd,hv,ht,q⟩:=h; exact absurd hd (qbq _))
| n+1=>by
 have G_is_leaf:=zvg (P:=P) (w:=w) (base:=base) T;have G_leaves:FnOk P w K mg base CX0 (n+2) t.zlu t.zlw ["one"] (zl0 K n):=zpc T n;refine T.leaves.F.ok zqj (λvs H Q E h=>?_) (λcdv A outer s H vs Q E hr h=>?_)
 . obtain⟨tr,v,rfl,hd,hv,ht,q⟩:=h;rfl
 . obtain⟨tr,v,rfl,hd,hv,ht,q⟩:=h;refine⟨_,(@zad _ _ _ _ _ (@zbi _ _ _ _ _ _ _ _ (zcy (za6 T.is_leaf G_is_leaf (hr.mono (by omega)) (@zaa _ _ _ _ _ (pvC 0) zac (by rfl)))) (@zag _ _ _ (@zat _ _ _ _ zae)) zau) (@zag _ _ _ (@zat _ _ _ _ (@zav _ _ _ _ _ _ _ _ (zc2 zbp) (za6 T.leaves G_leaves (hr.mono (by omega)) (@zaa _ _ _ _ _ (@zaq _ _ _ _ _ _ _ (show IxR _ (zcz K) from zak) (pvC 0) zae (λ_ _=>rfl)) zac (by rfl))) (za6 T.leaves G_leaves (hr.mono (by omega)) (@zaa _ _ _ _ _ (@zaq _ _ _ _ _ _ _ (show IxR _ (zcz K) from zak) (pvC 0) zae (λ_ _=>rfl)) zac (by rfl))))))),?_⟩;refine⟨_,rfl,tr,v,rfl,hv,ht,λH1 s1=>⟨_,rfl,?_⟩⟩;cases tr with
   | box k=>exact zdz rfl (q _ s1)
   | num k=>exact zdz rfl (q _ s1)
   | op i l r =>
     obtain⟨p,xs,rfl,e,hx⟩:=zkg hv;obtain⟨s,x,y,rfl,h1,bl,br⟩:=z5t hx;have d1:bdp l<n:=by have:max (bdp l) (bdp r)+1<n+1:=hd; omega
     have d2:bdp r<n:=by have:max (bdp l) (bdp r)+1<n+1:=hd; omega
     exact zdd (by simp [bdp]) ⟨_,rfl,p,_,_,_,rfl,rfl,s1.tup e,rfl,l,x,rfl,d1,DatV.mono s1 _ _ bl,ht.2.1,λH2 s2=>⟨_,rfl,p,_,_,_,rfl,rfl,s2.tup (s1.tup e),rfl,r,y,rfl,d2,DatV.mono (s1.trans s2) _ _ br,ht.2.2,λH3 s3=>⟨_,_,rfl,rfl,vq (qa0 V.int (qe6 ..).symm) (q H3 ((s1.trans s2).trans s3))⟩⟩⟩
theorem zoj:FnScope ["number","count"] ["number","count"] (zah zfw):=by walk_at "s"
theorem zjn (T:Txt K mg t):FnOk P w K mg base CX0 1 t.zk2 t.zk7 ["number","count"] (zog K):=by
 refine T.plain_bits.F.ok zoj (λvs H Q E h=>?_) (λcdv A outer s H vs Q E hr h=>?_)
 . obtain⟨n,c,rfl,hc8,q⟩:=h;rfl
 . obtain⟨n,c,rfl,hc8,q⟩:=h;refine⟨_,(@zad _ _ _ _ _ (@zat _ _ _ _ (zeh qb5 qca qcb zin za5 (@zaa _ _ _ _ _ (ze2 (N':=["k","number"]) (js:=[none,some 0]) (by kernel_rfl) rfl (zvm rfl T.b_range (@zaa _ _ _ _ _ (@zav _ _ _ _ _ _ _ _ (zc2 zje) (pvC 1) zae) (@zaa _ _ _ _ _ (zrz zly zae) (@zaa _ _ _ _ _ (zrz zly zae) zac (by rfl)) (by rfl)) (by rfl))) zb6 (λ_ _ _ _=>(zar (i:=0) (show(["k","number"]:List Str).Nodup by decide +kernel) rfl (Or.inl rfl) (.inr rfl))) (λ_ _ _ _=>zcw) (λ_ _ _ _=>(@zi3 _ _ _ _ _ _ _ _ (z0r (K:=K) rfl (@zav _ _ _ _ _ _ _ _ (zc2 z09) (@zav _ _ _ _ _ _ _ _ (zhu z0p) (pvC 1) (pvC 0)) zae) (by intro _; rfl)) za5 za5))) zac (by rfl)))) zau),?_⟩;have hc:((c:Int) - 1 - -1).toNat=c:=by omega
   refine⟨rfl,_,rfl,_,_,rfl,rfl,_,rfl,_,rfl,_,_,rfl,⟨by omega,by omega,by decide,by decide⟩,λp hp=>zw0 (λi=>V.str (tx [if n / 2 ^ (c - 1 - i)%2=1 then 49 else 48])) (by omega) hp ?_ ?_⟩
   . rintro i H2 Rr hi s2 hR;have hk:((c:Int) - 1 - (i:Int)).toNat=c - 1 - i:=by omega
     refine⟨_,rfl,_,rfl,_,_,rfl,rfl,(by show(0:Int)<=(c:Int) - 1 - (i:Int); omega),_,_,rfl,rfl,_,rfl,?_⟩;have e:Builtin.bitAnd ((n:Int) / 2 ^ ((c:Int) - 1 - (i:Int)).toNat) 1=((n / 2 ^ (c - 1 - i)%2:Nat):Int):=by have:=z2h n (c - 1 - i);rw[qbu] at this;rw[hk];exact this
     by_cases hb:n / 2 ^ (c - 1 - i)%2=1
     . refine zdz (by rw[e,hb]; rfl) ?_;rw[if_pos hb] at hR;exact hR
     . have h0:n / 2 ^ (c - 1 - i)%2=0:=by omega
       refine zdd (by rw[e,h0]; decide) ?_;rw[if_neg hb] at hR;exact hR
   . rintro H2 s2 e2;rw[hc] at e2;have e3:((List.range c).map λi=>V.str (tx [if n / 2 ^ (c - 1 - i)%2=1 then 49 else 48]))=(((List.range c).map λi=>[if n / 2 ^ (c - 1 - i)%2=1 then 49 else 48]).map tx).map V.str:=by rw[qbg,qbg];rfl
     rw[e3] at e2;refine⟨_,p,_,rfl,rfl,SqL.of e2,?_,?_⟩
     . rw[zyc,qa9,List.length_map,List.length_map,qa9];show c+c * 0<=16777216;omega
     . rw[zhp,ztn];exact q H2 s2
theorem zet:FnScope ["number","groups","rest"] ["number"] (zah ze4):=by walk_at "s"
theorem zf4 (T:Txt K mg t):FnOk P w K mg base CX0 2 t.zjp t.zjs ["number"] (znd K):=by
 have G_plain_bits:=zjn (P:=P) (w:=w) (base:=base) T;refine T.number_bits.F.ok zet (λvs H Q E h=>?_) (λcdv A outer s H vs Q E hr h=>?_)
 . obtain⟨n,rfl,hn,q⟩:=h;rfl
 . obtain⟨n,rfl,hn,q⟩:=h;refine⟨_,(@zad _ _ _ _ _ (@zas _ _ 1 _ _ _ _ zet.nd rfl (Or.inl rfl) (@zb9 _ _ _ _ zac) (by rfl) (by walk_at "f")) (@zad _ _ _ _ _ (@zas _ _ 2 _ _ _ _ zet.nd rfl (Or.inl rfl) (pvC 0) (by rfl) (by walk_at "f")) (@zad _ _ _ _ _ (z0j PassesOwn.never (@zan _ _ _ _ _ _ _ _ (zc2 z5m) (pvC 2) zae (zax _)) (@zad _ _ _ _ _ (@zco _ _ _ _ (zeh qax qa1 qa2 zbr (pvC 1) (@zaa _ _ _ _ _ (@zav _ _ _ _ _ _ _ _ zbf za5 (za6 T.plain_bits G_plain_bits (hr.mono (by decide)) (@zaa _ _ _ _ _ (@zav _ _ _ _ _ _ _ _ (zc2 z09) (pvC 2) zae) (@zaa _ _ _ _ _ zae zac (by rfl)) (by rfl)))) zac (by rfl))) (by rfl)) (@zag _ _ _ (@zas _ _ 2 _ _ _ _ zet.nd rfl (Or.inl rfl) (@zav _ _ _ _ _ _ _ _ (zhu z0p) (pvC 2) zae) (by rfl) (by walk_at "f"))))) (@zag _ _ _ (@zat _ _ _ _ (@zav _ _ _ _ _ _ _ _ zbf (@zav _ _ _ _ _ _ _ _ zbf (zeh qb5 qca qcb zin za5 (@zaa _ _ _ _ _ (pvC 1) zac (by rfl))) za5) (za6 T.plain_bits G_plain_bits (hr.mono (by decide)) (@zaa _ _ _ _ _ (pvC 2) (@zaa _ _ _ _ _ zae zac (by rfl)) (by rfl))))))))),?_⟩;have L60:=zl3 15 n hn;refine⟨le0,λl hl=>⟨_,rfl,?_⟩⟩;refine zz7 (λσ H2=>Same H H2/\∃(r:Nat) (gs:List (List Nat)),σ=[some (.int n),some (.ref l),some (.int r)]/\H2 l=some (.lst ((gs.map tx).map V.str))/\gs.flatten++nb r=nb n/\∀g∈gs,g.length=4) (λσ _=>match σ with | [_,_,some (.int r)]=>r.toNat|_=>0) ⟨Same.new hl,n,[],rfl,zab,rfl,λg h=>by cases h⟩ ?_ ?_
   . rintro σ H2 ⟨s2,r,gs,rfl,e2,hg,h4⟩;have fl:gs.flatten.length=4 * gs.length:=by
       clear e2 hg
       induction gs with
       | nil=>rfl
       | cons g gs ih =>
         rw[qbv,List.length_append,ih λx hx=>h4 x (qba _ hx),h4 g qbh,List.length_cons];omega
     have gl:gs.length<=16:=by have:=qa0 List.length hg;rw[List.length_append] at this;omega
     refine⟨_,rfl,_,_,rfl,rfl,_,rfl,?_⟩;by_cases c:r<8
     . refine zdd (by walk_at "o") ?_;have sm:((gs.map tx).map (·.length)).sum=gs.flatten.length:=by rw[qbg,qec];exact qa0 List.sum (qci λg _=>zcs g)
       refine⟨rfl,_,rfl,_,l,_,rfl,rfl,SqL.of e2,(by rw[sm,fl,List.length_map]; show 4 * gs.length+gs.length * 0<=16777216; omega),?_⟩;rw[zhp];refine⟨_,_,rfl,rfl,(by rw[zcs]; exact zb0 (by show gs.flatten.length+1<1000000; omega)),?_⟩;refine⟨_,rfl,r,3,rfl,by decide,λH3 s3=>⟨_,_,rfl,rfl,?_,?_⟩⟩
       . rw[zyq,zfs,zcs,zcs,List.length_append,zih];exact zb0 (by show gs.flatten.length+1+3<1000000; omega)
       . rw[zyq,zfs,zfs];have e:gs.flatten++[48]++pb r 3=nb n:=by rw[<- hg,zmf c,qbd]; rfl
         rw[e];exact q H3 (s2.trans s3)
     . refine zdz (by walk_at "o") ?_;refine⟨_,rfl,.inl ⟨rfl,_,SqL.of e2⟩,_,rfl,_,_,rfl,rfl,r%8,3,(by show [V.int (Builtin.bitAnd (r:Int) 7),V.int 3]=_; rw[and7]; rfl),by decide,λH3 s3=>⟨_,_,rfl,rfl,(by rw[zcs,zih]; exact zb0 (by show 1+3<1000000; decide)),l,_,_,rfl,rfl,s3 _ _ e2,(by rw[List.length_map,List.length_map]; exact Nat.lt_of_le_of_lt (by omega) (zqc (n:=1000) (qaj _))),?_⟩⟩;refine⟨_,rfl,_,_,rfl,rfl,(show(0:Int)<=3 by decide),?_⟩;have e8:(r:Int) / 2 ^ (3:Int).toNat=((r / 8:Nat):Int):=by show(r:Int) / 8=_;omega
       refine⟨⟨(s2.trans s3).upd hl,r / 8,gs++[49 :: pb (r%8) 3],(by rw[<- e8]; rfl),?_,?_,?_⟩,?_⟩
       . rw[zab,z1o,List.map_append,List.map_append];rfl
       . rw[qc7,<- hg,zl9 c,qbd];simp
       . intro g hgm;rcases qbk.mp hgm with h|h
         . exact h4 g h
         . rw[qa4.mp h,List.length_cons,zih]
       . show((r:Int) / 2 ^ (3:Int).toNat).toNat<(r:Int).toNat;rw[e8];omega
   . rintro σ H2 Q1 Q2 h ⟨v,e1,i,j,e2,e3,k,e4,z⟩;exact⟨v,e1,i,j,e2,e3,k,e4,h _ _ z⟩
theorem zgj:FnScope ["one"] ["one"] (zah zdr):=by walk_at "s"
theorem zgm (T:Txt K mg t):∀n,FnOk P w K mg base CX0 (n+3) t.zds t.zdt ["one"] (zeq K n)
| 0=>T.reckoning_bits.F.ok zgj (λvs H Q E h=>by obtain⟨tr,v,rfl,hd,hB,hO,hL,q⟩:=h; exact absurd hd (qbq _)) (λcdv A outer s H vs Q E hr h=>by obtain⟨tr,v,rfl,hd,hB,hO,hL,q⟩:=h; exact absurd hd (qbq _))
| n+1=>by
 have G_reckoning_bits:FnOk P w K mg base CX0 (n+3) t.zds t.zdt ["one"] (zeq K n):=zgm T n;have G_number_bits:=zf4 (P:=P) (w:=w) (base:=base) T;have G_plain_bits:=zjn (P:=P) (w:=w) (base:=base) T;refine T.reckoning_bits.F.ok zgj (λvs H Q E h=>?_) (λcdv A outer s H vs Q E hr h=>?_)
 . obtain⟨tr,v,rfl,hd,hB,hO,hL,q⟩:=h;rfl
 . obtain⟨tr,v,rfl,hd,hB,hO,hL,q⟩:=h;refine⟨_,(@zad _ _ _ _ _ (@zbi _ _ _ _ _ _ _ _ (@zan _ _ _ _ _ _ _ _ zdw (@zaq _ _ _ _ _ _ _ (show IxR _ (zcz K) from zak) (pvC 0) zae (λ_ _=>rfl)) za5 (zax _)) (@zag _ _ _ (@zat _ _ _ _ (@zav _ _ _ _ _ _ _ _ zbf za5 (za6 T.number_bits G_number_bits (hr.mono (by omega)) (@zaa _ _ _ _ _ (@zaq _ _ _ _ _ _ _ (show IxR _ (zcz K) from zak) (pvC 0) zae (λ_ _=>rfl)) zac (by rfl)))))) zau) (@zad _ _ _ _ _ (@zbi _ _ _ _ _ _ _ _ (@zan _ _ _ _ _ _ _ _ zdw (@zaq _ _ _ _ _ _ _ (show IxR _ (zcz K) from zak) (pvC 0) zae (λ_ _=>rfl)) za5 (zax _)) (@zag _ _ _ (@zat _ _ _ _ (@zav _ _ _ _ _ _ _ _ zbf za5 (za6 T.number_bits G_number_bits (hr.mono (by omega)) (@zaa _ _ _ _ _ (@zaq _ _ _ _ _ _ _ (show IxR _ (zcz K) from zak) (pvC 0) zae (λ_ _=>rfl)) zac (by rfl)))))) zau) (@zag _ _ _ (@zat _ _ _ _ (@zav _ _ _ _ _ _ _ _ zbf (@zav _ _ _ _ _ _ _ _ zbf (@zav _ _ _ _ _ _ _ _ zbf za5 (za6 T.plain_bits G_plain_bits (hr.mono (by omega)) (@zaa _ _ _ _ _ (zeh PySem.F.plainAttrs_tuple PySem.F.slot_tuple_index PySem.F.type_tuple_index zx6 (zgn T.zsn) (@zaa _ _ _ _ _ (@zaq _ _ _ _ _ _ _ (show IxR _ (zcz K) from zak) (pvC 0) zae (λ_ _=>rfl)) zac (by rfl))) (@zaa _ _ _ _ _ (zil T.zm0) zac (by rfl)) (by rfl)))) (za6 T.reckoning_bits G_reckoning_bits (hr.mono (by omega)) (@zaa _ _ _ _ _ (@zaq _ _ _ _ _ _ _ (show IxR _ (zcz K) from zak) (pvC 0) zae (λ_ _=>rfl)) zac (by rfl)))) (za6 T.reckoning_bits G_reckoning_bits (hr.mono (by omega)) (@zaa _ _ _ _ _ (@zaq _ _ _ _ _ _ _ (show IxR _ (zcz K) from zak) (pvC 0) zae (λ_ _=>rfl)) zac (by rfl)))))))),?_⟩;cases tr with
   | box k =>
     obtain⟨p,x,y,rfl,e,h1,h2⟩:=dt2 hB;cases zia h1;cases zra h2;have hk:=zl3 15 k hO;refine⟨_,rfl,p,_,_,_,rfl,rfl,e,rfl,rfl,_,rfl,zdz (decide_eq_true rfl) ⟨_,rfl,p,_,_,_,rfl,rfl,e,rfl,k,rfl,hO,λH1 s1=>⟨_,_,rfl,rfl,z24 [48] _ (by show 1+(nb k).length<1000000; omega),vq (qa0 V.str (z4n _)) (q H1 s1)⟩⟩⟩
   | num k =>
     obtain⟨p,x,y,rfl,e,h1,h2⟩:=dt2 hB;cases zia h1;cases zra h2;have hk:=zl3 15 k hO;refine⟨_,rfl,p,_,_,_,rfl,rfl,e,rfl,rfl,_,rfl,iN ⟨_,rfl,p,_,_,_,rfl,rfl,e,rfl,rfl,_,rfl,zdz (decide_eq_true rfl) ⟨_,rfl,p,_,_,_,rfl,rfl,e,rfl,k,rfl,hO,λH1 s1=>⟨_,_,rfl,rfl,z24 [49,48] _ (by show 2+(nb k).length<1000000; omega),vq (qa0 V.str (z38 _)) (q H1 s1)⟩⟩⟩⟩
   | op i l r =>
     obtain⟨p,xs,rfl,e,hx⟩:=zkg hB;obtain⟨s,x,y,rfl,h1,bl,br⟩:=z5t hx;cases zia h1;have hi:=hO.1;have d1:bdp l<n:=by have:max (bdp l) (bdp r)+1<n+1:=hd; omega
     have d2:bdp r<n:=by have:max (bdp l) (bdp r)+1<n+1:=hd; omega
     have hLL:lv l+lv r<=16:=hL;have r1:=znk (zj8 hO.2.1);have r2:=znk (zj8 hO.2.2);refine⟨_,rfl,p,_,_,_,rfl,rfl,e,at0,rfl,_,rfl,zdd (λz=>(zw5 i hi).1 (V.str.inj (zb7 z))) ⟨_,rfl,p,_,_,_,rfl,rfl,e,at0,rfl,_,rfl,zdd (λz=>(zw5 i hi).2 (V.str.inj (zb7 z))) ?_⟩⟩;refine⟨.inr (.inl ⟨rfl,T.z3m⟩),_,rfl,p,_,_,_,rfl,rfl,e,at0,_,sgTup,_,i,rfl,rfl,T.t_SIGNS _,rfl,(by decide),z4b i hi,z2x i hi,i,4,rfl,by decide,λH1 s1=>⟨_,_,rfl,rfl,z24 [49,49] _ (by show 2+(pb i 4).length<1000000; rw[zih]; omega),?_⟩⟩;refine⟨_,rfl,p,_,_,_,rfl,rfl,s1.tup e,rfl,l,x,rfl,d1,DatV.mono s1 _ _ bl,hO.2.1,by omega,λH2 s2=>⟨_,_,rfl,rfl,(by rw[zxr]; exact z24 _ _ (by rw[List.length_cons,List.length_cons,zih]; omega)),?_⟩⟩;refine⟨_,rfl,p,_,_,_,rfl,rfl,s2.tup (s1.tup e),rfl,r,y,rfl,d2,DatV.mono (s1.trans s2) _ _ br,hO.2.2,by omega,λH3 s3=>⟨_,_,rfl,rfl,(by rw[zxr,zfs]; exact z24 _ _ (by rw[List.length_append,List.length_cons,List.length_cons,zih]; omega)),vq (qa0 V.str (by rw[zxr,zfs,zfs]; rfl)) (q H3 ((s1.trans s2).trans s3))⟩⟩
theorem zn6:FnScope ["place"] ["place"] (zah zft):=by walk_at "s"
theorem zok (T:Txt K mg t):FnOk P w K mg base CX0 20 t.zk1 t.zk6 ["place"] (zoq K):=by
 have G_reckoning_bits:FnOk P w K mg base CX0 19 t.zds t.zdt ["one"] (zeq K 16):=zgm T 16;refine T.place_bits.F.ok zn6 (λvs H Q E h=>?_) (λcdv A outer s H vs Q E hr h=>?_)
 . obtain⟨o,v,rfl,hB,hP,q⟩:=h;rfl
 . obtain⟨o,v,rfl,hB,hP,q⟩:=h;refine⟨_,(@zad _ _ _ _ _ (@zat _ _ _ _ (@zi3 _ _ _ _ _ _ _ _ (zpn (z5r (pvC 0))) (zxf T.zsm) (@zav _ _ _ _ _ _ _ _ zbf za5 (za6 T.reckoning_bits G_reckoning_bits (hr.mono (by decide)) (@zaa _ _ _ _ _ (pvC 0) zac (by rfl)))))) zau),?_⟩;have hv:=z0n hB;cases o with
   | none =>
     cases hv.mpr rfl;exact⟨_,rfl,_,rfl,zdz rfl (q H (Same.refl _))⟩
   | some tr =>
     obtain⟨hO,hL⟩:=hP;have hr1:=znk (zj8 hO);have hd:=znj tr;exact⟨_,rfl,_,rfl,zdd (λz=>by cases hv.mp (zb7 z)) ⟨_,rfl,tr,v,rfl,by omega,hB,hO,by omega,λH1 s1=>⟨_,_,rfl,rfl,z24 [49] _ (by show 1+(rb tr).length<1000000; omega),vq (qa0 V.str (z1o _)) (q H1 s1)⟩⟩⟩
theorem zdl:FnScope ["before","chain","found","level","frame","has_one"] ["before","chain"] (zah zfa):=by walk_at "s"
theorem zif (T:Txt K mg t):FnOk P w K mg base CX0 1 t.zjq t.zjt ["before","chain"] (zm9 K):=by
 refine T.views_ahead.F.ok zdl (λvs H Q E h=>?_) (λcdv A outer s H vs Q E hr h=>?_)
 . obtain⟨b0,c,fns,m0,ch,z,zz,oz,ozz,rfl,hz,hzz,nd,h0,ok0,hc,hix,h3,q⟩:=h;rfl
 . obtain⟨b0,c,fns,m0,ch,z,zz,oz,ozz,rfl,hz,hzz,nd,h0,ok0,hc,hix,h3,q⟩:=h;refine⟨_,(@zad _ _ _ _ _ (@zas _ _ 2 _ _ _ _ zdl.nd rfl (Or.inl rfl) (@zb9 _ _ _ _ zac) (by rfl) (by walk_at "f")) (@zad _ _ _ _ _ (zdh PassesOwn.never rfl (zoh rfl T.b_enumerate (@zaa _ _ _ _ _ (pvC 1) zac (by rfl))) (zfq rfl (za9 (zar (i:=3) zdl.nd rfl (Or.inl rfl)) (za9 (zar (i:=4) zdl.nd rfl (Or.inl rfl)) zdv))) (@zad _ _ _ _ _ (@zas _ _ 5 _ _ _ _ zdl.nd rfl (Or.inl rfl) (zqp (zf7 (zc2 zjg) (pvC 3) (zam (show zbv _ (.builtin "len") (zh9 K) from zay) (by rfl) T.b_len zbk (@zaa _ _ _ _ _ (@zaq _ _ _ _ _ _ _ (show IxR _ (zcz K) from zak) (pvC 0) zae (λ_ _=>rfl)) zac (by rfl))) (zax _)) (zo7 (zf7 zdw (@zaq _ _ _ _ _ _ _ (show IxR _ (zcz K) from zak) (@zaq _ _ _ _ _ _ _ (show IxR _ (zcz K) from zak) (@zaq _ _ _ _ _ _ _ (show IxR _ (zcz K) from zak) (pvC 0) zae (λ_ _=>rfl)) (pvC 3) (λ_ _=>rfl)) zae (λ_ _=>rfl)) (@zaq _ _ _ _ _ _ _ (show IxR _ (zcz K) from zak) (pvC 4) zae (λ_ _=>rfl)) (zax _)))) (by rfl) (by walk_at "f")) (@zag _ _ _ (@zco _ _ _ _ (zeh qax qa1 qa2 zbr (pvC 2) (@zaa _ _ _ _ _ (@zi3 _ _ _ _ _ _ _ _ (zcy (pvC 5)) (@zaq _ _ _ _ _ _ _ (show IxR _ (zim K) from zbb) (@zaq _ _ _ _ _ _ _ (show IxR _ (zcz K) from zak) (pvC 0) zae (λ_ _=>rfl)) (pvC 3) (λ_ _=>rfl)) (@zb9 _ _ _ _ zac)) zac (by rfl))) (by rfl))))) (@zag _ _ _ (@zat _ _ _ _ (pvC 2))))),?_⟩;obtain⟨bA,cv,wv,rfl,hb,hcv,hwv⟩:=dt2 h0;obtain⟨cA,cs,rfl,hcs,dcs⟩:=zkg hcv;obtain⟨wA,ws,rfl,hws,dws⟩:=zit hwv;obtain⟨chA,fs,rfl,hfs,dfs⟩:=zkg hc;have lf:fs.length=ch.length:=by rw[zc0 dfs,List.length_map]
   have lcs:cs.length=m0.ch.length:=by rw[zc0 dcs,List.length_map]
   refine⟨le0,λl hl=>?_⟩;have nlz:l≠z:=(zaf hz hl).symm;have toL:∀{H2:Hp},Same H H2->Same (ers zz (ers z H)) (ers zz (ers z (ers l H2))):=λs=>Same.ers (Same.ers (zc6 s hl));have toH:Same (ers zz (ers z H)) H:=zaz.trans zaz;have hb:=toH.tup hb;have hcs:=toH.tup hcs;have hws:=toH.seq hws;refine⟨_,rfl,chA,rfl,⟨_,(Same.new hl).tup hfs⟩,(let Jv1:Nat->St->Hp->Prop:=λi σ H2=>∃v3 v4 v5:Option V,σ=[some (.ref bA),some (.ref chA),some (.ref l),v3,v4,v5]/\Same H H2/\∃xs,H2 l=some (.lst xs)/\DatAll K (ers zz (ers z (ers l H2))) (zig m0 ch i) xs; zl1 (xs:=fs) Jv1 ⟨_,_,_,rfl,Same.new hl,_,zab,zap⟩ ?_ ?_ ?_)⟩
   . rintro i σ H2 hi ⟨v3,v4,v5,rfl,s2,_⟩;exact s2.tup hfs
   . rintro i y σ H2 b hy' ⟨v3,v4,v5,rfl,s2,xs,e2,d2⟩ hb';have ilt:i<fs.length:=(List.getElem?_eq_some_iff.mp hy').1;have lxs:xs.length=i:=by rw[zc0 d2]; unfold zig; rw[List.length_map,qa9]
     obtain⟨c,hcc,hv⟩:=zid dfs hy';obtain⟨fA,x1,x2,rfl,hf,hx1,hx2⟩:=dt2 hv;cases zia hx1;have s3:=Same.new (o:=.tup [.int i,.ref fA]) hb';refine⟨b,_,rfl,SqT.of zab,rfl,_,_,rfl,_,_,rfl,rfl,?_⟩;have d3:=DatAll.mono (Same.ers (l:=zz) (Same.ers (l:=z) (Same.ers (l:=l) s3))) _ _ d2;have e3:=s3 _ _ e2;have s03:=s2.trans s3;generalize upd H2 b (.tup [.int i,.ref fA])=H3 at s3 d3 e3 s03 ⊢;have cg:(ch.getD i (0,0)).1=c.1:=by rw[List.getD_eq_getElem?_getD,hcc]; rfl
     have ln:xs.length<sizeLine:=zb0 (n:=xs.length+1) (by omega);have fin:∀(v:V) (H4:Hp),Same H3 H4->DatV K (ers zz (ers z (ers l H4))) (plD (ahd m0 i c.1)) v->∃xs',upd H4 l (.lst (xs++[v])) l=some (.lst xs')/\DatAll K (ers zz (ers z (ers l (upd H4 l (.lst (xs++[v])))))) (zig m0 ch (i+1)) xs':=λv H4 s4 hv4=>by refine⟨_,zab,?_⟩;rw[zdi];unfold zig;rw[qby,List.map_append];refine zfg (DatAll.mono (Same.ers (Same.ers (Same.ers s4))) _ _ d3) ?_;show DatV K (ers zz (ers z (ers l H4))) (plD (ahd m0 i (ch.getD i (0,0)).1)) v;rw[cg];exact hv4
     refine⟨_,rfl,_,rfl,bA,_,_,_,rfl,rfl,s03.tup hb,at0,cA,_,rfl,.inr (s03.tup hcs),_,_,rfl,rfl,?_⟩;refine⟨_,rfl,?_⟩;by_cases hi:i<m0.ch.length
     case neg =>
       have ha:ahd m0 i c.1=[]:=by unfold ahd z6i; rw[qbi (by omega)]; rfl
       have hn:¬ decide ((i:Int)<(cs.length:Nat))=true:=by rw[decide_eq_true_eq]; omega
       exact zdd hn ⟨_,rfl,.inl ⟨rfl,_,SqL.of e3⟩,_,rfl,_,rfl,zdd qas ⟨le0,λe he=>⟨l,_,_,rfl,rfl,Same.new he _ _ e3,ln,_,_,_,rfl,(s03.trans (Same.new he)).upd hl,fin _ _ (Same.new he) (by rw[ha]; exact zbc (SqL.of (by rw[zao (zaf (s03 _ _ hzz) he).symm,zao (zaf (s03 _ _ hz) he).symm,zao (zaf e3 he).symm]; exact zab)) zap)⟩⟩⟩
     obtain⟨c0,hc0⟩:∃c0,m0.ch[i]?=some c0:=⟨_,List.getElem?_eq_getElem hi⟩
     obtain⟨v0,hv0⟩:∃v0,m0.vs[i]?=some v0:=⟨_,List.getElem?_eq_getElem (by rw[ok0.vl]; exact hi)⟩
     obtain⟨x0,hx0,dx0⟩:=zji dcs hc0;obtain⟨w0,hw0,dw0⟩:=zji dws hv0;obtain⟨gA,y1,y2,rfl,hg,hy1,hy2⟩:=dt2 (DatV.mono toH _ _ dx0);cases zia hy1;refine zdz (by walk_at "o") ?_;refine⟨_,rfl,bA,_,_,_,rfl,rfl,s03.tup hb,at0,_,rfl,cA,_,_,_,rfl,rfl,s03.tup hcs,zcg hx0,gA,_,_,_,rfl,rfl,s03.tup hg,at0,_,rfl,fA,_,_,_,rfl,rfl,s03.tup hf,at0,rfl,?_⟩;have hl0:z6i m0 i c.1=decide (c0.1=c.1):=by unfold z6i; rw[hc0]
     by_cases hk:c0.1=c.1
     . have ha:ahd m0 i c.1=v0:=by unfold ahd; rw[hl0,decide_eq_true hk,if_pos rfl,List.getD_eq_getElem?_getD,hv0]; rfl
       exact⟨_,rfl,.inl ⟨rfl,_,SqL.of e3⟩,_,rfl,_,rfl,zdz (decide_eq_true (by rw[hk])) ⟨_,rfl,bA,_,_,_,rfl,rfl,s03.tup hb,rfl,_,rfl,wA,_,_,_,rfl,rfl,s03.seq hws,zcg hw0,l,_,_,rfl,rfl,e3,ln,_,_,_,rfl,s03.upd hl,fin _ _ (Same.refl _) (by rw[ha]; exact DatV.mono (toL s03) _ _ dw0)⟩⟩
     . have ha:ahd m0 i c.1=[]:=by unfold ahd; rw[hl0,qbn hk,if_neg qas]
       exact⟨_,rfl,.inl ⟨rfl,_,SqL.of e3⟩,_,rfl,_,rfl,zdd (λz=>hk (zri nd (ok0.ix c0 (List.mem_of_getElem? hc0)).1 (hix c (List.mem_of_getElem? hcc)) (V.str.inj (zb7 z)))) ⟨le0,λe he=>⟨l,_,_,rfl,rfl,Same.new he _ _ e3,ln,_,_,_,rfl,(s03.trans (Same.new he)).upd hl,fin _ _ (Same.new he) (by rw[ha]; exact zbc (SqL.of (by rw[zao (zaf (s03 _ _ hzz) he).symm,zao (zaf (s03 _ _ hz) he).symm,zao (zaf e3 he).symm]; exact zab)) zap)⟩⟩⟩
   . rintro σ H2 ⟨v3,v4,v5,rfl,s2,xs,e2,d2⟩;rw[lf] at d2;exact⟨_,rfl,q l xs H2 s2 hl e2 (DatAll.mono (Same.ers (Same.ers zaz)) _ _ d2)⟩
theorem zfu:FnScope ["places","ahead","written","k","place"] ["places","ahead"] (zah zgs):=by walk_at "s"
theorem zpe (T:Txt K mg t):FnOk P w K mg base CX0 21 t.zmx t.zm5 ["places","ahead"] (zqb K):=by
 have G_place_bits:=zok (P:=P) (w:=w) (base:=base) T;refine T.view_bits.F.ok zfu (λvs H Q E h=>?_) (λcdv A outer s H vs Q E hr h=>?_)
 . obtain⟨p,a,pl,ah,rfl,hp,ha,okp,oka,h24,q⟩:=h;rfl
 . obtain⟨p,a,pl,ah,rfl,hp,ha,okp,oka,h24,q⟩:=h;refine⟨_,(@zad _ _ _ _ _ (@zas _ _ 2 _ _ _ _ zfu.nd rfl (Or.inl rfl) (@zb9 _ _ _ _ zac) (by rfl) (by walk_at "f")) (@zad _ _ _ _ _ (zdh PassesOwn.never rfl (zsz rfl T.b_enumerate (@zaa _ _ _ _ _ (pvC 0) zac (by rfl))) (zfq rfl (za9 (zar (i:=3) zfu.nd rfl (Or.inl rfl)) (za9 (zar (i:=4) zfu.nd rfl (Or.inl rfl)) zdv))) (@zag _ _ _ (@zco _ _ _ _ (zeh qax qa1 qa2 zbr (pvC 2) (@zaa _ _ _ _ _ (@zi3 _ _ _ _ _ _ _ _ (@zan _ _ _ _ _ _ _ _ (zp8 hr.units) (@zd9 _ _ _ _ _ _ _ _ _ _ zxk (pvC 1) (zef (pvC 3)) (zef (@zav _ _ _ _ _ _ _ _ (zc2 zbp) (pvC 3) zae))) (@zb9 _ _ _ _ (@zaa _ _ _ _ _ (pvC 4) zac (by rfl))) (zax _)) (zxf T.zmy) (za6 T.place_bits G_place_bits (hr.mono (by decide)) (@zaa _ _ _ _ _ (pvC 4) zac (by rfl)))) zac (by rfl))) (by rfl)))) (@zag _ _ _ (@zat _ _ _ _ (zeh qb5 qca qcb zin za5 (@zaa _ _ _ _ _ (pvC 2) zac (by rfl))))))),?_⟩;obtain⟨pA,xs,rfl,hx,dx⟩:=zit hp;obtain⟨aA,ys,rfl,hy,dy⟩:=zit ha;have lx:xs.length=pl.length:=by rw[zc0 dx,List.length_map]
   refine⟨le0,λw hw=>?_⟩;refine⟨_,rfl,pA,rfl,⟨_,(Same.new hw).seq hx⟩,(let Jv1:Nat->St->Hp->Prop:=λi σ H2=>∃v3 v4:Option V,σ=[some (.ref pA),some (.ref aA),some (.ref w),v3,v4]/\Same H H2/\H2 w=some (.lst (((vbL ah pl i).map tx).map V.str)); zpj (xs:=xs) Jv1 ⟨_,_,rfl,Same.new hw,zab⟩ ?_ ?_ ?_)⟩
   . rintro i σ H2 hi ⟨v3,v4,rfl,s2,e2⟩;exact s2.seq hx
   . rintro i y σ H2 b hy' ⟨v3,v4,rfl,s2,e2⟩ hb;have ilt:i<xs.length:=(List.getElem?_eq_some_iff.mp hy').1;obtain⟨o,ho,hv⟩:=zid dx hy';have s3:=Same.new (o:=.tup [.int i,y]) hb;refine⟨b,_,rfl,SqT.of zab,rfl,_,_,rfl,_,_,rfl,rfl,?_⟩;generalize upd H2 b (.tup [.int i,y])=H3 at s3 ⊢;have s03:=s2.trans s3;have e3:=s3 _ _ e2;refine⟨_,rfl,.inl ⟨rfl,_,SqL.of e3⟩,_,rfl,_,rfl,_,rfl,_,rfl,_,_,rfl,rfl,_,rfl,aA,_,rfl,s03.seq hy,λsl hsl=>⟨_,rfl,le1,λl1 hl1=>?_⟩⟩;rw[zvq] at hl1 ⊢;have s4:=Same.new (o:=.lst (ys[i]?).toList) hsl;have s5:=Same.new (o:=.lst [y]) hl1;have s35:=s4.trans s5;have s05:=s03.trans s35;have gp:pl.getD i none=o:=by rw[List.getD_eq_getElem?_getD,ho]; rfl
     refine⟨_,_,zbc (SqL.of (s5 _ _ zab)) (DatAll.mono s05 _ _ (zvw dy i)),zbc (SqL.of zab) (za1 (DatV.mono s05 _ _ hv) zap),lay1 (n:=9) (λo ho=>oka o (by
         cases e:ah[i]? with
         | none=>rw[e] at ho; cases ho
         | some a=>rw[e] at ho; rw[qa4.mp ho]; exact List.mem_of_getElem? e)),lay1 (n:=9) (l:=[o]) (zv6 (okp o (List.mem_of_getElem? ho))),_,rfl,?_⟩
     rw[z3y];have e5:=s35 _ _ e3;have ew:H w=none:=hw;have ln:(((vbL ah pl i).map tx).map V.str).length<sizeLine:=by rw[ztb,zxp]; exact zb0 (n:=i+1) (by omega)
     by_cases hk:lk ah o i=true
     . refine zdz hk ⟨w,_,_,rfl,rfl,e5,ln,_,_,rfl,s05.upd hw,?_⟩;rw[zab,zs4,zmk];unfold vb1;rw[gp,if_pos hk];rfl
     . refine zdd hk ⟨_,rfl,o,y,rfl,DatV.mono s05 _ _ hv,okp o (List.mem_of_getElem? ho),λH6 s6=>⟨w,_,_,rfl,rfl,s6 _ _ e5,ln,_,_,rfl,(s05.trans s6).upd hw,?_⟩⟩;rw[zab,zs4,zmk];unfold vb1;rw[gp,if_neg hk]
   . rintro σ H2 ⟨v3,v4,rfl,s2,e2⟩;rw[lx] at e2;refine⟨rfl,_,rfl,_,w,_,rfl,rfl,SqL.of e2,zlx ?_,?_⟩
     . have:=z1i (ah:=ah) okp;have a1:pl.length * 600<=24 * 600:=qcs _ h24;show(vb ah pl).length<=16777216;omega
     . rw[zhp];exact q H2 s2
theorem zct:FnScope ["flows","before","mark","chain","views","written","function","row","places","ahead"] ["flows","before","mark"] (zah zgv):=by walk_at "s"
theorem zp2 (T:Txt K mg t):FnOk P w K mg base CX0 22 t.zmw t.zm4 ["flows","before","mark"] (zpl K t):=by
 have G_number_bits:=zf4 (P:=P) (w:=w) (base:=base) T;have G_views_ahead:=zif (P:=P) (w:=w) (base:=base) T;have G_view_bits:=zpe (P:=P) (w:=w) (base:=base) T;refine T.mark_bits.F.ok zct (λvs H Q E h=>?_) (λcdv A outer s H vs Q E hr h=>?_)
 . obtain⟨x,b0,v,fns,m0,m,rfl,hF,n12,h0,ok0,hv,okm,q⟩:=h;rfl
 . obtain⟨x,b0,v,fns,m0,m,rfl,hF,n12,h0,ok0,hv,okm,q⟩:=h;refine⟨_,(@zad _ _ _ _ _ (zie (pvC 2) (zfq rfl (za9 (zar (i:=3) zct.nd rfl (Or.inl rfl)) (za9 (zar (i:=4) zct.nd rfl (Or.inl rfl)) zdv)))) (@zad _ _ _ _ _ (@zas _ _ 5 _ _ _ _ zct.nd rfl (Or.inl rfl) (@zb9 _ _ _ _ (@zaa _ _ _ _ _ (za6 T.number_bits G_number_bits (hr.mono (by decide)) (@zaa _ _ _ _ _ (zam (show zbv _ (.builtin "len") (zh9 K) from zay) (by rfl) T.b_len zbk (@zaa _ _ _ _ _ (pvC 3) zac (by rfl))) zac (by rfl))) zac (by rfl))) (by rfl) (by walk_at "f")) (@zad _ _ _ _ _ (zdh PassesOwn.never rfl (ztf (pvC 3)) (zfq rfl (za9 (zar (i:=6) zct.nd rfl (Or.inl rfl)) (za9 (zar (i:=7) zct.nd rfl (Or.inl rfl)) zdv))) (@zag _ _ _ (@zco _ _ _ _ (zeh qax qa1 qa2 zbr (pvC 5) (@zaa _ _ _ _ _ (@zav _ _ _ _ _ _ _ _ zbf (za6 T.number_bits G_number_bits (hr.mono (by decide)) (@zaa _ _ _ _ _ (zhr (u1' hr.units) (zd7 (pvC 0) (by rfl)) (pvC 6) (λ_ _=>rfl)) zac (by rfl))) (za6 T.number_bits G_number_bits (hr.mono (by decide)) (@zaa _ _ _ _ _ (pvC 7) zac (by rfl)))) zac (by rfl))) (by rfl)))) (@zad _ _ _ _ _ (zdh PassesOwn.never rfl (zwd false false rfl T.b_zip (@zaa _ _ _ _ _ (pvC 4) (@zaa _ _ _ _ _ (za6 T.views_ahead G_views_ahead (hr.mono (by decide)) (@zaa _ _ _ _ _ (pvC 1) (@zaa _ _ _ _ _ (pvC 3) zac (by rfl)) (by rfl))) zac (by rfl)) (by rfl))) (zfq rfl (za9 (zar (i:=8) zct.nd rfl (Or.inl rfl)) (za9 (zar (i:=9) zct.nd rfl (Or.inl rfl)) zdv))) (@zag _ _ _ (@zco _ _ _ _ (zeh qax qa1 qa2 zbr (pvC 5) (@zaa _ _ _ _ _ (za6 T.view_bits G_view_bits (hr.mono (by decide)) (@zaa _ _ _ _ _ (pvC 8) (@zaa _ _ _ _ _ (pvC 9) zac (by rfl)) (by rfl))) zac (by rfl))) (by rfl)))) (@zag _ _ _ (@zat _ _ _ _ (zeh qb5 qca qcb zin za5 (@zaa _ _ _ _ _ (pvC 5) zac (by rfl))))))))),?_⟩;obtain⟨mA,cv,wv,rfl,hmA,hcv,hwv⟩:=dt2 hv;obtain⟨cA,cs,rfl,hcs,dcs⟩:=zkg hcv;obtain⟨wA,ws,rfl,hws,dws⟩:=zit hwv;have lcs:cs.length=m.ch.length:=by rw[zc0 dcs,List.length_map]
   have lws:ws.length=m.ch.length:=by rw[zc0 dws,List.length_map]; exact okm.vl
   have m3:=okm.l3;have nd:=hF.nd;refine⟨_,rfl,mA,_,rfl,hmA,rfl,_,_,rfl,_,_,rfl,rfl,?_⟩;refine⟨_,rfl,cA,_,rfl,.inr hcs,cs.length,rfl,(by rw[zle]; omega),λH1 s1=>⟨le1,λw hw=>?_⟩⟩;have hwH:H w=none:=s1.free hw;have x1:=s1.trans (Same.new (o:=.lst [V.str (tx (nb cs.length))]) hw);refine⟨_,rfl,cA,rfl,⟨_,x1.tup hcs⟩,(let Jv1:Nat->St->Hp->Prop:=λi σ H2=>∃v6 v7 v8 v9:Option V,σ=[some (.ref x),some b0,some (.ref mA),some (.ref cA),some (.ref wA),some (.ref w),v6,v7,v8,v9]/\Same H H2/\H2 w=some (.lst (stx (nb cs.length :: (m.ch.take i).map fB))); zxm (xs:=cs) Jv1 ⟨_,_,_,_,rfl,x1,zab⟩ ?_ ?_ ?_)⟩
   . rintro i σ H2 hi ⟨v6,v7,v8,v9,rfl,s2,_⟩;exact s2.tup hcs
   . rintro i y σ H2 hy ⟨v6,v7,v8,v9,rfl,s2,e2⟩;have ilt:i<cs.length:=(List.getElem?_eq_some_iff.mp hy).1;obtain⟨c,hc,dc⟩:=zid dcs hy;obtain⟨fA,y1,y2,rfl,hf,hy1,hy2⟩:=dt2 dc;cases zia hy1;cases zra hy2;have ic:=okm.ix c (List.mem_of_getElem? hc);obtain⟨f,hfi⟩:∃f,fns[c.1]?=some f:=⟨_,List.getElem?_eq_getElem ic.1⟩
     have hF2:=hF.mono s2;obtain⟨dx,fz,d,kv,nl,wl,o0,o1,o2,o3,o4,o5,o6,o7,o8⟩:=hF2.ob;have hg:=zr1.k (k:=(Sum.inr f.name:Key)) (o1.dc 0 (by decide));rw[o2,F2.kD_at _ hF2.nd hfi] at hg;refine⟨fA,_,rfl,s2.tup hf,rfl,_,_,rfl,_,_,rfl,rfl,?_⟩;rw[zgl hfi];refine⟨_,rfl,.inl ⟨rfl,_,SqL.of e2⟩,_,rfl,x,t.zaw,dx,_,_,rfl,o1.ob,T.zb8.cl,T.zbh,Fl.lk_number _ _,_,rfl,_,_,rfl,hg,c.1,rfl,(by rw[zle]; omega),λH3 s3=>⟨_,rfl,c.2,rfl,(by rw[zle]; omega),λH4 s4=>⟨_,_,rfl,rfl,?_,?_⟩⟩⟩
     . have h1:=zg2 (n:=c.1) (by omega);have h2:=zg2 (n:=c.2) (by omega);exact z24 _ _ (by omega)
     . have e4:=s4 _ _ (s3 _ _ e2);refine⟨w,_,_,rfl,rfl,e4,(by rw[zhx,List.length_cons,List.length_map,qbe]; exact zb0 (n:=min i m.ch.length+1+1) (by omega)),_,_,_,_,rfl,((s2.trans s3).trans s4).upd hwH,?_⟩;rw[zab,z7q,<- zlh,qbj,hc,List.map_append];rfl
   . rintro σ H2 ⟨v6,v7,v8,v9,rfl,s2,e2⟩;rw[lcs,qbb] at e2;refine⟨_,rfl,_,rfl,_,rfl,b0,.ref cA,fns,m0,m.ch,w,w,_,_,rfl,e2,e2,nd,(by rw[zru]; exact L2.DatV.mono (zc6 s2 hwH) _ _ h0),ok0,L2.DatV.mono s2 _ _ hcv,λc hc=>(okm.ix c hc).1,m3,λl xs H3 s3 hl e3 d3=>?_⟩;rw[zru] at d3;have lxs:xs.length=m.ch.length:=by rw[zc0 d3]; unfold zig; rw[List.length_map,qa9]
     have s03:=s2.trans s3;refine⟨wA,l,rfl,⟨_,s03.seq hws⟩,⟨_,SqL.of e3⟩,(let Jv2:Nat->St->Hp->Prop:=λi σ H4=>∃v6 v7 v8 v9:Option V,σ=[some (.ref x),some b0,some (.ref mA),some (.ref cA),some (.ref wA),some (.ref w),v6,v7,v8,v9]/\Same H H4/\H4 w=some (.lst (stx (nb m.ch.length :: (m.ch.map fB++(List.range i).map (wB m0 m)))))/\H4 l=some (.lst xs)/\DatAll K (ers w H4) (zig m0 m.ch m.ch.length) xs; zwz (b1:=false) (b2:=false) (xs:=ws) (ys:=xs) Jv2 ⟨_,_,_,_,rfl,s03,(by rw[List.range_zero,qep,qbf]; exact s3 _ _ e2),e3,d3⟩ ?_ ?_ ?_)⟩
     . rintro i σ H4 hi ⟨v6,v7,v8,v9,rfl,s4,_,e4,_⟩;exact⟨s4.seq hws,SqL.of e4⟩
     . rintro i y z σ H4 b hy hz ⟨v6,v7,v8,v9,rfl,s4,ew,el,d4⟩ hb;have ilt:i<ws.length:=(List.getElem?_eq_some_iff.mp hy).1;obtain⟨vw,hvw,dvw⟩:=zid dws hy;obtain⟨ah,hah,dah⟩:=zvo d4 hz;have eah:ah=plD (ahd m0 i (kAt m i)):=by unfold zig at hah;rw[List.getElem?_map,qdh (by omega)] at hah;exact(Option.some.inj hah).symm
       subst eah;have okv:=zwi okm i;rw[zvv hvw] at okv;have s5:=Same.new (o:=.tup [y,z]) hb;refine⟨b,_,rfl,SqT.of zab,rfl,_,_,rfl,_,_,rfl,rfl,?_⟩;have ew5:=s5 _ _ ew;have el5:=s5 _ _ el;have d5:=L2.DatAll.mono (Same.ers (l:=w) s5) _ _ d4;generalize upd H4 b (.tup [y,z])=H5 at s5 ew5 el5 d5 ⊢;have oka:=z03 ok0 i (kAt m i);refine⟨_,rfl,.inl ⟨rfl,_,SqL.of ew5⟩,_,rfl,_,rfl,y,z,vw,ahd m0 i (kAt m i),rfl,L2.DatV.mono (s4.trans s5) _ _ dvw,L2.DatV.mono (zaz.trans s5) _ _ dah,okv.2,oka.2,okv.1,λH6 s6=>?_⟩;have ew6:=s6 _ _ ew5;have nwl:l≠w:=λh=>by have:=s2.trans s3;have h1:=e2;rw[<- h,hl] at h1;cases h1
       refine⟨w,_,_,rfl,rfl,ew6,(by rw[zhx,List.length_cons,List.length_append,List.length_map,List.length_map,qa9]; exact zb0 (n:=m.ch.length+i+1+1) (by omega)),_,_,_,_,rfl,((s4.trans s5).trans s6).upd hwH,?_,?_,?_⟩
       . rw[zab,show vb (ahd m0 i (kAt m i)) vw=wB m0 m i by unfold wB; rw[zvv hvw],<- zlh,qby,List.map_append];simp only[List.cons_append,qbd];rfl
       . rw[zal nwl];exact s6 _ _ el5
       . rw[zdi];exact L2.DatAll.mono (Same.ers s6) _ _ d5
     . rintro σ H4 ⟨v6,v7,v8,v9,rfl,s4,ew,_⟩;rw[lws,lxs,Nat.min_self] at ew;refine⟨rfl,_,rfl,_,w,_,rfl,rfl,SqL.of ew,zlx ?_,?_⟩
       . rw[zpb];have:=z1k (m0:=m0) okm n12;omega
       . rw[zhp,zpb];exact q H4 s4
theorem zec:FnScope ["flows","marks","written","before","mark"] ["flows","marks"] (zah zfz):=by walk_at "s"
theorem zn2 (T:Txt K mg t):FnOk P w K mg base CX0 23 t.zk0 t.zk5 ["flows","marks"] (zol K t):=by
 have G_number_bits:=zf4 (P:=P) (w:=w) (base:=base) T;have G_mark_bits:=zp2 (P:=P) (w:=w) (base:=base) T;refine T.marks_bits.F.ok zec (λvs H Q E h=>?_) (λcdv A outer s H vs Q E hr h=>?_)
 . obtain⟨x,v,fns,ms,rfl,hF,n12,hv,h200,hok,q⟩:=h;rfl
 . obtain⟨x,v,fns,ms,rfl,hF,n12,hv,h200,hok,q⟩:=h;refine⟨_,(@zad _ _ _ _ _ (@zas _ _ 2 _ _ _ _ zec.nd rfl (Or.inl rfl) (@zb9 _ _ _ _ (@zaa _ _ _ _ _ (za6 T.number_bits G_number_bits (hr.mono (by decide)) (@zaa _ _ _ _ _ (zam (show zbv _ (.builtin "len") (zh9 K) from zay) (by rfl) T.b_len zbk (@zaa _ _ _ _ _ (pvC 1) zac (by rfl))) zac (by rfl))) zac (by rfl))) (by rfl) (by walk_at "f")) (@zad _ _ _ _ _ (@zas _ _ 3 _ _ _ _ zec.nd rfl (Or.inl rfl) (@zby _ _ _ _ _ (@zaa _ _ _ _ _ (@zby _ _ _ _ _ zac) (@zaa _ _ _ _ _ (@zb9 _ _ _ _ zac) zac (by rfl)) (by rfl))) (by rfl) (by walk_at "f")) (@zad _ _ _ _ _ (zdh PassesOwn.never rfl (zgc (pvC 1)) (zar (i:=4) zec.nd rfl (Or.inl rfl)) (@zad _ _ _ _ _ (@zco _ _ _ _ (zeh qax qa1 qa2 zbr (pvC 2) (@zaa _ _ _ _ _ (za6 T.mark_bits G_mark_bits (hr.mono (by decide)) (@zaa _ _ _ _ _ (pvC 0) (@zaa _ _ _ _ _ (pvC 3) (@zaa _ _ _ _ _ (pvC 4) zac (by rfl)) (by rfl)) (by rfl))) zac (by rfl))) (by rfl)) (@zag _ _ _ (@zas _ _ 3 _ _ _ _ zec.nd rfl (Or.inl rfl) (pvC 4) (by rfl) (by walk_at "f"))))) (@zag _ _ _ (@zat _ _ _ _ (zeh qb5 qca qcb zin za5 (@zaa _ _ _ _ _ (pvC 2) zac (by rfl)))))))),?_⟩;obtain⟨mA,us,rfl,hus,dus⟩:=zit hv;have lus:us.length=ms.length:=by rw[zc0 dus,List.length_map]
   refine⟨_,rfl,mA,_,rfl,.inl hus,us.length,rfl,(by rw[zle]; omega),λH1 s1=>⟨le1,λw hw=>?_⟩⟩;refine⟨le0,λt0 ht0=>⟨le0,λl0 hl0=>⟨le2,λp0 hp0=>?_⟩⟩⟩;have x1:=Same.new (o:=.lst [V.str (tx (nb us.length))]) hw;have x2:=Same.new (o:=.tup []) ht0;have x3:=Same.new (o:=.lst []) hl0;have x4:=Same.new (o:=.tup [.ref t0,.ref l0]) hp0;have ew:=x4 _ _ (x3 _ _ (x2 _ _ (zab (H:=H1) (a:=w) (o:=.lst [V.str (tx (nb us.length))]))));have n1:t0≠w:=(zaf zab ht0).symm;have n2:l0≠w:=(zaf (x2 _ _ zab) hl0).symm;have n3:p0≠w:=(zaf (x3 _ _ (x2 _ _ zab)) hp0).symm;have d0:DatV K (ers w (upd (upd (upd (upd H1 w (.lst [V.str (tx (nb us.length))])) t0 (.tup [])) l0 (.lst [])) p0 (.tup [.ref t0,.ref l0]))) (tmD (nmF fns) mk0) (.ref p0) :=
     zg7 (SqT.of (by rw[zao n3]; exact zab)) (zch (SqT.of (by rw[zao n1]; exact x4 _ _ (x3 _ _ zab))) zap) (zbc (SqL.of (by rw[zao n2]; exact x4 _ _ zab)) zap)
   have s0:=s1.trans (((x1.trans x2).trans x3).trans x4);have hwH:H w=none:=s1.free hw;generalize upd (upd (upd (upd H1 w (.lst [V.str (tx (nb us.length))])) t0 (.tup [])) l0 (.lst [])) p0 (.tup [.ref t0,.ref l0])=G0 at ew d0 s0 ⊢;refine⟨_,rfl,mA,rfl,⟨_,s0.seq hus⟩,(let Jv1:Nat->St->Hp->Prop:=λi σ H2=>∃(bv:V) (v4:Option V),σ=[some (.ref x),some (.ref mA),some (.ref w),some bv,v4]/\Same H H2/\H2 w=some (.lst (stx (nb us.length :: mbs ms i)))/\DatV K (ers w H2) (tmD (nmF fns) (prv ms i)) bv; ztr (xs:=us) Jv1 ⟨_,_,rfl,s0,ew,d0⟩ ?_ ?_ ?_)⟩
   . rintro i σ H2 hi ⟨bv,v4,rfl,s2,_⟩;exact s2.seq hus
   . rintro i y σ H2 hy ⟨bv,v4,rfl,s2,e2,d2⟩;have ilt:i<us.length:=(List.getElem?_eq_some_iff.mp hy).1;obtain⟨m,hm,dm⟩:=zid dus hy;have gm:ms.getD i mk0=m:=by rw[List.getD_eq_getElem?_getD,hm]; rfl
     have okp:MOk fns.length (prv ms i):=by
       cases i with
       | zero=>exact z06 _
       | succ i =>
         show MOk fns.length (ms.getD i mk0);refine hok _ ?_;rw[List.getD_eq_getElem?_getD,List.getElem?_eq_getElem (by omega)];exact qcd _
     refine⟨_,rfl,.inl ⟨rfl,_,SqL.of e2⟩,_,rfl,_,rfl,_,rfl,x,bv,y,fns,prv ms i,m,rfl,hF.mono s2,n12,L2.DatV.mono zaz _ _ d2,okp,L2.DatV.mono s2 _ _ dm,hok m (List.mem_of_getElem? hm),λH3 s3=>?_⟩;have e3:=s3 _ _ e2;refine⟨w,_,_,rfl,rfl,e3,(by rw[zhx,List.length_cons,zrc]; exact zb0 (n:=i+1+1) (by omega)),?_⟩;have s4:=(s2.trans s3).upd (o:=.lst (stx (nb us.length :: mbs ms i)++[V.str (tx (mb (prv ms i) m))])) hwH;refine⟨_,rfl,_,_,rfl,s4,?_,?_⟩
     . rw[zab,<- zlh,zzk,gm];rfl
     . show DatV K _ (tmD (nmF fns) (ms.getD i mk0)) y;rw[gm];exact L2.DatV.mono (zc6 s4 hwH) _ _ dm
   . rintro σ H2 ⟨bv,v4,rfl,s2,e2,d2⟩;rw[lus] at e2;refine⟨rfl,_,rfl,_,w,_,rfl,rfl,SqL.of e2,zlx ?_,?_⟩
     . rw[zp7];have:=zz6 hok n12 h200;omega
     . rw[zhp,zp7];exact q H2 s2
theorem zyj:FnScope ["program","table","flows"] ["program","table"] (zah ztl):=by walk_at "s"
theorem zv5 (T:Txt K mg t):FnOk P w K mg base CX0 24 t.z1s t.z1u ["program","table"] (z3d K):=by
 have G_Flows_init:=zjm (P:=P) (w:=w) (base:=base) T;have G_marks_bits:=zn2 (P:=P) (w:=w) (base:=base) T;refine T.pack.F.ok zyj (λvs H Q E h=>?_) (λcdv A outer s H vs Q E hr h=>?_)
 . obtain⟨p,v,fns,tb,rfl,hS,n0,n12,hE,nd,hv,t12,hok,q⟩:=h;rfl
 . obtain⟨p,v,fns,tb,rfl,hS,n0,n12,hE,nd,hv,t12,hok,q⟩:=h;refine⟨_,(@zad _ _ _ _ _ (@zas _ _ 2 _ _ _ _ zyj.nd rfl (Or.inr rfl) (z53 T.zb8 T.zkl G_Flows_init (hr.mono (by decide)) (@zaa _ _ _ _ _ (pvC 0) zac (by rfl))) (by rfl) (by walk_at "f")) (@zag _ _ _ (@zat _ _ _ _ (ze2 (N':=["name","marks","flows"]) (js:=[none,none,some 2]) (by kernel_rfl) rfl (zgc (pvC 1)) (zyb (zls (zls zwy))) (λ_ _ _ _=>(show PG _ _ (z6n K 2 _) from zfq (n:=2) rfl (za9 (zar (i:=0) (show(["name","marks","flows"]:List Str).Nodup by decide +kernel) rfl (Or.inl rfl) (.inr rfl)) (za9 (zar (i:=1) (show(["name","marks","flows"]:List Str).Nodup by decide +kernel) rfl (Or.inl rfl) (.inr rfl)) zdv)))) (λ_ _ _ _=>zcw) (λ_ _ _ _=>(za6 T.marks_bits G_marks_bits (hr.mono (by decide)) (@zaa _ _ _ _ _ (pvC 2) (@zaa _ _ _ _ _ (pvC 1) zac (by rfl)) (by rfl)))))))),?_⟩;obtain⟨tA,es,rfl,hes,des⟩:=zit hv;have les:es.length=tb.length:=by rw[zc0 des,List.length_map]
   refine⟨_,rfl,λx dx nx ndx nex=>?_⟩;have s0:Same H (upd (upd H dx (.own x)) x (.ins t.zaw dx [])):=λb o e=>by rw[zal (zaf e nx),zal (zaf e ndx)];exact e
   have s1':Same H (ers x (upd (upd H dx (.own x)) x (.ins t.zaw dx []))):=λb o e=>by rw[zdi,zao (zaf e nx),zal (zaf e ndx)];exact e
   refine⟨x,dx,p,fns,rfl,zab,s1'.seq hS,n0,n12,λf hf=>(hE f hf).mono s1',nd,λH1 s1 hF=>⟨rfl,?_⟩⟩;have s01:Same H H1:=λb o e=>s1 b o (by rw[zao (zaf e nx)]; exact s0 b o e);refine⟨_,rfl,tA,rfl,⟨_,s01.seq hes⟩,λu hu=>(let Jv1:Nat->List V->Hp->Prop:=λi acc H2=>Same H1 H2/\H2 u=some (.lst acc)/\acc=(tb.take i).map λe=>V.str (tx (zib e.2)); zey (xs:=es) (by omega) Jv1 ⟨Same.new hu,zab,rfl⟩ ?_ ?_ ?_)⟩
   . rintro i acc H2 hi ⟨s2,e2,rfl⟩;exact⟨e2,by rw[List.length_map,qbe]; omega,(s01.trans s2).seq hes⟩
   . rintro i y acc H2 hy ⟨s2,e2,rfl⟩;obtain⟨e,he,de⟩:=zid des hy;obtain⟨eA,y1,y2,rfl,heA,hy1,hy2⟩:=dt2 de;obtain⟨h200,hms⟩:=hok e (List.mem_of_getElem? he);have s02:=s01.trans s2;refine⟨eA,_,rfl,s02.tup heA,rfl,_,_,rfl,_,_,rfl,rfl,?_⟩;refine⟨_,rfl,_,rfl,x,y2,fns,e.2,rfl,hF.mono s2,n12,L2.DatV.mono s02 _ _ hy2,h200,hms,λH3 s3=>⟨s3 _ _ e2,(s2.trans s3).upd hu,zab,?_⟩⟩;rw[qbj,he,List.map_append];rfl
   . rintro acc H2 ⟨s2,e2,rfl⟩;rw[les,qbb] at e2;exact q u H2 (s01.trans s2) (s01.free hu) e2
theorem zki:FnScope ["self","flows","bits"] ["self","flows","bits"] (zah zdm):=by walk_at "s"
theorem zj5 (T:Txt K mg t):FnOk P w K mg base (CXe P w) 1 t.zha t.zhe ["self","flows","bits"] (zj4 K t):=by
 refine T.zii.F.okE zki (λvs H Q E h=>?_) (λcdv A outer s H vs Q E hr h=>?_)
 . obtain⟨x,dx,fl,fns,l,rfl,hx,hF,ok,hl,q1,q2⟩:=h;rfl
 . obtain⟨x,dx,fl,fns,l,rfl,hx,hF,ok,hl,q1,q2⟩:=h;refine⟨_,(@zad _ _ _ _ _ (@zbi _ _ _ _ _ _ _ _ (zel (zcy (zam (zn5 rfl) (by rfl) T.b_all zwf (@zaa _ _ _ _ _ (ze2 (N':=["sign"]) (js:=[none]) (by kernel_rfl) rfl (z6d (pvC 2)) zb6 (λ_ _ _ _=>(zar (i:=0) (show(["sign"]:List Str).Nodup by decide +kernel) rfl (Or.inl rfl) (.inr rfl))) (λ_ _ _ _=>zcw) (λ_ _ _ _=>(zf7 (show OpR _ (compareOp .In) (rIn K false) from zgk) (pvC 0) (@zby _ _ _ _ _ (@zaa _ _ _ _ _ za5 (@zaa _ _ _ _ _ za5 zac (by rfl)) (by rfl))) (by with_unfolding_all rfl)))) zac (by rfl))))) (@zag _ _ _ (zfh T.za2 T.i0_BadBits rfl zeg)) zau) (@zad _ _ _ _ _ (zhq (pvC 0) (pvC 1) (by rfl)) (@zad _ _ _ _ _ (zhq (pvC 0) (zb3 (zks rfl) (by rfl) T.b_list zf9 (@zaa _ _ _ _ _ (zd7 (pvC 1) (by rfl)) zac (by rfl))) (by rfl)) (@zad _ _ _ _ _ (zhq (pvC 0) (pvC 2) (by rfl)) (@zag _ _ _ (zhq (pvC 0) zae (by rfl))))))),?_⟩;have hs:(tx l).length<=1000000:=by rw[zcs]; exact hl
   refine⟨_,rfl,_,rfl,λpL hpL=>zza hs (λi acc H2=>Same H H2/\H2 pL=some (.lst acc)/\acc=((l.take i).map isB).map V.bl) ⟨Same.new hpL,zab,rfl⟩ ?_ ?_ ?_⟩
   . rintro i acc H2 hi ⟨s2,e2,rfl⟩;exact⟨e2,by rw[List.length_map,List.length_map,qbe]; omega⟩
   . rintro i c acc H2 hc ⟨s2,e2,rfl⟩;have hc:l[i]?=some c:=by have:l.toArray[i]?=some c:=hc;simpa using this
     refine⟨_,rfl,le2,λu hu=>⟨u,_,rfl,.inr (SqT.of zab),rfl,rfl,Same.new hu _ _ e2,(s2.trans (Same.new hu)).upd hpL,zab,?_⟩⟩;rw[qbj,hc,List.map_append,List.map_append];show _++[V.bl (inV (V.str { cps:=#[c] }) [V.str (Str.ofString "0"),V.str (Str.ofString "1")])]=_;rw[z4a];rfl
   rintro acc H2 ⟨s2,e2,rfl⟩;rw[zcs,qbb] at e2;refine⟨pL,l.map isB,rfl,SqL.of e2,_,rfl,?_⟩;by_cases hb:bts l
   case neg=>exact zdz (by rw[Bool.not_eq_true']; exact Bool.eq_false_iff.mpr λz=>hb (zwp.mp z)) (q2 hb H2 (zaz.trans s2))
   refine zdd (by rw[zwp.mpr hb]; decide) ?_;have hx2:=s2 _ _ hx;have hF2:=hF.mono (Same.ers s2);refine⟨_,rfl,_,rfl,x,_,_,_,rfl,hx2,T.zai.cl,T.zbt,(by decide),?_⟩;have hF3:=hF2;rw[<- zdi (o:=.ins t.zaj dx (ziw (Str.ofString "flows") (.ref fl) []))] at hF3;have hx3:upd H2 x (.ins t.zaj dx (ziw (Str.ofString "flows") (.ref fl) [])) x=some (.ins t.zaj dx (ziw (Str.ofString "flows") (.ref fl) [])):=zab;have s3:Same (ers x H) (upd H2 x (.ins t.zaj dx (ziw (Str.ofString "flows") (.ref fl) []))):=(Same.ers s2).trans zme;generalize upd H2 x (.ins t.zaj dx (ziw (Str.ofString "flows") (.ref fl) []))=H3 at hF3 hx3 s3 ⊢;have hF3':=hF3.mono zaz;obtain⟨dxf,fz,d,kv,nl,wl,o0,o1,o2,o3,o4,o5,o6,o7,o8⟩:=hF3'.ob;refine⟨_,rfl,fl,_,_,_,_,rfl,o1.ob,T.zb8.cl,T.zbh,Fl.lk_number _ _,_,_,rfl,o1.dc 0 (by decide),λcl hcl=>?_⟩;rw[o2,z11];have s4:=Same.new (o:=.lst (fns.map λf=>V.str f.name)) hcl;have hx4:=s4 _ _ hx3;have nxc:=zaf hx3 hcl;have hF4:=hF3.mono (Same.ers s4);have s34:=s3.trans s4;have c4:upd H3 cl (.lst (fns.map λf=>V.str f.name)) cl=some (.lst (fns.map λf=>V.str f.name)):=zab;generalize upd H3 cl (.lst (fns.map λf=>V.str f.name))=H4 at hx4 hF4 s34 c4 ⊢;refine⟨_,rfl,x,_,_,_,rfl,hx4,T.zai.cl,T.zbm,(by show 1<1000; decide),_,rfl,_,rfl,x,_,_,_,rfl,zab,T.zai.cl,T.zb1,(by show 2<1000; decide),_,rfl,x,_,_,_,rfl,zab,T.zai.cl,T.zbu,(by show 3<1000; decide),?_⟩;have eh:∀o1 o2 o3:HO,upd (upd (upd H4 x o1) x o2) x o3=upd H4 x o3:=λo1 o2 o3=>by
     funext b;by_cases hb:b=x
     . subst hb; rw[zab,zab]
     . rw[zal hb,zal hb,zal hb,zal hb]
   rw[eh];refine q1 hb cl _ ((Dc.Same.ers2 s34).trans zme) ⟨⟨l,0,zab,qaz _,rfl,hl⟩,?_,?_,hb,ok⟩
   . show F2.FlowsAt _ _ (ers x _) _ _;rw[zdi];exact hF4
   . show SqL _ (ers x _) _ _;rw[zdi];exact SqL.of (by rw[zao nxc.symm]; exact c4)
theorem zgi:FnScope ["self","count","found"] ["self","count"] (zah zdp):=by walk_at "s"
theorem zer (T:Txt K mg t):FnOk P w K mg base (CXe P w) 1 t.zhc t.zhg ["self","count"] (zj3 K t):=by
 refine T.zba.F.okE zgi (λvs H Q E h=>?_) (λcdv A outer s H vs Q E hr h=>?_)
 . obtain⟨R,fns,r,c,rfl,hc,h,q1,q2⟩:=h;rfl
 . obtain⟨R,fns,r,c,rfl,hc,h,q1,q2⟩:=h;refine⟨_,(@zad _ _ _ _ _ (@zas _ _ 2 _ _ _ _ zgi.nd rfl (Or.inl rfl) (@zd9 _ _ _ _ _ _ _ _ _ _ ziz (zd7 (pvC 0) (by rfl)) (zef (zd7 (pvC 0) (by rfl))) (zef (@zav _ _ _ _ _ _ _ _ (zc2 zbp) (zd7 (pvC 0) (by rfl)) (pvC 1)))) (by rfl) (by walk_at "f")) (@zad _ _ _ _ _ (@zbi _ _ _ _ _ _ _ _ (@zan _ _ _ _ _ _ _ _ (zc2 zjg) (zam zeu (by rfl) T.b_len zbk (@zaa _ _ _ _ _ (pvC 2) zac (by rfl))) (pvC 1) (zax _)) (@zag _ _ _ (zfh T.za2 T.i0_BadBits rfl zeg)) zau) (@zad _ _ _ _ _ (zwg (pvC 0) (pvC 1) z1a) (@zag _ _ _ (@zat _ _ _ _ (pvC 2)))))),?_⟩;obtain⟨l,p,ho,hp,rfl,hL⟩:=h.ob;have hs:∀m:List Nat,m.length<=1000000->(tx m).length<=sizeLine:=λm hm=>by rw[zcs];exact qa7 hm (by decide)
   refine⟨_,rfl,R.x,_,_,_,_,rfl,ho,T.zai.cl,T.zb1,rfl,_,rfl,R.x,_,_,_,_,rfl,ho,T.zai.cl,T.zbu,rfl,_,rfl,_,rfl,R.x,_,_,_,_,rfl,ho,T.zai.cl,T.zbu,rfl,_,rfl,_,_,rfl,rfl,_,rfl,_,rfl,hs l hL,?_⟩;rw[zy6];refine⟨_,rfl,_,rfl,hs _ (by rw[qbe,qc2]; omega),_,rfl,_,_,rfl,rfl,_,rfl,?_⟩;have el:(tx ((l.drop p).take c)).length=min c (l.drop p).length:=by rw[zcs,qbe]
   by_cases hc':c<=(l.drop p).length
   . refine iN ?_ (by simp only[el,decide_eq_true_eq]; omega);exact⟨_,rfl,R.x,_,_,_,_,rfl,ho,T.zai.cl,T.zbu,rfl,_,rfl,_,_,rfl,rfl,_,_,ho,(by show 4<1000; decide),_,rfl,q1 _ _ (if_pos hc') _ _ zme (h.mv hp hL hc') rfl⟩
   . exact iP (q2 (if_neg hc') H zaz) (by simp only[el,decide_eq_true_eq]; omega)
theorem zbl:FnScope ["self","found","k","group"] ["self"] (zah zcf):=by walk_at "s"
theorem zd4 (T:Txt K mg t):FnOk P w K mg base (CXe P w) 2 t.zeo t.zep ["self"] (zgz K t):=by
 have G_BitReader_take:=zer (P:=P) (w:=w) (base:=base) T;refine T.zb5.F.okE zbl (λvs H Q E h=>?_) (λcdv A outer s H vs Q E hr h=>?_)
 . obtain⟨R,fns,r,rfl,h,q1,q2⟩:=h;rfl
 . obtain⟨R,fns,r,rfl,h,q1,q2⟩:=h;refine⟨_,(@zad _ _ _ _ _ (@zas _ _ 1 _ _ _ _ zbl.nd rfl (Or.inl rfl) zae (by rfl) (by walk_at "f")) (@zad _ _ _ _ _ (zdh zod rfl (zb4 rfl T.b_range (@zaa _ _ _ _ _ (zil T.zoz) zac (by rfl))) (zar (i:=2) zbl.nd rfl (Or.inl rfl)) (@zad _ _ _ _ _ (@zas _ _ 3 _ _ _ _ zbl.nd rfl (Or.inl rfl) (zdc (pvC 0) T.zai.cl T.zba.m G_BitReader_take (hr.mono (by decide)) T.zba.b .nil zem (@zaa _ _ _ _ _ zae zac (by rfl))) (by rfl) (by walk_at "f")) (@zad _ _ _ _ _ (z4j (i:=1) zbl.nd rfl (Or.inl rfl) (@zav _ _ _ _ _ _ _ _ z3t (zb3 zpu (by rfl) T.b_int zo8 (@zaa _ _ _ _ _ (@zd9 _ _ _ _ _ _ _ _ _ _ ziz (pvC 3) (zef zae) zho) (@zaa _ _ _ _ _ zae zac (by rfl)) (by rfl))) (@zav _ _ _ _ _ _ _ _ (zhu zg5) zae (pvC 2))) z1a) (@zag _ _ _ (@zbi _ _ _ _ _ _ _ _ (@zan _ _ _ _ _ _ _ _ zdw (@zaq _ _ _ _ _ _ _ zo6 (pvC 3) zae (λ_ _=>rfl)) za5 (zax _)) (@zad _ _ _ _ _ (@zbi _ _ _ _ _ _ _ _ (@PW.pt _ _ _ (@zjf _ _ _ _ _ _ _ (@zan _ _ _ _ _ _ _ _ zdw (pvC 3) za5 (zax _)) (@zg0 _ _ _ _ (@zan _ _ _ _ _ _ _ _ (zc2 zuf) (pvC 2) zae (zax _))))) (@zag _ _ _ (zfh T.za2 T.i0_BadBits rfl zeg)) zau) (@zag _ _ _ (@zat _ _ _ _ (pvC 1)))) zau))))) (@zag _ _ _ (zfh T.za2 T.i0_BadBits rfl zeg)))),?_⟩;refine⟨16,rfl,by decide,by decide,?_⟩;refine(let Jv1:Nat->St->Hp->Prop:=λi σ H2=>∃(acc:Nat) (v2 v3:Option V) (r2:List Nat),σ=[some (.ref R.x),some (.int acc),v2,v3]/\Same (ers R.x H) H2/\RdAt K t.zaj t.zaw H2 R fns r2/\zl5 16 0 0 r=zl5 (16 - i) i acc r2; zex (lo:=0) (n:=16) Jv1 ⟨0,_,_,r,rfl,zaz,h,rfl⟩ ?_ ?_)
   . rintro i σ H2 hi ⟨acc,v2,v3,r2,rfl,s2,h2,e2⟩;obtain⟨l,p,ho,-⟩:=h2.ob;refine⟨_,rfl,R.x,_,_,rfl,ho,rfl,R,fns,r2,4,rfl,by decide,h2,λa r3 ha v H3 s3 h3 hv=>?_,λhn H3 s3=>q2 (by rw[e2]; exact zva (zkf hn)) H3 (sE s2 s3)⟩;subst hv;obtain⟨h4,rfl,rfl⟩:=zjw ha;obtain⟨b0,b1,b2,b3,r4,rfl⟩:=z4z h4;have hb:∀x∈[b0,b1,b2,b3],x=48\/x=49:=λx hx=>h2.bt x (by simp at hx ⊢; omega);have ei:16 - i=(16 - (i+1))+1:=by omega
     rw[ei] at e2;have e2:zl5 16 0 0 r=if b0=48 then(if(b1=48/\b2=48/\b3=48)/\0<i then none else some (acc+bv [b1,b2,b3] * 8 ^ i,r4)) else zl5 (16 - (i+1)) (i+1) (acc+bv [b1,b2,b3] * 8 ^ i) r4:=e2;have s3:=sE s2 s3;refine⟨_,rfl,_,rfl,_,rfl,_,rfl,(by show 4<=_; decide),_,(bv [b1,b2,b3]:Int),rfl,(by show(Txt.slice (tx (b0 :: [b1,b2,b3])) (some 1) none,_)∈_;rw[zun];exact z6v _ (zr3 (hb b1 (by simp))) _ (zr3 (hb b2 (by simp))) _ (zr3 (hb b3 (by simp)))),_,rfl,_,_,rfl,rfl,.inl ⟨by decide,by decide⟩,_,_,rfl,rfl,⟨by omega,by omega,?_⟩,_,_,rfl,rfl,?_⟩
     . have:=(bv3 (hb b1 (by simp)) (hb b2 (by simp)) (hb b3 (by simp))).1;omega
     dsimp only;rw[zzt];refine⟨_,rfl,_,0,b0,rfl,rfl,(by show 4<=_; decide),rfl,rfl,_,rfl,?_⟩;have c0:decide (V.str { cps:=#[b0] }=V.str (Str.ofString "0"))=decide (b0=48):=by have:=zjy (a:=[b0]) (b:=[48]);rw[show decide ([b0]=[48])=decide (b0=48) by simp] at this;exact this
     rw[c0];rcases hb b0 (by simp) with rfl|rfl
     . rw[if_pos rfl] at e2;refine iP ⟨_,rfl,rfl,_,rfl,?_⟩;have c4:decide (V.str (tx [48,b1,b2,b3])=V.str (Str.ofString "0000"))=decide (b1=48/\b2=48/\b3=48):=by have:=zjy (a:=[48,b1,b2,b3]) (b:=[48,48,48,48]);rw[show decide ([48,b1,b2,b3]=[48,48,48,48])=decide (b1=48/\b2=48/\b3=48) by simp] at this;exact this
       have fin:¬ ((b1=48/\b2=48/\b3=48)/\0<i)->Q (.int ((acc+bv [b1,b2,b3] * 8 ^ i:Nat):Int)) H3:=λhn=>q1 _ r4 (by rw[e2,if_neg hn]) _ H3 s3 h3 rfl;show if decide (V.str (tx [48,b1,b2,b3])=V.str (Str.ofString "0000"))=true then _ else _;rw[c4];by_cases hz:b1=48/\b2=48/\b3=48
       . refine zdz (by rw[decide_eq_true_eq]; exact hz) ⟨_,rfl,_,_,rfl,rfl,_,rfl,?_⟩;by_cases h0:0<i
         . exact zdz (by walk_at "o") (q2 (by rw[e2,if_pos ⟨hz,h0⟩]) H3 s3)
         . exact zdd (by walk_at "o") ⟨_,rfl,fin λz=>h0 z.2⟩
       . exact zdd (by rw[decide_eq_true_eq]; exact hz) (iN ⟨_,rfl,fin λz=>hz z.1⟩)
     . rw[if_neg (by decide)] at e2;exact iN ⟨_,_,_,r4,rfl,s3,h3,e2⟩
   . rintro σ H2 ⟨acc,v2,v3,r2,rfl,s2,h2,e2⟩;exact q2 (by rw[e2]; rfl) H2 s2
theorem zfi:FnScope ["self","least","most","found"] ["self","least","most"] (zah zc5):=by walk_at "s"
theorem zcu (T:Txt K mg t):FnOk P w K mg base (CXe P w) 3 t.zf1 t.zf2 ["self","least","most"] (zir K t):=by
 have G_BitReader_any_number:=zd4 (P:=P) (w:=w) (base:=base) T;refine T.za8.F.okE zfi (λvs H Q E h=>?_) (λcdv A outer s H vs Q E hr h=>?_)
 . obtain⟨R,fns,r,lo,hi,rfl,h,q1,q2⟩:=h;rfl
 . obtain⟨R,fns,r,lo,hi,rfl,h,q1,q2⟩:=h;refine⟨_,(@zad _ _ _ _ _ (@zas _ _ 3 _ _ _ _ zfi.nd rfl (Or.inl rfl) (zlg (pvC 0) T.zai.cl T.zb5.m G_BitReader_any_number (hr.mono (by decide)) T.zb5.b .nil zem) (by rfl) (by walk_at "f")) (@zad _ _ _ _ _ (@zbi _ _ _ _ _ _ _ _ (@PW.pt _ _ _ (zhj (@zan _ _ _ _ _ _ _ _ (zc2 zjg) (pvC 3) (pvC 1) (zax _)) (zg8 (@zan _ _ _ _ _ _ _ _ (zc2 zuf) (pvC 3) (pvC 2) (zax _))))) (@zag _ _ _ (zfh T.za2 T.i0_BadBits rfl zeg)) zau) (@zag _ _ _ (@zat _ _ _ _ (pvC 3))))),?_⟩;obtain⟨l,p,ho,-⟩:=h.ob;refine⟨_,rfl,R.x,_,_,rfl,ho,rfl,R,fns,r,rfl,h,λn r2 hn v H2 s2 h2 hv=>?_,λhn H2 s2=>q2 (by unfold zjv; rw[hn]; rfl) H2 s2⟩;subst hv;have e:zjv lo hi r=if lo<=n/\n<=hi then some (n,r2) else none:=by unfold zjv; rw[hn]; rfl
   refine⟨_,rfl,_,rfl,_,_,rfl,rfl,_,rfl,?_⟩;by_cases h1:n<lo
   . exact zdz (by walk_at "o") (iP (q2 (by rw[e,if_neg (by omega)]) H2 s2))
   . refine zdd (by walk_at "o") ⟨_,rfl,_,rfl,_,_,rfl,rfl,_,rfl,?_⟩;by_cases h3:hi<n
     . exact zdz (by walk_at "o") (q2 (by rw[e,if_neg (by omega)]) H2 s2)
     . exact zdd (by walk_at "o") ⟨_,rfl,q1 n r2 (by rw[e,if_pos (by omega)]) _ H2 s2 h2 rfl⟩
theorem zfx:FnScope ["self","function"] ["self"] (zah zde):=by walk_at "s"
theorem zjd (T:Txt K mg t):FnOk P w K mg base (CXe P w) 4 t.zgo t.zgp ["self"] (zjk K t):=by
 have G_BitReader_number:=zcu (P:=P) (w:=w) (base:=base) T;refine T.zfl.F.okE zfx (λvs H Q E h=>?_) (λcdv A outer s H vs Q E hr h=>?_)
 . obtain⟨R,fns,r,rfl,h,q1,q2⟩:=h;rfl
 . obtain⟨R,fns,r,rfl,h,q1,q2⟩:=h;refine⟨_,(@zad _ _ _ _ _ (@zas _ _ 1 _ _ _ _ zfx.nd rfl (Or.inl rfl) (@zaq _ _ _ _ _ _ _ (show IxR _ (zim K) from zbb) (zd7 (pvC 0) (by rfl)) (zdc (pvC 0) T.zai.cl T.za8.m G_BitReader_number (hr.mono (by decide)) T.za8.b .nil zem (@zaa _ _ _ _ _ zae (@zaa _ _ _ _ _ (@zav _ _ _ _ _ _ _ _ (zc2 zje) (zam (show zbv _ (.builtin "len") (zh9 K) from zay) (by rfl) T.b_len zbk (@zaa _ _ _ _ _ (zd7 (pvC 0) (by rfl)) zac (by rfl))) zae) zac (by rfl)) (by rfl))) (λ_ _=>rfl)) (by rfl) (by walk_at "f")) (@zag _ _ _ (@zat _ _ _ _ (@zby _ _ _ _ _ (@zaa _ _ _ _ _ (pvC 1) (@zaa _ _ _ _ _ (zdc (pvC 0) T.zai.cl T.za8.m G_BitReader_number (hr.mono (by decide)) T.za8.b .nil zem (@zaa _ _ _ _ _ zae (@zaa _ _ _ _ _ (@zav _ _ _ _ _ _ _ _ (zc2 zje) (zam (show zbv _ (.builtin "len") (zh9 K) from zay) (by rfl) T.b_len zbk (@zaa _ _ _ _ _ (zhr (u1' hr.units) (zd7 (zd7 (pvC 0) (by rfl)) (by rfl)) (pvC 1) (λ_ _=>rfl)) zac (by rfl))) zae) zac (by rfl)) (by rfl))) zac (by rfl)) (by rfl)))))),?_⟩;obtain⟨l,p,ho,-⟩:=h.ob;have hls:=Same.seq zaz h.ls;have n1:1<=fns.length:=by have:=h.ok.n1; unfold rlF at this; rw[List.length_map] at this; exact this
   have e1:(((fns.map λf=>V.str f.name).length:Nat):Int) - 1=((fns.length - 1:Nat):Int):=by rw[List.length_map]; omega
   refine⟨_,rfl,R.x,_,_,_,_,rfl,ho,T.zai.cl,T.zbm,rfl,_,rfl,R.x,_,_,rfl,ho,rfl,_,rfl,R.x,_,_,_,_,rfl,ho,T.zai.cl,T.zbm,rfl,R.cl,_,rfl,.inl hls,_,_,rfl,rfl,R,fns,r,0,fns.length - 1,(by rw[e1]; rfl),h,λk r2 hk v H2 s2 h2 hv=>?_,λhn H2 s2=>q2 (by unfold dFr rlF; rw[List.length_map,hn]; rfl) H2 s2⟩;subst hv;have hkb:=(zkv h.bt hk).2.2.1;obtain⟨f,hfi⟩:∃f,fns[k]?=some f:=⟨_,List.getElem?_eq_getElem (by omega)⟩
   obtain⟨l2,p2,ho2,-⟩:=h2.ob;have hF2:=h2.fl.mono zaz;obtain⟨dx,fz,d,kv,nl,wl,o0,o1,o2,o3,o4,o5,o6,o7,o8⟩:=hF2.ob;have hg:=zr1.k (k:=(Sum.inr f.name:Key)) (o1.dc 3 (by decide));rw[o5,F2.kD_at _ hF2.nd hfi] at hg;have hfn:=hF2.all f (List.mem_of_getElem? hfi);have hrl:(rlF fns).getD k 0=f.rs.length:=by unfold rlF; rw[List.getD_eq_getElem?_getD,List.getElem?_map,hfi]; rfl
   have hp1:=(h.ok.at (k:=k) (by unfold rlF; rw[List.length_map]; omega)).1;rw[hrl] at hp1;have e2:(((f.rs.map λw=>V.ref w.r).length:Nat):Int) - 1=((f.rs.length - 1:Nat):Int):=by rw[List.length_map]; omega
   have eo:dFr (rlF fns) r=(zjv 0 (f.rs.length - 1) r2).map λy=>((k,y.1),y.2):=by unfold dFr;rw[show(rlF fns).length=fns.length by unfold rlF; rw[List.length_map],hk];show(zjv 0 ((rlF fns).getD k 0 - 1) r2).map _=_;rw[hrl]
   refine⟨R.cl,_,_,_,rfl,rfl,Same.seq zaz h2.ls,zcg (j:=k) (by rw[List.getElem?_map,hfi]; rfl),?_⟩;refine⟨_,rfl,_,rfl,R.x,_,_,rfl,ho2,rfl,_,rfl,R.x,_,_,_,_,rfl,ho2,T.zai.cl,T.zbt,rfl,R.fl,_,_,_,_,rfl,o1.ob,T.zb8.cl,T.zce,Fl.lk_rows _ _,_,rfl,_,_,rfl,hg,f.ra,_,rfl,.inr hfn.rw_,_,_,rfl,rfl,R,fns,r2,0,f.rs.length - 1,(by rw[e2]; rfl),h2,λj r3 hj v H3 s3 h3 hv=>?_,λhn H3 s3=>q2 (by rw[eo,hn]; rfl) H3 (sE s2 s3)⟩;subst hv;obtain⟨l3,p3,ho3,-⟩:=h3.ob;refine⟨le2,λu hu=>?_⟩;have s4:=Same.new (o:=.tup [V.str f.name,V.int j]) hu;have nx:=zaf ho3 hu;refine q1 (k,j) r3 (by rw[eo,hj]; rfl) _ _ ((sE s2 s3).trans s4) (h3.grow s4) ?_;have q:SqT K (ers R.x (upd H3 u (.tup [V.str f.name,V.int j]))) u [V.str f.name,V.int j]:=SqT.of (by rw[zao nx.symm]; exact zab);exact zg7 q (by rw[zgl hfi]; exact zdo _) (zfr _)
theorem zbo:FnScope ["self","most","sign","left","right"] ["self","most"] (zah zcj):=by walk_at "s"
theorem zen (T:Txt K mg t):∀n,FnOk P w K mg base (CXe P w) (n+13) t.zck t.zcl ["self","most"] (zc3 K t n)
| 0=>T.zbd.F.okE zbo (λvs H Q E h=>by obtain⟨R,fns,r,f,most,rfl,hd,hm,h8,h,q1,q2⟩:=h; exact absurd hd (qbq _)) (λcdv A outer s H vs Q E hr h=>by obtain⟨R,fns,r,f,most,rfl,hd,hm,h8,h,q1,q2⟩:=h; exact absurd hd (qbq _))
| n+1=>by
 have G_leaves:FnOk P w K mg base CX0 12 t.zlu t.zlw ["one"] (zl0 K 10):=zpc T 10;have G_BitReader_reckoning:FnOk P w K mg base (CXe P w) (n+13) t.zck t.zcl ["self","most"] (zc3 K t n):=zen T n;have G_BitReader_take:=zer (P:=P) (w:=w) (base:=base) T;have G_BitReader_number:=zcu (P:=P) (w:=w) (base:=base) T;have G_BitReader_any_number:=zd4 (P:=P) (w:=w) (base:=base) T;refine T.zbd.F.okE zbo (λvs H Q E h=>?_) (λcdv A outer s H vs Q E hr h=>?_)
 . obtain⟨R,fns,r,f,most,rfl,hd,hm,h8,h,q1,q2⟩:=h;rfl
 . obtain⟨R,fns,r,f,most,rfl,hd,hm,h8,h,q1,q2⟩:=h;refine⟨_,(@zad _ _ _ _ _ (@zbi _ _ _ _ _ _ _ _ (@zan _ _ _ _ _ _ _ _ (zc2 zjg) (pvC 1) zae (zax _)) (@zag _ _ _ (zfh T.za2 T.i0_BadBits rfl zeg)) zau) (@zad _ _ _ _ _ (@zbi _ _ _ _ _ _ _ _ (@zan _ _ _ _ _ _ _ _ zdw (zdc (pvC 0) T.zai.cl T.zba.m G_BitReader_take (hr.mono (by omega)) T.zba.b .nil zem (@zaa _ _ _ _ _ zae zac (by rfl))) za5 (zax _)) (@zag _ _ _ (@zat _ _ _ _ (@zby _ _ _ _ _ (@zaa _ _ _ _ _ za5 (@zaa _ _ _ _ _ (zdc (pvC 0) T.zai.cl T.za8.m G_BitReader_number (hr.mono (by omega)) T.za8.b .nil zem (@zaa _ _ _ _ _ zae (@zaa _ _ _ _ _ (zil T.zvh) zac (by rfl)) (by rfl))) zac (by rfl)) (by rfl))))) zau) (@zad _ _ _ _ _ (@zbi _ _ _ _ _ _ _ _ (@zan _ _ _ _ _ _ _ _ zdw (zdc (pvC 0) T.zai.cl T.zba.m G_BitReader_take (hr.mono (by omega)) T.zba.b .nil zem (@zaa _ _ _ _ _ zae zac (by rfl))) za5 (zax _)) (@zag _ _ _ (@zat _ _ _ _ (@zby _ _ _ _ _ (@zaa _ _ _ _ _ za5 (@zaa _ _ _ _ _ (zlg (pvC 0) T.zai.cl T.zb5.m G_BitReader_any_number (hr.mono (by omega)) T.zb5.b .nil zem) zac (by rfl)) (by rfl))))) zau) (@zad _ _ _ _ _ (@zas _ _ 2 _ _ _ _ zbo.nd rfl (Or.inl rfl) (zb3 zpu (by rfl) T.b_int zo8 (@zaa _ _ _ _ _ (zdc (pvC 0) T.zai.cl T.zba.m G_BitReader_take (hr.mono (by omega)) T.zba.b .nil zem (@zaa _ _ _ _ _ (zil T.zm0) zac (by rfl))) (@zaa _ _ _ _ _ zae zac (by rfl)) (by rfl))) (by rfl) (by walk_at "f")) (@zad _ _ _ _ _ (@zbi _ _ _ _ _ _ _ _ (@zan _ _ _ _ _ _ _ _ (zc2 z5m) (pvC 2) (zam (show zbv _ (.builtin "len") (zh9 K) from zay) (by rfl) T.b_len zbk (@zaa _ _ _ _ _ (zgn T.zsn) zac (by rfl))) (zax _)) (@zag _ _ _ (zfh T.za2 T.i0_BadBits rfl zeg)) zau) (@zad _ _ _ _ _ (@zas _ _ 3 _ _ _ _ zbo.nd rfl (Or.inl rfl) (zdc (pvC 0) T.zai.cl T.zbd.m G_BitReader_reckoning (hr.mono (by omega)) T.zbd.b .nil zem (@zaa _ _ _ _ _ (@zav _ _ _ _ _ _ _ _ (zc2 zje) (pvC 1) zae) zac (by rfl))) (by rfl) (by walk_at "f")) (@zad _ _ _ _ _ (@zas _ _ 4 _ _ _ _ zbo.nd rfl (Or.inl rfl) (zdc (pvC 0) T.zai.cl T.zbd.m G_BitReader_reckoning (hr.mono (by omega)) T.zbd.b .nil zem (@zaa _ _ _ _ _ (@zav _ _ _ _ _ _ _ _ (zc2 zje) (pvC 1) (za6 T.leaves G_leaves (hr.mono (by omega)) (@zaa _ _ _ _ _ (pvC 3) zac (by rfl)))) zac (by rfl))) (by rfl) (by walk_at "f")) (@zag _ _ _ (@zat _ _ _ _ (@zby _ _ _ _ _ (@zaa _ _ _ _ _ (@zaq _ _ _ _ _ _ _ (show IxR _ (zcz K) from zak) (zgn T.zsn) (pvC 2) (λ_ _=>rfl)) (@zaa _ _ _ _ _ (pvC 3) (@zaa _ _ _ _ _ (pvC 4) zac (by rfl)) (by rfl)) (by rfl)))))))))))),?_⟩;refine⟨_,rfl,_,_,rfl,rfl,_,rfl,?_⟩;by_cases h1:most<1
   . exact zdz (by walk_at "o") (q2 (z5d h1) H zaz)
   obtain⟨f,rfl⟩:∃g,f=g+1:=⟨f - 1,by omega⟩
   obtain⟨l,p,ho,-⟩:=h.ob;refine zdd (by walk_at "o") ⟨_,rfl,R.x,_,_,rfl,ho,rfl,R,fns,r,1,rfl,by decide,h,λa r2 ha v H2 s2 h2 hv=>?_,λhn H2 s2=>q2 (by rw[zoc hn]; exact rec0) H2 s2⟩;subst hv;obtain⟨b0,rfl,rfl⟩:=zsv ha;obtain⟨l2,p2,ho2,-⟩:=h2.ob;refine⟨rfl,_,rfl,?_⟩;rw[tx0];rcases h.bt b0 (by simp) with rfl|rfl
   . refine iP ⟨_,rfl,R.x,_,_,rfl,ho2,rfl,R,fns,r2,0,127,rfl,h2,λk r3 hk v H3 s3 h3 hv=>?_,λhn H3 s3=>q2 (by rw[z5n h1,hn]; rfl) H3 (sE s2 s3)⟩;subst hv;exact⟨le2,λu hu=>q1 (.box k) r3 (by rw[z5n h1,hk]; rfl) _ _ ((sE s2 s3).trans (Same.new hu)) (h3.grow (Same.new hu)) (zg7 (h3.newT hu) (zdo _) (zfr _))⟩
   refine iN ⟨_,rfl,R.x,_,_,rfl,ho2,rfl,R,fns,r2,1,rfl,by decide,h2,λa r3 ha v H3 s3 h3 hv=>?_,λhn H3 s3=>q2 (by rw[zoc hn]; exact z7g) H3 (sE s2 s3)⟩;subst hv;obtain⟨b1,rfl,rfl⟩:=zsv ha;obtain⟨l3,p3,ho3,-⟩:=h3.ob;have s3:=sE s2 s3;refine⟨rfl,_,rfl,?_⟩;rw[tx0];rcases h2.bt b1 (by simp) with rfl|rfl
   . refine iP ⟨_,rfl,R.x,_,_,rfl,ho3,rfl,R,fns,r3,rfl,h3,λk r4 hk v H4 s4 h4 hv=>?_,λhn H4 s4=>q2 (by rw[z0o h1,hn]; rfl) H4 (sE s3 s4)⟩;subst hv;exact⟨le2,λu hu=>q1 (.num k) r4 (by rw[z0o h1,hk]; rfl) _ _ ((sE s3 s4).trans (Same.new hu)) (h4.grow (Same.new hu)) (zg7 (h4.newT hu) (zdo _) (zfr _))⟩
   refine iN ⟨_,rfl,R.x,_,_,rfl,ho3,rfl,R,fns,r3,4,rfl,by decide,h3,λa r4 ha v H4 s4 h4 hv=>?_,λhn H4 s4=>q2 (z2f (zkf hn)) H4 (sE s3 s4)⟩;subst hv;obtain⟨g4,rfl,rfl⟩:=zjw ha;obtain⟨b0,b1,b2,b3,r4,rfl⟩:=z4z g4;have hb:∀x∈[b0,b1,b2,b3],x=48\/x=49:=λx hx=>h3.bt x (by simp at hx ⊢; omega);have s4:=sE s3 s4;refine⟨_,(bv [b0,b1,b2,b3]:Int),rfl,z6w _ (zr3 (hb b0 (by simp))) _ (zr3 (hb b1 (by simp))) _ (zr3 (hb b2 (by simp))) _ (zr3 (hb b3 (by simp))),_,rfl,t.zms,sgTup,rfl,.inr (T.t_SIGNS _),_,_,rfl,rfl,_,rfl,?_⟩;have e9:(sgTup.length:Int)=9:=rfl;have e499:=z4x (f:=f) (r:=r4) (a:=b0) (b:=b1) (c:=b2) (d:=b3) h1;generalize bv [b0,b1,b2,b3]=sg at e499 ⊢;by_cases g9:sg<9
   . rw[if_pos g9] at e499;obtain⟨l4,p4,ho4,-⟩:=h4.ob;have e1:(most:Int) - 1=((most - 1:Nat):Int):=by omega
     refine zdd (by rw[decide_eq_true_eq,e9]; omega) ⟨_,rfl,R.x,_,_,rfl,ho4,rfl,_,rfl,_,_,rfl,rfl,R,fns,r4,f,most - 1,(by rw[e1]; rfl),by omega,by omega,by omega,h4,λtl r5 hl vl H5 s5 h5 dl=>?_,λhn H5 s5=>q2 (by rw[e499,hn]; rfl) H5 (sE s4 s5)⟩;have hle:=zvl f (most - 1) r4 tl r5 h4.bt hl;obtain⟨l5,p5,ho5,-⟩:=h5.ob;have lvt:=hle.2.2.2;have lvp:=zpv tl;have e2:(most:Int) - ((lv tl:Nat):Int)=((most - lv tl:Nat):Int):=by omega
     have e499:zgq (f+1) most (49 :: 49 :: b0 :: b1 :: b2 :: b3 :: r4)=(zgq f (most - lv tl) r5).map λy=>(BTr.op sg tl y.1,y.2):=by rw[e499,hl]; rfl
     refine⟨_,rfl,R.x,_,_,rfl,ho5,rfl,_,rfl,_,rfl,tl,vl,rfl,(by have:=znj tl; omega),DatV.mono zaz _ _ dl,hle.2.1,λH6 s6=>⟨_,_,rfl,rfl,R,fns,r5,f,most - lv tl,(by rw[e2]; rfl),by omega,by omega,by omega,h5.grow s6,λtr r7 hr vr H7 s7 h7 dr=>?_,λhn H7 s7=>q2 (by rw[e499,hn]; rfl) H7 (sE ((sE s4 s5).trans s6) s7)⟩⟩;refine⟨_,rfl,t.zms,_,_,_,rfl,rfl,T.t_SIGNS _,zcg (z7m sg g9),_,rfl,_,rfl,(by show 3<=_; decide),λu hu=>q1 (.op sg tl tr) r7 (by rw[e499,hr]; rfl) _ _ ((sE ((sE s4 s5).trans s6) s7).trans (Same.new hu)) (h7.grow (Same.new hu)) ?_⟩;have s8:=Same.ers (l:=R.x) (Same.new (o:=.tup [V.str (sgn sg),vl,vr]) hu);exact zch (h7.newT hu) (za1 (zdo _) (za1 (DatV.mono ((Same.ers s6).trans ((Dc.Same.ers2 s7).trans s8)) _ _ dl) (za1 (DatV.mono s8 _ _ dr) zap)))
   . rw[if_neg g9] at e499;exact zdz (by rw[decide_eq_true_eq,e9]; omega) (q2 e499 _ s4)
theorem zcm:FnScope ["self","ahead","found"] ["self","ahead"] (zah zbw):=by walk_at "s"
theorem zf6 (T:Txt K mg t):FnOk P w K mg base (CXe P w) 30 t.zd1 t.zd2 ["self","ahead"] (zf8 K t):=by
 have G_BitReader_take:=zer (P:=P) (w:=w) (base:=base) T;have G_BitReader_reckoning:FnOk P w K mg base (CXe P w) 23 t.zck t.zcl ["self","most"] (zc3 K t 10):=zen T 10;refine T.zc4.F.okE zcm (λvs H Q E h=>?_) (λcdv A outer s H vs Q E hr h=>?_)
 . obtain⟨R,fns,r,a,u,rfl,hu,ha,h,q1,q2⟩:=h;rfl
 . obtain⟨R,fns,r,a,u,rfl,hu,ha,h,q1,q2⟩:=h;refine⟨_,(@zad _ _ _ _ _ (@zbi _ _ _ _ _ _ _ _ (@zan _ _ _ _ _ _ _ _ zdw (zdc (pvC 0) T.zai.cl T.zba.m G_BitReader_take (hr.mono (by decide)) T.zba.b .nil zem (@zaa _ _ _ _ _ zae zac (by rfl))) za5 (zax _)) (@zag _ _ _ (@zas _ _ 2 _ _ _ _ zcm.nd rfl (Or.inl rfl) (@zb9 _ _ _ _ (@zaa _ _ _ _ _ (zdc (pvC 0) T.zai.cl T.zbd.m G_BitReader_reckoning (hr.mono (by decide)) T.zbd.b .nil zem (@zaa _ _ _ _ _ (zil T.zo0) zac (by rfl))) zac (by rfl))) (by rfl) (by walk_at "f"))) (@zag _ _ _ (@zbi _ _ _ _ _ _ _ _ (@zan _ _ _ _ _ _ _ _ zdw (zdc (pvC 0) T.zai.cl T.zba.m G_BitReader_take (hr.mono (by decide)) T.zba.b .nil zem (@zaa _ _ _ _ _ zae zac (by rfl))) za5 (zax _)) (@zag _ _ _ (@zas _ _ 2 _ _ _ _ zcm.nd rfl (Or.inl rfl) (@zb9 _ _ _ _ (@zaa _ _ _ _ _ zkp zac (by rfl))) (by rfl) (by walk_at "f"))) (@zag _ _ _ (@zbi _ _ _ _ _ _ _ _ (z0r (K:=K) rfl (pvC 1) (by intro _; rfl)) (@zag _ _ _ (@zat _ _ _ _ (@zaq _ _ _ _ _ _ _ (show IxR _ (zim K) from zbb) (pvC 1) zae (λ_ _=>rfl)))) (@zag _ _ _ (zfh T.za2 T.i0_BadBits rfl zeg))))))) (@zad _ _ _ _ _ (@zbi _ _ _ _ _ _ _ _ (@zan _ _ _ _ _ _ _ _ (zp8 hr.units) (pvC 2) (pvC 1) (zax _)) (@zag _ _ _ (zfh T.za2 T.i0_BadBits rfl zeg)) zau) (@zag _ _ _ (@zat _ _ _ _ (@zaq _ _ _ _ _ _ _ (show IxR _ (zim K) from zbb) (pvC 2) zae (λ_ _=>rfl)))))),?_⟩;obtain⟨aA,ys,rfl,hy,dy⟩:=zit hu;obtain⟨l,p,ho,-⟩:=h.ob;refine⟨_,rfl,R.x,_,_,rfl,ho,rfl,R,fns,r,1,rfl,by decide,h,λa0 r2 ha0 v H2 s2 h2 hv=>?_,λhn H2 s2=>q2 (by rw[zoc hn]; rfl) H2 s2⟩;subst hv;obtain⟨b0,rfl,rfl⟩:=zsv ha0;obtain⟨l2,p2,ho2,-⟩:=h2.ob;refine⟨rfl,_,rfl,?_⟩;rw[tx1];have fin:∀(o:Option BTr) (v:V) (r3:List Nat) (H3:Hp) (u:Addr) (D:zjb),D.rt=Q->Same (ers R.x H) H3->RdAt K t.zaj t.zaw H3 R fns r3->DatV K (ers R.x H3) (btO o) v->pok o->dPl a (b0 :: r2)=(if lkO a o=true then none else some (o,r3))->H3 u=none ->
       tSeq (tIfS (z14 (tOp (z63 K) (zzg 2) (zzg 1))) (zsk t.za2 E) z5p) (tRet (tOp (zim K) (zzg 2) (tC (V.int 0)))) D [some (.ref R.x),some (.ref aA),some (.ref u)] (upd H3 u (.lst [v])):=by
     intro o v r3 H3 u D hD s3 h3 dv po e hu3;subst hD;have s4:=Same.new (o:=.lst [v]) hu3;refine⟨_,rfl,_,rfl,.list [btO o],.list (a.toList.map btO),zbc (SqL.of zab) (za1 (DatV.mono (zaz.trans s4) _ _ dv) zap),DatV.mono (s3.trans s4) _ _ hu,shp (zv6 po),shp (λx hx=>ha x (by simpa using hx)),_,rfl,?_⟩;rw[bes ha po];by_cases hk:lkO a o=true
     . exact zdz hk (q2 (by rw[e,if_pos hk]) _ (s3.trans s4))
     . exact zdd hk ⟨_,rfl,u,_,_,_,rfl,rfl,SqL.of zab,at0,q1 o r3 (by rw[e,if_neg hk]) v _ (s3.trans s4) (h3.grow s4) (DatV.mono (Same.ers s4) _ _ dv)⟩
   rcases h.bt b0 (by simp) with rfl|rfl
   . refine iN ⟨_,rfl,R.x,_,_,rfl,ho2,rfl,R,fns,r2,1,rfl,by decide,h2,λa1 r3 ha1 v H3 s3 h3 hv=>?_,λhn H3 s3=>q2 (by rw[zoc hn]; rfl) H3 (sE s2 s3)⟩;subst hv;obtain⟨b1,rfl,rfl⟩:=zsv ha1;have s3:=sE s2 s3;refine⟨rfl,_,rfl,?_⟩;rw[tx0];rcases h2.bt b1 (by simp) with rfl|rfl
     . exact iP ⟨le1,λu hu=>fin none .non r3 H3 u _ rfl s3 h3 zso trivial rfl hu⟩
     . refine iN ⟨_,rfl,_,.inl ⟨ys,Same.seq s3 hy,rfl⟩,?_⟩;have ly:=zc0 dy;cases a with
       | none =>
         cases ys with
         | nil=>exact iN (q2 rfl H3 s3)
         | cons y ys=>simp at ly
       | some o =>
         obtain⟨y,rfl,dy1⟩:∃y,ys=[y]/\DatV K (ers R.x H) (btO o) y:=by
           obtain⟨y,ys,rfl,h1,h2⟩:∃y ys',ys=y :: ys'/\DatV K (ers R.x H) (btO o) y/\DatAll K (ers R.x H) [] ys':=by have dy:DatAll K (ers R.x H) (btO o :: []) ys:=dy;unfold DatAll at dy;obtain⟨x,r,e,d1,d2⟩:=dy;exact⟨x,r,e,d1,d2⟩
           have:=zc0 h2;exact⟨y,by rw[qcf.mp this],h1⟩
         exact zdz rfl ⟨_,rfl,aA,_,_,_,rfl,rfl,Same.seq s3 hy,at0,q1 o r3 rfl y H3 s3 h3 (DatV.mono (Dc.Same.ers2 s3) _ _ dy1)⟩
   . refine iP ⟨_,rfl,R.x,_,_,rfl,ho2,rfl,R,fns,r2,8,8,rfl,by decide,by decide,by decide,h2,λtr r3 hr v H3 s3 h3 hv=>⟨le1,λu hu=>?_⟩,λhn H3 s3=>q2 (by show(zgq 8 8 r2).bind _=none; rw[hn]; rfl) H3 (sE s2 s3)⟩;have hle:=zvl 8 8 r2 tr r3 h2.bt hr;exact fin (some tr) v r3 H3 u _ rfl (sE s2 s3) h3 hv ⟨hle.2.1,hle.2.2.2⟩ (by show(zgq 8 8 r2).bind _=_; rw[hr]; rfl) hu
theorem zjz:FnScope ["self","count","ahead"] ["self","count","ahead"] (zah zdq):=by walk_at "s"
theorem zj2 (T:Txt K mg t):FnOk P w K mg base (CXe P w) 31 t.zhd t.zhh ["self","count","ahead"] (zkc K t):=by
 have G_BitReader_place_beside:=zf6 (P:=P) (w:=w) (base:=base) T;refine T.zgg.F.okE zjz (λvs H Q E h=>?_) (λcdv A outer s H vs Q E hr h=>?_)
 . obtain⟨R,fns,r,n,ah,u,rfl,hn,hu,ha,h,q1,q2⟩:=h;rfl
 . obtain⟨R,fns,r,n,ah,u,rfl,hn,hu,ha,h,q1,q2⟩:=h;refine⟨_,(@zad _ _ _ _ _ (@zat _ _ _ _ (zn9 (N':=["k","self","ahead"]) (js:=[none,some 0,some 2]) (by kernel_rfl) rfl (zb4 rfl T.b_range (@zaa _ _ _ _ _ (pvC 1) zac (by rfl))) zb6 (λ_ _ _ _=>(zar (i:=0) (show(["k","self","ahead"]:List Str).Nodup by decide +kernel) rfl (Or.inl rfl) (.inr rfl))) (λ_ _ _ _=>zcw) (λ_ _ _ _=>(zdc (pvC 1) T.zai.cl T.zc4.m G_BitReader_place_beside (hr.mono (by decide)) T.zc4.b .nil zs5 (@zaa _ _ _ _ _ (@zd9 _ _ _ _ _ _ _ _ _ _ (show SlR _ (rSlL K) from zxk) (pvC 2) (zef (pvC 0)) (zef (@zav _ _ _ _ _ _ _ _ (zc2 zbp) (pvC 0) zae))) zac (by rfl)))))) zau),?_⟩;obtain⟨aA,ys,rfl,hy,dy⟩:=zit hu;obtain⟨l0,p0,ho,-⟩:=h.ob;refine⟨_,rfl,n,rfl,by omega,by omega,λpL hpL=>?_⟩;have nxp:=zaf ho hpL;have hpE:ers R.x H pL=none:=by rw[zao nxp.symm]; exact hpL
   refine(let Jv1:Nat->List V->Hp->Prop:=λi acc H2=>∃(pl:List (Option BTr)) (r2:List Nat),H2 pL=some (.lst acc)/\acc.length=i/\Same (ers R.x H) H2/\RdAt K t.zaj t.zaw H2 R fns r2/\DatAll K (ers R.x H2) (pl.map btO) acc/\zo9 ah i r=some (pl,r2); zd0 (lo:=0) (n:=n) (by omega) Jv1 ⟨[],r,zab,rfl,zaz.trans (Same.new hpL),h.grow (Same.new hpL),zap,rfl⟩ ?_ ?_ ?_)
   . rintro i acc H2 hi ⟨pl,r2,e2,l2,s2,h2,d2,v2⟩;exact⟨e2,by omega⟩
   . rintro i acc H2 hi ⟨pl,r2,e2,l2,s2,h2,d2,v2⟩;obtain⟨l2',p2,ho2,-⟩:=h2.ob;have s2e:=Dc.Same.ers2 s2;have nx:zo9 ah (i+1) r=(dPl ah[i]? r2).map λy=>(pl++[y.1],y.2):=zgh v2;rw[qb3];refine⟨_,rfl,R.x,_,_,rfl,ho2,rfl,_,rfl,_,rfl,_,rfl,_,rfl,_,_,rfl,rfl,_,rfl,aA,ys,rfl,Same.seq s2 hy,λs hs=>?_⟩;rw[zvq];have s3:=Same.new (o:=.lst (ys[i]?).toList) hs;refine⟨R,fns,r2,ah[i]?,.ref s,rfl,zbc (h2.newL hs) (DatAll.mono (Same.ers s3) _ _ (zvw (DatAll.mono s2e _ _ dy) i)),λo ho=>ha o (List.mem_of_getElem? ho),h2.grow s3,λo r3 ho v H4 s4 h4 hv=>?_,λhn H4 s4=>q2 (zhv (n:=i+1) (by rw[show zov _ _ _=_ from nx,hn]; rfl) (by omega)) H4 (sE (s2.trans s3) s4)⟩;have e4:H4 pL=some (.lst acc):=s4 _ _ (by rw[zao nxp.symm]; exact s3 _ _ e2);have s5:Same (ers R.x H) (upd H4 pL (.lst (acc++[v]))):=Same.upd (sE (s2.trans s3) s4) hpE;refine⟨e4,pl++[o],r3,zab,by rw[List.length_append,l2]; rfl,s5,h.back h4 s5 (zal nxp),?_,by rw[nx,ho]; rfl⟩;rw[List.map_append];exact zvn (by rw[<- List.map_append]; exact zff _) e4 nxp (zfg (DatAll.mono ((Same.ers s3).trans (Dc.Same.ers2 s4)) _ _ d2) hv)
   . rintro acc H2 ⟨pl,r2,e2,l2,s2,h2,d2,v2⟩;exact q1 pl r2 v2 _ H2 s2 h2 ⟨pL,acc,rfl,hpL,e2,d2⟩
theorem zcq:FnScope ["self","before","chain","views","frame","ahead"] ["self","before"] (zah zdn):=by walk_at "s"
theorem zkd (T:Txt K mg t):FnOk P w K mg base (CXe P w) 32 t.zhb t.zhf ["self","before"] (zj9 K t):=by
 have G_views_ahead:=zif (P:=P) (w:=w) (base:=base) T;have G_BitReader_frame:=zjd (P:=P) (w:=w) (base:=base) T;have G_BitReader_view:=zj2 (P:=P) (w:=w) (base:=base) T;have G_BitReader_number:=zcu (P:=P) (w:=w) (base:=base) T;refine T.zgf.F.okE zcq (λvs H Q E h=>?_) (λcdv A outer s H vs Q E hr h=>?_)
 . obtain⟨R,fns,r,m0,u,rfl,hu,m0k,h,q1,q2⟩:=h;rfl
 . obtain⟨R,fns,r,m0,u,rfl,hu,m0k,h,q1,q2⟩:=h;refine⟨_,(@zad _ _ _ _ _ (@zas _ _ 2 _ _ _ _ zcq.nd rfl (Or.inl rfl) (zb3 ze8 (by rfl) T.b_tuple ze3 (@zaa _ _ _ _ _ (zn9 (N':=["k","self"]) (js:=[none,some 0]) (by kernel_rfl) rfl (zb4 rfl T.b_range (@zaa _ _ _ _ _ (zdc (pvC 0) T.zai.cl T.za8.m G_BitReader_number (hr.mono (by decide)) T.za8.b .nil zem (@zaa _ _ _ _ _ zae (@zaa _ _ _ _ _ (zil T.zoy) zac (by rfl)) (by rfl))) zac (by rfl))) zb6 (λ_ _ _ _=>(zar (i:=0) (show(["k","self"]:List Str).Nodup by decide +kernel) rfl (Or.inl rfl) (.inr rfl))) (λ_ _ _ _=>zcw) (λ_ _ _ _=>(zlg (pvC 1) T.zai.cl T.zfl.m G_BitReader_frame (hr.mono (by decide)) T.zfl.b .nil zs5))) zac (by rfl))) (by rfl) (by walk_at "f")) (@zad _ _ _ _ _ (@zas _ _ 3 _ _ _ _ zcq.nd rfl (Or.inl rfl) (@zb9 _ _ _ _ zac) (by rfl) (by walk_at "f")) (@zad _ _ _ _ _ (zdh zod rfl (zwd true false rfl T.b_zip (@zaa _ _ _ _ _ (pvC 2) (@zaa _ _ _ _ _ (za6 T.views_ahead G_views_ahead (hr.mono (by decide)) (@zaa _ _ _ _ _ (pvC 1) (@zaa _ _ _ _ _ (pvC 2) zac (by rfl)) (by rfl))) zac (by rfl)) (by rfl))) (zfq rfl (za9 (zar (i:=4) zcq.nd rfl (Or.inl rfl)) (za9 (zar (i:=5) zcq.nd rfl (Or.inl rfl)) zdv))) (@zag _ _ _ (@zco _ _ _ _ (zeh qax qa1 qa2 zbr (pvC 3) (@zaa _ _ _ _ _ (zdc (pvC 0) T.zai.cl T.zgg.m G_BitReader_view (hr.mono (by decide)) T.zgg.b .nil zem (@zaa _ _ _ _ _ (zam (show zbv _ (.builtin "len") (zh9 K) from zay) (by rfl) T.b_len zbk (@zaa _ _ _ _ _ (zhr (u1' hr.units) (zd7 (zd7 (pvC 0) (by rfl)) (by rfl)) (@zaq _ _ _ _ _ _ _ (show IxR _ (zcz K) from zak) (pvC 4) zae (λ_ _=>rfl)) (λ_ _=>rfl)) zac (by rfl))) (@zaa _ _ _ _ _ (pvC 5) zac (by rfl)) (by rfl))) zac (by rfl))) (by rfl)))) (@zag _ _ _ (@zat _ _ _ _ (@zby _ _ _ _ _ (@zaa _ _ _ _ _ (pvC 2) (@zaa _ _ _ _ _ (pvC 3) zac (by rfl)) (by rfl)))))))),?_⟩;obtain⟨l0,p0,ho,-⟩:=h.ob;have nd:=h.fl.nd;have ok:=h.ok;refine⟨_,rfl,R.x,_,_,rfl,ho,rfl,R,fns,r,1,3,rfl,h,λn r1 hn v H1 s1 h1 hv=>?_,λhn H2 s2=>q2 (by unfold zlb; rw[hn]; rfl) H2 s2⟩;subst hv;have hnb:=zkv h.bt hn;have eM:zlb (rlF fns) (cnF fns) m0 r=(zyy (rlF fns) n r1).bind λch=>(dVs (cnF fns) m0 ch.1 ch.1.length ch.2).map λv=>((⟨ch.1,v.1⟩:Mk),v.2):=by unfold zlb; rw[hn]; rfl
   obtain⟨l1,p1,ho1,-⟩:=h1.ob;refine⟨n,rfl,by omega,by omega,λpL hpL=>?_⟩;have nxp:=zaf ho1 hpL;have hpE:ers R.x H1 pL=none:=by rw[zao nxp.symm]; exact hpL
   refine(let Jv1:Nat->List V->Hp->Prop:=λi acc H2=>∃(ch:List (Nat×Nat)) (r2:List Nat),H2 pL=some (.lst acc)/\acc.length=i/\Same (ers R.x H1) H2/\RdAt K t.zaj t.zaw H2 R fns r2/\DatAll K (ers R.x H2) (ch.map (tfD (nmF fns))) acc/\zyy (rlF fns) i r1=some (ch,r2); zd0 (lo:=0) (n:=n) (by omega) Jv1 ⟨[],r1,zab,rfl,zaz.trans (Same.new hpL),h1.grow (Same.new hpL),zap,rfl⟩ ?_ ?_ ?_)
   . rintro i acc H2 hi ⟨ch,r2,e2,l2,s2,h2,d2,v2⟩;exact⟨e2,by omega⟩
   . rintro i acc H2 hi ⟨ch,r2,e2,l2,s2,h2,d2,v2⟩;obtain⟨l2',p2,ho2,-⟩:=h2.ob;have nx:zyy (rlF fns) (i+1) r1=(dFr (rlF fns) r2).map λy=>(ch++[y.1],y.2):=zgh v2;refine⟨_,rfl,R.x,_,_,rfl,ho2,rfl,R,fns,r2,rfl,h2,λc r3 hc v H4 s4 h4 hv=>?_,λhn H4 s4=>q2 (by rw[eM,show zyy (rlF fns) n r1=none from zhv (n:=i+1) (by rw[show zov _ _ _=_ from nx,hn]; rfl) (by omega)]; rfl) H4 (sE s1 (sE s2 s4))⟩;have e4:H4 pL=some (.lst acc):=s4 _ _ (by rw[zao nxp.symm]; exact e2);have s5:Same (ers R.x H1) (upd H4 pL (.lst (acc++[v]))):=Same.upd (sE s2 s4) hpE;refine⟨e4,ch++[c],r3,zab,by rw[List.length_append,l2]; rfl,s5,h1.back h4 s5 (zal nxp),?_,by rw[nx,hc]; rfl⟩;rw[List.map_append];exact zvn (by rw[<- List.map_append]; exact zc9 (znr _) _) e4 nxp (zfg (DatAll.mono (Dc.Same.ers2 s4) _ _ d2) hv)
   rintro acc H2 ⟨ch,r2,e2,l2,s2,h2,d2,v2⟩;obtain⟨g1,g2,g3⟩:=z00 ok h1.bt v2;have eM:zlb (rlF fns) (cnF fns) m0 r=(dVs (cnF fns) m0 ch ch.length r2).map λv=>((⟨ch,v.1⟩:Mk),v.2):=by rw[eM,v2]; rfl
   have s02:=sE s1 s2;have hix:∀c∈ch,c.1<fns.length:=λc hc=>by have:=(g3 c hc).1; unfold rlF at this; rw[List.length_map] at this; exact this
   refine⟨pL,acc,rfl,.inl ⟨SqL.of e2,λTc hT=>?_⟩⟩;have s3:=Same.new (o:=.tup acc) hT;have h3:=h2.grow s3;have d3:=DatAll.mono (Same.ers (l:=R.x) s3) _ _ d2;have eT3:upd H2 Tc (.tup acc) Tc=some (.tup acc):=zab;have nxT:R.x≠Tc:=by obtain⟨l2',p2,ho2,-⟩:=h2.ob; exact zaf ho2 hT
   generalize upd H2 Tc (.tup acc)=H3 at s3 h3 d3 eT3 ⊢;refine⟨le0,λVw hV=>?_⟩;have nxV:R.x≠Vw:=by obtain⟨l3,p3,ho3,-⟩:=h3.ob; exact zaf ho3 hV
   have nTV:Tc≠Vw:=zaf eT3 hV;have hVH:ers R.x H Vw=none:=(s02.trans s3).free hV;have hxz:∀z ys,H z=some (.lst ys)->R.x≠z:=λz ys hz e=>by rw[<- e,ho] at hz; cases hz
   have hVz:∀z ys,H z=some (.lst ys)->Vw≠z:=λz ys hz e=>by rw[<- e] at hz;rw[zao nxV.symm,hz] at hVH;cases hVH
   have s4:=Same.new (o:=.lst []) hV;have h4:=h3.grow s4;have s04:=(s02.trans s3).trans s4;have eV4:upd H3 Vw (.lst []) Vw=some (.lst []):=zab;have d4:=DatAll.mono (Same.ers (l:=R.x) s4) _ _ d3;have eT4:=s4 _ _ eT3;generalize upd H3 Vw (.lst [])=H4 at s4 h4 s04 eV4 d4 eT4 ⊢;obtain⟨l4,p4,ho4,-⟩:=h4.ob;refine⟨_,rfl,_,rfl,_,rfl,u,.ref Tc,fns,m0,ch,Vw,R.x,_,_,rfl,eV4,ho4,nd,DatV.mono (zc6 (zc6 s04 hVH) zg3) _ _ hu,m0k,zch (SqT.of eT4) (DatAll.mono zaz _ _ d4),hix,by omega,λl xs H5 s5 hl e5 d5=>?_⟩;have lxs:xs.length=ch.length:=by rw[zc0 d5]; unfold zig; rw[List.length_map,qa9]
   have lmin:min acc.length xs.length=ch.length:=by omega
   have h5:=h4.grow s5;have s05:=s04.trans s5;have eV5:=s5 _ _ eV4;have eT5:=s5 _ _ eT4;have nlV:l≠Vw:=(zaf eV4 hl).symm;have nlx:l≠R.x:=(zaf ho4 hl).symm;have hx0:ers Vw (ers R.x H5) R.x=none:=by rw[zao nxV]; exact zg3
   have d5c:DatAll K (ers Vw (ers R.x H5)) (ch.map (tfD (nmF fns))) acc:=DatAll.ersT (NoT.lst (by rw[zao nxV.symm]; exact eV5)) _ _ (zc9 (znr _) _) (DatAll.mono (Same.ers s5) _ _ d4);have sT:SqT K (ers Vw (ers R.x H5)) Tc acc:=SqT.of (by rw[zao nTV,zao nxT.symm]; exact eT5);have sl:SqL K (ers Vw (ers R.x H5)) l xs:=SqL.of (by rw[zao nlV,zao nlx]; exact e5);rw[zy4] at d5;have sH:Same (ers R.x H) (ers Vw (ers R.x H5)):=zc6 (Dc.Same.ers2 s05) hVH;refine⟨Tc,l,rfl,⟨_,SqT.of eT5⟩,⟨_,SqL.of e5⟩,(let Jv2:Nat->St->Hp->Prop:=λi σ H6=>∃(v4 v5:Option V) (vs:List V) (vw:List (List (Option BTr))) (r6:List Nat),σ=[some (.ref R.x),some u,some (.ref Tc),some (.ref Vw),v4,v5]/\Same (ers Vw (ers R.x H5)) H6/\RdAt K t.zaj t.zaw H6 R fns r6/\H6 Vw=some (.lst vs)/\vs.length=i/\DatAll K (ers Vw (nwL (ers R.x H) (ers R.x H6))) (vw.map plD) vs/\dVs (cnF fns) m0 ch i r2=some (vw,r6); zwz (b1:=true) (b2:=false) (xs:=acc) (ys:=xs) Jv2 ⟨_,_,[],[],r2,rfl,zaz.trans zaz,h5,eV5,rfl,zap,rfl⟩ ?_ ?_ ?_)⟩
   . rintro i σ H6 hi ⟨v4,v5,vs,vw,r6,rfl,s6,h6,eV6,lvs,d6,w6⟩;exact⟨s6.tup sT,Same.seq s6 sl⟩
   . rintro i y z σ H6 b hy hz ⟨v4,v5,vs,vw,r6,rfl,s6,h6,eV6,lvs,d6,w6⟩ hb;have ilt:i<acc.length:=(List.getElem?_eq_some_iff.mp hy).1;obtain⟨c,hc,dc⟩:=zid d5c hy;obtain⟨fA,x1,x2,rfl,hf,hx1,hx2⟩:=dt2 dc;cases zia hx1;have hcl:=hix c (List.mem_of_getElem? hc);obtain⟨f,hfi⟩:∃f,fns[c.1]?=some f:=⟨_,List.getElem?_eq_getElem hcl⟩
     rw[zgl hfi] at hf;have kkc:kk ch i=c.1:=by unfold kk; rw[List.getD_eq_getElem?_getD,hc]; rfl
     obtain⟨ah,hah,dah⟩:=zvo d5 hz;have eah:ah=plD (ahd m0 i c.1):=by unfold zig at hah;rw[List.getElem?_map,qdh (by omega)] at hah;have:=Option.some.inj hah;rw[<- this,<- kkc];rfl
     subst eah;have nx:dVs (cnF fns) m0 ch (i+1) r2=(zo9 (ahd m0 i c.1) (F2.nms f).length r6).map λy=>(vw++[y.1],y.2):=by refine(zgh w6).trans ?_;rw[kkc,zs1 hfi]
     have s7:=Same.new (o:=.tup [.ref fA,z]) hb;refine⟨b,_,rfl,SqT.of zab,rfl,_,_,rfl,_,_,rfl,rfl,?_⟩;have h7:=h6.grow s7;have eV7:=s7 _ _ eV6;generalize upd H6 b (.tup [.ref fA,z])=H7 at s7 h7 eV7 ⊢;obtain⟨l7,p7,ho7,-⟩:=h7.ob;have hF7:=h7.fl.mono zaz;obtain⟨dx,fz,d,kv,nl,wl,o0,o1,o2,o3,o4,o5,o6,o7,o8⟩:=hF7.ob;have hg:=zr1.k (k:=(Sum.inr f.name:Key)) (o1.dc 4 (by decide));rw[o6,F2.kD_at _ hF7.nd hfi] at hg;have s67:=s6.trans s7;have s07:=sH.trans s67;have l24:(F2.nms f).length<=24:=by have:=ok.cn c.1; rw[zs1 hfi] at this; exact this
     refine⟨_,rfl,.inl ⟨rfl,_,SqL.of eV7⟩,_,rfl,R.x,_,_,rfl,ho7,rfl,_,rfl,R.x,_,_,_,_,rfl,ho7,T.zai.cl,T.zbt,rfl,R.fl,_,_,_,_,rfl,o1.ob,T.zb8.cl,T.zb2,Fl.lk_names _ _,_,rfl,fA,_,_,_,rfl,rfl,s67.tup hf,at0,_,_,rfl,hg,nl c.1,_,rfl,.inl (SqL.of (o8 _ _ hfi).1),_,rfl,R,fns,r6,(F2.nms f).length,ahd m0 i c.1,z,(by rw[List.length_map]; rfl),l24,DatV.mono ((zc6 s67 hx0)) _ _ dah,(z03 m0k i c.1).2,h7,λpl r8 hpl v H8 s8 h8 hv=>?_,λhn H8 s8=>q2 (by rw[eM,show dVs (cnF fns) m0 ch ch.length r2=none from zhv (n:=i+1) (by rw[show zov _ _ _=_ from nx,hn]; rfl) (by omega)]; rfl) H8 (sE s07 s8)⟩;obtain⟨lv,ws,rfl,hlv,elv,dlv⟩:=hv;have eV8:H8 Vw=some (.lst vs):=s8 _ _ (by rw[zao nxV.symm]; exact eV7);refine⟨Vw,_,_,rfl,rfl,eV8,zb0 (n:=vs.length+1) (by omega),_,_,vs++[.ref lv],vw++[pl],r8,rfl,Same.upd ((zc6 s67 hx0).trans s8) zg3,h.back h8 (Same.upd (sE s07 s8) hVH) (zal nxV),zab,by rw[List.length_append,lvs]; rfl,?_,by rw[nx,hpl]; rfl⟩;have nlvx:=(zaf ho7 hlv).symm;have hlv0:ers R.x H lv=none:=s07.free hlv;have s08:=sE s07 s8;rw[z0u nxV,List.map_append];refine zfg (DatAll.mono (Same.ers (Same.nwL ((Same.ers s7).trans (Dc.Same.ers2 s8)))) _ _ d6) (zbc (SqL.of (by rw[zao (zaf eV7 hlv).symm,zge hlv0,zao nlvx]; exact elv)) ?_);exact DatAll.ersT (NoT.lst (by rw[zge hVH,zao nxV.symm]; exact eV8)) _ _ (zff _) (DatAll.nwT (Dc.Same.ers2 s08) _ _ (zff _) dlv)
   . rintro σ H6 ⟨v4,v5,vs,vw,r6,rfl,s6,h6,eV6,lvs,d6,w6⟩;rw[lmin] at w6;obtain⟨l6,p6,ho6,-⟩:=h6.ob;refine⟨_,rfl,_,rfl,le2,λp hp=>?_⟩;have s7:=Same.new (o:=.tup [.ref Tc,.ref Vw]) hp;have s67:Same (ers Vw (ers R.x H5)) (ers R.x (upd H6 p (.tup [.ref Tc,.ref Vw]))):=(zc6 s6 hx0).trans (Same.ers s7);have cT:=zch (s67.tup sT) (DatAll.mono s67 _ _ d5c);have eV7:ers R.x (upd H6 p (.tup [.ref Tc,.ref Vw])) Vw=some (.lst vs):=by rw[zao nxV.symm]; exact s7 _ _ eV6
     have s07:=(sH.trans s6).trans s7;have hp0:ers R.x H p=none:=(sH.trans s6).free hp;refine q1 ⟨ch,vw⟩ r6 (by rw[eM,w6]; rfl) _ _ s07 (h6.grow s7) (zg7 (SqT.of (by rw[zge hp0,zao (zaf ho6 hp).symm]; exact zab)) (DatV.nwT (Dc.Same.ers2 s07) _ _ (z51 _ _) cT) (zbc (SqL.of (by rw[zge hVH]; exact eV7)) (DatAll.mono (zaz.trans (Same.nwL (Same.ers s7))) _ _ d6)))
theorem zbq:FnScope ["self","marks","before","k"] ["self"] (zah zci):=by walk_at "s"
theorem zhl (T:Txt K mg t):FnOk P w K mg base (CXe P w) 33 t.zez t.ze0 ["self"] (zhk K t):=by
 have G_BitReader_number:=zcu (P:=P) (w:=w) (base:=base) T;have G_BitReader_mark:=zkd (P:=P) (w:=w) (base:=base) T;refine T.zdx.F.okE zbq (λvs H Q E h=>?_) (λcdv A outer s H vs Q E hr h=>?_)
 . obtain⟨R,fns,r,rfl,h,q1,q2⟩:=h;rfl
 . obtain⟨R,fns,r,rfl,h,q1,q2⟩:=h;refine⟨_,(@zad _ _ _ _ _ (@zas _ _ 1 _ _ _ _ zbq.nd rfl (Or.inl rfl) (@zb9 _ _ _ _ zac) (by rfl) (by walk_at "f")) (@zad _ _ _ _ _ (@zas _ _ 2 _ _ _ _ zbq.nd rfl (Or.inl rfl) (@zby _ _ _ _ _ (@zaa _ _ _ _ _ (@zby _ _ _ _ _ zac) (@zaa _ _ _ _ _ (@zb9 _ _ _ _ zac) zac (by rfl)) (by rfl))) (by rfl) (by walk_at "f")) (@zad _ _ _ _ _ (zdh zod rfl (zb4 rfl T.b_range (@zaa _ _ _ _ _ (zdc (pvC 0) T.zai.cl T.za8.m G_BitReader_number (hr.mono (by decide)) T.za8.b .nil zem (@zaa _ _ _ _ _ zae (@zaa _ _ _ _ _ (zil T.zmz) zac (by rfl)) (by rfl))) zac (by rfl))) (zar (i:=3) zbq.nd rfl (Or.inl rfl)) (@zad _ _ _ _ _ (@zas _ _ 2 _ _ _ _ zbq.nd rfl (Or.inl rfl) (zdc (pvC 0) T.zai.cl T.zgf.m G_BitReader_mark (hr.mono (by decide)) T.zgf.b .nil zem (@zaa _ _ _ _ _ (pvC 2) zac (by rfl))) (by rfl) (by walk_at "f")) (@zag _ _ _ (@zco _ _ _ _ (zeh qax qa1 qa2 zbr (pvC 1) (@zaa _ _ _ _ _ (pvC 2) zac (by rfl))) (by rfl))))) (@zad _ _ _ _ _ (@zbi _ _ _ _ _ _ _ _ (@zan _ _ _ _ _ _ _ _ (zc2 zjg) (zd7 (pvC 0) (by rfl)) (zam zeu (by rfl) T.b_len zbk (@zaa _ _ _ _ _ (zd7 (pvC 0) (by rfl)) zac (by rfl))) (zax _)) (@zag _ _ _ (zfh T.za2 T.i0_BadBits rfl zeg)) zau) (@zag _ _ _ (@zat _ _ _ _ (pvC 1))))))),?_⟩;have ok:=h.ok;have hnm:∀m,MFit (rlF fns) (cnF fns) m->MOk fns.length m:=λm hm=>by have:=hm.mok ok;unfold rlF at this;rw[List.length_map] at this;exact this
   refine⟨le0,λL hL=>?_⟩;obtain⟨l0,p0,ho,-⟩:=h.ob;have nxL:=zaf ho hL;have hLE:ers R.x H L=none:=by rw[zao nxL.symm]; exact hL
   refine⟨le0,λc0 hc0=>⟨le0,λw0 hw0=>⟨le2,λb0 hb0=>?_⟩⟩⟩;have hxz:∀z ys,H z=some (.lst ys)->R.x≠z:=λz ys hz e=>by rw[<- e,ho] at hz; cases hz
   have hLz:∀z ys,H z=some (.lst ys)->L≠z:=λz ys hz e=>by rw[<- e,hL] at hz; cases hz
   have sA:=Same.new (o:=.lst []) hL;have sB:=sA.trans (Same.new (o:=.tup []) hc0);have sC:=sB.trans (Same.new (o:=.lst []) hw0);have sD:=sC.trans (Same.new (o:=.tup [.ref c0,.ref w0]) hb0);have eL:upd H L (.lst []) L=some (.lst []):=zab;have ncL:=(zaf eL hc0).symm;have nw0L:=(zaf (Same.new (o:=.tup []) hc0 _ _ eL) hw0).symm;have nbL:=(zaf (Same.new (o:=.lst []) hw0 _ _ (Same.new (o:=.tup []) hc0 _ _ eL)) hb0).symm;have eLD:=Same.new (o:=.tup [.ref c0,.ref w0]) hb0 _ _ (Same.new (o:=.lst []) hw0 _ _ (Same.new (o:=.tup []) hc0 _ _ eL));have ncx:=(zaf (sA _ _ ho) hc0).symm;have nwx:=(zaf (sB _ _ ho) hw0).symm;have nbx:=(zaf (sC _ _ ho) hb0).symm;have d0:DatV K (ers L (ers R.x (upd (upd (upd (upd H L (.lst [])) c0 (.tup [])) w0 (.lst [])) b0 (.tup [.ref c0,.ref w0])))) (tmD (nmF fns) mk0) (.ref b0) :=
     zg7 (SqT.of (by rw[zao nbL,zao nbx]; exact zab)) (zch (SqT.of (by rw[zao ncL,zao ncx]; exact Same.new hb0 _ _ (Same.new hw0 _ _ zab))) zap) (zbc (SqL.of (by rw[zao nw0L,zao nwx]; exact Same.new hb0 _ _ zab)) zap)
   have h1:=h.grow sD;generalize upd (upd (upd (upd H L (.lst [])) c0 (.tup [])) w0 (.lst [])) b0 (.tup [.ref c0,.ref w0])=H1 at sD eLD d0 h1 ⊢;obtain⟨l1,p1,ho1,-⟩:=h1.ob;have s01:Same (ers R.x H) H1:=zaz.trans sD;refine⟨_,rfl,R.x,_,_,rfl,ho1,rfl,R,fns,r,1,200,rfl,h1,λn r1 hn v H2 s2 h2 hv=>?_,λhn H2 s2=>q2 (by unfold z2s; rw[hn]; rfl) H2 (sE s01 s2)⟩;subst hv;have hnb:=zkv h.bt hn;have eR:z2s (rlF fns) (cnF fns) r=(zf0 (rlF fns) (cnF fns) n r1).bind λy=>if y.2=[] then some (y.1,[]) else none:=by unfold z2s; rw[hn]; rfl
   have eL2:H2 L=some (.lst []):=s2 _ _ (by rw[zao nxL.symm]; exact eLD);refine⟨n,rfl,by omega,by omega,?_⟩;refine(let Jv1:Nat->St->Hp->Prop:=λi σ H3=>∃(v3:Option V) (bw:V) (ms:List Mk) (us:List V) (r3:List Nat),σ=[some (.ref R.x),some (.ref L),some bw,v3]/\Same (ers R.x H) H3/\RdAt K t.zaj t.zaw H3 R fns r3/\H3 L=some (.lst us)/\us.length=i/\DatAll K (ers L (nwL (ers R.x H) (ers R.x H3))) (ms.map (tmD (nmF fns))) us/\DatV K (ers L (ers R.x H3)) (tmD (nmF fns) (prv ms i)) bw/\zf0 (rlF fns) (cnF fns) i r1=some (ms,r3); zex (lo:=0) (n:=n) Jv1 ⟨_,_,[],[],r1,rfl,sE s01 s2,h2,eL2,rfl,zap,DatV.mono (Same.ers (Dc.Same.ers2 s2)) _ _ d0,rfl⟩ ?_ ?_)
   . rintro i σ H3 hi ⟨v3,bw,ms,us,r3,rfl,s3,h3,e3,l3,d3,b3,w3⟩;obtain⟨l3',p3,ho3,-⟩:=h3.ob;obtain⟨-,lms,fit⟩:=ztt ok h2.bt w3;have nx:zf0 (rlF fns) (cnF fns) (i+1) r1=(zlb (rlF fns) (cnF fns) (prv ms i) r3).map λy=>(ms++[y.1],y.2):=zgh w3;refine⟨_,rfl,R.x,_,_,rfl,ho3,rfl,_,rfl,R,fns,r3,prv ms i,bw,rfl,DatV.mono zaz _ _ b3,zvr (z06 _) (λm hm=>hnm m (fit m hm)) i,h3,λm r4 hm v H4 s4 h4 hv=>?_,λhn H4 s4=>q2 (by rw[eR,show zf0 (rlF fns) (cnF fns) n r1=none from zhv (n:=i+1) (by rw[show zov _ _ _=_ from nx,hn]; rfl) (by omega)]; rfl) H4 (sE s3 s4)⟩;have e4:H4 L=some (.lst us):=s4 _ _ (by rw[zao nxL.symm]; exact e3);have hvL:=DatV.mono (zwo (Dc.Same.ers2 s3) (show ers R.x H3 L=some (.lst us) by rw[zao nxL.symm]; exact e3)) _ _ hv;refine⟨_,rfl,.inl ⟨rfl,_,SqL.of e4⟩,_,rfl,L,_,_,rfl,rfl,e4,zb0 (n:=us.length+1) (by omega),_,v,ms++[m],us++[v],r4,rfl,Same.upd (sE s3 s4) hLE,h.back h4 (Same.upd (sE s3 s4) hLE) (zal nxL),zab,by rw[List.length_append,l3]; rfl,?_,?_,by rw[nx,hm]; rfl⟩
     . rw[z0u nxL,List.map_append];exact zfg (DatAll.mono (Same.ers (Same.nwL (Dc.Same.ers2 s4))) _ _ d3) hvL
     . rw[zzx,zs8 lms];exact DatV.mono (Same.ers zlm) _ _ hvL
   . rintro σ H3 ⟨v3,bw,ms,us,r3,rfl,s3,h3,e3,l3,d3,b3,w3⟩;obtain⟨l,p,ho3,hp,hd,hl⟩:=h3.ob;refine⟨_,rfl,R.x,_,_,_,_,rfl,ho3,T.zai.cl,T.zbu,rfl,_,rfl,R.x,_,_,_,_,rfl,ho3,T.zai.cl,T.zb1,rfl,_,rfl,(by rw[zcs]; exact qa7 hl (by decide)),_,_,rfl,rfl,_,rfl,?_⟩;rw[zcs];by_cases hpl:p<l.length
     . exact zdz (by walk_at "o") (q2 (by rw[eR,w3]; exact if_neg (by show ¬ r3=[]; rw[<- hd]; exact λz=>by have:=qa0 List.length z; rw[qc2] at this; simp at this; omega)) H3 s3)
     . have h0:r3=[]:=by rw[<- hd]; exact qde (by omega)
       subst h0;exact zdd (by walk_at "o") ⟨_,rfl,q1 ms [] (by rw[eR,w3]; rfl) _ H3 s3 h3 (zbc (SqL.of (by rw[zge hLE,zao nxL.symm]; exact e3)) (DatAll.mono zaz _ _ d3))⟩
theorem zpr:FnScope ["program","rows","flows"] ["program","rows"] (zah zlo):=by walk_at "s"
theorem zo4 (T:Txt K mg t):FnOk P w K mg base (CXe P w) 34 t.zt6 t.zuc ["program","rows"] (zpx K t):=by
 have G_Flows_init:=zjm (P:=P) (w:=w) (base:=base) T;have G_BitReader_init:=zj5 (P:=P) (w:=w) (base:=base) T;have G_BitReader_all_marks:=zhl (P:=P) (w:=w) (base:=base) T;refine T.unpack.F.okE zpr (λvs H Q E h=>?_) (λcdv A outer s H vs Q E hr h=>?_)
 . obtain⟨p,rl,fns,ls,rfl,hp,hf,nd,ok,hrl,hl,q1,q2⟩:=h;rfl
 . obtain⟨p,rl,fns,ls,rfl,hp,hf,nd,ok,hrl,hl,q1,q2⟩:=h;refine⟨_,(@zad _ _ _ _ _ (@zbi _ _ _ _ _ _ _ _ (@zan _ _ _ _ _ _ _ _ zql (zam (show zbv _ (.builtin "len") (zh9 K) from zay) (by rfl) T.b_len zbk (@zaa _ _ _ _ _ (pvC 1) zac (by rfl))) (zam (show zbv _ (.builtin "len") (zh9 K) from zay) (by rfl) T.b_len zbk (@zaa _ _ _ _ _ (pvC 0) zac (by rfl))) (zax _)) (@zag _ _ _ (zfh T.za2 T.i0_BadBits rfl zeg)) zau) (@zad _ _ _ _ _ (@zas _ _ 2 _ _ _ _ zpr.nd rfl (Or.inr rfl) (z53 T.zb8 T.zkl G_Flows_init (hr.mono (by decide)) (@zaa _ _ _ _ _ (pvC 0) zac (by rfl))) (by rfl) (by walk_at "f")) (@zag _ _ _ (@zat _ _ _ _ (zn9 (N':=["function","row","flows"]) (js:=[none,none,some 2]) (by kernel_rfl) rfl (zwd false false rfl T.b_zip (@zaa _ _ _ _ _ (pvC 0) (@zaa _ _ _ _ _ (pvC 1) zac (by rfl)) (by rfl))) (zyb (zls (zls zwy))) (λ_ _ _ _=>(show PG _ _ (z6n K 2 _) from zfq (n:=2) rfl (za9 (zar (i:=0) (show(["function","row","flows"]:List Str).Nodup by decide +kernel) rfl (Or.inl rfl) (.inr rfl)) (za9 (zar (i:=1) (show(["function","row","flows"]:List Str).Nodup by decide +kernel) rfl (Or.inl rfl) (.inr rfl)) zdv)))) (λ_ _ _ _=>zcw) (λ_ _ _ _=>(@zby _ _ _ _ _ (@zaa _ _ _ _ _ (@zaq _ _ _ _ _ _ _ (show IxR _ (zcz K) from zak) (pvC 0) zae (λ_ _=>rfl)) (@zaa _ _ _ _ _ (zlg (z6s T.zai T.zii G_BitReader_init (hr.mono (by decide)) zs5 (@zaa _ _ _ _ _ (pvC 2) (@zaa _ _ _ _ _ (pvC 1) zac (by rfl)) (by rfl))) T.zai.cl T.zdx.m G_BitReader_all_marks (hr.mono (by decide)) T.zdx.b .nil zs5) zac (by rfl)) (by rfl))))))))),?_⟩;have lst:(stx ls).length=ls.length:=zhx ls;have lfn:(fns.map λf=>V.ref f.fa).length=fns.length:=List.length_map _;refine⟨_,rfl,rl,_,rfl,.inl hrl,_,rfl,p,_,rfl,.inl hp,rfl,_,rfl,?_⟩;rw[lst,lfn];have n12:fns.length<=12:=by have:=ok.n12; unfold rlF at this; rw[List.length_map] at this; exact this
   have n0:fns≠[]:=λz=>by have:=ok.n1; unfold rlF at this; rw[z] at this; simp at this
   by_cases hlen:ls.length=fns.length
   case neg=>exact zdz (by simp; omega) (q2 (if_neg hlen) H (Same.refl _))
   refine zdd (by simp; omega) ?_;refine⟨_,rfl,λfl dx nx ndx nex=>?_⟩;have s0:Same H (upd (upd H dx (.own fl)) fl (.ins t.zaw dx [])):=λb o e=>by rw[zal (zaf e nx),zal (zaf e ndx)];exact e
   have s1':Same H (ers fl (upd (upd H dx (.own fl)) fl (.ins t.zaw dx []))):=λb o e=>by rw[zdi,zao (zaf e nx),zal (zaf e ndx)];exact e
   refine⟨fl,dx,p,fns,rfl,zab,s1'.seq hp,n0,n12,λf hf'=>(hf f hf').mono s1',nd,λH1 s1 hF=>⟨rfl,?_⟩⟩;have s01:Same H H1:=λb o e=>s1 b o (by rw[zao (zaf e nx)]; exact s0 b o e);refine⟨_,rfl,_,rfl,p,rl,rfl,⟨_,s01.seq hp⟩,⟨_,s01.seq hrl⟩,λpL hpL=>zy8 (b1:=false) (b2:=false) (xs:=fns.map λf=>V.ref f.fa) (ys:=stx ls) (by omega) (λi acc H2=>Same H1 H2/\H2 pL=some (.lst acc)/\acc.length=i/\∃mss:List (List Mk),mss.length=i/\(∀(k:Nat) ms,mss[k]?=some ms->∃l,ls[k]?=some l/\zu8 (rlF fns) (cnF fns) l=some ms)/\∀(k:Nat) ms y,mss[k]?=some ms->acc[k]?=some y->DatV K (ers pL H2) (teD (nmF fns) (nmF fns k,ms)) y) ⟨Same.new hpL,zab,rfl,[],rfl,(λk ms z=>by cases z),λk ms y z=>by cases z⟩ ?_ ?_ ?_⟩
   . rintro i acc H2 hi ⟨s2,e2,l2,-⟩;exact⟨e2,by omega,(s01.trans s2).seq hp,(s01.trans s2).seq hrl⟩
   . rintro i y z acc H2 b hy hz ⟨s2,e2,l2,mss,lm,hm,d2⟩ hb;rw[List.getElem?_map] at hy;obtain⟨f,hfi⟩:∃f,fns[i]?=some f:=by cases e:fns[i]? with|none=>rw[e] at hy; cases hy|some f=>exact⟨f,rfl⟩
     rw[hfi] at hy;cases hy;unfold stx at hz;rw[List.getElem?_map,List.getElem?_map] at hz;obtain⟨l,hli⟩:∃l,ls[i]?=some l:=by cases e:ls[i]? with|none=>rw[e] at hz; cases hz|some l=>exact⟨l,rfl⟩
     rw[hli] at hz;cases hz;have hfn:=(hf f (List.mem_of_getElem? hfi)).mono (s01.trans s2);have lmem:=List.mem_of_getElem? hli;have s3:=Same.new (o:=.tup [V.ref f.fa,V.str (tx l)]) hb;refine⟨b,_,rfl,SqT.of zab,rfl,_,_,rfl,_,_,rfl,rfl,?_⟩;generalize upd H2 b (.tup [V.ref f.fa,V.str (tx l)])=H3 at s3 ⊢;have s23:=s2.trans s3;refine⟨_,rfl,f.fa,_,_,_,rfl,rfl,s3.tup hfn.fn,at0,_,rfl,_,rfl,λx dx2 nx2 ndx2 nex2=>?_⟩;have s4:Same H3 (ers x (upd (upd H3 dx2 (.own x)) x (.ins t.zaj dx2 []))):=λb o e=>by rw[zdi,zao (zaf e nx2),zal (zaf e ndx2)];exact e
     have bad:zu8 (rlF fns) (cnF fns) l=none->∀H',Same H1 H'->E (.ref t.za2) none H':=λhn H' s'=>q2 (by unfold z2b; rw[if_pos hlen]; exact zp0 lmem hn) H' (s01.trans s');refine⟨x,dx2,fl,fns,l,rfl,zab,hF.mono (s23.trans s4),ok,hl l lmem,λhb cl H5 s5 h5=>⟨rfl,?_⟩,λhb H5 s5=>bad (by unfold zu8; rw[if_neg hb]) H5 ((s23.trans s4).trans s5)⟩;obtain⟨l5,p5,ho5,-⟩:=h5.ob;have s35:=s4.trans s5;have eA:zu8 (rlF fns) (cnF fns) l=(z2s (rlF fns) (cnF fns) l).map (·.1):=by rw[z0e,if_pos hb]
     refine⟨x,_,_,rfl,ho5,rfl,⟨x,dx2,fl,cl⟩,fns,l,rfl,h5,λms r6 hms v H6 s6 h6 hv=>?_,λhn H6 s6=>bad (by rw[eA,hn]; rfl) H6 ((s23.trans (zc6 s35 nx2)).trans s6)⟩;have eAll:zu8 (rlF fns) (cnF fns) l=some ms:=by rw[eA,hms]; rfl
     have s36:=(zc6 s35 nx2).trans s6;have s16:=s23.trans s36;have e3:=s3 _ _ e2;have npx:=zaf e3 nx2;have e5:ers x H5 pL=some (.lst acc):=by rw[zao npx]; exact s35 _ _ e3
     have e6:=s36 _ _ e3;refine⟨le2,λq hq=>?_⟩;have s7:=Same.new (o:=.tup [V.str f.name,v]) hq;have npq:=zaf e6 hq;refine⟨s7 _ _ e6,(s16.trans s7).upd hpL,zab,by rw[List.length_append,l2]; rfl,mss++[ms],by rw[List.length_append,lm]; rfl,λk ms' hk=>?_,λk ms' y hk hy=>?_⟩
     . rcases zgb hk with⟨_,hk⟩|⟨rfl,rfl⟩
       . exact hm k ms' hk
       . rw[lm];exact⟨l,hli,eAll⟩
     . rw[zdi];rcases zgb hk with⟨hk1,hk⟩|⟨rfl,rfl⟩
       . rcases zgb hy with⟨_,hy⟩|⟨hk2,_⟩
         . exact DatV.mono (Same.ers ((s3.trans s36).trans s7)) _ _ (d2 k ms' y hk hy)
         . omega
       . rcases zgb hy with⟨hk2,_⟩|⟨_,rfl⟩
         . omega
         . rw[lm,zgl hfi];exact zg7 (SqT.of (by rw[zao npq.symm]; exact zab)) (zdo _) (DatV.mono ((z5v e5).trans (Same.ers (zaz.trans s7))) _ _ hv)
   . rintro acc H2 ⟨s2,e2,l2,mss,lm,hm,d2⟩;have lmin:min (fns.map λf=>V.ref f.fa).length (stx ls).length=ls.length:=by omega
     rw[lmin] at l2 lm;have hall:zx1 (zu8 (rlF fns) (cnF fns)) ls=some mss:=zq9 lm λk a b ha hb=>by obtain⟨l,h1,h2⟩:=hm k b hb;rw[ha] at h1;cases h1;exact h2
     exact q1 mss (by unfold z2b; rw[if_pos hlen]; exact hall) _ H2 (s01.trans s2) (z0x (SqL.of e2) (by omega) λk ms x hk hx=>DatV.mono zaz _ _ (d2 k ms x hk hx))
theorem zml:FnScope ["_law_script","_law_k","_law_seed"] ["_law_script","_law_k"] (zah zlp):=by walk_at "s"
theorem zqn (T:Txt K mg t):FnOk P w K mg base CX0 1 t.zt1 t.zt7 ["_law_script","_law_k"] (zvt K):=by
 refine T.zh0.F.ok zml (λvs H Q E h=>?_) (λcdv A outer s H vs Q E hr h=>?_)
 . obtain⟨a,ns,k,rfl,hS,hl,h0,h1,q⟩:=h;rfl
 . obtain⟨a,ns,k,rfl,hS,hl,h0,h1,q⟩:=h;refine⟨_,(@zad _ _ _ _ _ (@zbi _ _ _ _ _ _ _ _ (@zan _ _ _ _ _ _ _ _ (zc2 zjg) (pvC 1) (zam (show zbv _ (.builtin "len") (zh9 K) from zay) (by rfl) T.b_len zbk (@zaa _ _ _ _ _ (pvC 0) zac (by rfl))) (zax _)) (@zag _ _ _ (@zat _ _ _ _ (@zaq _ _ _ _ _ _ _ (show IxR _ (zim K) from zbb) (pvC 0) (pvC 1) (λ_ _=>rfl)))) zau) (@zad _ _ _ _ _ (@zas _ _ 2 _ _ _ _ zml.nd rfl (Or.inl rfl) zae (by rfl) (by walk_at "f")) (@zoe _ _ _ _ _ (@zbi _ _ _ _ _ _ _ _ (@zan _ _ _ _ _ _ _ _ (zc2 zuf) (zam (show zbv _ (.builtin "len") (zh9 K) from zay) (by rfl) T.b_len zbk (@zaa _ _ _ _ _ (pvC 0) zac (by rfl))) zae (zax _)) (@zag _ _ _ (@zas _ _ 2 _ _ _ _ zml.nd rfl (Or.inl rfl) (@zav _ _ _ _ _ _ _ _ (zhu zek) (@zaq _ _ _ _ _ _ _ (show IxR _ (zim K) from zbb) (pvC 0) (@zav _ _ _ _ _ _ _ _ (zhu zek) (pvC 1) (zam (show zbv _ (.builtin "len") (zh9 K) from zay) (by rfl) T.b_len zbk (@zaa _ _ _ _ _ (pvC 0) zac (by rfl)))) (λ_ _=>rfl)) zae) (by rfl) (by walk_at "f"))) zau) (@zag _ _ _ (@zat _ _ _ _ (@zav _ _ _ _ _ _ _ _ (zhu zek) (@zav _ _ _ _ _ _ _ _ (zhu zg5) (@zav _ _ _ _ _ _ _ _ (zc2 zbp) (@zav _ _ _ _ _ _ _ _ (zc2 zbp) (pvC 2) (@zav _ _ _ _ _ _ _ _ (zhu zg5) zae (pvC 1))) zae) (@zav _ _ _ _ _ _ _ _ (zc2 zbp) (@zav _ _ _ _ _ _ _ _ (zc2 zbp) (pvC 2) (@zav _ _ _ _ _ _ _ _ (zhu zg5) zae (pvC 1))) zae)) zae)))))),?_⟩;have hlen:(ns.map V.int).length=ns.length:=List.length_map _;refine⟨_,rfl,_,rfl,a,_,rfl,.inl hS,_,_,rfl,rfl,_,rfl,?_⟩;refine z3j (λc=>?_) (λc=>?_)
   . have c:=zb7 c;rw[hlen] at c;refine⟨_,rfl,_,rfl,a,_,_,_,rfl,rfl,hS,zvy h0 c,vq ?_ q⟩;unfold zfm;rw[if_pos c]
   have c:¬ k<(ns.length:Int):=by rw[decide_eq_true_eq,hlen] at c; exact c
   refine⟨λσ H'=>H'=H/\σ=[some (.ref a),some (.int k),some (.int (zou ns k))]/\0<=zou ns k/\zou ns k<999983,?_,?_⟩
   . refine⟨_,rfl,a,_,rfl,.inl hS,_,_,rfl,rfl,_,rfl,?_⟩;refine z3j (λc2=>?_) (λc2=>?_)
     . have c2:=zb7 c2;rw[hlen] at c2;have m:=zeb (ns.getD (k%(ns.length:Int)).toNat 0) 999983 (by decide);have es:zou ns k=ns.getD (k%(ns.length:Int)).toNat 0%999983:=by unfold zou; rw[if_pos c2]
       have hz:=zvy (cs:=ns) (i:=k%(ns.length:Int)) (Int.emod_nonneg _ (by omega)) (Int.emod_lt_of_pos _ c2);refine⟨_,rfl,_,rfl,_,rfl,a,_,rfl,.inl hS,_,_,rfl,rfl,(by rw[hlen]; exact c2),a,_,_,_,rfl,rfl,hS,(by rw[hlen]; exact hz),_,_,rfl,rfl,(show(0:Int)<999983 by decide),rfl,?_,?_,?_⟩
       . rw[es];rfl
       . rw[es]; exact m.1
       . rw[es]; exact m.2
     . have es:zou ns k=7:=by unfold zou;rw[if_neg (by rw[decide_eq_true_eq,hlen] at c2; exact c2)]
       rw[es];exact⟨rfl,rfl,by decide,by decide⟩
   . rintro σ H' ⟨rfl,rfl,b1,b2⟩;refine⟨_,rfl,_,rfl,_,_,rfl,rfl,.inl ⟨by decide,by decide⟩,_,_,rfl,rfl,_,_,rfl,rfl,_,rfl,_,rfl,_,_,rfl,rfl,.inl ⟨by decide,by decide⟩,_,_,rfl,rfl,_,_,rfl,rfl,_,_,rfl,rfl,.inl ⟨by omega,by omega⟩,_,_,rfl,rfl,(show(0:Int)<1000003 by decide),vq ?_ q⟩;unfold zfm;rw[if_neg c]
theorem zp4:FnScope ["_law_cell_here","_law_j","_law_many","_law_primes"] ["_law_cell_here","_law_j","_law_many"] (zah zln):=by walk_at "s"
theorem zew (T:Txt K mg t):FnOk P w K mg base CX0 1 t.zt5 t.zub ["_law_cell_here","_law_j","_law_many"] (zv2 K):=by
 refine T.zc7.F.ok zp4 (λvs H Q E h=>?_) (λcdv A outer s H vs Q E hr h=>?_)
 . obtain⟨c,j,m,rfl,h0,h1,q⟩:=h;rfl
 . obtain⟨c,j,m,rfl,h0,h1,q⟩:=h;refine⟨_,(@zad _ _ _ _ _ (@zas _ _ 3 _ _ _ _ zp4.nd rfl (Or.inl rfl) (@zyi _ _ [V.int 10007,V.int 10009,V.int 10037,V.int 10039,V.int 10061,V.int 10067,V.int 10069,V.int 10079] (by kernel_rfl)) (by rfl) (by walk_at "f")) (@zag _ _ _ (@zat _ _ _ _ (@zav _ _ _ _ _ _ _ _ (zhu zek) (@zav _ _ _ _ _ _ _ _ (zhu zek) (@zav _ _ _ _ _ _ _ _ (zc2 zbp) (@zav _ _ _ _ _ _ _ _ (zhu zg5) (pvC 0) zae) (@zav _ _ _ _ _ _ _ _ (zhu zg5) zae (pvC 1))) (@zaq _ _ _ _ _ _ _ (show IxR _ (zcz K) from zak) (pvC 3) (@zav _ _ _ _ _ _ _ _ (zhu zek) (pvC 1) zae) (λ_ _=>rfl))) (pvC 2))))),?_⟩;refine⟨(by show 8<=sizeLine; decide),λp hp=>?_⟩;exact⟨_,rfl,_,_,rfl,rfl,.inr ⟨by decide,by decide⟩,_,rfl,_,_,rfl,rfl,.inl ⟨by decide,by decide⟩,_,_,rfl,rfl,_,rfl,_,rfl,_,_,rfl,rfl,(show(0:Int)<8 by decide),p,_,_,_,rfl,rfl,SqT.of zab,z5i j,_,_,rfl,rfl,z2c j,_,rfl,_,_,rfl,rfl,h1,q _ (Same.new hp)⟩
theorem zhw:FnScope ["_law_cell_here","_law_k","_law_letters","_law_size","_law_some","_law_name_here"] ["_law_cell_here","_law_k"] (zah zlr):=by walk_at "s"
theorem zyd (T:Txt K mg t):FnOk P w K mg base CX0 2 t.zt4 t.zua ["_law_cell_here","_law_k"] (zw9 K):=by
 have G_l_part:=zew (P:=P) (w:=w) (base:=base) T;refine T.zud.F.ok zhw (λvs H Q E h=>?_) (λcdv A outer s H vs Q E hr h=>?_)
 . obtain⟨b,k,rfl,q⟩:=h;rfl
 . obtain⟨b,k,rfl,q⟩:=h;refine⟨_,(@zad _ _ _ _ _ (@zas _ _ 2 _ _ _ _ zhw.nd rfl (Or.inr rfl) za5 (by rfl) (by walk_at "f")) (@zad _ _ _ _ _ (@zas _ _ 3 _ _ _ _ zhw.nd rfl (Or.inl rfl) (@zav _ _ _ _ _ _ _ _ (zc2 zbp) zae (za6 T.zc7 G_l_part (hr.mono (by decide)) (@zaa _ _ _ _ _ (pvC 0) (@zaa _ _ _ _ _ zae (@zaa _ _ _ _ _ zae zac (by rfl)) (by rfl)) (by rfl)))) (by rfl) (by walk_at "f")) (@zad _ _ _ _ _ (zjx (i:=4) zhw.nd rfl (Or.inl rfl) (N':=["_law_j","_law_letters","_law_cell_here"]) (js:=[none,some 2,some 0]) (by kernel_rfl) rfl (zb4 rfl T.b_range (@zaa _ _ _ _ _ (pvC 3) zac (by rfl))) zb6 (λ_ _ _ _=>(zar (i:=0) (show(["_law_j","_law_letters","_law_cell_here"]:List Str).Nodup by decide +kernel) rfl (Or.inl rfl) (.inr rfl))) (λ_ _ _ _=>zcw) (λ_ _ _ _=>(@zaq _ _ _ _ _ _ _ zo6 (pvC 1) (za6 T.zc7 G_l_part (hr.mono (by decide)) (@zaa _ _ _ _ _ (pvC 2) (@zaa _ _ _ _ _ (pvC 0) (@zaa _ _ _ _ _ zae zac (by rfl)) (by rfl)) (by rfl))) (λ_ _=>rfl))) (by rfl)) (@zad _ _ _ _ _ (zie (@zaq _ _ _ _ _ _ _ zo6 (pvC 2) (@zav _ _ _ _ _ _ _ _ (zhu zek) (@zav _ _ _ _ _ _ _ _ (zc2 zbp) (za6 T.zc7 G_l_part (hr.mono (by decide)) (@zaa _ _ _ _ _ (pvC 0) (@zaa _ _ _ _ _ zae (@zaa _ _ _ _ _ zae zac (by rfl)) (by rfl)) (by rfl))) (pvC 1)) zae) (λ_ _=>rfl)) (zko (pvC 4) (za6 T.zc7 G_l_part (hr.mono (by decide)) (@zaa _ _ _ _ _ (pvC 0) (@zaa _ _ _ _ _ zae (@zaa _ _ _ _ _ (pvC 3) zac (by rfl)) (by rfl)) (by rfl))) zfo)) (@zad _ _ _ _ _ (@zas _ _ 5 _ _ _ _ zhw.nd rfl (Or.inl rfl) (zeh qb5 qca qcb zin za5 (@zaa _ _ _ _ _ (pvC 4) zac (by rfl))) (by rfl) (by walk_at "f")) (@zad _ _ _ _ _ (@zbi _ _ _ _ _ _ _ _ (@zan _ _ _ _ _ _ _ _ zgk (pvC 5) (@zyi _ _ [V.str "fn",V.str "in",V.str "new",V.str "get",V.str "put",V.str "call",V.str "out",V.str "if",V.str "while",V.str "else",V.str "end",V.str "back"] (by kernel_rfl)) (by with_unfolding_all rfl)) (@zag _ _ _ (@zat _ _ _ _ (@zav _ _ _ _ _ _ _ _ zbf (pvC 5) za5))) zau) (@zag _ _ _ (@zat _ _ _ _ (pvC 5))))))))),?_⟩;have wb:=zye b;have ab:=z0z b;have lf:K12.lets.length<=sizeLine:=by decide +kernel
   refine⟨_,rfl,b,8,8,rfl,by decide,by decide,λH1 s1=>⟨_,_,rfl,rfl,?_⟩⟩;show(λx H1=>_) (V.int (1+zd3 b 8 8)) H1;rw[<- wb.2.2];refine⟨_,rfl,_,rfl,by omega,by omega,λu hu=>(let Jv1:Nat->List V->Hp->Prop:=λi acc H2=>Same H1 H2/\H2 u=some (.lst acc)/\acc=(List.range i).map λj:Nat=>V.str (tx [K41.lc (zd3 b j 26)]); zd0 (lo:=0) (n:=wsz b) (by omega) Jv1 ⟨Same.new hu,zab,rfl⟩ ?_ ?_ ?_)⟩
   . rintro i acc H2 hi ⟨s2,e2,rfl⟩;exact⟨e2,by rw[List.length_map,qa9]; exact qaj _⟩
   . rintro i acc H2 hi ⟨s2,e2,rfl⟩;have bi:=zdb b i 26 (by decide);refine⟨_,rfl,_,rfl,_,rfl,b,0+(i:Int),26,rfl,by omega,by decide,λH3 s3=>⟨_,_,K41.lc (zd3 b (0+(i:Int)) 26),rfl,rfl,lf,?_,s3 _ _ e2,(s2.trans s3).upd hu,zab,?_⟩⟩
     . exact K41.lc_at (z:=zd3 b (0+(i:Int)) 26) (by rw[qb3]; exact bi.1) (by rw[qb3]; exact bi.2)
     . rw[qby,List.map_append,qb3];rfl
   rintro acc H2 ⟨s2,e2,rfl⟩;have bk:=zeb (zd3 b 10 26+k) 26 (by decide);have s02:=s1.trans s2;have hu0:H u=none:=s1.free hu;refine⟨_,rfl,_,rfl,b,10,26,rfl,by decide,by decide,λH3 s3=>⟨_,rfl,_,_,rfl,rfl,_,_,rfl,rfl,(show(0:Int)<26 by decide),_,_,_,rfl,rfl,lf,K41.lc_at bk.1 bk.2,?_⟩⟩;refine⟨_,rfl,_,rfl,_,rfl,b,9,(wsz b:Int),rfl,by decide,by omega,λH4 s4=>?_⟩;have e4:=s4 _ _ (s3 _ _ e2);rw[show zd3 b 9 (wsz b:Int)=((wat b:Nat):Int) by rw[ab.2,wb.2.2]];refine⟨u,_,_,_,rfl,rfl,e4,ixI (by omega) (by rw[List.length_map,qa9]; omega),?_⟩;rw[qbu,show(V.str ⟨#[K41.lc ((zd3 b 10 26+k)%26)]⟩)=V.str (tx [K41.lc ((zd3 b 10 26+k)%26)]) from rfl,z3f];have s5:Same H (upd H4 u (.lst ((((wk b k).map λc=>[c]).map tx).map V.str))):=((s02.trans s3).trans s4).upd hu0;have e5:=zab (H:=H4) (a:=u) (o:=.lst ((((wk b k).map λc=>[c]).map tx).map V.str));generalize upd H4 u (.lst ((((wk b k).map λc=>[c]).map tx).map V.str))=H5 at s5 e5 ⊢;have wl:=ztd b k;have fs:((wk b k).map λc=>[c]).flatten=wk b k:=zpz _;refine⟨rfl,_,rfl,_,u,_,rfl,rfl,SqL.of e5,zlx (by rw[fs]; omega),?_⟩;rw[zhp,fs];refine⟨_,rfl,(by show 12<=sizeLine; decide),λtl htl=>⟨tl,_,rfl,.inr (SqT.of zab),rfl,(by decide +kernel),_,rfl,?_⟩⟩;have s6:=s5.trans (Same.new (o:=.tup K41.tkV) htl);refine z3j (λc=>?_) (λc=>?_)
   . refine⟨_,rfl,_,_,rfl,rfl,(by rw[zcs,wl]; exact zb0 (by show wsz b+1<1000000; omega)),vq ?_ (q _ s6)⟩;have c:inV (.str (tx (wk b k))) K41.tkV=true:=c;unfold nmL;rw[if_pos c,show(("z":Str))=tx [122] from rfl,zfs]
   . refine⟨_,rfl,vq ?_ (q _ s6)⟩;have c:¬ inV (.str (tx (wk b k))) K41.tkV=true:=c;unfold nmL;rw[if_neg c]
theorem zdf:FnScope ["_law_cell_here","_law_k","_law_base","_law_params","_law_more","_law_rows","_law_names"] ["_law_cell_here","_law_k","_law_base"] (zah zfp):=by walk_at "s"
theorem zn0 (T:Txt K mg t):FnOk P w K mg base CX0 3 t.zkz t.zk4 ["_law_cell_here","_law_k","_law_base"] (zn7 K):=by
 have G_l_part:=zew (P:=P) (w:=w) (base:=base) T;have G_l_name:=zyd (P:=P) (w:=w) (base:=base) T;refine T.znz.F.ok zdf (λvs H Q E h=>?_) (λcdv A outer s H vs Q E hr h=>?_)
 . obtain⟨c,k,b,rfl,k0,k1,q⟩:=h;rfl
 . obtain⟨c,k,b,rfl,k0,k1,q⟩:=h;refine⟨_,(@zad _ _ _ _ _ (@zas _ _ 3 _ _ _ _ zdf.nd rfl (Or.inr rfl) (za6 T.zc7 G_l_part (hr.mono (by decide)) (@zaa _ _ _ _ _ (pvC 0) (@zaa _ _ _ _ _ (pvC 1) (@zaa _ _ _ _ _ zae zac (by rfl)) (by rfl)) (by rfl))) (by rfl) (by walk_at "f")) (@zad _ _ _ _ _ (@zas _ _ 4 _ _ _ _ zdf.nd rfl (Or.inl rfl) (za6 T.zc7 G_l_part (hr.mono (by decide)) (@zaa _ _ _ _ _ (pvC 0) (@zaa _ _ _ _ _ (@zav _ _ _ _ _ _ _ _ (zc2 zbp) (pvC 1) zae) (@zaa _ _ _ _ _ zae zac (by rfl)) (by rfl)) (by rfl))) (by rfl) (by walk_at "f")) (@zad _ _ _ _ _ (zjx (i:=5) zdf.nd rfl (Or.inl rfl) (N':=["_law_j","_law_base","_law_cell_here","_law_params"]) (js:=[none,some 2,some 0,some 3]) (by kernel_rfl) rfl (zb4 rfl T.b_range (@zaa _ _ _ _ _ (pvC 4) zac (by rfl))) zb6 (λ_ _ _ _=>(zar (i:=0) (show(["_law_j","_law_base","_law_cell_here","_law_params"]:List Str).Nodup by decide +kernel) rfl (Or.inl rfl) (.inr rfl))) (λ_ _ _ _=>zcw) (λ_ _ _ _=>(@zby _ _ _ _ _ (@zaa _ _ _ _ _ za5 (@zaa _ _ _ _ _ (za6 T.zud G_l_name (hr.mono (by decide)) (@zaa _ _ _ _ _ (pvC 1) (@zaa _ _ _ _ _ (@zav _ _ _ _ _ _ _ _ (zc2 zbp) (pvC 3) (pvC 0)) zac (by rfl)) (by rfl))) (@zaa _ _ _ _ _ (@zav _ _ _ _ _ _ _ _ (zhu zek) (pvC 2) (@zav _ _ _ _ _ _ _ _ (zhu zv9) zae zae)) zac (by rfl)) (by rfl)) (by rfl)))) (by rfl)) (@zad _ _ _ _ _ (@zas _ _ 5 _ _ _ _ zdf.nd rfl (Or.inl rfl) (@zav _ _ _ _ _ _ _ _ z1c (@zav _ _ _ _ _ _ _ _ z1c (pvC 5) (@zav _ _ _ _ _ _ _ _ z0y (@zb9 _ _ _ _ (@zaa _ _ _ _ _ (@zby _ _ _ _ _ (@zaa _ _ _ _ _ za5 (@zaa _ _ _ _ _ zae zac (by rfl)) (by rfl))) (@zaa _ _ _ _ _ (@zby _ _ _ _ _ (@zaa _ _ _ _ _ za5 zac (by rfl))) (@zaa _ _ _ _ _ (@zby _ _ _ _ _ (@zaa _ _ _ _ _ za5 zac (by rfl))) zac (by rfl)) (by rfl)) (by rfl))) (za6 T.zc7 G_l_part (hr.mono (by decide)) (@zaa _ _ _ _ _ (pvC 0) (@zaa _ _ _ _ _ (@zav _ _ _ _ _ _ _ _ (zc2 zbp) (pvC 1) zae) (@zaa _ _ _ _ _ zae zac (by rfl)) (by rfl)) (by rfl))))) (@zb9 _ _ _ _ (@zaa _ _ _ _ _ (@zby _ _ _ _ _ (@zaa _ _ _ _ _ za5 (@zaa _ _ _ _ _ zae zac (by rfl)) (by rfl))) zac (by rfl)))) (by rfl) (by walk_at "f")) (@zad _ _ _ _ _ (@zas _ _ 6 _ _ _ _ zdf.nd rfl (Or.inl rfl) (zb3 ze8 (by rfl) T.b_tuple ze3 (@zaa _ _ _ _ _ (ze2 (N':=["_law_j","_law_base"]) (js:=[none,some 2]) (by kernel_rfl) rfl (zb4 rfl T.b_range (@zaa _ _ _ _ _ (pvC 3) zac (by rfl))) zb6 (λ_ _ _ _=>(zar (i:=0) (show(["_law_j","_law_base"]:List Str).Nodup by decide +kernel) rfl (Or.inl rfl) (.inr rfl))) (λ_ _ _ _=>zcw) (λ_ _ _ _=>(za6 T.zud G_l_name (hr.mono (by decide)) (@zaa _ _ _ _ _ (pvC 1) (@zaa _ _ _ _ _ (pvC 0) zac (by rfl)) (by rfl))))) zac (by rfl))) (by rfl) (by walk_at "f")) (@zag _ _ _ (@zat _ _ _ _ (@zb9 _ _ _ _ (@zaa _ _ _ _ _ (@zby _ _ _ _ _ (@zaa _ _ _ _ _ (za6 T.zud G_l_name (hr.mono (by decide)) (@zaa _ _ _ _ _ (pvC 2) (@zaa _ _ _ _ _ (@zav _ _ _ _ _ _ _ _ (zc2 zbp) (pvC 1) zae) zac (by rfl)) (by rfl))) (@zaa _ _ _ _ _ (zf7 zdw (@zav _ _ _ _ _ _ _ _ (zhu zek) (pvC 1) zae) zae (zax _)) (@zaa _ _ _ _ _ (pvC 6) (@zaa _ _ _ _ _ (zb3 ze8 (by rfl) T.b_tuple ze3 (@zaa _ _ _ _ _ (pvC 5) zac (by rfl))) zac (by rfl)) (by rfl)) (by rfl)) (by rfl))) (@zaa _ _ _ _ _ (@zav _ _ _ _ _ _ _ _ (zc2 zbp) (pvC 3) (pvC 4)) zac (by rfl)) (by rfl)))))))))),?_⟩;have nat:∀(j m:Int),0<m->∃n:Nat,zd3 c j m=n/\(n:Int)<m:=λj m hm=>by have h:=zdb c j m hm;obtain⟨n,e⟩:=qa5 h.1;exact⟨n,e,by omega⟩
   obtain⟨p,ep,bp⟩:=nat k 4 (by decide);obtain⟨m,em,bm⟩:=nat (k+3) 4 (by decide);obtain⟨n,en,bn⟩:=nat (k+5) 3 (by decide);refine⟨_,rfl,_,rfl,c,k,4,rfl,k0,by decide,λH1 s1=>?_⟩;refine⟨_,rfl,_,rfl,_,_,rfl,rfl,c,k+3,4,rfl,by omega,by decide,λG0 s2=>?_⟩;have sG0:=s1.trans s2;rw[ep,em];refine⟨_,rfl,_,rfl,by omega,by omega,λu hu=>(let Jv1:Nat->List V->Hp->Prop:=λi acc H2=>Same G0 H2/\H2 u=some (.lst acc)/\∃rr:List K41.RR,acc=(rr.map λx=>V.ref x.w.r)/\rr.map (λx=>x.w.k)=List.replicate i ("copy":Str)/\((rr.map (·.d)).flatMap K12.rowStrs=(List.range i).map λj:Nat=>nmL b ((p:Int)+(j:Int)))/\∀x∈rr,z3p K (ers u H2) x; zd0 (lo:=0) (n:=m) (by omega) Jv1 ⟨Same.new hu,zab,[],rfl,rfl,rfl,λx hx=>by cases hx⟩ ?_ ?_ ?_)⟩
   . rintro i acc H2 hi ⟨s2',e2',rr,rfl,kk,_,_⟩;refine⟨e2',?_⟩;have:=qa0 List.length kk;rw[List.length_map,qcz] at this;rw[List.length_map,this];exact qaj _
   . rintro i acc H2 hi ⟨s2',e2',rr,rfl,kk,dd,hrr⟩;refine⟨_,rfl,_,rfl,_,rfl,_,_,rfl,rfl,b,(p:Int)+(0+(i:Int)),rfl,λH4 s4=>?_⟩;refine⟨_,rfl,_,_,rfl,rfl,⟨by decide,by decide,by decide⟩,_,_,rfl,rfl,z37,le3,λcA hcA=>?_⟩;have e4:=s4 _ _ e2';have nc:cA≠u:=(zaf e4 hcA).symm;have yc:=Same.new (o:=.tup [V.str "copy",V.str (nmL b ((p:Int)+(0+(i:Int)))),V.int (c%2 ^ (48:Int).toNat)]) hcA;have nm1:=zxz b ((p:Int)+(0+(i:Int)));refine⟨yc _ _ e4,((s2'.trans s4).trans yc).upd hu,zab,rr++[Bg.rcopyV cA (nmL b ((p:Int)+(0+(i:Int)))) (c%2 ^ (48:Int).toNat)],(by rw[List.map_append]; rfl),(by rw[List.map_append,kk,List.replicate_succ']; rfl),(by rw[List.map_append,qdi,dd,qby,List.map_append,qb3]; rfl),λx hx=>?_⟩;rw[zdi];rcases qbk.mp hx with h|h
     . exact(hrr x h).mono (s4.trans yc).ers
     . cases qa4.mp h;have hT:SqT K (ers u (upd H4 cA (.tup [V.str "copy",V.str (nmL b ((p:Int)+(0+(i:Int)))),V.int (c%2 ^ (48:Int).toNat)]))) cA [V.str "copy",V.str (nmL b ((p:Int)+(0+(i:Int)))),V.int (c%2 ^ (48:Int).toNat)]:=SqT.of (by rw[zao nc]; exact zab);exact⟨Bg.ok_copyV hT nm1,ziv.up (n:=1) (ziv.tup hT (.cons (.str (by decide +kernel)) (.cons (.str nm1.2) (.cons .int .nil)))) (by decide)⟩
   rintro acc G2 ⟨s2',e2',rr,rfl,kk,dd,hrr⟩;have lrr:rr.length=m:=by have:=qa0 List.length kk;rwa [List.length_map,qcz] at this
   refine⟨_,rfl,le2,λt1 ht1=>⟨le1,λt2 ht2=>⟨le1,λt3 ht3=>⟨le3,λL1 hL1=>⟨_,rfl,_,rfl,_,_,rfl,rfl,c,k+5,3,rfl,by omega,by decide,λG7 s7=>?_⟩⟩⟩⟩⟩;rw[en];refine⟨L1,_,_,rfl,rfl,s7 _ _ zab,by omega,by omega,zb0 (by show 3 * ((n:Int)).toNat<1000000; omega),λL2 hL2=>?_⟩;rw[qbu];have v1:=Same.new (o:=.tup [V.str "if",V.int 0]) ht1;have v2:=Same.new (o:=.tup [V.str "else"]) ht2;have v3:=Same.new (o:=.tup [V.str "end"]) ht3;have v4:=Same.new (o:=.lst [V.ref t1,V.ref t2,V.ref t3]) hL1;have v5:=s7.trans (Same.new (o:=.lst (List.replicate n [V.ref t1,V.ref t2,V.ref t3]).flatten) hL2);have o1:=v5 _ _ (v4 _ _ (v3 _ _ (v2 _ _ (zab (H:=G2) (a:=t1) (o:=.tup [V.str "if",V.int 0])))));have o2:=v5 _ _ (v4 _ _ (v3 _ _ (zab (H:=upd G2 t1 (.tup [V.str "if",V.int 0])) (a:=t2) (o:=.tup [V.str "else"]))));have o3:=v5 _ _ (v4 _ _ (zab (H:=upd (upd G2 t1 (.tup [V.str "if",V.int 0])) t2 (.tup [V.str "else"])) (a:=t3) (o:=.tup [V.str "end"])));have o5:=zab (H:=G7) (a:=L2) (o:=.lst (List.replicate n [V.ref t1,V.ref t2,V.ref t3]).flatten);have v15:=(((v1.trans v2).trans v3).trans v4).trans v5;generalize upd G7 L2 (.lst (List.replicate n [V.ref t1,V.ref t2,V.ref t3]).flatten)=G3 at o1 o2 o3 o5 v15 ⊢;have l3:(List.replicate n [V.ref t1,V.ref t2,V.ref t3]).flatten.length=n * 3:=zoa _ _;refine⟨u,L2,_,_,rfl,rfl,v15 _ _ e2',o5,zb0 (by rw[List.length_map,l3,lrr]; omega),λL3 hL3=>⟨le2,λt4 ht4=>⟨le1,λL4 hL4=>?_⟩⟩⟩;have w3:=Same.new (o:=.lst ((rr.map λx=>V.ref x.w.r)++(List.replicate n [V.ref t1,V.ref t2,V.ref t3]).flatten)) hL3;have w4:=Same.new (o:=.tup [V.str "back",V.int 0]) ht4;have w5:=Same.new (o:=.lst [V.ref t4]) hL4;refine⟨L3,L4,_,_,rfl,rfl,w5 _ _ (w4 _ _ zab),zab,zb0 (by rw[List.length_append,List.length_map,l3,lrr]; show m+n * 3+1<1000000; omega),λL5 hL5=>?_⟩;have w6:=Same.new (o:=.lst ((rr.map λx=>V.ref x.w.r)++(List.replicate n [V.ref t1,V.ref t2,V.ref t3]).flatten++[V.ref t4])) hL5;have o4:=w6 _ _ (w5 _ _ (zab (H:=upd G3 L3 (.lst ((rr.map λx=>V.ref x.w.r)++(List.replicate n [V.ref t1,V.ref t2,V.ref t3]).flatten))) (a:=t4) (o:=.tup [V.str "back",V.int 0])));have o6:=zab (H:=upd (upd (upd G3 L3 (.lst ((rr.map λx=>V.ref x.w.r)++(List.replicate n [V.ref t1,V.ref t2,V.ref t3]).flatten))) t4 (.tup [V.str "back",V.int 0])) L4 (.lst [V.ref t4])) (a:=L5) (o:=.lst ((rr.map λx=>V.ref x.w.r)++(List.replicate n [V.ref t1,V.ref t2,V.ref t3]).flatten++[V.ref t4]));have w36:=((w3.trans w4).trans w5).trans w6;generalize upd (upd (upd (upd G3 L3 (.lst ((rr.map λx=>V.ref x.w.r)++(List.replicate n [V.ref t1,V.ref t2,V.ref t3]).flatten))) t4 (.tup [V.str "back",V.int 0])) L4 (.lst [V.ref t4])) L5 (.lst ((rr.map λx=>V.ref x.w.r)++(List.replicate n [V.ref t1,V.ref t2,V.ref t3]).flatten++[V.ref t4]))=G4 at o4 o6 w36 ⊢;have s24:=v15.trans w36;obtain⟨rF,eF,kF,lF,hF,dF⟩:∃rF:List K41.RR,(rr.map λx=>V.ref x.w.r)++(List.replicate n [V.ref t1,V.ref t2,V.ref t3]).flatten++[V.ref t4]=(rF.map λx=>V.ref x.w.r)/\rF.map (λx=>x.w.k)=List.replicate m ("copy":Str)++(List.replicate n [("if":Str),"else","end"]).flatten++[("back":Str)]/\rF.length<=100/\(∀x∈rF,z3p K G4 x)/\(rF.map (·.d)).flatMap K12.rowStrs=(List.range m).map λj:Nat=>nmL b ((p:Int)+(j:Int)):=by
     refine⟨rr++(List.replicate n [K41.rone "if" t1 (.int 0),K41.rnone "else" t2,K41.rnone "end" t3]).flatten++[K41.rone "back" t4 (.int 0)],?_,?_,?_,?_,?_⟩
     . rw[List.map_append,List.map_append,List.map_flatten,List.map_replicate];rfl
     . rw[List.map_append,List.map_append,List.map_flatten,List.map_replicate,kk];rfl
     . rw[List.length_append,List.length_append,zoa,lrr];show m+n * 3+1<=100;omega
     . intro x hx;have r1:SqT K G4 t1 [V.str "if",V.int 0]:=SqT.of (w36 _ _ o1);have r2:SqT K G4 t2 [V.str "else"]:=SqT.of (w36 _ _ o2);have r3:SqT K G4 t3 [V.str "end"]:=SqT.of (w36 _ _ o3);have r4:SqT K G4 t4 [V.str "back",V.int 0]:=SqT.of o4;rcases qbk.mp hx with hx|hx
       . rcases qbk.mp hx with hx|hx
         . exact(hrr x hx).mono (zaz.trans s24)
         . obtain⟨l,hl,hxl⟩:=qev.mp hx;rw[(List.mem_replicate.mp hl).2] at hxl;rcases qay.mp hxl with h|h
           . rw[h]; exact⟨K41.ok_if r1 (K41.at_i 0),ziv.up (n:=1) (ziv.tup r1 (.cons (.str (by decide +kernel)) (.cons .int .nil))) (by decide)⟩
           . rcases qay.mp h with h|h
             . rw[h]; exact⟨K41.ok_else r2,ziv.up (n:=1) (ziv.tup r2 (.cons (.str (by decide +kernel)) .nil)) (by decide)⟩
             . rw[qa4.mp h]; exact⟨K41.ok_end r3,ziv.up (n:=1) (ziv.tup r3 (.cons (.str (by decide +kernel)) .nil)) (by decide)⟩
       . rw[qa4.mp hx]; exact⟨K41.ok_back r4 (K41.at_i 0),ziv.up (n:=1) (ziv.tup r4 (.cons (.str (by decide +kernel)) (.cons .int .nil))) (by decide)⟩
     . rw[List.map_append,List.map_append,qdi,qdi,dd];have e1:(((List.replicate n [K41.rone "if" t1 (.int 0),K41.rnone "else" t2,K41.rnone "end" t3]).flatten).map (·.d)).flatMap K12.rowStrs=[]:=by
         rw[List.flatMap_eq_nil_iff];intro d hd;obtain⟨x,hx,rfl⟩:=qa8.mp hd;obtain⟨l,hl,hxl⟩:=qev.mp hx;rw[(List.mem_replicate.mp hl).2] at hxl;rcases qay.mp hxl with h|h
         . rw[h]; rfl
         . rcases qay.mp h with h|h
           . rw[h]; rfl
           . rw[qa4.mp h]; rfl
       rw[e1,qbf];exact qbf _
   rw[eF] at o6;have s04:=(sG0.trans s2').trans s24;refine⟨_,rfl,_,rfl,by omega,by omega,λnu hnu=>(let Jv2:Nat->List V->Hp->Prop:=λi acc H2=>Same G4 H2/\H2 nu=some (.lst acc)/\acc=((List.range i).map λj:Nat=>nmL b j).map V.str; zd0 (lo:=0) (n:=p) (by omega) Jv2 ⟨Same.new hnu,zab,rfl⟩ ?_ ?_ ?_)⟩
   . rintro i acc H2 hi ⟨sN,eN,rfl⟩;exact⟨eN,by rw[List.length_map,List.length_map,qa9]; exact qaj _⟩
   . rintro i acc H2 hi ⟨sN,eN,rfl⟩;refine⟨_,rfl,_,rfl,b,0+(i:Int),rfl,λH4 s4=>⟨s4 _ _ eN,(sN.trans s4).upd hnu,zab,?_⟩⟩;rw[qby,List.map_append,List.map_append,qb3];rfl
   rintro acc G5 ⟨sN,eN,rfl⟩;refine⟨nu,_,rfl,.inl ⟨SqL.of eN,λq1 hq1=>?_⟩⟩;have x1:=Same.new (o:=.tup (((List.range p).map λj:Nat=>nmL b j).map V.str)) hq1;refine⟨_,rfl,_,rfl,_,_,rfl,rfl,b,k+3,rfl,λG6 s6=>?_⟩;refine⟨_,rfl,_,_,rfl,rfl,(show(0:Int)<2 by decide),rfl,_,rfl,_,rfl,L5,_,rfl,.inl ⟨SqL.of (s6 _ _ (x1 _ _ (sN _ _ o6))),λq2 hq2=>⟨le4,λfa hfa=>?_⟩⟩⟩;refine⟨_,rfl,_,rfl,_,_,rfl,rfl,le2,λe he=>?_⟩;have y2:=Same.new (o:=.tup (rF.map λx=>V.ref x.w.r)) hq2;have y3:=Same.new (o:=.tup [V.str (nmL b (k+3)),V.bl (decide (V.int (k%2)=V.int 1)),V.ref q1,V.ref q2]) hfa;have y4:=Same.new (o:=.lst [V.ref fa,V.int ((p:Int)+(m:Int))]) he;have s56:=x1.trans s6;have s46:=sN.trans s56;have p1:SqT K _ q1 (((List.range p).map λj:Nat=>nmL b j).map V.str):=SqT.of (y4 _ _ (y3 _ _ (y2 _ _ (s6 _ _ (zab (H:=G5) (a:=q1) (o:=.tup (((List.range p).map λj:Nat=>nmL b j).map V.str)))))));have p2:SqT K _ q2 (rF.map λx=>V.ref x.w.r):=SqT.of (y4 _ _ (y3 _ _ zab));have p3:SqT K _ fa [V.str (nmL b (k+3)),V.bl (decide (V.int (k%2)=V.int 1)),V.ref q1,V.ref q2]:=SqT.of (y4 _ _ zab);have eE:=zab (H:=upd (upd G6 q2 (.tup (rF.map λx=>V.ref x.w.r))) fa (.tup [V.str (nmL b (k+3)),V.bl (decide (V.int (k%2)=V.int 1)),V.ref q1,V.ref q2])) (a:=e) (o:=.lst [V.ref fa,V.int ((p:Int)+(m:Int))]);have s4e:=s46.trans ((y2.trans y3).trans y4);have fr:=(s04.trans (s46.trans (y2.trans y3))).free he;have eE':upd (upd (upd G6 q2 (.tup (rF.map λx=>V.ref x.w.r))) fa (.tup [V.str (nmL b (k+3)),V.bl (decide (V.int (k%2)=V.int 1)),V.ref q1,V.ref q2])) e (.lst [V.ref fa,V.int ((p:Int)+(m:Int))]) e=some (.lst [V.ref fa,V.int ((p+m:Nat):Int)]):=eE;have hps:∀s∈(List.range p).map λj:Nat=>nmL b j,K12.Nm s:=λs hs=>by obtain⟨j,_,rfl⟩:=qa8.mp hs;exact zxz b j
   have hrows:∀x∈rF,z3p K (upd (upd (upd G6 q2 (.tup (rF.map λx=>V.ref x.w.r))) fa (.tup [V.str (nmL b (k+3)),V.bl (decide (V.int (k%2)=V.int 1)),V.ref q1,V.ref q2])) e (.lst [V.ref fa,V.int ((p:Int)+(m:Int))])) x:=λx hx=>(hF x hx).mono s4e;have nk:=zxz b (k+3);have rne:rF≠[]:=λz=>by have:=qa0 List.length kF;rw[z,List.length_append] at this;simp at this
   refine q ⟨⟨nmL b (k+3),V.bl (decide (V.int (k%2)=V.int 1)),fa,q1,q2,(List.range p).map λj:Nat=>nmL b j,rF.map (·.w),rF.map (·.d)⟩,p+m,e⟩ _ (s04.trans s4e) fr ⟨SqL.of eE',?_,?_,?_,by show p+m<=24; omega,nk.2,z6p p2 λx hx=>(hrows x hx).1⟩ rfl eE' ?_
   . refine Bg.fn_mk2 rF p3 p2 (λx hx=>(hrows x hx).1) p1 hps (by rw[List.length_map,qa9]; omega) lF ?_;rw[kF];exact z15 m n
   . refine .cons .bl (.cons (ziv.up (n:=1) (ziv.tup (n:=0) p1 (zhi.of λv hv=>?_)) (by decide)) (.cons (ziv.tup (n:=3) p2 (zhi.of λv hv=>?_)) .nil))
     . obtain⟨s,hs,rfl⟩:=qa8.mp hv;exact .str (hps s hs).2
     . obtain⟨x,hx,rfl⟩:=qa8.mp hv;exact(hrows x hx).2
   . exact λz=>rne (qed.mp z)
   . show p+m=(K12.onceL (K12.allOf ((List.range p).map λj:Nat=>nmL b j) (rF.map (·.d)))).length;unfold K12.allOf;rw[dF,z30,z3k (z7e (by omega)),List.length_map,qa9]
theorem zht:FnScope ["_law_cell_here","_law_many","_law_left","_law_sign","_law_one"] ["_law_cell_here","_law_many"] (zah zlj):=by walk_at "s"
theorem zqf (T:Txt K mg t):∀n,FnOk P w K mg base CX0 (n+2) t.zlt t.zlv ["_law_cell_here","_law_many"] (zmj K n)
| 0=>T.zq6.F.ok zht (λvs H Q E h=>by obtain⟨c,m,rfl,hd,m0,q⟩:=h; exact absurd hd (qbq _)) (λcdv A outer s H vs Q E hr h=>by obtain⟨c,m,rfl,hd,m0,q⟩:=h; exact absurd hd (qbq _))
| n+1=>by
 have G_l_tree:FnOk P w K mg base CX0 (n+2) t.zlt t.zlv ["_law_cell_here","_law_many"] (zmj K n):=zqf T n;have G_l_part:=zew (P:=P) (w:=w) (base:=base) T;refine T.zq6.F.ok zht (λvs H Q E h=>?_) (λcdv A outer s H vs Q E hr h=>?_)
 . obtain⟨c,m,rfl,hd,m0,q⟩:=h;rfl
 . obtain⟨c,m,rfl,hd,m0,q⟩:=h;refine⟨_,(@zad _ _ _ _ _ (@zbi _ _ _ _ _ _ _ _ (@PW.pt _ _ _ (@zjf _ _ _ _ _ _ _ (@zan _ _ _ _ _ _ _ _ zdw (pvC 1) zae (zax _)) (@zg0 _ _ _ _ (@zan _ _ _ _ _ _ _ _ (zc2 zuf) (@zav _ _ _ _ _ _ _ _ (zhu zek) (pvC 0) zae) zae (zax _))))) (@zag _ _ _ (@zat _ _ _ _ (@zby _ _ _ _ _ (@zaa _ _ _ _ _ za5 (@zaa _ _ _ _ _ (za6 T.zc7 G_l_part (hr.mono (by omega)) (@zaa _ _ _ _ _ (pvC 0) (@zaa _ _ _ _ _ zae (@zaa _ _ _ _ _ zae zac (by rfl)) (by rfl)) (by rfl))) zac (by rfl)) (by rfl))))) zau) (@zad _ _ _ _ _ (@zbi _ _ _ _ _ _ _ _ (@zan _ _ _ _ _ _ _ _ zdw (pvC 1) zae (zax _)) (@zag _ _ _ (@zat _ _ _ _ (@zby _ _ _ _ _ (@zaa _ _ _ _ _ za5 (@zaa _ _ _ _ _ (@zav _ _ _ _ _ _ _ _ (zhu zek) (@zav _ _ _ _ _ _ _ _ (zhu zg5) (pvC 0) zae) (@zav _ _ _ _ _ _ _ _ (zhu zv9) zae zae)) zac (by rfl)) (by rfl))))) zau) (@zad _ _ _ _ _ (@zas _ _ 2 _ _ _ _ zht.nd rfl (Or.inl rfl) (@zav _ _ _ _ _ _ _ _ (zc2 zbp) zae (@zav _ _ _ _ _ _ _ _ (zhu zek) (pvC 0) (@zav _ _ _ _ _ _ _ _ (zc2 zje) (pvC 1) zae))) (by rfl) (by walk_at "f")) (@zad _ _ _ _ _ (@zas _ _ 3 _ _ _ _ zht.nd rfl (Or.inl rfl) (@zaq _ _ _ _ _ _ _ zo6 za5 (za6 T.zc7 G_l_part (hr.mono (by omega)) (@zaa _ _ _ _ _ (pvC 0) (@zaa _ _ _ _ _ zae (@zaa _ _ _ _ _ zae zac (by rfl)) (by rfl)) (by rfl))) (λ_ _=>rfl)) (by rfl) (by walk_at "f")) (@zad _ _ _ _ _ (@zas _ _ 4 _ _ _ _ zht.nd rfl (Or.inl rfl) (za6 T.zq6 G_l_tree (hr.mono (by omega)) (@zaa _ _ _ _ _ (@zav _ _ _ _ _ _ _ _ (zhu zek) (@zav _ _ _ _ _ _ _ _ (zc2 zbp) (@zav _ _ _ _ _ _ _ _ (zhu zg5) (pvC 0) zae) zae) zae) (@zaa _ _ _ _ _ (pvC 2) zac (by rfl)) (by rfl))) (by rfl) (by walk_at "f")) (@zag _ _ _ (@zat _ _ _ _ (@zby _ _ _ _ _ (@zaa _ _ _ _ _ (pvC 3) (@zaa _ _ _ _ _ (pvC 4) (@zaa _ _ _ _ _ (za6 T.zq6 G_l_tree (hr.mono (by omega)) (@zaa _ _ _ _ _ (@zav _ _ _ _ _ _ _ _ (zhu zek) (@zav _ _ _ _ _ _ _ _ (zc2 zbp) (@zav _ _ _ _ _ _ _ _ (zhu zg5) (pvC 0) zae) zae) zae) (@zaa _ _ _ _ _ (@zav _ _ _ _ _ _ _ _ (zc2 zje) (pvC 1) (pvC 2)) zac (by rfl)) (by rfl))) zac (by rfl)) (by rfl)) (by rfl)))))))))),?_⟩;refine⟨_,rfl,rfl,_,rfl,?_⟩;by_cases hm:m=1
   . subst hm;refine zdz (decide_eq_true rfl) ⟨_,rfl,_,_,rfl,rfl,(show(0:Int)<3 by decide),_,_,rfl,rfl,_,rfl,z3j (λh3=>?_) (λh3=>?_)⟩
     . have b:=zdb c 2 128 (by decide);obtain⟨k,ek⟩:=qa5 b.1;exact⟨_,rfl,c,2,128,rfl,by decide,by decide,λH1 s1=>⟨le2,λp hp=>q (.box k) _ _ (s1.trans (Same.new hp)) (zg7 (SqT.of zab) (zdo _) (by rw[ek]; exact zfr _)) (by show k<8 ^ 16; rw[zle]; omega) (by show k<=127; omega) rfl⟩⟩
     . have b:=zeb (c * 94906267) 281474976710656 (by decide);obtain⟨k,ek⟩:=qa5 b.1;refine⟨_,rfl,rfl,_,rfl,zdz (decide_eq_true rfl) ⟨_,rfl,_,_,rfl,rfl,.inr ⟨by decide,by decide⟩,_,_,rfl,rfl,⟨by decide,by decide,by decide⟩,_,_,rfl,rfl,z37,le2,λp hp=>q (.num k) _ _ (Same.new hp) (zg7 (SqT.of zab) (zdo _) ?_) (by show k<8 ^ 16; rw[zle]; omega) trivial rfl⟩⟩;show DatV K _ (.int k) (V.int (c * 94906267%2 ^ (48:Int).toNat));rw[pw48,ek];exact zfr _
   have h1:¬ decide (V.int (m:Int)=V.int 1)=true:=λh=>hm (by have:=V.int.inj (zb7 h); omega);refine zdd h1 (z3v ⟨_,rfl,rfl,_,rfl,zdd h1 ?_⟩);have lb:=zeb c ((m:Int) - 1) (by omega);obtain⟨L,eL⟩:=qa5 (a:=1+c%((m:Int) - 1)) (by omega);have L1:1<=L:=by omega
   have L2:L<m:=by omega
   refine⟨_,rfl,_,rfl,_,_,rfl,rfl,_,_,rfl,rfl,(by show(0:Int)<(m:Int) - 1; omega),_,_,rfl,rfl,?_⟩;have ib:=zdb c 3 9 (by decide);obtain⟨i,ei⟩:=qa5 ib.1;have i9:i<9:=by omega
   refine⟨_,rfl,c,3,9,rfl,by decide,by decide,λH1 s1=>⟨_,_,z2w.getD i 0,rfl,rfl,z5g,(by rw[ei]; exact z2y i i9),?_⟩⟩;refine⟨_,rfl,_,_,rfl,rfl,.inr ⟨by decide,by decide⟩,_,_,rfl,rfl,_,_,rfl,rfl,(show(0:Int)<2147483647 by decide),_,rfl,_,L,(by show [V.int _,V.int (1+c%((m:Int) - 1))]=_; rw[eL]),by omega,by omega,λt1 v1 H2 s2 b1 o1 z1 l1=>?_⟩;refine⟨_,rfl,_,rfl,_,rfl,_,_,rfl,rfl,.inr ⟨by decide,by decide⟩,_,_,rfl,rfl,_,_,rfl,rfl,(show(0:Int)<2147483647 by decide),_,rfl,_,rfl,_,_,rfl,rfl,_,m - L,(by show [V.int _,V.int ((m:Int) - (1+c%((m:Int) - 1)))]=_; rw[eL]; show [_,V.int ((m:Int) - (L:Int))]=_; rw[show(m:Int) - (L:Int)=((m - L:Nat):Int) by omega]),by omega,by omega,λt2 v2 H3 s3 b2 o2 z2 l2=>?_⟩;exact⟨le3,λp hp=>q (.op i t1 t2) _ _ (((s1.trans s2).trans s3).trans (Same.new hp)) (zch (SqT.of zab) (za1 (zdo _) (za1 (DatV.mono (s3.trans (Same.new hp)) _ _ b1) (za1 (DatV.mono (Same.new hp) _ _ b2) zap)))) ⟨i9,o1,o2⟩ ⟨z1,z2⟩ (by show lv t1+lv t2=m; omega)⟩
theorem zng:FnScope ["_law_cell_here","_law_way"] ["_law_cell_here"] (zah zjh):=by walk_at "s"
theorem zvf (T:Txt K mg t):FnOk P w K mg base CX0 13 t.zqy t.zq2 ["_law_cell_here"] (zug K):=by
 have G_l_part:=zew (P:=P) (w:=w) (base:=base) T;have G_l_tree:FnOk P w K mg base CX0 12 t.zlt t.zlv ["_law_cell_here","_law_many"] (zmj K 10):=zqf T 10;refine T.zyv.F.ok zng (λvs H Q E h=>?_) (λcdv A outer s H vs Q E hr h=>?_)
 . obtain⟨c,rfl,q⟩:=h;rfl
 . obtain⟨c,rfl,q⟩:=h;refine⟨_,(@zad _ _ _ _ _ (@zas _ _ 1 _ _ _ _ zng.nd rfl (Or.inl rfl) (za6 T.zc7 G_l_part (hr.mono (by decide)) (@zaa _ _ _ _ _ (pvC 0) (@zaa _ _ _ _ _ zae (@zaa _ _ _ _ _ zae zac (by rfl)) (by rfl)) (by rfl))) (by rfl) (by walk_at "f")) (@zad _ _ _ _ _ (@zbi _ _ _ _ _ _ _ _ (@zan _ _ _ _ _ _ _ _ (zc2 zjg) (pvC 1) zae (zax _)) (@zag _ _ _ (@zat _ _ _ _ zkp)) zau) (@zag _ _ _ (@zat _ _ _ _ (za6 T.zq6 G_l_tree (hr.mono (by decide)) (@zaa _ _ _ _ _ (pvC 0) (@zaa _ _ _ _ _ (@zaq _ _ _ _ _ _ _ (show IxR _ (zim K) from zbb) (@zb9 _ _ _ _ (@zaa _ _ _ _ _ zae (@zaa _ _ _ _ _ zae (@zaa _ _ _ _ _ zae (@zaa _ _ _ _ _ zae (@zaa _ _ _ _ _ zae (@zaa _ _ _ _ _ (@zav _ _ _ _ _ _ _ _ (zc2 zbp) zae (za6 T.zc7 G_l_part (hr.mono (by decide)) (@zaa _ _ _ _ _ (pvC 0) (@zaa _ _ _ _ _ zae (@zaa _ _ _ _ _ zae zac (by rfl)) (by rfl)) (by rfl)))) zac (by rfl)) (by rfl)) (by rfl)) (by rfl)) (by rfl)) (by rfl))) (@zav _ _ _ _ _ _ _ _ (zc2 zje) (pvC 1) zae) (λ_ _=>rfl)) zac (by rfl)) (by rfl))))))),?_⟩;have b8:=zdb c 0 8 (by decide);refine⟨_,rfl,c,0,8,rfl,by decide,by decide,λH1 s1=>⟨_,rfl,_,_,rfl,rfl,_,rfl,?_⟩⟩;by_cases h0:zd3 c 0 8<2
   . exact zdz (decide_eq_true h0) (q none _ _ s1 zso ⟨True.intro,True.intro⟩)
   refine zdd (by rw[decide_eq_true_eq]; exact h0) ?_;have b1:=zdb c 1 8 (by decide);obtain⟨y,hy,y1,y8⟩:∃y:Nat,atI ([1,1,1,1,2,1+zd3 c 1 8].map V.int) (zd3 c 0 8 - 2)=some (V.int y)/\1<=y/\y<=8:=by
     obtain⟨w,ew⟩:=qa5 (a:=1+zd3 c 1 8) (by omega);have:zd3 c 0 8 - 2=0\/zd3 c 0 8 - 2=1\/zd3 c 0 8 - 2=2\/zd3 c 0 8 - 2=3\/zd3 c 0 8 - 2=4\/zd3 c 0 8 - 2=5:=by omega
     rcases this with h|h|h|h|h|h
     . exact⟨1,by rw[h]; rfl,by decide,by decide⟩
     . exact⟨1,by rw[h]; rfl,by decide,by decide⟩
     . exact⟨1,by rw[h]; rfl,by decide,by decide⟩
     . exact⟨1,by rw[h]; rfl,by decide,by decide⟩
     . exact⟨2,by rw[h]; rfl,by decide,by decide⟩
     . exact⟨w,by rw[h,ew]; rfl,by omega,by omega⟩
   refine⟨_,rfl,_,rfl,c,1,8,rfl,by decide,by decide,λH2 s2=>⟨_,_,rfl,rfl,(by show 6<=sizeLine; exact le6),λl hl=>?_⟩⟩;refine⟨_,rfl,_,_,rfl,rfl,l,_,_,_,rfl,rfl,SqL.of zab,hy,c,y,rfl,by omega,by omega,λtr v H3 s3 b3 o3 z3 l3=>q (some tr) v H3 ((s1.trans s2).trans ((Same.new hl).trans s3)) b3 ⟨⟨o3,by omega⟩,z3⟩⟩
theorem zda:FnScope ["_law_cell_here","_law_built","_law_last","_law_chain","_law_views","_law_level","_law_k","_law_ahead","_law_places","_law_i","_law_seed"] ["_law_cell_here","_law_built","_law_last"] (zah zlf):=by walk_at "s"
theorem zv8 (T:Txt K mg t):FnOk P w K mg base CX0 14 t.zt3 t.zt9 ["_law_cell_here","_law_built","_law_last"] (zxc K):=by
 have G_l_part:=zew (P:=P) (w:=w) (base:=base) T;have G_l_place:=zvf (P:=P) (w:=w) (base:=base) T;refine T.z1x.F.ok zda (λvs H Q E h=>?_) (λcdv A outer s H vs Q E hr h=>?_)
 . obtain⟨c,b,bs,v,m0,rfl,hB,hv,f0,q⟩:=h;rfl
 . obtain⟨c,b,bs,v,m0,rfl,hB,hv,f0,q⟩:=h;refine⟨_,(@zad _ _ _ _ _ (@zas _ _ 3 _ _ _ _ zda.nd rfl (Or.inl rfl) (@zb9 _ _ _ _ zac) (by rfl) (by walk_at "f")) (@zad _ _ _ _ _ (@zas _ _ 4 _ _ _ _ zda.nd rfl (Or.inl rfl) (@zb9 _ _ _ _ zac) (by rfl) (by walk_at "f")) (@zad _ _ _ _ _ (zdh PassesOwn.never rfl (zb4 rfl T.b_range (@zaa _ _ _ _ _ (@zav _ _ _ _ _ _ _ _ (zc2 zbp) zae (za6 T.zc7 G_l_part (hr.mono (by decide)) (@zaa _ _ _ _ _ (pvC 0) (@zaa _ _ _ _ _ zae (@zaa _ _ _ _ _ zae zac (by rfl)) (by rfl)) (by rfl)))) zac (by rfl))) (zar (i:=5) zda.nd rfl (Or.inl rfl)) (@zad _ _ _ _ _ (@zas _ _ 6 _ _ _ _ zda.nd rfl (Or.inl rfl) (za6 T.zc7 G_l_part (hr.mono (by decide)) (@zaa _ _ _ _ _ (pvC 0) (@zaa _ _ _ _ _ (@zav _ _ _ _ _ _ _ _ (zc2 zbp) zae (pvC 5)) (@zaa _ _ _ _ _ (zam (show zbv _ (.builtin "len") (zh9 K) from zay) (by rfl) T.b_len zbk (@zaa _ _ _ _ _ (pvC 1) zac (by rfl))) zac (by rfl)) (by rfl)) (by rfl))) (by rfl) (by walk_at "f")) (@zad _ _ _ _ _ (@zas _ _ 7 _ _ _ _ zda.nd rfl (Or.inl rfl) (@zb9 _ _ _ _ zac) (by rfl) (by walk_at "f")) (@zoe _ _ _ _ _ (@zbi _ _ _ _ _ _ _ _ (@PW.pt _ _ _ (@zjf _ _ _ _ _ _ _ (@zan _ _ _ _ _ _ _ _ (zc2 zjg) (pvC 5) (zam (show zbv _ (.builtin "len") (zh9 K) from zay) (by rfl) T.b_len zbk (@zaa _ _ _ _ _ (@zaq _ _ _ _ _ _ _ (show IxR _ (zcz K) from zak) (pvC 2) zae (λ_ _=>rfl)) zac (by rfl))) (zax _)) (@zg0 _ _ _ _ (@zan _ _ _ _ _ _ _ _ (zc2 zuf) (za6 T.zc7 G_l_part (hr.mono (by decide)) (@zaa _ _ _ _ _ (pvC 0) (@zaa _ _ _ _ _ zae (@zaa _ _ _ _ _ zae zac (by rfl)) (by rfl)) (by rfl))) zae (zax _))))) (@zad _ _ _ _ _ (@zas _ _ 6 _ _ _ _ zda.nd rfl (Or.inl rfl) (@zaq _ _ _ _ _ _ _ (show IxR _ (zim K) from zbb) (@zaq _ _ _ _ _ _ _ (show IxR _ (zcz K) from zak) (pvC 2) zae (λ_ _=>rfl)) (pvC 5) (λ_ _=>rfl)) (by rfl) (by walk_at "f")) (@zag _ _ _ (@zas _ _ 7 _ _ _ _ zda.nd rfl (Or.inl rfl) (@zaq _ _ _ _ _ _ _ (show IxR _ (zim K) from zbb) (@zaq _ _ _ _ _ _ _ (show IxR _ (zcz K) from zak) (pvC 2) zae (λ_ _=>rfl)) (pvC 5) (λ_ _=>rfl)) (by rfl) (by walk_at "f")))) zau) (@zad _ _ _ _ _ (@zas _ _ 8 _ _ _ _ zda.nd rfl (Or.inl rfl) (@zb9 _ _ _ _ zac) (by rfl) (by walk_at "f")) (@zad _ _ _ _ _ (zdh PassesOwn.never rfl (zb4 rfl T.b_range (@zaa _ _ _ _ _ (@zaq _ _ _ _ _ _ _ (show IxR _ (zim K) from zbb) (@zaq _ _ _ _ _ _ _ (show IxR _ (zim K) from zbb) (pvC 1) (pvC 6) (λ_ _=>rfl)) zae (λ_ _=>rfl)) zac (by rfl))) (zar (i:=9) zda.nd rfl (Or.inl rfl)) (@zad _ _ _ _ _ (@zas _ _ 10 _ _ _ _ zda.nd rfl (Or.inl rfl) (@zav _ _ _ _ _ _ _ _ (zc2 zbp) (@zav _ _ _ _ _ _ _ _ (zc2 zbp) (pvC 0) (@zav _ _ _ _ _ _ _ _ (zhu zg5) zae (pvC 9))) (@zav _ _ _ _ _ _ _ _ (zhu zg5) zae (pvC 5))) (by rfl) (by walk_at "f")) (@zad _ _ _ _ _ (@zco _ _ _ _ (zeh qax qa1 qa2 zbr (pvC 8) (@zaa _ _ _ _ _ (za6 T.zyv G_l_place (hr.mono (by decide)) (@zaa _ _ _ _ _ (pvC 10) zac (by rfl))) zac (by rfl))) (by rfl)) (@zag _ _ _ (@zbi _ _ _ _ _ _ _ _ (@PW.pt _ _ _ (@zjf _ _ _ _ _ _ _ (@zan _ _ _ _ _ _ _ _ (zwx hr.units) (pvC 7) (@zb9 _ _ _ _ zac) (zax _)) (@zg0 _ _ _ _ (@zan _ _ _ _ _ _ _ _ zdw (za6 T.zc7 G_l_part (hr.mono (by decide)) (@zaa _ _ _ _ _ (pvC 10) (@zaa _ _ _ _ _ zae (@zaa _ _ _ _ _ zae zac (by rfl)) (by rfl)) (by rfl))) zae (zax _))))) (@zag _ _ _ (zie (@zaq _ _ _ _ _ _ _ (show IxR _ (zim K) from zbb) (pvC 7) (pvC 9) (λ_ _=>rfl)) (zko (pvC 8) (zrz zly zae) zfo))) zau))))) (@zad _ _ _ _ _ (@zco _ _ _ _ (zeh qax qa1 qa2 zbr (pvC 3) (@zaa _ _ _ _ _ (@zby _ _ _ _ _ (@zaa _ _ _ _ _ (@zaq _ _ _ _ _ _ _ (show IxR _ (zcz K) from zak) (@zaq _ _ _ _ _ _ _ (show IxR _ (zim K) from zbb) (@zaq _ _ _ _ _ _ _ (show IxR _ (zim K) from zbb) (pvC 1) (pvC 6) (λ_ _=>rfl)) zae (λ_ _=>rfl)) zae (λ_ _=>rfl)) (@zaa _ _ _ _ _ (za6 T.zc7 G_l_part (hr.mono (by decide)) (@zaa _ _ _ _ _ (pvC 0) (@zaa _ _ _ _ _ (@zav _ _ _ _ _ _ _ _ (zc2 zbp) zae (pvC 5)) (@zaa _ _ _ _ _ (zam (show zbv _ (.builtin "len") (zh9 K) from zay) (by rfl) T.b_len zbk (@zaa _ _ _ _ _ (@zaq _ _ _ _ _ _ _ (show IxR _ (zcz K) from zak) (@zaq _ _ _ _ _ _ _ (show IxR _ (zim K) from zbb) (@zaq _ _ _ _ _ _ _ (show IxR _ (zim K) from zbb) (pvC 1) (pvC 6) (λ_ _=>rfl)) zae (λ_ _=>rfl)) zae (λ_ _=>rfl)) zac (by rfl))) zac (by rfl)) (by rfl)) (by rfl))) zac (by rfl)) (by rfl))) zac (by rfl))) (by rfl)) (@zag _ _ _ (@zco _ _ _ _ (zeh qax qa1 qa2 zbr (pvC 4) (@zaa _ _ _ _ _ (pvC 8) zac (by rfl))) (by rfl)))))))))) (@zag _ _ _ (@zat _ _ _ _ (@zby _ _ _ _ _ (@zaa _ _ _ _ _ (zb3 ze8 (by rfl) T.b_tuple ze3 (@zaa _ _ _ _ _ (pvC 3) zac (by rfl))) (@zaa _ _ _ _ _ (pvC 4) zac (by rfl)) (by rfl)))))))),?_⟩;obtain⟨lA,xs0,rfl,hlA,dx0⟩:=zkg hv;obtain⟨x1,x2,x3,rfl,hc0,hw0,hk0⟩:=z5t dx0;obtain⟨cA,cs,rfl,hcs,dcs⟩:=zkg hc0;obtain⟨wA,ws,rfl,hws,dws⟩:=zit hw0;obtain⟨nA,ks,rfl,hks,dks⟩:=zit hk0;have lcs:cs.length=m0.ch.length:=by rw[zc0 dcs,List.length_map]
   have n12:=hB.bt.n12;have lrl:(rlB bs).length=bs.length:=by unfold rlB rlF; rw[List.length_map,List.length_map]
   have nb1:1<=bs.length:=by have:=(zyh hB).n1; rw[lrl] at this; exact this
   have lbs:(bs.map λx=>V.ref x.e).length=bs.length:=List.length_map _;obtain⟨m0v,m0i,m0c,m0o⟩:m0.vs.length=m0.ch.length/\(∀c∈m0.ch,c.1<bs.length)/\z7k (cnB bs) m0/\∀v∈m0.vs,∀o∈v,pOk o:=by
     rcases f0 with rfl|f0
     . exact⟨rfl,(λc h=>by cases h),z3z _,λv h=>by cases h⟩
     . exact⟨f0.vl,(λc hc=>by rw[<- lrl]; exact(f0.ix c hc).1),f0.cn,f0.ok⟩
   refine⟨le0,λcl hcl=>⟨le0,λvl hvl=>?_⟩⟩;have hvl0:H vl=none:=(Same.new hcl).free hvl;have ecl:upd (upd H cl (.lst [])) vl (.lst []) cl=some (.lst []):=Same.new hvl _ _ zab;have evl:upd (upd H cl (.lst [])) vl (.lst []) vl=some (.lst []):=zab;have ncv:cl≠vl:=zaf (show upd H cl (.lst []) cl=_ from zab) hvl;have s01:=(Same.new (o:=.lst []) hcl).trans (Same.new (o:=.lst []) hvl);generalize upd (upd H cl (.lst [])) vl (.lst [])=H1 at ecl evl s01 ⊢;have b0:=zdb c 0 3 (by decide);obtain⟨n,en⟩:=qa5 (a:=1+zd3 c 0 3) (by omega);refine⟨_,rfl,c,0,3,rfl,by decide,by decide,λH2 s2=>⟨_,_,rfl,rfl,_,rfl,by omega,by omega,?_⟩⟩;rw[en];refine(let Jv1:Nat->St->Hp->Prop:=λj σ G=>∃(v5 v6 v7 v8 v9 v10:Option V) (ch:List (Nat×Nat)) (vw:List (List (Option BTr))) (us vs:List V),σ=[some (.int c),some (.ref b),some (.ref lA),some (.ref cl),some (.ref vl),v5,v6,v7,v8,v9,v10]/\Same H G/\G cl=some (.lst us)/\G vl=some (.lst vs)/\ch.length=j/\vw.length=j/\DatAll K G (ch.map (tfD (nmB bs))) us/\DatAll K (apT H cl vl G) (vw.map plD) vs/\(∀c∈ch,c.1<(rlB bs).length/\c.2<(rlB bs).getD c.1 0)/\(∀(k:Nat) c v,ch[k]?=some c->vw[k]?=some v->v.length=cnB bs c.1)/\∀v∈vw,∀o∈v,pOk o; zex (lo:=0) (n:=n) Jv1 ⟨_,_,_,_,_,_,[],[],[],[],rfl,s01.trans s2,s2 _ _ ecl,s2 _ _ evl,rfl,rfl,zap,zap,(λc h=>by cases h),(λk c v h=>by cases h),λv h=>by cases h⟩ ?_ ?_)
   . rintro j σ G hj ⟨v5,v6,v7,v8,v9,v10,ch,vw,us,vs,rfl,sG,eC,eV,lch,lvw,dC,dV,fC,fN,fO⟩;have jlt:j<3:=by omega
     refine⟨_,rfl,_,rfl,_,_,rfl,rfl,_,rfl,b,_,rfl,.inl (sG.seq hB.bt.ls),c,1+(0+(j:Int)),_,rfl,by omega,by omega,λG1 t1=>?_⟩;have pb:=zdb c (1+(0+(j:Int))) ((bs.map λx=>V.ref x.e).length:Int) (by omega);obtain⟨k0,ek0⟩:=qa5 pb.1;rw[ek0];have hk0':k0<bs.length:=by omega
     refine⟨le0,λaA haA=>?_⟩;have t2:=t1.trans (Same.new (o:=.lst []) haA);have hE:DatV K (upd G1 aA (.lst [])) (plD []) (.ref aA):=zbc (SqL.of zab) zap;generalize upd G1 aA (.lst [])=G2 at t2 hE ⊢;refine⟨λσ G'=>∃(k:Nat) (av:V) (v8 v9 v10:Option V) (ah:List (Option BTr)),σ=[some (.int c),some (.ref b),some (.ref lA),some (.ref cl),some (.ref vl),some (.int (0+(j:Int))),some (.int k),some av,v8,v9,v10]/\Same G G'/\k<bs.length/\DatV K G' (plD ah) av/\(∀o∈ah,pOk o)/\(ah=[]\/ah.length=cnB bs k),?_,?_⟩
     . have s02:=sG.trans t2;refine⟨_,rfl,_,rfl,lA,_,_,_,rfl,rfl,s02.tup hlA,at0,cA,_,rfl,.inr (s02.tup hcs),_,_,rfl,rfl,_,rfl,?_⟩;by_cases hj2:j<m0.ch.length
       case neg=>exact zdd (by walk_at "o") (z3v ⟨k0,_,_,_,_,[],rfl,t2,hk0',hE,(λo h=>by cases h),.inl rfl⟩)
       obtain⟨d0,hd0⟩:∃d0,m0.ch[j]?=some d0:=⟨_,List.getElem?_eq_getElem hj2⟩
       obtain⟨v0,hv0⟩:∃v0,m0.vs[j]?=some v0:=⟨_,List.getElem?_eq_getElem (by rw[m0v]; exact hj2)⟩
       obtain⟨u0,hu0,du0⟩:=zji dks hd0;cases zra du0;obtain⟨w1,hw1,dw1⟩:=zji dws hv0;refine zdz (by walk_at "o") ⟨_,rfl,c,4,3,rfl,by decide,by decide,λG3 t3=>⟨_,_,rfl,rfl,_,rfl,z3j (λ_=>?_) (λ_=>⟨k0,_,_,_,_,[],rfl,t2.trans t3,hk0',DatV.mono t3 _ _ hE,(λo h=>by cases h),.inl rfl⟩)⟩⟩;have s03:=s02.trans t3;refine⟨_,rfl,lA,_,_,_,rfl,rfl,s03.tup hlA,rfl,_,rfl,nA,_,_,_,rfl,rfl,s03.seq hks,(by rw[qb3]; exact zcg hu0),_,rfl,lA,_,_,_,rfl,rfl,s03.tup hlA,rfl,_,rfl,wA,_,_,_,rfl,rfl,s03.seq hws,(by rw[qb3]; exact zcg hw1),d0.1,w1,_,_,_,v0,rfl,t2.trans t3,m0i d0 (List.mem_of_getElem? hd0),DatV.mono s03 _ _ dw1,m0o v0 (List.mem_of_getElem? hv0),.inr (m0c j d0 v0 hd0 hv0)⟩
     rintro σ G3 ⟨k,av,v8,v9,v10,ah,rfl,t3,hk,dav,okah,lah⟩;obtain⟨aA',ys,rfl,hys,dys⟩:=zit dav;obtain⟨x,hx⟩:∃x,bs[k]?=some x:=⟨_,List.getElem?_eq_getElem hk⟩
     have hX:=hB.bt.all x (List.mem_of_getElem? hx);have hfx:(bs.map (·.f))[k]?=some x.f:=by rw[List.getElem?_map,hx]; rfl
     have cnx:cnB bs k=x.cnt:=(zs1 hfx).trans (hB.cn x (List.mem_of_getElem? hx)).symm;have b24:=hX.cn;refine⟨le0,λpA hpA=>?_⟩;have xp:=Same.new (o:=.lst []) hpA;have s03:=sG.trans t3;refine⟨_,rfl,_,rfl,b,_,_,_,rfl,rfl,(s03.trans xp).seq hB.bt.ls,zcg (by rw[List.getElem?_map,hx]; rfl),x.e,_,_,_,rfl,rfl,(s03.trans xp).seq hX.en,rfl,_,rfl,by omega,by omega,?_⟩;refine(let Jv2:Nat->St->Hp->Prop:=λm σ H8=>∃(v9 v10:Option V),σ=[some (.int c),some (.ref b),some (.ref lA),some (.ref cl),some (.ref vl),some (.int (0+(j:Int))),some (.int k),some (.ref aA'),some (.ref pA),v9,v10]/\Same G3 H8/\∃(ps:List V) (pl:List (Option BTr)),H8 pA=some (.lst ps)/\DatAll K H8 (pl.map btO) ps/\pl.length=m/\∀o∈pl,pOk o; zex (lo:=0) (n:=x.cnt) Jv2 ⟨_,_,rfl,xp,[],[],zab,zap,rfl,λo h=>by cases h⟩ ?_ ?_)
     . rintro m σ H8 hm ⟨v9,v10,rfl,s8,ps,pl,e8,d8,lpl,okp⟩;have lps:ps.length=m:=by rw[zc0 d8,List.length_map,lpl]
       refine⟨_,rfl,_,rfl,_,_,rfl,rfl,.inl ⟨by decide,by decide⟩,_,_,rfl,rfl,_,rfl,_,_,rfl,rfl,.inl ⟨by decide,by decide⟩,_,_,rfl,rfl,?_⟩;refine⟨_,rfl,.inl ⟨rfl,_,SqL.of e8⟩,_,rfl,_,rfl,λo v H9 s9 d9 ok9=>⟨pA,_,_,rfl,rfl,s9 _ _ e8,zb0 (n:=ps.length+1) (by omega),?_⟩⟩;have e9:=s9 _ _ e8;have sA:=(s8.trans s9).upd (o:=.lst (ps++[v])) hpA;have eA:=zab (H:=H9) (a:=pA) (o:=.lst (ps++[v]));have dA:DatAll K (upd H9 pA (.lst (ps++[v]))) ((pl++[o]).map btO) (ps++[v]):=DatAll.putT (zff _) e9 (by rw[List.map_append]; exact zfg (L2.DatAll.mono s9 _ _ d8) d9);have okA:∀o'∈pl++[o],pOk o':=λo' h=>by
         rcases qbk.mp h with h|h
         . exact okp o' h
         . rw[qa4.mp h]; exact ok9
       have dA0:DatAll K (upd H9 pA (.lst (ps++[v]))) (pl.map btO) ps:=DatAll.putT (zff _) e9 (L2.DatAll.mono s9 _ _ d8);generalize upd H9 pA (.lst (ps++[v]))=HA at sA eA dA dA0 ⊢;refine⟨_,rfl,le0,λeN heN=>?_⟩;have xN:=Same.new (o:=.lst []) heN;refine⟨_,_,DatV.mono (sA.trans xN) _ _ dav,zbc (SqL.of zab) zap,(z1j λo ho=>(okah o ho).1).shaped (by decide),(Lay.list (n:=0) (λd h=>by cases h)).shaped (by decide),_,rfl,?_⟩;rw[show PyData.eqv (plD ah) (.list [])=(ah.map btO).isEmpty from zxh _];have keep:∀H':Hp,Same HA H'->Same G3 H'/\∃(ps':List V) (pl':List (Option BTr)),H' pA=some (.lst ps')/\DatAll K H' (pl'.map btO) ps'/\pl'.length=m+1/\∀o∈pl',pOk o:=λH' s'=>⟨sA.trans s',_,_,s' _ _ eA,L2.DatAll.mono s' _ _ dA,by rw[List.length_append,lpl]; rfl,okA⟩
       cases hah:ah with
       | nil=>exact zdd (by simp) (z3v ⟨_,_,rfl,keep _ xN⟩)
       | cons a0 ar =>
         have hne:ah≠[]:=by rw[hah]; exact qet _ _
         have lh:ah.length=x.cnt:=(lah.resolve_left hne).trans cnx;refine zdz rfl ⟨_,rfl,_,7,2,rfl,by decide,by decide,λHB sB'=>⟨rfl,_,rfl,z3j (λ_=>?_) (λ_=>⟨_,_,rfl,keep _ (xN.trans sB')⟩)⟩⟩;obtain⟨oa,hoa⟩:∃oa,ah[m]?=some oa:=⟨_,List.getElem?_eq_getElem (by omega)⟩
         obtain⟨ya,hya,dya⟩:=zji dys hoa;have sN:=xN.trans sB';have eB:=sN _ _ eA;refine⟨_,rfl,_,rfl,aA',_,_,_,rfl,rfl,(sA.trans sN).seq hys,(by rw[qb3]; exact zcg hya),_,rfl,_,rfl,pA,_,_,_,rfl,rfl,eB,(by rw[List.length_append]; exact z10 _),_,_,rfl,?_⟩;rw[zzs];refine⟨(sA.trans sN).upd hpA,_,pl++[oa],zab,DatAll.putT (zff _) eB ?_,by rw[List.length_append,lpl]; rfl,λo' h=>?_⟩
         . rw[List.map_append];exact zfg (L2.DatAll.mono sN _ _ dA0) (L2.DatV.mono (sA.trans sN) _ _ dya)
         . rcases qbk.mp h with h|h
           . exact okp o' h
           . rw[qa4.mp h]; exact okah oa (List.mem_of_getElem? hoa)
     . rintro σ H8 ⟨v9,v10,rfl,s8,ps,pl,e8,d8,lpl,okp⟩;have sG8:=t3.trans s8;have s08:=sG.trans sG8;have hX8:=hX.mono s08;have atb:atI (bs.map λx=>V.ref x.e) (k:Int)=some (V.ref x.e):=zcg (by rw[List.getElem?_map,hx]; rfl);have nPC:pA≠cl:=λh=>by have h1:=t3 _ _ eC; rw[<- h,hpA] at h1; cases h1
       have nPV:pA≠vl:=λh=>by have h1:=t3 _ _ eV; rw[<- h,hpA] at h1; cases h1
       have hpH:H pA=none:=s03.free hpA;have rp:1<=x.f.rs.length:=by
         cases e:x.f.rs with
         | nil=>exact absurd e hX.ne
         | cons y l=>rw[List.length_cons]; omega
       have lrs:(x.f.rs.map λw=>V.ref w.r).length=x.f.rs.length:=List.length_map _;have rlx:(rlB bs).getD k 0=x.f.rs.length:=by unfold rlB rlF; rw[List.getD_eq_getElem?_getD,List.getElem?_map,hfx]; rfl
       have eC8:=sG8 _ _ eC;refine⟨_,rfl,.inl ⟨rfl,_,SqL.of eC8⟩,_,rfl,_,rfl,b,_,_,_,rfl,rfl,s08.seq hB.bt.ls,atb,x.e,_,_,_,rfl,rfl,hX8.en,at0,x.f.fa,_,_,_,rfl,rfl,hX8.fn.fn,at0,?_⟩;refine⟨_,rfl,_,rfl,_,_,rfl,rfl,_,rfl,_,rfl,b,_,_,_,rfl,rfl,s08.seq hB.bt.ls,atb,x.e,_,_,_,rfl,rfl,hX8.en,at0,x.f.fa,_,_,_,rfl,rfl,hX8.fn.fn,rfl,x.f.ra,_,rfl,.inr hX8.fn.rw_,c,5+(0+(j:Int)),_,rfl,by omega,by omega,λH9 s9=>⟨le2,λtp htp=>?_⟩⟩;have rb:=zdb c (5+(0+(j:Int))) ((x.f.rs.map λw=>V.ref w.r).length:Int) (by omega);obtain⟨rw0,erw⟩:=qa5 rb.1;rw[erw];have y1:=Same.new (o:=.tup [V.str x.f.name,V.int rw0]) htp;have s8t:=s9.trans y1;have tT:upd H9 tp (.tup [V.str x.f.name,V.int rw0]) tp=some (.tup [V.str x.f.name,V.int rw0]):=zab;generalize upd H9 tp (.tup [V.str x.f.name,V.int rw0])=HT at s8t tT y1 ⊢;have eC9:=s8t _ _ eC8;have eV9:=s8t _ _ (sG8 _ _ eV);have e89:=s8t _ _ e8;have d89:=DatAll.mono s8t _ _ d8;have sG9:=sG8.trans s8t;have lus:us.length=j:=by rw[zc0 dC,List.length_map,lch]
       have lvs:vs.length=j:=by rw[zc0 dV,List.length_map,lvw]
       refine⟨cl,_,_,rfl,rfl,eC9,zb0 (n:=us.length+1) (by omega),?_⟩;have eV10:upd HT cl (.lst (us++[.ref tp])) vl=some (.lst vs):=by rw[zal ncv.symm]; exact eV9
       have eC11:upd (upd HT cl (.lst (us++[.ref tp]))) vl (.lst (vs++[.ref pA])) cl=some (.lst (us++[.ref tp])):=by rw[zal ncv]; exact zab
       have eV11:upd (upd HT cl (.lst (us++[.ref tp]))) vl (.lst (vs++[.ref pA])) vl=some (.lst (vs++[.ref pA])):=zab;have sF:Same H (upd (upd HT cl (.lst (us++[.ref tp]))) vl (.lst (vs++[.ref pA]))):=((sG.trans sG9).upd hcl).upd hvl0;have dPl:DatAll K (upd (upd HT cl (.lst (us++[.ref tp]))) vl (.lst (vs++[.ref pA]))) (pl.map btO) ps:=DatAll.putT (zff _) eV10 (DatAll.putT (zff _) eC9 d89);have dCh:DatAll K (upd (upd HT cl (.lst (us++[.ref tp]))) vl (.lst (vs++[.ref pA]))) ((ch++[(k,rw0)]).map (tfD (nmB bs))) (us++[.ref tp]):=by refine DatAll.putT (zc9 (znr _) _) eV10 (DatAll.putT (zc9 (znr _) _) eC9 ?_);rw[List.map_append];refine zfg (DatAll.mono sG9 _ _ dC) (zg7 (SqT.of tT) ?_ (zfr _));rw[show nmB bs k=x.f.name from zgl hfx];exact zdo _
       refine⟨_,rfl,.inl ⟨rfl,_,SqL.of eV10⟩,_,rfl,vl,_,_,rfl,rfl,eV10,zb0 (n:=vs.length+1) (by omega),_,_,_,_,_,_,ch++[(k,rw0)],vw++[pl],us++[.ref tp],vs++[.ref pA],rfl,sF,eC11,eV11,by rw[List.length_append,lch]; rfl,by rw[List.length_append,lvw]; rfl,dCh,?_,λd hd=>?_,λi d v hd hv=>?_,λv hv=>?_⟩
       . rw[List.map_append];refine zfg (DatAll.mono (zzp λb o n1 n2 hb=>by rw[zal n2,zal n1]; exact sG9 _ _ hb) _ _ dV) (zbc (SqL.of (by rw[z1n nPC nPV (λys z=>by rw[hpH] at z; cases z),zal nPV,zal nPC]; exact e89)) ?_);exact DatAll.ersT (NoT.ers (NoT.lst (by rw[zge hcl]; exact eC11))) _ _ (zff _) (DatAll.ersT (NoT.lst (by rw[zge hvl0]; exact eV11)) _ _ (zff _) (DatAll.nwT sF _ _ (zff _) dPl))
       . rcases qbk.mp hd with h|h
         . exact fC d h
         . cases qa4.mp h;exact⟨by show k<_; rw[lrl]; exact hk,by show rw0<(rlB bs).getD k 0; rw[rlx]; omega⟩
       . rcases zgb hd with⟨h1,hd⟩|⟨h1,rfl⟩
         . rcases zgb hv with⟨_,hv⟩|⟨h2,_⟩
           . exact fN i d v hd hv
           . omega
         . rcases zgb hv with⟨h2,_⟩|⟨_,rfl⟩
           . omega
           . show v.length=cnB bs k;rw[lpl,cnx]
       . rcases qbk.mp hv with h|h
         . exact fO v h
         . rw[qa4.mp h]; exact okp
   . rintro σ G ⟨v5,v6,v7,v8,v9,v10,ch,vw,us,vs,rfl,sG,eC,eV,lch,lvw,dC,dV,fC,fN,fO⟩;refine⟨_,rfl,cl,us,rfl,.inl ⟨SqL.of eC,λtc htc=>⟨_,rfl,le2,λpt hpt=>?_⟩⟩⟩;have y1:=Same.new (o:=.tup us) htc;have y2:=Same.new (o:=.tup [.ref tc,.ref vl]) hpt;have e1:upd G tc (.tup us) tc=some (.tup us):=zab;have nt:H tc=none:=sG.free htc;have np:H pt=none:=(sG.trans y1).free hpt;have sE_:=(sG.trans y1).trans y2;refine q ⟨ch,vw⟩ _ _ sE_ (zg7 (SqT.of (by rw[zge np]; exact zab)) (zch (SqT.of (by rw[zge nt]; exact y2 _ _ e1)) (DatAll.nwT sE_ _ _ (zc9 (znr _) _) (DatAll.mono (y1.trans y2) _ _ dC))) (zbc (SqL.of (by rw[zge hvl0]; exact y2 _ _ (y1 _ _ eV))) (DatAll.mono (z6e.trans (Same.nwL (y1.trans y2))) _ _ dV))) ⟨by show 1<=ch.length; omega,by show ch.length<=3; omega,fC,by show vw.length=ch.length; omega,fN,fO⟩
theorem zdg:FnScope ["_law_script","_law_built","_law_names","_law_table_here","_law_k","_law_marks","_law_last","_law_j","_law_mark_here"] ["_law_script","_law_built"] (zah zix):=by walk_at "s"
theorem zuy (T:Txt K mg t):FnOk P w K mg base CX0 15 t.zq0 t.zq4 ["_law_script","_law_built"] (zu5 K):=by
 have G_l_mark:=zv8 (P:=P) (w:=w) (base:=base) T;have G_l_part:=zew (P:=P) (w:=w) (base:=base) T;have G_l_cell:=zqn (P:=P) (w:=w) (base:=base) T;refine T.zyx.F.ok zdg (λvs H Q E h=>?_) (λcdv A outer s H vs Q E hr h=>?_)
 . obtain⟨a,ns,b,bs,rfl,hS,hl,hB,q⟩:=h;rfl
 . obtain⟨a,ns,b,bs,rfl,hS,hl,hB,q⟩:=h;refine⟨_,(@zad _ _ _ _ _ (@zas _ _ 2 _ _ _ _ zdg.nd rfl (Or.inr rfl) (ze2 (N':=["_law_one"]) (js:=[none]) (by kernel_rfl) rfl (zgc (pvC 1)) zb6 (λ_ _ _ _=>(zar (i:=0) (show(["_law_one"]:List Str).Nodup by decide +kernel) rfl (Or.inl rfl) (.inr rfl))) (λ_ _ _ _=>zcw) (λ_ _ _ _=>(@zaq _ _ _ _ _ _ _ (show IxR _ (zcz K) from zak) (@zaq _ _ _ _ _ _ _ (show IxR _ (zim K) from zbb) (pvC 0) zae (λ_ _=>rfl)) zae (λ_ _=>rfl)))) (by rfl) (by walk_at "f")) (@zad _ _ _ _ _ (@zas _ _ 3 _ _ _ _ zdg.nd rfl (Or.inl rfl) (@zb9 _ _ _ _ zac) (by rfl) (by walk_at "f")) (@zad _ _ _ _ _ (zdh PassesOwn.never rfl (zb4 rfl T.b_range (@zaa _ _ _ _ _ (zam (show zbv _ (.builtin "len") (zh9 K) from zay) (by rfl) T.b_len zbk (@zaa _ _ _ _ _ (pvC 1) zac (by rfl))) zac (by rfl))) (zar (i:=4) zdg.nd rfl (Or.inl rfl)) (@zad _ _ _ _ _ (@zas _ _ 5 _ _ _ _ zdg.nd rfl (Or.inl rfl) (@zb9 _ _ _ _ zac) (by rfl) (by walk_at "f")) (@zad _ _ _ _ _ (@zas _ _ 6 _ _ _ _ zdg.nd rfl (Or.inl rfl) (@zby _ _ _ _ _ (@zaa _ _ _ _ _ (@zby _ _ _ _ _ zac) (@zaa _ _ _ _ _ (@zb9 _ _ _ _ zac) (@zaa _ _ _ _ _ (@zb9 _ _ _ _ zac) zac (by rfl)) (by rfl)) (by rfl))) (by rfl) (by walk_at "f")) (@zad _ _ _ _ _ (zdh PassesOwn.never rfl (zb4 rfl T.b_range (@zaa _ _ _ _ _ (@zav _ _ _ _ _ _ _ _ (zc2 zbp) zae (za6 T.zc7 G_l_part (hr.mono (by decide)) (@zaa _ _ _ _ _ (za6 T.zh0 G_l_cell (hr.mono (by decide)) (@zaa _ _ _ _ _ (pvC 0) (@zaa _ _ _ _ _ zae zac (by rfl)) (by rfl))) (@zaa _ _ _ _ _ (pvC 4) (@zaa _ _ _ _ _ zae zac (by rfl)) (by rfl)) (by rfl)))) zac (by rfl))) (zar (i:=7) zdg.nd rfl (Or.inl rfl)) (@zad _ _ _ _ _ (@zas _ _ 8 _ _ _ _ zdg.nd rfl (Or.inl rfl) (za6 T.z1x G_l_mark (hr.mono (by decide)) (@zaa _ _ _ _ _ (za6 T.zh0 G_l_cell (hr.mono (by decide)) (@zaa _ _ _ _ _ (pvC 0) (@zaa _ _ _ _ _ (@zav _ _ _ _ _ _ _ _ (zc2 zbp) (@zav _ _ _ _ _ _ _ _ (zc2 zbp) zae (@zav _ _ _ _ _ _ _ _ (zhu zg5) zae (pvC 4))) (pvC 7)) zac (by rfl)) (by rfl))) (@zaa _ _ _ _ _ (pvC 1) (@zaa _ _ _ _ _ (pvC 6) zac (by rfl)) (by rfl)) (by rfl))) (by rfl) (by walk_at "f")) (@zad _ _ _ _ _ (@zco _ _ _ _ (zeh qax qa1 qa2 zbr (pvC 5) (@zaa _ _ _ _ _ (pvC 8) zac (by rfl))) (by rfl)) (@zag _ _ _ (@zas _ _ 6 _ _ _ _ zdg.nd rfl (Or.inl rfl) (@zby _ _ _ _ _ (@zaa _ _ _ _ _ (@zaq _ _ _ _ _ _ _ (show IxR _ (zcz K) from zak) (pvC 8) zae (λ_ _=>rfl)) (@zaa _ _ _ _ _ (@zaq _ _ _ _ _ _ _ (show IxR _ (zcz K) from zak) (pvC 8) zae (λ_ _=>rfl)) (@zaa _ _ _ _ _ (ze2 (N':=["_law_frame","_law_names"]) (js:=[none,some 2]) (by kernel_rfl) rfl (ztf (@zaq _ _ _ _ _ _ _ (show IxR _ (zcz K) from zak) (pvC 8) zae (λ_ _=>rfl))) zb6 (λ_ _ _ _=>(zar (i:=0) (show(["_law_frame","_law_names"]:List Str).Nodup by decide +kernel) rfl (Or.inl rfl) (.inr rfl))) (λ_ _ _ _=>zcw) (λ_ _ _ _=>(show PE _ _ (tBM K "list" _ _ _) from(zeh qax PySem.F.slot_list_index PySem.F.type_list_index (show MtR _ "list.index" (rLIx K) from zzb) (pvC 1) (zaa (zaq (show IxR _ (zcz K) from zak) (pvC 0) zae (λ_ _=>rfl)) zac))))) zac (by rfl)) (by rfl)) (by rfl))) (by rfl) (by walk_at "f")))))) (@zag _ _ _ (@zco _ _ _ _ (zeh qax qa1 qa2 zbr (pvC 3) (@zaa _ _ _ _ _ (@zby _ _ _ _ _ (@zaa _ _ _ _ _ (@zaq _ _ _ _ _ _ _ (show IxR _ (zim K) from zbb) (pvC 2) (pvC 4) (λ_ _=>rfl)) (@zaa _ _ _ _ _ (pvC 5) zac (by rfl)) (by rfl))) zac (by rfl))) (by rfl))))))) (@zag _ _ _ (@zat _ _ _ _ (pvC 3)))))),?_⟩;have lbs:(bs.map λx=>V.ref x.e).length=bs.length:=List.length_map _;have n12:=hB.bt.n12;refine⟨_,rfl,b,rfl,⟨_,hB.bt.ls⟩,λnA hnA=>(let Jv1:Nat->List V->Hp->Prop:=λi acc H2=>Same H H2/\H2 nA=some (.lst acc)/\acc=(bs.take i).map λx:Bd=>V.str x.f.name; zey (xs:=bs.map λx:Bd=>V.ref x.e) (by omega) Jv1 ⟨Same.new hnA,zab,rfl⟩ ?_ ?_ ?_)⟩
   . rintro i acc H2 hi ⟨s2,e2,rfl⟩;exact⟨e2,by rw[List.length_map,qbe]; omega,s2.seq hB.bt.ls⟩
   . rintro i z acc H2 hz ⟨s2,e2,rfl⟩;rw[List.getElem?_map] at hz;obtain⟨x,hx⟩:∃x,bs[i]?=some x:=by cases e:bs[i]? with|none=>rw[e] at hz; cases hz|some x=>exact⟨x,rfl⟩
     rw[hx] at hz;cases hz;have hE:=(hB.bt.all x (List.mem_of_getElem? hx)).mono s2;refine⟨_,rfl,x.e,_,_,_,rfl,rfl,hE.en,at0,x.f.fa,_,_,_,rfl,rfl,hE.fn.fn,at0,e2,s2.upd hnA,zab,?_⟩;rw[qbj,hx,List.map_append];rfl
   rintro acc H1 ⟨s1,e1,rfl⟩;rw[lbs,qbb] at e1;have nmk:∀(k:Nat) x,bs[k]?=some x->nmB bs k=x.f.name:=λk x hx=>zgl (show(bs.map (·.f))[k]?=some x.f by rw[List.getElem?_map,hx]; rfl);refine⟨le0,λtA htA=>?_⟩;have x1:=Same.new (o:=.lst []) htA;refine⟨_,rfl,b,_,rfl,.inl ((s1.trans x1).seq hB.bt.ls),_,rfl,by omega,by omega,?_⟩;refine(let Jv2:Nat->St->Hp->Prop:=λi σ G=>∃(v4 v5 v6 v7 v8:Option V) (mss:List (List Mk)) (us:List V),σ=[some (.ref a),some (.ref b),some (.ref nA),some (.ref tA),v4,v5,v6,v7,v8]/\Same H1 G/\G tA=some (.lst us)/\mss.length=i/\us.length=i/\(∀(k:Nat) ms y,mss[k]?=some ms->us[k]?=some y->DatV K (ers tA G) (teD (nmB bs) (nmB bs k,ms)) y)/\∀ms∈mss,z3s bs ms; zex (lo:=0) (n:=List.length (List.map (λx:Bd=>V.ref x.e) bs)) Jv2 ⟨_,_,_,_,_,[],[],rfl,x1,zab,rfl,rfl,(λk ms y h=>by cases h),λms h=>by cases h⟩ ?_ ?_)
   . rintro i σ G hi ⟨v4,v5,v6,v7,v8,mss,us,rfl,sG,eT,lm,lu,dT,fit⟩;rw[lbs] at hi;obtain⟨x,hx⟩:∃x,bs[i]?=some x:=⟨_,List.getElem?_eq_getElem hi⟩
     refine⟨le0,λmA hmA=>⟨le0,λc0 hc0=>⟨le0,λw0 hw0=>⟨le0,λk0 hk0=>⟨le3,λl0 hl0=>?_⟩⟩⟩⟩⟩;have zA:=Same.new (o:=.lst []) hmA;have zB:=Same.new (o:=.tup []) hc0;have zC:=Same.new (o:=.lst []) hw0;have zD:=Same.new (o:=.lst []) hk0;have zE:=Same.new (o:=.tup [.ref c0,.ref w0,.ref k0]) hl0;have eA:upd G mA (.lst []) mA=some (.lst []):=zab;have nc:=(zaf eA hc0).symm;have nw_:=(zaf (zB _ _ eA) hw0).symm;have nk:=(zaf (zC _ _ (zB _ _ eA)) hk0).symm;have nl:=(zaf (zD _ _ (zC _ _ (zB _ _ eA))) hl0).symm;have d0:DatV K (ers mA (upd (upd (upd (upd (upd G mA (.lst [])) c0 (.tup [])) w0 (.lst [])) k0 (.lst [])) l0 (.tup [.ref c0,.ref w0,.ref k0]))) (lsD (nmB bs) mk0) (.ref l0) :=
       zch (SqT.of (by rw[zao nl]; exact zab)) (za1 (zch (SqT.of (by rw[zao nc]; exact zE _ _ (zD _ _ (zC _ _ zab)))) zap) (za1 (zbc (SqL.of (by rw[zao nw_]; exact zE _ _ (zD _ _ zab))) zap) (za1 (zbc (SqL.of (by rw[zao nk]; exact zE _ _ zab)) zap) zap)))
     have eM:=zE _ _ (zD _ _ (zC _ _ (zB _ _ eA)));have sZ:=(((zA.trans zB).trans zC).trans zD).trans zE;generalize upd (upd (upd (upd (upd G mA (.lst [])) c0 (.tup [])) w0 (.lst [])) k0 (.lst [])) l0 (.tup [.ref c0,.ref w0,.ref k0])=G0 at d0 eM sZ ⊢;have sHG:=s1.trans sG;have pb:=zdb (zfm ns 0) (0+(i:Int)) 3 (by decide);obtain⟨n,en⟩:=qa5 (a:=1+zd3 (zfm ns 0) (0+(i:Int)) 3) (by omega);refine⟨_,rfl,a,ns,0,rfl,(sHG.trans sZ).seq hS,hl,by decide,by decide,_,rfl,zfm ns 0,0+(i:Int),3,rfl,by omega,by decide,λG2 s2=>⟨_,_,rfl,rfl,_,rfl,by omega,by omega,?_⟩⟩;rw[en];refine(let Jv3:Nat->St->Hp->Prop:=λj σ G'=>∃(v7 v8:Option V) (lw:V) (ms:List Mk) (vs:List V),σ=[some (.ref a),some (.ref b),some (.ref nA),some (.ref tA),some (.int (0+(i:Int))),some (.ref mA),some lw,v7,v8]/\Same G G'/\G' mA=some (.lst vs)/\ms.length=j/\vs.length=j/\DatAll K (ers mA (nwL G G')) (ms.map (tmD (nmB bs))) vs/\DatV K (ers mA G') (lsD (nmB bs) (prv ms j)) lw/\∀m∈ms,MFit (rlB bs) (cnB bs) m; zex (lo:=0) (n:=n) Jv3 ⟨_,_,_,[],[],rfl,sZ.trans s2,s2 _ _ eM,rfl,rfl,zap,DatV.mono (Same.ers s2) _ _ d0,λm h=>by cases h⟩ ?_ ?_)
     . rintro j σ G' hj ⟨v7,v8,lw,ms,vs,rfl,sG',eM',lms,lvs,dM,dL,fM⟩;have s0:=sHG.trans sG';refine⟨_,rfl,_,rfl,_,_,rfl,rfl,.inl ⟨by decide,by decide⟩,_,_,rfl,rfl,_,rfl,_,_,rfl,rfl,a,ns,8+5 * (0+(i:Int))+(0+(j:Int)),rfl,s0.seq hS,hl,by omega,by omega,_,rfl,_,rfl,_,b,bs,lw,prv ms j,rfl,hB.mono s0,DatV.mono zaz _ _ dL,zvr (P:=λm=>m=mk0\/MFit (rlB bs) (cnB bs) m) (.inl rfl) (λm hm=>.inr (fM m hm)) j,λm v G4 s4 dm fm=>?_⟩;have dmM:=DatV.mono (zwo sG' eM') _ _ dm;have eM4:=s4 _ _ eM';refine⟨_,rfl,.inl ⟨rfl,_,SqL.of eM4⟩,_,rfl,mA,_,_,rfl,rfl,eM4,zb0 (n:=vs.length+1) (by omega),?_⟩;obtain⟨pT,cv,wv,rfl,hpT,hcv,hwv⟩:=dt2 dmM;obtain⟨cA,cs,rfl,hcs,dcs⟩:=zkg hcv;have lcs:cs.length=m.ch.length:=by rw[zc0 dcs,List.length_map]
       have toG:Same (ers mA (nwL G G4)) (upd G4 mA (.lst (vs++[.ref pT]))):=(Same.ers zlm).trans zme;have s5:Same G (upd G4 mA (.lst (vs++[.ref pT]))):=(sG'.trans s4).upd hmA;have eM5:upd G4 mA (.lst (vs++[.ref pT])) mA=some (.lst (vs++[.ref pT])):=zab;have toE:Same (ers mA (nwL G G4)) (ers mA (upd G4 mA (.lst (vs++[.ref pT])))):=by rw[zdi]; exact Same.ers zlm
       have toN:Same (ers mA (nwL G G4)) (ers mA (nwL G (upd G4 mA (.lst (vs++[.ref pT]))))):=by rw[zmd]; exact Same.refl _
       generalize upd G4 mA (.lst (vs++[.ref pT]))=G5 at toG s5 eM5 toE toN ⊢;have l3:=fm.l3;refine⟨_,rfl,pT,_,_,_,rfl,rfl,toG.tup hpT,at0,_,rfl,pT,_,_,_,rfl,rfl,toG.tup hpT,rfl,_,rfl,pT,_,_,_,rfl,rfl,toG.tup hpT,at0,cA,rfl,⟨_,toG.tup hcs⟩,λiL hiL=>(let Jv4:Nat->List V->Hp->Prop:=λq acc H6=>Same G5 H6/\H6 iL=some (.lst acc)/\acc=(m.ch.take q).map λc:Nat×Nat=>V.int c.1; zte (xs:=cs) (by omega) Jv4 ⟨Same.new hiL,zab,rfl⟩ ?_ ?_ ?_)⟩
       . rintro q acc H6 hq ⟨s6,e6,rfl⟩;exact⟨e6,by rw[List.length_map,qbe]; omega,s6.tup (toG.tup hcs)⟩
       . rintro q y acc H6 hy ⟨s6,e6,rfl⟩;obtain⟨c,hc,dc⟩:=zid dcs hy;obtain⟨fA,y1,y2,rfl,hf,hy1,hy2⟩:=dt2 dc;cases zia hy1;have hcb:c.1<bs.length:=by have:=(fm.ix c (List.mem_of_getElem? hc)).1; unfold rlB rlF at this; rw[List.length_map,List.length_map] at this; exact this
         obtain⟨z,hz⟩:∃z,bs[c.1]?=some z:=⟨_,List.getElem?_eq_getElem hcb⟩
         rw[nmk c.1 z hz] at hf;have eN6:=s6 _ _ (s5 _ _ (sG _ _ e1));refine⟨_,rfl,.inl ⟨rfl,_,SqL.of eN6⟩,_,rfl,fA,_,_,_,rfl,rfl,s6.tup (toG.tup hf),at0,nA,_,_,c.1,rfl,rfl,SqL.of eN6,rfl,(qcm.mpr λv hv=>by obtain⟨x',_,rfl⟩:=qa8.mp hv; rfl),by omega,⟨V.str z.f.name,by rw[List.getElem?_map,hz]; rfl,by show(z.f.name==z.f.name)=true; exact beq_self_eq_true _⟩,λm' z' hm' hz'=>?_,e6,s6.upd hiL,zab,?_⟩
         . rw[List.getElem?_map] at hz';obtain⟨x',hx'⟩:∃x',bs[m']?=some x':=⟨_,List.getElem?_eq_getElem (by omega)⟩
           rw[hx'] at hz';cases hz';show(x'.f.name==z.f.name)=false;refine beq_eq_false_iff_ne.mpr λe=>?_;have hnd:((bs.map (·.f)).map (·.name)).Nodup:=by rw[qbg]; exact hB.bt.nd
           have:=zri hnd (i:=m') (j:=c.1) (by rw[List.length_map]; omega) (by rw[List.length_map]; exact hcb) ((nmk m' x' hx').trans (e.trans (nmk c.1 z hz).symm));omega
         . rw[qbj,hc,List.map_append];rfl
       . rintro acc H6 ⟨s6,e6,rfl⟩;rw[lcs,qbb] at e6;refine⟨le3,λlT hlT=>?_⟩;have zL:=Same.new (o:=.tup [.ref cA,wv,.ref iL]) hlT;have s57:=s6.trans zL;have niM:=(zaf eM5 hiL).symm;have nlM:=(zaf (s6 _ _ eM5) hlT).symm;refine⟨_,_,_,ms++[m],vs++[.ref pT],rfl,s5.trans s57,s57 _ _ eM5,by rw[List.length_append,lms]; rfl,by rw[List.length_append,lvs]; rfl,?_,?_,λm' hm'=>?_⟩
         . rw[List.map_append];have Y:=toN.trans (Same.ers (Same.nwL s57));exact zfg (DatAll.mono ((Same.ers (Same.nwL s4)).trans Y) _ _ dM) (DatV.mono Y _ _ dmM)
         . rw[zs8 lms];have Y:=toE.trans (Same.ers (l:=mA) s57);exact zch (SqT.of (by rw[zao nlM]; exact zab)) (za1 (DatV.mono Y _ _ hcv) (za1 (DatV.mono Y _ _ hwv) (za1 (zbc (SqL.of (by rw[zao niM]; exact zL _ _ e6)) (zsx _)) zap)))
         . rcases qbk.mp hm' with h|h
           . exact fM m' h
           . rw[qa4.mp h]; exact fm
     . rintro σ G' ⟨v7,v8,lw,ms,vs,rfl,sG',eM',lms,lvs,dM,dL,fM⟩;have eN:=sG' _ _ (sG _ _ e1);have eT':=sG' _ _ eT;have ntM:tA≠mA:=zaf eT hmA;have eL:atI (bs.map λx:Bd=>V.str x.f.name) (0+(i:Int))=some (V.str x.f.name):=by rw[qb3]; exact zcg (by rw[List.getElem?_map,hx]; rfl)
       refine⟨_,rfl,.inl ⟨rfl,_,SqL.of eT'⟩,_,rfl,_,rfl,nA,_,_,_,rfl,rfl,SqL.of eN,eL,_,rfl,le2,λp hp=>⟨tA,_,_,rfl,rfl,Same.new hp _ _ eT',zb0 (n:=us.length+1) (by omega),?_⟩⟩;have zP:=Same.new (o:=.tup [V.str x.f.name,.ref mA]) hp;have npT:=zaf eT' hp;refine⟨_,_,_,_,_,mss++[ms],us++[.ref p],rfl,((sG.trans sG').trans zP).upd htA,zab,by rw[List.length_append,lm]; rfl,by rw[List.length_append,lu]; rfl,λk ms' y hk hy=>?_,λms' hms=>?_⟩
       . rw[zdi];rcases zgb hk with⟨hk1,hk⟩|⟨rfl,rfl⟩
         . rcases zgb hy with⟨_,hy⟩|⟨hk2,_⟩
           . exact DatV.mono (Same.ers (sG'.trans zP)) _ _ (dT k ms' y hk hy)
           . omega
         . rcases zgb hy with⟨hk2,_⟩|⟨_,rfl⟩
           . omega
           . rw[lm,nmk i x hx];exact zg7 (SqT.of (by rw[zao npT.symm]; exact zab)) (zdo _) (zbc (SqL.of (by rw[zao ntM.symm]; exact zP _ _ eM')) (DatAll.mono (zaz.trans ((z5v eT).trans (Same.ers zP))) _ _ dM))
       . rcases qbk.mp hms with h|h
         . exact fit ms' h
         . cases qa4.mp h;exact⟨by omega,by omega,fM⟩
   . rintro σ G ⟨v4,v5,v6,v7,v8,mss,us,rfl,sG,eT,lm,lu,dT,fit⟩;rw[lbs] at lm lu;exact⟨_,rfl,q mss _ G (s1.trans sG) (z0x (SqL.of eT) (by omega) λk ms x hk hx=>DatV.mono zaz _ _ (dT k ms x hk hx)) lm fit⟩
theorem zfn:FnScope ["_law_row","_law_cell_here","_law_way","_law_spot","_law_bit"] ["_law_row","_law_cell_here"] (zah zgy):=by walk_at "s"
theorem zqt (T:Txt K mg t):FnOk P w K mg base CX0 2 t.zmv t.zm3 ["_law_row","_law_cell_here"] (zqv K):=by
 have G_l_part:=zew (P:=P) (w:=w) (base:=base) T;refine T.zq5.F.ok zfn (λvs H Q E h=>?_) (λcdv A outer s H vs Q E hr h=>?_)
 . obtain⟨l,c,rfl,hb,hl,q⟩:=h;rfl
 . obtain⟨l,c,rfl,hb,hl,q⟩:=h;refine⟨_,(@zad _ _ _ _ _ (@zas _ _ 2 _ _ _ _ zfn.nd rfl (Or.inl rfl) (za6 T.zc7 G_l_part (hr.mono (by decide)) (@zaa _ _ _ _ _ (pvC 1) (@zaa _ _ _ _ _ zae (@zaa _ _ _ _ _ zae zac (by rfl)) (by rfl)) (by rfl))) (by rfl) (by walk_at "f")) (@zad _ _ _ _ _ (@zas _ _ 3 _ _ _ _ zfn.nd rfl (Or.inl rfl) (za6 T.zc7 G_l_part (hr.mono (by decide)) (@zaa _ _ _ _ _ (pvC 1) (@zaa _ _ _ _ _ zae (@zaa _ _ _ _ _ (@zav _ _ _ _ _ _ _ _ (zc2 zbp) (zam zeu (by rfl) T.b_len zbk (@zaa _ _ _ _ _ (pvC 0) zac (by rfl))) zae) zac (by rfl)) (by rfl)) (by rfl))) (by rfl) (by walk_at "f")) (@zad _ _ _ _ _ (@zas _ _ 4 _ _ _ _ zfn.nd rfl (Or.inl rfl) (zb3 zkq (by rfl) T.b_str zto (@zaa _ _ _ _ _ (za6 T.zc7 G_l_part (hr.mono (by decide)) (@zaa _ _ _ _ _ (pvC 1) (@zaa _ _ _ _ _ zae (@zaa _ _ _ _ _ zae zac (by rfl)) (by rfl)) (by rfl))) zac (by rfl))) (by rfl) (by walk_at "f")) (@zad _ _ _ _ _ (@zbi _ _ _ _ _ _ _ _ (@PW.pt _ _ _ (@zjf _ _ _ _ _ _ _ (@zan _ _ _ _ _ _ _ _ (zc2 zjg) (pvC 2) zae (zax _)) (@zg0 _ _ _ _ (@zan _ _ _ _ _ _ _ _ (zc2 zjg) (pvC 3) (zam zeu (by rfl) T.b_len zbk (@zaa _ _ _ _ _ (pvC 0) zac (by rfl))) (zax _))))) (@zag _ _ _ (@zat _ _ _ _ (@zav _ _ _ _ _ _ _ _ zbf (@zav _ _ _ _ _ _ _ _ zbf (@zd9 _ _ _ _ _ _ _ _ _ _ ziz (pvC 0) zho (zef (pvC 3))) (@zaq _ _ _ _ _ _ _ (show IxR _ (zim K) from zbb) (@zb9 _ _ _ _ (@zaa _ _ _ _ _ za5 (@zaa _ _ _ _ _ za5 zac (by rfl)) (by rfl))) (zb3 zyn (by rfl) T.b_int zo8 (@zaa _ _ _ _ _ (zf7 zdw (@zaq _ _ _ _ _ _ _ zo6 (pvC 0) (pvC 3) (λ_ _=>rfl)) za5 (zax _)) zac (by rfl))) (λ_ _=>rfl))) (@zd9 _ _ _ _ _ _ _ _ _ _ ziz (pvC 0) (zef (@zav _ _ _ _ _ _ _ _ (zc2 zbp) (pvC 3) zae)) zho)))) zau) (@zad _ _ _ _ _ (@zbi _ _ _ _ _ _ _ _ (@zan _ _ _ _ _ _ _ _ zdw (pvC 2) zae (zax _)) (@zag _ _ _ (@zat _ _ _ _ (@zav _ _ _ _ _ _ _ _ zbf (@zd9 _ _ _ _ _ _ _ _ _ _ ziz (pvC 0) zho (zef (pvC 3))) (@zd9 _ _ _ _ _ _ _ _ _ _ ziz (pvC 0) (zef (@zav _ _ _ _ _ _ _ _ (zc2 zbp) (pvC 3) zae)) zho)))) zau) (@zad _ _ _ _ _ (@zbi _ _ _ _ _ _ _ _ (@zan _ _ _ _ _ _ _ _ zdw (pvC 2) zae (zax _)) (@zag _ _ _ (@zat _ _ _ _ (@zav _ _ _ _ _ _ _ _ zbf (@zav _ _ _ _ _ _ _ _ zbf (@zd9 _ _ _ _ _ _ _ _ _ _ ziz (pvC 0) zho (zef (pvC 3))) (pvC 4)) (@zd9 _ _ _ _ _ _ _ _ _ _ ziz (pvC 0) (zef (pvC 3)) zho)))) zau) (@zad _ _ _ _ _ (@zbi _ _ _ _ _ _ _ _ (@zan _ _ _ _ _ _ _ _ zdw (pvC 2) zae (zax _)) (@zag _ _ _ (@zat _ _ _ _ (@zd9 _ _ _ _ _ _ _ _ _ _ ziz (pvC 0) zho (zef (pvC 3))))) zau) (@zag _ _ _ (@zat _ _ _ _ (@zav _ _ _ _ _ _ _ _ zbf (@zav _ _ _ _ _ _ _ _ zbf (pvC 0) (pvC 4)) (@zaq _ _ _ _ _ _ _ (show IxR _ (zim K) from zbb) (@z2l _ _ [V.str "",V.str "0",V.str "000",V.str "1010"] (by kernel_rfl)) (za6 T.zc7 G_l_part (hr.mono (by decide)) (@zaa _ _ _ _ _ (pvC 1) (@zaa _ _ _ _ _ zae (@zaa _ _ _ _ _ zae zac (by rfl)) (by rfl)) (by rfl))) (λ_ _=>rfl)))))))))))),?_⟩;have hs:∀m:List Nat,m.length<=1000000->(tx m).length<=sizeLine:=λm hm=>by rw[zcs];exact qa7 hm (by decide)
   have h2:∀m m':List Nat,m.length+m'.length<=1000000->(tx m).length+(tx m').length<=sizeLine:=λm m' hm=>by rw[zcs,zcs];exact qa7 hm (by decide)
   have b1:=zdb c 1 ((l.length:Int)+1) (by omega);obtain⟨s,es⟩:=qa5 b1.1;have hsl:s<=l.length:=by omega
   have b2:=zdb c 2 2 (by decide);have b3:=zdb c 3 4 (by decide);obtain⟨bt,hbt,ebt⟩:∃bt,(bt=48\/bt=49)/\Str.ofString (toString (zd3 c 2 2))=tx [bt]:=by
     have:zd3 c 2 2=0\/zd3 c 2 2=1:=by omega
     rcases this with e|e
     . exact⟨48,.inl rfl,by rw[e]; decide +kernel⟩
     . exact⟨49,.inr rfl,by rw[e]; decide +kernel⟩
   have bT:bts (l.take s):=λx hx=>hb x (List.mem_of_mem_take hx);have bD:∀n,bts (l.drop n):=λn=>zti n hb;have bB:bts [bt]:=zcv hbt zmq;refine⟨_,rfl,c,0,8,rfl,by decide,by decide,λH1 s1=>?_⟩;refine⟨_,rfl,_,rfl,_,rfl,hs l (by omega),_,_,rfl,rfl,c,1,(l.length:Int)+1,(by rw[zcs]; rfl),by decide,by omega,λH2 s2=>?_⟩;refine⟨_,rfl,c,2,2,rfl,by decide,by decide,λH3 s3=>⟨_,rfl,?_,?_⟩⟩
   . have:zd3 c 2 2=0\/zd3 c 2 2=1:=by omega
     rcases this with e|e <;> rw[e] <;> decide
   rw[es,ebt];have s03:=(s1.trans s2).trans s3;have to_:Txt.slice (tx l) none (some (s:Int))=tx (l.take s):=K15.sl_to l s;have fr0:Txt.slice (tx l) (some (s:Int)) none=tx (l.drop s):=K15.sl_from l s;have fr1:Txt.slice (tx l) (some ((s:Int)+1)) none=tx (l.drop (s+1)):=by rw[show(s:Int)+1=((s+1:Nat):Int) by omega];exact K15.sl_from l (s+1)
   have lT:(l.take s).length=s:=by rw[qbe]; omega
   have lD:∀n,(l.drop n).length=l.length - n:=λn=>qc2;have app:=λa b:List Nat=>zfs a b;refine⟨_,rfl,_,_,rfl,rfl,_,rfl,?_⟩;by_cases hlt:zd3 c 0 8<4/\s<l.length
   . obtain⟨w4,hlt⟩:=hlt;refine zdz (decide_eq_true w4) ⟨_,rfl,_,rfl,_,rfl,hs l (by omega),_,_,rfl,rfl,_,rfl,?_⟩;rw[zcs];obtain⟨a,ha⟩:∃a,l[s]?=some a:=⟨_,List.getElem?_eq_getElem hlt⟩
     have hab:=hb a (List.mem_of_getElem? ha);obtain⟨f,hf,ef⟩:∃f,(f=48\/f=49)/\atI [V.str (Str.ofString "0"),V.str (Str.ofString "1")] (if decide (V.str { cps:=#[a] }=V.str (Str.ofString "0"))=true then 1 else 0)=some (V.str (tx [f])):=by
       rcases hab with rfl|rfl
       . exact⟨49,.inr rfl,by decide +kernel⟩
       . exact⟨48,.inl rfl,by decide +kernel⟩
     refine zdz (by walk_at "o") ⟨_,rfl,_,rfl,_,rfl,_,rfl,hs l (by omega),le2,λu hu=>?_⟩;refine⟨_,rfl,_,rfl,_,_,a,rfl,rfl,hs l (by omega),(by show atI l.toArray.toList (s:Int)=some a; exact zcg ha),rfl,.inr ⟨_,rfl,u,_,_,_,rfl,rfl,SqL.of zab,ef,_,_,qa0 V.str to_,rfl,h2 _ [f] (by rw[lT]; show s+1<=_; omega),?_⟩⟩;refine⟨_,rfl,_,rfl,_,_,rfl,rfl,_,rfl,_,rfl,hs l (by omega),_,_,qa0 V.str (app _ _),qa0 V.str fr1,h2 _ _ (by rw[List.length_append,lT,lD]; show s+1+(l.length - (s+1))<=_; omega),vq (qa0 V.str (app _ _)) (q _ _ (s03.trans (Same.new hu)) (zd5 (zd5 bT (zcv hf zmq)) (bD _)) (by rw[List.length_append,List.length_append,lT,lD]; show s+1+(l.length - (s+1))<=_; omega))⟩
   refine z5b (λw4 rest=>⟨_,rfl,_,rfl,_,rfl,hs l (by omega),_,_,rfl,rfl,_,rfl,zdd (by rw[zcs,decide_eq_true_eq]; omega) rest⟩) ?_;refine⟨_,rfl,rfl,_,rfl,?_⟩;by_cases e4:zd3 c 0 8=4
   . exact zdz (decide_eq_true (qa0 V.int e4)) ⟨_,rfl,_,rfl,_,rfl,_,rfl,hs l (by omega),_,rfl,_,rfl,_,_,rfl,rfl,_,rfl,_,rfl,hs l (by omega),_,_,qa0 V.str to_,qa0 V.str fr1,h2 _ _ (by rw[lT,lD]; omega),vq (qa0 V.str (app _ _)) (q _ _ s03 (zd5 bT (bD _)) (by rw[List.length_append,lT,lD]; omega))⟩
   refine zdd (λz=>e4 (V.int.inj (zb7 z))) ⟨_,rfl,rfl,_,rfl,?_⟩;by_cases e5:zd3 c 0 8=5
   . exact zdz (decide_eq_true (qa0 V.int e5)) ⟨_,rfl,_,rfl,_,rfl,_,rfl,hs l (by omega),_,rfl,_,_,qa0 V.str to_,rfl,h2 _ [bt] (by rw[lT]; show s+1<=_; omega),_,rfl,_,rfl,_,rfl,_,rfl,hs l (by omega),_,_,qa0 V.str (app _ _),qa0 V.str fr0,h2 _ _ (by rw[List.length_append,lT,lD]; show s+1+(l.length - s)<=_; omega),vq (qa0 V.str (app _ _)) (q _ _ s03 (zd5 (zd5 bT bB) (bD _)) (by rw[List.length_append,List.length_append,lT,lD]; show s+1+(l.length - s)<=_; omega))⟩
   refine zdd (λz=>e5 (V.int.inj (zb7 z))) ⟨_,rfl,rfl,_,rfl,?_⟩;by_cases e6:zd3 c 0 8=6
   . exact zdz (decide_eq_true (qa0 V.int e6)) ⟨_,rfl,_,rfl,_,rfl,_,rfl,hs l (by omega),vq (qa0 V.str to_) (q _ _ s03 bT (by omega))⟩
   refine zdd (λz=>e6 (V.int.inj (zb7 z))) ?_;obtain⟨e,he,be,le⟩:∃e:List Nat,atI [V.str (Str.ofString ""),V.str (Str.ofString "0"),V.str (Str.ofString "000"),V.str (Str.ofString "1010")] (zd3 c 3 4)=some (V.str (tx e))/\bts e/\e.length<=4:=by
     have:zd3 c 3 4=0\/zd3 c 3 4=1\/zd3 c 3 4=2\/zd3 c 3 4=3:=by omega
     rcases this with h|h|h|h <;> rw[h]
     . exact⟨[],by decide +kernel,by decide,by decide⟩
     . exact⟨[48],by decide +kernel,by decide,by decide⟩
     . exact⟨[48,48,48],by decide +kernel,by decide,by decide⟩
     . exact⟨[49,48,49,48],by decide +kernel,by decide,by decide⟩
   refine⟨_,rfl,_,rfl,_,_,rfl,rfl,h2 l [bt] (by show l.length+1<=_; omega),(by show 4<=_; decide),λu hu=>⟨_,rfl,c,3,4,rfl,by decide,by decide,λH4 s4=>⟨u,_,_,_,rfl,rfl,SqL.of (s4 _ _ zab),he,_,_,qa0 V.str (app _ _),rfl,h2 _ _ (by rw[List.length_append]; show l.length+1+e.length<=_; omega),vq (qa0 V.str (app _ _)) (q _ _ ((s03.trans (Same.new hu)).trans s4) (zd5 (zd5 hb bB) be) (by rw[List.length_append,List.length_append]; show l.length+1+e.length<=_; omega))⟩⟩⟩
theorem zmc:FnScope ["_law_one"] ["_law_one"] (zah zh3):=by walk_at "s"
theorem zmb (T:Txt K mg t):∀n,FnOk P w K mg base CX0 (n+2) t.zh7 t.zh8 ["_law_one"] (zis K n)
| 0=>T.zju.F.ok zmc (λvs H Q E h=>by obtain⟨tr,v,rfl,hd,hv,ht,hs,q⟩:=h; exact absurd hd (qbq _)) (λcdv A outer s H vs Q E hr h=>by obtain⟨tr,v,rfl,hd,hv,ht,hs,q⟩:=h; exact absurd hd (qbq _))
| n+1=>by
 have G_l_leaves:FnOk P w K mg base CX0 (n+2) t.zh7 t.zh8 ["_law_one"] (zis K n):=zmb T n;refine T.zju.F.ok zmc (λvs H Q E h=>?_) (λcdv A outer s H vs Q E hr h=>?_)
 . obtain⟨tr,v,rfl,hd,hv,ht,hs,q⟩:=h;rfl
 . obtain⟨tr,v,rfl,hd,hv,ht,hs,q⟩:=h;refine⟨_,(@zad _ _ _ _ _ (@zbi _ _ _ _ _ _ _ _ (@PW.pt _ _ _ (zhj (zel (zcy (zam zbe (by rfl) T.b_isinstance za4 (@zaa _ _ _ _ _ (pvC 0) (@zaa _ _ _ _ _ (zdj (v:=V.ty "tuple") rfl T.b_tuple ze3 rfl) zac (by rfl)) (by rfl))))) (zhj (zel (zlq (zc2 zrg) (zc2 zrg) zae (zam (show zbv _ (.builtin "len") (zh9 K) from zay) (by rfl) T.b_len zbk (@zaa _ _ _ _ _ (pvC 0) zac (by rfl))) zae)) (zg8 (zel (zcy (zam zbe (by rfl) T.b_isinstance za4 (@zaa _ _ _ _ _ (@zaq _ _ _ _ _ _ _ (show IxR _ (zcz K) from zak) (pvC 0) zae (λ_ _=>rfl)) (@zaa _ _ _ _ _ (zdj (v:=V.ty "str") rfl T.b_str zto rfl) zac (by rfl)) (by rfl))))))))) (@zag _ _ _ (@zat _ _ _ _ zae)) zau) (@zad _ _ _ _ _ (@zbi _ _ _ _ _ _ _ _ (@zan _ _ _ _ _ _ _ _ zdw (zam (show zbv _ (.builtin "len") (zh9 K) from zay) (by rfl) T.b_len zbk (@zaa _ _ _ _ _ (pvC 0) zac (by rfl))) zae (zax _)) (@zad _ _ _ _ _ (@zbi _ _ _ _ _ _ _ _ (@PW.pt _ _ _ (zhj (@zan _ _ _ _ _ _ _ _ zql (zam zeu (by rfl) T.b_len zbk (@zaa _ _ _ _ _ (@zaq _ _ _ _ _ _ _ (show IxR _ (zcz K) from zak) (pvC 0) zae (λ_ _=>rfl)) zac (by rfl))) zae (zax _)) (zg8 (@zan _ _ _ _ _ _ _ _ zqs (@zaq _ _ _ _ _ _ _ (show IxR _ (zcz K) from zak) (pvC 0) zae (λ_ _=>rfl)) za5 (by with_unfolding_all rfl))))) (@zag _ _ _ (@zat _ _ _ _ zae)) zau) (@zag _ _ _ (@zat _ _ _ _ (@zav _ _ _ _ _ _ _ _ (zc2 zbp) (za6 T.zju G_l_leaves (hr.mono (by omega)) (@zaa _ _ _ _ _ (@zaq _ _ _ _ _ _ _ (show IxR _ (zcz K) from zak) (pvC 0) zae (λ_ _=>rfl)) zac (by rfl))) (za6 T.zju G_l_leaves (hr.mono (by omega)) (@zaa _ _ _ _ _ (@zaq _ _ _ _ _ _ _ (show IxR _ (zcz K) from zak) (pvC 0) zae (λ_ _=>rfl)) zac (by rfl))))))) zau) (@zad _ _ _ _ _ (@zbi _ _ _ _ _ _ _ _ (@PW.pt _ _ _ (zhj (zel (zcy (zam zbe (by rfl) T.b_isinstance za4 (@zaa _ _ _ _ _ (@zaq _ _ _ _ _ _ _ (show IxR _ (zcz K) from zak) (pvC 0) zae (λ_ _=>rfl)) (@zaa _ _ _ _ _ (zdj (v:=V.ty "int") rfl T.b_int zo8 rfl) zac (by rfl)) (by rfl))))) (zhj (zcy (zam zbe (by rfl) T.b_isinstance za4 (@zaa _ _ _ _ _ (@zaq _ _ _ _ _ _ _ (show IxR _ (zcz K) from zak) (pvC 0) zae (λ_ _=>rfl)) (@zaa _ _ _ _ _ (zdj (v:=V.ty "bool") rfl T.b_bool zyk rfl) zac (by rfl)) (by rfl)))) (zg8 (@zan _ _ _ _ _ _ _ _ (zc2 zjg) (@zaq _ _ _ _ _ _ _ (show IxR _ (zcz K) from zak) (pvC 0) zae (λ_ _=>rfl)) zae (zax _)))))) (@zag _ _ _ (@zat _ _ _ _ zae)) zau) (@zad _ _ _ _ _ (@zbi _ _ _ _ _ _ _ _ (@PW.pt _ _ _ (zhj (@PW.pt _ _ _ (@zjf _ _ _ _ _ _ _ (@zan _ _ _ _ _ _ _ _ zdw (@zaq _ _ _ _ _ _ _ (show IxR _ (zcz K) from zak) (pvC 0) zae (λ_ _=>rfl)) za5 (zax _)) (@zg0 _ _ _ _ (@zan _ _ _ _ _ _ _ _ (zc2 zjg) (@zaq _ _ _ _ _ _ _ (show IxR _ (zcz K) from zak) (pvC 0) zae (λ_ _=>rfl)) zae (zax _))))) (zg8 (@PW.pt _ _ _ (@zjf _ _ _ _ _ _ _ (@zan _ _ _ _ _ _ _ _ zdw (@zaq _ _ _ _ _ _ _ (show IxR _ (zcz K) from zak) (pvC 0) zae (λ_ _=>rfl)) za5 (zax _)) (@zg0 _ _ _ _ (@zan _ _ _ _ _ _ _ _ (zc2 zjg) (@zaq _ _ _ _ _ _ _ (show IxR _ (zcz K) from zak) (pvC 0) zae (λ_ _=>rfl)) (@zav _ _ _ _ _ _ _ _ (zhu zv9) zae zae) (zax _)))))))) (@zag _ _ _ (@zat _ _ _ _ zae)) zau) (@zag _ _ _ (@zat _ _ _ _ zae)))))),?_⟩;have sgl:∀i<9,(!decide (V.int ((sgn i).length:Int)=V.int 1))=false/\(!!(Builtin.Str.occurrences (Str.ofString "+-*/<=&|^") (sgn i) 0 (Str.ofString "+-*/<=&|^").length 1).isEmpty)=false:=by decide +kernel
   cases tr with
   | box k =>
     obtain⟨p,x,y,rfl,e,h1,h2⟩:=dt2 hv;cases zia h1;cases zra h2;have k7:k<=127:=hs;refine⟨_,rfl,_,"tuple",_,true,rfl,.tup e,rfl,_,rfl,iN ⟨_,rfl,p,_,rfl,.inr e,_,_,rfl,rfl,_,rfl,zdz (show decide ((2:Int)<=((2:Nat):Int))=true by decide) ⟨_,_,rfl,rfl,_,rfl,zdd (show ¬ (!decide (((2:Nat):Int)<=3))=true by decide) ⟨_,rfl,p,_,_,_,rfl,rfl,e,at0,_,"str",_,true,rfl,.of (.str _),rfl,_,rfl,iN ?_⟩⟩⟩⟩;refine⟨_,rfl,p,_,rfl,.inr e,rfl,_,rfl,zdd (show ¬ decide (V.int ((2:Nat):Int)=V.int 3)=true by decide) ?_⟩;refine⟨_,rfl,p,_,_,_,rfl,rfl,e,rfl,_,"int",_,true,rfl,.of (.int _),rfl,_,rfl, iN ⟨_,rfl,p,_,_,_,rfl,rfl,e,rfl,_,"bool",_,false,rfl,.of (.int _),rfl,_,rfl, iN ⟨_,rfl,p,_,_,_,rfl,rfl,e,rfl,_,_,rfl,rfl,_,rfl,zdd (by walk_at "o") ?_⟩⟩⟩;exact⟨_,rfl,p,_,_,_,rfl,rfl,e,at0,rfl,_,rfl,zdz (decide_eq_true rfl) ⟨_,rfl,p,_,_,_,rfl,rfl,e,rfl,_,_,rfl,rfl,_,rfl,zdz (by walk_at "o") (iP (q H (Same.refl _)))⟩⟩
   | num k =>
     obtain⟨p,x,y,rfl,e,h1,h2⟩:=dt2 hv;cases zia h1;cases zra h2;have k8:k<281474976710656:=by have:k<8 ^ 16:=ht; rw[zle] at this; exact this
     refine⟨_,rfl,_,"tuple",_,true,rfl,.tup e,rfl,_,rfl,iN ⟨_,rfl,p,_,rfl,.inr e,_,_,rfl,rfl,_,rfl,zdz (show decide ((2:Int)<=((2:Nat):Int))=true by decide) ⟨_,_,rfl,rfl,_,rfl,zdd (show ¬ (!decide (((2:Nat):Int)<=3))=true by decide) ⟨_,rfl,p,_,_,_,rfl,rfl,e,at0,_,"str",_,true,rfl,.of (.str _),rfl,_,rfl,iN ?_⟩⟩⟩⟩;refine⟨_,rfl,p,_,rfl,.inr e,rfl,_,rfl,zdd (show ¬ decide (V.int ((2:Nat):Int)=V.int 3)=true by decide) ?_⟩;refine⟨_,rfl,p,_,_,_,rfl,rfl,e,rfl,_,"int",_,true,rfl,.of (.int _),rfl,_,rfl, iN ⟨_,rfl,p,_,_,_,rfl,rfl,e,rfl,_,"bool",_,false,rfl,.of (.int _),rfl,_,rfl, iN ⟨_,rfl,p,_,_,_,rfl,rfl,e,rfl,_,_,rfl,rfl,_,rfl,zdd (by walk_at "o") ?_⟩⟩⟩;refine⟨_,rfl,p,_,_,_,rfl,rfl,e,at0,rfl,_,rfl,iN (zdd qas ⟨_,rfl,p,_,_,_,rfl,rfl,e,at0,rfl,_,rfl,zdz (decide_eq_true rfl) ⟨_,rfl,p,_,_,_,rfl,rfl,e,rfl,_,_,rfl,rfl,⟨by decide,by decide,by decide⟩,_,_,rfl,rfl,_,rfl,?_⟩⟩)⟩;rw[pw48];have hk:decide ((k:Int)<281474976710656)=true:=decide_eq_true (by omega);generalize decide ((k:Int)<281474976710656)=g at hk ⊢;subst hk;exact q H (Same.refl _)
   | op i l r =>
     obtain⟨p,xs,rfl,e,hx⟩:=zkg hv;obtain⟨s,x,y,rfl,h1,bl,br⟩:=z5t hx;cases zia h1;have d1:bdp l<n:=by have:max (bdp l) (bdp r)+1<n+1:=hd; omega
     have d2:bdp r<n:=by have:max (bdp l) (bdp r)+1<n+1:=hd; omega
     have g:=sgl i ht.1;refine⟨_,rfl,_,"tuple",_,true,rfl,.tup e,rfl,_,rfl,iN ⟨_,rfl,p,_,rfl,.inr e,_,_,rfl,rfl,_,rfl,zdz (show decide ((2:Int)<=((3:Nat):Int))=true by decide) ⟨_,_,rfl,rfl,_,rfl,zdd (show ¬ (!decide (((3:Nat):Int)<=3))=true by decide) ⟨_,rfl,p,_,_,_,rfl,rfl,e,at0,_,"str",_,true,rfl,.of (.str _),rfl,_,rfl,iN ?_⟩⟩⟩⟩;refine⟨_,rfl,p,_,rfl,.inr e,rfl,_,rfl,zdz (show decide (V.int ((3:Nat):Int)=V.int 3)=true by decide) ?_⟩;refine⟨_,rfl,p,_,_,_,rfl,rfl,e,at0,_,rfl,(by show 1<=_; decide),rfl,_,rfl,zdd (by rw[g.1]; decide) ⟨_,rfl,p,_,_,_,rfl,rfl,e,at0,_,_,rfl,rfl,_,rfl,zdd (by rw[g.2]; decide) ?_⟩⟩;exact⟨_,rfl,p,_,_,_,rfl,rfl,e,rfl,l,x,rfl,d1,bl,ht.2.1,hs.1,λH2 s2=>⟨_,rfl,p,_,_,_,rfl,rfl,s2.tup e,rfl,r,y,rfl,d2,DatV.mono s2 _ _ br,ht.2.2,hs.2,λH3 s3=>⟨_,_,rfl,rfl,vq (qa0 V.int (qe6 ..).symm) (q H3 (s2.trans s3))⟩⟩⟩
theorem zee:FnScope ["_law_frame","_law_places","_law_built","_law_one","_law_many","_law_wrong"] ["_law_frame","_law_places","_law_built"] (zah zes):=by walk_at "s"
theorem zl8 (T:Txt K mg t):FnOk P w K mg base CX0 20 t.zij t.zik ["_law_frame","_law_places","_law_built"] (zl4 K):=by
 have G_l_leaves:FnOk P w K mg base CX0 12 t.zh7 t.zh8 ["_law_one"] (zis K 10):=zmb T 10;refine T.zk8.F.ok zee (λvs H Q E h=>?_) (λcdv A outer s H vs Q E hr h=>?_)
 . obtain⟨u,w,b,bs,c,pl,rfl,hB,hu,hw,c1,c2,lp,hp,q⟩:=h;rfl
 . obtain⟨u,w,b,bs,c,pl,rfl,hB,hu,hw,c1,c2,lp,hp,q⟩:=h;refine⟨_,(@zad _ _ _ _ _ (@zbi _ _ _ _ _ _ _ _ (@PW.pt _ _ _ (zhj (zel (zcy (zam zbe (by rfl) T.b_isinstance za4 (@zaa _ _ _ _ _ (pvC 0) (@zaa _ _ _ _ _ (zdj (v:=V.ty "tuple") rfl T.b_tuple ze3 rfl) zac (by rfl)) (by rfl))))) (zhj (@zan _ _ _ _ _ _ _ _ zql (zam (show zbv _ (.builtin "len") (zh9 K) from zay) (by rfl) T.b_len zbk (@zaa _ _ _ _ _ (pvC 0) zac (by rfl))) zae (zax _)) (zg8 (zel (zcy (zam zbe (by rfl) T.b_isinstance za4 (@zaa _ _ _ _ _ (pvC 1) (@zaa _ _ _ _ _ (zdj (v:=V.ty "list") rfl T.b_list zf9 rfl) zac (by rfl)) (by rfl))))))))) (@zag _ _ _ (@zat _ _ _ _ ziu)) zau) (@zad _ _ _ _ _ (zdh PassesOwn.never rfl (zgc (pvC 2)) (z6f rfl (za9 (zar (i:=3) zee.nd rfl (Or.inl rfl)) (za9 (zar (i:=4) zee.nd rfl (Or.inl rfl)) zdv))) (@zag _ _ _ (@zbi _ _ _ _ _ _ _ _ (@zan _ _ _ _ _ _ _ _ zdw (@zaq _ _ _ _ _ _ _ (show IxR _ (zcz K) from zak) (pvC 3) zae (λ_ _=>rfl)) (@zaq _ _ _ _ _ _ _ (show IxR _ (zcz K) from zak) (pvC 0) zae (λ_ _=>rfl)) (zax _)) (@zad _ _ _ _ _ (@zbi _ _ _ _ _ _ _ _ (@PW.pt _ _ _ (zhj (zel (zcy (zam zbe (by rfl) T.b_isinstance za4 (@zaa _ _ _ _ _ (@zaq _ _ _ _ _ _ _ (show IxR _ (zcz K) from zak) (pvC 0) zae (λ_ _=>rfl)) (@zaa _ _ _ _ _ (zdj (v:=V.ty "int") rfl T.b_int zo8 rfl) zac (by rfl)) (by rfl))))) (zhj (zcy (zam zbe (by rfl) T.b_isinstance za4 (@zaa _ _ _ _ _ (@zaq _ _ _ _ _ _ _ (show IxR _ (zcz K) from zak) (pvC 0) zae (λ_ _=>rfl)) (@zaa _ _ _ _ _ (zdj (v:=V.ty "bool") rfl T.b_bool zyk rfl) zac (by rfl)) (by rfl)))) (zg8 (zel (zlq (zc2 zrg) (zc2 zjg) zae (@zaq _ _ _ _ _ _ _ (show IxR _ (zcz K) from zak) (pvC 0) zae (λ_ _=>rfl)) (zam (show zbv _ (.builtin "len") (zh9 K) from zay) (by rfl) T.b_len zbk (@zaa _ _ _ _ _ (@zaq _ _ _ _ _ _ _ (show IxR _ (zcz K) from zak) (pvC 3) zae (λ_ _=>rfl)) zac (by rfl))))))))) (@zag _ _ _ (@zat _ _ _ _ ziu)) zau) (@zad _ _ _ _ _ (zjx (i:=5) zee.nd rfl (Or.inl rfl) (N':=["_law_place_here"]) (js:=[none]) (by kernel_rfl) rfl (zgc (pvC 1)) zb6 (λ_ _ _ _=>(zar (i:=0) (show(["_law_place_here"]:List Str).Nodup by decide +kernel) rfl (Or.inl rfl) (.inr rfl))) (λ_ _ _ _=>(zwj (@PW.pt _ _ _ (@zjf _ _ _ _ _ _ _ (zpn (zrr (pvC 0))) (@zg0 _ _ _ _ (@zan _ _ _ _ _ _ _ _ (zc2 zuf) (za6 T.zju G_l_leaves (hr.mono (by decide)) (@zaa _ _ _ _ _ (pvC 0) zac (by rfl))) zae (zax _))))))) (λ_ _ _ _=>(pvC 0)) (by rfl)) (@zag _ _ _ (@zat _ _ _ _ (zqp (zf7 zdw (zam (show zbv _ (.builtin "len") (zh9 K) from zay) (by rfl) T.b_len zbk (@zaa _ _ _ _ _ (pvC 1) zac (by rfl))) (pvC 4) (zax _)) (zo7 (zf7 (zp8 hr.units) (pvC 5) (@zb9 _ _ _ _ zac) (zax _)))))))) zau))) (@zag _ _ _ (@zat _ _ _ _ ziu)))),?_⟩;obtain⟨fA,x1,x2,rfl,hf,h1,h2⟩:=dt2 hu;cases zia h1;cases zra h2;obtain⟨wA,ws,rfl,hws,dws⟩:=zit hw;have lbs:(rlB bs).length=bs.length:=by unfold rlB rlF; rw[List.length_map,List.length_map]
   rw[lbs] at c1;obtain⟨y,hy⟩:∃y,bs[c.1]?=some y:=⟨_,List.getElem?_eq_getElem c1⟩
   have hfy:(bs.map (·.f))[c.1]?=some y.f:=by rw[List.getElem?_map,hy]; rfl
   have nmy:nmB bs c.1=y.f.name:=zgl hfy;have rly:(rlB bs).getD c.1 0=y.f.rs.length:=by unfold rlB rlF; rw[List.getD_eq_getElem?_getD,List.getElem?_map,hfy]; rfl
   rw[rly] at c2;have cny:cnB bs c.1=(F2.nms y.f).length:=zs1 hfy;have lws:ws.length=pl.length:=by rw[zc0 dws,List.length_map]
   have ycn:=hB.cn y (List.mem_of_getElem? hy);rw[nmy] at hf;refine⟨_,rfl,_,"tuple",_,true,rfl,.tup hf,rfl,_,rfl,iN ⟨_,rfl,fA,_,rfl,.inr hf,rfl,_,rfl,zdd (show ¬ (!decide (V.int ((2:Nat):Int)=V.int 2))=true by decide) ⟨_,rfl,_,"list",_,true,rfl,.lst hws,rfl,_,rfl,iN ?_⟩⟩⟩;refine⟨_,rfl,b,rfl,⟨_,hB.bt.ls⟩,(let Jv1:Nat->St->Hp->Prop:=λi σ H2=>i<=c.1/\∃v3 v4 v5:Option V,σ=[some (.ref fA),some (.ref wA),some (.ref b),v3,v4,v5]/\Same H H2; ztr (xs:=bs.map λx=>V.ref x.e) Jv1 ⟨qaz _,_,_,_,rfl,Same.refl _⟩ ?_ ?_ ?_)⟩
   . rintro i σ H2 hi ⟨_,v3,v4,v5,rfl,s2⟩;exact s2.seq hB.bt.ls
   . rintro i z σ H2 hz ⟨hi,v3,v4,v5,rfl,s2⟩;rw[List.getElem?_map] at hz;obtain⟨x,hx⟩:∃x,bs[i]?=some x:=by cases e:bs[i]? with|none=>rw[e] at hz; cases hz|some x=>exact⟨x,rfl⟩
     rw[hx] at hz;cases hz;have hE:=(hB.bt.all x (List.mem_of_getElem? hx)).mono s2;refine⟨x.e,_,rfl,hE.en,rfl,_,_,rfl,_,_,rfl,rfl,?_⟩;refine⟨_,rfl,x.f.fa,_,_,_,rfl,rfl,hE.fn.fn,at0,_,rfl,fA,_,_,_,rfl,rfl,s2.tup hf,at0,rfl,_,rfl,?_⟩;by_cases hic:i=c.1
     . subst hic;rw[hy] at hx;cases hx;refine zdz (decide_eq_true rfl) ?_;refine⟨_,rfl,fA,_,_,_,rfl,rfl,s2.tup hf,rfl,_,"int",_,true,rfl,.of (.int _),rfl,_,rfl,iN ⟨_,rfl,fA,_,_,_,rfl,rfl,s2.tup hf,rfl,_,"bool",_,false,rfl,.of (.int _),rfl,_,rfl,iN ⟨_,rfl,fA,_,_,_,rfl,rfl,s2.tup hf,rfl,_,_,rfl,rfl,_,rfl,?_⟩⟩⟩;refine zdz (by walk_at "o") ⟨_,rfl,y.f.fa,_,_,_,rfl,rfl,hE.fn.fn,rfl,y.f.ra,_,rfl,.inr hE.fn.rw_,_,_,rfl,rfl,_,rfl,?_⟩;refine zdd (by rw[List.length_map,show decide ((c.2:Int)<(y.f.rs.length:Int))=true from decide_eq_true (by omega)]; decide) ?_;refine⟨_,rfl,wA,rfl,⟨_,s2.seq hws⟩,λpL hpL=>(let Jv2:Nat->List V->Hp->Prop:=λj acc H3=>acc=[]/\Same H2 H3/\H3 pL=some (.lst []); zey (xs:=ws) (by have:=hE.cn; omega) Jv2 ⟨rfl,Same.new hpL,zab⟩ ?_ ?_ ?_)⟩
       . rintro j acc H3 hj ⟨rfl,s3,e3⟩;exact⟨e3,qaz _,(s2.trans s3).seq hws⟩
       . rintro j v acc H3 hv ⟨rfl,s3,e3⟩;obtain⟨o,ho,dv⟩:=zid dws hv;have po:=hp o (List.mem_of_getElem? ho);have hn:=z0n dv;refine⟨_,rfl,_,rfl,?_⟩;cases o with
         | none =>
           cases hn.mpr rfl;exact iN (zdd qas ⟨rfl,s3,e3⟩)
         | some tr =>
           have hv0:v≠.non:=λz=>by cases hn.mp z
           have hlv:lv tr<=8:=po.1.2;have hbd:=znj tr;refine zdz (by rw[qbn hv0]; rfl) ⟨_,rfl,tr,v,rfl,by omega,DatV.mono (s2.trans s3) _ _ dv,po.1.1,po.2,λH4 s4=>⟨_,_,rfl,rfl,_,rfl,zdd (by walk_at "o") ⟨rfl,s3.trans s4,s4 _ _ e3⟩⟩⟩
       . rintro acc H3 ⟨rfl,s3,e3⟩;refine⟨_,rfl,wA,_,rfl,.inl ((s2.trans s3).seq hws),_,rfl,rfl,_,rfl,zdz (decide_eq_true (qa0 V.int (by omega))) ⟨_,rfl,le0,λn0 hn0=>⟨.list [],.list [],zbc (SqL.of (Same.new hn0 _ _ e3)) zap,zbc (SqL.of zab) zap,rfl,rfl,vq (qa0 V.bl (by decide +kernel)) (q _ ((s2.trans s3).trans (Same.new hn0)))⟩⟩⟩
     . refine zdd (λz=>hic ?_) ⟨by omega,_,_,_,rfl,s2⟩;have hfx:(bs.map (·.f))[i]?=some x.f:=by rw[List.getElem?_map,hx]; rfl
       have hnd:((bs.map (·.f)).map (·.name)).Nodup:=by rw[qbg]; exact hB.bt.nd
       refine zri hnd (by rw[List.length_map]; exact(List.getElem?_eq_some_iff.mp hx).1) (by rw[List.length_map]; exact c1) ?_;rw[zgl hfx,zgl hfy];exact V.str.inj (zb7 z)
   . rintro σ H2 ⟨hi,-⟩;rw[List.length_map] at hi;omega
theorem zga:FnScope ["_law_mark_here","_law_built","_law_chain","_law_views"] ["_law_mark_here","_law_built"] (zah ze5):=by walk_at "s"
theorem zm7 (T:Txt K mg t):FnOk P w K mg base CX0 21 t.zjo t.zjr ["_law_mark_here","_law_built"] (znb K):=by
 have G_l_frame_fits:=zl8 (P:=P) (w:=w) (base:=base) T;refine T.zm6.F.ok zga (λvs H Q E h=>?_) (λcdv A outer s H vs Q E hr h=>?_)
 . obtain⟨u,b,bs,m,rfl,hB,hu,fit,q⟩:=h;rfl
 . obtain⟨u,b,bs,m,rfl,hB,hu,fit,q⟩:=h;refine⟨_,(@zad _ _ _ _ _ (@zbi _ _ _ _ _ _ _ _ (@PW.pt _ _ _ (zhj (zel (zcy (zam zbe (by rfl) T.b_isinstance za4 (@zaa _ _ _ _ _ (pvC 0) (@zaa _ _ _ _ _ (zdj (v:=V.ty "tuple") rfl T.b_tuple ze3 rfl) zac (by rfl)) (by rfl))))) (zg8 (@zan _ _ _ _ _ _ _ _ zql (zam (show zbv _ (.builtin "len") (zh9 K) from zay) (by rfl) T.b_len zbk (@zaa _ _ _ _ _ (pvC 0) zac (by rfl))) zae (zax _))))) (@zag _ _ _ (@zat _ _ _ _ ziu)) zau) (@zad _ _ _ _ _ (zie (pvC 0) (zfq rfl (za9 (zar (i:=2) zga.nd rfl (Or.inr rfl)) (za9 (zar (i:=3) zga.nd rfl (Or.inr rfl)) zdv)))) (@zad _ _ _ _ _ (@zbi _ _ _ _ _ _ _ _ (@PW.pt _ _ _ (zhj (zel (zcy (zam zbe (by rfl) T.b_isinstance za4 (@zaa _ _ _ _ _ (pvC 2) (@zaa _ _ _ _ _ (zdj (v:=V.ty "tuple") rfl T.b_tuple ze3 rfl) zac (by rfl)) (by rfl))))) (zhj (zel (zcy (zam zbe (by rfl) T.b_isinstance za4 (@zaa _ _ _ _ _ (pvC 3) (@zaa _ _ _ _ _ (zdj (v:=V.ty "list") rfl T.b_list zf9 rfl) zac (by rfl)) (by rfl))))) (zg8 (zel (zlq (zc2 zrg) (zc2 zrg) zae (zam (show zbv _ (.builtin "len") (zh9 K) from zay) (by rfl) T.b_len zbk (@zaa _ _ _ _ _ (pvC 2) zac (by rfl))) zae)))))) (@zag _ _ _ (@zat _ _ _ _ ziu)) zau) (@zad _ _ _ _ _ (@zbi _ _ _ _ _ _ _ _ (@zan _ _ _ _ _ _ _ _ zql (zam (show zbv _ (.builtin "len") (zh9 K) from zay) (by rfl) T.b_len zbk (@zaa _ _ _ _ _ (pvC 3) zac (by rfl))) (zam (show zbv _ (.builtin "len") (zh9 K) from zay) (by rfl) T.b_len zbk (@zaa _ _ _ _ _ (pvC 2) zac (by rfl))) (zax _)) (@zag _ _ _ (@zat _ _ _ _ ziu)) zau) (@zag _ _ _ (@zat _ _ _ _ (zam (zn5 rfl) (by rfl) T.b_all zwf (@zaa _ _ _ _ _ (ze2 (N':=["_law_k","_law_built","_law_chain","_law_views"]) (js:=[none,some 1,some 2,some 3]) (by kernel_rfl) rfl (zb4 rfl T.b_range (@zaa _ _ _ _ _ (zam (show zbv _ (.builtin "len") (zh9 K) from zay) (by rfl) T.b_len zbk (@zaa _ _ _ _ _ (pvC 2) zac (by rfl))) zac (by rfl))) zb6 (λ_ _ _ _=>(zar (i:=0) (show(["_law_k","_law_built","_law_chain","_law_views"]:List Str).Nodup by decide +kernel) rfl (Or.inl rfl) (.inr rfl))) (λ_ _ _ _=>zcw) (λ_ _ _ _=>(za6 T.zk8 G_l_frame_fits (hr.mono (by decide)) (@zaa _ _ _ _ _ (@zaq _ _ _ _ _ _ _ (show IxR _ (zcz K) from zak) (pvC 2) (pvC 0) (λ_ _=>rfl)) (@zaa _ _ _ _ _ (@zaq _ _ _ _ _ _ _ (show IxR _ (zim K) from zbb) (pvC 3) (pvC 0) (λ_ _=>rfl)) (@zaa _ _ _ _ _ (pvC 1) zac (by rfl)) (by rfl)) (by rfl))))) zac (by rfl))))))))),?_⟩;obtain⟨mA,cv,wv,rfl,hmA,hcv,hwv⟩:=dt2 hu;obtain⟨cA,cs,rfl,hcs,dcs⟩:=zkg hcv;obtain⟨wA,ws,rfl,hws,dws⟩:=zit hwv;have lcs:cs.length=m.ch.length:=by rw[zc0 dcs,List.length_map]
   have lws:ws.length=m.ch.length:=by rw[zc0 dws,List.length_map]; exact fit.vl
   have f1:=fit.l1;have f3:=fit.l3;refine⟨_,rfl,_,"tuple",_,true,rfl,.tup hmA,rfl,_,rfl,iN ⟨_,rfl,mA,_,rfl,.inr hmA,rfl,_,rfl,zdd (show ¬ (!decide (V.int ((2:Nat):Int)=V.int 2))=true by decide) ?_⟩⟩;refine⟨_,rfl,mA,_,rfl,hmA,rfl,_,_,rfl,_,_,rfl,rfl,?_⟩;refine⟨_,rfl,_,"tuple",_,true,rfl,.tup hcs,rfl,_,rfl,iN ⟨_,rfl,_,"list",_,true,rfl,.lst hws,rfl,_,rfl,iN ⟨_,rfl,cA,_,rfl,.inr hcs,_,_,rfl,rfl,_,rfl,?_⟩⟩⟩;refine zdz (by walk_at "o") ⟨_,_,rfl,rfl,_,rfl,zdd (by rw[show decide ((cs.length:Int)<=3)=true from decide_eq_true (by omega)]; decide) ?_⟩;refine⟨_,rfl,wA,_,rfl,.inl hws,_,rfl,cA,_,rfl,.inr hcs,rfl,_,rfl,zdd (by rw[lws,lcs]; simp) ?_⟩;refine⟨_,rfl,cA,_,rfl,.inr hcs,cs.length,rfl,by omega,by omega,λpL hpL=>(let Jv1:Nat->List V->Hp->Prop:=λi acc H2=>Same H H2/\H2 pL=some (.lst acc)/\acc=(List.replicate i true).map V.bl; zd0 (lo:=0) (n:=cs.length) (by omega) Jv1 ⟨Same.new hpL,zab,rfl⟩ ?_ ?_ ?_)⟩
   . rintro i acc H2 hi ⟨s2,e2,rfl⟩;exact⟨e2,by rw[List.length_map,qcz]; exact qaj _⟩
   . rintro i acc H2 hi ⟨s2,e2,rfl⟩;obtain⟨c,hc⟩:∃c,m.ch[i]?=some c:=⟨_,List.getElem?_eq_getElem (by omega)⟩
     obtain⟨v,hv⟩:∃v,m.vs[i]?=some v:=⟨_,List.getElem?_eq_getElem (by rw[fit.vl]; omega)⟩
     obtain⟨x,hx,dx⟩:=zji dcs hc;obtain⟨y,hy,dy⟩:=zji dws hv;have hix:=fit.ix c (List.mem_of_getElem? hc);rw[qb3];refine⟨_,rfl,_,rfl,cA,_,_,_,rfl,rfl,s2.tup hcs,zcg hx,_,rfl,_,rfl,wA,_,_,_,rfl,rfl,s2.seq hws,zcg hy,_,rfl,x,y,b,bs,c,v,rfl,hB.mono s2,DatV.mono s2 _ _ dx,DatV.mono s2 _ _ dy,hix.1,hix.2,fit.cn i c v hc hv,fit.ok v (List.mem_of_getElem? hv),λH3 s3=>⟨s3 _ _ e2,(s2.trans s3).upd hpL,zab,?_⟩⟩;rw[List.replicate_succ',List.map_append];rfl
   . rintro acc H2 ⟨s2,e2,rfl⟩;exact⟨pL,List.replicate cs.length true,rfl,SqL.of e2,vq (qa0 V.bl (by simp)) (q H2 s2)⟩
theorem zmm:FnScope ["_law_table_here","_law_built","_law_k","_law_one"] ["_law_table_here","_law_built"] (zah zli):=by walk_at "s"
theorem zxn (T:Txt K mg t):FnOk P w K mg base CX0 22 t.zt2 t.zt8 ["_law_table_here","_law_built"] (zw6 K):=by
 have G_l_mark_fits:=zm7 (P:=P) (w:=w) (base:=base) T;refine T.z1w.F.ok zmm (λvs H Q E h=>?_) (λcdv A outer s H vs Q E hr h=>?_)
 . obtain⟨u,b,bs,mss,rfl,hB,hu,lm,fit,q⟩:=h;rfl
 . obtain⟨u,b,bs,mss,rfl,hB,hu,lm,fit,q⟩:=h;refine⟨_,(@zad _ _ _ _ _ (@zbi _ _ _ _ _ _ _ _ (@PW.pt _ _ _ (zhj (zel (zcy (zam zbe (by rfl) T.b_isinstance za4 (@zaa _ _ _ _ _ (pvC 0) (@zaa _ _ _ _ _ (zdj (v:=V.ty "list") rfl T.b_list zf9 rfl) zac (by rfl)) (by rfl))))) (zg8 (@zan _ _ _ _ _ _ _ _ zql (zam (show zbv _ (.builtin "len") (zh9 K) from zay) (by rfl) T.b_len zbk (@zaa _ _ _ _ _ (pvC 0) zac (by rfl))) (zam (show zbv _ (.builtin "len") (zh9 K) from zay) (by rfl) T.b_len zbk (@zaa _ _ _ _ _ (pvC 1) zac (by rfl))) (zax _))))) (@zag _ _ _ (@zat _ _ _ _ ziu)) zau) (@zad _ _ _ _ _ (zdh PassesOwn.never rfl (zb4 rfl T.b_range (@zaa _ _ _ _ _ (zam (show zbv _ (.builtin "len") (zh9 K) from zay) (by rfl) T.b_len zbk (@zaa _ _ _ _ _ (pvC 1) zac (by rfl))) zac (by rfl))) (zar (i:=2) zmm.nd rfl (Or.inl rfl)) (@zad _ _ _ _ _ (@zas _ _ 3 _ _ _ _ zmm.nd rfl (Or.inl rfl) (@zaq _ _ _ _ _ _ _ (show IxR _ (zim K) from zbb) (pvC 0) (pvC 2) (λ_ _=>rfl)) (by rfl) (by walk_at "f")) (@zad _ _ _ _ _ (@zbi _ _ _ _ _ _ _ _ (@PW.pt _ _ _ (zhj (zel (zcy (zam zbe (by rfl) T.b_isinstance za4 (@zaa _ _ _ _ _ (pvC 3) (@zaa _ _ _ _ _ (zdj (v:=V.ty "tuple") rfl T.b_tuple ze3 rfl) zac (by rfl)) (by rfl))))) (zhj (@zan _ _ _ _ _ _ _ _ zql (zam (show zbv _ (.builtin "len") (zh9 K) from zay) (by rfl) T.b_len zbk (@zaa _ _ _ _ _ (pvC 3) zac (by rfl))) zae (zax _)) (zg8 (@zan _ _ _ _ _ _ _ _ zql (@zaq _ _ _ _ _ _ _ (show IxR _ (zcz K) from zak) (pvC 3) zae (λ_ _=>rfl)) (@zaq _ _ _ _ _ _ _ (show IxR _ (zcz K) from zak) (@zaq _ _ _ _ _ _ _ (show IxR _ (zim K) from zbb) (@zaq _ _ _ _ _ _ _ (show IxR _ (zim K) from zbb) (pvC 1) (pvC 2) (λ_ _=>rfl)) zae (λ_ _=>rfl)) zae (λ_ _=>rfl)) (zax _)))))) (@zag _ _ _ (@zat _ _ _ _ ziu)) zau) (@zad _ _ _ _ _ (@zbi _ _ _ _ _ _ _ _ (@PW.pt _ _ _ (zhj (zel (zcy (zam zbe (by rfl) T.b_isinstance za4 (@zaa _ _ _ _ _ (@zaq _ _ _ _ _ _ _ (show IxR _ (zcz K) from zak) (pvC 3) zae (λ_ _=>rfl)) (@zaa _ _ _ _ _ (zdj (v:=V.ty "list") rfl T.b_list zf9 rfl) zac (by rfl)) (by rfl))))) (zg8 (zel (zlq (zc2 zrg) (zc2 zrg) zae (zam (show zbv _ (.builtin "len") (zh9 K) from zay) (by rfl) T.b_len zbk (@zaa _ _ _ _ _ (@zaq _ _ _ _ _ _ _ (show IxR _ (zcz K) from zak) (pvC 3) zae (λ_ _=>rfl)) zac (by rfl))) zae))))) (@zag _ _ _ (@zat _ _ _ _ ziu)) zau) (@zag _ _ _ (@zbi _ _ _ _ _ _ _ _ (zel (zcy (zam (zn5 rfl) (by rfl) T.b_all zwf (@zaa _ _ _ _ _ (ze2 (N':=["_law_mark_here","_law_built"]) (js:=[none,some 1]) (by kernel_rfl) rfl (zgc (@zaq _ _ _ _ _ _ _ (show IxR _ (zcz K) from zak) (pvC 3) zae (λ_ _=>rfl))) zb6 (λ_ _ _ _=>(zar (i:=0) (show(["_law_mark_here","_law_built"]:List Str).Nodup by decide +kernel) rfl (Or.inl rfl) (.inr rfl))) (λ_ _ _ _=>zcw) (λ_ _ _ _=>(za6 T.zm6 G_l_mark_fits (hr.mono (by decide)) (@zaa _ _ _ _ _ (pvC 0) (@zaa _ _ _ _ _ (pvC 1) zac (by rfl)) (by rfl))))) zac (by rfl))))) (@zag _ _ _ (@zat _ _ _ _ ziu)) zau)))))) (@zag _ _ _ (@zat _ _ _ _ ziu)))),?_⟩;obtain⟨tA,es,rfl,hes,des⟩:=zit hu;have les:es.length=mss.length:=by rw[zc0 des,List.length_map,zmh]
   have lbs:(bs.map λx=>V.ref x.e).length=bs.length:=List.length_map _;have n12:=hB.bt.n12;refine⟨_,rfl,_,"list",_,true,rfl,.lst hes,rfl,_,rfl,iN ⟨_,rfl,tA,_,rfl,.inl hes,_,rfl,b,_,rfl,.inl hB.bt.ls,rfl,_,rfl,zdd (by rw[les,lbs,lm]; simp) ?_⟩⟩;refine⟨_,rfl,b,_,rfl,.inl hB.bt.ls,_,rfl,by omega,by omega,?_⟩;refine(let Jv1:Nat->St->Hp->Prop:=λi σ H2=>∃v2 v3:Option V,σ=[some (.ref tA),some (.ref b),v2,v3]/\Same H H2; zex (lo:=0) (n:=List.length (List.map (λx:Bd=>V.ref x.e) bs)) Jv1 ⟨_,_,rfl,Same.refl _⟩ ?_ ?_)
   . rintro i σ H2 hi ⟨v2,v3,rfl,s2⟩;rw[lbs] at hi;obtain⟨ms,hms⟩:∃ms,mss[i]?=some ms:=⟨_,List.getElem?_eq_getElem (by omega)⟩
     obtain⟨x,hx⟩:∃x,bs[i]?=some x:=⟨_,List.getElem?_eq_getElem hi⟩
     obtain⟨v,hv,dv⟩:=zji des (zv1 hms);obtain⟨eA,y1,y2,rfl,heA,hy1,hy2⟩:=dt2 dv;cases zia hy1;obtain⟨lA,us,rfl,hus,dus⟩:=zit hy2;have lus:us.length=ms.length:=by rw[zc0 dus,List.length_map]
     obtain⟨m1,m2,mf⟩:=fit ms (List.mem_of_getElem? hms);have hE:=(hB.bt.all x (List.mem_of_getElem? hx)).mono s2;have hfx:(bs.map (·.f))[i]?=some x.f:=by rw[List.getElem?_map,hx]; rfl
     have nmx:nmB bs i=x.f.name:=zgl hfx;have heA:=s2.tup heA;have hus:=s2.seq hus;rw[qb3];refine⟨_,rfl,_,rfl,tA,_,_,_,rfl,rfl,s2.seq hes,zcg hv,?_⟩;refine⟨_,rfl,_,"tuple",_,true,rfl,.tup heA,rfl,_,rfl,iN ⟨_,rfl,eA,_,rfl,.inr heA,rfl,_,rfl,zdd (show ¬ (!decide (V.int ((2:Nat):Int)=V.int 2))=true by decide) ⟨_,rfl,eA,_,_,_,rfl,rfl,heA,at0,_,rfl,_,rfl,b,_,_,_,rfl,rfl,s2.seq hB.bt.ls,zcg (by rw[List.getElem?_map,hx]; rfl),x.e,_,_,_,rfl,rfl,hE.en,at0,x.f.fa,_,_,_,rfl,rfl,hE.fn.fn,at0,rfl,_,rfl,zdd (by rw[show((nmB bs i,ms):Str×List Mk).1=x.f.name from nmx]; simp) ?_⟩⟩⟩;refine⟨_,rfl,eA,_,_,_,rfl,rfl,heA,rfl,_,"list",_,true,rfl,.lst hus,rfl,_,rfl,iN ⟨_,rfl,eA,_,_,_,rfl,rfl,heA,rfl,lA,_,rfl,.inl hus,_,_,rfl,rfl,_,rfl,?_⟩⟩;refine zdz (by walk_at "o") ⟨_,_,rfl,rfl,_,rfl,zdd (by rw[show decide ((us.length:Int)<=200)=true from decide_eq_true (by omega)]; decide) ?_⟩;refine⟨_,rfl,eA,_,_,_,rfl,rfl,heA,rfl,lA,rfl,⟨_,hus⟩,λpL hpL=>(let Jv2:Nat->List V->Hp->Prop:=λj acc H3=>Same H2 H3/\H3 pL=some (.lst acc)/\acc=(List.replicate j true).map V.bl; zey (xs:=us) (by omega) Jv2 ⟨Same.new hpL,zab,rfl⟩ ?_ ?_ ?_)⟩
     . rintro j acc H3 hj ⟨s3,e3,rfl⟩;exact⟨e3,by rw[List.length_map,qcz]; exact qaj _,s3.seq hus⟩
     . rintro j z acc H3 hz ⟨s3,e3,rfl⟩;obtain⟨m,hm,dm⟩:=zid dus hz;refine⟨_,rfl,_,rfl,z,b,bs,m,rfl,hB.mono (s2.trans s3),DatV.mono (s2.trans s3) _ _ dm,mf m (List.mem_of_getElem? hm),λH4 s4=>⟨s4 _ _ e3,(s3.trans s4).upd hpL,zab,?_⟩⟩;rw[List.replicate_succ',List.map_append];rfl
     . rintro acc H3 ⟨s3,e3,rfl⟩;refine⟨pL,List.replicate us.length true,rfl,SqL.of e3,_,rfl,zdd (by simp) ⟨_,_,rfl,s2.trans s3⟩⟩
   . rintro σ H2 ⟨v2,v3,rfl,s2⟩;exact q H2 s2
theorem zdy:FnScope ["_law_rows","_law_built","_law_program","_law_handed","_law_fault","_law_found","e"] ["_law_rows","_law_built"] (zah zi8):=by walk_at "s"
theorem zus (T:Txt K mg t):FnOk P w K mg base CX0 35 t.zqz t.zq3 ["_law_rows","_law_built"] (znu K t):=by
 have G_unpack:=zo4 (P:=P) (w:=w) (base:=base) T;have G_l_fits:=zxn (P:=P) (w:=w) (base:=base) T;have G_pack:=zv5 (P:=P) (w:=w) (base:=base) T;refine T.zyw.F.ok zdy (λvs H Q E h=>?_) (λcdv A outer s H vs Q E hr h=>?_)
 . obtain⟨rw_,b,bs,ls,rfl,hB,hrw,l12,hls,q⟩:=h;rfl
 . obtain⟨rw_,b,bs,ls,rfl,hB,hrw,l12,hls,q⟩:=h;refine⟨_,(@zad _ _ _ _ _ (zjx (i:=2) zdy.nd rfl (Or.inl rfl) (N':=["_law_one"]) (js:=[none]) (by kernel_rfl) rfl (zgc (pvC 1)) zb6 (λ_ _ _ _=>(zar (i:=0) (show(["_law_one"]:List Str).Nodup by decide +kernel) rfl (Or.inl rfl) (.inr rfl))) (λ_ _ _ _=>zcw) (λ_ _ _ _=>(@zaq _ _ _ _ _ _ _ (show IxR _ (zim K) from zbb) (pvC 0) zae (λ_ _=>rfl))) (by rfl)) (@zad _ _ _ _ _ (@zas _ _ 3 _ _ _ _ zdy.nd rfl (Or.inl rfl) (zb3 zfy (by rfl) T.b_list zf9 (@zaa _ _ _ _ _ (pvC 0) zac (by rfl))) (by rfl) (by walk_at "f")) (@zad _ _ _ _ _ (@zas _ _ 4 _ _ _ _ zdy.nd rfl (Or.inl rfl) zkp (by rfl) (by walk_at "f")) (@zad _ _ _ _ _ (@zas _ _ 5 _ _ _ _ zdy.nd rfl (Or.inl rfl) zkp (by rfl) (by walk_at "f")) (@zad _ _ _ _ _ (z52 (j:=6) zdy.nd rfl rfl T.zf3 rfl rfl (z28 (i:=5) zdy.nd rfl (Or.inl rfl) (z3g T.unpack G_unpack (hr.mono (by decide)) (@zaa _ _ _ _ _ (pvC 2) (@zaa _ _ _ _ _ (pvC 3) zac (by rfl)) (by rfl)))) (λ_=>(@zag _ _ _ (@zas _ _ 4 _ _ _ _ zdy.nd rfl (Or.inl rfl) (pvC 6) (by rfl) (by walk_at "f"))))) (@zad _ _ _ _ _ (@zbi _ _ _ _ _ _ _ _ (@zan _ _ _ _ _ _ _ _ (zwx hr.units) (pvC 3) (pvC 0) (zax _)) (@zag _ _ _ (@zat _ _ _ _ ziu)) zau) (@zad _ _ _ _ _ (@zbi _ _ _ _ _ _ _ _ (zpn (zrr (pvC 4))) (@zag _ _ _ (@zat _ _ _ _ (zqp (zam ztw (by rfl) T.b_isinstance za4 (@zaa _ _ _ _ _ (pvC 4) (@zaa _ _ _ _ _ (zgn T.za2.g) zac (by rfl)) (by rfl))) (zo7 (zam ztw (by rfl) T.b_isinstance za4 (@zaa _ _ _ _ _ (pvC 4) (@zaa _ _ _ _ _ (zdj (v:=V.ty "ValueError") rfl T.b_ValueError zom rfl) zac (by rfl)) (by rfl))))))) zau) (@zag _ _ _ (@zat _ _ _ _ (zqp (za6 T.z1w G_l_fits (hr.mono (by decide)) (@zaa _ _ _ _ _ (pvC 5) (@zaa _ _ _ _ _ (pvC 1) zac (by rfl)) (by rfl))) (zo7 (zf7 (zp8 hr.units) (za6 T.pack G_pack (hr.mono (by decide)) (@zaa _ _ _ _ _ (pvC 2) (@zaa _ _ _ _ _ (pvC 5) zac (by rfl)) (by rfl))) (pvC 0) (zax _))))))))))))),?_⟩;have lbs:(bs.map λx=>V.ref x.e).length=bs.length:=List.length_map _;have n12:=hB.bt.n12;have ok:=zyh hB;refine⟨_,rfl,b,rfl,⟨_,hB.bt.ls⟩,λpP hpP=>(let Jv1:Nat->List V->Hp->Prop:=λi acc H2=>Same H H2/\H2 pP=some (.lst acc)/\acc=(bs.take i).map λx:Bd=>V.ref x.f.fa; zey (xs:=bs.map λx:Bd=>V.ref x.e) (by omega) Jv1 ⟨Same.new hpP,zab,rfl⟩ ?_ ?_ ?_)⟩
   . rintro i acc H2 hi ⟨s2,e2,rfl⟩;exact⟨e2,by rw[List.length_map,qbe]; omega,s2.seq hB.bt.ls⟩
   . rintro i z acc H2 hz ⟨s2,e2,rfl⟩;rw[List.getElem?_map] at hz;obtain⟨x,hx⟩:∃x,bs[i]?=some x:=by cases e:bs[i]? with|none=>rw[e] at hz; cases hz|some x=>exact⟨x,rfl⟩
     rw[hx] at hz;cases hz;have hE:=(hB.bt.all x (List.mem_of_getElem? hx)).mono s2;refine⟨_,rfl,x.e,_,_,_,rfl,rfl,hE.en,at0,e2,s2.upd hpP,zab,?_⟩;rw[qbj,hx,List.map_append];rfl
   rintro acc H1 ⟨s1,e1,rfl⟩;rw[lbs,qbb] at e1;have e1:H1 pP=some (.lst ((bs.map (·.f)).map λf=>V.ref f.fa)):=by rw[qbg]; exact e1
   refine⟨_,rfl,rw_,_,rfl,.inl (s1.seq hrw),λhd hhd=>?_⟩;have s2:=Same.new (o:=.lst (stx ls)) hhd;have ehd:upd H1 hd (.lst (stx ls)) hd=some (.lst (stx ls)):=zab;have e2:=s2 _ _ e1;have s02:=s1.trans s2;generalize upd H1 hd (.lst (stx ls))=H2 at s2 ehd e2 s02 ⊢;have hnd:((bs.map (·.f)).map (·.name)).Nodup:=by rw[qbg]; exact hB.bt.nd
   have hFn:∀{H':Hp},Same H H'->∀f∈bs.map (·.f),F2.FnAt K H' f:=λs f hf=>by obtain⟨x,hx,rfl⟩:=qa8.mp hf;exact((hB.bt.all x hx).mono s).fn
   have lay:=zzm λl hl=>(hls l hl).1;have shs:SeqAt.shaped (.list (ls.map λl=>PyData.str (tx l)))=true:=lay.shaped (by decide:1<=64);have dS:∀{H':Hp} {a:Addr},SqL K H' a (stx ls)->DatV K H' (.list (ls.map λl=>PyData.str (tx l))) (.ref a):=λh=>zbc h (zta ls);have ne:¬ (!PyData.eqv (.list (ls.map λl=>PyData.str (tx l))) (.list (ls.map λl=>PyData.str (tx l))))=true:=by rw[lay.refl]; decide
   refine⟨_,rfl,_,rfl,pP,hd,List.map (λx:Bd=>x.f) bs,ls,rfl,SqL.of e2,hFn s02,hnd,ok,SqL.of ehd,λl hl=>(hls l hl).2,λmss hm v H3 s3 dv=>?_,λhn H3 s3=>?_⟩
   . refine⟨_,rfl,_,rfl,_,_,dS (SqL.of (s3 _ _ ehd)),dS ((s02.trans s3).seq hrw),shs,shs,_,rfl,zdd ne ?_⟩;unfold z2b at hm;split at hm
     case isFalse=>cases hm
     rename_i hlen
     obtain⟨lm,hm⟩:=zpp hm;have hlen:ls.length=bs.length:=by rw[hlen,List.length_map]
     have hat:∀(k:Nat) ms,mss[k]?=some ms->∃l,ls[k]?=some l/\l=zib ms/\1<=ms.length/\ms.length<=200/\∀m∈ms,MFit (rlB bs) (cnB bs) m:=λk ms hk=>by
       have hk':k<ls.length:=by rw[<- lm]; exact(List.getElem?_eq_some_iff.mp hk).1
       have hl:=List.getElem?_eq_getElem hk';exact⟨_,hl,z36 ok (hm k _ ms hl hk)⟩
     have fit:∀ms∈mss,1<=ms.length/\ms.length<=200/\∀m∈ms,MFit (rlB bs) (cnB bs) m:=λms hms=>by obtain⟨k,hk⟩:=qb1 hms;obtain⟨l,_,_,h⟩:=hat k ms hk;exact h
     have erw:((tbl (nmB bs) mss).map λe=>V.str (tx (zib e.2)))=stx ls:=by
       rw[ztm (nmB bs) mss λms=>V.str (tx (zib ms))];unfold stx;rw[qbg];refine qdt λk=>?_;rw[List.getElem?_map,List.getElem?_map];cases e:mss[k]? with
       | none=>rw[qbi (l:=ls) (by rw[<- lm]; exact qco.mp e)]; rfl
       | some ms =>
         obtain⟨l,h1,h2,_⟩:=hat k ms e;rw[h1,h2];rfl
     have lrl:(rlB bs).length=(bs.map (·.f)).length:=by unfold rlB rlF; rw[List.length_map]
     refine⟨_,rfl,_,rfl,iN ?_⟩;refine⟨_,rfl,_,rfl,v,b,bs,mss,rfl,hB.mono (s02.trans s3),dv,by omega,fit,λH4 s4=>⟨_,rfl,zdz rfl ?_⟩⟩;have s04:=(s02.trans s3).trans s4;refine⟨_,rfl,_,rfl,pP,v,List.map (λx:Bd=>x.f) bs,tbl (nmB bs) mss,rfl,SqL.of (s4 _ _ (s3 _ _ e2)),(λz=>hB.bt.n0 (qed.mp z)),by rw[List.length_map]; exact n12,hFn s04,hnd,DatV.mono s4 _ _ dv,by rw[zmh]; omega,λe he=>?_,λl H5 s5 hl e5=>?_⟩
     . have he:=(zse he).1;refine⟨(fit _ he).2.1,λm hm=>?_⟩;rw[<- lrl];exact((fit _ he).2.2 m hm).mok ok
     . rw[erw] at e5;exact⟨_,rfl,_,_,dS (SqL.of e5),dS ((s04.trans s5).seq hrw),shs,shs,vq (qa0 V.bl lay.refl) (q H5 (s04.trans s5))⟩
   . refine⟨t.za2,_,rfl,T.za2,T.e_BadBits,λea hea=>⟨_,rfl,?_⟩⟩;have s4:=s3.trans (Same.new (o:=XC ea t.za2 none) hea);have hX:=zab (H:=H3) (a:=ea) (o:=XC ea t.za2 none);generalize upd H3 ea (XC ea t.za2 none)=H4 at s4 hX ⊢;refine⟨_,rfl,_,rfl,_,_,dS (SqL.of (s4 _ _ ehd)),dS ((s02.trans s4).seq hrw),shs,shs,_,rfl,zdd ne ?_⟩;refine⟨_,rfl,_,rfl,zdz (by simp) ?_⟩;exact⟨_,rfl,ea,_,_,_,_,_,_,rfl,hX,(λdx z=>by cases z),T.za2,rfl,T.k_BadBits_BadBits,_,rfl,zdz rfl ⟨_,rfl,ea,_,_,_,_,_,_,rfl,hX,(λdx z=>by cases z),T.za2,rfl,T.v_BadBits,q H4 (s02.trans s4)⟩⟩
theorem zi6:FnScope ["_law_script","_law_cell_here","_law_built","_law_program","_law_table_here","_law_rows","_law_good","_law_spot","_law_k"] ["_law_script"] (zah zv0):=by walk_at "s"
theorem ok_law (T:Txt K mg t):FnOk P w K mg base CX0 36 t.z6h t.z0l ["_law_script"] (sp_law K):=by
 have G_l_cell:=zqn (P:=P) (w:=w) (base:=base) T;have G_l_table:=zuy (P:=P) (w:=w) (base:=base) T;have G_pack:=zv5 (P:=P) (w:=w) (base:=base) T;have G_l_function:=zn0 (P:=P) (w:=w) (base:=base) T;have G_unpack:=zo4 (P:=P) (w:=w) (base:=base) T;have G_l_changed:=zqt (P:=P) (w:=w) (base:=base) T;have G_l_part:=zew (P:=P) (w:=w) (base:=base) T;have G_l_right:=zus (P:=P) (w:=w) (base:=base) T;refine T.law.F.ok zi6 (λvs H Q E h=>?_) (λcdv A outer s H vs Q E hr h=>?_)
 . obtain⟨a,ns,rfl,hS,hl,q⟩:=h;rfl
 . obtain⟨a,ns,rfl,hS,hl,q⟩:=h;refine⟨_,(@zad _ _ _ _ _ (@zas _ _ 1 _ _ _ _ zi6.nd rfl (Or.inr rfl) (za6 T.zh0 G_l_cell (hr.mono (by decide)) (@zaa _ _ _ _ _ (pvC 0) (@zaa _ _ _ _ _ zae zac (by rfl)) (by rfl))) (by rfl) (by walk_at "f")) (@zad _ _ _ _ _ (zjx (i:=2) zi6.nd rfl (Or.inl rfl) (N':=["_law_k","_law_cell_here","_law_script"]) (js:=[none,some 1,some 0]) (by kernel_rfl) rfl (zb4 rfl T.b_range (@zaa _ _ _ _ _ (@zav _ _ _ _ _ _ _ _ (zc2 zbp) zae (@zav _ _ _ _ _ _ _ _ (zhu zek) (pvC 1) zae)) zac (by rfl))) zb6 (λ_ _ _ _=>(zar (i:=0) (show(["_law_k","_law_cell_here","_law_script"]:List Str).Nodup by decide +kernel) rfl (Or.inl rfl) (.inr rfl))) (λ_ _ _ _=>zcw) (λ_ _ _ _=>(za6 T.znz G_l_function (hr.mono (by decide)) (@zaa _ _ _ _ _ (pvC 1) (@zaa _ _ _ _ _ (pvC 0) (@zaa _ _ _ _ _ (za6 T.zh0 G_l_cell (hr.mono (by decide)) (@zaa _ _ _ _ _ (pvC 2) (@zaa _ _ _ _ _ zae zac (by rfl)) (by rfl))) zac (by rfl)) (by rfl)) (by rfl)))) (by rfl)) (@zad _ _ _ _ _ (zjx (i:=3) zi6.nd rfl (Or.inl rfl) (N':=["_law_one"]) (js:=[none]) (by kernel_rfl) rfl (zgc (pvC 2)) zb6 (λ_ _ _ _=>(zar (i:=0) (show(["_law_one"]:List Str).Nodup by decide +kernel) rfl (Or.inl rfl) (.inr rfl))) (λ_ _ _ _=>zcw) (λ_ _ _ _=>(@zaq _ _ _ _ _ _ _ (show IxR _ (zim K) from zbb) (pvC 0) zae (λ_ _=>rfl))) (by rfl)) (@zad _ _ _ _ _ (@zas _ _ 4 _ _ _ _ zi6.nd rfl (Or.inl rfl) (za6 T.zyx G_l_table (hr.mono (by decide)) (@zaa _ _ _ _ _ (pvC 0) (@zaa _ _ _ _ _ (pvC 2) zac (by rfl)) (by rfl))) (by rfl) (by walk_at "f")) (@zad _ _ _ _ _ (@zas _ _ 5 _ _ _ _ zi6.nd rfl (Or.inl rfl) (za6 T.pack G_pack (hr.mono (by decide)) (@zaa _ _ _ _ _ (pvC 3) (@zaa _ _ _ _ _ (pvC 4) zac (by rfl)) (by rfl))) (by rfl) (by walk_at "f")) (@zad _ _ _ _ _ (@zas _ _ 6 _ _ _ _ zi6.nd rfl (Or.inl rfl) (zb3 zfy (by rfl) T.b_list zf9 (@zaa _ _ _ _ _ (pvC 5) zac (by rfl))) (by rfl) (by walk_at "f")) (@zad _ _ _ _ _ (@zbi _ _ _ _ _ _ _ _ (@zan _ _ _ _ _ _ _ _ (zwx hr.units) (z4o T.unpack G_unpack (hr.mono (by decide)) zyl (@zaa _ _ _ _ _ (pvC 3) (@zaa _ _ _ _ _ (pvC 6) zac (by rfl)) (by rfl))) (pvC 4) (zax _)) (@zag _ _ _ (@zat _ _ _ _ ziu)) zau) (@zad _ _ _ _ _ (@zas _ _ 7 _ _ _ _ zi6.nd rfl (Or.inl rfl) (@zav _ _ _ _ _ _ _ _ (zhu zek) (za6 T.zh0 G_l_cell (hr.mono (by decide)) (@zaa _ _ _ _ _ (pvC 0) (@zaa _ _ _ _ _ zae zac (by rfl)) (by rfl))) (zam (show zbv _ (.builtin "len") (zh9 K) from zay) (by rfl) T.b_len zbk (@zaa _ _ _ _ _ (pvC 5) zac (by rfl)))) (by rfl) (by walk_at "f")) (@zad _ _ _ _ _ (zdh PassesOwn.never rfl (zb4 rfl T.b_range (@zaa _ _ _ _ _ (@zav _ _ _ _ _ _ _ _ (zc2 zbp) zae (za6 T.zc7 G_l_part (hr.mono (by decide)) (@zaa _ _ _ _ _ (za6 T.zh0 G_l_cell (hr.mono (by decide)) (@zaa _ _ _ _ _ (pvC 0) (@zaa _ _ _ _ _ zae zac (by rfl)) (by rfl))) (@zaa _ _ _ _ _ zae (@zaa _ _ _ _ _ zae zac (by rfl)) (by rfl)) (by rfl)))) zac (by rfl))) (zar (i:=8) zi6.nd rfl (Or.inl rfl)) (@zag _ _ _ (zie (za6 T.zq5 G_l_changed (hr.mono (by decide)) (@zaa _ _ _ _ _ (@zaq _ _ _ _ _ _ _ (show IxR _ (zim K) from zbb) (pvC 5) (pvC 7) (λ_ _=>rfl)) (@zaa _ _ _ _ _ (za6 T.zh0 G_l_cell (hr.mono (by decide)) (@zaa _ _ _ _ _ (pvC 0) (@zaa _ _ _ _ _ (@zav _ _ _ _ _ _ _ _ (zc2 zbp) zae (pvC 8)) zac (by rfl)) (by rfl))) zac (by rfl)) (by rfl))) (zko (pvC 5) (pvC 7) zfo)))) (@zad _ _ _ _ _ (@zbi _ _ _ _ _ _ _ _ (@zan _ _ _ _ _ _ _ _ zdw (za6 T.zc7 G_l_part (hr.mono (by decide)) (@zaa _ _ _ _ _ (za6 T.zh0 G_l_cell (hr.mono (by decide)) (@zaa _ _ _ _ _ (pvC 0) (@zaa _ _ _ _ _ zae zac (by rfl)) (by rfl))) (@zaa _ _ _ _ _ zae (@zaa _ _ _ _ _ zae zac (by rfl)) (by rfl)) (by rfl))) zae (zax _)) (@zag _ _ _ (zie (zeh qb5 qca qcb zin za5 (@zaa _ _ _ _ _ (ze2 (N':=["_law_k","_law_script"]) (js:=[none,some 0]) (by kernel_rfl) rfl (zb4 rfl T.b_range (@zaa _ _ _ _ _ (@zav _ _ _ _ _ _ _ _ (zhu zek) (za6 T.zh0 G_l_cell (hr.mono (by decide)) (@zaa _ _ _ _ _ (pvC 0) (@zaa _ _ _ _ _ zae zac (by rfl)) (by rfl))) zae) zac (by rfl))) zb6 (λ_ _ _ _=>(zar (i:=0) (show(["_law_k","_law_script"]:List Str).Nodup by decide +kernel) rfl (Or.inl rfl) (.inr rfl))) (λ_ _ _ _=>zcw) (λ_ _ _ _=>(zb3 zkq (by rfl) T.b_str zto (@zaa _ _ _ _ _ (@zav _ _ _ _ _ _ _ _ (zhu zek) (za6 T.zh0 G_l_cell (hr.mono (by decide)) (@zaa _ _ _ _ _ (pvC 1) (@zaa _ _ _ _ _ (@zav _ _ _ _ _ _ _ _ (zc2 zbp) zae (pvC 0)) zac (by rfl)) (by rfl))) zae) zac (by rfl))))) zac (by rfl))) (zko (pvC 5) (pvC 7) zfo))) zau) (@zag _ _ _ (@zat _ _ _ _ (zqp (za6 T.zyw G_l_right (hr.mono (by decide)) (@zaa _ _ _ _ _ (pvC 5) (@zaa _ _ _ _ _ (pvC 2) zac (by rfl)) (by rfl))) (zo7 (zf7 (zp8 hr.units) (z4o T.unpack G_unpack (hr.mono (by decide)) zyl (@zaa _ _ _ _ _ (pvC 3) (@zaa _ _ _ _ _ (pvC 6) zac (by rfl)) (by rfl))) (pvC 4) (zax _)))))))))))))))),?_⟩;refine⟨_,rfl,a,ns,1,rfl,hS,hl,by decide,by decide,?_⟩;generalize zfm ns 1=z;have b3:=zeb z 3 (by decide);obtain⟨n,en⟩:=qa5 (a:=1+z%3) (by omega);refine⟨_,rfl,_,_,rfl,rfl,(show(0:Int)<3 by decide),_,_,rfl,rfl,_,rfl,by omega,by omega,λu hu=>?_⟩;rw[en];refine(let Jv1:Nat->List V->Hp->Prop:=λi acc H2=>Same H H2/\H2 u=some (.lst acc)/\∃bs:List Bd,acc=(bs.map λx=>V.ref x.e)/\(∀x∈bs,EntAt K (ers u H2) x)/\(∀x∈bs,x.cnt=(F2.nms x.f).length)/\bs.map (λx=>x.f.name)=(List.range i).map λj:Nat=>nmL (zfm ns 2) ((j:Int)+3); zd0 (lo:=0) (n:=n) (by omega) Jv1 ⟨Same.new hu,zab,[],rfl,(λx hx=>by cases hx),(λx hx=>by cases hx),rfl⟩ ?_ ?_ ?_)
   . rintro i acc H2 hi ⟨s2,e2,bs,rfl,_,_,hb⟩;have:=qa0 List.length hb;rw[List.length_map,List.length_map,qa9] at this;exact⟨e2,by rw[List.length_map,this]; exact qaj _⟩
   . rintro i acc H2 hi ⟨s2,e2,bs,rfl,hall,hcn,hb⟩;refine⟨_,rfl,_,rfl,_,rfl,a,ns,2,rfl,s2.seq hS,hl,by decide,by decide,z,0+(i:Int),zfm ns 2,rfl,by omega,by omega,λx H3 s3 f3 h3 n3 e3 c3=>?_⟩;have ne:x.e≠u:=(zaf e2 f3).symm;refine⟨s3 _ _ e2,(s2.trans s3).upd hu,zab,bs++[x],(by rw[List.map_append]; rfl),λy hy=>?_,λy hy=>?_,?_⟩
     . rw[zdi];rcases qbk.mp hy with h|h
       . exact(hall y h).mono s3.ers
       . rw[qa4.mp h];exact z2v h3 (s3 _ _ e2) e3 ne
     . rcases qbk.mp hy with h|h
       . exact hcn y h
       . rw[qa4.mp h]; exact c3
     . rw[List.map_append,hb,qby,List.map_append];show _++[x.f.name]=_++[nmL (zfm ns 2) ((i:Int)+3)];rw[n3,qb3]
   rintro acc H1 ⟨s1,e1,bs,rfl,hall,hcn,hb⟩;have hlen:bs.length=n:=by have:=qa0 List.length hb;rwa [List.length_map,List.length_map,qa9] at this
   have hB:Blt K H1 u bs:=⟨⟨SqL.of e1,λx hx=>(hall x hx).mono zaz,λh=>by rw[h] at hlen; simp at hlen; omega,by omega,by rw[hb]; exact zzz (by omega)⟩,hcn⟩
   clear hall hcn hb e1;have ok:=zyh hB;have n12:=hB.bt.n12;have lbs:(bs.map λx=>V.ref x.e).length=bs.length:=List.length_map _;refine⟨_,rfl,u,rfl,⟨_,hB.bt.ls⟩,λpP hpP=>(let Jv2:Nat->List V->Hp->Prop:=λi acc H2=>Same H1 H2/\H2 pP=some (.lst acc)/\acc=(bs.take i).map λx:Bd=>V.ref x.f.fa; zey (xs:=bs.map λx:Bd=>V.ref x.e) (by omega) Jv2 ⟨Same.new hpP,zab,rfl⟩ ?_ ?_ ?_)⟩
   . rintro i acc H2 hi ⟨s2,e2,rfl⟩;exact⟨e2,by rw[List.length_map,qbe]; omega,s2.seq hB.bt.ls⟩
   . rintro i y acc H2 hy ⟨s2,e2,rfl⟩;rw[List.getElem?_map] at hy;obtain⟨x,hx⟩:∃x,bs[i]?=some x:=by cases e:bs[i]? with|none=>rw[e] at hy; cases hy|some x=>exact⟨x,rfl⟩
     rw[hx] at hy;cases hy;have hE:=(hB.bt.all x (List.mem_of_getElem? hx)).mono s2;refine⟨_,rfl,x.e,_,_,_,rfl,rfl,hE.en,at0,e2,s2.upd hpP,zab,?_⟩;rw[qbj,hx,List.map_append];rfl
   rintro acc H2 ⟨s2,eP,rfl⟩;rw[lbs,qbb] at eP;have eP:H2 pP=some (.lst ((bs.map (·.f)).map λf=>V.ref f.fa)):=by rw[qbg]; exact eP
   have hnd:((bs.map (·.f)).map (·.name)).Nodup:=by rw[qbg]; exact hB.bt.nd
   have hFn:∀{H':Hp},Same H1 H'->∀f∈bs.map (·.f),F2.FnAt K H' f:=λs f hf=>by obtain⟨x,hx,rfl⟩:=qa8.mp hf;exact((hB.bt.all x hx).mono s).fn
   have lrl:(rlB bs).length=(bs.map (·.f)).length:=by unfold rlB rlF; rw[List.length_map]
   refine⟨_,rfl,_,rfl,a,ns,u,bs,rfl,(s1.trans s2).seq hS,hl,hB.mono s2,λmss tv H3 s3 dT lm fit=>?_⟩;have s13:=s2.trans s3;refine⟨_,rfl,_,rfl,pP,tv,List.map (λx:Bd=>x.f) bs,tbl (nmB bs) mss,rfl,SqL.of (s3 _ _ eP),(λh=>hB.bt.n0 (qed.mp h)),by rw[List.length_map]; exact n12,hFn s13,hnd,dT,by rw[zmh]; omega,λe he=>?_,λR H4 s4 hR eR=>?_⟩
   . have he:=fit _ (zse he).1;refine⟨by have:=he.2.1; omega,λm hm=>?_⟩;rw[<- lrl];exact(he.2.2 m hm).mok ok
   have erw:((tbl (nmB bs) mss).map λe=>V.str (tx (zib e.2)))=stx (mss.map zib):=by rw[ztm (nmB bs) mss λms=>V.str (tx (zib ms))];unfold stx;rw[qbg,qbg];rfl
   rw[erw] at eR;have hdec:z2b (List.map (λx:Bd=>x.f) bs) (mss.map zib)=some mss:=by unfold z2b;rw[if_pos (by rw[List.length_map,List.length_map]; exact lm)];refine zq9 (by rw[List.length_map]) λk l ms hl' hk=>?_;rw[List.getElem?_map,hk] at hl';cases hl';have hf:=fit ms (List.mem_of_getElem? hk);exact z25 ok hf.2.2 hf.1 (by have:=hf.2.1; omega)
   have hlR:∀ms∈mss,(zib ms).length<=131200:=λms hms=>by have hf:=fit ms hms;have h1:=zg2 (n:=ms.length) (by have:=hf.2.1; omega);have h2:=zj1 (z1m (λm hm=>(hf.2.2 m hm).mok ok) (by rw[lrl,List.length_map]; exact n12) ms.length (qaj _));rw[zrc] at h2;have a1:ms.length * 43700<=3 * 43700:=qcs _ hf.2.1;unfold zib;rw[List.length_append];omega
   have hln:∀l∈mss.map zib,l.length<=1000000:=λl h=>by obtain⟨ms,hms,rfl⟩:=qa8.mp h;have:=hlR ms hms;omega
   have hsn:∀k<(rlB bs).length,PyData.strOk (nmB bs k)=true:=λk hk=>by
     have hk':k<bs.length:=by rw[lrl,List.length_map] at hk; exact hk
     rw[show nmB bs k=bs[k].f.name from zgl (show(bs.map (·.f))[k]?=some bs[k].f by rw[List.getElem?_map,List.getElem?_eq_getElem hk']; rfl)];exact(hB.bt.all _ (qcd hk')).ok
   have layT:Lay 14 (.list ((tbl (nmB bs) mss).map (teD (nmB bs)))):=Lay.list (zhm λe he=>by obtain⟨h1,k,hk,h2⟩:=zse he;exact z46 (λm hm=>((fit _ h1).2.2 m hm).mok ok) hsn (by rw[h2]; exact hsn k (by rw[lrl,List.length_map]; omega)))
   have shT:=layT.shaped (by decide:14<=64);have neT:¬ (!PyData.eqv (.list ((tbl (nmB bs) mss).map (teD (nmB bs)))) (.list ((tbl (nmB bs) mss).map (teD (nmB bs)))))=true:=by rw[layT.refl]; decide
   refine⟨_,rfl,R,_,rfl,.inl (SqL.of eR),λgd hgd=>?_⟩;have s5:=Same.new (o:=.lst (stx (mss.map zib))) hgd;have eG:upd H4 gd (.lst (stx (mss.map zib))) gd=some (.lst (stx (mss.map zib))):=zab;have nRg:R≠gd:=zaf eR hgd;have eR5:=s5 _ _ eR;have s35:=s4.trans s5;generalize upd H4 gd (.lst (stx (mss.map zib)))=H5 at s5 eG eR5 s35 ⊢;have s15:=s13.trans s35;refine⟨_,rfl,_,rfl,pP,gd,List.map (λx:Bd=>x.f) bs,mss.map zib,rfl,SqL.of (s35 _ _ (s3 _ _ eP)),hFn s15,hnd,ok,SqL.of eG,hln,λmss' hm v H6 s6 dv=>?_,λhn=>by rw[hdec] at hn; cases hn⟩;rw[hdec] at hm;cases hm;have s36:=s35.trans s6;refine⟨_,rfl,_,_,dv,DatV.mono s36 _ _ dT,shT,shT,_,rfl,zdd neT ?_⟩;clear dv;have eR6:=s6 _ _ eR5;have eG6:=s6 _ _ eG;have lst:(stx (mss.map zib)).length=mss.length:=by rw[zhx,List.length_map]
   have nb1:1<=bs.length:=by have:=ok.n1; rw[lrl,List.length_map] at this; exact this
   have sb:=zeb (zfm ns 3) ((stx (mss.map zib)).length:Int) (by omega);obtain⟨sp,esp⟩:=qa5 sb.1;refine⟨_,rfl,a,ns,3,rfl,(s1.trans (s13.trans s36)).seq hS,hl,by decide,by decide,_,rfl,R,_,rfl,.inl (SqL.of eR6),_,_,rfl,rfl,(by show(0:Int)<_; omega),?_⟩;rw[esp];have hsp:sp<mss.length:=by omega
   have ixs:∀m:Nat,sp<m->ixN m (sp:Int)=some sp:=λm hm=>by unfold ixN;rw[if_pos (by omega),if_pos (by omega)];rfl
   have s06:=s1.trans (s13.trans s36);have pb:=zdb (zfm ns 3) 1 2 (by decide);obtain⟨n2,en2⟩:=qa5 (a:=1+zd3 (zfm ns 3) 1 2) (by omega);refine⟨_,rfl,a,ns,3,rfl,s06.seq hS,hl,by decide,by decide,zfm ns 3,1,2,rfl,by decide,by decide,λH7 s7=>⟨_,_,rfl,rfl,_,rfl,by omega,by omega,?_⟩⟩;rw[en2];have hR0:H R=none:=(s1.trans s13).free hR;have hR1:H1 R=none:=s13.free hR;have s37:=s36.trans s7;have t0:Same H (ers R H7):=zc6 (s06.trans s7) hR0;have t1:Same H1 (ers R H7):=zc6 (s13.trans s37) hR1;have t3:Same H3 (ers R H7):=zc6 s37 hR;refine(let Jv3:Nat->St->Hp->Prop:=λi σ G=>∃(v8:Option V) (ls:List (List Nat)),σ=[some (.ref a),some (.int z),some (.ref u),some (.ref pP),some tv,some (.ref R),some (.ref gd),some (.int sp),v8]/\Same (ers R H7) G/\G R=some (.lst (stx ls))/\ls.length=mss.length/\∀l∈ls,bts l/\l.length<=131200+8 * i; zex (lo:=0) (n:=n2) Jv3 ⟨_,mss.map zib,rfl,zaz,s7 _ _ eR6,List.length_map _,λl h=>?_⟩ ?_ ?_)
   . obtain⟨ms,hms,rfl⟩:=qa8.mp h;exact⟨zwt ms,hlR ms hms⟩
   . rintro i σ G hi ⟨v8,ls,rfl,sG,eG',lls,hls⟩;obtain⟨l,hl0⟩:∃l,ls[sp]?=some l:=⟨_,List.getElem?_eq_getElem (by omega)⟩
     have hlm:=hls l (List.mem_of_getElem? hl0);have atl:atI (stx ls) (sp:Int)=some (V.str (tx l)):=zcg (by unfold stx; rw[List.getElem?_map,List.getElem?_map,hl0]; rfl);refine⟨_,rfl,_,rfl,R,_,_,_,rfl,rfl,SqL.of eG',atl,_,rfl,_,rfl,_,_,rfl,rfl,a,ns,4+(0+(i:Int)),rfl,(t0.trans sG).seq hS,hl,by omega,by omega,l,_,rfl,hlm.1,by have:=hlm.2; omega,λl' G2 g2 bl' ll'=>?_⟩;refine⟨_,rfl,_,rfl,R,_,_,_,rfl,rfl,g2 _ _ eG',ixs _ (by rw[zhx]; omega),_,ls.set sp l',rfl,Same.upd (sG.trans g2) zg3,?_,by rw[qch]; exact lls,λl2 h2=>?_⟩
     . rw[zab];unfold stx;rw[qea,qea]
     . rcases qdl h2 with h|h
       . have:=hls l2 h;exact⟨this.1,by omega⟩
       . rw[h];exact⟨bl',by omega⟩
   rintro σ G ⟨v8,ls,rfl,sG,eG',lls,hls⟩;have fin:∀(w8:Option V) (ls':List (List Nat)) (G':Hp),Same (ers R H7) G'->G' R=some (.lst (stx ls'))->ls'.length=mss.length->(∀l∈ls',bts l/\l.length<=1000000) ->
       z5q (zw4 (znu K t) [] E0 (zxg (zzg 5) (zxg (zzg 2) z6k))) (tOp (z63 K) (zw4 (zpx K t) [] noX (zxg (zzg 3) (zxg (zzg 6) z6k))) (zzg 4)) [some (.ref a),some (.int z),some (.ref u),some (.ref pP),some tv,some (.ref R),some (.ref gd),some (.int sp),w8] G' Q:=by
     intro w8 ls' G' sg eg ll hl';refine⟨_,rfl,_,rfl,R,u,bs,ls',rfl,hB.mono (t1.trans sg),SqL.of eg,by omega,hl',λG2 g2=>⟨_,rfl,zdz rfl ?_⟩⟩;have sg2:=sg.trans g2;have egd:G2 gd=some (.lst (stx (mss.map zib))):=sg2 _ _ (by rw[zao nRg.symm]; exact s7 _ _ eG6);refine⟨_,rfl,_,rfl,pP,gd,List.map (λx:Bd=>x.f) bs,mss.map zib,rfl,SqL.of (sg2 _ _ (t3 _ _ (s3 _ _ eP))),hFn (t1.trans sg2),hnd,ok,SqL.of egd,hln,λmss' hm v G3 g3 dv=>?_,λhn=>by rw[hdec] at hn; cases hn⟩;rw[hdec] at hm;cases hm;exact⟨_,rfl,_,_,dv,DatV.mono ((t3.trans sg2).trans g3) _ _ dT,shT,shT,vq (qa0 V.bl layT.refl) (q _)⟩
   have hls1:∀l∈ls,bts l/\l.length<=1000000:=λl h=>⟨(hls l h).1,by have:=(hls l h).2; omega⟩
   refine⟨_,rfl,a,ns,3,rfl,(t0.trans sG).seq hS,hl,by decide,by decide,zfm ns 3,2,8,rfl,by decide,by decide,λG2 g2=>⟨rfl,_,rfl,z3j (λ_=>?_) (λ_=>fin _ ls _ (sG.trans g2) (g2 _ _ eG') lls hls1)⟩⟩;have b6:=zeb (zfm ns 4) 60 (by decide);obtain⟨n6,e6⟩:=qa5 b6.1;have sg2:=sG.trans g2;refine⟨rfl,_,rfl,a,ns,4,rfl,(t0.trans sg2).seq hS,hl,by decide,by decide,_,_,rfl,rfl,(show(0:Int)<60 by decide),_,rfl,by omega,by omega,λpL hpL=>?_⟩;rw[e6];refine(let Jv4:Nat->List V->Hp->Prop:=λi acc H2=>Same G2 H2/\H2 pL=some (.lst acc)/\∃bl:List (List Nat),acc=stx bl/\bl.length=i/\∀l∈bl,bts l/\l.length<=1; zd0 (lo:=0) (n:=n6) (by omega) Jv4 ⟨Same.new hpL,zab,[],rfl,rfl,λl h=>by cases h⟩ ?_ ?_ ?_)
   . rintro i acc H2 hi ⟨x2,y2,bl,rfl,lb,_⟩;exact⟨y2,by rw[zhx]; omega⟩
   . rintro i acc H2 hi ⟨x2,y2,bl,rfl,lb,hbl⟩;have b2:=zeb (zfm ns (6+(0+(i:Int)))) 2 (by decide);obtain⟨bt,hbt,ebt⟩:∃bt,(bt=48\/bt=49)/\Str.ofString (toString (zfm ns (6+(0+(i:Int)))%2))=tx [bt]:=by
       have:zfm ns (6+(0+(i:Int)))%2=0\/zfm ns (6+(0+(i:Int)))%2=1:=by omega
       rcases this with e|e
       . exact⟨48,.inl rfl,by rw[e]; decide +kernel⟩
       . exact⟨49,.inr rfl,by rw[e]; decide +kernel⟩
     refine⟨_,rfl,_,rfl,_,_,rfl,rfl,a,ns,6+(0+(i:Int)),rfl,((t0.trans sg2).trans x2).seq hS,hl,by omega,by omega,_,_,rfl,rfl,(show(0:Int)<2 by decide),_,rfl,?_,y2,x2.upd hpL,zab,bl++[[bt]],?_,by rw[List.length_append,lb]; rfl,λl h=>?_⟩
     . have:zfm ns (6+(0+(i:Int)))%2=0\/zfm ns (6+(0+(i:Int)))%2=1:=by omega
       rcases this with e|e <;> rw[e] <;> decide
     . rw[ebt,zlh]
     . rcases qbk.mp h with h|h
       . exact hbl l h
       . rw[qa4.mp h]; exact⟨zcv hbt zmq,qaj _⟩
   . rintro acc H2 ⟨x2,y2,bl,rfl,lb,hbl⟩;have lf:bl.flatten.length<=n6:=by have:=zj1 (c:=1) λl h=>(hbl l h).2; omega
     refine⟨_,pL,_,rfl,rfl,SqL.of y2,zlx (by omega),?_⟩;rw[zhp];have eg2:=x2 _ _ (g2 _ _ eG');refine⟨_,rfl,_,rfl,R,_,_,_,rfl,rfl,eg2,ixs _ (by rw[zhx]; omega),fin _ (ls.set sp bl.flatten) _ (Same.upd (sg2.trans x2) zg3) ?_ (by rw[qch]; exact lls) λl h=>?_⟩
     . rw[zab];unfold stx;rw[qea,qea]
     . rcases qdl h with h|h
       . exact hls1 l h
       . rw[h];exact⟨zja λl h=>(hbl l h).1,by omega⟩
end
end K85
namespace K85
open PySem L2
structure Fv where
 (oc kV dc pm cd ct:Value)
 (od an:Option Addr)
 sl:Array (Option Value)
abbrev Fv.fn (v:Fv) (n q:Str) (s:Stmt):=W.fnOf n q (zdu s) (zc8 s) (zah s) .none v.kV v.dc v.pm v.an v.cd v.ct
def FL (K:W.Frag) (f:Addr) (v:Fv) (n q:Str) (s:Stmt):Prop:=K.lookup f=some ⟨v.oc,v.od,.func (v.fn n q s),v.sl⟩/\W.codeIn K v.cd q=true/\W.keepIn K (.ref f)=true
theorem fl_mk {K:W.Frag} {f:Addr} {n q:Str} {s:Stmt} {oc kV dc pm cd ct:Value} {od an:Option Addr} {sl:Array (Option Value)} (l:K.lookup f=some ⟨oc,od,.func (W.fnOf n q (zdu s) (zc8 s) (zah s) .none kV dc pm an cd ct),sl⟩) (c:W.codeIn K cd q=true) (k:W.keepIn K (.ref f)=true):FL K f ⟨oc,kV,dc,pm,cd,ct,od,an,sl⟩ n q s:=⟨l,c,k⟩
set_option maxHeartbeats 4000000 in
theorem txt_mk {K:W.Frag} {h:Heap} {mg:Str->Option Value} (X:K.In h) (G:h.Ns mainGlobals mg)
   {C_Flows:Addr} (aC_Flows:W.nsIn K mainGlobals "Flows"=some (some (.ref C_Flows))) (pg_Flows:W.plainGet K C_Flows Str.empty=true) (hd_Flows:W.hasDictIn K C_Flows=true) (po_Flows:W.plainOver K C_Flows=true) (sa_Flows:W.findIn K (.ref C_Flows) "__setattr__"=some (some (.builtin "object.__setattr__"))) (mk_Flows:W.makesIn K C_Flows=true) (kc_Flows:W.keepIn K (.ref C_Flows)=true)
   (ze1:W.findIn K (.ref C_Flows) "last"=some none)
   (zbh:W.findIn K (.ref C_Flows) "number_of"=some none)
   (zca:W.findIn K (.ref C_Flows) "folded_of"=some none)
   (zcb:W.findIn K (.ref C_Flows) "params_of"=some none)
   (zce:W.findIn K (.ref C_Flows) "rows_of"=some none)
   (zb2:W.findIn K (.ref C_Flows) "names_in"=some none)
   (zcr:W.findIn K (.ref C_Flows) "ways_in"=some none)
   {C_BitReader:Addr} (aC_BitReader:W.nsIn K mainGlobals "BitReader"=some (some (.ref C_BitReader))) (pg_BitReader:W.plainGet K C_BitReader Str.empty=true) (hd_BitReader:W.hasDictIn K C_BitReader=true) (po_BitReader:W.plainOver K C_BitReader=true) (sa_BitReader:W.findIn K (.ref C_BitReader) "__setattr__"=some (some (.builtin "object.__setattr__"))) (mk_BitReader:W.makesIn K C_BitReader=true) (kc_BitReader:W.keepIn K (.ref C_BitReader)=true)
   (zbt:W.findIn K (.ref C_BitReader) "flows"=some none)
   (zbm:W.findIn K (.ref C_BitReader) "called"=some none)
   (zb1:W.findIn K (.ref C_BitReader) "bits"=some none)
   (zbu:W.findIn K (.ref C_BitReader) "at"=some none)
   {X_GlassError NN_GlassError:Addr} {nm_GlassError qq_GlassError:Str} {bs_GlassError bm_GlassError:List Value} {sn_GlassError:List Str} {sub_GlassError:List Value} {ab_GlassError:Bool} {col_GlassError:Option Bool} {dd_GlassError:Option Addr} {k0_GlassError k1_GlassError k2_GlassError k3_GlassError k5_GlassError:Option Value}
   (xa_GlassError:W.nsIn K mainGlobals "GlassError"=some (some (.ref X_GlassError))) (xl_GlassError:K.lookup X_GlassError=some (excClassObj nm_GlassError qq_GlassError X_GlassError NN_GlassError bs_GlassError bm_GlassError true sn_GlassError sub_GlassError ab_GlassError col_GlassError dd_GlassError k0_GlassError k1_GlassError k2_GlassError k3_GlassError k5_GlassError "ValueError.__new__")) (xv_GlassError:Ex.veTail bm_GlassError=true) (xk_GlassError:W.keepIn K (.ref X_GlassError)=true) (xs_GlassError:W.findIn K (.ref X_GlassError) "__setattr__"=some (some (.builtin "object.__setattr__"))) (xg_GlassError:W.findIn K (.ref X_GlassError) "__getattribute__"=some (some (.builtin "BaseException.__getattribute__"))) (xt_GlassError:W.findIn K (.ref X_GlassError) "__getattr__"=some none) (xc_GlassError:W.findIn K (.ref X_GlassError) "__class__"=some (some (.builtin "object.__class__")))
   {X_BadBits NN_BadBits:Addr} {nm_BadBits qq_BadBits:Str} {bs_BadBits bm_BadBits:List Value} {sn_BadBits:List Str} {sub_BadBits:List Value} {ab_BadBits:Bool} {col_BadBits:Option Bool} {dd_BadBits:Option Addr} {k0_BadBits k1_BadBits k2_BadBits k3_BadBits k5_BadBits:Option Value}
   (xa_BadBits:W.nsIn K mainGlobals "BadBits"=some (some (.ref X_BadBits))) (xl_BadBits:K.lookup X_BadBits=some (excClassObj nm_BadBits qq_BadBits X_BadBits NN_BadBits bs_BadBits bm_BadBits true sn_BadBits sub_BadBits ab_BadBits col_BadBits dd_BadBits k0_BadBits k1_BadBits k2_BadBits k3_BadBits k5_BadBits "ValueError.__new__")) (xv_BadBits:Ex.veTail bm_BadBits=true) (xk_BadBits:W.keepIn K (.ref X_BadBits)=true) (xs_BadBits:W.findIn K (.ref X_BadBits) "__setattr__"=some (some (.builtin "object.__setattr__"))) (xg_BadBits:W.findIn K (.ref X_BadBits) "__getattribute__"=some (some (.builtin "BaseException.__getattribute__"))) (xt_BadBits:W.findIn K (.ref X_BadBits) "__getattr__"=some none) (xc_BadBits:W.findIn K (.ref X_BadBits) "__class__"=some (some (.builtin "object.__class__")))
   (sg0:W.specialIn K (.builtin "object.__class__") "__get__"=some (some (.builtin "getset_descriptor.__get__"))) (tkX0:W.takesIn K (.builtin "object.__class__")=some true)
   (i0_BadBits:W.findIn K (.ref X_BadBits) "__init__"=some (some (.builtin "ValueError.__init__")))
   (e_BadBits:W.mroIn K X_BadBits (.ref X_GlassError)=some true)
   (kk_BadBits_BadBits:W.kitOne K (.ref X_BadBits) (.ref X_BadBits)=some true)
   (kv_BadBits:W.kitOne K (.ref X_BadBits) (.type "ValueError")=some true)
   {f0:Addr} {y0:Fv} (a0:W.nsIn K mainGlobals "names_of"=some (some (.ref f0))) (l0:FL K f0 y0 "names_of" "names_of" zh6)
   {f1:Addr} {y1:Fv} (a1:W.nsIn K mainGlobals "reads"=some (some (.ref f1))) (l1:FL K f1 y1 "reads" "reads" zn8)
   {f2:Addr} {y2:Fv} (a2:W.nsIn K mainGlobals "gives"=some (some (.ref f2))) (l2:FL K f2 y2 "gives" "gives" zos)
   {f3:Addr} {y3:Fv} (a3:W.nsIn K mainGlobals "atoms_of"=some (some (.ref f3))) (l3:FL K f3 y3 "atoms_of" "atoms_of" zh1)
   {f4:Addr} {y4:Fv} (a4:W.nsIn K mainGlobals "each_once"=some (some (.ref f4))) (l4:FL K f4 y4 "each_once" "each_once" zgt)
   {f5:Addr} {y5:Fv} (a5:W.nsIn K mainGlobals "ways"=some (some (.ref f5))) (l5:FL K f5 y5 "ways" "ways" zts)
   {f6:Addr} {y6:Fv} (a6:W.nsIn K mainGlobals "begins_of"=some (some (.ref f6))) (l6:FL K f6 y6 "begins_of" "begins_of" zgu)
   {f7:Addr} {y7:Fv} (a7:W.nsIn K mainGlobals "firsts_behind"=some (some (.ref f7))) (l7:FL K f7 y7 "firsts_behind" "firsts_behind" zd6)
   {f8:Addr} {y8:Fv} (a8:W.findIn K (.ref C_Flows) "__init__"=some (some (.ref f8))) (i8:W.isFn K (.ref f8)=true) (l8:FL K f8 y8 "__init__" "Flows.__init__" zfv)
   {f9:Addr} {y9:Fv} (a9:W.nsIn K mainGlobals "is_leaf"=some (some (.ref f9))) (l9:FL K f9 y9 "is_leaf" "is_leaf" zi2)
   {f10:Addr} {y10:Fv} (a10:W.nsIn K mainGlobals "leaves"=some (some (.ref f10))) (l10:FL K f10 y10 "leaves" "leaves" zll)
   {f11:Addr} {y11:Fv} (a11:W.nsIn K mainGlobals "number_bits"=some (some (.ref f11))) (l11:FL K f11 y11 "number_bits" "number_bits" ze4)
   {f12:Addr} {y12:Fv} (a12:W.nsIn K mainGlobals "plain_bits"=some (some (.ref f12))) (l12:FL K f12 y12 "plain_bits" "plain_bits" zfw)
   {f13:Addr} {y13:Fv} (a13:W.nsIn K mainGlobals "place_bits"=some (some (.ref f13))) (l13:FL K f13 y13 "place_bits" "place_bits" zft)
   {f14:Addr} {y14:Fv} (a14:W.nsIn K mainGlobals "reckoning_bits"=some (some (.ref f14))) (l14:FL K f14 y14 "reckoning_bits" "reckoning_bits" zdr)
   {f15:Addr} {y15:Fv} (a15:W.nsIn K mainGlobals "pack"=some (some (.ref f15))) (l15:FL K f15 y15 "pack" "pack" ztl)
   {f16:Addr} {y16:Fv} (a16:W.nsIn K mainGlobals "marks_bits"=some (some (.ref f16))) (l16:FL K f16 y16 "marks_bits" "marks_bits" zfz)
   {f17:Addr} {y17:Fv} (a17:W.nsIn K mainGlobals "mark_bits"=some (some (.ref f17))) (l17:FL K f17 y17 "mark_bits" "mark_bits" zgv)
   {f18:Addr} {y18:Fv} (a18:W.nsIn K mainGlobals "view_bits"=some (some (.ref f18))) (l18:FL K f18 y18 "view_bits" "view_bits" zgs)
   {f19:Addr} {y19:Fv} (a19:W.nsIn K mainGlobals "views_ahead"=some (some (.ref f19))) (l19:FL K f19 y19 "views_ahead" "views_ahead" zfa)
   {f20:Addr} {y20:Fv} (a20:W.nsIn K mainGlobals "unpack"=some (some (.ref f20))) (l20:FL K f20 y20 "unpack" "unpack" zlo)
   {f21:Addr} {y21:Fv} (a21:W.findIn K (.ref C_BitReader) "__init__"=some (some (.ref f21))) (i21:W.isFn K (.ref f21)=true) (l21:FL K f21 y21 "__init__" "BitReader.__init__" zdm)
   {f22:Addr} {y22:Fv} (a22:W.findIn K (.ref C_BitReader) "take"=some (some (.ref f22))) (i22:W.isFn K (.ref f22)=true) (l22:FL K f22 y22 "take" "BitReader.take" zdp)
   {f23:Addr} {y23:Fv} (a23:W.findIn K (.ref C_BitReader) "number"=some (some (.ref f23))) (i23:W.isFn K (.ref f23)=true) (l23:FL K f23 y23 "number" "BitReader.number" zc5)
   {f24:Addr} {y24:Fv} (a24:W.findIn K (.ref C_BitReader) "any_number"=some (some (.ref f24))) (i24:W.isFn K (.ref f24)=true) (l24:FL K f24 y24 "any_number" "BitReader.any_number" zcf)
   {f25:Addr} {y25:Fv} (a25:W.findIn K (.ref C_BitReader) "all_marks"=some (some (.ref f25))) (i25:W.isFn K (.ref f25)=true) (l25:FL K f25 y25 "all_marks" "BitReader.all_marks" zci)
   {f26:Addr} {y26:Fv} (a26:W.findIn K (.ref C_BitReader) "mark"=some (some (.ref f26))) (i26:W.isFn K (.ref f26)=true) (l26:FL K f26 y26 "mark" "BitReader.mark" zdn)
   {f27:Addr} {y27:Fv} (a27:W.findIn K (.ref C_BitReader) "frame"=some (some (.ref f27))) (i27:W.isFn K (.ref f27)=true) (l27:FL K f27 y27 "frame" "BitReader.frame" zde)
   {f28:Addr} {y28:Fv} (a28:W.findIn K (.ref C_BitReader) "view"=some (some (.ref f28))) (i28:W.isFn K (.ref f28)=true) (l28:FL K f28 y28 "view" "BitReader.view" zdq)
   {f29:Addr} {y29:Fv} (a29:W.findIn K (.ref C_BitReader) "place_beside"=some (some (.ref f29))) (i29:W.isFn K (.ref f29)=true) (l29:FL K f29 y29 "place_beside" "BitReader.place_beside" zbw)
   {f30:Addr} {y30:Fv} (a30:W.findIn K (.ref C_BitReader) "reckoning"=some (some (.ref f30))) (i30:W.isFn K (.ref f30)=true) (l30:FL K f30 y30 "reckoning" "BitReader.reckoning" zcj)
   {f31:Addr} {y31:Fv} (a31:W.nsIn K mainGlobals "_law_cell"=some (some (.ref f31))) (l31:FL K f31 y31 "_law_cell" "_law_cell" zlp)
   {f32:Addr} {y32:Fv} (a32:W.nsIn K mainGlobals "_law_part"=some (some (.ref f32))) (l32:FL K f32 y32 "_law_part" "_law_part" zln)
   {f33:Addr} {y33:Fv} (a33:W.nsIn K mainGlobals "_law_name"=some (some (.ref f33))) (l33:FL K f33 y33 "_law_name" "_law_name" zlr)
   {f34:Addr} {y34:Fv} (a34:W.nsIn K mainGlobals "_law_function"=some (some (.ref f34))) (l34:FL K f34 y34 "_law_function" "_law_function" zfp)
   {f35:Addr} {y35:Fv} (a35:W.nsIn K mainGlobals "_law_tree"=some (some (.ref f35))) (l35:FL K f35 y35 "_law_tree" "_law_tree" zlj)
   {f36:Addr} {y36:Fv} (a36:W.nsIn K mainGlobals "_law_place"=some (some (.ref f36))) (l36:FL K f36 y36 "_law_place" "_law_place" zjh)
   {f37:Addr} {y37:Fv} (a37:W.nsIn K mainGlobals "_law_mark"=some (some (.ref f37))) (l37:FL K f37 y37 "_law_mark" "_law_mark" zlf)
   {f38:Addr} {y38:Fv} (a38:W.nsIn K mainGlobals "_law_table"=some (some (.ref f38))) (l38:FL K f38 y38 "_law_table" "_law_table" zix)
   {f39:Addr} {y39:Fv} (a39:W.nsIn K mainGlobals "_law_changed"=some (some (.ref f39))) (l39:FL K f39 y39 "_law_changed" "_law_changed" zgy)
   {f40:Addr} {y40:Fv} (a40:W.nsIn K mainGlobals "_law_leaves"=some (some (.ref f40))) (l40:FL K f40 y40 "_law_leaves" "_law_leaves" zh3)
   {f41:Addr} {y41:Fv} (a41:W.nsIn K mainGlobals "_law_frame_fits"=some (some (.ref f41))) (l41:FL K f41 y41 "_law_frame_fits" "_law_frame_fits" zes)
   {f42:Addr} {y42:Fv} (a42:W.nsIn K mainGlobals "_law_mark_fits"=some (some (.ref f42))) (l42:FL K f42 y42 "_law_mark_fits" "_law_mark_fits" ze5)
   {f43:Addr} {y43:Fv} (a43:W.nsIn K mainGlobals "_law_fits"=some (some (.ref f43))) (l43:FL K f43 y43 "_law_fits" "_law_fits" zli)
   {f44:Addr} {y44:Fv} (a44:W.nsIn K mainGlobals "_law_right"=some (some (.ref f44))) (l44:FL K f44 y44 "_law_right" "_law_right" zi8)
   {f45:Addr} {y45:Fv} (a45:W.nsIn K mainGlobals "law"=some (some (.ref f45))) (l45:FL K f45 y45 "law" "law" zv0)
   {tk0:Tok} (w0:W.nsIn K mainGlobals "SIGN_BITS"=some (some (.int 4 tk0)))
   {tk1:Tok} (w1:W.nsIn K mainGlobals "GONE_BITS"=some (some (.str "00" tk1)))
   {tk2:Tok} (w2:W.nsIn K mainGlobals "AS_AHEAD_BITS"=some (some (.str "01" tk2)))
   {tk3:Tok} (w3:W.nsIn K mainGlobals "MOST_LEAVES"=some (some (.int 8 tk3)))
   {tk4:Tok} (w4:W.nsIn K mainGlobals "MOST_STATIONS"=some (some (.int 200 tk4)))
   {tk5:Tok} (w5:W.nsIn K mainGlobals "MOST_FRAMES"=some (some (.int 3 tk5)))
   {tk6:Tok} (w6:W.nsIn K mainGlobals "MOST_GROUPS"=some (some (.int 16 tk6)))
   {tk7:Tok} (w7:W.nsIn K mainGlobals "MOST_BOX"=some (some (.int 127 tk7)))
   {aT0:Addr} {odT0:Option Addr} {itT0:Array Value} {nT0:Nat} {slT0:Array (Option Value)} (q0:W.nsIn K mainGlobals "GIVING_KINDS"=some (some (.ref aT0))) (m0:K.lookup aT0=some ⟨.type "tuple",odT0,.seq itT0 nT0,slT0⟩) (v0:zcp (K12.giving.map V.str) itT0.toList) (s0:itT0.size<=sizeLine)
   {aT1:Addr} {itT1:Array Value} {nT1:Nat} {slT1:Array (Option Value)} (q1:W.nsIn K mainGlobals "SIGNS"=some (some (.ref aT1))) (m1:K.lookup aT1=some ⟨.type "tuple",none,.seq itT1 nT1,slT1⟩) (v1:zcp Bt.sgTup itT1.toList) (s1:itT1.size<=sizeLine)
   {aD0:Addr} (qD0:W.nsIn K mainGlobals "ATOM_PLACES"=some (some (.ref aD0))) (mD0:PyProof.Rows.KTD.tabLook (zob K) (λa=>K.lookup a) aD0 K12.tabl=true)
   (z_ValueError:W.nsIn K mainGlobals "ValueError"=some none)
   (z_len:W.nsIn K mainGlobals "len"=some none)
   (z_list:W.nsIn K mainGlobals "list"=some none)
   (z_tuple:W.nsIn K mainGlobals "tuple"=some none)
   (z_isinstance:W.nsIn K mainGlobals "isinstance"=some none)
   (z_range:W.nsIn K mainGlobals "range"=some none)
   (z_all:W.nsIn K mainGlobals "all"=some none)
   (z_enumerate:W.nsIn K mainGlobals "enumerate"=some none)
   (z_dict:W.nsIn K mainGlobals "dict"=some none)
   (z_str:W.nsIn K mainGlobals "str"=some none)
   (z_zip:W.nsIn K mainGlobals "zip"=some none)
   (z_int:W.nsIn K mainGlobals "int"=some none)
   (z_bool:W.nsIn K mainGlobals "bool"=some none)
   : ∃t,Txt K mg t:=by
 refine⟨⟨X_GlassError,X_BadBits,C_Flows,C_BitReader,f0,y0.fn "names_of" "names_of" zh6,f1,y1.fn "reads" "reads" zn8,f2,y2.fn "gives" "gives" zos,f3,y3.fn "atoms_of" "atoms_of" zh1,f4,y4.fn "each_once" "each_once" zgt,f5,y5.fn "ways" "ways" zts,f6,y6.fn "begins_of" "begins_of" zgu,f7,y7.fn "firsts_behind" "firsts_behind" zd6,f8,y8.fn "__init__" "Flows.__init__" zfv,f9,y9.fn "is_leaf" "is_leaf" zi2,f10,y10.fn "leaves" "leaves" zll,f11,y11.fn "number_bits" "number_bits" ze4,f12,y12.fn "plain_bits" "plain_bits" zfw,f13,y13.fn "place_bits" "place_bits" zft,f14,y14.fn "reckoning_bits" "reckoning_bits" zdr,f15,y15.fn "pack" "pack" ztl,f16,y16.fn "marks_bits" "marks_bits" zfz,f17,y17.fn "mark_bits" "mark_bits" zgv,f18,y18.fn "view_bits" "view_bits" zgs,f19,y19.fn "views_ahead" "views_ahead" zfa,f20,y20.fn "unpack" "unpack" zlo,f21,y21.fn "__init__" "BitReader.__init__" zdm,f22,y22.fn "take" "BitReader.take" zdp,f23,y23.fn "number" "BitReader.number" zc5,f24,y24.fn "any_number" "BitReader.any_number" zcf,f25,y25.fn "all_marks" "BitReader.all_marks" zci,f26,y26.fn "mark" "BitReader.mark" zdn,f27,y27.fn "frame" "BitReader.frame" zde,f28,y28.fn "view" "BitReader.view" zdq,f29,y29.fn "place_beside" "BitReader.place_beside" zbw,f30,y30.fn "reckoning" "BitReader.reckoning" zcj,f31,y31.fn "_law_cell" "_law_cell" zlp,f32,y32.fn "_law_part" "_law_part" zln,f33,y33.fn "_law_name" "_law_name" zlr,f34,y34.fn "_law_function" "_law_function" zfp,f35,y35.fn "_law_tree" "_law_tree" zlj,f36,y36.fn "_law_place" "_law_place" zjh,f37,y37.fn "_law_mark" "_law_mark" zlf,f38,y38.fn "_law_table" "_law_table" zix,f39,y39.fn "_law_changed" "_law_changed" zgy,f40,y40.fn "_law_leaves" "_law_leaves" zh3,f41,y41.fn "_law_frame_fits" "_law_frame_fits" zes,f42,y42.fn "_law_mark_fits" "_law_mark_fits" ze5,f43,y43.fn "_law_fits" "_law_fits" zli,f44,y44.fn "_law_right" "_law_right" zi8,f45,y45.fn "law" "law" zv0,aT0,aT1,aD0⟩,?_⟩;have bl:∀(s:Shared) (u:Value),BindsTo s (y45.fn "law" "law" zv0) ⟨[u],[]⟩ [("_law_script",u)]:=λs u=>.of_eq rfl;exact⟨(zpw X G xa_GlassError xl_GlassError xv_GlassError xk_GlassError xs_GlassError xg_GlassError xt_GlassError xc_GlassError sg0 tkX0),
   (zpw X G xa_BadBits xl_BadBits xv_BadBits xk_BadBits xs_BadBits xg_BadBits xt_BadBits xc_BadBits sg0 tkX0),
   (i0_BadBits),
   (e_BadBits),
   (kk_BadBits_BadBits),
   (kv_BadBits),
   (za3 X G a0 l0.1 l0.2.1 l0.2.2 λ_ _ _ _ _ _ us hl=>match us,hl with | [_],_=>rfl),
   (za3 X G a1 l1.1 l1.2.1 l1.2.2 λ_ _ _ _ _ _ us hl=>match us,hl with | [_],_=>rfl),
   (za3 X G a2 l2.1 l2.2.1 l2.2.2 λ_ _ _ _ _ _ us hl=>match us,hl with | [_],_=>rfl),
   (za3 X G a3 l3.1 l3.2.1 l3.2.2 λ_ _ _ _ _ _ us hl=>match us,hl with | [_],_=>rfl),
   (za3 X G a4 l4.1 l4.2.1 l4.2.2 λ_ _ _ _ _ _ us hl=>match us,hl with | [_],_=>rfl),
   (za3 X G a5 l5.1 l5.2.1 l5.2.2 λ_ _ _ _ _ _ us hl=>match us,hl with | [_],_=>rfl),
   (za3 X G a6 l6.1 l6.2.1 l6.2.2 λ_ _ _ _ _ _ us hl=>match us,hl with | [_],_=>rfl),
   (za3 X G a7 l7.1 l7.2.1 l7.2.2 λ_ _ _ _ _ _ us hl=>match us,hl with | [_,_],_=>rfl),
   (zsr mk_Flows kc_Flows a8 i8 l8.1 l8.2.1 l8.2.2 λ_ _ _ _ _ _ us hl=>match us,hl with | [_,_],_=>rfl),
   (za3 X G a9 l9.1 l9.2.1 l9.2.2 λ_ _ _ _ _ _ us hl=>match us,hl with | [_],_=>rfl),
   (za3 X G a10 l10.1 l10.2.1 l10.2.2 λ_ _ _ _ _ _ us hl=>match us,hl with | [_],_=>rfl),
   (za3 X G a11 l11.1 l11.2.1 l11.2.2 λ_ _ _ _ _ _ us hl=>match us,hl with | [_],_=>rfl),
   (za3 X G a12 l12.1 l12.2.1 l12.2.2 λ_ _ _ _ _ _ us hl=>match us,hl with | [_,_],_=>rfl),
   (za3 X G a13 l13.1 l13.2.1 l13.2.2 λ_ _ _ _ _ _ us hl=>match us,hl with | [_],_=>rfl),
   (za3 X G a14 l14.1 l14.2.1 l14.2.2 λ_ _ _ _ _ _ us hl=>match us,hl with | [_],_=>rfl),
   (za3 X G a15 l15.1 l15.2.1 l15.2.2 λ_ _ _ _ _ _ us hl=>match us,hl with | [_,_],_=>rfl),
   (za3 X G a16 l16.1 l16.2.1 l16.2.2 λ_ _ _ _ _ _ us hl=>match us,hl with | [_,_],_=>rfl),
   (za3 X G a17 l17.1 l17.2.1 l17.2.2 λ_ _ _ _ _ _ us hl=>match us,hl with | [_,_,_],_=>rfl),
   (za3 X G a18 l18.1 l18.2.1 l18.2.2 λ_ _ _ _ _ _ us hl=>match us,hl with | [_,_],_=>rfl),
   (za3 X G a19 l19.1 l19.2.1 l19.2.2 λ_ _ _ _ _ _ us hl=>match us,hl with | [_,_],_=>rfl),
   (za3 X G a20 l20.1 l20.2.1 l20.2.2 λ_ _ _ _ _ _ us hl=>match us,hl with | [_,_],_=>rfl),
   (zsr mk_BitReader kc_BitReader a21 i21 l21.1 l21.2.1 l21.2.2 λ_ _ _ _ _ _ us hl=>match us,hl with | [_,_,_],_=>rfl),
   (ze6 a22 i22 l22.1 l22.2.1 l22.2.2 λ_ _ _ _ _ _ us hl=>match us,hl with | [_,_],_=>rfl),
   (ze6 a23 i23 l23.1 l23.2.1 l23.2.2 λ_ _ _ _ _ _ us hl=>match us,hl with | [_,_,_],_=>rfl),
   (ze6 a24 i24 l24.1 l24.2.1 l24.2.2 λ_ _ _ _ _ _ us hl=>match us,hl with | [_],_=>rfl),
   (ze6 a25 i25 l25.1 l25.2.1 l25.2.2 λ_ _ _ _ _ _ us hl=>match us,hl with | [_],_=>rfl),
   (ze6 a26 i26 l26.1 l26.2.1 l26.2.2 λ_ _ _ _ _ _ us hl=>match us,hl with | [_,_],_=>rfl),
   (ze6 a27 i27 l27.1 l27.2.1 l27.2.2 λ_ _ _ _ _ _ us hl=>match us,hl with | [_],_=>rfl),
   (ze6 a28 i28 l28.1 l28.2.1 l28.2.2 λ_ _ _ _ _ _ us hl=>match us,hl with | [_,_,_],_=>rfl),
   (ze6 a29 i29 l29.1 l29.2.1 l29.2.2 λ_ _ _ _ _ _ us hl=>match us,hl with | [_,_],_=>rfl),
   (ze6 a30 i30 l30.1 l30.2.1 l30.2.2 λ_ _ _ _ _ _ us hl=>match us,hl with | [_,_],_=>rfl),
   (za3 X G a31 l31.1 l31.2.1 l31.2.2 λ_ _ _ _ _ _ us hl=>match us,hl with | [_,_],_=>rfl),
   (za3 X G a32 l32.1 l32.2.1 l32.2.2 λ_ _ _ _ _ _ us hl=>match us,hl with | [_,_,_],_=>rfl),
   (za3 X G a33 l33.1 l33.2.1 l33.2.2 λ_ _ _ _ _ _ us hl=>match us,hl with | [_,_],_=>rfl),
   (za3 X G a34 l34.1 l34.2.1 l34.2.2 λ_ _ _ _ _ _ us hl=>match us,hl with | [_,_,_],_=>rfl),
   (za3 X G a35 l35.1 l35.2.1 l35.2.2 λ_ _ _ _ _ _ us hl=>match us,hl with | [_,_],_=>rfl),
   (za3 X G a36 l36.1 l36.2.1 l36.2.2 λ_ _ _ _ _ _ us hl=>match us,hl with | [_],_=>rfl),
   (za3 X G a37 l37.1 l37.2.1 l37.2.2 λ_ _ _ _ _ _ us hl=>match us,hl with | [_,_,_],_=>rfl),
   (za3 X G a38 l38.1 l38.2.1 l38.2.2 λ_ _ _ _ _ _ us hl=>match us,hl with | [_,_],_=>rfl),
   (za3 X G a39 l39.1 l39.2.1 l39.2.2 λ_ _ _ _ _ _ us hl=>match us,hl with | [_,_],_=>rfl),
   (za3 X G a40 l40.1 l40.2.1 l40.2.2 λ_ _ _ _ _ _ us hl=>match us,hl with | [_],_=>rfl),
   (za3 X G a41 l41.1 l41.2.1 l41.2.2 λ_ _ _ _ _ _ us hl=>match us,hl with | [_,_,_],_=>rfl),
   (za3 X G a42 l42.1 l42.2.1 l42.2.2 λ_ _ _ _ _ _ us hl=>match us,hl with | [_,_],_=>rfl),
   (za3 X G a43 l43.1 l43.2.1 l43.2.2 λ_ _ _ _ _ _ us hl=>match us,hl with | [_,_],_=>rfl),
   (za3 X G a44 l44.1 l44.2.1 l44.2.2 λ_ _ _ _ _ _ us hl=>match us,hl with | [_,_],_=>rfl),
   (za3 X G a45 l45.1 l45.2.1 l45.2.2 λ_ _ _ _ _ _ us hl=>match us,hl with | [_],_=>rfl),
   ⟨⟨pg_Flows,hd_Flows,po_Flows,sa_Flows⟩,W.mg_of X G aC_Flows⟩,
   ⟨⟨pg_BitReader,hd_BitReader,po_BitReader,sa_BitReader⟩,W.mg_of X G aC_BitReader⟩,
   ze1,
   zbh,
   zca,
   zcb,
   zce,
   zb2,
   zcr,
   zbt,
   zbm,
   zb1,
   zbu,
   ⟨_,W.mg_of X G w0⟩,
   ⟨_,W.mg_of X G w1⟩,
   ⟨_,W.mg_of X G w2⟩,
   ⟨_,W.mg_of X G w3⟩,
   ⟨_,W.mg_of X G w4⟩,
   ⟨_,W.mg_of X G w5⟩,
   ⟨_,W.mg_of X G w6⟩,
   ⟨_,W.mg_of X G w7⟩,
   W.mg_of X G q0,
   (λH=>.inr ⟨_,itT0,nT0,m0,rfl,rfl,s0,v0⟩),
   W.mg_of X G q1,
   (λH=>.inr ⟨_,itT1,nT1,m1,rfl,rfl,s1,v1⟩),
   ⟨_,m1,rfl,rfl⟩,
   W.mg_of X G qD0,
   zpq mD0,
   W.mg_none_of X G z_ValueError,
   W.mg_none_of X G z_len,
   W.mg_none_of X G z_list,
   W.mg_none_of X G z_tuple,
   W.mg_none_of X G z_isinstance,
   W.mg_none_of X G z_range,
   W.mg_none_of X G z_all,
   W.mg_none_of X G z_enumerate,
   W.mg_none_of X G z_dict,
   W.mg_none_of X G z_str,
   W.mg_none_of X G z_zip,
   W.mg_none_of X G z_int,
   W.mg_none_of X G z_bool,
   bl⟩
end K85
open PySem PySem.W PyProof.Rows
set_option maxRecDepth 100000 in
set_option maxHeartbeats 0 in
theorem PySem.Challenge.cw_stopglass_k85_bits_changed_holds : PySem.Challenge.rw_stopglass_k85_bits_changed.Holds := by
 refine Hd.pk.2 ?_
 unfold Hd.pk
 dsimp only
 k_fill
 refine L2.walk_ofK (l:=PySem.Challenge.rw_stopglass_k85_bits_changed) (n:=63) (k:=36) (x:="_law_script") (CX:=L2.CX0) (sp:=K85.sp_law) rfl (by decide) rfl ⟨rfl,by decide,by decide⟩ (λw h Y=>PySem.W.kIn_of Y) ?F ?S ?C
 case F =>
   intro w mg fa h KX G hmg;have T:∃t,K85.Txt (L2.KOf KX) mg t:=by
     dsimp only[L2.KOf]
     refine' K85.txt_mk KX G ?aC_Flows ?pg_Flows ?hd_Flows ?po_Flows ?sa_Flows ?mk_Flows ?kc_Flows ?ze1 ?zbh ?zca ?zcb ?zce ?zb2 ?zcr ?aC_BitReader ?pg_BitReader ?hd_BitReader ?po_BitReader ?sa_BitReader ?mk_BitReader ?kc_BitReader ?zbt ?zbm ?zb1 ?zbu ?xa_GlassError ?xl_GlassError ?xv_GlassError ?xk_GlassError ?xs_GlassError ?xg_GlassError ?xt_GlassError ?xc_GlassError ?xa_BadBits ?xl_BadBits ?xv_BadBits ?xk_BadBits ?xs_BadBits ?xg_BadBits ?xt_BadBits ?xc_BadBits ?sg0 ?tkX0 ?i0_BadBits ?e_BadBits ?kk_BadBits_BadBits ?kv_BadBits ?a0 ?l0 ?a1 ?l1 ?a2 ?l2 ?a3 ?l3 ?a4 ?l4 ?a5 ?l5 ?a6 ?l6 ?a7 ?l7 ?a8 ?i8 ?l8 ?a9 ?l9 ?a10 ?l10 ?a11 ?l11 ?a12 ?l12 ?a13 ?l13 ?a14 ?l14 ?a15 ?l15 ?a16 ?l16 ?a17 ?l17 ?a18 ?l18 ?a19 ?l19 ?a20 ?l20 ?a21 ?i21 ?l21 ?a22 ?i22 ?l22 ?a23 ?i23 ?l23 ?a24 ?i24 ?l24 ?a25 ?i25 ?l25 ?a26 ?i26 ?l26 ?a27 ?i27 ?l27 ?a28 ?i28 ?l28 ?a29 ?i29 ?l29 ?a30 ?i30 ?l30 ?a31 ?l31 ?a32 ?l32 ?a33 ?l33 ?a34 ?l34 ?a35 ?l35 ?a36 ?l36 ?a37 ?l37 ?a38 ?l38 ?a39 ?l39 ?a40 ?l40 ?a41 ?l41 ?a42 ?l42 ?a43 ?l43 ?a44 ?l44 ?a45 ?l45 ?w0 ?w1 ?w2 ?w3 ?w4 ?w5 ?w6 ?w7 ?q0 ?m0 ?v0 ?s0 ?q1 ?m1 ?v1 ?s1 ?qD0 ?mD0 ?z_ValueError ?z_len ?z_list ?z_tuple ?z_isinstance ?z_range ?z_all ?z_enumerate ?z_dict ?z_str ?z_zip ?z_int ?z_bool
     (case aC_Flows=>k_is)
     (case pg_Flows=>k_is)
     (case hd_Flows=>k_is)
     (case po_Flows=>k_is)
     (case sa_Flows=>k_is)
     (case mk_Flows=>k_is)
     (case kc_Flows=>k_is)
     (case ze1=>k_is)
     (case zbh=>k_is)
     (case zca=>k_is)
     (case zcb=>k_is)
     (case zce=>k_is)
     (case zb2=>k_is)
     (case zcr=>k_is)
     (case aC_BitReader=>k_is)
     (case pg_BitReader=>k_is)
     (case hd_BitReader=>k_is)
     (case po_BitReader=>k_is)
     (case sa_BitReader=>k_is)
     (case mk_BitReader=>k_is)
     (case kc_BitReader=>k_is)
     (case zbt=>k_is)
     (case zbm=>k_is)
     (case zb1=>k_is)
     (case zbu=>k_is)
     (case xa_GlassError=>k_is)
     (case xl_GlassError=>k_is)
     (case xv_GlassError=>first|k_is|kernel_rfl)
     (case xk_GlassError=>k_is)
     (case xs_GlassError=>k_is)
     (case xg_GlassError=>k_is)
     (case xt_GlassError=>k_is)
     (case xc_GlassError=>k_is)
     (case xa_BadBits=>k_is)
     (case xl_BadBits=>k_is)
     (case xv_BadBits=>first|k_is|kernel_rfl)
     (case xk_BadBits=>k_is)
     (case xs_BadBits=>k_is)
     (case xg_BadBits=>k_is)
     (case xt_BadBits=>k_is)
     (case xc_BadBits=>k_is)
     (case sg0=>first|k_is|kernel_rfl)
     (case tkX0=>first|k_is|kernel_rfl)
     (case i0_BadBits=>first|k_is|kernel_rfl)
     (case e_BadBits=>first|k_is|kernel_rfl)
     (case kk_BadBits_BadBits=>first|k_is|kernel_rfl)
     (case kv_BadBits=>first|k_is|kernel_rfl)
     (case a0=>k_is)
     (case l0=>apply K85.fl_mk <;> k_is)
     (case a1=>k_is)
     (case l1=>apply K85.fl_mk <;> k_is)
     (case a2=>k_is)
     (case l2=>apply K85.fl_mk <;> k_is)
     (case a3=>k_is)
     (case l3=>apply K85.fl_mk <;> k_is)
     (case a4=>k_is)
     (case l4=>apply K85.fl_mk <;> k_is)
     (case a5=>k_is)
     (case l5=>apply K85.fl_mk <;> k_is)
     (case a6=>k_is)
     (case l6=>apply K85.fl_mk <;> k_is)
     (case a7=>k_is)
     (case l7=>apply K85.fl_mk <;> k_is)
     (case a8=>k_is)
     (case i8=>k_is)
     (case l8=>apply K85.fl_mk <;> k_is)
     (case a9=>k_is)
     (case l9=>apply K85.fl_mk <;> k_is)
     (case a10=>k_is)
     (case l10=>apply K85.fl_mk <;> k_is)
     (case a11=>k_is)
     (case l11=>apply K85.fl_mk <;> k_is)
     (case a12=>k_is)
     (case l12=>apply K85.fl_mk <;> k_is)
     (case a13=>k_is)
     (case l13=>apply K85.fl_mk <;> k_is)
     (case a14=>k_is)
     (case l14=>apply K85.fl_mk <;> k_is)
     (case a15=>k_is)
     (case l15=>apply K85.fl_mk <;> k_is)
     (case a16=>k_is)
     (case l16=>apply K85.fl_mk <;> k_is)
     (case a17=>k_is)
     (case l17=>apply K85.fl_mk <;> k_is)
     (case a18=>k_is)
     (case l18=>apply K85.fl_mk <;> k_is)
     (case a19=>k_is)
     (case l19=>apply K85.fl_mk <;> k_is)
     (case a20=>k_is)
     (case l20=>apply K85.fl_mk <;> k_is)
     (case a21=>k_is)
     (case i21=>k_is)
     (case l21=>apply K85.fl_mk <;> k_is)
     (case a22=>k_is)
     (case i22=>k_is)
     (case l22=>apply K85.fl_mk <;> k_is)
     (case a23=>k_is)
     (case i23=>k_is)
     (case l23=>apply K85.fl_mk <;> k_is)
     (case a24=>k_is)
     (case i24=>k_is)
     (case l24=>apply K85.fl_mk <;> k_is)
     (case a25=>k_is)
     (case i25=>k_is)
     (case l25=>apply K85.fl_mk <;> k_is)
     (case a26=>k_is)
     (case i26=>k_is)
     (case l26=>apply K85.fl_mk <;> k_is)
     (case a27=>k_is)
     (case i27=>k_is)
     (case l27=>apply K85.fl_mk <;> k_is)
     (case a28=>k_is)
     (case i28=>k_is)
     (case l28=>apply K85.fl_mk <;> k_is)
     (case a29=>k_is)
     (case i29=>k_is)
     (case l29=>apply K85.fl_mk <;> k_is)
     (case a30=>k_is)
     (case i30=>k_is)
     (case l30=>apply K85.fl_mk <;> k_is)
     (case a31=>k_is)
     (case l31=>apply K85.fl_mk <;> k_is)
     (case a32=>k_is)
     (case l32=>apply K85.fl_mk <;> k_is)
     (case a33=>k_is)
     (case l33=>apply K85.fl_mk <;> k_is)
     (case a34=>k_is)
     (case l34=>apply K85.fl_mk <;> k_is)
     (case a35=>k_is)
     (case l35=>apply K85.fl_mk <;> k_is)
     (case a36=>k_is)
     (case l36=>apply K85.fl_mk <;> k_is)
     (case a37=>k_is)
     (case l37=>apply K85.fl_mk <;> k_is)
     (case a38=>k_is)
     (case l38=>apply K85.fl_mk <;> k_is)
     (case a39=>k_is)
     (case l39=>apply K85.fl_mk <;> k_is)
     (case a40=>k_is)
     (case l40=>apply K85.fl_mk <;> k_is)
     (case a41=>k_is)
     (case l41=>apply K85.fl_mk <;> k_is)
     (case a42=>k_is)
     (case l42=>apply K85.fl_mk <;> k_is)
     (case a43=>k_is)
     (case l43=>apply K85.fl_mk <;> k_is)
     (case a44=>k_is)
     (case l44=>apply K85.fl_mk <;> k_is)
     (case a45=>k_is)
     (case l45=>apply K85.fl_mk <;> k_is)
     (case w0=>k_is)
     (case w1=>k_is)
     (case w2=>k_is)
     (case w3=>k_is)
     (case w4=>k_is)
     (case w5=>k_is)
     (case w6=>k_is)
     (case w7=>k_is)
     (case q0=>k_is)
     (case m0=>k_is)
     (case v0=>(repeat (first|exact .nil|refine .cons ⟨_,rfl⟩ ?_)))
     (case s0=>decide)
     (case q1=>k_is)
     (case m1=>k_is)
     (case v1=>(repeat (first|exact .nil|refine .cons ⟨_,rfl⟩ ?_)))
     (case s1=>decide)
     (case qD0=>k_is)
     (case mD0=>kernel_rfl)
     (case z_ValueError=>k_is)
     (case z_len=>k_is)
     (case z_list=>k_is)
     (case z_tuple=>k_is)
     (case z_isinstance=>k_is)
     (case z_range=>k_is)
     (case z_all=>k_is)
     (case z_enumerate=>k_is)
     (case z_dict=>k_is)
     (case z_str=>k_is)
     (case z_zip=>k_is)
     (case z_int=>k_is)
     (case z_bool=>k_is)
   obtain⟨t,T⟩:=T;have e0:=hmg.symm.trans T.law.g;cases e0;exact⟨t.z0l,T.bl,λbase kb nb=>K85.ok_law T⟩
 case S=>exact λK H a ns hl hO hS=>⟨a,ns,rfl,hS,hl,λ_=>rfl⟩
 case C=>exact λ_ _ _ _ z=>z
