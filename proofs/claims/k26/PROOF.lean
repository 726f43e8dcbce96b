import PyProof.Rows.All
import Wide.All
import OpenK.AllK
import Wide.FinOn
import Lean
import PyProof.EqAt
import PyProof.EqKinds
import PyProof.TupleCall
import KE.KDictLaws
import KE.KDictOf
import KE.KEqDict
import KE.BitLaws
import PyProof.ZipIter
import PyProof.Rows.ZipGen
import PyProof.Rows.StrSplitAre
import PyProof.ExcInit
import PyProof.ExcBaseAll.ValueError
import PyProof.PassesOwn
import PyProof.StationsW
import PyProof.InstStoreFacts
import PyProof.ExcAttrAll.ValueError
import PyProof.NsDelKeeps
import KE.KListMore
import PyProof.P3Eq
import PyProof.Rows.TupDisplay
import PyProof.StrLawsReplace
import PyProof.StrCalls6
import PyProof.Rows.StrStrike
import KE.IntTextText
import PySem.Challenge.RW_stopglass_k26_values_set_by_hand
set_option Elab.async false
set_option linter.all false
set_option maxRecDepth 100000
section
namespace Hd
open PySem PySem.W PyProof.Rows
lay_quick PySem.W.topFrom
noncomputable abbrev TQ := PySem.W.Fast.tw370005188180407882 PySem.W.Fast.tw14364793385576792824
noncomputable abbrev OQ := PySem.W.Fast.tw4187177175401517315
noncomputable abbrev tp : Program := PySem.Challenge.pw_stopglass_k26_values_set_by_hand
abbrev lo : List Str := [PySem.Str.ofString "ATOM_PLACES"]
def keeps : PySem.Stmt → Bool
 | .Assign [.Name x _] _ _ => !decide (x = "__name__")
 | _ => true
def viewOf (p : Program) : Program := { p with main := { p.main with body := p.main.body.filter keeps } }
abbrev Xf : Program → Shared → Bool := (fun p s => xlAt (viewOf p) [] s && recOk (RowW.records (OpenRow.toRowW (OpenLaw.row PySem.Challenge.rw_stopglass_k26_values_set_by_hand))) s)
noncomputable def S0 (w : World) (os : OsState) : Shared := ⟨boot_heap w.params, Array.mk [], boot_drawn, boot_toks, os⟩
theorem ws : PySem.Challenge.rw_stopglass_k26_values_set_by_hand.wellSaid = true := by kernel_rfl
section
local macro_rules | `(tactic| o_head $H) => `(tactic| (case Hk => exact $H))
noncomputable def hk : (H : Hook) ×' ((∀ P : Prop, P) → PySem.Challenge.rw_stopglass_k26_values_set_by_hand.Holds) := by
 refine ⟨?Hk, fun h => ?m⟩
 rotate_left
 w_on; refine holds_law ws fun said => ?_; k_head; exact h _
end
theorem opt3 {σ α β γ : Type} {x : Option σ} {f : σ → α × β} {g : σ → γ} {a : α × β} {c : γ} (h1 : x.map (fun s => (f s).1) = some a.1) (h2 : x.map (fun s => (f s).2) = some a.2) (h3 : x.map g = some c) : x.map (fun s => (f s, g s)) = some (a, c) := by
 cases x with
 | none => cases h1
 | some s =>
  have e1 : (f s).1 = a.1 := Option.some.inj h1
  have e2 : (f s).2 = a.2 := Option.some.inj h2
  have e3 : g s = c := Option.some.inj h3
  show some (f s, g s) = some (a, c)
  rw [show f s = a from Prod.ext e1 e2, e3]
theorem r0a : ∀ (w : World) (os : OsState), (TQ tp (w.withFollow "special-get-raises" false) 20000 (S0 (w.withFollow "special-get-raises" false) os)).map (fun s => (OQ (viewOf tp) lo (importedModules tp.main.body) (Xf tp) true s).1) = some (openGood (viewOf tp) lo).1 := by
 intro w os; kernel_rfl
theorem r0b : ∀ (w : World) (os : OsState), (TQ tp (w.withFollow "special-get-raises" false) 20000 (S0 (w.withFollow "special-get-raises" false) os)).map (fun s => (OQ (viewOf tp) lo (importedModules tp.main.body) (Xf tp) true s).2) = some (openGood (viewOf tp) lo).2 := by
 intro w os; kernel_rfl
theorem r0c : ∀ (w : World) (os : OsState), (TQ tp (w.withFollow "special-get-raises" false) 20000 (S0 (w.withFollow "special-get-raises" false) os)).map (fun s => Hook.obs hk.1 s) = some (Hook.val hk.1 (w.withFollow "special-get-raises" false)) := by
 intro w os; kernel_rfl
theorem r0 : ∀ (w : World) (os : OsState), (TQ tp (w.withFollow "special-get-raises" false) 20000 (S0 (w.withFollow "special-get-raises" false) os)).map (fun s => (OQ (viewOf tp) lo (importedModules tp.main.body) (Xf tp) true s, Hook.obs hk.1 s)) = some (openGood (viewOf tp) lo, Hook.val hk.1 (w.withFollow "special-get-raises" false)) := fun w os => opt3 (r0a w os) (r0b w os) (r0c w os)
theorem r1a : ∀ (w : World) (os : OsState), (TQ tp (w.withFollow "special-get-raises" true) 20000 (S0 (w.withFollow "special-get-raises" true) os)).map (fun s => (OQ (viewOf tp) lo (importedModules tp.main.body) (Xf tp) true s).1) = some (openGood (viewOf tp) lo).1 := by
 intro w os; kernel_rfl
theorem r1b : ∀ (w : World) (os : OsState), (TQ tp (w.withFollow "special-get-raises" true) 20000 (S0 (w.withFollow "special-get-raises" true) os)).map (fun s => (OQ (viewOf tp) lo (importedModules tp.main.body) (Xf tp) true s).2) = some (openGood (viewOf tp) lo).2 := by
 intro w os; kernel_rfl
theorem r1c : ∀ (w : World) (os : OsState), (TQ tp (w.withFollow "special-get-raises" true) 20000 (S0 (w.withFollow "special-get-raises" true) os)).map (fun s => Hook.obs hk.1 s) = some (Hook.val hk.1 (w.withFollow "special-get-raises" true)) := by
 intro w os; kernel_rfl
theorem r1 : ∀ (w : World) (os : OsState), (TQ tp (w.withFollow "special-get-raises" true) 20000 (S0 (w.withFollow "special-get-raises" true) os)).map (fun s => (OQ (viewOf tp) lo (importedModules tp.main.body) (Xf tp) true s, Hook.obs hk.1 s)) = some (openGood (viewOf tp) lo, Hook.val hk.1 (w.withFollow "special-get-raises" true)) := fun w os => opt3 (r1a w os) (r1b w os) (r1c w os)
theorem left_twin {p p' : Program} {F : Program → Program} {X : Program → Shared → Bool} {loose : List Str} {α : Type} {Yf : Shared → α} {Ya : World → α} {N : Nat} {g0 : Bool} (row : String) (ep : p = p') (e : opening p = plainProg p.main.scope.names) (hN : Nat.ble 600 N = true) (f : ∀ s, fenceModules? p s = some s)
  (h0 : ∀ (w : World) (os : OsState), (TQ p' (w.withFollow row false) N (S0 (w.withFollow row false) os)).map (fun s => (OQ (F p') loose (importedModules p'.main.body) (X p') g0 s, Yf s)) = some (openGood (F p') loose, Ya (w.withFollow row false)))
  (h1 : ∀ (w : World) (os : OsState), (TQ p' (w.withFollow row true) N (S0 (w.withFollow row true) os)).map (fun s => (OQ (F p') loose (importedModules p'.main.body) (X p') g0 s, Yf s)) = some (openGood (F p') loose, Ya (w.withFollow row true))) : LeftO p (F p) loose (X p) Yf Ya N g0 := fun w => by
 subst ep
 have key : ∀ b, (openEnds treeTable p (w.withFollow row b) N).map (fun s => (openSeen (F p) loose (importedModules p.main.body) (X p) g0 s, Yf s)) = some (openGood (F p) loose, Ya (w.withFollow row b)) := by
  intro b
  obtain ⟨s, hs, hv⟩ := Option.map_eq_some_iff.mp (boot_open e hN f (w.withFollow row b))
  have es : s = S0 (w.withFollow row b) s.os := by
   cases s
   simp only [Prod.mk.injEq] at hv
   obtain ⟨a1, a2, a3, a4⟩ := hv
   subst a1 a2 a3 a4
   rfl
  unfold openEnds
  rw [hs, es, PySem.W.Fast.te370005188180407882, PySem.W.Fast.te14364793385576792824, PySem.W.Fast.te4187177175401517315]
  cases b
  . exact h0 w s.os
  . exact h1 w s.os
 have e0 := World.withFollow_self w row
 have := key (w.params.followText row)
 rwa [e0] at this
theorem left : LeftO PySem.Challenge.pw_stopglass_k26_values_set_by_hand (viewOf PySem.Challenge.pw_stopglass_k26_values_set_by_hand) lo (Xf PySem.Challenge.pw_stopglass_k26_values_set_by_hand) (Hook.obs hk.1) (Hook.val hk.1) 20000 true :=
 left_twin (p := PySem.Challenge.pw_stopglass_k26_values_set_by_hand) (p' := tp) (F := viewOf) (X := Xf) (loose := lo) (Yf := Hook.obs hk.1) (Ya := Hook.val hk.1) (N := 20000) (g0 := true) "special-get-raises" rfl (by kernel_rfl) (by decide) (fun s => by kernel_rfl) r0 r1
theorem left_of {H : Hook} (e : H = hk.1) : LeftO PySem.Challenge.pw_stopglass_k26_values_set_by_hand (viewOf PySem.Challenge.pw_stopglass_k26_values_set_by_hand) lo (Xf PySem.Challenge.pw_stopglass_k26_values_set_by_hand) (Hook.obs H) (Hook.val H) 20000 true := by subst e; exact left
local macro_rules | `(tactic| o_head $H) => `(tactic| (
 refine holds_open (q := viewOf PySem.Challenge.pw_stopglass_k26_values_set_by_hand) (loose := lo) (Xt := Xf PySem.Challenge.pw_stopglass_k26_values_set_by_hand) (XP := XL (viewOf PySem.Challenge.pw_stopglass_k26_values_set_by_hand) []) (Yf := Hook.obs $H) (Ya := Hook.val $H) (YP := Hook.says $H) (N := 20000) ?hl (Hook.of $H) (Hook.keeps $H) (fun s e => xl_of s (Bool.and_eq_true_iff.mp e).1) XL.keeps (by rfl) (by rfl) (by rfl) (fun s e => recFacts_of (Bool.and_eq_true_iff.mp e).2) (by rfl) (by assumption) (by decide +kernel) ⟨rfl, rfl, rfl, rfl, rfl, by decide +kernel⟩ ?hw ?hc
 (case hl => exact left_of (H := $H) (by kernel_rfl))))
set_option maxHeartbeats 0 in
noncomputable def pk : (G : Prop) ×' (G → PySem.Challenge.rw_stopglass_k26_values_set_by_hand.Holds) := by
 refine' ⟨_, fun h => _⟩
 rotate_left
 w_on; refine holds_law ws fun said => ?_; k_head; (case hw => w_witness2)
 exact h
end Hd
end
abbrev qae:=@Nat.le_refl
abbrev qap:=@PySem.Heap.get?_push_size
abbrev qar:=@Bool.false_ne_true
abbrev qaw:=@List.getElem?_of_mem
abbrev qax:=@List.length_take
abbrev qay:=@PySem.F.plainAttrs_list
abbrev qaz:=@List.map_cons
abbrev qa0:=@List.length_cons
abbrev qa1:=@Bool.and_eq_true
abbrev qa2:=@Nat.ne_of_lt
abbrev qa3:=@List.getElem?_append_left
abbrev qa4:=@Nat.lt_or_ge
abbrev qa5:=@List.length_singleton
abbrev qa6:=@Nat.zero_le
abbrev qa7:=@List.foldl_cons
abbrev qa8:=@List.mem_append_left
abbrev qa9:=@PySem.F.slot_list_append
abbrev qba:=@PySem.F.type_list_append
abbrev qbb:=@List.take_of_length_le
abbrev qbc:=@List.foldl_append
abbrev qbd:=@Nat.lt_irrefl
abbrev qbe:=@Int.toNat_natCast
abbrev qbf:=@List.take_add_one
abbrev qbg:=@List.append_nil
abbrev qbh:=@List.length_set
abbrev qbi:=@List.length_nil
abbrev qbj:=@List.length_drop
abbrev qbk:=@List.not_mem_nil
abbrev qbl:=@List.getElem?_eq_none
abbrev qbm:=@PyProof.Rows.slot_tuple_getitem
abbrev qbn:=@List.getElem?_append_right
abbrev qbo:=@PySem.Heap.get?_update_other
abbrev qbp:=@List.nodup_append
abbrev qbq:=@Nat.le_of_lt
abbrev qbr:=@PyProof.Rows.callWith_type1
abbrev qbs:=@List.take_length
abbrev qbt:=@List.mem_of_mem_take
abbrev qbu:=@List.getD_eq_getElem?_getD
abbrev qbv:=@List.getElem?_set
abbrev qbw:=@Nat.lt_of_le_of_lt
abbrev qbx:=@List.map_map
abbrev qby:=@PySem.Heap.size_push
abbrev qbz:=@List.mem_of_mem_drop
abbrev qb0:=@Int.eq_ofNat_of_zero_le
abbrev qb1:=@Bool.eq_iff_iff
abbrev qb2:=@List.replicate_succ
abbrev qb3:=@PySem.F.excBase_ValueError
abbrev qb4:=@List.lookup_cons
abbrev qb5:=@PySem.Heap.get?_update_self
abbrev qb6:=@List.getElem?_eq_none_iff
abbrev qb7:=@List.getElem?_zip_eq_some
abbrev qb8:=@List.getElem?_take_of_lt
abbrev qb9:=@List.getElem?_inj
abbrev qca:=@Nat.lt_succ_self
abbrev qcb:=@List.any_eq_true
abbrev qcc:=@Nat.ne_of_gt
abbrev qcd:=@List.map_nil
abbrev qce:=@Bool.false_eq_true
abbrev qcf:=@List.length_zip
abbrev qcg:=@List.eq_nil_or_concat
abbrev qch:=@List.concat_eq_append
abbrev qci:=@PySem.F.slot_tuple_iterator_next
abbrev qcj:=@Array.getElem?_eq_some_iff
abbrev qck:=@List.flatten_cons
abbrev qcl:=@List.getElem?_set_ne
abbrev qcm:=@Nat.le_succ
abbrev qcn:=@List.getElem_mem
abbrev qco:=@Option.bind_some
abbrev qcp:=@List.find?_cons
abbrev qcq:=@List.getElem?_set_self
abbrev qcr:=@List.drop_eq_nil_of_le
abbrev qcs:=@List.append_assoc
abbrev qct:=@List.ext_getElem?
abbrev qcu:=@PySem.Heap.get?_none_of_le
abbrev qcv:=@List.of_mem_zip
abbrev qcw:=@Nat.not_lt_zero
abbrev qcx:=@Option.isSome_iff_exists
abbrev qcy:=@PySem.F.slot_list_getattribute
abbrev qcz:=@PySem.F.plainAttrs_dict
abbrev qc0:=@List.length_eq_zero_iff
abbrev qc1:=@Option.map_eq_some_iff
abbrev qc2:=@PyProof.Rows.bitOr_and
abbrev qc3:=@List.any_cons
abbrev qc4:=@PySem.F.slot_dict_get
abbrev qc5:=@PySem.F.slot_list_pop
abbrev qc6:=@PySem.F.type_list_pop
abbrev qc7:=@List.nodup_cons
abbrev qc8:=@List.forIn_cons
abbrev qc9:=@Option.map_some
abbrev qda:=@PySem.F.slot_zip_next
abbrev qdb:=@Nat.min_eq_left
abbrev qdc:=@PySem.F.slot_dict_itemiterator_iter
abbrev qdd:=@List.eq_nil_of_length_eq_zero
abbrev qde:=@List.filterMap_cons
abbrev qdf:=@Array.length_toList
abbrev qdg:=@List.mem_range
abbrev qdh:=@List.drop_zero
abbrev qdi:=@PySem.F.args_tuple_iterator_next_1
abbrev qdj:=@PySem.F.slot_dict_setdefault
abbrev qdk:=@List.mem_filterMap
abbrev qdl:=@PySem.F.entry_tuple_iterator_next
abbrev qdm:=@PySem.F.attrBase_ValueError
abbrev qdn:=@List.zip_cons_cons
abbrev qdo:=@Int.fdiv_eq_ediv_of_nonneg
abbrev qdp:=@Nat.mod_two_eq_zero_or_one
abbrev qdq:=@Option.isSome_map
abbrev qdr:=@List.flatMap_cons
abbrev qds:=@List.length_range
abbrev qdt:=@List.all_eq_true
abbrev qdu:=@List.mem_flatMap
abbrev qdv:=@PySem.F.slot_list_extend
abbrev qdw:=@PySem.F.type_list_extend
abbrev qdx:=@Int.zero_add
abbrev qdy:=@PySem.F.args_dict_get_3
abbrev qdz:=@PySem.F.slot_dict_items
abbrev qd0:=@List.nodup_nil
abbrev qd1:=@List.forIn_nil
abbrev qd2:=@Bool.or_false
namespace K11
end K11
namespace L2
open PySem PySem.Spec PyProof.Rows
abbrev Key:=Sum Int Str
def zr5:Key->Value->Bool
 | .inl k,v=>Value.isInt k v
 | .inr x,v=>Value.isStrOf x v
def keyH (w:World):Key->Int
 | .inl k=>hashInt k
 | .inr x=>hashStr w x
theorem zcr:∀{k:Key} {v:Value},zr5 k v=true->(∃i t,k=Sum.inl i/\v=Value.int i t)\/(∃x t,k=Sum.inr x/\v=Value.str x t)
 | .inl i,v,h=>by obtain⟨t,e⟩:=Value.isInt_shape (k:=i) (v:=v) h;exact .inl ⟨i,t,rfl,e⟩
 | .inr x,v,h=>by obtain⟨t,e⟩:=Value.isStrOf_shape (x:=x) (v:=v) h;exact .inr ⟨x,t,rfl,e⟩
theorem zve (i:Int) (t:Tok):zr5 (.inl i) (.int i t)=true:=by simp [zr5,Value.isInt]
theorem zwn (x:Str) (t:Tok):zr5 (.inr x) (.str x t)=true:=by simp [zr5,Value.isStrOf]
theorem z3p (a b:Int):decide ((Sum.inl a:Key)=Sum.inl b)=(a==b):=by
 by_cases e:a=b
 . subst e; simp
 . have h:¬ (Sum.inl a:Key)=Sum.inl b:=λq=>e (Sum.inl.inj q);rw[decide_eq_false h];exact(beq_eq_false_iff_ne.mpr e).symm
theorem z49 (a b:Str):decide ((Sum.inr a:Key)=Sum.inr b)=decide (a=b):=by
 by_cases e:a=b
 . subst e; simp
 . have h:¬ (Sum.inr a:Key)=Sum.inr b:=λq=>e (Sum.inr.inj q);rw[decide_eq_false h,decide_eq_false e]
theorem z26 (a:Int) (b:Str):decide ((Sum.inl a:Key)=Sum.inr b)=false:=decide_eq_false (λq=>nomatch q)
theorem z4j (a:Str) (b:Int):decide ((Sum.inr a:Key)=Sum.inl b)=false:=decide_eq_false (λq=>nomatch q)
def zbe (prog:Program) (w:World):PySem.KeyKind prog w Key where
 is:=zr5
 hash:=keyH w
 inj:=λv a b ha hb=>by
   rcases zcr ha with⟨i,t,rfl,rfl⟩|⟨x,t,rfl,rfl⟩
   . rcases zcr hb with⟨j,u,rfl,e⟩|⟨y,u,rfl,e⟩
     . injection e with e1 _; rw[e1]
     . exact nomatch e
   . rcases zcr hb with⟨j,u,rfl,e⟩|⟨y,u,rfl,e⟩
     . exact nomatch e
     . injection e with e1 _; rw[e1]
 byValue:=λk v h=>by rcases zcr h with⟨i,t,rfl,rfl⟩|⟨x,t,rfl,rfl⟩ <;> rfl
 pyHash:=λhv h=>by
   rcases zcr hv with⟨i,t,rfl,rfl⟩|⟨x,t,rfl,rfl⟩
   . exact wpAny_pyHash_int h
   . exact wpAny_pyHash_str h
 eqBool:=λhu hv h=>by
   rcases zcr hu with⟨i,t,rfl,rfl⟩|⟨x,t,rfl,rfl⟩
   . rcases zcr hv with⟨j,u,rfl,rfl⟩|⟨y,u,rfl,rfl⟩
     . rw[z3p] at h; exact wpAny_eqBool_int h
     . rw[z26] at h; exact SeqAt.EqAt.int_str i t y u _ _ _ _ h
   . rcases zcr hv with⟨j,u,rfl,rfl⟩|⟨y,u,rfl,rfl⟩
     . rw[z4j] at h; exact SeqAt.EqAt.str_int x t j u _ _ _ _ h
     . rw[z49] at h; exact wpAny_eqBool_str h
 «strs»:=λk x t v h=>by
   rcases zcr h with⟨i,u,rfl,e⟩|⟨y,u,rfl,e⟩
   . exact nomatch e
   . injection e with e1 _
     subst e1;cases v <;> rfl
theorem zr9 (prog:Program) (w:World) (i:Int) (t:Tok):(zbe prog w).is (.inl i) (.int i t)=true:=zve i t
theorem zrv (prog:Program) (w:World) (x:Str) (t:Tok):(zbe prog w).is (.inr x) (.str x t)=true:=zwn x t
inductive V where
 | non|bl (b:Bool)|int (i:Int)|str (x:Str)|byt (b:Array UInt8)|flt (b:UInt64)|ref (a:Addr)|ty (n:String)
 deriving DecidableEq
def zc4:V->Value->Prop
 | .non,u=>u=Value.none
 | .bl b,u=>u=Value.bool b
 | .int i,u=>∃t,u=Value.int i t
 | .str x,u=>∃t,u=Value.str x t
 | .byt b,u=>∃t,u=Value.bytes b t
 | .flt b,u=>∃t,u=Value.float b t
 | .ref a,u=>u=Value.ref a
 | .ty n,u=>u=Value.type n
abbrev zcq:List V->List Value->Prop:=Paired zc4
theorem zcq.length {xs:List V} {us:List Value} (r:zcq xs us):xs.length=us.length:=Paired.length r
theorem zcq.get:∀{xs:List V} {us:List Value} {i:Nat} {x:V},zcq xs us->xs[i]?=some x->∃u,us[i]?=some u/\zc4 x u
 | _,_,_,_,.nil,e=>by simp at e
 | _,_,0,_,.cons r _,e=>by simp at e; subst e; exact⟨_,rfl,r⟩
 | _,_,i+1,x,.cons _ t,e=>by obtain⟨u,h1,h2⟩:=zcq.get (i:=i) (x:=x) t (by simpa using e);exact⟨u,by simpa using h1,h2⟩
theorem zcq.set {x:V} {u:Value} (r:zc4 x u):∀{xs:List V} {us:List Value} (i:Nat),zcq xs us->zcq (xs.set i x) (us.set i u)
 | _,_,_,.nil=>.nil
 | _,_,0,.cons _ t=>.cons r t
 | _,_,i+1,.cons q t=>.cons q (zcq.set r i t)
theorem zcq.append:∀{xs ys:List V} {us ws:List Value},zcq xs us->zcq ys ws->zcq (xs++ys) (us++ws)
 | _,_,_,_,.nil,s=>s
 | _,_,_,_,.cons r t,s=>.cons r (zcq.append t s)
theorem zcq.take:∀{xs:List V} {us:List Value} (n:Nat),zcq xs us->zcq (xs.take n) (us.take n)
 | _,_,0,_=>.nil
 | _,_,_+1,.nil=>.nil
 | _,_,n+1,.cons r t=>.cons r (zcq.take n t)
theorem zcq.drop:∀{xs:List V} {us:List Value} (n:Nat),zcq xs us->zcq (xs.drop n) (us.drop n)
 | _,_,0,r=>r
 | _,_,_+1,.nil=>.nil
 | _,_,n+1,.cons _ t=>zcq.drop n t
theorem zcq.none_of:∀{xs:List V} {us:List Value} {i:Nat},zcq xs us->xs[i]?=none->us[i]?=none:=λ{xs us i} r e=>by have h1:=r.length;have h2:xs.length<=i:=qb6.mp e;exact qb6.mpr (by omega)
def zpq:Option V->Option Value->Prop
 | some v,some u=>zc4 v u
 | none,none=>True
 | _,_=>False
def KV {κ:Type}:List (κ×V)->List (κ×Value)->Prop:=Paired λ(p:κ×V) (q:κ×Value)=>p.1=q.1/\zc4 p.2 q.2
def kV:Key->V
 | .inl i=>.int i
 | .inr x=>.str x
inductive HO where
 | lst (xs:List V)
 | tup (xs:List V)
 | dK (kvs:List (Key×V))|dT (kvs:List (List Key×V))
 | set (S:Int->Bool) (n:Nat)
 | ins (C dx:Addr) (fs:List (Str×V))
 | own (x:Addr)
 | xd (fs:List (Str×V))
 | met (f x:Addr)
 | rng (lo hi:Int)
 | frz (o:Obj) (u:HO)
 | tbl (ps:Array Value)
 | ext (φ:Heap->Prop)
abbrev Hp:=Addr->Option HO
def upd (H:Hp) (a:Addr) (o:HO):Hp:=λb=>if b=a then some o else H b
theorem zac {H:Hp} {a:Addr} {o:HO}:upd H a o a=some o:=by unfold upd; rw[if_pos rfl]
theorem zag {H:Hp} {a b:Addr} {o:HO} (h:b≠a):upd H a o b=H b:=by unfold upd; rw[if_neg h]
theorem zmh {H:Hp} {a:Addr} {o u:HO}:upd (upd H a o) a u=upd H a u:=by funext b; unfold upd; split <;> rfl
theorem zrm {H:Hp} {a b:Addr} {o u:HO} (h:H a=some o) (h':H b=some u) (d:o≠u):a≠b:=by intro e; subst e; rw[h] at h'; exact d (Option.some.inj h')
theorem za3 {H:Hp} {a b:Addr} {o:HO} (h:H a=some o) (h':H b=none):a≠b:=by intro e; subst e; rw[h] at h'; cases h'
section
variable (P:Program) (w:World)
def zdm (H:Hp) (h:Heap) (a:Addr):HO->Prop
 | .lst xs=>xs.length<=sizeLine/\∃(its:List Value) (n:Nat),zcq xs its/\h.get? a=some { cls:=.type "list",data:=.seq its.toArray n }
 | .tup xs=>xs.length<=sizeLine/\∃its:List Value,zcq xs its/\IsTup h a its.toArray
 | .dK kvs=>kvs.length<=sizeLine/\(a==sysModules)=false/\∃vs,KV kvs vs/\h.DictOf (zbe P w) a vs
 | .dT kvs=>kvs.length<=sizeLine/\(a==sysModules)=false/\∃xs:List (List Key×Addr×Value),
     Paired (λ(p:List Key×V) (q:List Key×Addr×Value)=>p.1=q.1/\H q.2.1=some (.tup (p.1.map kV))/\zc4 p.2 q.2.2) kvs xs /\
     ∃o es ep,h.get? a=some o/\o.ExactDict/\o.data=.dict es ep/\es.toList=xs.map (entryOfKey (tupleKind (zbe P w)))/\(xs.map (·.1)).Nodup
 | .set S n=>h.SetOf (intKind P w) a S n
 | .ins C dx fs=>H dx=some (.own a)/\fs.length<=1000/\dx≠a/\h.get? a=some (PySem.W.instObj C dx) /\
     ∃mA,h.Ns1 dx mA/\(∀f,zpq (fs.lookup f) (mA f))/\PySem.Within mA (fs.map (·.1))
 | .own _=>∃o,h.get? a=some o
 | .xd fs=>∃mA,h.Ns1 a mA/\∀f,zpq (fs.lookup f) (mA f)
 | .rng lo hi=>∃t u v,h.get? a=some { cls:=.type "range",data:=.fields #[.int lo t,.int hi u,.int 1 v] }
 | .frz o u=>h.get? a=some o/\zdm H h a u
 | .tbl ps=>h.get? a=some { cls:=.none,data:=.fields ps }
 | .met f x=>h.get? a=some (PySem.W.methodObj (.ref f) (.ref x))
 | .ext φ=>φ h/\(∃o,h.get? a=some o)/\∀h1 h2:Heap,φ h1->(∀o,h1.get? a=some o->h2.get? a=some o)->φ h2
def HOk (H:Hp) (h:Heap):Prop:=∀a o,H a=some o->zdm P w H h a o
end
section
variable {P:Program} {w:World} {H H':Hp} {h h':Heap} {a:Addr} {o:HO}
theorem zdm.lt (x:zdm P w H h a o):a<h.objs.size:=by
 cases o with
 | lst xs=>obtain⟨_,_,_,_,e⟩:=x; exact Heap.lt_size e
 | tup xs=>obtain⟨_,_,_,p⟩:=x; exact p.lt
 | dK kvs=>obtain⟨_,_,_,_,o,_,_,e,_⟩:=x; exact Heap.lt_size e
 | dT kvs=>obtain⟨_,_,_,_,o,_,_,e,_⟩:=x; exact Heap.lt_size e
 | set S n=>obtain⟨o,_,_,_,e,_⟩:=x; exact Heap.lt_size e
 | ins C dx fs=>obtain⟨_,_,_,e,_⟩:=x; exact Heap.lt_size e
 | own y=>obtain⟨_,e⟩:=x; exact Heap.lt_size e
 | xd fs=>obtain⟨_,⟨_,_,_,e,_⟩,_⟩:=x; exact Heap.lt_size e
 | rng lo hi=>obtain⟨_,_,_,e⟩:=x; exact Heap.lt_size e
 | frz ob u=>obtain⟨e,_⟩:=x; exact Heap.lt_size e
 | tbl ps=>exact Heap.lt_size (show h.get? a=some _ from x)
 | met f y=>exact Heap.lt_size (show h.get? a=some _ from x)
 | ext φ=>obtain⟨_,⟨_,e⟩,_⟩:=x; exact Heap.lt_size e
theorem Paired.mapP {α β:Type} {F G:α->β->Prop}:∀{l₁:List α} {l₂:List β},Paired F l₁ l₂->(∀a b,F a b->G a b)->Paired G l₁ l₂
 | _,_,.nil,_=>.nil
 | _,_,.cons r t,f=>.cons (f _ _ r) (Paired.mapP t f)
theorem zdm.stay (x:zdm P w H h a o) (k:∀b u,(b=a\/H b=some (.own a))->h.get? b=some u->h'.get? b=some u)
   (ho:∀b,H b=some (.own a)->H' b=some (.own a)) (ht:∀b xs,H b=some (.tup xs)->H' b=some (.tup xs)):zdm P w H' h' a o:=by
 induction o with
 | lst xs=>obtain⟨z,its,n,r,e⟩:=x; exact⟨z,its,n,r,k _ _ (.inl rfl) e⟩
 | tup xs=>obtain⟨z,its,r,ob,e,c⟩:=x; exact⟨z,its,r,ob,k _ _ (.inl rfl) e,c⟩
 | dK kvs=>obtain⟨z,y,vs,r,ob,es,ep,e,c⟩:=x; exact⟨z,y,vs,r,ob,es,ep,k _ _ (.inl rfl) e,c⟩
 | dT kvs =>
   obtain⟨z,y,xs,r,ob,es,ep,e,c⟩:=x;exact⟨z,y,xs,Paired.mapP r λp q z=>⟨z.1,ht _ _ z.2.1,z.2.2⟩,ob,es,ep,k _ _ (.inl rfl) e,c⟩
 | set S n=>obtain⟨ob,es,ep,t,e,c⟩:=x; exact⟨ob,es,ep,t,k _ _ (.inl rfl) e,c⟩
 | ins C dx fs =>
   obtain⟨d,z,ne,e,mA,⟨od,es,ep,e2,c⟩,r⟩:=x;exact⟨ho _ d,z,ne,k _ _ (.inl rfl) e,mA,⟨od,es,ep,k _ _ (.inr d) e2,c⟩,r⟩
 | own y=>obtain⟨ob,e⟩:=x; exact⟨ob,k _ _ (.inl rfl) e⟩
 | xd fs=>obtain⟨mA,⟨od,es,ep,e,c⟩,r⟩:=x; exact⟨mA,⟨od,es,ep,k _ _ (.inl rfl) e,c⟩,r⟩
 | rng lo hi=>obtain⟨t,u,v,e⟩:=x; exact⟨t,u,v,k _ _ (.inl rfl) e⟩
 | frz ob u ih=>obtain⟨e,q⟩:=x; exact⟨k _ _ (.inl rfl) e,ih q⟩
 | tbl ps =>
   have e:h.get? a=some { cls:=.none,data:=.fields ps }:=x;show h'.get? a=some { cls:=.none,data:=.fields ps };exact k a _ (.inl rfl) e
 | met f y =>
   have e:h.get? a=some (PySem.W.methodObj (.ref f) (.ref y)):=x;show h'.get? a=some (PySem.W.methodObj (.ref f) (.ref y));exact k a _ (.inl rfl) e
 | ext φ=>obtain⟨p,⟨o,e⟩,st⟩:=x; exact⟨st _ _ p λo q=>k _ _ (.inl rfl) q,⟨o,k _ _ (.inl rfl) e⟩,st⟩
theorem HOk.lt (x:HOk P w H h) (e:H a=some o):a<h.objs.size:=(x a o e).lt
theorem HOk.fresh (x:HOk P w H h) (e:h.objs.size<=a):H a=none:=by
 cases q:H a with
 | none=>rfl
 | some u=>exact absurd (Nat.lt_of_lt_of_le (x.lt q) e) (qbd _)
theorem HOk.kept (x:HOk P w H h) (k:∀b u,h.get? b=some u->h'.get? b=some u):HOk P w H h':=λa o e =>
 (x a o e).stay (λb u _ q=>k b u q) (λ_ q=>q) λ_ _ q=>q
theorem HOk.laid (x:HOk P w H h) (k:∀b u,h.get? b=some u->h'.get? b=some u) (hp:h.objs.size<=a) (new:zdm P w (upd H a o) h' a o):HOk P w (upd H a o) h':=λb u e=>by
 have hn:=x.fresh hp;by_cases hb:b=a
 . subst hb; rw[zac] at e; cases e; exact new
 . rw[zag hb] at e;exact(x b u e).stay (λc v _ q=>k c v q) (λc q=>by rw[zag (za3 q hn)]; exact q) λc xs q=>by rw[zag (za3 q hn)]; exact q
end
def Rd (H:Hp) (a:Addr) (u:HO):Prop:=H a=some u\/∃o,H a=some (.frz o u)
theorem Rd.ok {P:Program} {w:World} {H:Hp} {h:Heap} {a:Addr} {u:HO} (r:Rd H a u) (x:HOk P w H h):zdm P w H h a u:=by
 rcases r with r|⟨o,r⟩
 . exact x a u r
 . obtain⟨_,q⟩:=x a _ r;exact q
def Mut:Option HO->Prop
 | some (.lst _)=>True
 | some (.dK _)=>True
 | some (.dT _)=>True
 | some (.set _ _)=>True
 | some (.ins _ _ _)=>True
 | some (.ext _)=>True
 | _=>False
section
variable {P:Program} {w:World} {H:Hp} {h h':Heap} {x e:Addr} {o':HO}
theorem HOk.write (ok:HOk P w H h) (mu:Mut (H x)) (he:e=x\/H e=some (.own x)) (k:∀b u,b≠e->h.get? b=some u->h'.get? b=some u) (heo:∃u,h'.get? e=some u)
   (new:zdm P w (upd H x o') h' x o'):HOk P w (upd H x o') h':=λb u q=>by
 have nown:∀c y,H c=some (.own y)->c≠x:=λc y r z=>by subst z; rw[r] at mu; exact mu
 have ntup:∀c xs,H c=some (.tup xs)->c≠x:=λc xs r z=>by subst z; rw[r] at mu; exact mu
 by_cases hb:b=x
 . subst hb; rw[zac] at q; cases q; exact new
 . rw[zag hb] at q;by_cases hbe:b=e
   . have q':H b=some (.own x):=by
       rcases he with z|z
       . exact absurd (hbe.trans z) hb
       . rw[hbe]; exact z
     rw[q] at q'; cases q';obtain⟨v,hv⟩:=heo;exact⟨v,by rw[hbe]; exact hv⟩
   . refine(ok b u q).stay (λc v hc r=>k c v ?_ r) (λc r=>by rw[zag (nown c b r)]; exact r) λc xs r=>by rw[zag (ntup c xs r)]; exact r
     rcases hc with rfl|hc
     . exact hbe
     . rintro rfl;rcases he with z|z
       . exact nown c b hc z
       . rw[hc] at z; cases z; exact hb rfl
end
structure Un (fs ex:List Addr) (H H':Hp) (h h':Heap):Prop where
 keep:∀b o,h.get? b=some o->H b=none->b ∉ fs->b ∉ ex->h'.get? b=some o
 slot:∀b o,h.get? b=some o->H b=none->b∈fs->b ∉ ex->∃sl,h'.get? b=some { o with slots:=sl }
 free:∀b o,h.get? b=some o->H b=none->b ∉ ex->H' b=none
 there:∀b o,h.get? b=some o->b ∉ ex->∃o',h'.get? b=some o'
 tups:∀b xs,H b=some (.tup xs)->H' b=some (.tup xs)
 frzs:∀b o u,H b=some (.frz o u)->H' b=some (.frz o u)
 tbls:∀b ps,H b=some (.tbl ps)->∃more,H' b=some (.tbl (ps++more))
section
variable {fs fs' ex ex':List Addr} {H H1 H2:Hp} {h h1 h2 h':Heap} {a x e:Addr} {o:HO}
theorem Un.any (u:Un fs ex H H1 h h1) {b:Addr} {ob:Obj} (q:h.get? b=some ob) (n:H b=none) (hx:b ∉ ex):∃sl,h1.get? b=some { ob with slots:=sl }:=by
 by_cases hb:b∈fs
 . exact u.slot b ob q n hb hx
 . exact⟨ob.slots,u.keep b ob q n hb hx⟩
theorem Un.kept (k:∀b u,h.get? b=some u->h'.get? b=some u):Un fs ex H H h h' :=
 ⟨λb ob q _ _ _=>k b ob q,λb ob q _ _ _=>⟨ob.slots,k b ob q⟩,λ_ _ _ n _=>n,λb ob q _=>⟨ob,k b ob q⟩,λ_ _ q=>q,λ_ _ _ q=>q,λ_ ps q=>⟨#[],by rw[q]; simp⟩⟩
theorem Un.refl:Un fs ex H H h h:=Un.kept λ_ _ q=>q
theorem Un.laid (k:∀b u,h.get? b=some u->h'.get? b=some u) (hp:h.objs.size<=a) (hn:H a=none):Un fs ex H (upd H a o) h h' where
 keep:=λb u q _ _ _=>k b u q
 slot:=λb u q _ _ _=>⟨u.slots,k b u q⟩
 free:=λb u q n _=>by rw[zag (qa2 (Nat.lt_of_lt_of_le (Heap.lt_size q) hp))]; exact n
 there:=λb u q _=>⟨u,k b u q⟩
 tups:=λb xs q=>by rw[zag (za3 q hn)]; exact q
 frzs:=λb u xs q=>by rw[zag (za3 q hn)]; exact q
 tbls:=λb ps q=>⟨#[],by rw[zag (za3 q hn),q]; simp⟩
theorem Un.write (mu:Mut (H x)) (he:e=x\/H e=some (.own x)) (k:∀b u,b≠e->h.get? b=some u->h'.get? b=some u) (heo:∃u,h'.get? e=some u):Un fs ex H (upd H x o) h h':=by
 have hx:∀b,H b=none->b≠x:=λb n z=>by subst z; rw[n] at mu; exact mu
 have hb:∀b,H b=none->b≠e:=λb n z=>by
   subst z;rcases he with r|r
   . exact hx b n r
   . rw[n] at r; cases r
 have hm:∀b u,H b=some u->¬ Mut (some u)->b≠x:=λb u q nm z=>by subst z; rw[q] at mu; exact nm mu
 refine⟨λb u q n _ _=>k b u (hb b n) q,λb u q n _ _=>⟨u.slots,k b u (hb b n) q⟩,λb u q n _=>by rw[zag (hx b n)]; exact n,λb u q _=>?_,
   λb xs q=>by rw[zag (hm b _ q λz=>z)]; exact q,λb u xs q=>by rw[zag (hm b _ q λz=>z)]; exact q,λb ps q=>⟨#[],by rw[zag (hm b _ q λz=>z),q]; simp⟩⟩
 by_cases hbe:b=e
 . subst hbe; exact heo
 . exact⟨u,k b u hbe q⟩
end
def trk (h:Heap) (H:Hp):List Addr:=(List.range h.objs.size).filter λa=>(H a).isSome
def zzk (h:Heap) (H:Hp):Heap:=PySem.W.hideAll h (trk h H)
theorem zvt (h:Heap) (H:Hp):(zzk h H).objs.size=h.objs.size:=PySem.W.hideAll_size _ _
theorem zzo {h:Heap} {H:Hp} {b:Addr} {o:Obj} (e:h.get? b=some o) (n:H b=none):(zzk h H).get? b=some o :=
 PySem.W.hideAll_get _ e λhm=>by have q:(H b).isSome=true:=(List.mem_filter.mp hm).2;rw[n] at q; simp at q
theorem z2f {h:Heap} {H:Hp} {b:Addr} {o:Obj} (e:(zzk h H).get? b=some o):h.get? b=some o/\H b=none:=by
 have e':h.get? b=some o:=PySem.W.of_hideAll (trk h H) e;refine⟨e',?_⟩;cases q:H b with
 | none=>rfl
 | some x =>
   have hm:b∈trk h H:=List.mem_filter.mpr ⟨qdg.mpr (Heap.lt_size e'),by simp [q]⟩;have z:(zzk h H).get? b=none:=PySem.W.hideAll_none (trk h H) hm;rw[z] at e; cases e
structure Mod (K:W.Frag) (mg:Str->Option Value) (base:Heap):Prop where
 kin:K.In base
 glob:base.Ns mainGlobals mg
 blt:∃mb,base.Ns builtinsNs mb/\∀x:Str,x≠"__name__"->mb x=bootBuiltins x
 nolimit:base.NoLimit
structure Cx where
 prog:Program
 w:World
 K:W.Frag
 mg:Str->Option Value
 base:Heap
 A:Around
 N:List Str
 s₀:Shared
 H₀:Hp
 env:Env
 outer:List Env
 stack:List Env
 ex:List Addr
 fn:Str->Bool
 calm:Bool
 pn:List (Addr×Obj)
 xe:Value->Shared->Prop
def frs (l:List Env):List Addr:=l.filterMap (·.frame)
abbrev Cx.fs (X:Cx):List Addr:=frs X.outer
def Vis (sc:Scope) (x:Str):Prop:=sc.names.lookup x=some .local\/sc.names.lookup x=some .cell\/sc.names.lookup x=some .free
def Loc (sc:Scope) (x:Str):Prop:=sc.names.lookup x=some .local\/sc.names.lookup x=some .cell
def Look (env:Env) (h:Heap) (m:Str->Option Value) (x:Str) (u:Value):Prop :=
 (env.kindOf x=some .local/\m x=some u)\/((env.kindOf x=some .cell\/env.kindOf x=some .free)/\∃c,env.cells.lookup x=some c/\h.IsCell c (some u))
structure Cx.Ok (X:Cx):Prop where
 mod:Mod X.K X.mg X.base
 kind:X.env.scope.kind=.function
 glob:X.env.globals=mainGlobals
 blt:X.env.builtins=builtinsNs
 above:X.s₀.heap.objs.size<=X.env.locals
 inj:∀x y c,X.env.cells.lookup x=some c->X.env.cells.lookup y=some c->x=y
 has:∀x,(X.env.kindOf x=some .cell\/X.env.kindOf x=some .free)->∃c,X.env.cells.lookup x=some c
 cab:∀x c,X.fn x=true->X.env.cells.lookup x=some c->X.s₀.heap.objs.size<=c
 hd:X.calm=true->X.A.handled=none
 frames:X.A.frames=some X.stack
 stk:X.stack=X.outer\/(X.stack=X.env :: X.outer/\X.env.frame=some X.env.locals)
 exf:∀b∈X.ex,b≠X.env.locals/\∀x c,X.env.cells.lookup x=some c->c≠b
 bs:∀b o,X.base.get? b=some o->X.s₀.heap.get? b=some o/\X.H₀ b=none
 bsz:X.base.objs.size<=X.s₀.heap.objs.size
 noex:∀b o,X.base.get? b=some o->b ∉ X.ex
 exfs:∀b∈X.ex,b ∉ X.fs
 funs:X.s₀.heap.FunFrames X.base X.outer
 frf:∀b∈X.fs,X.H₀ b=none
structure Inv (X:Cx) (pins:List (Addr×Obj)) (σ:List (Option V)) (H:Hp) (s:Shared):Prop where
 ok:X.Ok
 os:s.os=X.s₀.os
 bare:AllBare s.gens
 base:Un X.fs X.ex X.H₀ H X.s₀.heap s.heap
 loc:∃m,s.heap.Ns X.env.locals m/\∀(i:Nat) (x:Str) (v:V),X.N[i]?=some x->σ[i]?=some (some v)->Vis X.env.scope x->∃u,zc4 v u/\Look X.env s.heap m x u
 cell:∀x c,X.env.cells.lookup x=some c->∃v,s.heap.IsCell c v
 free:H X.env.locals=none
 freeC:∀x c,X.env.cells.lookup x=some c->H c=none
 pin:∀p∈X.pn++pins,s.heap.get? p.1=some p.2/\H p.1=none/\p.1≠X.env.locals/\p.1 ∉ X.fs/\∀v,p.2.data≠.cell v
 hok:HOk X.prog X.w H s.heap
 len:σ.length=X.N.length
section
variable {X:Cx} {pins:List (Addr×Obj)} {σ:List (Option V)} {H H':Hp} {s:Shared} {h':Heap}
theorem Cx.Ok.nofr (ok:X.Ok) {b:Addr} {o:Obj} (e:X.base.get? b=some o):b ∉ X.fs:=λhb=>by have:=(ok.funs.mem hb).1;rw[e] at this; cases this
theorem Inv.bs (I:Inv X pins σ H s):∀b o,X.base.get? b=some o->s.heap.get? b=some o/\H b=none:=λb o e =>
 ⟨I.base.keep b o (I.ok.bs b o e).1 (I.ok.bs b o e).2 (I.ok.nofr e) (I.ok.noex b o e),I.base.free b o (I.ok.bs b o e).1 (I.ok.bs b o e).2 (I.ok.noex b o e)⟩
theorem Inv.bk (I:Inv X pins σ H s):∀b o,X.base.get? b=some o->s.heap.get? b=some o:=λb o e=>(I.bs b o e).1
theorem Inv.mod (I:Inv X pins σ H s):Mod X.K X.mg X.base:=I.ok.mod
theorem Inv.kIn (I:Inv X pins σ H s):X.K.In s.heap:=I.ok.mod.kin.keeps I.bk
theorem Inv.fr (I:Inv X pins σ H s):∃m,Fr X.base X.env.locals s.heap m :=
 let ⟨m,hn,_⟩:=I.loc
 ⟨m,hn,I.bk,Nat.le_trans I.ok.bsz I.ok.above⟩
theorem Inv.lt (I:Inv X pins σ H s):X.env.locals<s.heap.objs.size:=let ⟨_,hn,_⟩:=I.loc; hn.lt
theorem Inv.sz (I:Inv X pins σ H s):X.s₀.heap.objs.size<=s.heap.objs.size:=Nat.le_trans I.ok.above (qbq I.lt)
theorem Inv.nofs (I:Inv X pins σ H s) {a:Addr} (h:s.heap.objs.size<=a):a ∉ X.fs:=λhb=>by obtain⟨_,o,ho,_⟩:=I.ok.funs.mem hb;exact absurd (Nat.lt_of_lt_of_le (Heap.lt_size ho) (Nat.le_trans I.sz h)) (qbd _)
theorem Inv.cne (I:Inv X pins σ H s):∀x c,X.env.cells.lookup x=some c->c≠X.env.locals:=λx c e z=>by obtain⟨v,o,ho,hd⟩:=I.cell x c e;obtain⟨m,⟨o',es,ep,ho',hd',_⟩,_⟩:=I.loc;rw[z,ho'] at ho; cases ho; rw[hd'] at hd; cases hd
theorem Inv.funs (I:Inv X pins σ H s):s.heap.FunFrames X.base X.outer:=by
 have all:∀(l:List Env),(∀b∈frs l,b∈X.fs)->X.s₀.heap.FunFrames X.base l->s.heap.FunFrames X.base l:=by
   intro l
   induction l with
   | nil=>intro _ _; trivial
   | cons env r ih =>
     intro hs hl;obtain⟨hk,⟨L,o,hf,hn,ho,hd⟩,hr⟩:=hl;have hL:L∈X.fs:=hs L (by unfold frs; rw[qde,hf]; exact List.mem_cons_self);obtain⟨sl,e⟩:=I.base.slot L o ho (I.ok.frf L hL) hL λz=>I.ok.exfs L z hL;exact⟨hk,⟨L,_,hf,hn,e,hd⟩,ih (λb hb=>hs b (by unfold frs; rw[qde,hf]; exact List.mem_cons_of_mem _ hb)) hr⟩
 exact all X.outer (λ_ hb=>hb) I.ok.funs
theorem Inv.stack (I:Inv X pins σ H s):s.heap.FunFrames X.base X.stack:=by
 rcases I.ok.stk with e|⟨e,hf⟩
 . rw[e]; exact I.funs
 . rw[e];obtain⟨m,hn,_⟩:=I.loc;refine .cons (by rw[I.ok.kind]; decide) hf hn ?_ I.funs;exact qcu (Nat.le_trans I.ok.bsz I.ok.above)
theorem Inv.stkSub (I:Inv X pins σ H s):∀b∈frs X.stack,b∈X.env.locals :: X.fs:=λb hb=>by
 rcases I.ok.stk with e|⟨e,hf⟩
 . rw[e] at hb; exact List.mem_cons_of_mem _ hb
 . rw[e] at hb;unfold frs at hb;rw[qde,hf] at hb;exact hb
theorem Inv.stkFree (I:Inv X pins σ H s):∀b∈frs X.stack,H b=none:=λb hb=>by
 rcases List.mem_cons.mp (I.stkSub b hb) with e|hb
 . rw[e]; exact I.free
 . obtain⟨_,o,ho,_⟩:=I.ok.funs.mem hb;exact I.base.free b o ho (I.ok.frf b hb) λz=>I.ok.exfs b z hb
theorem Inv.step {g':Array GenState} {t':Nat} {d':Drawn} {ch:List Addr} (I:Inv X pins σ H s)
   (hch:∀b∈ch,(b∈X.ex\/X.s₀.heap.objs.size<=b)/\b≠X.env.locals/\(∀x c,X.env.cells.lookup x=some c->c≠b)/\∀p∈X.pn++pins,p.1≠b)
   (keep:∀b o,b≠X.env.locals->b ∉ X.fs->b ∉ ch->s.heap.get? b=some o->H b=none->h'.get? b=some o)
   (slot:∀b o,b≠X.env.locals->b∈X.fs->b ∉ ch->s.heap.get? b=some o->H b=none->∃sl,h'.get? b=some { o with slots:=sl }) (free:∀b o,b ∉ ch->s.heap.get? b=some o->H b=none->H' b=none)
   (there:∀b o,b ∉ ch->s.heap.get? b=some o->∃o',h'.get? b=some o')
   (tups:∀b xs,H b=some (.tup xs)->H' b=some (.tup xs)) (frzs:∀b o u,H b=some (.frz o u)->H' b=some (.frz o u)) (tbls:∀b ps,H b=some (.tbl ps)->∃more,H' b=some (.tbl (ps++more)))
   (ns:∀m,s.heap.Ns X.env.locals m->h'.Ns X.env.locals m) (hok:HOk X.prog X.w H' h') (hg:AllBare g') :
   Inv X pins σ H' { s with heap:=h',gens:=g',drawn:=d',toks:=t' }:=by
 have neL:∀b o,X.s₀.heap.get? b=some o->b≠X.env.locals:=λb o e=>qa2 (Nat.lt_of_lt_of_le (Heap.lt_size e) I.ok.above);have neC:∀b o,X.s₀.heap.get? b=some o->b ∉ X.ex->b ∉ ch:=λb o e hx hb=>by
   rcases (hch b hb).1 with z|z
   . exact hx z
   . exact absurd (Nat.lt_of_lt_of_le (Heap.lt_size e) z) (qbd _)
 have cellK:∀x c,X.env.cells.lookup x=some c->∀v,s.heap.IsCell c v->h'.IsCell c v:=λx c e v ⟨o,ho,hd⟩=>by
   have nch:c ∉ ch:=λz=>(hch c z).2.2.1 x c e rfl;by_cases hc:c∈X.fs
   . obtain⟨sl,q⟩:=slot c o (I.cne x c e) hc nch ho (I.freeC x c e);exact⟨_,q,hd⟩
   . exact⟨o,keep c o (I.cne x c e) hc nch ho (I.freeC x c e),hd⟩
 refine⟨I.ok,I.os,hg,⟨λb o e n hb hx=>?_,λb o e n hb hx=>?_,λb o e n hx=>?_,λb o e hx=>?_,λb xs e=>tups b xs (I.base.tups b xs e),λb o xs e=>frzs b o xs (I.base.frzs b o xs e),λb ps e=>?_⟩,?_,λx c e=>?_,?_,λx c e=>?_,λp hp=>?_,hok,I.len⟩
 . exact keep b o (neL b o e) hb (neC b o e hx) (I.base.keep b o e n hb hx) (I.base.free b o e n hx)
 . obtain⟨sl,e1⟩:=I.base.slot b o e n hb hx;obtain⟨sl',e2⟩:=slot b _ (neL b o e) hb (neC b o e hx) e1 (I.base.free b o e n hx);exact⟨sl',e2⟩
 . obtain⟨o',e1⟩:=I.base.there b o e hx;exact free b o' (neC b o e hx) e1 (I.base.free b o e n hx)
 . obtain⟨o',e1⟩:=I.base.there b o e hx;exact there b o' (neC b o e hx) e1
 . obtain⟨m1,e1⟩:=I.base.tbls b ps e;obtain⟨m2,e2⟩:=tbls b _ e1;exact⟨m1++m2,by rw[e2,Array.append_assoc]⟩
 . obtain⟨m,hn,hl⟩:=I.loc;refine⟨m,ns m hn,λi x v e1 e2 e3=>?_⟩;obtain⟨u,r,l⟩:=hl i x v e1 e2 e3;refine⟨u,r,?_⟩;rcases l with l|⟨k,c,e,z⟩
   . exact .inl l
   . exact .inr ⟨k,c,e,cellK x c e _ z⟩
 . obtain⟨v,z⟩:=I.cell x c e;exact⟨v,cellK x c e v z⟩
 . obtain⟨m,⟨o,_,_,ho,_⟩,_⟩:=I.loc;exact free _ o (λz=>(hch _ z).2.1 rfl) ho I.free
 . obtain⟨v,o,ho,hd⟩:=I.cell x c e;exact free c o (λz=>(hch c z).2.2.1 x c e rfl) ho (I.freeC x c e)
 . obtain⟨e,n,ne,nf,d⟩:=I.pin p hp;have nch:p.1 ∉ ch:=λz=>(hch p.1 z).2.2.2 p hp rfl;exact⟨keep p.1 p.2 ne nf nch e n,free p.1 p.2 nch e n,ne,nf,d⟩
theorem Inv.un {t':Nat} (I:Inv X pins σ H s) (u:Un X.fs [] H H' s.heap h') (hok:HOk X.prog X.w H' h'):Inv X pins σ H' { s with heap:=h',toks:=t' }:=by
 obtain⟨m,⟨o,es,ep,ho,r⟩,_⟩:=id I.loc;obtain⟨sl,hL⟩:=u.any ho I.free (by simp);exact I.step (g':=s.gens) (d':=s.drawn) (ch:=[]) (λ_ z=>nomatch z) (λb o _ hb _ e n=>u.keep b o e n hb (by simp)) (λb o _ hb _ e n=>u.slot b o e n hb (by simp)) (λb o _ e n=>u.free b o e n (by simp)) (λb o _ e=>u.there b o e (by simp)) u.tups u.frzs u.tbls (λm' hm=>by obtain⟨o',es',ep',ho',r'⟩:=hm;rw[ho] at ho'; cases ho';exact⟨_,es',ep',hL,r'⟩) hok I.bare
theorem Inv.call {g':Array GenState} {t':Nat} {d':Drawn} {ch:List Addr} (I:Inv X pins σ H s) (u:Un (frs X.stack) ch H H' s.heap h') (hok:HOk X.prog X.w H' h') (hg:AllBare g')
   (hch:∀b∈ch,(b∈X.ex\/X.s₀.heap.objs.size<=b)/\b≠X.env.locals/\(∀x c,X.env.cells.lookup x=some c->c≠b)/\∀p∈X.pn++pins,p.1≠b) :
   Inv X pins σ H' { s with heap:=h',gens:=g',drawn:=d',toks:=t' }:=by
 obtain⟨m,⟨o,es,ep,ho,r⟩,_⟩:=id I.loc;obtain⟨sl,hL⟩:=u.any ho I.free λz=>(hch _ z).2.1 rfl;exact I.step (ch:=ch) hch (λb o hL hb hc e n=>u.keep b o e n (λz=>(List.mem_cons.mp (I.stkSub b z)).elim hL hb) hc) (λb o _ _ hc e n=>u.any e n hc) (λb o hc e n=>u.free b o e n hc) (λb o hc e=>u.there b o e hc) u.tups u.frzs u.tbls (λm' hm=>by obtain⟨o',es',ep',ho',r'⟩:=hm;rw[ho] at ho'; cases ho';exact⟨_,es',ep',hL,r'⟩) hok hg
theorem Inv.turned {t':Nat} {it:Addr} (I:Inv X pins σ H s) (k:∀b o,b≠it->s.heap.get? b=some o->h'.get? b=some o) (hn:H it=none) (hL:it≠X.env.locals)
   (h1:it∈X.ex\/X.s₀.heap.objs.size<=it) (h2:∀x c,X.env.cells.lookup x=some c->c≠it) (h3:∀p∈X.pn++pins,p.1≠it):Inv X pins σ H { s with heap:=h',toks:=t' }:=by
 have nit:∀b u,H b=some u->b≠it:=λb u e z=>by rw[z,hn] at e; cases e
 refine I.step (g':=s.gens) (d':=s.drawn) (ch:=[it]) (λb hb=>?_) (λb o _ _ hc e _=>k b o (λz=>hc (by simp [z])) e) (λb o _ _ hc e _=>⟨o.slots,k b o (λz=>hc (by simp [z])) e⟩) (λ_ _ _ _ n=>n)
   (λb o hc e=>⟨o,k b o (λz=>hc (by simp [z])) e⟩) (λ_ _ e=>e) (λ_ _ _ e=>e) (λb ps e=>⟨#[],by rw[e]; simp⟩) (λm hm=>?_) (λb u e=>?_) I.bare
 . have e:b=it:=by simpa using hb
   subst e;exact⟨h1,hL,h2,h3⟩
 . obtain⟨o,es,ep,ho,r⟩:=hm;exact⟨o,es,ep,k _ o (Ne.symm hL) ho,r⟩
 . refine(I.hok b u e).stay (λc v hc q=>k c v ?_ q) (λ_ q=>q) λ_ _ q=>q;rcases hc with z|z
   . rw[z]; exact nit b u e
   . exact nit c _ z
theorem Inv.tok (I:Inv X pins σ H s) (t:Nat):Inv X pins σ H { s with toks:=t }:=I.un (h':=s.heap) (t':=t) Un.refl I.hok
theorem Inv.kept {t':Nat} (I:Inv X pins σ H s) (k:∀b u,s.heap.get? b=some u->h'.get? b=some u):Inv X pins σ H { s with heap:=h',toks:=t' }:=I.un (Un.kept k) (I.hok.kept k)
theorem Inv.laid {a:Addr} {o:HO} {t':Nat} (I:Inv X pins σ H s) (k:∀b u,s.heap.get? b=some u->h'.get? b=some u) (hp:s.heap.objs.size<=a) (new:zdm X.prog X.w (upd H a o) h' a o) :
   Inv X pins σ (upd H a o) { s with heap:=h',toks:=t' }:=I.un (Un.laid k hp (I.hok.fresh hp)) (I.hok.laid k hp new)
theorem Inv.write {x e:Addr} {o:HO} {t':Nat} (I:Inv X pins σ H s) (mu:Mut (H x)) (he:e=x\/H e=some (.own x)) (k:∀b u,b≠e->s.heap.get? b=some u->h'.get? b=some u) (heo:∃u,h'.get? e=some u)
   (new:zdm X.prog X.w (upd H x o) h' x o):Inv X pins σ (upd H x o) { s with heap:=h',toks:=t' }:=I.un (Un.write mu he k heo) (I.hok.write mu he k heo new)
theorem Inv.weak {σ':List (Option V)} (I:Inv X pins σ H s) (hl:σ'.length=σ.length) (w:∀(i:Nat) v,σ'[i]?=some (some v)->σ[i]?=some (some v)):Inv X pins σ' H s :=
 ⟨I.ok,I.os,I.bare,I.base,let ⟨m,hn,hl'⟩:=I.loc; ⟨m,hn,λi x v e1 e2 e3=>hl' i x v e1 (w i v e2) e3⟩,I.cell,I.free,I.freeC,I.pin,I.hok,hl.trans I.len⟩
theorem Inv.pins_of {pins':List (Addr×Obj)} (I:Inv X pins σ H s) (h:∀p∈pins',s.heap.get? p.1=some p.2/\H p.1=none/\p.1≠X.env.locals/\p.1 ∉ X.fs/\∀v,p.2.data≠.cell v):Inv X pins' σ H s :=
 ⟨I.ok,I.os,I.bare,I.base,I.loc,I.cell,I.free,I.freeC,λp hp=>(List.mem_append.mp hp).elim (λz=>I.pin p (qa8 _ z)) (h p),I.hok,I.len⟩
theorem zpf {N:List Str} (hN:N.Nodup) {i j:Nat} {x:Str} (a:N[i]?=some x) (b:N[j]?=some x):i=j:=by obtain⟨h1,e1⟩:=List.getElem?_eq_some_iff.mp a;obtain⟨h2,e2⟩:=List.getElem?_eq_some_iff.mp b;exact(List.getElem_inj hN).mp (e1.trans e2.symm)
theorem zqf {M:Model} {A:Around} {E:Value->Shared->Prop} {i:Nat} {x:Str} {v:V} {u:Value} {Q:Unit->Shared->Prop} (I:Inv X pins σ H s) (hN:X.N.Nodup) (hi:X.N[i]?=some x) (hx:Loc X.env.scope x) (r:zc4 v u)
   (h:∀s',Inv X pins (σ.set i (some v)) H s'->(∃a,Heap.SameBut a s.heap s'.heap/\(a=X.env.locals\/X.env.cells.lookup x=some a))->Q () s') (hf:X.fn x=true\/X.env.scope.names.lookup x=some .local:=by first|exact .inl rfl|exact .inr rfl|assumption):wpAny M A (storeName X.env x u) Q E s:=by
 obtain⟨m,hn,hl⟩:=id I.loc;have hcls:(X.env.scope.kind==.class || (X.env.scope.kind==.module&&X.env.locals != X.env.globals))=false:=by rw[I.ok.kind]; rfl
 have hiσ:i<σ.length:=by rw[I.len]; exact(List.getElem?_eq_some_iff.mp hi).1
 have cne:=I.cne;have tracked:∀{a:Addr} {h':Heap},(∃o,s.heap.get? a=some o/\H a=none)->Heap.SameBut a s.heap h'->HOk X.prog X.w H h':=λ{a h'} ha hs b ob e=>by
   obtain⟨_,_,hfree⟩:=ha;refine(I.hok b ob e).stay (λc w' hc q=>(hs.2 c ?_).trans q) (λ_ q=>q) λ_ _ q=>q;rintro rfl;rcases hc with rfl|hc
   . rw[hfree] at e; cases e
   . rw[hfree] at hc; cases hc
 rcases hx with hk|hk
 . refine wpAny_storeName_local hk hn (λh' hn' hs=>?_) hcls;obtain⟨oL,_,_,hoL,_⟩:=id hn;refine h _ ⟨I.ok,I.os,I.bare,⟨λb o e n hb hx=>?_,λb o e n hb hx=>?_,I.base.free,λb o e hx=>?_,I.base.tups,I.base.frzs,I.base.tbls⟩,⟨_,hn',λj y v' e1 e2 e3=>?_⟩,λy c e=>?_,I.free,I.freeC,λp hp=>?_,tracked ⟨oL,hoL,I.free⟩ hs,by simpa using I.len⟩ ⟨_,hs,.inl rfl⟩
   . exact(hs.2 b (qa2 (Nat.lt_of_lt_of_le (Heap.lt_size e) I.ok.above))).trans (I.base.keep b o e n hb hx)
   . obtain⟨sl,e1⟩:=I.base.slot b o e n hb hx;exact⟨sl,(hs.2 b (qa2 (Nat.lt_of_lt_of_le (Heap.lt_size e) I.ok.above))).trans e1⟩
   . obtain⟨o',e1⟩:=I.base.there b o e hx;exact⟨o',(hs.2 b (qa2 (Nat.lt_of_lt_of_le (Heap.lt_size e) I.ok.above))).trans e1⟩
   . by_cases hj:j=i
     . subst hj;rw[hi] at e1; cases e1;rw[qcq hiσ] at e2;cases e2;exact⟨u,r,.inl ⟨hk,by simp⟩⟩
     . rw[qcl (Ne.symm hj)] at e2;obtain⟨u',r',q⟩:=hl j y v' e1 e2 e3;refine⟨u',r',?_⟩;rcases q with⟨k,e⟩|⟨k,c,e,z⟩
       . refine .inl ⟨k,?_⟩;have:y≠x:=λe=>hj (zpf hN e1 (e ▸ hi));simp [this,e]
       . exact .inr ⟨k,c,e,z.sameBut hs (cne y c e)⟩
   . obtain⟨w',z⟩:=I.cell y c e;exact⟨w',z.sameBut hs (cne y c e)⟩
   . obtain⟨e,n,ne,nf,d⟩:=I.pin p hp;exact⟨(hs.2 p.1 ne).trans e,n,ne,nf,d⟩
 . have hfn:X.fn x=true:=by
     rcases hf with z|z
     . exact z
     . rw[z] at hk; cases hk
   obtain⟨c,hc⟩:=I.ok.has x (.inl hk);obtain⟨w',z⟩:=I.cell x c hc;refine wpAny_storeName_cell I.ok.kind hk hc z (λh' hc' hs=>?_);obtain⟨oc,hoc,hocd⟩:=id z;refine h { s with heap:=h' } ⟨I.ok,I.os,I.bare,⟨λb o e n hb hx=>?_,λb o e n hb hx=>?_,I.base.free,λb o e hx=>?_,I.base.tups,I.base.frzs,I.base.tbls⟩,⟨m,hn.sameBut hs (Ne.symm (cne x c hc)),λj y v' e1 e2 e3=>?_⟩,λy c' e=>?_,I.free,I.freeC,λp hp=>?_,tracked ⟨oc,hoc,I.freeC x c hc⟩ hs,by simpa using I.len⟩ ⟨c,hs,.inr hc⟩
   . exact(hs.2 b (qa2 (Nat.lt_of_lt_of_le (Heap.lt_size e) (I.ok.cab x c hfn hc)))).trans (I.base.keep b o e n hb hx)
   . obtain⟨sl,e1⟩:=I.base.slot b o e n hb hx;exact⟨sl,(hs.2 b (qa2 (Nat.lt_of_lt_of_le (Heap.lt_size e) (I.ok.cab x c hfn hc)))).trans e1⟩
   . obtain⟨o',e1⟩:=I.base.there b o e hx;exact⟨o',(hs.2 b (qa2 (Nat.lt_of_lt_of_le (Heap.lt_size e) (I.ok.cab x c hfn hc)))).trans e1⟩
   . by_cases hj:j=i
     . subst hj;rw[hi] at e1; cases e1;rw[qcq hiσ] at e2;cases e2;exact⟨u,r,.inr ⟨.inl hk,c,hc,hc'⟩⟩
     . rw[qcl (Ne.symm hj)] at e2;obtain⟨u',r',q⟩:=hl j y v' e1 e2 e3;refine⟨u',r',?_⟩;rcases q with q|⟨k,c',e,z'⟩
       . exact .inl q
       . refine .inr ⟨k,c',e,z'.sameBut hs ?_⟩;rintro rfl;exact hj (zpf hN e1 (I.ok.inj _ _ _ e hc ▸ hi))
   . by_cases hcc:c'=c
     . subst hcc; exact⟨_,hc'⟩
     . obtain⟨w2,z2⟩:=I.cell y c' e;exact⟨w2,z2.sameBut hs hcc⟩
   . obtain⟨e,n,ne,nf,d⟩:=I.pin p hp;refine⟨(hs.2 p.1 ?_).trans e,n,ne,nf,d⟩;intro q;rw[q,hoc] at e;have q':oc=p.2:=Option.some.inj e;exact d w' (by rw[<- q']; exact hocd)
theorem zo4 {M:Model} {A:Around} {E:Value->Shared->Prop} {i:Nat} {x:Str} {v:V} {u:Value} {Q:Unit->Shared->Prop} (I:Inv X pins σ H s) (hN:X.N.Nodup) (hi:X.N[i]?=some x) (hx:Loc X.env.scope x) (r:zc4 v u)
   (h:∀s',Inv X pins (σ.set i (some v)) H s'->Q () s') (hf:X.fn x=true\/X.env.scope.names.lookup x=some .local:=by first|exact .inl rfl|exact .inr rfl|assumption):wpAny M A (storeName X.env x u) Q E s :=
 zqf I hN hi hx r (λs' I' _=>h s' I') hf
theorem Inv.call' {s':Shared} {ch:List Addr} (I:Inv X pins σ H s) (ho:s'.os=s.os) (u:Un (frs X.stack) ch H H' s.heap s'.heap) (hok:HOk X.prog X.w H' s'.heap) (hg:AllBare s'.gens)
   (hch:∀b∈ch,(b∈X.ex\/X.s₀.heap.objs.size<=b)/\b≠X.env.locals/\(∀x c,X.env.cells.lookup x=some c->c≠b)/\∀p∈X.pn++pins,p.1≠b):Inv X pins σ H' s':=by
 obtain⟨h',g',d',t',o'⟩:=s';have e:o'=s.os:=ho;subst e;exact I.call (g':=g') (t':=t') (d':=d') u hok hg hch
end
abbrev XK:=Value->Option Addr->Hp->Prop
abbrev St:=List (Option V)
abbrev VK:=V->Hp->Prop
abbrev TE:=St->Hp->VK->Prop
abbrev TT:=St->Hp->(Bool->Hp->Prop)->Prop
abbrev TA:=St->Hp->(List V->Hp->Prop)->Prop
structure zje where
 nx:St->Hp->Prop
 rt:VK
 bk:St->Hp->Prop:=λ_ _=>False
 ct:St->Hp->Prop:=λ_ _=>False
abbrev TS:=zje->St->Hp->Prop
def EP (X:Cx) (pins:List (Addr×Obj)) (σ:St) (Q:VK) (u:Value) (s':Shared):Prop:=∃v H',Inv X pins σ H' s'/\zc4 v u/\Q v H'
def TP (X:Cx) (pins:List (Addr×Obj)) (σ:St) (Q:Bool->Hp->Prop) (b:Bool) (s':Shared):Prop:=∃H',Inv X pins σ H' s'/\Q b H'
def AP (X:Cx) (pins:List (Addr×Obj)) (σ:St) (Q:List V->Hp->Prop) (us:List Value) (s':Shared):Prop:=∃vs H',Inv X pins σ H' s'/\zcq vs us/\Q vs H'
def SP (X:Cx) (pins:List (Addr×Obj)) (D:zje) (f:Flow) (s':Shared):Prop :=
 match f with
 | .next=>∃σ' H',Inv X pins σ' H' s'/\D.nx σ' H'
 | .brk=>∃σ' H',Inv X pins σ' H' s'/\D.bk σ' H'
 | .cont=>∃σ' H',Inv X pins σ' H' s'/\D.ct σ' H'
 | .ret u=>∃v σ' H',Inv X pins σ' H' s'/\zc4 v u/\D.rt v H'
def PE (X:Cx) (e:Expr) (t:TE):Prop :=
 ∀(pins:List (Addr×Obj)) (s:Shared) (σ:St) (H:Hp) (Q:VK),Inv X pins σ H s->t σ H Q->wpAny (model X.prog X.w) X.A (eval e X.env) (EP X pins σ Q) X.xe s
def PT (X:Cx) (e:Expr) (t:TT):Prop :=
 ∀(pins:List (Addr×Obj)) (s:Shared) (σ:St) (H:Hp) (Q:Bool->Hp->Prop),Inv X pins σ H s->t σ H Q->wpAny (model X.prog X.w) X.A (isTrue e X.env (eval e X.env)) (TP X pins σ Q) X.xe s
def PW (X:Cx) (e:Expr) (t:TT):Prop :=
 ∀(whole:Sem Value) (pins:List (Addr×Obj)) (s:Shared) (σ:St) (H:Hp) (Q:Bool->Hp->Prop),Inv X pins σ H s->t σ H Q->wpAny (model X.prog X.w) X.A (isTrue e X.env whole) (TP X pins σ Q) X.xe s
theorem PW.pt {X:Cx} {e:Expr} {t:TT} (h:PW X e t):PT X e t:=h _
def PA (X:Cx) (es:List Expr) (t:TA):Prop :=
 ∀(pos:Pos) (pins:List (Addr×Obj)) (s:Shared) (σ:St) (H:Hp) (Q:List V->Hp->Prop),Inv X pins σ H s->t σ H Q->wpAny (model X.prog X.w) X.A (spliced (backTo pos (starEach es X.env))) (AP X pins σ Q) X.xe s
def PS (X:Cx) (st:Stmt) (t:TS):Prop :=
 ∀(pins:List (Addr×Obj)) (s:Shared) (σ:St) (H:Hp) (D:zje),Inv X pins σ H s->t D σ H->wpAny (model X.prog X.w) X.A (exec st X.env) (SP X pins D) X.xe s
def PSs (X:Cx) (st:List Stmt) (t:TS):Prop :=
 ∀(pins:List (Addr×Obj)) (s:Shared) (σ:St) (H:Hp) (D:zje),Inv X pins σ H s->t D σ H->wpAny (model X.prog X.w) X.A (execs st X.env) (SP X pins D) X.xe s
theorem thn {α:Type} {t:Sem α} {Q Q':α->Shared->Prop} {M:Model} {A:Around} {E:Value->Shared->Prop} {s:Shared} (h:wpAny M A t Q E s) (hQ:∀a s,Q a s->Q' a s):wpAny M A t Q' E s:=wpAny_mono h hQ λ_ _ x=>x
section
variable {X:Cx}
def zz6 (i:Nat):TE:=λσ H Q=>∃v,σ[i]?=some (some v)/\Q v H
def tC (v:V):TE:=λ_ H Q=>Q v H
theorem z5c {i:Nat} {x:Str} {pos:Pos} (hN:X.N[i]?=some x) (hv:Vis X.env.scope x) (hd:(x==("__debug__":Str))=false:=by decide) (hcd:(x==("__classdict__":Str))=false:=by decide):PE X (.Name x pos) (zz6 i):=by
 intro pins s σ H Q I h;obtain⟨v,e,h⟩:=h;obtain⟨m,hn,hl⟩:=I.loc;obtain⟨u,r,l⟩:=hl i x v hN e hv;have fin:EP X pins σ Q u s:=⟨v,H,I,r,h⟩
 rcases l with⟨hk,hm⟩|⟨hk,c,hc,hcell⟩
 . exact wpAny_Name (wpAny_loadName_local I.ok.kind hk hn hm fin) hd
 . rcases hk with hk|hk
   . exact wpAny_Name (wpAny_loadName_cell I.ok.kind hk hc hcell fin) hd
   . exact wpAny_Name (wpAny_loadName_free I.ok.kind hk hc hcell fin hcd) hd
theorem zad {i j pos}:PE X (.Constant (.int i) j pos) (tC (.int i)):=λ_ _ _ H _ I h=>wpAny_Constant_int ⟨.int i,H,I.tok _,⟨_,rfl⟩,h⟩
theorem zh9 {b j pos}:PE X (.Constant (.bool b) j pos) (tC (.bl b)):=λ_ _ _ H _ I h=>Constant_bool ⟨.bl b,H,I,rfl,h⟩
theorem zi7 {j pos}:PE X (.Constant .none j pos) (tC .non):=λ_ _ _ H _ I h=>Constant_none ⟨.non,H,I,rfl,h⟩
theorem za5 {x j pos}:PE X (.Constant (.str x) j pos) (tC (.str x)):=λ_ _ _ H _ I h=>Calls.Constant_str ⟨.str x,H,I.tok _,⟨_,rfl⟩,h⟩
def Gl (X:Cx) (x:Str):Prop:=X.env.kindOf x=some .globalImplicit
theorem zmx {E:Value->Shared->Prop} {pins:List (Addr×Obj)} {s:Shared} {σ:St} {H:Hp} {x:Str} {u:Value} {pos:Pos} {Q:Value->Shared->Prop} (I:Inv X pins σ H s) (hg:Gl X x) (hm:X.mg x=some u) (h:Q u s)
   (hd:(x==("__debug__":Str))=false:=by decide):wpAny (model X.prog X.w) X.A (eval (.Name x pos) X.env) Q E s :=
 Calls.Name_function_global I.ok.kind hg (Calls.loadGlobal_global (by rw[I.ok.glob]; exact I.mod.glob.keeps I.bk) hm h) hd
theorem zlt {E:Value->Shared->Prop} {pins:List (Addr×Obj)} {s:Shared} {σ:St} {H:Hp} {x:Str} {u:Value} {pos:Pos} {Q:Value->Shared->Prop} (I:Inv X pins σ H s) (hg:Gl X x) (hm:X.mg x=none) (hv:bootBuiltins x=some u) (h:Q u s)
   (hn:x≠"__name__":=by decide) (hd:(x==("__debug__":Str))=false:=by decide):wpAny (model X.prog X.w) X.A (eval (.Name x pos) X.env) Q E s:=by
 obtain⟨mb,h1,h2⟩:=I.mod.blt;exact Calls.Name_function_global I.ok.kind hg (Calls.loadGlobal_builtin (by rw[I.ok.glob]; exact I.mod.glob.keeps I.bk) hm (by rw[I.ok.blt]; exact h1.keeps I.bk) ((h2 x hn).trans hv) h) hd
theorem zry {x:Str} {v:V} {u:Value} {pos:Pos} (hg:Gl X x) (hm:X.mg x=some u) (r:zc4 v u) (hd:(x==("__debug__":Str))=false:=by decide):PE X (.Name x pos) (tC v) :=
 λ_ _ _ H _ I h=>zmx I hg hm ⟨v,H,I,r,h⟩ hd
theorem zjl {x:Str} {v:V} {u:Value} {pos:Pos} (hg:Gl X x) (hm:X.mg x=none) (hv:bootBuiltins x=some u) (r:zc4 v u) (hn:x≠"__name__":=by decide) (hd:(x==("__debug__":Str))=false:=by decide):PE X (.Name x pos) (tC v) :=
 λ_ _ _ H _ I h=>zlt I hg hm hv ⟨v,H,I,r,h⟩ hn hd
variable {a b:Expr} {ta tb:TE} {pos:Pos}
def PC (X:Cx) (op:CmpOp) (a b:Expr) (t:TE):Prop :=
 ∀(pins:List (Addr×Obj)) (s:Shared) (σ:St) (H:Hp) (Q:VK),Inv X pins σ H s->t σ H Q ->
   wpAny (model X.prog X.w) X.A (eval a X.env) (λv s₁=>wpAny (model X.prog X.w) X.A (eval b X.env) (λu s₂=>wpAny (model X.prog X.w) X.A (compareOp op v u) (EP X pins σ Q) X.xe s₂) X.xe s₁) X.xe s
theorem zzs (b:Expr) {op:CmpOp} (h:op≠.In) (h2:op≠.NotIn):behindInMarks op b=false:=by
 have e1:(op==CmpOp.In)=false:=by cases op <;> first|rfl|exact absurd rfl h
 have e2:(op==CmpOp.NotIn)=false:=by cases op <;> first|rfl|exact absurd rfl h2
 cases b <;> simp [behindInMarks,e1,e2]
def tIsN (ta:TE):TE:=λσ H Q=>ta σ H λx H1=>Q (.bl (decide (x=.non))) H1
def z5x (ta:TE):TE:=λσ H Q=>ta σ H λx H1=>Q (.bl (!decide (x=.non))) H1
theorem zc4.none_iff {x:V} {v:Value} (r:zc4 x v):(v==Value.none)=decide (x=.non):=by
 cases x with
 | non=>cases r; rfl
 | bl _=>cases r; rfl
 | int _=>obtain⟨t,rfl⟩:=r; rfl
 | str _=>obtain⟨t,rfl⟩:=r; rfl
 | byt _=>obtain⟨t,rfl⟩:=r; rfl
 | flt _=>obtain⟨t,rfl⟩:=r; rfl
 | ref _=>cases r; rfl
 | ty _=>cases r; rfl
theorem z3a {j pos'} (ha:PE X a ta):PC X .Is a (.Constant .none j pos') (tIsN ta):=by intro pins s σ H Q I h;refine thn (ha pins s σ H _ I h) λv s1 ⟨x,H1,I1,r1,q1⟩=>?_;exact Constant_none (is_none_gen ⟨.bl _,H1,I1,by rw[r1.none_iff]; rfl,q1⟩)
theorem z1d {j pos'} (ha:PE X a ta):PC X .IsNot a (.Constant .none j pos') (z5x ta):=by intro pins s σ H Q I h;refine thn (ha pins s σ H _ I h) λv s1 ⟨x,H1,I1,r1,q1⟩=>?_;exact Constant_none (isnot_none_gen ⟨.bl _,H1,I1,by rw[r1.none_iff]; rfl,q1⟩)
def tB (t:TE):TT:=λσ H Q=>t σ H λx H1=>∃c,x=.bl c/\Q c H1
theorem zti {op:CmpOp} {t:TE} (h:PC X op a b t) (h1:behindInMarks op b=false:=by first|exact zzs _ (by decide) (by decide)|rfl):PT X (.Compare a [op] [b] pos) (tB t):=by intro pins s σ H Q I hw;refine wpAny_isTrue_Compare1 (thn (h pins s σ H _ I hw) λv s1 h1=>thn h1 λu s2 h2=>thn h2 λc s3 ⟨x,H1,I1,r1,q1⟩=>?_) h1;obtain⟨d,rfl,q⟩:=q1;cases r1;exact wpAny_truthy_bool ⟨H1,I1,q⟩
theorem zjb {e:Expr} {t:TE} (h:PE X e t) (he:∀whole,isTrue e X.env whole=(do let v <- whole; standAt e.pos; holding [v] (truthy v)):=by intro _; rfl):PT X e (tB t):=by intro pins s σ H Q I hw;refine isTrue_plain (thn (h pins s σ H _ I hw) λv s1 ⟨x,H1,I1,r1,q1⟩=>?_) (he _);obtain⟨d,rfl,q⟩:=q1;cases r1;exact wpAny_truthy_bool ⟨H1,I1,q⟩
variable {tA tB':TT} {rest:List Expr}
def tAnd (t u:TT):TT:=λσ H Q=>t σ H λc H1=>if c=true then u σ H1 Q else Q false H1
def tOr (t u:TT):TT:=λσ H Q=>t σ H λc H1=>if c=true then Q true H1 else u σ H1 Q
def tNot (t:TT):TT:=λσ H Q=>t σ H λc H1=>Q (!c) H1
theorem z2c (ha:PT X a tA):PW X (.BoolOp .And [a] pos) tA:=by
 intro wh pins s σ H Q I h;refine isTrue_and (thn (ha pins s σ H Q I h) λc s1 e=>?_);cases c with
 | true=>exact isTrue_and_nil e
 | false=>exact e
theorem ztd (ha:PT X a tA):PW X (.BoolOp .Or [a] pos) tA:=by
 intro wh pins s σ H Q I h;refine isTrue_or (thn (ha pins s σ H Q I h) λc s1 e=>?_);cases c with
 | false=>exact isTrue_or_nil e
 | true=>exact e
theorem z33 (ha:PT X a tA) (hb:PW X (.BoolOp .And (b :: rest) pos) tB'):PW X (.BoolOp .And (a :: b :: rest) pos) (tAnd tA tB'):=by
 intro wh pins s σ H Q I h;refine isTrue_and (thn (ha pins s σ H _ I h) λc s1 ⟨H1,I1,q1⟩=>?_);cases c with
 | true=>exact hb wh pins s1 σ H1 Q I1 q1
 | false=>exact⟨H1,I1,q1⟩
theorem zrn (ha:PT X a tA) (hb:PW X (.BoolOp .Or (b :: rest) pos) tB'):PW X (.BoolOp .Or (a :: b :: rest) pos) (tOr tA tB'):=by
 intro wh pins s σ H Q I h;refine isTrue_or (thn (ha pins s σ H _ I h) λc s1 ⟨H1,I1,q1⟩=>?_);cases c with
 | true=>exact⟨H1,I1,q1⟩
 | false=>exact hb wh pins s1 σ H1 Q I1 q1
theorem ztb (ha:PT X a tA):PT X (.UnaryOp .Not a pos) (tNot tA):=by intro pins s σ H Q I h;exact isTrue_not (ha pins s σ H (λc H1=>Q (!c) H1) I h)
def z28 (ta tb:TE):TE:=λσ H Q=>ta σ H λx H1=>∃c,x=.bl c/\if c=true then tb σ H1 Q else Q (.bl false) H1
theorem z47 {op} {t:TE} (h:PE X a t):PE X (.BoolOp op [a] pos) t:=λpins s σ H Q I hw=>BoolOp_one (h pins s σ H Q I hw)
theorem z3m (ha:PE X a ta) (hb:PE X (.BoolOp .And (b :: rest) pos) tb):PE X (.BoolOp .And (a :: b :: rest) pos) (z28 ta tb):=by
 intro pins s σ H Q I h;refine BoolOp_and (thn (ha pins s σ H _ I h) λv s1 ⟨x,H1,I1,r1,q1⟩=>?_);obtain⟨c,rfl,q1⟩:=q1;cases r1;refine wpAny_truthy_bool ?_;cases c with
 | true=>exact hb pins s1 σ H1 Q I1 q1
 | false=>exact⟨.bl false,H1,I1,rfl,q1⟩
def tIf (t:TT) (ta tb:TE):TE:=λσ H Q=>t σ H λc H1=>if c=true then ta σ H1 Q else tb σ H1 Q
theorem ziu {c:Expr} (hc:PT X c tA) (ha:PE X a ta) (hb:PE X b tb):PE X (.IfExp c a b pos) (tIf tA ta tb):=by
 intro pins s σ H Q I h;refine wpAny_IfExp (thn (hc pins s σ H _ I h) λd s1 ⟨H1,I1,q1⟩=>?_);cases d with
 | true=>exact ha pins s1 σ H1 Q I1 q1
 | false=>exact hb pins s1 σ H1 Q I1 q1
end
def SqL (K:W.Frag) (H:Hp) (a:Addr) (xs:List V):Prop :=
 Rd H a (.lst xs) \/
   ∃(o:Obj) (its:Array Value) (n:Nat),K.lookup a=some o/\o.cls=.type "list"/\o.dict=none/\o.data=.seq its n/\its.size<=sizeLine/\zcq xs its.toList
def SqT (K:W.Frag) (H:Hp) (a:Addr) (xs:List V):Prop :=
 Rd H a (.tup xs) \/
   ∃(o:Obj) (its:Array Value) (n:Nat),K.lookup a=some o/\o.cls=.type "tuple"/\o.data=.seq its n/\its.size<=sizeLine/\zcq xs its.toList
def absV:Value->Option V
 | .none=>some .non
 | .bool b=>some (.bl b)
 | .int i _=>some (.int i)
 | .str x _=>some (.str x)
 | .bytes b _=>some (.byt b)
 | .float b _=>some (.flt b)
 | .ref a=>some (.ref a)
 | .type n=>some (.ty n)
 | _=>none
theorem zc4.abs {x:V} {u:Value} (r:zc4 x u):absV u=some x:=by
 cases x with
 | non=>cases r; rfl
 | bl _=>cases r; rfl
 | int _=>obtain⟨t,rfl⟩:=r; rfl
 | str _=>obtain⟨t,rfl⟩:=r; rfl
 | byt _=>obtain⟨t,rfl⟩:=r; rfl
 | flt _=>obtain⟨t,rfl⟩:=r; rfl
 | ref _=>cases r; rfl
 | ty _=>cases r; rfl
theorem zc4.inj {x y:V} {u:Value} (r:zc4 x u) (q:zc4 y u):x=y:=Option.some.inj (r.abs.symm.trans q.abs)
theorem zcq.inj:∀{xs ys:List V} {us:List Value},zcq xs us->zcq ys us->xs=ys
 | _,_,_,.nil,.nil=>rfl
 | _,_,_,.cons r t,.cons r' t'=>by rw[r.inj r',zcq.inj t t']
section
variable {X:Cx} {pins:List (Addr×Obj)} {σ:St} {H:Hp} {s:Shared} {a:Addr} {xs ys:List V}
theorem SqL.of {K:W.Frag} (h:H a=some (.lst xs)):SqL K H a xs:=.inl (.inl h)
theorem SqT.of {K:W.Frag} (h:H a=some (.tup xs)):SqT K H a xs:=.inl (.inl h)
theorem Inv.list (I:Inv X pins σ H s) (h:SqL X.K H a xs):∃its:List Value,zcq xs its/\PlainL s.heap a its.toArray/\xs.length<=sizeLine:=by
 rcases h with h|⟨o,its,n,hk,hc,hd,hs,hz,r⟩
 . obtain⟨z,its,n,r,e⟩:=h.ok I.hok;exact⟨its,r,⟨_,n,e,rfl,rfl,rfl⟩,z⟩
 . refine⟨its.toList,r,⟨o,n,I.kIn a o hk,hc,hd,by simpa using hs⟩,?_⟩;have e:=r.length;simp only[qdf] at e;omega
theorem Inv.tuple (I:Inv X pins σ H s) (h:SqT X.K H a xs):∃its:List Value,zcq xs its/\IsTup s.heap a its.toArray/\xs.length<=sizeLine:=by
 rcases h with h|⟨o,its,n,hk,hc,hs,hz,r⟩
 . obtain⟨z,its,r,p⟩:=h.ok I.hok;exact⟨its,r,p,z⟩
 . refine⟨its.toList,r,⟨o,I.kIn a o hk,hc,n,by simpa using hs⟩,?_⟩;have e:=r.length;simp only[qdf] at e;omega
theorem Inv.list_inj (I:Inv X pins σ H s) (h:SqL X.K H a xs) (h':SqL X.K H a ys):xs=ys:=by
 obtain⟨its,r,⟨o,n,e,_,_,d⟩,_⟩:=I.list h;obtain⟨its',r',⟨o',n',e',_,_,d'⟩,_⟩:=I.list h';rw[e] at e'; cases e';rw[d] at d';injection d' with d1 _
 have:its=its':=by simpa using congrArg Array.toList d1
 subst this;exact r.inj r'
theorem Inv.tuple_inj (I:Inv X pins σ H s) (h:SqT X.K H a xs) (h':SqT X.K H a ys):xs=ys:=by
 obtain⟨its,r,⟨o,e,_,n,d⟩,_⟩:=I.tuple h;obtain⟨its',r',⟨o',e',_,n',d'⟩,_⟩:=I.tuple h';rw[e] at e'; cases e';rw[d] at d';injection d' with d1 _
 have:its=its':=by simpa using congrArg Array.toList d1
 subst this;exact r.inj r'
end
abbrev Cx.wish (X:Cx) (E:Value->Shared->Prop):Cx:={ X with xe:=E }
abbrev Cx.nox (X:Cx):Cx:=X.wish λ_ _=>False
theorem Cx.Ok.wish {X:Cx} (ok:X.Ok) (E:Value->Shared->Prop):(X.wish E).Ok :=
 ⟨ok.mod,ok.kind,ok.glob,ok.blt,ok.above,ok.inj,ok.has,ok.cab,ok.hd,ok.frames,ok.stk,ok.exf,ok.bs,ok.bsz,ok.noex,ok.exfs,ok.funs,ok.frf⟩
theorem Cx.Ok.unwish {X:Cx} {E:Value->Shared->Prop} (ok:(X.wish E).Ok):X.Ok :=
 ⟨ok.mod,ok.kind,ok.glob,ok.blt,ok.above,ok.inj,ok.has,ok.cab,ok.hd,ok.frames,ok.stk,ok.exf,ok.bs,ok.bsz,ok.noex,ok.exfs,ok.funs,ok.frf⟩
section
variable {X:Cx} {pins:List (Addr×Obj)} {σ:St} {H:Hp} {s:Shared} {E:Value->Shared->Prop}
theorem Inv.wish (I:Inv X pins σ H s) (E:Value->Shared->Prop):Inv (X.wish E) pins σ H s:=⟨I.ok.wish E,I.os,I.bare,I.base,I.loc,I.cell,I.free,I.freeC,I.pin,I.hok,I.len⟩
theorem Inv.unwish (I:Inv (X.wish E) pins σ H s):Inv X pins σ H s:=⟨I.ok.unwish,I.os,I.bare,I.base,I.loc,I.cell,I.free,I.freeC,I.pin,I.hok,I.len⟩
theorem SP.unwish {D:zje} {f:Flow} {s':Shared} (h:SP (X.wish E) pins D f s'):SP X pins D f s':=by
 cases f with
 | next=>obtain⟨σ',H',I,q⟩:=h; exact⟨σ',H',I.unwish,q⟩
 | brk=>obtain⟨σ',H',I,q⟩:=h; exact⟨σ',H',I.unwish,q⟩
 | cont=>obtain⟨σ',H',I,q⟩:=h; exact⟨σ',H',I.unwish,q⟩
 | ret u=>obtain⟨v,σ',H',I,r,q⟩:=h; exact⟨v,σ',H',I.unwish,r,q⟩
theorem PSs.nox {st:List Stmt} {t:TS} (h:PSs X.nox st t):PSs X st t:=λpins s σ H D I hw =>
 wpAny_mono (h pins s σ H D (I.wish _) hw) (λ_ _ q=>q.unwish) λ_ _ z=>False.elim z
end
section
variable {X:Cx} {st:Stmt} {rest:List Stmt} {t u:TS} {e:Expr} {te:TE} {pos:Pos}
def z5q:TS:=λD σ H=>D.nx σ H
def tSeq (t u:TS):TS:=λD σ H=>t { D with nx:=u D } σ H
theorem zas:PSs X [] z5q:=λ_ _ σ H _ I h=>wpAny_execs_nil ⟨σ,H,I,h⟩
theorem zab (h1:PS X st t) (h2:PSs X rest u):PSs X (st :: rest) (tSeq t u):=by
 intro pins s σ H D I h;refine wpAny_execs_cons (thn (h1 pins s σ H { D with nx:=u D } I h) λf s1 q=>?_);cases f with
 | next =>
   obtain⟨σ',H',I',q⟩:=q;exact h2 pins s1 σ' H' D I' q
 | ret v=>exact q
 | brk=>exact q
 | cont=>exact q
theorem zah (h1:PS X st t):PSs X [st] t:=by
 intro pins s σ H D I h;refine wpAny_execs_cons (thn (h1 pins s σ H D I h) λf s1 q=>?_);cases f with
 | next=>exact wpAny_execs_nil q
 | ret v=>exact q
 | brk=>exact q
 | cont=>exact q
def z38:TS:=λD σ H=>D.bk σ H
theorem zy7:PS X (.Break pos) z38:=λ_ _ σ H _ I h=>wpAny_Break ⟨σ,H,I,h⟩
theorem Inv.quiet {pins:List (Addr×Obj)} {σ:St} {H:Hp} {s:Shared} (I:Inv X pins σ H s):interactive X.env=false:=by simp [interactive,I.ok.kind]
def z5k (te:TE):TS:=λD σ H=>te σ H λ_ H1=>D.nx σ H1
theorem zbl (he:PE X e te) (hs:swapsWith e none pos.line X.env=pure false:=by rfl):PS X (.Expr e pos) (z5k te):=by intro pins s σ H D I h;exact wpAny_Expr_any (thn (he pins s σ H _ I h) λv s1 ⟨x,H1,I1,r1,q1⟩=>⟨σ,H1,I1,q1⟩) I.quiet hs
def tRet (te:TE):TS:=λD σ H=>te σ H D.rt
theorem zau (he:PE X e te):PS X (.Return (some e) pos) (tRet te):=by intro pins s σ H D I h;exact wpAny_Return_some (thn (he pins s σ H _ I h) λv s1 ⟨x,H1,I1,r1,q1⟩=>⟨x,σ,H1,I1,r1,q1⟩)
def z52:TS:=λD _ H=>D.rt .non H
theorem zvn:PS X (.Return none pos) z52:=λ_ _ σ H _ I h=>wpAny_Return_none ⟨.non,σ,H,I,rfl,h⟩
def tIfS (c:TT) (t u:TS):TS:=λD σ H=>c σ H λb H1=>if b=true then t D σ H1 else u D σ H1
theorem zbq {c:Expr} {a b:List Stmt} {tc:TT} (hc:PT X c tc) (ha:PSs X a t) (hb:PSs X b u):PS X (.If c a b pos) (tIfS tc t u):=by
 intro pins s σ H D I h;refine wpAny_If (thn (hc pins s σ H _ I h) λd s1 ⟨H1,I1,q1⟩=>?_);cases d with
 | true=>exact ha pins s1 σ H1 D I1 q1
 | false=>exact hb pins s1 σ H1 D I1 q1
def z29:TS:=λ_ _ _=>False
theorem zx8:PS X st z29:=λ_ _ _ _ _ _ h=>h.elim
end
abbrev TG:=V->St->Hp->(St->Hp->Prop)->Prop
abbrev TGs:=List V->St->Hp->(St->Hp->Prop)->Prop
def PG (X:Cx) (target:Expr) (t:TG):Prop :=
 ∀(pins:List (Addr×Obj)) (s:Shared) (σ:St) (H:Hp) (v:V) (u:Value) (Q:St->Hp->Prop),Inv X pins σ H s->zc4 v u->t v σ H Q ->
   wpAny (model X.prog X.w) X.A (assign target X.env u) (λ_ s'=>∃σ' H',Inv X pins σ' H' s'/\Q σ' H') X.xe s
def PGs (X:Cx) (ts:List Expr) (t:TGs):Prop :=
 ∀(pins:List (Addr×Obj)) (s:Shared) (σ:St) (H:Hp) (vs:List V) (us:List Value) (Q:St->Hp->Prop),Inv X pins σ H s->zcq vs us->t vs σ H Q ->
   wpAny (model X.prog X.w) X.A (assignInOrder ((assignEach ts X.env).map (·.2)) us) (λ_ s'=>∃σ' H',Inv X pins σ' H' s'/\Q σ' H') X.xe s
abbrev z6g:=V->V->V->Hp->(Hp->Prop)->Prop
def PSet (X:Cx) (t:z6g):Prop :=
 ∀(pins:List (Addr×Obj)) (s:Shared) (σ:St) (H:Hp) (o i v:V) (ov iv u:Value) (Q:Hp->Prop),Inv X pins σ H s->zc4 o ov->zc4 i iv->zc4 v u->t o i v H Q ->
   wpAny (model X.prog X.w) X.A (setItem ov iv u) (λ_ s'=>∃H',Inv X pins σ H' s'/\Q H') X.xe s
section
variable {X:Cx} {pos:Pos}
def zxb (i:Nat):TG:=λv σ H Q=>Q (σ.set i (some v)) H
theorem za0 {i:Nat} {x:Str} (hN:X.N.Nodup) (hi:X.N[i]?=some x) (hx:Loc X.env.scope x) (hf:X.fn x=true\/X.env.scope.names.lookup x=some .local:=by first|exact .inl rfl|exact .inr rfl|assumption):PG X (.Name x pos) (zxb i):=by intro pins s σ H v u Q I r h;exact wpAny_assign_Name (zo4 I hN hi hx r (λs' I'=>⟨_,H,I',h⟩) hf)
def gNil:TGs:=λvs σ H Q=>vs=[]/\Q σ H
def z6f (t:TG) (u:TGs):TGs:=λvs σ H Q=>∃v r,vs=v :: r/\t v σ H λσ' H'=>u r σ' H' Q
theorem zie:PGs X [] gNil:=by intro pins s σ H vs us Q I r h;obtain⟨e,h⟩:=h;subst e;cases r;exact assignInOrder_nil ⟨σ,H,I,h⟩
theorem zcp {e:Expr} {es:List Expr} {t:TG} {u:TGs} (h1:PG X e t) (h2:PGs X es u)
   (hs:(assignEach (e :: es) X.env).map (·.2)=assign e X.env :: (assignEach es X.env).map (·.2):=by rfl):PGs X (e :: es) (z6f t u):=by
 intro pins s σ H vs us Q I r h;obtain⟨v,vr,e1,h⟩:=h;subst e1;cases r with
 | cons r rr =>
   rw[hs];refine assignInOrder_cons (thn (h1 pins s σ H _ _ _ I r h) λ_ s1 ⟨σ1,H1,I1,q1⟩=>?_);exact h2 pins s1 σ1 H1 _ _ Q I1 rr q1
def gTup (K:W.Frag) (n:Nat) (t:TGs):TG:=λv σ H Q=>∃a xs,v=.ref a/\SqT K H a xs/\xs.length=n/\t xs σ H Q
theorem zmj {es:List Expr} {k:Nat} {t:TGs} {n:Nat} (hc:X.calm=true) (h:PGs X es t)
   (hn:(assignEach es X.env).length=n:=by rfl) (hst:(assignEach es X.env).findIdx? (·.1)=none:=by rfl):PG X (.Tuple es k pos) (gTup X.K n t):=by
 intro pins s σ H v u Q I r hw;obtain⟨a,xs,e1,hq,hl,hw⟩:=hw;subst e1;cases r;obtain⟨its,rv,ht,hz⟩:=I.tuple hq;refine assign_Tuple_tuple (I.ok.hd hc) ht (by simp [hn,<- hl,rv.length]) hst λh' hx=>?_;have I1:Inv X pins σ H { s with heap:=h' }:=I.kept (t':=s.toks) λb o e=>hx b o (qa2 (Heap.lt_size e)) e;exact h pins _ σ H xs _ Q I1 (by simpa using rv) hw
def gSub (to ti:TE) (t:z6g):TG:=λv σ H Q=>to σ H λo H1=>ti σ H1 λi H2=>t o i v H2 λH3=>Q σ H3
theorem zmu {o i:Expr} {to ti:TE} {t:z6g} (ho:PE X o to) (hi:PE X i ti) (hs:PSet X t)
   (ha:∀v,assign (.Subscript o i pos) X.env v=(do
     let ov <- holding [v] (eval o X.env)
     let iv <- holding [v,ov] (eval i X.env)
     standAt pos
     holding [v,ov,iv] (setItem ov iv v)
     release [v,ov,iv] []):=by intro _; rfl):PG X (.Subscript o i pos) (gSub to ti t):=by
 intro pins s σ H v u Q I r h;rw[ha];refine wpAny_bind (wpAny_holding (thn (ho pins s σ H _ I h) λov s1 ⟨x,H1,I1,r1,q1⟩=>?_));refine wpAny_bind (wpAny_holding (thn (hi pins s1 σ H1 _ I1 q1) λiv s2 ⟨y,H2,I2,r2,q2⟩=>?_));refine wpAny_bind (wpAny_standAt (wpAny_bind (wpAny_holding (thn (hs pins s2 σ H2 x y v ov iv u _ I2 r1 r2 r q2) λ_ s3 ⟨H3,I3,q3⟩=>?_))));exact wpAny_release ⟨σ,H3,I3,q3⟩
def z58 (te:TE) (g:TG):TS:=λD σ H=>te σ H λx H1=>g x σ H1 D.nx
theorem zlk {tg e:Expr} {te:TE} {g:TG} (he:PE X e te) (hg:PG X tg g) (hs:swapsWithSole [tg] e pos.line X.env=pure false:=by rfl) (hw:swappedStores [tg] e X.env=pure none:=by rfl)
   (h1:(assignEach [tg] X.env).map (·.2)=[assign tg X.env]:=by rfl):PS X (.Assign [tg] e pos) (z58 te g):=by
 intro pins s σ H D I h;refine wpAny_Assign_stores (thn (he pins s σ H _ I h) λv s1 ⟨x,H1,I1,r1,q1⟩=>?_) hs hw;rw[h1];exact thn (hg pins s1 σ H1 x v _ I1 r1 q1) λ_ s2 q=>q
theorem zax {i:Nat} {x:Str} {e:Expr} {te:TE} {pos':Pos} (hN:X.N.Nodup) (hi:X.N[i]?=some x) (hx:Loc X.env.scope x) (he:PE X e te) (hs:swapsWith e (some (.Name x pos')) pos.line X.env=pure false:=by rfl) (hf:X.fn x=true\/X.env.scope.names.lookup x=some .local:=by first|exact .inl rfl|exact .inr rfl|assumption) :
   PS X (.Assign [.Name x pos'] e pos) (z58 te (zxb i)):=by
 intro pins s σ H D I h;refine wpAny_Assign_Name (thn (he pins s σ H _ I h) λv s1 ⟨y,H1,I1,r1,q1⟩=>?_) hs;exact zo4 I1 hN hi hx r1 (λs2 I2=>⟨_,H1,I2,q1⟩) hf
end
structure It where
 go:Nat->Hp->Prop
 yld:Nat->Hp->V->Hp->Prop
 stop:Nat->Hp->Prop
def zwj (X:Cx) (pins:List (Addr×Obj)) (H:Hp) (b:Addr):Prop :=
 H b=none/\b≠X.env.locals/\b ∉ X.fs/\(b∈X.ex\/X.s₀.heap.objs.size<=b)/\(∀x c,X.env.cells.lookup x=some c->c≠b)/\∀p∈X.pn++pins,p.1≠b
theorem Inv.fpOk {X:Cx} {pins:List (Addr×Obj)} {σ:St} {H H':Hp} {s:Shared} {b:Addr} (I:Inv X pins σ H s) (hb:s.heap.objs.size<=b) (hn:H' b=none):zwj X pins H' b:=by
 refine⟨hn,qcc (Nat.lt_of_lt_of_le I.lt hb),I.nofs hb,.inr (Nat.le_trans I.sz hb),λx c e z=>?_,λp hp z=>?_⟩
 . obtain⟨v,q⟩:=I.cell x c e;exact absurd (Nat.lt_of_lt_of_le q.lt (by rw[z]; exact hb)) (qbd _)
 . exact absurd (Nat.lt_of_lt_of_le (Heap.lt_size (I.pin p hp).1) (by rw[z]; exact hb)) (qbd _)
structure Turn (P:Program) (w:World) (K:W.Frag) (tg:Expr) (J:It) (fp:List Addr) (it:Addr) (tn:Nat->Heap->Prop):Prop where
 mem:it∈fp
 obj:∀i h,tn i h->∀b∈fp,∃o,h.get? b=some o/\∀v,o.data≠.cell v
 keep:∀i h h',tn i h->(∀b∈fp,∀o,h.get? b=some o->h'.get? b=some o)->tn i h'
 item:∀(X:Cx),X.prog=P->X.w=w->X.K=K->X.calm=true->∀(i:Nat) (pins:List (Addr×Obj)) (s:Shared) (σ:St) (H:Hp) (E:Value->Shared->Prop),Inv X pins σ H s->(∀b∈fp,zwj X pins H b)->tn i s.heap->J.go i H ->
   wpAny (model P w) X.A (pyNext (.ref it)) (λr s1=>∃u,r=some u /\
     wpAny (model P w) X.A (letOwnedTupleGo tg (.ref it) u) (λ_ s2=>∃x H',Inv X pins σ H' s2/\zc4 x u/\J.yld i H x H'/\tn (i+1) s2.heap/\∀b∈fp,H' b=none) E s1) E s
 done:∀(X:Cx),X.prog=P->X.w=w->X.K=K->X.calm=true->∀(i:Nat) (pins:List (Addr×Obj)) (s:Shared) (σ:St) (H:Hp) (E:Value->Shared->Prop),Inv X pins σ H s->(∀b∈fp,zwj X pins H b)->tn i s.heap->J.stop i H ->
   wpAny (model P w) X.A (pyNext (.ref it)) (λr s1=>r=none/\Inv X pins σ H s1) E s
 self:∀(A:Around) (i:Nat) (s:Shared) (Q:Value->Shared->Prop) (E:Value->Shared->Prop),tn i s.heap->Q (.ref it) s->wpAny (model P w) A (pyIter (.ref it)) Q E s
abbrev TI:=St->Hp->(It->Hp->Prop)->Prop
def PIE (X:Cx) (pins:List (Addr×Obj)) (σ:St) (tg:Expr) (R:It->Hp->Prop) (itv:Value) (s2:Shared):Prop :=
 ∃(it:Addr) (fp:List Addr) (tn:Nat->Heap->Prop) (J:It) (H':Hp),itv=.ref it/\Inv X pins σ H' s2/\Turn X.prog X.w X.K tg J fp it tn/\tn 0 s2.heap/\(∀b∈fp,zwj X pins H' b)/\R J H'
def PI (X:Cx) (tg iter:Expr) (wi:TI):Prop :=
 ∀(pins:List (Addr×Obj)) (s:Shared) (σ:St) (H:Hp) (R:It->Hp->Prop),Inv X pins σ H s->wi σ H R ->
   wpAny (model X.prog X.w) X.A (eval iter X.env) (λv s1=>wpAny (model X.prog X.w) X.A (pyIter v) (PIE X pins σ tg R) X.xe s1) X.xe s
theorem zyk {M:Model} {A:Around} {E:Value->Shared->Prop} {s:Shared} {tg:Expr} {it:Addr} {u:Value} {o:Obj} {n:String} {vs:Array Value} {Q:Unit->Shared->Prop} (ho:s.heap.get? it=some o) (hc:o.cls=.type n) (hd:o.data=.fields vs)
   (hn:["enumerate","zip","dict_itemiterator","dict_reverseitemiterator","odict_iterator","itertools.zip_longest","itertools.pairwise"].contains n=false) (hQ:Q () s):wpAny M A (letOwnedTupleGo tg (.ref it) u) Q E s:=by
 unfold letOwnedTupleGo;cases tg <;> first
   | exact wpAny_pure hQ
   | (cases u <;> first
       | exact wpAny_pure hQ
       | (refine wpAny_bind (wpAny_load ho ?_)
          rw[hc,hd];show wpAny M A (if(["enumerate","zip","dict_itemiterator","dict_reverseitemiterator","odict_iterator","itertools.zip_longest","itertools.pairwise"].contains n&&vs[0]?==some (rawInt _))=true then _ else _) Q E s;rw[if_neg (by intro h; rw[hn,Bool.false_and] at h; cases h)];exact wpAny_pure hQ))
def Itl (K:W.Frag) (a:Addr):It :=
 ⟨λi H=>∃xs x,SqL K H a xs/\xs[i]?=some x,λi H x H'=>H'=H/\∀xs,SqL K H a xs->xs[i]?=some x,λi H=>∃xs,SqL K H a xs/\xs.length<=i⟩
def Itt (K:W.Frag) (a:Addr):It :=
 ⟨λi H=>∃xs x,SqT K H a xs/\xs[i]?=some x,λi H x H'=>H'=H/\∀xs,SqT K H a xs->xs[i]?=some x,λi H=>∃xs,SqT K H a xs/\xs.length<=i⟩
def Itr (lo:Int) (n:Nat):It:=⟨λi _=>i<n,λi H x H'=>H'=H/\x=.int (lo+i),λi _=>n<=i⟩
theorem zw8 {P:Program} {w:World} {K:W.Frag} {tg:Expr} (a it:Addr):Turn P w K tg (Itl K a) [it] it (λi h=>h.IsListIter it a i) where
 mem:=by simp
 obj:=λi h st b hb=>by
   have e:b=it:=by simpa using hb
   subst e;obtain⟨o,e,c,d⟩:=st;exact⟨o,e,λv z=>by rw[d] at z; cases z⟩
 keep:=λi h h' st k=>st.at λo e=>k it (by simp) o e
 item:=by intro X hP hw hK hc i pins s σ H E I hf st hg;subst hP hw hK;obtain⟨xs,x,hq,hx⟩:=hg;obtain⟨its,rv,p,hz⟩:=I.list hq;obtain⟨u,hu,ru⟩:=rv.get hx;obtain⟨f0,f1,f2,f3,f4,f5⟩:=hf it (by simp);refine wpAny_pyNext_list_item st p.isList (x:=u) (by simpa using hu) λh' st' sb=>?_;have I1:Inv X pins σ H { s with heap:=h' }:=I.turned (t':=s.toks) (λb o hb e=>(sb.2 b hb).trans e) f0 f1 f3 f4 f5;obtain⟨o,e,c,d⟩:=id st';exact⟨u,rfl,zyk (s:={ s with heap:=h' }) e c d (by decide) ⟨x,H,I1,ru,⟨rfl,λys hy=>by rw[I.list_inj hy hq]; exact hx⟩,st',λb hb=>(hf b hb).1⟩⟩
 done:=by intro X hP hw hK hc i pins s σ H E I hf st hg;subst hP hw hK;obtain⟨xs,hq,hx⟩:=hg;obtain⟨its,rv,p,hz⟩:=I.list hq;obtain⟨f0,f1,f2,f3,f4,f5⟩:=hf it (by simp);have hl:=rv.length;exact wpAny_pyNext_list_end (I.ok.hd hc) st p.isList (by simp; omega) λh' eb=>⟨rfl,I.turned (t':=s.toks) (λb o hb e=>eb b o hb e) f0 f1 f3 f4 f5⟩
 self:=λ_ _ _ _ _ st h=>wpAny_pyIter_listiter st h
theorem zuk {P:Program} {w:World} {K:W.Frag} {tg:Expr} (a it:Addr):Turn P w K tg (Itt K a) [it] it (λi h=>h.IsTupleIter it a i) where
 mem:=by simp
 obj:=λi h st b hb=>by
   have e:b=it:=by simpa using hb
   subst e;obtain⟨o,e,c,d⟩:=st;exact⟨o,e,λv z=>by rw[d] at z; cases z⟩
 keep:=λi h h' st k=>st.at λo e=>k it (by simp) o e
 item:=by intro X hP hw hK hc i pins s σ H E I hf st hg;subst hP hw hK;obtain⟨xs,x,hq,hx⟩:=hg;obtain⟨its,rv,p,hz⟩:=I.tuple hq;obtain⟨u,hu,ru⟩:=rv.get hx;obtain⟨f0,f1,f2,f3,f4,f5⟩:=hf it (by simp);refine wpAny_pyNext_tuple_item st (show s.heap.IsTuple a its.toArray from p) (x:=u) (by simpa using hu) λh' st' sb=>?_;have I1:Inv X pins σ H { s with heap:=h' }:=I.turned (t':=s.toks) (λb o hb e=>(sb.2 b hb).trans e) f0 f1 f3 f4 f5;obtain⟨o,e,c,d⟩:=id st';exact⟨u,rfl,zyk (s:={ s with heap:=h' }) e c d (by decide) ⟨x,H,I1,ru,⟨rfl,λys hy=>by rw[I.tuple_inj hy hq]; exact hx⟩,st',λb hb=>(hf b hb).1⟩⟩
 done:=by intro X hP hw hK hc i pins s σ H E I hf st hg;subst hP hw hK;obtain⟨xs,hq,hx⟩:=hg;obtain⟨its,rv,p,hz⟩:=I.tuple hq;obtain⟨f0,f1,f2,f3,f4,f5⟩:=hf it (by simp);have hl:=rv.length;exact wpAny_pyNext_tuple_end (I.ok.hd hc) st (show s.heap.IsTuple a its.toArray from p) (by simp; omega) λh' eb=>⟨rfl,I.turned (t':=s.toks) (λb o hb e=>eb b o hb e) f0 f1 f3 f4 f5⟩
 self:=λ_ _ _ _ _ st h=>wpAny_pyIter_tupleiter st h
theorem zug {P:Program} {w:World} {K:W.Frag} {tg:Expr} (it:Addr) (lo:Int) (n:Nat):Turn P w K tg (Itr lo n) [it] it (λi h=>IsRangeIter h it (lo+(i:Nat) * 1) ((n:Int) - (i:Nat)) 1) where
 mem:=by simp
 obj:=λi h st b hb=>by
   have e:b=it:=by simpa using hb
   subst e;exact⟨_,st,λv z=>by have z':Data.fields _=Data.cell v:=z;cases z'⟩
 keep:=λi h h' st k=>k it (by simp) _ st
 item:=by intro X hP hw hK hc i pins s σ H E I hf st hg;subst hP hw hK;obtain⟨f0,f1,f2,f3,f4,f5⟩:=hf it (by simp);have W:=Walks.range (prog:=X.prog) (w:=X.w) (I.ok.hd hc) it lo 1 n;refine W.item i s _ _ hg st λv h' tk hv st' kk=>?_;obtain⟨t,rfl⟩:=hv;have I1:Inv X pins σ H { s with heap:=h',toks:=tk }:=I.turned (λb o hb e=>kk b o (by simpa using hb) e) f0 f1 f3 f4 f5;refine⟨_,rfl,zyk (s:={ s with heap:=h',toks:=tk }) (n:="range_iterator") st' rfl rfl (by decide) ⟨.int (lo+i),H,I1,⟨t,?_⟩,⟨rfl,rfl⟩,st',λb hb=>(hf b hb).1⟩⟩;rw[Int.mul_one]
 done:=by intro X hP hw hK hc i pins s σ H E I hf st hg;subst hP hw hK;obtain⟨f0,f1,f2,f3,f4,f5⟩:=hf it (by simp);exact wpAny_pyNext_range_end (I.ok.hd hc) st (by have:n<=i:=hg; omega) λh' eb=>⟨rfl,I.turned (t':=s.toks) (λb o hb e=>eb b o hb e) f0 f1 f3 f4 f5⟩
 self:=λ_ _ _ _ _ st h=>wpAny_pyIter_rangeiter st h
section
variable {X:Cx} {tg:Expr}
def z5o (K:W.Frag) (tl:TE):TI:=λσ H R=>tl σ H λx H1=>∃a,x=.ref a/\(∃xs,SqL K H1 a xs)/\R (Itl K a) H1
def iTup (K:W.Frag) (tl:TE):TI:=λσ H R=>tl σ H λx H1=>∃a,x=.ref a/\(∃xs,SqT K H1 a xs)/\R (Itt K a) H1
theorem zgx {l:Expr} {tl:TE} (hl:PE X l tl):PI X tg l (z5o X.K tl):=by
 intro pins s σ H R I h;refine thn (hl pins s σ H _ I h) λv s1 ⟨x,H1,I1,r1,q1⟩=>?_;obtain⟨a,e,⟨xs,hq⟩,q⟩:=q1;subst e;cases r1;obtain⟨its,rv,p,hz⟩:=I1.list hq;refine wpAny_pyIter_list p.isList ?_;refine⟨s1.heap.objs.size,[s1.heap.objs.size],_,_,H1,rfl,I1.kept (t':=s1.toks) λb o e=>Heap.get?_push_of_some _ e,zw8 a _,⟨_,qap _ rfl,rfl,rfl⟩,λb hb=>?_,q⟩;have e:b=s1.heap.objs.size:=by simpa using hb
 subst e;exact I1.fpOk (qae _) (I1.hok.fresh (qae _))
theorem zq0 {l:Expr} {tl:TE} (hl:PE X l tl):PI X tg l (iTup X.K tl):=by
 intro pins s σ H R I h;refine thn (hl pins s σ H _ I h) λv s1 ⟨x,H1,I1,r1,q1⟩=>?_;obtain⟨a,e,⟨xs,hq⟩,q⟩:=q1;subst e;cases r1;obtain⟨its,rv,p,hz⟩:=I1.tuple hq;refine wpAny_pyIter_tuple (show s1.heap.IsTuple a its.toArray from p) ?_;refine⟨s1.heap.objs.size,[s1.heap.objs.size],_,_,H1,rfl,I1.kept (t':=s1.toks) λb o e=>Heap.get?_push_of_some _ e,zuk a _,⟨_,qap _ rfl,rfl,rfl⟩,λb hb=>?_,q⟩;have e:b=s1.heap.objs.size:=by simpa using hb
 subst e;exact I1.fpOk (qae _) (I1.hok.fresh (qae _))
theorem zze {pins:List (Addr×Obj)} {σ:St} {H:Hp} {s:Shared} {R:It->Hp->Prop} {E:Value->Shared->Prop} {lo hi:Int} {t u v:Tok} {tk:Nat} (I:Inv X pins σ H s) (h1:-(2 ^ 62)<=lo) (h2:lo<2 ^ 62) (h3:-(2 ^ 62)<=hi) (h4:hi<2 ^ 62)
   (q:R (Itr lo (hi - lo).toNat) H):wpAny (model X.prog X.w) X.A (pyIter (.ref s.heap.objs.size)) (PIE X pins σ tg R) E { s with heap:=s.heap.push { cls:=.type "range",data:=.fields #[.int lo t,.int hi u,.int 1 v] },toks:=tk }:=by
 refine wpAny_pyIter_range (IsRange.new ..) (small_one h1 h2 h3 h4) ?_;have I1:Inv X pins σ H { s with heap:=s.heap.push { cls:=.type "range",data:=.fields #[.int lo t,.int hi u,.int 1 v] },toks:=tk }:=I.kept λb o e=>Heap.get?_push_of_some _ e;refine⟨(s.heap.push { cls:=.type "range",data:=.fields #[.int lo t,.int hi u,.int 1 v] }).objs.size,[(s.heap.push { cls:=.type "range",data:=.fields #[.int lo t,.int hi u,.int 1 v] }).objs.size],_,_,H,rfl,
   I1.kept (t':=tk) λb o e=>Heap.get?_push_of_some _ e,zug _ lo (hi - lo).toNat,?_,λb hb=>?_,q⟩
 . have e1:lo+((0:Nat):Int) * 1=lo:=by simp
   have e2:(((hi - lo).toNat:Nat):Int) - ((0:Nat):Int)=Builtin.Range.rangeSize lo hi 1:=by rw[rangeSize_one]; split <;> omega
   show IsRangeIter _ _ (lo+((0:Nat):Int) * 1) ((((hi - lo).toNat:Nat):Int) - ((0:Nat):Int)) 1;rw[e1,e2];exact qap _ rfl
 . have e:b=(s.heap.push { cls:=.type "range",data:=.fields #[.int lo t,.int hi u,.int 1 v] }).objs.size:=by simpa using hb
   subst e;exact I1.fpOk (qae _) (I1.hok.fresh (qae _))
def z5t (ta:TA):TI:=λσ H R=>ta σ H λvs H1=>∃j:Int,vs=[.int j]/\-(2 ^ 62)<=j/\j<2 ^ 62/\R (Itr 0 j.toNat) H1
theorem zey {a:Expr} {ta:TA} {p pos:Pos} (hg:Gl X "range") (hm:X.mg "range"=none) (ha:PA X [a] ta) (hs:starEach [a] X.env=[(false,eval a X.env)]:=by rfl):PI X tg (.Call (.Name "range" p) [a] [] pos) (z5t ta):=by
 intro pins s σ H R I h;refine Call_ (zlt I hg hm boot_range (qbr (thn (ha pos pins s σ H _ I h) λus s1 ⟨vs,H1,I1,r1,q1⟩=>?_) hs rfl));obtain⟨j,e,q1,q2,q⟩:=q1;subst e;cases r1 with
 | cons r rr =>
   cases rr;obtain⟨t,rfl⟩:=r;exact call_range_1 (zze I1 (by omega) (by omega) q1 q2 (by simpa using q))
def tFor (wi:TI) (g:TG) (tb:TS):TS:=λD σ H=>wi σ H λJ H1=>∃W:Nat->Nat->St->Hp->Prop,(∃m,W 0 m σ H1)/\∀i m σ H,W i m σ H ->
 (J.stop i H/\D.nx σ H)\/(J.go i H/\∃N:St->Hp->Prop,(∀σ' H',N σ' H'->∃m',m'<m/\W (i+1) m' σ' H')/\∀x H',J.yld i H x H'->g x σ H' λσ2 H2=>tb { D with nx:=N,ct:=N,bk:=D.nx } σ2 H2)
def zqq (fp:List Addr) (h:Heap):List (Addr×Obj):=fp.filterMap λb=>(h.get? b).map λo=>(b,o)
theorem zit {fp:List Addr} {h:Heap} {b:Addr} {o:Obj} (hb:b∈fp) (e:h.get? b=some o):(b,o)∈zqq fp h:=qdk.mpr ⟨b,hb,by rw[e]; rfl⟩
theorem zu3 {fp:List Addr} {h:Heap} {p:Addr×Obj} (hp:p∈zqq fp h):p.1∈fp/\h.get? p.1=some p.2:=by
 obtain⟨b,hb,e⟩:=qdk.mp hp;cases q:h.get? b with
 | none=>rw[q] at e; cases e
 | some o =>
   rw[q] at e;have e':(b,o)=p:=Option.some.inj e;subst e';exact⟨hb,q⟩
theorem Inv.pinned {pins:List (Addr×Obj)} {σ:St} {H:Hp} {s:Shared} {fp:List Addr} (I:Inv X pins σ H s) (hf:∀b∈fp,zwj X pins H b) (ho:∀b∈fp,∃o,s.heap.get? b=some o/\∀v,o.data≠.cell v):Inv X (pins++zqq fp s.heap) σ H s :=
 I.pins_of λp hp=>(List.mem_append.mp hp).elim (λz=>I.pin p (List.mem_append_right _ z)) λz=>by obtain⟨hb,e⟩:=zu3 z;obtain⟨f0,f1,f2,_⟩:=hf p.1 hb;obtain⟨o,e',d⟩:=ho p.1 hb;rw[e] at e'; cases e';exact⟨e,f0,f1,f2,d⟩
theorem Inv.unpinned {pins pl:List (Addr×Obj)} {σ:St} {H:Hp} {s:Shared} (I:Inv X (pins++pl) σ H s):Inv X pins σ H s:=I.pins_of λp hp=>I.pin p (List.mem_append_right _ (qa8 _ hp))
theorem zeb {iter:Expr} {body:List Stmt} {wi:TI} {g:TG} {tb:TS} {pos:Pos} (hp:PassesOwn (model X.prog X.w) X.A X.env X.xe) (hc:X.calm=true) (hi:PI X tg iter wi) (hg:PG X tg g) (hb:PSs X body tb)
   (hs:∀x,foldedSetIterable iter X.env x=pure x:=by intro _; rfl):PS X (.For tg iter body [] pos) (tFor wi g tb):=by
 intro pins s σ H D I h;refine wpAny_For (thn (hi pins s σ H _ I h) λv s1 h1=>thn h1 λitv s2 h2=>?_) hs;obtain⟨it,fp,tn,J,H2,e,I2,T,st2,f2,W,⟨m0,w0⟩,turn⟩:=h2;subst e
 -- what stays true of the iterator's objects through the loop
 have stat:∀{H':Hp},(∀b∈fp,H' b=none)->∀b∈fp,zwj X pins H' b:=λhn b hb=>⟨hn b hb,(f2 b hb).2⟩
 refine codeAny_forLoop_any (λn s'=>∃i σ' H',Inv X pins σ' H' s'/\tn i s'.heap/\(∀b∈fp,H' b=none)/\W i n σ' H') ?_ m0 ⟨0,σ,H2,I2,st2,λb hb=>(f2 b hb).1,w0⟩;rintro n s3 ⟨i,σ3,H3,I3,st3,fr3,w3⟩;rcases turn i n σ3 H3 w3 with⟨stop,qn⟩|⟨go,N,hN,step⟩
 . refine wpAny_passesOwn hp (thn (T.done X rfl rfl rfl hc i pins s3 σ3 H3 X.xe I3 (stat fr3) st3 stop) λr s4 ⟨hr,I4⟩=>?_);subst hr;exact wpAny_execs_nil ⟨σ3,H3,I4,qn⟩
 . refine wpAny_passesOwn hp (thn (T.item X rfl rfl rfl hc i pins s3 σ3 H3 X.xe I3 (stat fr3) st3 go) λr s4 ⟨u,hr,h4⟩=>?_);subst hr;refine wpAny_passesOwn hp (thn h4 λ_ s5 ⟨x,H5,I5,r5,y5,st5,fr5⟩=>?_);have I5':=I5.pinned (stat fr5) (T.obj _ _ st5);refine wpAny_passesOwn hp (thn (hg _ s5 σ3 H5 x u _ I5' r5 (step x H5 y5)) λ_ s6 ⟨σ6,H6,I6,q6⟩=>?_);refine wpAny_passesOwn hp (thn (hb _ s6 σ6 H6 _ I6 q6) λf s7 q7=>?_);have again:∀{σ7:St} {H7:Hp},Inv X (pins++zqq fp s5.heap) σ7 H7 s7->N σ7 H7->∃m,m<n/\∃i σ' H',Inv X pins σ' H' s7/\tn i s7.heap/\(∀b∈fp,H' b=none)/\W i m σ' H':=λ{σ7 H7} I7 n7=>by obtain⟨m',hm,w7⟩:=hN σ7 H7 n7;refine⟨m',hm,i+1,σ7,H7,I7.unpinned,T.keep _ _ _ st5 λb hb o e=>(I7.pin (b,o) (List.mem_append_right _ (List.mem_append_right _ (zit hb e)))).1,λb hb=>?_,w7⟩;obtain⟨o,e,d⟩:=T.obj _ _ st5 b hb;exact(I7.pin (b,o) (List.mem_append_right _ (List.mem_append_right _ (zit hb e)))).2.1
   cases f with
   | next=>obtain⟨σ7,H7,I7,n7⟩:=q7; exact again I7 n7
   | cont=>obtain⟨σ7,H7,I7,n7⟩:=q7; exact again I7 n7
   | brk=>obtain⟨σ7,H7,I7,q7⟩:=q7; exact⟨σ7,H7,I7.unpinned,q7⟩
   | ret v=>obtain⟨x7,σ7,H7,I7,r7,q7⟩:=q7; exact⟨x7,σ7,H7,I7.unpinned,r7,q7⟩
end
theorem zj6 {K:W.Frag} {a:Addr} {xs:List V} {g:TG} {tb:TS} {D:zje} {σ:St} {H:Hp} (Pv:Nat->St->Hp->Prop) (h0:Pv 0 σ H) (hl:∀i σ H,i<=xs.length->Pv i σ H->SqL K H a xs)
   (hs:∀i x σ H,xs[i]?=some x->Pv i σ H->g x σ H λσ2 H2=>tb { D with nx:=Pv (i+1),ct:=Pv (i+1),bk:=D.nx } σ2 H2) (hd:∀σ H,Pv xs.length σ H->D.nx σ H) :
   ∃W:Nat->Nat->St->Hp->Prop,(∃m,W 0 m σ H)/\∀i m σ H,W i m σ H ->
     ((Itl K a).stop i H/\D.nx σ H)\/((Itl K a).go i H/\∃N:St->Hp->Prop,(∀σ' H',N σ' H'->∃m',m'<m/\W (i+1) m' σ' H')/\∀x H',(Itl K a).yld i H x H'->g x σ H' λσ2 H2=>tb { D with nx:=N,ct:=N,bk:=D.nx } σ2 H2):=by
 refine⟨λi m σ H=>m=xs.length - i/\i<=xs.length/\Pv i σ H,⟨xs.length,by simp,qa6 _,h0⟩,?_⟩;rintro i m σ H ⟨rfl,hi,p⟩;have q:=hl i σ H hi p;by_cases hlt:i<xs.length
 . refine .inr ⟨⟨xs,xs[i],q,by simp [hlt]⟩,Pv (i+1),λσ' H' p'=>⟨xs.length - (i+1),by omega,rfl,hlt,p'⟩,λx H' y=>?_⟩;obtain⟨e,y⟩:=y;subst e;exact hs i x σ _ (y xs q) p
 . have e:i=xs.length:=by omega
   subst e;exact .inl ⟨⟨xs,q,qae _⟩,hd σ H p⟩
theorem zxe {K:W.Frag} {a:Addr} {xs:List V} {g:TG} {tb:TS} {D:zje} {σ:St} {H:Hp} (Pv:Nat->St->Hp->Prop) (h0:Pv 0 σ H) (hl:∀i σ H,i<=xs.length->Pv i σ H->SqT K H a xs)
   (hs:∀i x σ H,xs[i]?=some x->Pv i σ H->g x σ H λσ2 H2=>tb { D with nx:=Pv (i+1),ct:=Pv (i+1),bk:=D.nx } σ2 H2) (hd:∀σ H,Pv xs.length σ H->D.nx σ H) :
   ∃W:Nat->Nat->St->Hp->Prop,(∃m,W 0 m σ H)/\∀i m σ H,W i m σ H ->
     ((Itt K a).stop i H/\D.nx σ H)\/((Itt K a).go i H/\∃N:St->Hp->Prop,(∀σ' H',N σ' H'->∃m',m'<m/\W (i+1) m' σ' H')/\∀x H',(Itt K a).yld i H x H'->g x σ H' λσ2 H2=>tb { D with nx:=N,ct:=N,bk:=D.nx } σ2 H2):=by
 refine⟨λi m σ H=>m=xs.length - i/\i<=xs.length/\Pv i σ H,⟨xs.length,by simp,qa6 _,h0⟩,?_⟩;rintro i m σ H ⟨rfl,hi,p⟩;have q:=hl i σ H hi p;by_cases hlt:i<xs.length
 . refine .inr ⟨⟨xs,xs[i],q,by simp [hlt]⟩,Pv (i+1),λσ' H' p'=>⟨xs.length - (i+1),by omega,rfl,hlt,p'⟩,λx H' y=>?_⟩;obtain⟨e,y⟩:=y;subst e;exact hs i x σ _ (y xs q) p
 . have e:i=xs.length:=by omega
   subst e;exact .inl ⟨⟨xs,q,qae _⟩,hd σ H p⟩
theorem zko {lo:Int} {n:Nat} {g:TG} {tb:TS} {D:zje} {σ:St} {H:Hp} (Pv:Nat->St->Hp->Prop) (h0:Pv 0 σ H)
   (hs:∀i σ H,i<n->Pv i σ H->g (.int (lo+i)) σ H λσ2 H2=>tb { D with nx:=Pv (i+1),ct:=Pv (i+1),bk:=D.nx } σ2 H2) (hd:∀σ H,Pv n σ H->D.nx σ H) :
   ∃W:Nat->Nat->St->Hp->Prop,(∃m,W 0 m σ H)/\∀i m σ H,W i m σ H ->
     ((Itr lo n).stop i H/\D.nx σ H)\/((Itr lo n).go i H/\∃N:St->Hp->Prop,(∀σ' H',N σ' H'->∃m',m'<m/\W (i+1) m' σ' H')/\∀x H',(Itr lo n).yld i H x H'->g x σ H' λσ2 H2=>tb { D with nx:=N,ct:=N,bk:=D.nx } σ2 H2):=by
 refine⟨λi m σ H=>m=n - i/\i<=n/\Pv i σ H,⟨n,by simp,qa6 _,h0⟩,?_⟩;rintro i m σ H ⟨rfl,hi,p⟩;by_cases hlt:i<n
 . refine .inr ⟨hlt,Pv (i+1),λσ' H' p'=>⟨n - (i+1),by omega,rfl,hlt,p'⟩,λx H' y=>?_⟩;obtain⟨e,y⟩:=y;subst e y;exact hs i σ _ hlt p
 . have e:i=n:=by omega
   subst e;exact .inl ⟨qae _,hd σ H p⟩
abbrev R2:=V->V->Hp->VK->Prop
def OpR (X:Cx) (f:Value->Value->Sem Value) (r:R2):Prop :=
 ∀(pins:List (Addr×Obj)) (s:Shared) (σ:St) (H:Hp) (x y:V) (v u:Value) (Q:VK),Inv X pins σ H s->zc4 x v->zc4 y u->r x y H Q ->
   wpAny (model X.prog X.w) X.A (f v u) (EP X pins σ Q) X.xe s
def UnR (X:Cx) (f:Value->Sem Value) (r:V->Hp->VK->Prop):Prop :=
 ∀(pins:List (Addr×Obj)) (s:Shared) (σ:St) (H:Hp) (x:V) (v:Value) (Q:VK),Inv X pins σ H s->zc4 x v->r x H Q ->
   wpAny (model X.prog X.w) X.A (f v) (EP X pins σ Q) X.xe s
def zjr (X:Cx) (f:Value) (r:List V->Hp->VK->Prop):Prop :=
 ∀(pins:List (Addr×Obj)) (s:Shared) (σ:St) (H:Hp) (xs:List V) (us:List Value) (Q:VK),Inv X pins σ H s->zcq xs us->r xs H Q ->
   wpAny (model X.prog X.w) X.A (call f us) (EP X pins σ Q) X.xe s
def TruR (X:Cx) (r:V->Hp->(Bool->Hp->Prop)->Prop):Prop :=
 ∀(pins:List (Addr×Obj)) (s:Shared) (σ:St) (H:Hp) (x:V) (v:Value) (Q:Bool->Hp->Prop),Inv X pins σ H s->zc4 x v->r x H Q ->
   wpAny (model X.prog X.w) X.A (truthy v) (TP X pins σ Q) X.xe s
def tOp (r:R2) (ta tb:TE):TE:=λσ H Q=>ta σ H λx H1=>tb σ H1 λy H2=>r x y H2 Q
def tUn (r:V->Hp->VK->Prop) (ta:TE):TE:=λσ H Q=>ta σ H λx H1=>r x H1 Q
def rI (C:Int->Int->Prop) (g:Int->Int->V):R2:=λx y H Q=>∃i j,x=.int i/\y=.int j/\C i j/\Q (g i j) H
def rI0 (g:Int->Int->V):R2:=λx y H Q=>∃i j,x=.int i/\y=.int j/\Q (g i j) H
def rU (g:Int->V):V->Hp->VK->Prop:=λx H Q=>∃i,x=.int i/\Q (g i) H
section
variable {X:Cx} {a b c:Expr} {ta tb tc:TE} {pos:Pos}
theorem z5n (ha:PE X a ta) (hb:PE X b tb) {pins:List (Addr×Obj)} {s:Shared} {σ:St} {H:Hp} {R:V->V->Hp->Prop} (I:Inv X pins σ H s)
   (h:ta σ H λx H1=>tb σ H1 λy H2=>R x y H2) {Q:Value->Shared->Prop} {f:Value->Value->Sem Value}
   (hf:∀v u s2 x y H2,Inv X pins σ H2 s2->zc4 x v->zc4 y u->R x y H2->wpAny (model X.prog X.w) X.A (f v u) Q X.xe s2) :
   wpAny (model X.prog X.w) X.A (eval a X.env) (λv s₁=>wpAny (model X.prog X.w) X.A (eval b X.env) (λu s₂=>wpAny (model X.prog X.w) X.A (f v u) Q X.xe s₂) X.xe s₁) X.xe s:=by
 refine thn (ha pins s σ H _ I h) λv s1 ⟨x,H1,I1,r1,q1⟩=>?_;refine thn (hb pins s1 σ H1 _ I1 q1) λu s2 ⟨y,H2,I2,r2,q2⟩=>?_;exact hf v u s2 x y H2 I2 r1 r2 q2
theorem zaw {op:Operator} {r:R2} (ho:OpR X (binaryOp op) r) (ha:PE X a ta) (hb:PE X b tb):PE X (.BinOp a op b pos) (tOp r ta tb):=by intro pins s σ H Q I h;exact wpAny_BinOp (z5n ha hb I h λv u s2 x y H2 I2 rx ry q=>ho pins s2 σ H2 x y v u Q I2 rx ry q)
theorem zjo {op:UnaryOp} {r:V->Hp->VK->Prop} (ho:UnR X (unaryOp op) r) (ha:PE X a ta):PE X (.UnaryOp op a pos) (tUn r ta):=by intro pins s σ H Q I h;exact UnaryOp_ (thn (ha pins s σ H _ I h) λv s1 ⟨x,H1,I1,r1,q1⟩=>ho pins s1 σ H1 x v Q I1 r1 q1)
theorem opI {f:Value->Value->Sem Value} {C:Int->Int->Prop} {g:Int->Int->Int}
   (rule:∀(i j:Int) (t u:Tok) (s:Shared) (Q:Value->Shared->Prop) (E:Value->Shared->Prop),C i j->Q (.int (g i j) s.toks) { s with toks:=s.toks+1 }->wpAny (model X.prog X.w) X.A (f (.int i t) (.int j u)) Q E s) :
   OpR X f (rI C λi j=>.int (g i j)):=by
 intro pins s σ H x y v u Q I rx ry h;obtain⟨i,j,rfl,rfl,hc,q⟩:=h;obtain⟨t,rfl⟩:=rx;obtain⟨t',rfl⟩:=ry;exact rule i j t t' s _ _ hc ⟨.int (g i j),H,I.tok _,⟨_,rfl⟩,q⟩
theorem z3e {f:Value->Value->Sem Value} {g:Int->Int->Int}
   (rule:∀(i j:Int) (t u:Tok) (s:Shared) (Q:Value->Shared->Prop) (E:Value->Shared->Prop),Q (.int (g i j) s.toks) { s with toks:=s.toks+1 }->wpAny (model X.prog X.w) X.A (f (.int i t) (.int j u)) Q E s) :
   OpR X f (rI0 λi j=>.int (g i j)):=by
 intro pins s σ H x y v u Q I rx ry h;obtain⟨i,j,rfl,rfl,q⟩:=h;obtain⟨t,rfl⟩:=rx;obtain⟨t',rfl⟩:=ry;exact rule i j t t' s _ _ ⟨.int (g i j),H,I.tok _,⟨_,rfl⟩,q⟩
theorem opB0 {f:Value->Value->Sem Value} {g:Int->Int->Bool}
   (rule:∀(i j:Int) (t u:Tok) (s:Shared) (Q:Value->Shared->Prop) (E:Value->Shared->Prop),Q (.bool (g i j)) s->wpAny (model X.prog X.w) X.A (f (.int i t) (.int j u)) Q E s) :
   OpR X f (rI0 λi j=>.bl (g i j)):=by
 intro pins s σ H x y v u Q I rx ry h;obtain⟨i,j,rfl,rfl,q⟩:=h;obtain⟨t,rfl⟩:=rx;obtain⟨t',rfl⟩:=ry;exact rule i j t t' s _ _ ⟨.bl (g i j),H,I,rfl,q⟩
def z5f (i j:Int):Prop:=0<j/\j<1073741824
def CPow (i j:Int):Prop:=0<=j/\j<=1000000/\i.natAbs<2 ^ 64
def z5z (i j:Int):Prop:=(-(2 ^ 64)<i/\i<2 ^ 64)\/(-(2 ^ 64)<j/\j<2 ^ 64)
theorem z5z.ok {i j:Int} (h:z5z i j):IntMulOk i j:=by
 rcases h with⟨h1,h2⟩|⟨h1,h2⟩
 . exact .of_left (intBits_le_64 h1 h2)
 . exact .of_right (intBits_le_64 h1 h2)
theorem zdx:OpR X (binaryOp .Add) (rI0 λi j=>.int (i+j)):=z3e λ_ _ _ _ _ _ _ q=>add_int q
theorem zqm:OpR X (binaryOp .Sub) (rI0 λi j=>.int (i - j)):=z3e λ_ _ _ _ _ _ _ q=>sub_int q
theorem zmm:OpR X (binaryOp .Mult) (rI z5z λi j=>.int (i * j)):=opI λ_ _ _ _ _ _ _ hc q=>mul_int q hc.ok
theorem zf5:OpR X (binaryOp .FloorDiv) (rI z5f λi j=>.int (i / j)):=opI λi j _ _ _ _ _ hc q=>by have h1:(0:Int)<j:=hc.1;have h2:j<1073741824:=hc.2;exact floordiv_int (by omega) (by rw[qdo i (by omega)]; exact q) (.inl (PyProof.noPylong_small (by omega)))
theorem zbt:OpR X (binaryOp .Mod) (rI (λ_ j=>0<j) λi j=>.int (i%j)):=opI λi j _ _ _ _ _ hc q=>by have h1:(0:Int)<j:=hc;exact mod_int' (by omega) (by rw[Int.fmod_eq_emod_of_nonneg i (by omega)]; exact q)
theorem zwv:OpR X (binaryOp .Pow) (rI CPow λi j=>.int (i ^ j.toNat)):=opI λ_ _ _ _ _ _ _ hc q=>pow_int_small hc.1 hc.2.1 hc.2.2 q
theorem z0e:OpR X (binaryOp .BitAnd) (rI0 λi j=>.int (Builtin.bitAnd i j)):=z3e λ_ _ _ _ _ _ _ q=>and_int q
theorem z5l:OpR X (binaryOp .BitOr) (rI0 λi j=>.int (Builtin.bitOr i j)):=z3e λ_ _ _ _ _ _ _ q=>or_int q
theorem z3g:OpR X (binaryOp .BitXor) (rI0 λi j=>.int (Builtin.bitXor i j)):=z3e λ_ _ _ _ _ _ _ q=>xor_int q
theorem unI {f:Value->Sem Value} {g:Int->Int}
   (rule:∀(i:Int) (t:Tok) (s:Shared) (Q:Value->Shared->Prop) (E:Value->Shared->Prop),Q (.int (g i) s.toks) { s with toks:=s.toks+1 }->wpAny (model X.prog X.w) X.A (f (.int i t)) Q E s) :
   UnR X f (rU λi=>.int (g i)):=by
 intro pins s σ H x v Q I rx h;obtain⟨i,rfl,q⟩:=h;obtain⟨t,rfl⟩:=rx;exact rule i t s _ _ ⟨.int (g i),H,I.tok _,⟨_,rfl⟩,q⟩
theorem zfw:UnR X (unaryOp .USub) (rU λi=>.int (-i)):=unI λ_ _ _ _ _ q=>neg_int q
end
def scal:V->V->Bool
 | .non,.non=>true | .non,.int _=>true | .int _,.non=>true | .non,.bl _=>true | .bl _,.non=>true | .non,.str _=>true | .str _,.non=>true
 | .int _,.int _=>true | .bl _,.bl _=>true | .str _,.str _=>true | .byt _,.byt _=>true
 | .int _,.str _=>true | .str _,.int _=>true | .bl _,.str _=>true | .str _,.bl _=>true
 | _,_=>false
def rEq:R2:=λx y H Q=>scal x y=true/\Q (.bl (decide (x=y))) H
def rNe:R2:=λx y H Q=>scal x y=true/\Q (.bl (!decide (x=y))) H
theorem zxg {i j:Int}:decide (V.int i=V.int j)=(i==j):=by rw[qb1];simp
theorem z0b {i j:Bool}:decide (V.bl i=V.bl j)=(i==j):=by rw[qb1];simp
theorem zxp {i j:Str}:decide (V.str i=V.str j)=(i==j):=by rw[qb1];simp
theorem zw5 {i j:Array UInt8}:decide (V.byt i=V.byt j)=(i.toList==j.toList):=by rw[qb1];cases i;cases j;simp
section
variable {X:Cx} {a b c:Expr} {ta tb tc:TE} {pos:Pos}
theorem zca {pins:List (Addr×Obj)} {σ:St} {H:Hp} {s:Shared} {Q:VK} {k k':Bool} (I:Inv X pins σ H s) (q:Q (.bl k) H) (e:k=k'):EP X pins σ Q (.bool k') s:=by subst e;exact⟨.bl k,H,I,rfl,q⟩
theorem zc8:OpR X (compareOp .Eq) rEq:=by
 intro pins s σ H x y v u Q I rx ry h;obtain⟨hs,q⟩:=h;cases x with
 | non =>
   cases rx;cases y with
   | non=>cases ry; exact PySem.EqNone.eq_none_none (zca I q (by simp))
   | bl j=>cases ry; exact PySem.EqNone.eq_none_bool (zca I q (by simp))
   | int j=>obtain⟨t',rfl⟩:=ry; exact PySem.EqNone.eq_none_int (zca I q (by simp))
   | str j=>obtain⟨t',rfl⟩:=ry; exact PySem.EqNone.eq_none_str (zca I q (by simp))
   | _=>exact absurd (show false=true from hs) qar
 | bl i =>
   cases rx;cases y with
   | non=>cases ry; exact PySem.EqNone.eq_bool_none (zca I q (by simp))
   | bl j=>cases ry; exact eq_bool (zca I q z0b)
   | str j=>obtain⟨t',rfl⟩:=ry; exact PySem.EqMixed.eq_bool_str (zca I q (by simp))
   | _=>exact absurd (show false=true from hs) qar
 | int i =>
   obtain⟨t,rfl⟩:=rx;cases y with
   | non=>cases ry; exact PySem.EqNone.eq_int_none (zca I q (by simp))
   | int j=>obtain⟨t',rfl⟩:=ry; exact eq_int (zca I q zxg)
   | str j=>obtain⟨t',rfl⟩:=ry; exact PySem.EqMixed.eq_int_str (zca I q (by simp))
   | _=>exact absurd (show false=true from hs) qar
 | str i =>
   obtain⟨t,rfl⟩:=rx;cases y with
   | non=>cases ry; exact PySem.EqNone.eq_str_none (zca I q (by simp))
   | bl j=>cases ry; exact PySem.EqMixed.eq_str_bool (zca I q (by simp))
   | int j=>obtain⟨t',rfl⟩:=ry; exact PySem.EqMixed.eq_str_int (zca I q (by simp))
   | str j=>obtain⟨t',rfl⟩:=ry; exact eq_str (zca I q zxp)
   | _=>exact absurd (show false=true from hs) qar
 | byt i =>
   obtain⟨t,rfl⟩:=rx;cases y with
   | byt j=>obtain⟨t',rfl⟩:=ry; exact PySem.W.eq_bytes (zca I q zw5)
   | _=>exact absurd (show false=true from hs) qar
 | _=>cases y <;> exact absurd (show false=true from hs) qar
theorem z2h:OpR X (compareOp .NotEq) rNe:=by
 intro pins s σ H x y v u Q I rx ry h;obtain⟨hs,q⟩:=h;cases x with
 | non =>
   cases rx;cases y with
   | non=>cases ry; exact PySem.EqNone.ne_none_none (zca I q (by simp))
   | bl j=>cases ry; exact PySem.EqNone.ne_none_bool (zca I q (by simp))
   | int j=>obtain⟨t',rfl⟩:=ry; exact PySem.EqNone.ne_none_int (zca I q (by simp))
   | str j=>obtain⟨t',rfl⟩:=ry; exact PySem.EqNone.ne_none_str (zca I q (by simp))
   | _=>exact absurd (show false=true from hs) qar
 | bl i =>
   cases rx;cases y with
   | non=>cases ry; exact PySem.EqNone.ne_bool_none (zca I q (by simp))
   | bl j=>cases ry; exact ne_bool (zca I q (congrArg not z0b))
   | str j=>obtain⟨t',rfl⟩:=ry; exact PySem.EqMixed.ne_bool_str (zca I q (by simp))
   | _=>exact absurd (show false=true from hs) qar
 | int i =>
   obtain⟨t,rfl⟩:=rx;cases y with
   | non=>cases ry; exact PySem.EqNone.ne_int_none (zca I q (by simp))
   | int j=>obtain⟨t',rfl⟩:=ry; exact ne_int (zca I q (congrArg not zxg))
   | str j=>obtain⟨t',rfl⟩:=ry; exact PySem.EqMixed.ne_int_str (zca I q (by simp))
   | _=>exact absurd (show false=true from hs) qar
 | str i =>
   obtain⟨t,rfl⟩:=rx;cases y with
   | non=>cases ry; exact PySem.EqNone.ne_str_none (zca I q (by simp))
   | bl j=>cases ry; exact PySem.EqMixed.ne_str_bool (zca I q (by simp))
   | int j=>obtain⟨t',rfl⟩:=ry; exact PySem.EqMixed.ne_str_int (zca I q (by simp))
   | str j=>obtain⟨t',rfl⟩:=ry; exact ne_str (zca I q (congrArg not zxp))
   | _=>exact absurd (show false=true from hs) qar
 | byt i =>
   obtain⟨t,rfl⟩:=rx;cases y with
   | byt j=>obtain⟨t',rfl⟩:=ry; exact PySem.W.ne_bytes (zca I q (congrArg not zw5))
   | _=>exact absurd (show false=true from hs) qar
 | _=>cases y <;> exact absurd (show false=true from hs) qar
theorem zxd:OpR X (compareOp .Lt) (rI0 λi j=>.bl (decide (i<j))):=opB0 λ_ _ _ _ _ _ _ q=>lt_int q
theorem z41:OpR X (compareOp .GtE) (rI0 λi j=>.bl (decide (j<=i))):=opB0 λ_ _ _ _ _ _ _ q=>ge_int q
theorem za1 (b:Expr) {op:CmpOp} (h:op≠.In:=by decide) (h2:op≠.NotIn:=by decide):behindInMarks op b=false:=by
 have e1:(op==CmpOp.In)=false:=by cases op <;> first|rfl|exact absurd rfl h
 have e2:(op==CmpOp.NotIn)=false:=by cases op <;> first|rfl|exact absurd rfl h2
 cases b <;> simp [behindInMarks,e1,e2]
theorem zmy {op:CmpOp} {r:R2} (ho:OpR X (compareOp op) r) (ha:PE X a ta) (hb:PE X b tb) (hm:behindInMarks op b=false):PE X (.Compare a [op] [b] pos) (tOp r ta tb):=by intro pins s σ H Q I h;exact wpAny_Compare1 (z5n ha hb I h λv u s2 x y H2 I2 rx ry q=>ho pins s2 σ H2 x y v u Q I2 rx ry q) hm
def z6a (t:TE):TT:=λσ H Q=>t σ H λx H'=>∃k,x=.bl k/\Q k H'
theorem zat {op:CmpOp} {r:R2} (ho:OpR X (compareOp op) r) (ha:PE X a ta) (hb:PE X b tb) (hm:behindInMarks op b=false):PT X (.Compare a [op] [b] pos) (z6a (tOp r ta tb)):=by
 intro pins s σ H Q I h;refine wpAny_isTrue_Compare1 (thn (ha pins s σ H _ I h) λv s1 ⟨x,H1,I1,r1,q1⟩=>thn (hb pins s1 σ H1 _ I1 q1) λu s2 ⟨y,H2,I2,r2,q2⟩ =>
   thn (ho pins s2 σ H2 x y v u _ I2 r1 r2 q2) λc s3 ⟨z,H3,I3,r3,k,e,q3⟩=>?_) hm
 subst e;cases r3;exact wpAny_truthy_bool ⟨H3,I3,q3⟩
def z5s (K:W.Frag) (x:V) (H:Hp) (k:Bool):Prop :=
 match x with
 | .non=>k=false
 | .bl b=>k=b
 | .int i=>k=(i != 0)
 | .str y=>y.length<=sizeLine/\k=((y.length:Int) != 0)
 | .byt y=>y.size<=sizeLine/\k=((y.size:Int) != 0)
 | .ref p=>(∃xs,SqL K H p xs/\k=!xs.isEmpty)\/(∃xs,SqT K H p xs/\k=!xs.isEmpty)\/∃kvs,H p=some (.dK kvs)/\k=!kvs.isEmpty
 | _=>False
theorem zuc {κ:Type} {kvs:List (κ×V)} {vs:List (κ×Value)} (r:KV kvs vs):(!vs.isEmpty)=!kvs.isEmpty:=by cases r <;> rfl
theorem zoe {xs:List V} {its:List Value} (r:zcq xs its):(!its.toArray.isEmpty)=!xs.isEmpty:=by cases r <;> simp
theorem zn9:(sizeLine:Nat)<2 ^ 63:=by rw[sizeLine_eq]; decide
theorem z3c:TruR X (λx H Q=>∃k,z5s X.K x H k/\Q k H):=by
 intro pins s σ H x v Q I rx h;obtain⟨k,e,q⟩:=h;have hl:=zn9;have hs:sizeLine=16777216:=sizeLine_eq;cases x with
 | non =>
   cases rx;have e':k=false:=e;subst e';exact truthy_none ⟨H,I,q⟩
 | bl b =>
   cases rx;have e':k=b:=e;subst e';exact wpAny_truthy_bool ⟨H,I,q⟩
 | int i =>
   obtain⟨t,rfl⟩:=rx;have e':k=(i != 0):=e;subst e';exact PySem.P.truthy_int ⟨H,I,q⟩
 | str y =>
   obtain⟨t,rfl⟩:=rx;obtain⟨hy,e'⟩:y.length<=sizeLine/\k=((y.length:Int) != 0):=e;subst e';exact PySem.P.truthy_str (by omega) ⟨H,I.tok _,q⟩
 | byt y =>
   obtain⟨t,rfl⟩:=rx;obtain⟨hy,e'⟩:y.size<=sizeLine/\k=((y.size:Int) != 0):=e;subst e';exact PySem.W.truthy_bytes (by omega) ⟨H,I.tok _,q⟩
 | ref p =>
   cases rx;have e':(∃xs,SqL X.K H p xs/\k=!xs.isEmpty)\/(∃xs,SqT X.K H p xs/\k=!xs.isEmpty)\/∃kvs,H p=some (.dK kvs)/\k=!kvs.isEmpty:=e;rcases e' with⟨xs,hx,e'⟩|⟨xs,hx,e'⟩|⟨kvs,hx,e'⟩
   . subst e';obtain⟨its,r,pl,hz⟩:=I.list hx;have hlen:=r.length;exact wpAny_truthy_list pl.isList (by simp only[List.size_toArray]; omega) ⟨H,I.tok _,by rw[zoe r]; exact q⟩
   . subst e';obtain⟨its,r,pl,hz⟩:=I.tuple hx;have hlen:=r.length;exact truthy_tuple pl (by simp only[List.size_toArray]; omega) ⟨H,I.tok _,by rw[zoe r]; exact q⟩
   . subst e';obtain⟨hz,hS,vs,r,m⟩:kvs.length<=sizeLine/\(p==sysModules)=false/\∃vs,KV kvs vs/\s.heap.DictOf (zbe X.prog X.w) p vs:=I.hok p _ hx;have hlen:kvs.length=vs.length:=Paired.length r;exact wpAny_truthy_dict hS m (by omega) ⟨H,I.tok _,by rw[zuc r]; exact q⟩
 | _=>exact(show False from e).elim
theorem zyr (ha:PE X a ta) (he:∀whole,isTrue a X.env whole=(do let v <- whole; standAt a.pos; holding [v] (truthy v))) :
   PT X a (λσ H Q=>ta σ H λx H'=>∃k,z5s X.K x H' k/\Q k H'):=by
 intro pins s σ H Q I h;exact isTrue_plain (thn (ha pins s σ H _ I h) λv s1 ⟨x,H1,I1,r1,q1⟩=>z3c pins s1 σ H1 x v Q I1 r1 q1) (he _)
theorem zgy:OpR X (binaryOp .Add) (λx y H Q=>∃i j,x=.str i/\y=.str j/\i.length+j.length<=sizeLine/\Q (.str (i++j)) H):=by intro pins s σ H x y v u Q I rx ry h;obtain⟨i,j,rfl,rfl,hz,q⟩:=h;obtain⟨t,rfl⟩:=rx;obtain⟨t',rfl⟩:=ry;exact add_str (λt' tk=>⟨.str (i++j),H,I.tok _,⟨_,rfl⟩,q⟩) hz
theorem zpd {x:V} {us:List Value} (r:zcq [x] us):∃u,us=[u]/\zc4 x u:=by
 cases r with
 | cons r1 r2=>cases r2; exact⟨_,rfl,r1⟩
theorem z3b {x y:V} {us:List Value} (r:zcq [x,y] us):∃u w',us=[u,w']/\zc4 x u/\zc4 y w':=by
 cases r with
 | cons r1 r2 =>
   cases r2 with
   | cons r3 r4=>cases r4; exact⟨_,_,rfl,r1,r3⟩
theorem zkt:zjr X (.type "int") (λxs H Q=>(∃i,xs=[.int i]/\Q (.int i) H)\/∃k,xs=[.bl k]/\Q (.int (if k then 1 else 0)) H):=by
 intro pins s σ H xs us Q I r h;rcases h with⟨i,rfl,q⟩|⟨k,rfl,q⟩
 . obtain⟨u,rfl,t,rfl⟩:=zpd r;exact call_int_int ⟨.int i,H,I,⟨_,rfl⟩,q⟩
 . obtain⟨u,rfl,r1⟩:=zpd r;cases r1;exact call_int_bool ⟨.int (if k then 1 else 0),H,I.tok _,⟨_,rfl⟩,q⟩
theorem zik:zjr X (.type "str") (λxs H Q=>∃i,xs=[.int i]/\i.natAbs.log2<1920/\Q (.str (toString i)) H):=by intro pins s σ H xs us Q I r h;obtain⟨i,rfl,hz,q⟩:=h;obtain⟨u,rfl,t,rfl⟩:=zpd r;exact PySem.P.str_of_int hz ⟨.str _,H,I.tok _,⟨_,rfl⟩,q⟩
end
structure ObjM (h:Heap) (x dx C:Addr) (mA:Str->Option Value):Prop where
 obj:h.get? x=some (PySem.W.instObj C dx)
 ns:h.Ns1 dx mA
 ne:dx≠x
theorem zvi {h:Heap} {dx:Addr} {mA:Str->Option Value} (n:h.Ns1 dx mA):∃od,h.get? dx=some od/\∀name,PySem.W.lookIn name od=some (mA name):=by
 obtain⟨o,es,ep,ho,hd,hk,_,hm⟩:=n;refine⟨o,ho,λname=>?_⟩;have e:=hm name;unfold nsFind findBy at e;rw[<- Array.find?_toList] at e;unfold PySem.W.lookIn;rw[hd];dsimp only;split
 . rename_i y q
   rw[q] at e;exact congrArg some e
 . rename_i q
   rw[q] at e;have a:es.toList.any (·.refKey)=false:=by rw[List.any_eq_false];intro y hy;obtain⟨z,t,hkey⟩:=hk y (Array.mem_toList_iff.mp hy);simp [DictEntry.refKey,hkey]
   have a':¬ es.toList.any (·.refKey)=true:=by rw[a]; exact qar
   rw[if_neg a'];exact congrArg some e
theorem ObjM.look {h:Heap} {x dx C:Addr} {mA:Str->Option Value} (I:ObjM h x dx C mA):∃od,PySem.W.InstAt h x (PySem.W.instObj C dx) C (some od)/\∀name,PySem.W.lookIn name od=some (mA name) :=
 let ⟨od,ho,hl⟩:=zvi I.ns
 ⟨od,⟨I.obj,rfl,rfl,ho⟩,hl⟩
section
variable {prog:Program} {w:World} {A:Around} {E:Value->Shared->Prop} {s:Shared} {K:W.Frag} {x dx C f:Addr} {mA:Str->Option Value} {name:Str} {v:Value}
theorem z12 {expr:Bool} {Q:Value->Shared->Prop} (X:K.In s.heap) (I:ObjM s.heap x dx C mA) (hg:PySem.W.plainGet K C name=true) (hh:PySem.W.hasDictIn K C=true)
   (ha:PySem.W.findIn K (.ref C) name=some none) (hv:mA name=some v) (hv':PySem.W.handedIn v=true) (h:Q v { s with toks:=s.toks+1 }) :
   wpAny (model prog w) A (getAttr (.ref x) name expr) Q E s:=by
 obtain⟨od,J,hl⟩:=I.look;exact PySem.W.get_value X J (PySem.W.plainGet_of hg).1 (PySem.W.findObj_own hh ha rfl (by rw[hl,hv])) hv' h
theorem zyv {pl:Sem Bool} {Q:Value×List Value->Shared->Prop} (X:K.In s.heap) (I:ObjM s.heap x dx C mA) (hg:PySem.W.plainGet K C name=true)
   (hf:PySem.W.findIn K (.ref C) name=some (some (.ref f))) (ht:PySem.W.isFn K (.ref f)=true) (hv:mA name=none) (h:Q (.ref f,[.ref x]) s) :
   wpAny (model prog w) A (getMethod (.ref x) name pl) Q E s:=by
 obtain⟨od,J,hl⟩:=I.look;exact PySem.W.method_fn X J (PySem.W.plainGet_of hg).1 (PySem.W.plainGet_of hg).2 hf (beq_iff_eq.mp ht) (by show(PySem.W.lookIn name od).map (·.isSome)=some false; rw[hl,hv]; rfl) h
theorem z2v {ns:List Str} {Q:Unit->Shared->Prop} (X:K.In s.heap) (I:ObjM s.heap x dx C mA)
   (hs:PySem.W.findIn K (.ref C) "__setattr__"=some (some (.builtin "object.__setattr__"))) (hp:PySem.W.plainOver K C=true) (ht:PySem.W.takerIn K C name=some none) (hh:PySem.W.hasDictIn K C=true)
   (hw:PySem.Within mA ns) (hsz:ns.length<=sizeLine)
   (h:∀h',ObjM h' x dx C (λy=>if y=name then some v else mA y)->Heap.SameBut dx s.heap h'->Q () { s with heap:=h',toks:=s.toks+2 }) :
   wpAny (model prog w) A (setAttr (.ref x) name v) Q E s:=by
 obtain⟨od,J,hl⟩:=I.look;refine PySem.W.set_plain X J hs (PySem.W.osa_open (s:={ s with toks:=s.toks+1 }) (r:=none) X J hp ht λb=>?_);obtain⟨cd,hc,hd'⟩:=PySem.W.any_some hh;have hx:s.heap.get? x=some ⟨.ref C,some dx,.plain,#[]⟩:=I.obj;refine wpAny_bind (wpAny_pure (wpAny_bind (wpAny_bind (wpAny_loadPart hx (wpAny_bind (PySem.W.Looks.here (s:={ s with toks:=s.toks+1 }) (PySem.W.looks_clsIn X hc) ?_))))));rw[hd'];refine wpAny_pure (a:=some dx) (wpAny_bind (wpAny_pure (wpAny_bind ?_)));refine wpAny_nsSet1 (s:={ s with toks:=s.toks+1 }) I.ns λh' hn2 hs2=>?_;obtain⟨oD,esD,epD,hoD,hdD,hcD⟩:=hn2.count (PySem.Within.cons name v hw);refine wpAny_bind (wpAny_lookBehind hoD (by rw[hdD]; exact pastItsLine_dict (Nat.le_trans hcD (by rw[qa0]; omega))) ?_);exact wpAny_pure (h _ ⟨(hs2.2 _ (Ne.symm I.ne)).trans I.obj,hn2,I.ne⟩ hs2)
theorem zy1 {R:Result->Shared->Prop} {vs:List Value} {kw:List (Str×Value)} (X:K.In s.heap) (hm:PySem.W.makesIn K C=true)
   (hi:PySem.W.findIn K (.ref C) "__init__"=some (some (.ref f))) (hf:PySem.W.typeIn K (.ref f)=some (.type "function"))
   (h:codeAny (model prog w) (A.under (.builtin "type.__call__" ⟨.ref C :: vs,kw⟩)) (.call (.ref f) ⟨.ref (s.heap.objs.size+1) :: vs,kw⟩) (PySem.W.InitBack (s.heap.objs.size+1) R)
     { s with heap:=(s.heap.push PySem.W.emptyDict).push (PySem.W.instObj C s.heap.objs.size) }) :
   codeAny (model prog w) A (.call (.ref C) ⟨vs,kw⟩) R s:=by
 obtain⟨hh,g,d,t,os⟩:=s;exact PySem.W.make_core (PySem.W.makes_of X hm) (PySem.W.looks_findIn X hi) (λself=>PySem.W.bind_fn X self hf) (.inl rfl) h
end
def zj2 (f:Str) (v:V):List (Str×V)->List (Str×V)
 | []=>[(f,v)]
 | (g,x) :: r=>if g=f then(g,v) :: r else(g,x) :: zj2 f v r
theorem zar (f g:Str) (v:V):∀fs:List (Str×V),(zj2 f v fs).lookup g=if g=f then some v else fs.lookup g
 | []=>by
   show List.lookup g [(f,v)]=_;by_cases h:g=f
   . have hb:(g==f)=true:=beq_iff_eq.mpr h;simp only[List.lookup,hb,if_pos h]
   . have hb:(g==f)=false:=beq_eq_false_iff_ne.mpr h;simp only[List.lookup,hb,if_neg h]
 | (k,x) :: r=>by
   have ih:=zar f g v r;rw[show zj2 f v ((k,x) :: r)=(if k=f then(k,v) :: r else(k,x) :: zj2 f v r) from rfl];by_cases hk:k=f
   . rw[if_pos hk];by_cases h:g=k
     . have hb:(g==k)=true:=beq_iff_eq.mpr h;simp only[List.lookup,hb,if_pos (h.trans hk)]
     . have hb:(g==k)=false:=beq_eq_false_iff_ne.mpr h;simp only[List.lookup,hb,if_neg (λe:g=f=>h (e.trans hk.symm))]
   . rw[if_neg hk];by_cases h:g=k
     . have hb:(g==k)=true:=beq_iff_eq.mpr h;simp only[List.lookup,hb,if_neg (λe:g=f=>hk (h.symm.trans e))]
     . have hb:(g==k)=false:=beq_eq_false_iff_ne.mpr h;simp only[List.lookup,hb];exact ih
theorem zm3 (f:Str) (v:V):∀fs:List (Str×V),f∈(zj2 f v fs).map (·.1)/\∀g,g∈fs.map (·.1)->g∈(zj2 f v fs).map (·.1)
 | []=>⟨by simp [zj2],λg h=>by simp at h⟩
 | (k,x) :: r=>by
   obtain⟨i1,i2⟩:=zm3 f v r;rw[show zj2 f v ((k,x) :: r)=(if k=f then(k,v) :: r else(k,x) :: zj2 f v r) from rfl];by_cases hk:k=f
   . rw[if_pos hk];subst hk;exact⟨by simp,λg h=>by simpa using h⟩
   . rw[if_neg hk];refine⟨?_,λg h=>?_⟩
     . rw[qaz];exact List.mem_cons_of_mem _ i1
     . rw[qaz] at h ⊢;rcases List.mem_cons.mp h with e|e
       . exact List.mem_cons.mpr (.inl e)
       . exact List.mem_cons_of_mem _ (i2 g e)
theorem zer (f:Str) (v:V):∀fs:List (Str×V),(zj2 f v fs).length<=fs.length+1
 | []=>by simp [zj2]
 | (k,x) :: r=>by
   have ih:=zer f v r;rw[show zj2 f v ((k,x) :: r)=(if k=f then(k,v) :: r else(k,x) :: zj2 f v r) from rfl];by_cases hk:k=f
   . rw[if_pos hk,qa0,qa0]; omega
   . rw[if_neg hk,qa0,qa0]; omega
theorem zpq.some_of {v:V} {o:Option Value} (r:zpq (some v) o):∃u,o=some u/\zc4 v u:=by
 cases o with
 | none=>exact(show False from r).elim
 | some u=>exact⟨u,rfl,r⟩
theorem zpq.none_of {o:Option Value} (r:zpq none o):o=none:=by
 cases o with
 | none=>rfl
 | some u=>exact(show False from r).elim
theorem zv7 {v:V} {u:Value} (r:zc4 v u):PySem.W.handedIn u=true:=by
 cases v with
 | non=>cases (show u=Value.none from r); rfl
 | bl b=>cases (show u=Value.bool b from r); rfl
 | int i=>obtain⟨t,e⟩:=(show ∃t,u=Value.int i t from r); cases e; rfl
 | str x=>obtain⟨t,e⟩:=(show ∃t,u=Value.str x t from r); cases e; rfl
 | byt b=>obtain⟨t,e⟩:=(show ∃t,u=Value.bytes b t from r); cases e; rfl
 | flt b=>obtain⟨t,e⟩:=(show ∃t,u=Value.float b t from r); cases e; rfl
 | ref a=>cases (show u=Value.ref a from r); rfl
 | ty n=>cases (show u=Value.type n from r); rfl
section
variable {P:Program} {w:World} {H H':Hp} {h h':Heap} {a C dx:Addr} {fs fs':List (Str×V)}
theorem zo8 (hok:HOk P w H h) (e:H a=some (.ins C dx fs)):∃mA,ObjM h a dx C mA/\(∀f,zpq (fs.lookup f) (mA f))/\PySem.Within mA (fs.map (·.1))/\fs.length<=1000/\H dx=some (.own a):=by
 obtain⟨d,z,ne,ob,mA,n,r,q⟩:=(show zdm P w H h a (.ins C dx fs) from hok a _ e)
 exact⟨mA,⟨ob,n,ne⟩,r,q,z,d⟩
end
structure Cls (K:W.Frag) (C:Addr):Prop where
 pg:PySem.W.plainGet K C Str.empty=true
 hd:PySem.W.hasDictIn K C=true
 po:PySem.W.plainOver K C=true
 sa:PySem.W.findIn K (.ref C) "__setattr__"=some (some (.builtin "object.__setattr__"))
theorem Cls.get {K:W.Frag} {C:Addr} (c:Cls K C) (f:Str):PySem.W.plainGet K C f=true:=c.pg
def zdu (K:W.Frag) (C:Addr) (f:Str):Prop:=PySem.W.findIn K (.ref C) f=some none
theorem zdu.taker {K:W.Frag} {C:Addr} {f:Str} (n:zdu K C f):PySem.W.takerIn K C f=some none:=by unfold PySem.W.takerIn;rw[show PySem.W.findIn K (.ref C) f=some none from n];rfl
structure Meth (K:W.Frag) (C:Addr) (m:Str) (f:Addr):Prop where
 at_:PySem.W.findIn K (.ref C) m=some (some (.ref f))
 fn:PySem.W.isFn K (.ref f)=true
 kp:PySem.W.keepIn K (.ref f)=true
section
variable {X:Cx} {pins:List (Addr×Obj)} {σ:St} {H:Hp} {s:Shared} {a C dx:Addr} {fs:List (Str×V)} {f:Str} {v:V} {A:Around} {E:Value->Shared->Prop}
theorem zt2 {b:Bool} {Q:Value->Shared->Prop} (I:Inv X pins σ H s) (e:H a=some (.ins C dx fs)) (c:Cls X.K C) (n:zdu X.K C f) (l:fs.lookup f=some v)
   (h:∀u s',Inv X pins σ H s'->zc4 v u->Q u s'):wpAny (model X.prog X.w) A (getAttr (.ref a) f b) Q E s:=by
 obtain⟨mA,O,r,_,_,_⟩:=zo8 I.hok e;obtain⟨u,hu,ru⟩:=zpq.some_of (v:=v) (o:=mA f) (by rw[<- l]; exact r f);exact z12 I.kIn O (c.get f) c.hd n hu (zv7 ru) (h u _ (I.tok _) ru)
theorem zlf {m:Str} {g:Addr} {pl:Sem Bool} {Q:Value×List Value->Shared->Prop} (I:Inv X pins σ H s) (e:H a=some (.ins C dx fs)) (c:Cls X.K C) (k:Meth X.K C m g) (l:fs.lookup m=none)
   (h:Q (.ref g,[.ref a]) s):wpAny (model X.prog X.w) A (getMethod (.ref a) m pl) Q E s:=by
 obtain⟨mA,O,r,_,_,_⟩:=zo8 I.hok e;have hn:mA m=none:=zpq.none_of (by rw[<- l]; exact r m);exact zyv I.kIn O (c.get m) k.at_ k.fn hn h
theorem zun {y:V} {u:Value} {Q:Unit->Shared->Prop} (I:Inv X pins σ H s) (e:H a=some (.ins C dx fs)) (c:Cls X.K C) (n:zdu X.K C f) (hl:fs.length<1000) (ry:zc4 y u)
   (h:∀s',Inv X pins σ (upd H a (.ins C dx (zj2 f y fs))) s'->Q () s'):wpAny (model X.prog X.w) A (setAttr (.ref a) f u) Q E s:=by
 obtain⟨mA,O,r,wi,_,ho⟩:=zo8 I.hok e;have hz:(fs.map (·.1)).length<=sizeLine:=by rw[List.length_map,sizeLine_eq]; omega
 refine z2v I.kIn O c.sa c.po n.taker c.hd wi hz λh' O' sb=>h _ ?_;have hd:∃o,h'.get? dx=some o:=let ⟨o,_,_,e',_⟩:=O'.ns; ⟨o,e'⟩
 refine I.write (x:=a) (e:=dx) (by rw[e]; exact True.intro) (.inr ho) (λb q hb z=>(sb.2 b hb).trans z) hd ?_;refine⟨by rw[zag O.ne]; exact ho,?_,O.ne,O'.obj,_,O'.ns,λg=>?_,λg hg=>?_⟩
 . have:=zer f y fs; omega
 . show zpq ((zj2 f y fs).lookup g) (if g=f then some u else mA g);rw[zar];by_cases q:g=f
   . rw[if_pos q,if_pos q]; exact ry
   . rw[if_neg q,if_neg q]; exact r g
 . by_cases q:g=f
   . rw[q]; exact(zm3 f y fs).1
   . refine(zm3 f y fs).2 g (wi g λz=>hg ?_);show(if g=f then some u else mA g)=none;rw[if_neg q]; exact z
theorem Inv.made (I:Inv X pins σ H s):Inv X pins σ (upd (upd H s.heap.objs.size (.own (s.heap.objs.size+1))) (s.heap.objs.size+1) (.ins C s.heap.objs.size []))
   { s with heap:=(s.heap.push PySem.W.emptyDict).push (PySem.W.instObj C s.heap.objs.size) }:=by
 have e1:(s.heap.push PySem.W.emptyDict).get? s.heap.objs.size=some PySem.W.emptyDict:=qap s.heap rfl;have e2:((s.heap.push PySem.W.emptyDict).push (PySem.W.instObj C s.heap.objs.size)).get? (s.heap.objs.size+1)=some (PySem.W.instObj C s.heap.objs.size):=by have:=qap (s.heap.push PySem.W.emptyDict) (o:=PySem.W.instObj C s.heap.objs.size) rfl;rwa [qby] at this
 have e3:(s.heap.push PySem.W.emptyDict).Ns s.heap.objs.size (λ_=>none):=⟨PySem.W.emptyDict,#[],_,e1,rfl,(λe he=>absurd he (by simp)),λ_=>rfl⟩
 have I1:=I.laid (a:=s.heap.objs.size) (o:=.own (s.heap.objs.size+1)) (h':=s.heap.push PySem.W.emptyDict) (t':=s.toks) (λb u q=>Heap.get?_push_of_some _ q) (qae _) ⟨_,e1⟩;refine I1.laid (a:=s.heap.objs.size+1) (o:=.ins C s.heap.objs.size []) (t':=s.toks) (λb u q=>Heap.get?_push_of_some _ q) (Nat.le_of_eq (qby _ _)) ?_;have ne:s.heap.objs.size≠s.heap.objs.size+1:=qa2 (qca _);refine⟨by rw[zag ne,zac],qa6 _,ne,e2,λ_=>none,(Heap.Ns1.of_empty e3).at λo q=>Heap.get?_push_of_some _ q,λ_=>True.intro,λy hy=>absurd rfl hy⟩
theorem z1b {prog:Program} {w:World} {env:Env} {e:Expr} {f:Str} {pos:Pos} {s:Shared} {Q:Value->Shared->Prop} (hb:attributeBase e f env (eval e env)=eval e env)
   (h:wpAny (model prog w) A (eval e env) (λo s₁=>wpAny (model prog w) A (getAttr o f true) Q E s₁) E s):wpAny (model prog w) A (eval (.Attribute e f pos) env) Q E s :=
 Attribute_any_ h (by rw[arm_eval_Attribute,hb])
end
def tFld (K:W.Frag) (ta:TE) (f:Str):TE:=λσ H Q=>ta σ H λx H1=>∃a C dx fs v,x=.ref a/\H1 a=some (.ins C dx fs)/\Cls K C/\zdu K C f/\fs.lookup f=some v/\Q v H1
def sFld (K:W.Frag) (ta tv:TE) (f:Str):TS:=λD σ H=>tv σ H λy H1=>ta σ H1 λx H2=>∃a C dx fs,x=.ref a/\H2 a=some (.ins C dx fs)/\Cls K C/\zdu K C f/\fs.length<1000 /\
 D.nx σ (upd H2 a (.ins C dx (zj2 f y fs)))
section
variable {X:Cx} {o e value:Expr} {f:Str} {pos pos' tpos:Pos} {ta tv:TE}
theorem zbh (he:PE X e ta) (hb:attributeBase e f X.env (eval e X.env)=eval e X.env):PE X (.Attribute e f pos) (tFld X.K ta f):=by intro pins s σ H Q I h;refine z1b hb (thn (he pins s σ H _ I h) λu s1 ⟨x,H1,I1,rx,a,C,dx,fs,v,ex,ea,c,n,l,q⟩=>?_);subst ex;obtain rfl:u=Value.ref a:=rx;exact zt2 I1 ea c n l λu' s2 I2 ru=>⟨v,H1,I2,ru,q⟩
theorem zek (ha:PE X o ta) (hv:PE X value tv) (hs:swapsWith value (some (.Attribute o f pos')) pos.line X.env=pure false):PS X (.Assign [.Attribute o f pos'] value pos) (sFld X.K ta tv f):=by intro pins s σ H D I h;refine plainObj_wpAny_Assign_Attribute (thn (hv pins s σ H _ I h) λu s1 ⟨y,H1,I1,ry,q⟩=>thn (ha pins s1 σ H1 _ I1 q) λov s2 ⟨x,H2,I2,rx,a,C,dx,fs,ex,ea,c,n,l,q2⟩=>?_) hs;subst ex;obtain rfl:ov=Value.ref a:=rx;exact zun I2 ea c n l ry λs3 I3=>⟨σ,_,I3,q2⟩
end
section
variable {X:Cx} {pins:List (Addr×Obj)} {σ:St} {H:Hp} {s:Shared} {A:Around} {E:Value->Shared->Prop} {Q:Value->Shared->Prop} {c:Value} {b:Bool}
inductive TyOf (K:W.Frag) (H:Hp):V->Value->Prop where
 | non:TyOf K H .non (.type "NoneType")
 | bl (x:Bool):TyOf K H (.bl x) (.type "bool")
 | int (i:Int):TyOf K H (.int i) (.type "int")
 | str (x:Str):TyOf K H (.str x) (.type "str")
 | flt (x:UInt64):TyOf K H (.flt x) (.type "float")
 | lst {a:Addr} {xs:List V} (e:H a=some (.lst xs)):TyOf K H (.ref a) (.type "list")
 | frz {a:Addr} {o:Obj} {xs:List V} (e:H a=some (.frz o (.lst xs))):TyOf K H (.ref a) (.type "list")
 | tup {a:Addr} {xs:List V} (e:H a=some (.tup xs)):TyOf K H (.ref a) (.type "tuple")
 | dK {a:Addr} {kvs:List (Key×V)} (e:H a=some (.dK kvs)):TyOf K H (.ref a) (.type "dict")
 | dT {a:Addr} {kvs:List (List Key×V)} (e:H a=some (.dT kvs)):TyOf K H (.ref a) (.type "dict")
 | ins {a C dx:Addr} {fs:List (Str×V)} (e:H a=some (.ins C dx fs)) (cl:Cls K C) (ha:PySem.W.findIn K (.ref C) "__class__"=some (some (.builtin "object.__class__")))
     (hn:PySem.W.specialIn K (.builtin "object.__class__") "__get__"=some (some (.builtin "getset_descriptor.__get__"))) (htk:PySem.W.takesIn K (.builtin "object.__class__")=some true)
     (hm:PySem.W.mroIn K C (.type "object")=some true):TyOf K H (.ref a) (.ref C)
theorem zvf {x:V} {u t:Value} (I:Inv X pins σ H s) (rx:zc4 x u) (ty:TyOf X.K H x t) (e:PySem.W.kitOne X.K t c=some b) (h:∀tk,Q (.bool b) { s with toks:=tk }) :
   wpAny (model X.prog X.w) A (call (.builtin "isinstance") [u,c]) Q E s:=by
 cases ty with
 | non=>cases (show u=Value.none from rx); exact PySem.W.kia_one PySem.W.kitx_none I.kIn True.intro e (λz=>nomatch z) h
 | bl y=>cases (show u=Value.bool y from rx); exact PySem.W.kia_one PySem.W.kitx_bool I.kIn True.intro e (λz=>nomatch z) h
 | int i=>obtain⟨t,q⟩:=(show ∃t,u=Value.int i t from rx); cases q; exact PySem.W.kia_one PySem.W.kitx_int I.kIn True.intro e (λz=>nomatch z) h
 | str y=>obtain⟨t,q⟩:=(show ∃t,u=Value.str y t from rx); cases q; exact PySem.W.kia_one PySem.W.kitx_str I.kIn True.intro e (λz=>nomatch z) h
 | flt y=>obtain⟨t,q⟩:=(show ∃t,u=Value.float y t from rx); cases q; exact PySem.W.kia_one PySem.W.kitx_float I.kIn True.intro e (λz=>nomatch z) h
 | @lst a xs ea =>
   cases (show u=Value.ref a from rx);obtain⟨_,_,n,_,h1⟩:=(show zdm X.prog X.w H s.heap a (.lst xs) from I.hok a _ ea)
   exact PySem.W.kia_one PySem.W.kitx_list I.kIn ⟨_,h1,rfl⟩ e (λz=>nomatch z) h
 | @frz a ob xs ea =>
   cases (show u=Value.ref a from rx);obtain⟨_,_,_,n,_,h1⟩:=(show zdm X.prog X.w H s.heap a (.frz ob (.lst xs)) from I.hok a _ ea)
   exact PySem.W.kia_one PySem.W.kitx_list I.kIn ⟨_,h1,rfl⟩ e (λz=>nomatch z) h
 | @tup a xs ea =>
   cases (show u=Value.ref a from rx);obtain⟨_,_,_,p⟩:=(show zdm X.prog X.w H s.heap a (.tup xs) from I.hok a _ ea)
   obtain⟨o,h1,h2,_⟩:=p;exact PySem.W.kia_one PySem.W.kitx_tuple I.kIn ⟨o,h1,h2⟩ e (λz=>nomatch z) h
 | @dK a kvs ea =>
   cases (show u=Value.ref a from rx);obtain⟨_,_,vs,_,p⟩:=(show zdm X.prog X.w H s.heap a (.dK kvs) from I.hok a _ ea)
   obtain⟨o,es,ep,h1,h2,_⟩:=p;exact PySem.W.kia_one PySem.W.kitx_dict I.kIn ⟨o,h1,h2.1⟩ e (λz=>nomatch z) h
 | @dT a kvs ea =>
   cases (show u=Value.ref a from rx);obtain⟨_,_,xs,_,o,es,ep,h1,h2,_⟩:=(show zdm X.prog X.w H s.heap a (.dT kvs) from I.hok a _ ea)
   exact PySem.W.kia_one PySem.W.kitx_dict I.kIn ⟨o,h1,h2.1⟩ e (λz=>nomatch z) h
 | @ins a C dx fs ea cl ha hn htk hm =>
   cases (show u=Value.ref a from rx);obtain⟨mA,O,_⟩:=zo8 I.hok ea;obtain⟨od,J,_⟩:=O.look;exact PySem.W.kia_one (PySem.W.kitx_own (cl.get _) cl.hd ha hn htk hm) I.kIn J e (λz=>nomatch z) h
end
structure Room (k:Nat) (A:Around):Prop where
 hd:A.handled=none
 dp:A.depth+3 * k+5<recursionLimit
 un:A.units+16 * k+200<cLine
theorem Room.mono {j k:Nat} {A:Around} (r:Room k A) (h:j<=k):Room j A:=⟨r.hd,by have:=r.dp; omega,by have:=r.un; omega⟩
theorem Room.deeper {k:Nat} {A:Around} (r:Room (k+1) A) (env:Env):Room k (A.deeper env) :=
 ⟨r.hd,by have:=r.dp; show A.depth+1+3 * k+5<_; omega,by have:=r.un; show A.units+3+16 * k+200<_; omega⟩
theorem zt5 {A:Around} {C:Addr} {us:List Value} {kw:List (Str×Value)}:(A.under (.builtin "type.__call__" ⟨.ref C :: us,kw⟩)).depth=A.depth+1:=by
 first|rfl|simp [Around.under,Code.weight,Code.isCreation,Code.isGuard,Code.isCaller,Code.frames,Code.isFrame,guardIds]
theorem zui {A:Around} {C:Addr} {us:List Value} {kw:List (Str×Value)}:(A.under (.builtin "type.__call__" ⟨.ref C :: us,kw⟩)).units=A.units+1:=by
 first|rfl|simp [Around.under,Code.cUnits,Code.frames,Code.isFrame]
theorem Room.make {k:Nat} {A:Around} (r:Room (k+1) A) (C:Addr) (us:List Value) (kw:List (Str×Value)):Room k (A.under (.builtin "type.__call__" ⟨.ref C :: us,kw⟩)) :=
 ⟨r.hd,by have:=r.dp; rw[zt5]; omega,by have:=r.un; rw[zui]; omega⟩
theorem Room.depth {k:Nat} {A:Around} (r:Room k A):A.depth<recursionLimit:=by have:=r.dp; omega
theorem Room.units {k:Nat} {A:Around} (r:Room k A):A.units+64<cLine:=by have:=r.un; omega
def z5i:TA:=λ_ H Q=>Q [] H
def zsd (ta:TE) (tr:TA):TA:=λσ H Q=>ta σ H λx H1=>tr σ H1 λxs H2=>Q (x :: xs) H2
section
variable {X:Cx} {e:Expr} {es:List Expr} {te:TE} {t:TA} {pos:Pos}
theorem zaf:PA X [] z5i:=λ_ _ _ _ H Q I h=>Calls.spliced_nil ⟨[],H,I,.nil,h⟩
theorem zaa (ha:PE X e te) (hr:PA X es t) (hs:starEach (e :: es) X.env=(false,eval e X.env) :: starEach es X.env:=by rfl):PA X (e :: es) (zsd te t):=by intro pos pins s σ H Q I h;rw[hs];show wpAny _ _ (spliced ((false,eval e X.env) :: backTo pos (starEach es X.env))) _ _ s;refine Calls.spliced_cons (thn (ha pins s σ H _ I h) λu s1 ⟨x,H1,I1,r1,q1⟩=>?_);exact thn (hr pos pins s1 σ H1 _ I1 q1) λus s2 ⟨xs,H2,I2,r2,q2⟩=>⟨x :: xs,H2,I2,.cons r1 r2,q2⟩
def tTup (t:TA):TE:=λσ H Q=>t σ H λxs H1=>xs.length<=sizeLine/\∀p,H1 p=none->Q (.ref p) (upd H1 p (.tup xs))
def tLst (t:TA):TE:=λσ H Q=>t σ H λxs H1=>xs.length<=sizeLine/\∀p,H1 p=none->Q (.ref p) (upd H1 p (.lst xs))
theorem zck {x1} (h:PA X es t):PE X (.Tuple es x1 pos) (tTup t):=by intro pins s σ H Q I hq;refine wpAny_Tuple_spliced (thn (h pos pins s σ H _ I hq) λus s1 ⟨xs,H1,I1,r,z,q⟩=>⟨by rw[<- r.length]; exact z,?_⟩);have hf:H1 s1.heap.objs.size=none:=I1.hok.fresh (qae _);refine⟨.ref s1.heap.objs.size,upd H1 s1.heap.objs.size (.tup xs),I1.laid (t':=s1.toks) (λb u e=>Heap.get?_push_of_some _ e) (qae _) ?_,rfl,q _ hf⟩;exact⟨z,us,r,⟨_,qap _ rfl,rfl,_,rfl⟩⟩
theorem zdj (h:PA X es t):PE X (.List es pos) (tLst t):=by intro pins s σ H Q I hq;refine wpAny_List_spliced (thn (h pos pins s σ H _ I hq) λus s1 ⟨xs,H1,I1,r,z,q⟩=>⟨by rw[<- r.length]; exact z,?_⟩);have hf:H1 s1.heap.objs.size=none:=I1.hok.fresh (qae _);refine⟨.ref s1.heap.objs.size,upd H1 s1.heap.objs.size (.lst xs),I1.laid (t':=s1.toks) (λb u e=>Heap.get?_push_of_some _ e) (qae _) ?_,rfl,q _ hf⟩;exact⟨z,us,0,r,qap _ rfl⟩
end
abbrev Sp:=List V->Hp->VK->XK->Prop
abbrev CXT:=List Env->Hp->Shared->XK->Value->Shared->Prop
structure Env0 (P:Program) (w:World) (K:W.Frag) (mg:Str->Option Value) (base:Heap) (A:Around) (outer:List Env) (s:Shared) (H:Hp):Prop where
 frames:A.frames=some outer
 mod:Mod K mg base
 bs:∀b o,base.get? b=some o->s.heap.get? b=some o/\H b=none
 bsz:base.objs.size<=s.heap.objs.size
 funs:s.heap.FunFrames base outer
 frf:∀b∈frs outer,H b=none
 hok:HOk P w H s.heap
 bare:AllBare s.gens
def CE (outer:List Env) (P:Program) (w:World) (H:Hp) (s:Shared) (Q:VK) (u:Value) (s':Shared):Prop :=
 ∃v H',s'.os=s.os/\AllBare s'.gens/\Un (frs outer) [] H H' s.heap s'.heap/\HOk P w H' s'.heap/\zc4 v u/\Q v H'
def CR (CX:CXT) (outer:List Env) (P:Program) (w:World) (H:Hp) (s:Shared) (Q:VK) (E:XK) (r:Result) (s':Shared):Prop :=
 match r with
 | .ok (.ret u)=>CE outer P w H s Q u s'
 | .ok _=>False
 | .error e=>CX outer H s E e s'
structure FnOk (P:Program) (w:World) (K:W.Frag) (mg:Str->Option Value) (base:Heap) (CX:CXT) (k:Nat) (f:Addr) (fd:FuncData) (ps:List Str) (sp:Sp):Prop where
 len:∀vs H Q E,sp vs H Q E->vs.length=ps.length
 run:∀(A:Around) (outer:List Env) (s:Shared) (H:Hp) (args:Args) (us:List Value) (vs:List V) (Q:VK) (E:XK),Room k A->Env0 P w K mg base A outer s H->BindsTo s fd args (ps.zip us)->zcq vs us->sp vs H Q E ->
   codeAny (model P w) A (.call (.ref f) args) (CR CX outer P w H s Q E) s
theorem Env0.make {P:Program} {w:World} {K:W.Frag} {mg:Str->Option Value} {base:Heap} {A:Around} {outer:List Env} {s:Shared} {H:Hp} (e:Env0 P w K mg base A outer s H) (C:Addr) (us:List Value) (kw:List (Str×Value)) :
   Env0 P w K mg base (A.under (.builtin "type.__call__" ⟨.ref C :: us,kw⟩)) outer s H:=⟨by first|exact e.frames|(simpa [Around.under,Code.envs,Code.isFrame,pushEnvs] using e.frames),e.mod,e.bs,e.bsz,e.funs,e.frf,e.hok,e.bare⟩
section
variable {X:Cx} {pins:List (Addr×Obj)} {σ:St} {H:Hp} {s s':Shared}
theorem Inv.env0 (I:Inv X pins σ H s):Env0 X.prog X.w X.K X.mg X.base X.A X.stack s H :=
 ⟨I.ok.frames,I.ok.mod,I.bs,Nat.le_trans I.ok.bsz I.sz,I.stack,I.stkFree,I.hok,I.bare⟩
theorem Inv.after {Q:VK} {u:Value} (I:Inv X pins σ H s) (h:CE X.stack X.prog X.w H s Q u s'):EP X pins σ Q u s':=by obtain⟨v,H',os,bare,un,hok,r,q⟩:=h;obtain⟨hh,g,d,t,os'⟩:=s';obtain rfl:os'=s.os:=os;exact⟨v,H',I.call (h':=hh) (g':=g) (d':=d) (t':=t) (ch:=[]) un hok bare (λb z=>absurd z (by simp)),r,q⟩
end
def zvw (sp:Sp) (dvs:List V) (E:XK) (t:TA):TE:=λσ H Q=>t σ H λvs H1=>sp (vs++dvs) H1 Q E
def z09 (C:Addr) (m:Str) (sp:Sp) (dvs:List V) (E:XK) (ta:TE) (t:TA):TE:=λσ H Q=>ta σ H λx H1=>∃a dx fs,x=.ref a/\H1 a=some (.ins C dx fs)/\fs.lookup m=none /\
 t σ H1 λvs H2=>sp (x :: (vs++dvs)) H2 Q E
def z3v (C:Addr) (sp:Sp) (dvs:List V) (E:XK) (t:TA):TE:=λσ H Q=>t σ H λvs H1=>∀x dx,H1 x=none->H1 dx=none->dx≠x ->
 sp (.ref x :: (vs++dvs)) (upd (upd H1 dx (.own x)) x (.ins C dx [])) (λv H2=>v=.non/\Q (.ref x) H2) E
def zjq (K:W.Frag) (fd:FuncData) (ps:List Str) (ds:List Value):Prop :=
 ∀(s:Shared) (us:List Value),K.In s.heap->(us++ds).length=ps.length->BindsTo s fd ⟨us,[]⟩ (ps.zip (us++ds))
theorem zjq.all {K:W.Frag} {fd:FuncData} {ps:List Str} (h:∀us:List Value,us.length=ps.length->bindArgs fd ⟨us,[]⟩=pure (ps.zip us)):zjq K fd ps []:=λs us _ hl=>by rw[qbg] at hl ⊢;exact .of_eq (h us hl)
def zjf (CX:CXT) (X:Cx) (E:XK):Prop:=∀(pins:List (Addr×Obj)) (σ:St) (H:Hp) (s:Shared) (e:Value) (s':Shared),Inv X pins σ H s->CX X.stack H s E e s'->X.xe e s'
section
variable {X:Cx} {CX:CXT} {k:Nat} {f C:Addr} {fd:FuncData} {ps:List Str} {sp:Sp} {dvs:List V} {ds:List Value} {E:XK} {x m:Str} {p pos apos:Pos} {e o:Expr} {es:List Expr} {ta:TE} {t:TA}
theorem ztg {pins:List (Addr×Obj)} {σ:St} {H:Hp} {s:Shared} {Q:VK} {us:List Value} {vs:List V} (F:FnOk X.prog X.w X.K X.mg X.base CX k f fd ps sp) (hr:Room k X.A) (hb:zjq X.K fd ps ds) (hd:zcq dvs ds) (hx:zjf CX X E)
   (I:Inv X pins σ H s) (r:zcq vs us) (h:sp (vs++dvs) H Q E):wpAny (model X.prog X.w) X.A (call (.ref f) us) (EP X pins σ Q) X.xe s:=by
 have r2:zcq (vs++dvs) (us++ds):=r.append hd;have hl:(us++ds).length=ps.length:=by rw[<- r2.length]; exact F.len _ _ _ _ h
 refine wpAny_call (codeAny_mono (F.run X.A X.stack s H ⟨us,[]⟩ (us++ds) (vs++dvs) Q E hr I.env0 (hb s us I.kIn hl) r2 h) λr s' hq=>?_);cases r with
 | error e=>exact hx pins σ H s e s' I hq
 | ok fl =>
   cases fl with
   | ret u=>exact I.after hq
   | next=>exact False.elim hq
   | brk=>exact False.elim hq
   | cont=>exact False.elim hq
theorem z2w (F:FnOk X.prog X.w X.K X.mg X.base CX k f fd ps sp) (hr:Room k X.A) (hg:Gl X x) (hm:X.mg x=some (.ref f)) (hk:PySem.W.keepIn X.K (.ref f)=true) (hb:zjq X.K fd ps ds) (hd:zcq dvs ds) (hx:zjf CX X E)
   (ha:PA X (e :: es) t) (hdb:(x==("__debug__":Str))=false:=by decide) (he:starEach (e :: es) X.env=(false,eval e X.env) :: starEach es X.env:=by rfl) (hpl:(backTo pos (starEach es X.env)).any (·.1)=false:=by rfl) :
   PE X (.Call (.Name x p) (e :: es) [] pos) (zvw sp dvs E t):=by
 intro pins s σ H Q I h;refine wpAny_Call_Name_kw (zmx I hg hm ?_ hdb);refine PySem.W.callWith_K (h₀:=X.base) I.ok.mod.kin hk (thn (ha pos pins s σ H _ I h) λus s1 ⟨vs,H1,I1,r,q⟩=>⟨I1.kIn,?_⟩) he hpl;exact ztg F hr hb hd hx I1 r q
theorem za9 {pl:Sem Bool} (he:PE X o ta) (c:Cls X.K C) (hm:Meth X.K C m f) (F:FnOk X.prog X.w X.K X.mg X.base CX k f fd ps sp) (hr:Room k X.A) (hb:zjq X.K fd ps ds) (hd:zcq dvs ds) (hx:zjf CX X E) (ha:PA X (e :: es) t)
   (hst:starEach (e :: es) X.env=(false,eval e X.env) :: starEach es X.env:=by rfl) (hpl:(backTo pos (starEach es X.env)).any (·.1)=false:=by rfl)
   (ht:eval (.Call (.Attribute o m apos) (e :: es) [] pos) X.env=(do
     let ov <- eval o X.env
     standAt apos.atName
     let (f,first) <- holding [ov] (getMethod ov m pl)
     callWith pos f first (backTo pos (starEach (e :: es) X.env)) (backToKw pos (keywordEach [] X.env))):=by rfl) :
   PE X (.Call (.Attribute o m apos) (e :: es) [] pos) (z09 C m sp dvs E ta t):=by
 intro pins s σ H Q I h;refine PySem.W.methodCall_KW (pl:=pl) (thn (he pins s σ H _ I h) λu s1 ⟨x,H1,I1,rx,a,dx,fs,ex,ea,l,q⟩=>?_) ht;subst ex;obtain rfl:u=Value.ref a:=rx;refine zlf I1 ea c hm l ?_;refine PySem.W.callWith_K (first:=[.ref a]) (h₀:=X.base) I.ok.mod.kin hm.kp (thn (ha pos pins s1 σ H1 _ I1 q) λus s2 ⟨vs,H2,I2,r,q2⟩=>⟨I2.kIn,?_⟩) hst hpl;exact ztg (us:=.ref a :: us) (vs:=.ref a :: vs) F hr hb hd hx I2 (.cons rfl r) q2
theorem zgk {pl:Sem Bool} (he:PE X o ta) (c:Cls X.K C) (hm:Meth X.K C m f) (F:FnOk X.prog X.w X.K X.mg X.base CX k f fd ps sp) (hr:Room k X.A) (hb:zjq X.K fd ps ds) (hd:zcq dvs ds) (hx:zjf CX X E)
   (ht:eval (.Call (.Attribute o m apos) [] [] pos) X.env=(do
     let ov <- eval o X.env
     standAt apos.atName
     let (f,first) <- holding [ov] (getMethod ov m pl)
     callWith pos f first (backTo pos (starEach [] X.env)) (backToKw pos (keywordEach [] X.env))):=by rfl) :
   PE X (.Call (.Attribute o m apos) [] [] pos) (z09 C m sp dvs E ta z5i):=by
 intro pins s σ H Q I h;refine PySem.W.methodCall_KW (pl:=pl) (thn (he pins s σ H _ I h) λu s1 ⟨x,H1,I1,rx,a,dx,fs,ex,ea,l,q⟩=>?_) ht;subst ex;obtain rfl:u=Value.ref a:=rx;refine zlf I1 ea c hm l ?_;exact PySem.W.callWith_K0 (first:=[.ref a]) I1.kIn hm.kp (ztg (us:=[.ref a]) (vs:=[.ref a]) F hr hb hd hx I1 (.cons rfl .nil) q)
structure Mk (K:W.Frag) (C f:Addr):Prop where
 makes:PySem.W.makesIn K C=true
 init:PySem.W.findIn K (.ref C) "__init__"=some (some (.ref f))
 fn:PySem.W.isFn K (.ref f)=true
 kp:PySem.W.keepIn K (.ref C)=true
theorem zz0 {pins:List (Addr×Obj)} {σ:St} {H:Hp} {s:Shared} {Q:VK} {us:List Value} {vs:List V} (M:Mk X.K C f) (F:FnOk X.prog X.w X.K X.mg X.base CX k f fd ps sp) (hr:Room (k+1) X.A) (hb:zjq X.K fd ps ds) (hd:zcq dvs ds)
   (hx:zjf CX X E) (I:Inv X pins σ H s) (r:zcq vs us)
   (h:∀x dx,H x=none->H dx=none->dx≠x->sp (.ref x :: (vs++dvs)) (upd (upd H dx (.own x)) x (.ins C dx [])) (λv H2=>v=.non/\Q (.ref x) H2) E) :
   wpAny (model X.prog X.w) X.A (call (.ref C) us) (EP X pins σ Q) X.xe s:=by
 have hq:=h (s.heap.objs.size+1) s.heap.objs.size (I.hok.fresh (qcm _)) (I.hok.fresh (qae _)) (qa2 (qca _));have I2:=Inv.made (C:=C) I;have r2:zcq (V.ref (s.heap.objs.size+1) :: (vs++dvs)) (Value.ref (s.heap.objs.size+1) :: (us++ds)):=.cons rfl (r.append hd);have hl:(Value.ref (s.heap.objs.size+1) :: us++ds).length=ps.length:=by have e:=r2.length;rw[F.len _ _ _ _ hq] at e;exact e.symm
 refine wpAny_call (zy1 (f:=f) I.kIn M.makes M.init (beq_iff_eq.mp M.fn) (codeAny_mono (F.run _ X.stack _ _ ⟨Value.ref (s.heap.objs.size+1) :: us,[]⟩ (Value.ref (s.heap.objs.size+1) :: (us++ds)) _ _ E (hr.make C us [])
   (I2.env0.make C us []) (hb _ (Value.ref (s.heap.objs.size+1) :: us) I2.kIn hl) r2 hq) λr s' hq'=>?_))
 cases r with
 | error e=>exact hx pins σ _ _ e s' I2 hq'
 | ok fl =>
   cases fl with
   | ret u =>
     obtain⟨v,H',I3,rv,ev,q3⟩:=I2.after hq';subst ev;exact⟨rv,⟨V.ref (s.heap.objs.size+1),H',I3,rfl,q3⟩⟩
   | next=>exact False.elim hq'
   | brk=>exact False.elim hq'
   | cont=>exact False.elim hq'
theorem z2a (M:Mk X.K C f) (F:FnOk X.prog X.w X.K X.mg X.base CX k f fd ps sp) (hr:Room (k+1) X.A) (hg:Gl X x) (hm:X.mg x=some (.ref C)) (hb:zjq X.K fd ps ds) (hd:zcq dvs ds) (hx:zjf CX X E)
   (ha:PA X (e :: es) t) (hdb:(x==("__debug__":Str))=false:=by decide) (he:starEach (e :: es) X.env=(false,eval e X.env) :: starEach es X.env:=by rfl) (hpl:(backTo pos (starEach es X.env)).any (·.1)=false:=by rfl) :
   PE X (.Call (.Name x p) (e :: es) [] pos) (z3v C sp dvs E t):=by
 intro pins s σ H Q I h;refine wpAny_Call_Name_kw (zmx I hg hm ?_ hdb);refine PySem.W.callWith_K (h₀:=X.base) I.ok.mod.kin M.kp (thn (ha pos pins s σ H _ I h) λus s1 ⟨vs,H1,I1,r,q⟩=>⟨I1.kIn,?_⟩) he hpl;exact zz0 M F hr hb hd hx I1 r q
end
structure FnScope (N P:List Str) (sc:Scope):Prop where
 kind:sc.kind=.function
 co:sc.isCoroutine=false
 gen:sc.isGenerator=false
 nd:N.Nodup
 pre:N.take P.length=P
 par:∀x∈P,sc.names.lookup x=some .local\/sc.names.lookup x=some .cell
 nofree:∀y∈sc.names,y.2≠.free
theorem zp2 {kindOf:Str->Option NameKind} {x:Str}:∀{binds:List (Str×Value)} {m:Str->Option Value},(∀v,(x,v) ∉ binds)->bindL kindOf binds m x=m x
 | [],_,_=>rfl
 | (n,v) :: r,m,h=>by
   unfold bindL;rw[zp2 λw hw=>h w (List.mem_cons_of_mem _ hw)];split
   . have:x≠n:=by rintro rfl; exact h v List.mem_cons_self
     simp [this]
   . rfl
theorem zp3 {kindOf:Str->Option NameKind} {x:Str}:∀{binds:List (Str×Value)} {m:Str->Option Value},(∀v,(x,v) ∉ binds)->bindC kindOf binds m x=m x
 | [],_,_=>rfl
 | (n,v) :: r,m,h=>by
   unfold bindC;rw[zp3 λw hw=>h w (List.mem_cons_of_mem _ hw)];split
   . rfl
   . have:x≠n:=by rintro rfl; exact h v List.mem_cons_self
     simp [this]
theorem zqk {kindOf:Str->Option NameKind} {x:Str} {v:Value}:∀{P:List Str} {vs:List Value} {i:Nat} {m:Str->Option Value},P.Nodup->P[i]?=some x->vs[i]?=some v->kindOf x=some .local ->
   bindL kindOf (P.zip vs) m x=some v
 | [],_,_,_,_,h,_,_=>by simp at h
 | _ :: _,[],_,_,_,_,h,_=>by simp at h
 | p :: P,w :: vs,0,m,nd,h1,h2,hk=>by simp at h1 h2; subst h1; subst h2;show bindL kindOf ((p,w) :: P.zip vs) m p=_;unfold bindL;rw[zp2 λv hv=>(qc7.mp nd).1 (qcv hv).1,if_pos hk];simp
 | p :: P,w :: vs,i+1,m,nd,h1,h2,hk=>by show bindL kindOf ((p,w) :: P.zip vs) m x=_;unfold bindL;exact zqk (i:=i) (qc7.mp nd).2 (by simpa using h1) (by simpa using h2) hk
theorem zp4 {kindOf:Str->Option NameKind} {x:Str} {v:Value}:∀{P:List Str} {vs:List Value} {i:Nat} {m:Str->Option Value},P.Nodup->P[i]?=some x->vs[i]?=some v->kindOf x≠some .local ->
   bindC kindOf (P.zip vs) m x=some v
 | [],_,_,_,_,h,_,_=>by simp at h
 | _ :: _,[],_,_,_,_,h,_=>by simp at h
 | p :: P,w :: vs,0,m,nd,h1,h2,hk=>by simp at h1 h2; subst h1; subst h2;show bindC kindOf ((p,w) :: P.zip vs) m p=_;unfold bindC;rw[zp3 λv hv=>(qc7.mp nd).1 (qcv hv).1,if_neg hk];simp
 | p :: P,w :: vs,i+1,m,nd,h1,h2,hk=>by show bindC kindOf ((p,w) :: P.zip vs) m x=_;unfold bindC;exact zp4 (i:=i) (qc7.mp nd).2 (by simpa using h1) (by simpa using h2) hk
def zph (N:List Str) (vs:List V):St:=vs.map some++List.replicate (N.length - vs.length) none
def zkf (CX:CXT) (P:Program) (w:World) (K:W.Frag) (mg:Str->Option Value) (base:Heap) (N:List Str) (qual:Str) (scope:Scope) (f:Addr) (cd:Value) (A:Around) (outer:List Env) (s:Shared) (H:Hp) (E:XK):Cx where
 prog:=P
 w:=w
 K:=K
 mg:=mg
 base:=base
 A:=A.deeper (envOfC qual scope s.heap.objs.size f cd)
 N:=N
 s₀:=s
 H₀:=H
 env:=envOfC qual scope s.heap.objs.size f cd
 outer:=outer
 stack:=envOfC qual scope s.heap.objs.size f cd :: outer
 ex:=[]
 calm:=true
 fn:=λ_=>true
 pn:=[]
 xe:=λe s'=>wpAny (model P w) (A.deeper (envOfC qual scope s.heap.objs.size f cd)) (leaving (envOfC qual scope s.heap.objs.size f cd) e) (λ_ s''=>CX outer H s E e s'') (λe' s''=>CX outer H s E e' s'') s'
theorem zs7 {sc:Scope} {n:Nat} {x:Str} (h:sc.names.lookup x=some .cell):∃c,(cellsFrom n sc.names []).lookup x=some c:=by have q:=PySem.W.cellsFrom_some sc.names n [] (.inl h);exact qcx.mp q
theorem zw2 {CX:CXT} {P:Program} {w:World} {K:W.Frag} {mg:Str->Option Value} {base:Heap} {N ps:List Str} {qual:Str} {scope:Scope} {f:Addr} {cd:Value} {A:Around} {outer:List Env} {s s1:Shared} {H:Hp} {E:XK} {us:List Value} {vs:List V}
   (S:FnScope N ps scope) (hd:A.handled=none) (e0:Env0 P w K mg base A outer s H) (hl:vs.length=ps.length) (r:zcq vs us)
   (x:InCallC s s.heap.objs.size (bindL (envOfC qual scope s.heap.objs.size f cd).kindOf (ps.zip us) λ_=>none) (cellsFrom (s.heap.objs.size+1) scope.names []) (bindC (envOfC qual scope s.heap.objs.size f cd).kindOf (ps.zip us) λ_=>none) s1) :
   Inv (zkf CX P w K mg base N qual scope f cd A outer s H E) [] (zph N vs) H s1:=by
 have hpl:ps.length<=N.length:=by have:=congrArg List.length S.pre; rw[qax] at this; omega
 obtain⟨h1,tk,rfl,hk⟩:=x.done;have noA:∀b:Addr,b ∉ (zkf CX P w K mg base N qual scope f cd A outer s H E).ex:=λb z=>absurd (show b∈([]:List Addr) from z) (by simp);refine⟨⟨e0.mod,S.kind,rfl,rfl,qae _,λy z c h1 h2=>?_,λy hy=>?_,λy c _ h=>?_,λ_=>hd,Around.frames_deeper e0.frames,.inr ⟨rfl,rfl⟩,λb z=>absurd z (noA b),e0.bs,e0.bsz,λb _ _=>noA b,λb z=>absurd z (noA b),e0.funs,e0.frf⟩,
   rfl,e0.bare,Un.kept hk,⟨_,x.toInCall.ns,λi y v h1 h2 h3=>?_⟩,λy c h=>⟨_,x.cell y c h⟩,e0.hok.fresh (qae _),λy c h=>?_,λp hp=>absurd (show p∈([]:List (Addr×Obj)) from hp) (by simp),e0.hok.kept hk,?_⟩
 . exact name_of_addr x.apart (PySem.mem_of_lookup h1) (PySem.mem_of_lookup h2)
 . have hy:scope.names.lookup y=some .cell\/scope.names.lookup y=some .free:=hy;rcases hy with hy|hy
   . exact zs7 hy
   . exact absurd rfl (S.nofree _ (PySem.mem_of_lookup hy))
 . exact qbq (x.above y c (PySem.mem_of_lookup h))
 . have hi:i<vs.length:=by
     unfold zph at h2;by_cases hi:i<vs.length
     . exact hi
     . rw[qbn (by simpa using hi)] at h2;rw[List.getElem?_replicate] at h2;split at h2 <;> cases h2
   have ha:vs[i]?=some v:=by
     unfold zph at h2;rw[qa3 (by simpa using hi),List.getElem?_map] at h2;cases e:vs[i]? with
     | none=>rw[e] at h2; cases h2
     | some a=>rw[e] at h2; cases h2; rfl
   obtain⟨u,hu,rv⟩:=r.get ha;have hp:ps[i]?=some y:=by rw[<- S.pre,qb8 (by omega)]; exact h1
   have ndP:ps.Nodup:=by rw[<- S.pre]; exact S.nd.sublist (List.take_sublist _ _)
   refine⟨u,rv,?_⟩;rcases S.par y (List.mem_of_getElem? hp) with k|k
   . exact .inl ⟨k,zqk ndP hp hu k⟩
   . obtain⟨c,e⟩:=zs7 (n:=s.heap.objs.size+1) k;refine .inr ⟨.inl k,c,e,?_⟩;have q:=x.cell y c e;rw[zp4 ndP hp hu (by show scope.names.lookup y≠_; rw[k]; decide)] at q;exact q
 . exact e0.hok.fresh (qbq (x.above y c (PySem.mem_of_lookup h)))
 . unfold zph;show _=N.length;rw[List.length_append,List.length_map,List.length_replicate];omega
theorem z4r {CX:CXT} {P:Program} {w:World} {K:W.Frag} {mg:Str->Option Value} {base:Heap} {k:Nat} {f:Addr} {name qual:Str} {params:Arguments} {body:List Stmt} {scope:Scope} {dV kV doc pm cdv ct oc:Value} {an od:Option Addr}
   {osl:Array (Option Value)} {N ps:List Str} {sp:Sp} (lk:K.lookup f=some ⟨oc,od,.func (PySem.W.fnOf name qual params body scope dV kV doc pm an cdv ct),osl⟩) (hcd:PySem.W.codeIn K cdv qual=true) (S:FnScope N ps scope)
   (len:∀vs H Q E,sp vs H Q E->vs.length=ps.length)
   (hbody:∀(A:Around) (outer:List Env) (s:Shared) (H:Hp) (vs:List V) (Q:VK) (E:XK),Room k (A.deeper (envOfC qual scope s.heap.objs.size f cdv))->sp vs H Q E ->
     ∃t,PSs (zkf CX P w K mg base N qual scope f cdv A outer s H E) body t/\t { nx:=λ_ H'=>Q .non H',rt:=Q } (zph N vs) H) :
   FnOk P w K mg base CX (k+1) f (PySem.W.fnOf name qual params body scope dV kV doc pm an cdv ct) ps sp:=by
 refine⟨len,λA outer s H args us vs Q E hr e0 hb r hsp=>?_⟩;have hl:=len _ _ _ _ hsp;have KX:K.In s.heap:=e0.mod.kin.keeps λb o e=>(e0.bs b o e).1;have lim:s.heap.NoLimit:=e0.mod.nolimit.keeps λb o e=>(e0.bs b o e).1;have hkind:∀y∈ps.zip us,scope.names.lookup y.1=some .local\/(scope.names.lookup y.1=some .cell/\((cellsFrom (s.heap.objs.size+1) scope.names []).lookup y.1).isSome=true):=λ⟨n,v⟩ hy=>by
   rcases S.par n (qcv hy).1 with q|q
   . exact .inl q
   . exact .inr ⟨q,PySem.W.cellsFrom_some _ _ _ (.inl q)⟩
 refine codeAny_call_function hr.depth (KX _ _ lk) rfl S.co S.gen rfl (PySem.W.codeRec_of KX hcd) (hb _ _ _ _ ?_);refine wpAny_newFunctionEnv_cells S.kind hkind λenv he s1 x=>?_;subst he;refine⟨lim.keeps x.toInCall.keep,codeAny_func ?_⟩;obtain⟨t,ht,hq⟩:=hbody A outer s H vs Q E (hr.deeper _) hsp;have I:Inv (zkf CX P w K mg base N qual scope f cdv A outer s H E) [] (zph N vs) H s1:=zw2 S hr.hd e0 hl r x;refine wpAny_mono (ht [] s1 (zph N vs) H _ I hq) (λfl s' hs=>?_) λe s' hs=>hs;have fin:∀{σ':St} {H':Hp} {v:V} {u:Value},Inv (zkf CX P w K mg base N qual scope f cdv A outer s H E) [] σ' H' s'->zc4 v u->Q v H'->CE outer P w H s Q u s' :=
   λ{σ' H' v u} J rv q=>⟨v,H',J.os,J.bare,J.base,J.hok,rv,q⟩
 cases fl with
 | ret u =>
   obtain⟨v,σ',H',J,rv,q⟩:=hs;exact fin J rv q
 | next =>
   obtain⟨σ',H',J,q⟩:=hs;exact fin (v:=V.non) (u:=Value.none) J rfl q
 | brk =>
   obtain⟨_,_,_,q⟩:=hs;exact False.elim q
 | cont =>
   obtain⟨_,_,_,q⟩:=hs;exact False.elim q
section
variable {X:Cx} {x:Str} {p pos:Pos} {e:Expr} {es:List Expr} {t:TA} {id T:String} {r:List V->Hp->VK->Prop}
def tCB (r:List V->Hp->VK->Prop) (t:TA):TE:=λσ H Q=>t σ H λvs H1=>r vs H1 Q
theorem zbs (hc:zjr X (.builtin id) r) (hg:Gl X x) (hm:X.mg x=none) (hv:bootBuiltins x=some (.builtin id)) (ha:PA X (e :: es) t) (hn:x≠"__name__":=by decide) (hdb:(x==("__debug__":Str))=false:=by decide)
   (he:starEach (e :: es) X.env=(false,eval e X.env) :: starEach es X.env:=by rfl) (hpl:(backTo pos (starEach es X.env)).any (·.1)=false:=by rfl):PE X (.Call (.Name x p) (e :: es) [] pos) (tCB r t):=by
 intro pins s σ H Q I h;refine wpAny_Call_Name_kw (zlt I hg hm hv ?_ hn hdb);exact PyProof.Rows.callWith_builtin1 (thn (ha pos pins s σ H _ I h) λus s1 ⟨vs,H1,I1,r1,q1⟩=>hc pins s1 σ H1 vs us Q I1 r1 q1) he hpl
theorem zb2 (hc:zjr X (.type T) r) (hg:Gl X x) (hm:X.mg x=none) (hv:bootBuiltins x=some (.type T)) (ha:PA X (e :: es) t) (hn:x≠"__name__":=by decide) (hdb:(x==("__debug__":Str))=false:=by decide)
   (he:starEach (e :: es) X.env=(false,eval e X.env) :: starEach es X.env:=by rfl) (hpl:(backTo pos (starEach es X.env)).any (·.1)=false:=by rfl):PE X (.Call (.Name x p) (e :: es) [] pos) (tCB r t):=by
 intro pins s σ H Q I h;refine wpAny_Call_Name_kw (zlt I hg hm hv ?_ hn hdb);exact qbr (thn (ha pos pins s σ H _ I h) λus s1 ⟨vs,H1,I1,r1,q1⟩=>hc pins s1 σ H1 vs us Q I1 r1 q1) he hpl
end
end L2
namespace HT
open PySem PyProof.Rows
section
variable {prog:Program} {w:World} {A:Around} {E:Value->Shared->Prop} {s:Shared}
def sIx (n d:Nat):Option Int->Nat
 | none=>d
 | some v=>if v<0 then(v+(n:Int)).toNat else min v.toNat n
theorem sIx_none (n d:Nat):sIx n d none=d:=rfl
theorem sIx_nat (n d k:Nat):sIx n d (some (k:Int))=min k n:=by show(if(k:Int)<0 then((k:Int)+(n:Int)).toNat else min (k:Int).toNat n)=min k n;rw[if_neg (by omega),qbe]
theorem z4s (n d:Nat) (hd:d<=n) (o:Option Int):sIx n d o<=n:=by
 cases o with
 | none=>exact hd
 | some v =>
   show(if v<0 then(v+(n:Int)).toNat else min v.toNat n)<=n;by_cases hv:v<0
   . rw[if_pos hv]; omega
   . rw[if_neg hv]; exact Nat.min_le_right _ _
theorem zvm (v:Int) (n d:Nat):(if v<0 then max (v+(n:Int)) 0 else min v (n:Int))=((sIx n d (some v):Nat):Int):=by
 show(if v<0 then max (v+(n:Int)) 0 else min v (n:Int))=(((if v<0 then(v+(n:Int)).toNat else min v.toNat n):Nat):Int);by_cases hv:v<0
 . simp only[if_pos hv]; omega
 . simp only[if_neg hv]; omega
theorem zuv (lo hi:Option Int) (n:Nat):Builtin.Slice.sliceAdjust lo hi 1 (n:Int)=(((sIx n 0 lo:Nat):Int),((sIx n n hi:Nat):Int)):=by
 have h1:¬ ((1:Int)<0):=by omega
 unfold Builtin.Slice.sliceAdjust;simp only[h1,if_false];refine Prod.ext ?_ ?_
 . cases lo with
   | none=>rfl
   | some v=>exact zvm v n 0
 . cases hi with
   | none=>rfl
   | some v=>exact zvm v n n
theorem zt3 (i j:Nat):Builtin.Slice.slicePlaces (i:Int) (j:Int) 1=j - i:=by
 unfold Builtin.Slice.slicePlaces;have h1:(1:Int) > 0:=by omega
 simp only[h1,if_true,Int.ediv_one];split <;> omega
theorem zoc {v:Value} {o:Option Int} {Q:Option Int->Shared->Prop} (p:IsPart v o) (h:Q o s):wpAny (model prog w) A (Builtin.Slice.slicePartIndex v) Q E s:=by
 cases p with
 | none=>exact slicePart_none h
 | int i t=>exact slicePart_int h
theorem zhu {sl:Addr} {vl vu:Value} {lo hi:Option Int} {n:Nat} {Q:Int×Int×Nat->Shared->Prop} (hs:s.heap.IsSliceOf sl vl vu .none) (pl:IsPart vl lo) (pu:IsPart vu hi)
   (h:Q (((sIx n 0 lo:Nat):Int),1,sIx n n hi - sIx n 0 lo) s):wpAny (model prog w) A (Builtin.Slice.sliceApplied (.ref sl) (pure (n:Int))) Q E s:=by
 obtain⟨os,hos,hcs,hds⟩:=id hs;unfold Builtin.Slice.sliceApplied Builtin.Slice.sliceFields;refine wpAny_bind (wpAny_bind (wpAny_field hos hds (x:=vl) rfl (wpAny_bind (wpAny_field hos hds (x:=vu) rfl (wpAny_bind (wpAny_field hos hds (x:=.none) rfl (wpAny_pure ?_)))))));refine wpAny_bind (slicePart_none ?_);show wpAny _ _ (if((1:Int)==0)=true then _ else _) _ _ s;rw[if_neg (by decide)];refine wpAny_bind (zoc pl (wpAny_bind (zoc pu (wpAny_bind (wpAny_pure ?_)))));show wpAny _ _ (match Builtin.Slice.sliceAdjust lo hi 1 (n:Int) with|(lo,hi)=>pure (lo,(1:Int),Builtin.Slice.slicePlaces lo hi 1)) _ _ s;rw[zuv lo hi n];show wpAny _ _ (pure (((sIx n 0 lo:Nat):Int),(1:Int),Builtin.Slice.slicePlaces ((sIx n 0 lo:Nat):Int) ((sIx n n hi:Nat):Int) 1)) _ _ s;rw[zt3];exact wpAny_pure h
theorem zzf (xs:Array Value) (i k:Nat):((List.range k).filterMap λ(m:Nat)=>xs[((i:Int)+(m:Int) * 1).toNat]?).toArray=((xs.toList.drop i).take k).toArray:=by
 have e:(λ(m:Nat)=>xs[((i:Int)+(m:Int) * 1).toNat]?)=λm=>xs[i+m]?:=by
   funext m;have:((i:Int)+(m:Int) * 1).toNat=i+m:=by omega
   rw[this]
 rw[e];have:=pick_run xs i k;rw[List.filterMap_map] at this;have e2:((λx=>xs[x]?) ∘ λx=>i+x)=λm=>xs[i+m]?:=rfl;rw[e2] at this;rw[this]
theorem getItem_tuple_cut {t sl:Addr} {items:Array Value} {vl vu:Value} {lo hi:Option Int} {Q:Value->Shared->Prop} (ht:IsTup s.heap t items) (hs:s.heap.IsSliceOf sl vl vu .none) (pl:IsPart vl lo) (pu:IsPart vu hi)
   (hw:¬ (sIx items.size 0 lo=0/\sIx items.size items.size hi=items.size))
   (h:Q (.ref s.heap.objs.size) { s with heap:=s.heap.push { cls:=.type "tuple",data:=.seq ((items.toList.drop (sIx items.size 0 lo)).take (sIx items.size items.size hi - sIx items.size 0 lo)).toArray } })
   (hsz:items.size<=sizeLine):wpAny (model prog w) A (getItem (.ref t) (.ref sl)) Q E s:=by
 have htake:sizeOk (.seq ((items.toList.drop (sIx items.size 0 lo)).take (sIx items.size items.size hi - sIx items.size 0 lo)).toArray):=by show((items.toList.drop (sIx items.size 0 lo)).take (sIx items.size items.size hi - sIx items.size 0 lo)).toArray.size<=sizeLine;rw[List.size_toArray,qax,qbj,qdf];omega
 have hj:sIx items.size items.size hi<=items.size:=z4s _ _ (qae _) hi;obtain⟨os,hos,hcs,hds⟩:=id hs;have hTs:s.TypeIs (.ref sl) "slice":=⟨os,hos,hcs⟩
 unfold getItem
 try with_reducible refine wpAny_holding ?_
 first|refine wpAny_bind (wpAny_pure ?_)|skip
 refine wpAny_bind (wpAny_sequenceKey ht.typeIs (by decide) ?_);refine wpAny_bind (wpAny_callSpecial?_slot (name:=Str.ofString "__getitem__") ht.typeIs qbm
   (wpAny_call_entry qbm ht.typeIs entry_tuple_getitem ?_ (args_tuple_getitem _ _)))
 show wpAny _ _ (Builtin.Tuple.tupleItemsOf (.ref t) >>= _) _ _ s;refine wpAny_bind (tupleItemsOf_ ht ?_);refine wpAny_bind (wpAny_typeOf hTs ?_);rw[if_pos (by decide)];refine wpAny_bind (zhu hs pl pu ?_);have hno:¬ ((((sIx items.size 0 lo:Nat):Int)==0&&(1:Int)==1&&(sIx items.size items.size hi - sIx items.size 0 lo)==items.size)=true):=by intro q;rw[qa1,qa1] at q;have q1:((sIx items.size 0 lo:Nat):Int)=0:=eq_of_beq q.1.1;have q2:sIx items.size items.size hi - sIx items.size 0 lo=items.size:=eq_of_beq q.2;exact hw ⟨by omega,by omega⟩
 show wpAny _ _ (if(((sIx items.size 0 lo:Nat):Int)==0&&(1:Int)==1&&(sIx items.size items.size hi - sIx items.size 0 lo)==items.size)=true then _ else _) _ _ s;rw[if_neg hno,zzf]
 first
   | exact wpAny_bind (m:=Builtin.Tuple.tupleExact _) (wpAny_newObj_type (wpAny_pure ⟨_,rfl,wpAny_pure h⟩) htake)
   | exact wpAny_bind (m:=Builtin.Tuple.tupleExact _) (wpAny_newObj_type (wpAny_bind (wpAny_pure (wpAny_pure ⟨_,rfl,wpAny_pure h⟩))) htake)
   | exact wpAny_bind (wpAny_bind (m:=Builtin.Tuple.tupleExact _) (wpAny_newObj_type (wpAny_pure (wpAny_pure ⟨_,rfl,wpAny_pure h⟩)) htake))
   | exact wpAny_bind (wpAny_bind (m:=Builtin.Tuple.tupleExact _) (wpAny_newObj_type (wpAny_pure ⟨_,rfl,wpAny_pure h⟩) htake))
end
end HT
namespace L2
open PySem PySem.Spec PyProof.Rows
abbrev TO:=St->Hp->(Option Int->Hp->Prop)->Prop
def PO (X:Cx) (e:Option Expr) (t:TO):Prop :=
 ∀(pins:List (Addr×Obj)) (s:Shared) (σ:St) (H:Hp) (Q:Option Int->Hp->Prop),Inv X pins σ H s->t σ H Q ->
   wpAny (model X.prog X.w) X.A (evalPart e X.env) (λu s'=>∃o H',Inv X pins σ H' s'/\IsPart u o/\Q o H') X.xe s
def z1o:TO:=λ_ H Q=>Q none H
def z5u (t:TE):TO:=λσ H Q=>t σ H λx H1=>∃i,x=.int i/\Q (some i) H1
section
variable {X:Cx} {e:Expr} {te:TE} {lo hi:Option Expr} {tl th:TO} {pos p2:Pos}
theorem zec:PO X none z1o:=by intro pins s σ H Q I h;rw[evalPart_none];exact wpAny_pure ⟨none,H,I,.none,h⟩
theorem zdd (h:PE X e te):PO X (some e) (z5u te):=by intro pins s σ H Q I hw;rw[evalPart_some];refine thn (h pins s σ H _ I hw) λu s1 ⟨x,H1,I1,r1,q1⟩=>?_;obtain⟨i,rfl,q⟩:=q1;obtain⟨t,rfl⟩:=r1;exact⟨some i,H1,I1,.int i t,q⟩
def SlR (X:Cx) (r:V->Option Int->Option Int->Hp->VK->Prop):Prop :=
 ∀(pins:List (Addr×Obj)) (s:Shared) (σ:St) (H:Hp) (x:V) (v vl vu:Value) (lo hi:Option Int) (sl:Addr) (Q:VK),Inv X pins σ H s->zc4 x v->s.heap.IsSliceOf sl vl vu .none->IsPart vl lo->IsPart vu hi->r x lo hi H Q ->
   ∃T id,typeLookup (.type T) "__getitem__"=pure (some (.builtin id))/\s.TypeIs v T/\wpAny (model X.prog X.w) X.A (getItem v (.ref sl)) (EP X pins σ Q) X.xe s
theorem SlR.or {r r':V->Option Int->Option Int->Hp->VK->Prop} (h:SlR X r) (h':SlR X r'):SlR X (λx lo hi H Q=>r x lo hi H Q\/r' x lo hi H Q):=by
 intro pins s σ H x v vl vu lo hi sl Q I rx hs pl pu q;rcases q with q|q
 . exact h pins s σ H x v vl vu lo hi sl Q I rx hs pl pu q
 . exact h' pins s σ H x v vl vu lo hi sl Q I rx hs pl pu q
def tSl (r:V->Option Int->Option Int->Hp->VK->Prop) (te:TE) (tl th:TO):TE:=λσ H Q=>te σ H λx H1=>tl σ H1 λl H2=>th σ H2 λu H3=>r x l u H3 Q
theorem zc0 {r:V->Option Int->Option Int->Hp->VK->Prop} (hr:SlR X r) (he:PE X e te) (hl:PO X lo tl) (hu:PO X hi th):PE X (.Subscript e (.Slice lo hi none p2) pos) (tSl r te tl th):=by intro pins s σ H Q I h;refine Subscript_ (thn (he pins s σ H _ I h) λv s1 ⟨x,H1,I1,r1,q1⟩=>?_);refine wpAny_Slice (thn (hl pins s1 σ H1 _ I1 q1) λvl s2 ⟨l,H2,I2,pl,q2⟩=>thn (hu pins s2 σ H2 _ I2 q2) λvu s3 ⟨u,H3,I3,pu,q3⟩=>?_);rw[evalPart_none];refine wpAny_pure ?_;have I4:Inv X pins σ H3 { s3 with heap:=s3.heap.push { cls:=.type "slice",data:=.fields #[vl,vu,.none] } }:=I3.kept (t':=s3.toks) λb ob q=>Heap.get?_push_of_some _ q;obtain⟨T,id,hT,ht,hg⟩:=hr pins { s3 with heap:=s3.heap.push { cls:=.type "slice",data:=.fields #[vl,vu,.none] } } σ H3 x v vl vu l u s3.heap.objs.size Q I4 r1 (Heap.IsSliceOf.new ..) pl pu q3;show wpAny (model X.prog X.w) X.A (subscriptTail e (.Slice lo hi none p2) v (.ref s3.heap.objs.size)) (EP X pins σ Q) X.xe { s3 with heap:=s3.heap.push { cls:=.type "slice",data:=.fields #[vl,vu,.none] } };exact tail_any (ops:=[.ref s3.heap.objs.size,v]) ht hT hg (by with_unfolding_all rfl)
def zkp (xs:List V) (lo hi:Option Int):List V:=(xs.drop (HT.sIx xs.length 0 lo)).take (HT.sIx xs.length xs.length hi - HT.sIx xs.length 0 lo)
theorem zm7 (xs:List V) (lo hi:Option Int):(zkp xs lo hi).length<=xs.length:=by unfold zkp;rw[qax,qbj];omega
def rSlT (K:W.Frag):V->Option Int->Option Int->Hp->VK->Prop:=λx lo hi H Q=>∃a xs,x=.ref a/\SqT K H a xs /\
 ¬ (HT.sIx xs.length 0 lo=0/\HT.sIx xs.length xs.length hi=xs.length)/\∀p,H p=none->Q (.ref p) (upd H p (.tup (zkp xs lo hi)))
theorem z37:SlR X (rSlT X.K):=by
 intro pins s σ H x v vl vu lo hi sl Q I rx hs pl pu h;obtain⟨a,xs,rfl,hx,hw,q⟩:=h;cases rx;obtain⟨its,r,ht,hz⟩:=I.tuple hx;have hlen:its.toArray.size=xs.length:=by rw[List.size_toArray]; exact r.length.symm
 refine⟨"tuple",_,qbm.lookup,ht.typeIs,?_⟩;refine HT.getItem_tuple_cut ht hs pl pu (by rw[hlen]; exact hw) ?_ (by rw[hlen]; exact hz);rw[hlen];refine⟨.ref s.heap.objs.size,_,I.laid (t':=s.toks) (o:=.tup (zkp xs lo hi)) (λb ob q=>Heap.get?_push_of_some _ q) (qae _) ?_,rfl,q _ (I.hok.fresh (qae _))⟩;exact⟨Nat.le_trans (zm7 xs lo hi) hz,_,(r.drop (HT.sIx xs.length 0 lo)).take (HT.sIx xs.length xs.length hi - HT.sIx xs.length 0 lo),IsTup.new _ _⟩
theorem zcq.nil_iff {xs:List V} {us:List Value} (r:zcq xs us):us=[] <-> xs=[]:=by
 cases r with
 | nil=>simp
 | cons _ _=>simp
end
def ixN (n:Nat) (i:Int):Option Nat:=if 0<=i then(if i<n then some i.toNat else none) else if -(n:Int)<=i then some (i+n).toNat else none
def atI {α:Type} (xs:List α) (i:Int):Option α:=(ixN xs.length i).bind λj=>xs[j]?
theorem zvd {n:Nat} {i:Int} {j:Nat} (h:ixN n i=some j):seqIndex? i n=some j/\j<n/\-(n:Int)<=i/\i<n:=by
 unfold ixN at h;by_cases h0:0<=i
 . rw[if_pos h0] at h;by_cases h1:i<n
   . rw[if_pos h1] at h;have e:i.toNat=j:=Option.some.inj h;exact⟨by rw[seqIndex_of h0 h1,e],by omega,by omega,h1⟩
   . rw[if_neg h1] at h; cases h
 . rw[if_neg h0] at h;by_cases h1:-(n:Int)<=i
   . rw[if_pos h1] at h;have e:(i+n).toNat=j:=Option.some.inj h;exact⟨by rw[seqIndex_neg (by omega) h1,e],by omega,h1,by omega⟩
   . rw[if_neg h1] at h; cases h
theorem zrw {α:Type} {xs:List α} {i:Int} {v:α} (h:atI xs i=some v):∃j,seqIndex? i xs.length=some j/\xs[j]?=some v/\j<xs.length/\-(xs.length:Int)<=i/\i<xs.length:=by
 unfold atI at h;cases e:ixN xs.length i with
 | none=>rw[e] at h; cases h
 | some j =>
   rw[e] at h;obtain⟨h1,h2,h3,h4⟩:=zvd e;exact⟨j,h1,h,h2,h3,h4⟩
theorem zc2 {α:Type} {xs:List α} {j:Nat} {v:α} (h:xs[j]?=some v):atI xs (j:Int)=some v:=by
 have hj:j<xs.length:=(List.getElem?_eq_some_iff.mp h).1;have e:ixN xs.length (j:Int)=some j:=by unfold ixN;rw[if_pos (by omega),if_pos (by omega)]; simp
 unfold atI; rw[e]; exact h
theorem ztw {α:Type} (xs:List α) (v:α):atI (xs++[v]) (-1)=some v:=by
 have hl:(xs++[v]).length=xs.length+1:=by simp
 have e:ixN (xs++[v]).length (-1)=some xs.length:=by unfold ixN;rw[hl,if_neg (by decide),if_pos (by omega)];congr 1;omega
 unfold atI;rw[e];show(xs++[v])[xs.length]?=some v;simp
def z2n (b:Expr):Prop:=∀o i,subscripted b false o i=operate [o,i] (getItem o i)
def IxR (X:Cx) (r:R2):Prop :=
 ∀(value slice:Expr) (pins:List (Addr×Obj)) (s:Shared) (σ:St) (H:Hp) (x y:V) (v u:Value) (Q:VK),Inv X pins σ H s->zc4 x v->zc4 y u->r x y H Q ->
   subscripted slice false v u=operate [v,u] (getItem v u)->wpAny (model X.prog X.w) X.A (subscriptTail value slice v u) (EP X pins σ Q) X.xe s
def MtR (X:Cx) (id:String) (r:V->List V->Hp->VK->Prop):Prop :=
 ∀(pins:List (Addr×Obj)) (s:Shared) (σ:St) (H:Hp) (x:V) (xs:List V) (v:Value) (us:List Value) (Q:VK),Inv X pins σ H s->zc4 x v->zcq xs us->r x xs H Q ->
   wpAny (model X.prog X.w) X.A (call (.builtin id) (v :: us)) (EP X pins σ Q) X.xe s
section
variable {X:Cx} {a b:Expr} {ta tb:TE} {pos:Pos}
theorem zaj {r:R2} (hr:IxR X r) (ha:PE X a ta) (hb:PE X b tb) (hs:z2n b):PE X (.Subscript a b pos) (tOp r ta tb):=by intro pins s σ H Q I h;exact Subscript_ (z5n ha hb I h λv u s2 x y H2 I2 rx ry q=>hr a b pins s2 σ H2 x y v u Q I2 rx ry q (hs _ _))
def z3i (K:W.Frag):R2:=λx y H Q=>∃p xs i v,x=.ref p/\y=.int i/\SqL K H p xs/\atI xs i=some v/\Q v H
def z3z (K:W.Frag):R2:=λx y H Q=>∃p xs i v,x=.ref p/\y=.int i/\SqT K H p xs/\atI xs i=some v/\Q v H
def rIxS:R2:=λx y H Q=>∃z i c,x=.str z/\y=.int i/\z.length<=sizeLine/\atI z.cps.toList i=some c/\Q (.str ⟨#[c]⟩) H
theorem zak:IxR X (z3i X.K):=by
 intro value slice pins s σ H x y v u Q I rx ry h hs;obtain⟨p,xs,i,z,rfl,rfl,hq,he,q⟩:=h;cases rx;obtain⟨t,rfl⟩:=ry;obtain⟨its,r,pl,hz⟩:=I.list hq;obtain⟨j,h1,h2,h3,h4,h5⟩:=zrw he;obtain⟨w,ew,rw'⟩:=r.get h2;have hl:=r.length;have hn:=zn9;have fin:EP X pins σ Q w s:=⟨z,H,I,rw',q⟩
 by_cases h0:0<=i
 . have hj:i.toNat=j:=by rw[seqIndex_of h0 h5] at h1;exact Option.some.inj h1
   exact item_listR pl.isList h0 (by omega) (by rw[hj]; simpa using ew) fin hs
 . have hj:(i+(its.toArray.size:Int)).toNat=j:=by rw[seqIndex_neg (by omega) h4] at h1;rw[List.size_toArray,<- hl];exact Option.some.inj h1
   exact subscriptTail_builtinR (x:=w) pl.isList.typeIs slot_list_getitem.lookup
     (wpAny_getItem_list_neg (Q:=λr s'=>r=w/\EP X pins σ Q r s') pl.isList (by omega) (by rw[List.size_toArray] <;> omega) (by omega) (by rw[hj]; simpa using ew) ⟨rfl,fin⟩) hs
theorem zap:IxR X (z3z X.K):=by
 intro value slice pins s σ H x y v u Q I rx ry h hs;obtain⟨p,xs,i,z,rfl,rfl,hq,he,q⟩:=h;cases rx;obtain⟨t,rfl⟩:=ry;obtain⟨its,r,pl,hz⟩:=I.tuple hq;obtain⟨j,h1,h2,h3,h4,h5⟩:=zrw he;obtain⟨w,ew,rw'⟩:=r.get h2;have hl:=r.length;have hn:=zn9;have fin:EP X pins σ Q w s:=⟨z,H,I,rw',q⟩
 exact subscriptTail_builtinR (x:=w) pl.typeIs slot_tuple_getitem.lookup
   (getItem_tuple (j:=j) (Q:=λr s'=>r=w/\EP X pins σ Q r s') pl (by omega) (by omega) (by rw[List.size_toArray,<- hl]; exact h1) (by simpa using ew) ⟨rfl,fin⟩) hs
theorem ztl:IxR X rIxS:=by
 intro value slice pins s σ H x y v u Q I rx ry h hs;obtain⟨z,i,c,rfl,rfl,hz,he,q⟩:=h;obtain⟨t,rfl⟩:=rx;obtain⟨t',rfl⟩:=ry;obtain⟨j,h1,h2,h3,h4,h5⟩:=zrw he;have hl:z.cps.toList.length=z.length:=by simp [Str.length]
 rw[hl] at h1 h4 h5;have hn:=zn9;exact tail_any (typeIs_str s z t) slot_str_getitem.lookup (getItem_str (c:=c) (by have e1:decide (i < -(2 ^ 63:Int))=false:=decide_eq_false (by omega);have e2:decide (i>=2 ^ 63)=false:=decide_eq_false (by omega);rw[e1,e2,qd2]) (by rw[h1]; simpa using h2) ⟨.str ⟨#[c]⟩,H,I.tok _,⟨_,rfl⟩,q⟩) hs
theorem zue (its:List Value) (n j:Nat) (u:Value):Obj.mapSeq (·.setIfInBounds j u) { cls:=.type "list",data:=.seq its.toArray n }={ cls:=.type "list",data:=.seq (its.set j u).toArray n }:=by simp [Obj.mapSeq]
theorem Inv.lst {pins:List (Addr×Obj)} {σ:St} {H:Hp} {s:Shared} {p:Addr} {xs:List V} (I:Inv X pins σ H s) (h:H p=some (.lst xs)) :
   ∃(its:List Value) (n:Nat),zcq xs its/\s.heap.get? p=some { cls:=.type "list",data:=.seq its.toArray n }/\xs.length<=sizeLine:=by
 obtain⟨z,its,n,r,e⟩:=I.hok p _ h;exact⟨its,n,r,e,z⟩
theorem Inv.lstUpd {pins:List (Addr×Obj)} {σ:St} {H:Hp} {s:Shared} {p:Addr} {xs ys:List V} {its its':List Value} {n n':Nat} {f:Obj->Obj} (I:Inv X pins σ H s) (h:H p=some (.lst xs))
   (ho:s.heap.get? p=some { cls:=.type "list",data:=.seq its.toArray n }) (hf:f { cls:=.type "list",data:=.seq its.toArray n }={ cls:=.type "list",data:=.seq its'.toArray n' }) (r:zcq ys its') (hz:ys.length<=sizeLine) (t:Nat) :
   Inv X pins σ (upd H p (.lst ys)) { s with heap:=s.heap.update p f,toks:=t }:=by
 have e:(s.heap.update p f).get? p=some { cls:=.type "list",data:=.seq its'.toArray n' }:=by rw[qb5 f ho (by rw[hf] <;> rfl),hf]
 refine I.write (x:=p) (e:=p) (by rw[h]; trivial) (.inl rfl) (λb u hb q=>(qbo _ _ (Ne.symm hb)).trans q) ⟨_,e⟩ ?_;exact⟨hz,its',n',r,e⟩
def z57:V->V->V->Hp->(Hp->Prop)->Prop:=λo i v H Q=>∃p xs k j,o=.ref p/\i=.int k/\H p=some (.lst xs)/\ixN xs.length k=some j/\Q (upd H p (.lst (xs.set j v)))
theorem zhm:PSet X z57:=by
 intro pins s σ H o i v ov iv u Q I ro ri rv h;obtain⟨p,xs,k,j,rfl,rfl,hp,hj,q⟩:=h;cases ro;obtain⟨t,rfl⟩:=ri;obtain⟨its,n,r,ho,hz⟩:=I.lst hp;obtain⟨h1,h2,h3,h4⟩:=zvd hj;have hl:=r.length;have hn:=zn9;have I':Inv X pins σ (upd H p (.lst (xs.set j v))) { s with heap:=s.heap.update p (Obj.mapSeq (·.setIfInBounds j u)) } :=
   I.lstUpd hp ho (zue its n j u) (r.set rv j) (by rw[qbh]; exact hz) s.toks
 by_cases h0:0<=k
 . have hk:k.toNat=j:=by rw[seqIndex_of h0 h4] at h1;exact Option.some.inj h1
   exact PySem.W.ki_setAt ho h0 (by omega) (by rw[List.size_toArray,<- hl]; exact h4) (by rw[hk]; exact⟨_,I',q⟩)
 . have hk:(k+(its.toArray.size:Int)).toNat=j:=by rw[seqIndex_neg (by omega) h3] at h1;rw[List.size_toArray,<- hl];exact Option.some.inj h1
   exact PySem.W.ki_setBack ho (by omega) (by rw[List.size_toArray,<- hl]; exact h3) (by omega) (by rw[hk]; exact⟨_,I',q⟩)
theorem zpx (lo hi:Option Int) (n:Nat):(sliceBounds lo hi none n).1=((HT.sIx n 0 lo:Nat):Int)/\(sliceBounds lo hi none n).2.1=((HT.sIx n n hi:Nat):Int)/\(sliceBounds lo hi none n).2.2=1:=by
 refine⟨?_,?_,rfl⟩
 . cases lo with
   | none=>simp [sliceBounds,HT.sIx]
   | some i =>
     simp only[sliceBounds,HT.sIx,Option.getD_none,show(1:Int) > 0 by decide,if_true];by_cases h:i<0
     . simp only[h,if_true] <;> omega
     . simp only[h,if_false] <;> omega
 . cases hi with
   | none=>simp [sliceBounds,HT.sIx]
   | some i =>
     simp only[sliceBounds,HT.sIx,Option.getD_none,show(1:Int) > 0 by decide,if_true];by_cases h:i<0
     . simp only[h,if_true] <;> omega
     . simp only[h,if_false] <;> omega
theorem zoy (its:List Value) (lo hi:Option Int):slicePick its.toArray lo hi none=((its.drop (HT.sIx its.length 0 lo)).take (HT.sIx its.length its.length hi - HT.sIx its.length 0 lo)).toArray:=by obtain⟨h1,h2,h3⟩:=zpx lo hi its.toArray.size;unfold slicePick;rw[h1,h2,h3];simp only[sliceRange_one,pick_run,List.size_toArray] <;> rfl
def rSlL (K:W.Frag):V->Option Int->Option Int->Hp->VK->Prop:=λx lo hi H Q=>∃a xs,x=.ref a/\SqL K H a xs/\∀p,H p=none->Q (.ref p) (upd H p (.lst (zkp xs lo hi)))
theorem zes:SlR X (rSlL X.K):=by intro pins s σ H x v vl vu lo hi sl Q I rx hs pl pu h;obtain⟨a,xs,rfl,hx,q⟩:=h;cases rx;obtain⟨its,r,ht,hz⟩:=I.list hx;have hlen:=r.length;refine⟨"list",_,slot_list_getitem.lookup,ht.isList.typeIs,?_⟩;refine wpAny_getItem_list_slice ht.isList hs pl pu .none (by simp) ?_ (by rw[List.size_toArray] <;> omega);rw[zoy,<- hlen];refine⟨.ref s.heap.objs.size,_,I.laid (t':=s.toks) (o:=.lst (zkp xs lo hi)) (λb ob q=>Heap.get?_push_of_some _ q) (qae _) ?_,rfl,q _ (I.hok.fresh (qae _))⟩;exact⟨Nat.le_trans (zm7 xs lo hi) hz,_,0,(r.drop (HT.sIx xs.length 0 lo)).take (HT.sIx xs.length xs.length hi - HT.sIx xs.length 0 lo),qap _ rfl⟩
def znu:V->Bool
 | .non=>true
 | .bl _=>true
 | .int _=>true
 | .str _=>true
 | _=>false
def eqV:V->V->Bool
 | .non,.non=>true
 | .bl a,.bl b=>a==b
 | .bl a,.int b=>(if a then 1 else 0)==b
 | .int a,.bl b=>a==(if b then 1 else 0)
 | .int a,.int b=>a==b
 | .str a,.str b=>a==b
 | _,_=>false
theorem z4e {A:Around} {s:Shared} {y x:V} {u v:Value} (ry:zc4 y u) (rx:zc4 x v) (fy:znu y=true) (fx:znu x=true):SeqAt.EqAt A s u v (eqV y x):=by
 cases y with
 | non =>
   cases ry;cases x with
   | non=>cases rx; exact SeqAt.EqAt.same _
   | bl b=>cases rx; exact SeqAt.EqAt.none_bool b
   | int b=>obtain⟨t,rfl⟩:=rx; exact SeqAt.EqAt.none_int b t
   | str b=>obtain⟨t,rfl⟩:=rx; exact SeqAt.EqAt.none_str b t
   | _=>exact absurd (show false=true from fx) qar
 | bl a =>
   cases ry;cases x with
   | non=>cases rx; exact SeqAt.EqAt.bool_none a
   | bl b=>cases rx; exact SeqAt.EqAt.bool_bool a b
   | int b=>obtain⟨t,rfl⟩:=rx; exact SeqAt.EqAt.bool_int a b t
   | str b=>obtain⟨t,rfl⟩:=rx; exact SeqAt.EqAt.bool_str a b t
   | _=>exact absurd (show false=true from fx) qar
 | int a =>
   obtain⟨t',rfl⟩:=ry;cases x with
   | non=>cases rx; exact SeqAt.EqAt.int_none a t'
   | bl b=>cases rx; exact SeqAt.EqAt.int_bool a t' b
   | int b=>obtain⟨t,rfl⟩:=rx; exact SeqAt.EqAt.int_int a t' b t
   | str b=>obtain⟨t,rfl⟩:=rx; exact SeqAt.EqAt.int_str a t' b t
   | _=>exact absurd (show false=true from fx) qar
 | str a =>
   obtain⟨t',rfl⟩:=ry;cases x with
   | non=>cases rx; exact SeqAt.EqAt.str_none a t'
   | bl b=>cases rx; exact SeqAt.EqAt.str_bool a t' b
   | int b=>obtain⟨t,rfl⟩:=rx; exact SeqAt.EqAt.str_int a t' b t
   | str b=>obtain⟨t,rfl⟩:=rx; exact SeqAt.EqAt.str_str a t' b t
   | _=>exact absurd (show false=true from fx) qar
 | _=>exact absurd (show false=true from fy) qar
def eqU (x:V) (u:Value):Bool:=match u with
 | .none=>eqV .non x
 | .bool b=>eqV (.bl b) x
 | .int i _=>eqV (.int i) x
 | .str z _=>eqV (.str z) x
 | _=>false
theorem zz9 {x y:V} {u:Value} (r:zc4 y u) (f:znu y=true):eqU x u=eqV y x:=by
 cases y with
 | non=>cases r; rfl
 | bl b=>cases r; rfl
 | int i=>obtain⟨t,rfl⟩:=r; rfl
 | str z=>obtain⟨t,rfl⟩:=r; rfl
 | _=>exact absurd (show false=true from f) qar
theorem zmk {x:V}:∀{xs:List V} {us:List Value},zcq xs us->xs.all znu=true->us.any (eqU x)=xs.any λy=>eqV y x
 | _,_,.nil,_=>rfl
 | y :: xs,u :: us,.cons r t,f=>by rw[List.all_cons,qa1] at f;rw[qc3,qc3,zz9 r f.1,zmk t f.2]
theorem zkx {A:Around} {s:Shared} {x:V} {v:Value} (rx:zc4 x v) (fx:znu x=true):∀{xs:List V} {us:List Value},zcq xs us->xs.all znu=true->∀u∈us,SeqAt.EqAt A s u v (eqU x u)
 | _,_,.nil,_=>λu hu=>by cases hu
 | y :: xs,u :: us,.cons r t,f=>λu' hu=>by
   rw[List.all_cons,qa1] at f;rcases List.mem_cons.mp hu with rfl|hu
   . rw[zz9 r f.1]; exact z4e r rx f.1 fx
   . exact zkx rx fx t f.2 u' hu
def inV (x:V) (xs:List V):Bool:=xs.any λy=>eqV y x
def rIn (K:W.Frag) (neg:Bool):R2:=λx y H Q=>∃p xs,y=.ref p/\(SqL K H p xs\/SqT K H p xs)/\znu x=true/\xs.all znu=true/\Q (.bl (if neg then !inV x xs else inV x xs)) H
theorem zig:OpR X (compareOp .In) (rIn X.K false):=by
 intro pins s σ H x y v u Q I rx ry h;obtain⟨p,xs,rfl,hq,fx,fs,q⟩:=h;cases ry;rcases hq with hq|hq
 . obtain⟨its,r,pl,hz⟩:=I.list hq;refine SeqAt.in_listAt (eqU x) pl.isList (λw hw=>zkx rx fx r fs w (by simpa using hw)) ⟨.bl _,H,I,rfl,?_⟩;rw[show its.toArray.any (eqU x)=its.any (eqU x) by simp,zmk r fs];exact q
 . obtain⟨its,r,pl,hz⟩:=I.tuple hq;refine SeqAt.in_tupleAt (eqU x) pl (λw hw=>zkx rx fx r fs w (by simpa using hw)) ⟨.bl _,H,I,rfl,?_⟩;rw[show its.toArray.any (eqU x)=its.any (eqU x) by simp,zmk r fs];exact q
theorem zqn:OpR X (compareOp .NotIn) (rIn X.K true):=by
 intro pins s σ H x y v u Q I rx ry h;obtain⟨p,xs,rfl,hq,fx,fs,q⟩:=h;cases ry;rcases hq with hq|hq
 . obtain⟨its,r,pl,hz⟩:=I.list hq;refine SeqAt.notIn_listAt (eqU x) pl.isList (λw hw=>zkx rx fx r fs w (by simpa using hw)) ⟨.bl _,H,I,rfl,?_⟩;rw[show its.toArray.any (eqU x)=its.any (eqU x) by simp,zmk r fs];exact q
 . obtain⟨its,r,pl,hz⟩:=I.tuple hq;refine SeqAt.notIn_tupleAt (eqU x) pl (λw hw=>zkx rx fx r fs w (by simpa using hw)) ⟨.bl _,H,I,rfl,?_⟩;rw[show its.toArray.any (eqU x)=its.any (eqU x) by simp,zmk r fs];exact q
theorem zbo:zjr X (.builtin "len") (λxs H Q=>∃p ys,xs=[.ref p]/\(SqL X.K H p ys\/SqT X.K H p ys)/\Q (.int ys.length) H):=by
 intro pins s σ H xs us Q I r h;obtain⟨p,ys,rfl,hq,q⟩:=h;obtain⟨u,rfl,rx⟩:=zpd r;cases rx;have hn:=zn9;rcases hq with hq|hq
 . obtain⟨its,r',pl,hz⟩:=I.list hq;have hlen:=r'.length;exact Calls.call_len_list pl.isList (by simp only[List.size_toArray] <;> omega) ⟨.int ys.length,H,I.tok _,⟨s.toks+1,by rw[List.size_toArray,hlen]⟩,q⟩
 . obtain⟨its,r',pl,hz⟩:=I.tuple hq;have hlen:=r'.length;exact len_tuple pl (by simp only[List.size_toArray] <;> omega) ⟨.int ys.length,H,I.tok _,⟨s.toks+1,by rw[List.size_toArray,hlen]⟩,q⟩
theorem zgm:zjr X (.type "list") (λxs H Q=>∃p ys,xs=[.ref p]/\(SqL X.K H p ys\/SqT X.K H p ys)/\∀l,H l=none->Q (.ref l) (upd H l (.lst ys))):=by
 intro pins s σ H xs us Q I r h;obtain⟨p,ys,rfl,hq,q⟩:=h;obtain⟨u,rfl,rx⟩:=zpd r;cases rx;have fin:∀(its:List Value),zcq ys its->ys.length<=sizeLine->∀(h':Heap) (c':Nat),(∀b o',s.heap.get? b=some o'->h'.get? b=some o') ->
     h'.get? s.heap.objs.size=some { cls:=.type "list",dict:=none,data:=.seq its.toArray c',slots:=#[] }->EP X pins σ Q (.ref s.heap.objs.size) { s with heap:=h' }:=λits r' hz h' c' kp e =>
   ⟨.ref s.heap.objs.size,_,I.laid (t':=s.toks) kp (qae _) (show zdm X.prog X.w _ h' _ (.lst ys) from⟨hz,its,c',r',e⟩),rfl,q _ (I.hok.fresh (qae _))⟩
 rcases hq with hq|hq
 . obtain⟨its,r',pl,hz⟩:=I.list hq;have hlen:=r'.length;obtain⟨o,ho,hc,n,hd⟩:=pl.isList;exact call_list_seq p (.inl rfl) ho hc hd (λh' c' kp e=>fin its r' hz h' c' kp e) (by simp only[List.size_toArray] <;> omega)
 . obtain⟨its,r',pl,hz⟩:=I.tuple hq;have hlen:=r'.length;obtain⟨o,ho,hc,n,hd⟩:=pl;exact call_list_seq p (.inr rfl) ho hc hd (λh' c' kp e=>fin its r' hz h' c' kp e) (by simp only[List.size_toArray] <;> omega)
theorem zkj:zjr X (.type "tuple") (λxs H Q=>∃p ys,xs=[.ref p]/\((SqL X.K H p ys/\∀l,H l=none->Q (.ref l) (upd H l (.tup ys)))\/(SqT X.K H p ys/\Q (.ref p) H))):=by
 intro pins s σ H xs us Q I r h;obtain⟨p,ys,rfl,h⟩:=h;obtain⟨u,rfl,rx⟩:=zpd r;cases rx;rcases h with⟨hq,q⟩|⟨hq,q⟩
 . obtain⟨its,r',pl,hz⟩:=I.list hq;have hlen:=r'.length;refine call_tuple_list pl.isList (λh' kp=>?_) (by simp only[List.size_toArray] <;> omega);have I1:Inv X pins σ H { s with heap:=h' }:=I.kept (t':=s.toks) kp;have I2:Inv X pins σ (upd H h'.objs.size (.tup ys)) { s with heap:=h'.push { cls:=.type "tuple",data:=.seq its.toArray } } :=
     I1.laid (t':=s.toks) (λb o e=>Heap.get?_push_of_some _ e) (qae _) (show zdm X.prog X.w _ _ _ (.tup ys) from⟨hz,its,r',IsTup.new _ _⟩)
   exact⟨.ref h'.objs.size,_,I2,rfl,q _ (I1.hok.fresh (qae _))⟩
 . obtain⟨its,r',pl,hz⟩:=I.tuple hq;exact call_tuple_same pl ⟨.ref p,H,I,rfl,q⟩
def tyV (K:W.Frag) (T:String) (x:V) (H:Hp):Prop:=match x with
 | .str _=>T="str"
 | .int _=>T="int"
 | .ref p=>(T="list"/\∃xs,SqL K H p xs)\/(T="tuple"/\∃o,K.lookup p=some o/\o.cls=.type "tuple"/\o.dict=none) \/
     (T="dict"/\((∃kvs,H p=some (.dK kvs))\/∃kvs,H p=some (.dT kvs)))\/(T="set"/\∃S n,H p=some (.set S n))
 | _=>False
theorem z0m {pins:List (Addr×Obj)} {σ:St} {H:Hp} {s:Shared} {T:String} {x:V} {v:Value} (I:Inv X pins σ H s) (r:zc4 x v) (ty:tyV X.K T x H) :
   s.TypeIs v T/\∀a,v=.ref a->∃ob,s.heap.get? a=some ob/\ob.dict=none:=by
 cases x with
 | str z =>
   obtain⟨t,rfl⟩:=r;cases (show T="str" from ty);exact⟨typeIs_str s z t,λ_ e=>nomatch e⟩
 | int i =>
   obtain⟨t,rfl⟩:=r;cases (show T="int" from ty);exact⟨typeIs_int s i t,λ_ e=>nomatch e⟩
 | ref p =>
   cases r;rcases ty with⟨rfl,xs,hq⟩|⟨rfl,o,hk,hc,hd⟩|⟨rfl,hk⟩|⟨rfl,S,n,hk⟩
   . obtain⟨its,_,pl,_⟩:=I.list hq;refine⟨pl.isList.typeIs,λa e=>?_⟩;cases e;obtain⟨o,n,e,c,hd,_⟩:=pl;exact⟨o,e,hd⟩
   . refine⟨⟨o,I.kIn p o hk,hc⟩,λa e=>?_⟩;cases e;exact⟨o,I.kIn _ o hk,hd⟩
   . have z:∃o,s.heap.get? p=some o/\o.ExactDict:=by
       rcases hk with⟨kvs,hk⟩|⟨kvs,hk⟩
       . obtain⟨_,_,_,_,o,_,_,e,ex,_⟩:=I.hok p _ hk;exact⟨o,e,ex⟩
       . obtain⟨_,_,_,_,o,_,_,e,ex,_⟩:=I.hok p _ hk;exact⟨o,e,ex⟩
     obtain⟨o,e,ex⟩:=z;refine⟨⟨o,e,ex.1⟩,λa e2=>?_⟩;cases e2;exact⟨o,e,ex.2.1⟩
   . obtain⟨o,_,_,_,e,ex,_⟩:=I.hok p _ hk;refine⟨⟨o,e,ex.1⟩,λa e2=>?_⟩;cases e2;exact⟨o,e,ex.2.1⟩
 | _=>exact False.elim ty
def tBM0 (K:W.Frag) (T:String) (r:V->List V->Hp->VK->Prop) (to:TE):TE:=λσ H Q=>to σ H λx H1=>tyV K T x H1/\r x [] H1 Q
def tBM (K:W.Frag) (T:String) (r:V->List V->Hp->VK->Prop) (to:TE) (t:TA):TE:=λσ H Q=>to σ H λx H1=>tyV K T x H1/\t σ H1 λxs H2=>r x xs H2 Q
variable {o e:Expr} {es:List Expr} {to:TE} {t:TA} {name:Str} {apos cpos:Pos} {T id:String} {r:V->List V->Hp->VK->Prop}
theorem zwi (pa:PlainAttrs T) (slot:Slot T name id) (hty:typeOf (.builtin id)=pure (.type "method_descriptor")) (hm:MtR X id r) (ho:PE X o to)
   (hbase:attributeBase o name X.env (eval o X.env)=eval o X.env:=by rfl) (hline:(apos.endLine==cpos.line)=true:=by rfl):PE X (.Call (.Attribute o name apos) [] [] cpos) (tBM0 X.K T r to):=by
 intro pins s σ H Q I h;refine wpAny_Call_method0_late hbase hline (thn (ho pins s σ H _ I h) λv s1 ⟨x,H1,I1,r1,ty,q1⟩=>?_);obtain⟨h1,h2⟩:=z0m I1 r1 ty;exact⟨T,id,pa,slot,hty,h1,h2,Calls.callWith_builtin rfl (PySem.evalArgs_none (hm pins s1 σ H1 x [] v [] Q I1 r1 .nil q1))⟩
theorem zj8 (pa:PlainAttrs T) (slot:Slot T name id) (hty:typeOf (.builtin id)=pure (.type "method_descriptor")) (hm:MtR X id r) (ho:PE X o to) (ha:PA X (e :: es) t)
   (hbase:attributeBase o name X.env (eval o X.env)=eval o X.env:=by rfl)
   (hfew:((backTo cpos (starEach (e :: es) X.env)).all (λx=>!x.1)&&(backToKw cpos (keywordEach [] X.env)).all (λx=>x.1.isSome)
     && decide ((e :: es).length+([]:List Keyword).length+(if([]:List Keyword).isEmpty then 0 else 1)<30))=true:=by rfl)
   (hline:(apos.endLine==cpos.line)=true:=by rfl) (hs:starEach (e :: es) X.env=(false,eval e X.env) :: starEach es X.env:=by rfl) (hplain:(backTo cpos (starEach es X.env)).any (·.1)=false:=by rfl) :
   PE X (.Call (.Attribute o name apos) (e :: es) [] cpos) (tBM X.K T r to t):=by
 intro pins s σ H Q I h;refine wpAny_Call_method_late hbase hfew hline rfl (thn (ho pins s σ H _ I h) λv s1 ⟨x,H1,I1,r1,ty,q1⟩=>?_);obtain⟨h1,h2⟩:=z0m I1 r1 ty;refine⟨T,id,pa,slot,hty,h1,h2,?_⟩;have hA:=ha cpos pins s1 σ H1 _ I1 q1;rw[hs] at hA ⊢;refine Calls.callWith_builtin (by show(false || (backTo cpos (starEach es X.env)).any (·.1))=false; rw[hplain] <;> rfl) (Calls.evalArgs_plain ?_);exact thn hA λus s2 ⟨vs,H2,I2,r2,q2⟩=>hm pins s2 σ H2 x vs v us Q I2 r1 r2 q2
end
def MtM (X:Cx) (id:String) (r:V->List V->Hp->VK->Prop):Prop :=
 ∀(pins:List (Addr×Obj)) (s:Shared) (σ:St) (H:Hp) (x:V) (xs:List V) (v:Value) (us:List Value) (Q:VK),Inv X pins σ H s->zc4 x v->zcq xs us->r x xs H Q ->
   wpAny (model X.prog X.w) X.A (call (.builtin id) (v :: us)) (EP X pins σ Q) X.xe s
theorem zcq.one:∀{x:V} {us:List Value},zcq [x] us->∃u,us=[u]/\zc4 x u
 | _,_,.cons r .nil=>⟨_,rfl,r⟩
theorem zcq.zero:∀{us:List Value},zcq [] us->us=[]
 | _,.nil=>rfl
theorem zcq.dropLast {xs:List V} {us:List Value} (h:zcq xs us):zcq xs.dropLast us.dropLast:=by
 induction h with
 | nil=>exact .nil
 | cons r t ih =>
   cases t with
   | nil=>exact .nil
   | cons q t'=>exact .cons r ih
theorem zcq.rep {xs:List V} {us:List Value} (h:zcq xs us):∀k:Nat,zcq (List.replicate k xs).flatten (List.replicate k us).flatten
 | 0=>.nil
 | k+1=>by rw[qb2,qb2,qck,qck];exact zcq.append h (zcq.rep h k)
theorem zub {α:Type} (l:List α):l.eraseIdx (l.length - 1)=l.dropLast:=by
 induction l with
 | nil=>rfl
 | cons a r ih =>
   cases r with
   | nil=>rfl
   | cons b r =>
     have e:(a :: b :: r).length - 1=((b :: r).length - 1)+1:=by have h1:(a :: b :: r).length=r.length+2:=rfl;have h2:(b :: r).length=r.length+1:=rfl;omega
     rw[e,List.eraseIdx_cons_succ,ih]
     all_goals rfl
theorem zq2 (its:List Value):∀(k:Nat) (acc:List Value),
   List.foldl (λx1 x2=>x1++x2) acc.toArray (List.replicate k its.toArray)=(acc++(List.replicate k its).flatten).toArray
 | 0,acc=>by simp
 | k+1,acc=>by
   have e:acc.toArray++its.toArray=(acc++its).toArray:=by simp
   have e2:(acc++its)++(List.replicate k its).flatten=acc++(List.replicate (k+1) its).flatten:=by rw[qb2,qck,qcs]
   rw[<- e2,<- zq2 its k (acc++its),<- e,qb2,qa7]
section
variable {X:Cx} {pins:List (Addr×Obj)} {σ:St} {H:Hp} {s:Shared} {l b:Addr} {xs ys zs:List V}
theorem Inv.lset {its its':List Value} {n:Nat} {f:Array Value->Array Value} {t':Nat} (I:Inv X pins σ H s) (hH:H l=some (.lst xs))
   (e:s.heap.get? l=some { cls:=.type "list",data:=.seq its.toArray n }) (hf:f its.toArray=its'.toArray) (hv:zcq ys its') (hz:ys.length<=sizeLine) :
   Inv X pins σ (upd H l (.lst ys)) { s with heap:=s.heap.update l (Obj.mapSeq f),toks:=t' }:=by
 have q:=PySem.IsL.update e f;rw[hf] at q;refine I.write (x:=l) (e:=l) (by rw[hH]; exact trivial) (.inl rfl) (λb' u hb hu=>(qbo s.heap (Obj.mapSeq f) (Ne.symm hb)).trans hu) ⟨_,q⟩ ?_;exact⟨hz,its',_,hv,q⟩
theorem Inv.lnew {its:List Value} {t':Nat} (I:Inv X pins σ H s) (hv:zcq ys its) (hz:ys.length<=sizeLine) :
   Inv X pins σ (upd H s.heap.objs.size (.lst ys)) { s with heap:=s.heap.push { cls:=.type "list",data:=.seq its.toArray },toks:=t' } :=
 I.laid (λ_ _ q=>Heap.get?_push_of_some _ q) (qae _) ⟨hz,its,0,hv,qap _ rfl⟩
theorem Inv.fresh (I:Inv X pins σ H s):H s.heap.objs.size=none:=I.hok.fresh (qae _)
theorem Inv.lstM (I:Inv X pins σ H s) (hH:H l=some (.lst xs)):xs.length<=sizeLine/\∃(its:List Value) (n:Nat),zcq xs its/\xs.length=its.length/\s.heap.get? l=some { cls:=.type "list",data:=.seq its.toArray n }:=by obtain⟨z,its,n,r,e⟩:=I.hok l _ hH;exact⟨z,its,n,r,r.length,e⟩
theorem ztj {n:Nat} (h:n<=sizeLine):Builtin.List.listTooLong n=false:=by unfold Builtin.List.listTooLong;exact decide_eq_false (by omega)
end
section
variable {X:Cx}
def z04:V->List V->Hp->VK->Prop:=λx vs H Q=>∃l xs y,x=.ref l/\vs=[y]/\H l=some (.lst xs)/\xs.length<sizeLine/\Q .non (upd H l (.lst (xs++[y])))
theorem zdb:MtM X "list.append" z04:=by intro pins s σ H x vs v us Q I rx rv h;obtain⟨l,xs,y,rfl,rfl,hH,hz,q⟩:=h;cases rx;obtain⟨u,rfl,ru⟩:=rv.one;obtain⟨z,its,n,r,hl,e⟩:=I.lstM hH;refine call_meets F.slot_list_append ⟨_,e,rfl⟩ F.entry_list_append (F.args_list_append_2 _ _) (PySem.list_append l its.toArray n u (by rw[List.size_toArray]; omega)) ⟨e,?_⟩;refine⟨.non,_,I.lset (its':=its++[u]) hH e (by simp) (r.append (.cons ru .nil)) ?_,rfl,q⟩;rw[List.length_append,qa5];omega
def z1g:V->List V->Hp->VK->Prop:=λx vs H Q=>∃l b xs zs,x=.ref l/\vs=[.ref b]/\H l=some (.lst xs)/\H b=some (.lst zs)/\xs.length+zs.length<=sizeLine/\Q .non (upd H l (.lst (xs++zs)))
theorem zpz:MtM X "list.extend" z1g:=by
 intro pins s σ H x vs v us Q I rx rv h;obtain⟨l,b,xs,zs,rfl,rfl,hH,hB,hz,q⟩:=h;cases rx;obtain⟨u,rfl,ru⟩:=rv.one;cases ru;obtain⟨z,its,n,r,hl,e⟩:=I.lstM hH;obtain⟨z2,its2,n2,r2,hl2,e2⟩:=I.lstM hB;have hsz:its.toArray.size+its2.toArray.size<=sizeLine:=by rw[List.size_toArray,List.size_toArray]; omega
 have hlong:¬ (!its.toArray.isEmpty&&Builtin.List.listTooLong (its.toArray.size+its2.toArray.size))=true:=by rw[ztj hsz,Bool.and_false];exact qar
 refine call_meets F.slot_list_extend ⟨_,e,rfl⟩ F.entry_list_extend (F.args_list_extend_2 _ _)
   (AutoSeq1.list_extend_list_list_0 l its.toArray n b its2.toArray n2 hlong (by rw[List.size_toArray]; omega) (by omega)) ⟨e,e2,?_⟩
 refine⟨.non,_,I.lset (its':=its++its2) hH e (by simp) (r.append r2) ?_,rfl,q⟩;rw[List.length_append];omega
def rPop:V->List V->Hp->VK->Prop:=λx vs H Q=>∃l xs y,x=.ref l/\vs=[]/\H l=some (.lst xs)/\xs[xs.length - 1]?=some y/\Q y (upd H l (.lst xs.dropLast))
theorem zu8:MtM X "list.pop" rPop:=by
 intro pins s σ H x vs v us Q I rx rv h;obtain⟨l,xs,y,rfl,rfl,hH,hy,q⟩:=h;cases rx;have hus:=rv.zero;subst hus;obtain⟨z,its,n,r,hl,e⟩:=I.lstM hH;obtain⟨u,hu,ru⟩:=r.get hy;have hy':its.toArray[its.toArray.size - 1]?=some u:=by show its.toArray[its.length - 1]?=some u;rw[<- Array.getElem?_toList,<- hl];exact hu
 refine call_meets F.slot_list_pop ⟨_,e,rfl⟩ F.entry_list_pop (F.args_list_pop_1 _) (MeetsSeq.list_pop_last l its.toArray n u hy' (by rw[List.size_toArray]; omega)) ⟨e,?_⟩;refine⟨y,_,I.lset (its':=its.dropLast) hH e ?_ r.dropLast ?_,ru,q⟩
 . show its.toArray.eraseIdxIfInBounds (its.toArray.size - 1)=its.dropLast.toArray;rw[List.size_toArray,List.eraseIdxIfInBounds_toArray,zub]
 . rw[List.length_dropLast];omega
def rCat:R2:=λx y H Q=>∃l b xs zs,x=.ref l/\y=.ref b/\H l=some (.lst xs)/\H b=some (.lst zs)/\xs.length+zs.length<=sizeLine/\∀p,H p=none->Q (.ref p) (upd H p (.lst (xs++zs)))
theorem zp5:OpR X (binaryOp .Add) rCat:=by
 intro pins s σ H x y v u Q I rx ry h;obtain⟨l,b,xs,zs,rfl,rfl,hH,hB,hz,q⟩:=h;cases rx;cases ry;obtain⟨z,its,n,r,hl,e⟩:=I.lstM hH;obtain⟨z2,its2,n2,r2,hl2,e2⟩:=I.lstM hB;refine PySem.P.add_list e e2 ?_ (by rw[List.size_toArray,List.size_toArray]; omega);have ea:its.toArray++its2.toArray=(its++its2).toArray:=by simp
 rw[ea];exact⟨.ref _,_,I.lnew (t':=s.toks) (r.append r2) (by rw[List.length_append]; omega),rfl,q _ I.fresh⟩
def rRep:R2:=λx y H Q=>∃l k xs,x=.ref l/\y=.int k/\H l=some (.lst xs)/\-(2 ^ 63)<=k/\k<2 ^ 63/\xs.length * k.toNat<=sizeLine /\
 ∀p,H p=none->Q (.ref p) (upd H p (.lst (List.replicate k.toNat xs).flatten))
theorem zwk {α:Type} (xs:List α) (k:Nat):(List.replicate k xs).flatten.length=k * xs.length:=by
 induction k with
 | zero=>simp
 | succ k ih=>rw[qb2,qck,List.length_append,ih,Nat.succ_mul,Nat.add_comm]
theorem z3q:OpR X (binaryOp .Mult) rRep:=by
 intro pins s σ H x y v u Q I rx ry h;obtain⟨l,k,xs,rfl,rfl,hH,h1,h2,hz,q⟩:=h;cases rx;obtain⟨t,rfl⟩:=ry;obtain⟨z,its,n,r,hl,e⟩:=I.lstM hH;have hlen:its.toArray.size * k.toNat<=sizeLine:=by rw[List.size_toArray,<- hl]; exact hz
 have hcap:¬ its.toArray.size * k.toNat > (2 ^ 63 - 1) / 8:=by
   have:(sizeLine:Nat)<=(2 ^ 63 - 1) / 8:=by decide
   omega
 have hfit:¬ (!Builtin.List.listFitsIndex k)=true:=by rw[fitsIndex_both h1 h2];exact qar
 have hlong:¬ Builtin.List.listTooLong (its.toArray.size * k.toNat)=true:=by rw[ztj hlen];exact qar
 have hnew:List.foldl (λx1 x2=>x1++x2) #[] (List.replicate (if its.toArray.isEmpty=true then 0 else k.toNat) its.toArray)=(List.replicate k.toNat its).flatten.toArray:=by
   have f0:∀m:Nat,List.foldl (λx1 x2=>x1++x2) #[] (List.replicate m its.toArray)=(List.replicate m its).flatten.toArray:=λm=>by have:=zq2 its m [];rw[List.nil_append] at this;exact this
   rw[f0];cases its with
   | nil=>simp
   | cons a r'=>rw[if_neg (by simp)]
 refine wpAny_binaryOp_repeat_ref (T:="list") (U:="int") (by decide) ⟨_,e,rfl⟩ (λs'=>typeIs_int s' k t) noFill_list_mul F.fills_int_mul F.slot_int_rmul repeat_list F.slot_int_index.lookup
   (call_meets F.slot_int_rmul (typeIs_int s k t) F.entry_int_rmul (F.args_int_rmul_2 _ _) (int___rmul___int_list k t l its.toArray n)
     ⟨e,rfl,⟨_,e,rfl⟩,call_meets F.slot_list_mul ⟨_,e,rfl⟩ F.entry_list_mul (F.args_list_mul_2 _ _) (AutoListH.list___mul___list_int_3 l its.toArray n k t hfit hcap hlong) ⟨e,?_⟩⟩)
 rw[hnew];exact⟨.ref _,_,I.lnew (t':=s.toks) (r.rep k.toNat) (by rw[zwk,Nat.mul_comm]; exact hz),rfl,q _ I.fresh⟩
end
end L2
namespace Att
open PySem PySem.W PySem.Calls PyProof.Rows
theorem zm5 {P:Params} {h:Heap}:∀(ns:List Int) (vs:List Value),WellAll P h vs (ns.map WData.int)->IntsAre vs ns:=by
 intro ns
 induction ns with
 | nil =>
   intro vs w;rw[qcd] at w;cases w;exact .nil
 | cons n ns ih =>
   intro vs w;rw[qaz] at w;cases w with
   | cons a b =>
     cases a;exact .cons _ _ (ih _ b)
theorem zv8 {l:OpenLaw} {n:Nat} (hn:l.most=some n) {P:Params} {h:Heap} {args:List WData} {vals:List Value}
   (hpre:l.row.toRowW.claim.pre args=true) (hwl:WellAll P h vals args) :
   ∃a vs ns,vals=[Value.ref a]/\args=[WData.list (ns.map WData.int)]/\h.get? a=some { cls:=.type "list",data:=.seq vs.toArray }/\IntsAre vs ns/\ns.length<=n:=by
 have hsh:WShape.hasAll [] args [.list .int]=true:=(pre_splitW hpre).1;have hc:l.pre.holds [] { args:=args }=true:=(pre_splitW hpre).2;obtain⟨d,r,rfl,h1,h2⟩:=hasAllW_cons hsh;obtain rfl:=hasAllW_nil h2;obtain⟨xs,rfl,h3⟩:=hasW_list h1;obtain⟨ns,rfl⟩:=items_int h3;have hlen:ns.length<=n:=by
   unfold OpenLaw.pre at hc;have h4:(WTm.not (.lt (.lit (.int (n:Int))) (.len (.arg 0)))).holds [] { args:=[.list (ns.map .int)] }=true:=by have h4:=(holds_andW hc).1;rw[hn] at h4;exact h4
   have h5:=condW_of h4 (w_not (w_lt w_lit (w_len_list (w_arg rfl))));rw[List.length_map] at h5;refine Nat.le_of_not_lt λq=>?_;have q':(n:Int)<((ns.length:Nat):Int):=by omega
   first
     | (rw[decide_eq_true q'] at h5; exact absurd h5 (by decide))
     | (simp at h5; omega)
 cases hwl with
 | cons w1 w2 =>
   cases w2;cases w1 with
   | list ho hall=>exact⟨_,_,ns,rfl,rfl,ho,zm5 ns _ hall,hlen⟩
theorem zwm (l:OpenLaw) (args:List WData):l.row.toRowW.claim.post args (.bool true) args=true :=
 postW_of (r:=l.row.toRowW) (X:=(true==true))
   (show WShape.has [] (.bool true) .bool=true by first|rfl|decide|simp [WShape.has,WShape.arms,WShape.armsAll])
   (show(WTm.eq .res (.lit (.bool true))).value [] { args:=args,res:=some (.bool true),after:=args }=some (.bool (true==true)) from w_eq_bool (w_res rfl) w_lit) rfl
theorem attach_call {l:OpenLaw} {n:Nat} {q:Program} {loose:List Str} {XP:(Str->Option Value)->Heap->Prop} {YP:World->Heap->Prop} {d:DefRec}
   (hn:l.most=some n) (hdf:d.params.defaults=[])
   (call:∀(w:World) (s₀ s₁:Shared) (mg mb:Str->Option Value) (fa:Addr) (o:Obj) (pm cd doc:Value) (a:Addr) (vs:List Value) (ns:List Int),
     Ground q loose [] XP w s₀ mg mb s₁.heap->YP w s₁.heap ->
     s₁.heap.get? fa=some o->o.data=.func (docDef d.name d.params d.body d.scope pm cd doc)->s₁.heap.CodeRec cd d.name->mg d.name=some (.ref fa) ->
     s₁.heap.get? a=some { cls:=.type "list",data:=.seq vs.toArray }->IntsAre vs ns->ns.length<=n->s₁.gens=#[] ->
     codeAny (model l.prog w) callerA (.call (.ref fa) ⟨[.ref a],[]⟩) (λr s'=>r=.ok (.ret (.bool true))/\OldK s₁.heap s'.heap/\s'.os=s₁.os/\AllBare s'.gens) s₁) :
   WalkO q loose XP YP l.row.toRowW d [] (λf vs=>PySem.call f vs):=by
 intro w s₀ s₁ mg mb G Y fa o pm cd doc dV kV ho hd hcd hD hmg hg args vals as hpre hlay hrd hwl hlo;obtain rfl:dV=.none:=Dflts.none hD hdf;obtain rfl:kV=.none:=Dflts.noKw hD;obtain⟨a,vs,ns,rfl,rfl,hobj,hints,hlen⟩:=zv8 hn hpre hwl;refine enter_call (codeAny_mono (call w s₀ s₁ mg mb fa o pm cd doc a vs ns G Y ho (fd_plain hd) hcd hmg hobj hints hlen hg) λr s' hq=>?_);obtain⟨rfl,h2,h3,h4⟩:=hq;exact⟨.inl ⟨.bool true,.bool true,[],rfl,λ_=>rfl,.bool true,zwm l _,λ_=>⟨List.Pairwise.nil,λ_ hm=>(nomatch hm)⟩⟩,h2,h3,h4⟩
end Att
namespace L2
open PySem PySem.Spec PyProof.Rows
theorem zq5:∀{vs:List Value} {ns:List Int},IntsAre vs ns->zcq (ns.map V.int) vs
 | _,_,.nil=>.nil
 | _,_,.cons n t h=>.cons ⟨t,rfl⟩ (zq5 h)
def z5j (H:Hp):Prop:=∀b,H b=none\/∃o xs,H b=some (.frz o (.lst xs))
theorem zyh {P:Program} {w:World} {K:W.Frag} {mg mb:Str->Option Value} {CX:CXT} {k:Nat} {fa a:Addr} {fd:FuncData} {x:Str} {sp:Sp} {s₁:Shared} {vs:List Value} {ns:List Int}
   (KX:K.In s₁.heap) (hns:s₁.heap.Ns mainGlobals mg) (hb:s₁.heap.Ns builtinsNs mb) (hbb:∀x:Str,x≠"__name__"->mb x=bootBuiltins x) (hlim:s₁.heap.NoLimit) (hg:s₁.gens=#[])
   (ha:s₁.heap.get? a=some { cls:=.type "list",data:=.seq vs.toArray }) (hi:IntsAre vs ns) (hl:ns.length<=sizeLine) (hr:Room k callerA)
   (F:∀base:Heap,K.In base->base.Ns mainGlobals mg->FnOk P w K mg base CX k fa fd [x] sp) (hbind:∀(s:Shared) (u:Value),BindsTo s fd ⟨[u],[]⟩ [(x,u)])
   (hsp:∀H:Hp,z5j H->SqL K H a (ns.map V.int)->sp [.ref a] H (λv _=>v=.bl true) λ_ _ _=>False)
   (hCX:∀H e s',CX [] H s₁ (λ_ _ _=>False) e s'->False) :
   codeAny (model P w) callerA (.call (.ref fa) ⟨[.ref a],[]⟩) (λr s'=>r=.ok (.ret (.bool true))/\OldK s₁.heap s'.heap/\s'.os=s₁.os/\AllBare s'.gens) s₁:=by
 have rv:=zq5 hi;have lenV:=hi.length
 -- from an abstract heap in which nothing but the script may be tracked
 have core:∀H:Hp,z5j H->SqL K H a (ns.map V.int)->HOk P w H s₁.heap->(∀b,H b≠none->b=a)->(H a≠none->K.lookup a=none) ->
     codeAny (model P w) callerA (.call (.ref fa) ⟨[.ref a],[]⟩) (λr s'=>r=.ok (.ret (.bool true))/\OldK s₁.heap s'.heap/\s'.os=s₁.os/\AllBare s'.gens) s₁:=by
   intro H hO hS hok hA hK;have base_of:∀{b:Addr} {o:Obj},s₁.heap.get? b=some o->H b=none->(zzk s₁.heap H).get? b=some o:=λe n=>zzo e n;have noA:∀{b:Addr} {o:Obj} {es:Array DictEntry} {ep:Nat},s₁.heap.get? b=some o->o.data=.dict es ep->H b=none:=λ{b o es ep} e d=>by
     cases q:H b with
     | none=>rfl
     | some u =>
       have e':b=a:=hA b (by rw[q]; simp);subst e';rw[ha] at e; cases e;have d':Data.seq vs.toArray _=Data.dict es ep:=d;cases d'
   have nsK:∀{b:Addr} {m:Str->Option Value},s₁.heap.Ns b m->(zzk s₁.heap H).Ns b m:=λ{b m} ⟨o,es,ep,e,d,r⟩=>⟨o,es,ep,base_of e (noA e d),d,r⟩
   have hKb:K.In (zzk s₁.heap H):=λb o e=>base_of (KX b o e) (by
     cases q:H b with
     | none=>rfl
     | some u =>
       have e':b=a:=hA b (by rw[q]; simp);subst e';rw[hK (by rw[q]; simp)] at e; cases e)
   have hM:Mod K mg (zzk s₁.heap H):=⟨hKb,nsK hns,⟨mb,nsK hb,hbb⟩,let ⟨mc,h1,h2⟩:=hlim; ⟨mc,nsK h1,h2⟩⟩
   have e0:Env0 P w K mg (zzk s₁.heap H) callerA [] s₁ H:=⟨rfl,hM,λb o e=>z2f e,Nat.le_of_eq (zvt _ _),trivial,λb hb=>absurd (show b∈([]:List Addr) from hb) (by simp),hok,.of_eq hg⟩
   refine codeAny_mono ((F _ hKb (nsK hns)).run callerA [] s₁ H ⟨[.ref a],[]⟩ [.ref a] [.ref a] _ _ hr e0 (hbind s₁ (.ref a)) (.cons rfl .nil) (hsp H hO hS)) λr s' h=>?_;cases r with
   | error e=>exact(hCX H e s' h).elim
   | ok fl =>
     cases fl with
     | next=>exact False.elim h
     | brk=>exact False.elim h
     | cont=>exact False.elim h
     | ret u =>
       obtain⟨v,H',os,bare,un,hok',r',q⟩:=h;have q':v=.bl true:=q;subst q';obtain rfl:u=Value.bool true:=r';refine⟨rfl,OldK.of_keep λb o e=>?_,os,bare⟩;cases q:H b with
       | none=>exact un.keep b o e q (by intro z; exact absurd (show b∈([]:List Addr) from z) (by simp)) (by simp)
       | some u =>
         rcases hO b with z|⟨ob,xs,z⟩
         . rw[q] at z; cases z
         . have z2:=un.frzs b ob _ z;obtain⟨e1,_⟩:=hok b _ z;obtain⟨e2,_⟩:=hok' b _ z2;rw[e] at e1; cases e1;exact e2
 cases hk:K.lookup a with
 | some o =>
   -- the script is one of the module's own objects
   have e:=KX a o hk;rw[ha] at e;cases e;refine core (λ_=>none) (λ_=>.inl rfl) (.inr ⟨_,vs.toArray,_,hk,rfl,rfl,rfl,by rw[List.size_toArray,lenV]; exact hl,by simpa using rv⟩) (λb u z=>by have z':(none:Option HO)=some u:=z; cases z') (λb z=>absurd rfl z) λz=>absurd rfl z
 | none =>
   refine core (λb=>if b=a then some (.frz { cls:=.type "list",data:=.seq vs.toArray } (.lst (ns.map V.int))) else none) (λb=>?_) (.inl (.inr ⟨{ cls:=.type "list",data:=.seq vs.toArray },if_pos rfl⟩)) (λb u z=>?_) (λb z=>?_) λ_=>hk
   . by_cases hb:b=a
     . exact .inr ⟨_,_,if_pos hb⟩
     . exact .inl (if_neg hb)
   . by_cases hb:b=a
     . have z':=(if_pos hb).symm.trans z;cases z';subst hb;exact⟨ha,by rw[List.length_map]; exact hl,vs,_,rv,ha⟩
     . have z':=(if_neg hb).symm.trans z;cases z'
   . by_cases hb:b=a
     . exact hb
     . exact absurd (if_neg hb) z
abbrev KOf {K:W.Frag} {h:Heap} (_:K.In h):W.Frag:=K
theorem z2j {l:PySem.W.OpenLaw} {n k:Nat} {q:Program} {loose:List Str} {XP:(Str->Option Value)->Heap->Prop} {YP:World->Heap->Prop} {d:DefRec} {K:Params->W.Frag} {CX:World->CXT} {sp:World->Sp} {x:Str}
   (hn:l.most=some n) (hn2:n<=sizeLine) (hdf:d.params.defaults=[]) (hr:Room k callerA)
   (hY:∀(w:World) (h:Heap),YP w h->(K w.params).In h)
   (F:∀(w:World) (mg:Str->Option Value) (fa:Addr) (h:Heap),(K w.params).In h->h.Ns mainGlobals mg->mg d.name=some (.ref fa) ->
     ∃fd:FuncData,(∀(s:Shared) (u:Value),BindsTo s fd ⟨[u],[]⟩ [(x,u)]) /\
       ∀base:Heap,(K w.params).In base->base.Ns mainGlobals mg->FnOk l.prog w (K w.params) mg base (CX w) k fa fd [x] (sp w))
   (hsp:∀(w:World) (H:Hp) (a:Addr) (ns:List Int),ns.length<=n->z5j H->SqL (K w.params) H a (ns.map V.int)->sp w [.ref a] H (λv _=>v=.bl true) λ_ _ _=>False)
   (hCX:∀(w:World) (H:Hp) (s:Shared) (e:Value) (s':Shared),CX w [] H s (λ_ _ _=>False) e s'->False) :
   PySem.W.WalkO q loose XP YP l.row.toRowW d [] (λf vs=>PySem.call f vs):=by
 refine Att.attach_call hn hdf λw s₀ s₁ mg mb fa o pm cd doc a vs ns G Y ho hd hcd hmg hobj hints hlen hg=>?_;have KX:=hY w _ Y;obtain⟨fd,hb,hF⟩:=F w mg fa _ KX G.T.g hmg;exact zyh KX G.T.g G.T.b G.T.builtins G.T.nolimit hg hobj hints (Nat.le_trans hlen hn2) hr hF hb (λH hO hS=>hsp w H a ns hlen hO hS) λH e s'=>hCX w H s₁ e s'
theorem walk_ofK {l:PySem.W.OpenLaw} {n k:Nat} {q:Program} {loose:List Str} {XP:(Str->Option Value)->Heap->Prop} {YP:World->Heap->Prop} {d:DefRec} {K:Params->W.Frag} {CX:CXT} {sp:W.Frag->Sp} {x:Str}
   (hn:l.most=some n) (hn2:n<=sizeLine) (hdf:d.params.defaults=[]) (hr:Room k callerA)
   (hY:∀(w:World) (h:Heap),YP w h->(K w.params).In h)
   (F:∀(w:World) (mg:Str->Option Value) (fa:Addr) (h:Heap),(K w.params).In h->h.Ns mainGlobals mg->mg d.name=some (.ref fa) ->
     ∃fd:FuncData,(∀(s:Shared) (u:Value),BindsTo s fd ⟨[u],[]⟩ [(x,u)]) /\
       ∀base:Heap,(K w.params).In base->base.Ns mainGlobals mg->FnOk l.prog w (K w.params) mg base CX k fa fd [x] (sp (K w.params)))
   (hsp:∀(K:W.Frag) (H:Hp) (a:Addr) (ns:List Int),ns.length<=n->z5j H->SqL K H a (ns.map V.int)->sp K [.ref a] H (λv _=>v=.bl true) λ_ _ _=>False)
   (hCX:∀(H:Hp) (s:Shared) (e:Value) (s':Shared),CX [] H s (λ_ _ _=>False) e s'->False) :
   PySem.W.WalkO q loose XP YP l.row.toRowW d [] (λf vs=>PySem.call f vs) :=
 z2j (K:=K) (CX:=λ_=>CX) (sp:=λw=>sp (K w.params)) hn hn2 hdf hr hY F (λw H a ns h1 h2 h3=>hsp (K w.params) H a ns h1 h2 h3) λ_ H s e s'=>hCX H s e s'
def zbk (s:Stmt) (j:Nat):Stmt:=match s with
 | .ClassDef _ _ _ body _ _ _ _ _ _ _=>body.getD j (.Pass ⟨0,0,0,0⟩)
 | _=>.Pass ⟨0,0,0,0⟩
def zde (s:Stmt):Arguments:=match s with
 | .FunctionDef _ a _ _ _ _ _ _ _ _=>a
 | _=>{ posonlyargs:=[],args:=[],vararg:=none,kwonlyargs:=[],kw_defaults:=[],kwarg:=none,defaults:=[] }
def zav (s:Stmt):List Stmt:=match s with
 | .FunctionDef _ _ b _ _ _ _ _ _ _=>b
 | _=>[]
def zai (s:Stmt):Scope:=match s with
 | .FunctionDef _ _ _ _ _ _ sc _ _ _=>sc
 | _=>{ kind:=.function,names:=[],isGenerator:=false,isCoroutine:=false }
abbrev CX0:CXT:=λ_ _ _ _ _ _=>False
abbrev E0:XK:=λ_ _ _=>False
theorem zcu {X:Cx}:zjf CX0 X E0:=λ_ _ _ _ _ _ _ h=>h.elim
structure Fun (K:W.Frag) (x qual:Str) (st:Stmt) (f:Addr) (fd:FuncData):Prop where
 ex:∃(oc:Value) (od:Option Addr) (kV doc pm:Value) (an:Option Addr) (cdv ct:Value) (osl:Array (Option Value)),
   fd=PySem.W.fnOf x qual (zde st) (zav st) (zai st) .none kV doc pm an cdv ct/\K.lookup f=some ⟨oc,od,.func fd,osl⟩/\PySem.W.codeIn K cdv qual=true
 kp:PySem.W.keepIn K (.ref f)=true
section
variable {P:Program} {w:World} {K:W.Frag} {mg:Str->Option Value} {base:Heap}
theorem Fun.ok {x qual:Str} {st:Stmt} {f:Addr} {fd:FuncData} {N ps:List Str} {k:Nat} {sp:Sp} (F:Fun K x qual st f fd) (S:FnScope N ps (zai st)) (len:∀vs H Q E,sp vs H Q E->vs.length=ps.length)
   (hbody:∀(cdv:Value) (A:Around) (outer:List Env) (s:Shared) (H:Hp) (vs:List V) (Q:VK) (E:XK),Room k (A.deeper (envOfC qual (zai st) s.heap.objs.size f cdv))->sp vs H Q E ->
     ∃t,PSs (zkf CX0 P w K mg base N qual (zai st) f cdv A outer s H E).nox (zav st) t/\t { nx:=λ_ H'=>Q .non H',rt:=Q } (zph N vs) H):FnOk P w K mg base CX0 (k+1) f fd ps sp:=by
 obtain⟨oc,od,kV,doc,pm,an,cdv,ct,osl,rfl,lk,hcd⟩:=F.ex;refine z4r lk hcd S len λA outer s H vs Q E hr hsp=>?_;obtain⟨t,h,q⟩:=hbody cdv A outer s H vs Q E hr hsp;exact⟨t,h.nox,q⟩
theorem Fun.binds {x qual:Str} {st:Stmt} {f:Addr} {fd:FuncData} {ps:List Str} (F:Fun K x qual st f fd)
   (h:∀(kV doc pm:Value) (an:Option Addr) (cdv ct:Value) (us:List Value),us.length=ps.length->bindArgs (PySem.W.fnOf x qual (zde st) (zav st) (zai st) .none kV doc pm an cdv ct) ⟨us,[]⟩=pure (ps.zip us)):zjq K fd ps []:=by
 obtain⟨oc,od,kV,doc,pm,an,cdv,ct,osl,rfl,lk,hcd⟩:=F.ex;exact .all (h kV doc pm an cdv ct)
theorem zlu {x qual:Str} {st:Stmt} {f:Addr} {oc:Value} {od an:Option Addr} {osl:Array (Option Value)} {kV doc pm cdv ct:Value} (l:K.lookup f=some ⟨oc,od,.func (PySem.W.fnOf x qual (zde st) (zav st) (zai st) .none kV doc pm an cdv ct),osl⟩)
   (c:PySem.W.codeIn K cdv qual=true) (k:PySem.W.keepIn K (.ref f)=true):Fun K x qual st f (PySem.W.fnOf x qual (zde st) (zav st) (zai st) .none kV doc pm an cdv ct):=⟨⟨oc,od,kV,doc,pm,an,cdv,ct,osl,rfl,l,c⟩,k⟩
end
theorem zwt {n:Nat} (h:n<=1000):n<sizeLine:=qbw h (by decide)
section
variable {X:Cx}
theorem pv (i:Nat) {x:Str} {pos:Pos} (hN:X.N[i]?=some x:=by rfl) (hv:Vis X.env.scope x:=by first|exact Or.inl rfl|exact Or.inr (Or.inl rfl)|exact Or.inr (Or.inr rfl)) (hd:(x==("__debug__":Str))=false:=by decide)
   (hcd:(x==("__classdict__":Str))=false:=by decide):PE X (.Name x pos) (zz6 i):=z5c hN hv hd hcd
end
theorem z3t {A B:Prop} (h:B):if false=true then A else B:=by rw[if_neg qar];exact h
theorem z0a {A B:Prop} (h:A):if true=true then A else B:=by rw[if_pos rfl];exact h
theorem z10 {c A B:Prop} [Decidable c] (h1:c->A) (h2:¬ c->B):if c then A else B:=by
 by_cases h:c
 . rw[if_pos h];exact h1 h
 . rw[if_neg h];exact h2 h
def zan (H H':Hp):Prop:=∀b o,H b=some o->H' b=some o
theorem zan.refl (H:Hp):zan H H:=λ_ _ h=>h
theorem zan.trans {H H1 H2:Hp} (a:zan H H1) (b:zan H1 H2):zan H H2:=λc o h=>b c o (a c o h)
theorem zan.free {H H':Hp} (e:zan H H') {l:Addr} (h:H' l=Option.none):H l=Option.none:=by
 cases q:H l with
 | none=>rfl
 | some o =>
   rw[e l o q] at h;cases h
theorem zan.seq {K:W.Frag} {H H':Hp} {a:Addr} {xs:List V} (e:zan H H') (h:SqL K H a xs):SqL K H' a xs:=by
 rcases h with(h|⟨o,h⟩)|h
 . exact .inl (.inl (e _ _ h))
 . exact .inl (.inr ⟨o,e _ _ h⟩)
 . exact .inr h
end L2
set_option maxHeartbeats 4000000
namespace L2
open PySem PySem.Spec PyProof.Rows
def zjp:List (Str×NameKind)->List (Str×Addr)->List (Str×Addr)->List (Str×Addr)
 | [],_,acc=>acc
 | (n,k) :: r,cells,acc=>if k==.free then zjp r cells ((n,(cells.lookup n).getD 0) :: acc) else zjp r cells acc
theorem zqu {env:Env}:∀(names:List (Str×NameKind)) (acc:List (Str×Addr)),(∀y∈names,y.2=.free->∃c,env.cells.lookup y.1=some c) ->
   (forIn names acc λx r=>(match x with|(name,kind)=>if(kind==NameKind.free)=true then do let a <- cellOf env name; pure (ForInStep.yield ((name,a) :: r)) else pure (ForInStep.yield r):Sem (ForInStep (List (Str×Addr)))))=(pure (zjp names env.cells acc):Sem (List (Str×Addr)))
 | [],acc,_=>rfl
 | (n,k) :: r,acc,h=>by
   have ih:=λacc=>zqu (env:=env) r acc λy hy=>h y (List.mem_cons_of_mem _ hy);rw[qc8];unfold zjp;cases hk:(k==NameKind.free) with
   | true =>
     obtain⟨c,hc⟩:=h (n,k) List.mem_cons_self (by simpa using hk);have hc:env.cells.lookup n=some c:=hc;have e:cellOf env n=pure c:=by unfold cellOf; rw[hc]
     simp only[hk,if_true,e,pure_bind,hc,Option.getD_some];exact ih _
   | false =>
     simp only[hk,qce,if_false,pure_bind];exact ih _
theorem zzv {scope:Scope} {env:Env} (h:∀y∈scope.names,y.2=.free->∃c,env.cells.lookup y.1=some c):closureFor scope env=pure (zjp scope.names env.cells []):=by
 have e:=zqu (env:=env) scope.names [] h;unfold closureFor
 first
   | (rw[e]; rfl)
   | (simp only[e]; rfl)
   | exact(congrArg (λt=>t >>= λr=>pure r) e)
theorem zmz {cells:List (Str×Addr)}:∀(names:List (Str×NameKind)) (acc:List (Str×Addr)),(∀y∈names,y.2=.free->∃c,cells.lookup y.1=some c)->(∀x c,acc.lookup x=some c->cells.lookup x=some c) ->
   ∀x c,(zjp names cells acc).lookup x=some c->cells.lookup x=some c
 | [],acc,_,h2=>h2
 | (n,k) :: r,acc,h,h2=>by
   unfold zjp;cases hk:(k==NameKind.free) with
   | true =>
     rw[if_pos rfl];refine zmz r _ (λy hy=>h y (List.mem_cons_of_mem _ hy)) λx c e=>?_;obtain⟨c',hc⟩:=h (n,k) List.mem_cons_self (by simpa using hk);have hc:cells.lookup n=some c':=hc;rw[qb4] at e;cases hx:x==n with
     | true =>
       have hx':x=n:=by simpa using hx
       rw[hx] at e;rw[hx',hc];simpa [hc] using e
     | false =>
       rw[hx] at e;exact h2 x c e
   | false =>
     rw[if_neg (by simp)];exact zmz r _ (λy hy=>h y (List.mem_cons_of_mem _ hy)) h2
theorem zm4 {cells:List (Str×Addr)} {x:Str}:∀(names:List (Str×NameKind)) (acc:List (Str×Addr)),(acc.lookup x).isSome=true->((zjp names cells acc).lookup x).isSome=true
 | [],_,h=>h
 | (n,k) :: r,acc,h=>by
   unfold zjp;split
   . refine zm4 r _ ?_;rw[qb4];cases x==n <;> simp [h]
   . exact zm4 r _ h
theorem zmt {cells:List (Str×Addr)} {x:Str}:∀(names:List (Str×NameKind)) (acc:List (Str×Addr)),(x,NameKind.free)∈names->((zjp names cells acc).lookup x).isSome=true
 | (n,k) :: r,acc,h=>by
   unfold zjp;rcases List.mem_cons.mp h with e|e
   . cases e;rw[if_pos (by rfl)];exact zm4 r _ (by rw[qb4]; simp)
   . split
     . exact zmt r _ e
     . exact zmt r _ e
def zen (X:Cx) (N':List Str) (scope:Scope) (C:Addr) (s:Shared) (H:Hp) (fp:List Addr):Cx :=
 { X with N:=N',s₀:=s,H₀:=H,env:=compEnvC scope (zjp scope.names X.env.cells []) C X.env,outer:=X.stack,stack:=X.stack,ex:=fp,fn:=λ_=>false,pn:=[],xe:=λ_ _=>False }
def cap (js:List (Option Nat)) (σ:St):St:=js.map λo=>o.bind λj=>(σ[j]?).join
def zqw (scope osc:Scope) (N' N:List Str) (js:List (Option Nat)):Bool :=
 (scope.kind==.function)&&(scope.names.all λy=>y.2 != .cell&&(if y.2==.local then scope.names.lookup y.1==some .local else true) &&
   (if y.2==.free then osc.names.lookup y.1==some .cell || osc.names.lookup y.1==some .free else true)) &&
 js.length==N'.length&&((js.zip N').all λq=>match q.1 with
   | none=>true
   | some j=>N[j]?==some q.2&&(osc.names.lookup q.2==some .cell || osc.names.lookup q.2==some .free)&&scope.names.lookup q.2==some .free)
structure CompOk (scope osc:Scope) (N' N:List Str) (js:List (Option Nat)):Prop where
 kind:scope.kind=.function
 nocell:∀y∈scope.names,y.2≠.cell
 names:∀y∈scope.names,y.2=.local->scope.names.lookup y.1=some .local
 free:∀y∈scope.names,y.2=.free->osc.names.lookup y.1=some .cell\/osc.names.lookup y.1=some .free
 len:js.length=N'.length
 slots:∀(i j:Nat) (x:Str),js[i]?=some (some j)->N'[i]?=some x->N[j]?=some x/\(osc.names.lookup x=some .cell\/osc.names.lookup x=some .free)/\scope.names.lookup x=some .free
theorem zvv {scope osc:Scope} {N' N:List Str} {js:List (Option Nat)} (h:zqw scope osc N' N js=true):CompOk scope osc N' N js:=by
 unfold zqw at h;rw[qa1,qa1,qa1,qdt,qdt] at h;obtain⟨⟨⟨h1,h2⟩,h3⟩,h4⟩:=h;refine⟨by cases hk:scope.kind <;> first|rfl|(rw[hk] at h1; cases h1),λy hy e=>?_,λy hy e=>?_,λy hy e=>?_,by simpa using h3,λi j x e1 e2=>?_⟩
 . have q:=h2 y hy;rw[e] at q;simp at q
 . have q:=h2 y hy;rw[qa1,qa1] at q;have q2:=q.1.2;rw[e] at q2;simpa using q2
 . have q:=h2 y hy;rw[qa1,qa1] at q;have q2:=q.2;rw[e] at q2;simpa using q2
 . have hm:(some j,x)∈js.zip N':=by refine List.mem_of_getElem? (i:=i) ?_;rw[qb7];exact⟨e1,e2⟩
   have q:=h4 _ hm;simp only[qa1,Bool.or_eq_true,beq_iff_eq] at q;exact⟨q.1.1,q.1.2,q.2⟩
theorem zi8 {env:Env}:∀(names:List (Str×NameKind)) (x:Str),names.lookup x=some .free ->
   ((names.map λ(n,k)=>if(k==NameKind.free&&env.scope.kind==.function&&env.kindOf n==some .cell) then(n,NameKind.cell) else(n,k)).lookup x=some .cell \/
     (names.map λ(n,k)=>if(k==NameKind.free&&env.scope.kind==.function&&env.kindOf n==some .cell) then(n,NameKind.cell) else(n,k)).lookup x=some .free)
 | [],x,h=>by simp at h
 | (n,k) :: r,x,h=>by
   have ih:=zi8 (env:=env) r x;rw[qaz];rw[qb4] at h;by_cases hb:(k==NameKind.free&&env.scope.kind==.function&&env.kindOf n==some .cell)=true
   . have e1:(if(k==NameKind.free&&env.scope.kind==.function&&env.kindOf n==some .cell)=true then(n,NameKind.cell) else(n,k))=(n,NameKind.cell):=if_pos hb;simp only[e1,qb4];cases hx:x==n with
     | true=>exact .inl rfl
     | false =>
       rw[hx] at h;exact ih h
   . have e1:(if(k==NameKind.free&&env.scope.kind==.function&&env.kindOf n==some .cell)=true then(n,NameKind.cell) else(n,k))=(n,k):=if_neg hb;simp only[e1,qb4];cases hx:x==n with
     | true =>
       rw[hx] at h;exact .inr h
     | false =>
       rw[hx] at h;exact ih h
theorem zlp {scope:Scope} {env:Env}:∀(names:List (Str×NameKind)) (x:Str),(∀y∈names,y.2≠.cell) ->
   ((names.map λ(n,k)=>if(k==NameKind.free&&env.scope.kind==.function&&env.kindOf n==some .cell) then(n,NameKind.cell) else(n,k)).lookup x=some .cell \/
     (names.map λ(n,k)=>if(k==NameKind.free&&env.scope.kind==.function&&env.kindOf n==some .cell) then(n,NameKind.cell) else(n,k)).lookup x=some .free)->(x,NameKind.free)∈names
 | [],x,_,h=>by simp at h
 | (n,k) :: r,x,hc,h=>by
   have ih:=zlp (scope:=scope) (env:=env) r x λy hy=>hc y (List.mem_cons_of_mem _ hy);rw[qaz] at h;by_cases hb:(k==NameKind.free&&env.scope.kind==.function&&env.kindOf n==some .cell)=true
   . have hkf:k=.free:=by rw[qa1,qa1] at hb;simpa using hb.1.1
     have e1:(if(k==NameKind.free&&env.scope.kind==.function&&env.kindOf n==some .cell)=true then(n,NameKind.cell) else(n,k))=(n,NameKind.cell):=if_pos hb;simp only[e1,qb4] at h;cases hx:x==n with
     | true =>
       have hx':x=n:=by simpa using hx
       rw[hx',hkf];exact List.mem_cons_self
     | false =>
       rw[hx] at h;exact List.mem_cons_of_mem _ (ih h)
   . have e1:(if(k==NameKind.free&&env.scope.kind==.function&&env.kindOf n==some .cell)=true then(n,NameKind.cell) else(n,k))=(n,k):=if_neg hb;simp only[e1,qb4] at h;cases hx:x==n with
     | true =>
       have hx':x=n:=by simpa using hx
       rw[hx] at h;rcases h with h|h
       . exact absurd (Option.some.inj h) (hc (n,k) List.mem_cons_self)
       . have hkf:k=.free:=Option.some.inj h;rw[hx',hkf];exact List.mem_cons_self
     | false =>
       rw[hx] at h;exact List.mem_cons_of_mem _ (ih h)
theorem Un.sameBut {fs ex:List Addr} {H H':Hp} {h h1 h2:Heap} {C:Addr} (u:Un fs ex H H' h h1) (hs:Heap.SameBut C h1 h2) (hC:h.objs.size<=C):Un fs ex H H' h h2:=by
 have ne:∀b o,h.get? b=some o->b≠C:=λb o e=>qa2 (Nat.lt_of_lt_of_le (Heap.lt_size e) hC);refine⟨λb o e n hb hx=>(hs.2 b (ne b o e)).trans (u.keep b o e n hb hx),λb o e n hb hx=>?_,u.free,λb o e hx=>?_,u.tups,u.frzs,u.tbls⟩
 . obtain⟨sl,q⟩:=u.slot b o e n hb hx;exact⟨sl,(hs.2 b (ne b o e)).trans q⟩
 . obtain⟨o',q⟩:=u.there b o e hx;exact⟨o',(hs.2 b (ne b o e)).trans q⟩
theorem z21 {α:Type} {t:Sem α} {Q Q':α->Shared->Prop} {M:Model} {A:Around} {E:Value->Shared->Prop} {s:Shared} (h:wpAny M A t Q (λ_ _=>False) s) (hQ:∀a s,Q a s->Q' a s):wpAny M A t Q' E s:=wpAny_mono h hQ λ_ _ f=>f.elim
theorem zvp {prog:Program} {w:World} {A:Around} {R:Result->Shared->Prop} {s:Shared} {elt target iter:Expr} {ifs:List Expr} {scope:Scope} {pos:Pos} {it acc:Value} {env:Env} (I:Nat->Shared->Prop)
   (turn:∀n s,I n s->wpAny (model prog w) A (pyNext it) (λr s₁=>match r with
     | none=>R (.ok .next) s₁
     | some v=>wpAny (model prog w) A (letOwnedTupleGo target it v) (λ_ s₂=>wpAny (model prog w) A (assign target env v) (λ_ s₃ =>
         wpAny (model prog w) A (forIn ifs true λc r=>if r=true then do let ok <- isTrue c env (eval c env); pure (ForInStep.yield ok) else pure (ForInStep.yield r)) (λok s₄ =>
           if ok=true then wpAny (model prog w) A (eval elt env) (λx s₅ =>
             wpAny (model prog w) A (call (.builtin "list.append") [acc,x]) (λ_ s₆=>∃m,m<n/\I m s₆) (λ_ _=>False) s₅) (λ_ _=>False) s₄
           else ∃m,m<n/\I m s₄) (λ_ _=>False) s₃) (λ_ _=>False) s₂) (λ_ _=>False) s₁) (λ_ _=>False) s)
   (n:Nat) (h:I n s):codeAny (model prog w) A (.compLoop (.ListComp elt [⟨target,iter,ifs,0⟩] scope pos) 0 it acc env) R s:=by
 refine codeAny_loop rfl I (λn s hI=>?_) n h;show wpAny _ A ((compTurn (.ListComp elt [⟨target,iter,ifs,0⟩] scope pos) 0 it acc env).onRaise (λx=>do noteFrame x env; theTreesLotGoes x)) _ _ s;refine wpAny_noted ?_;rw[compTurn_list];refine wpAny_bind (wpAny_standAt (wpAny_bind (z21 (turn n s hI) λr s₁ h₁=>?_)));cases r with
 | none=>exact wpAny_pure h₁
 | some v =>
   refine wpAny_bind (z21 h₁ λ_ s₂ h₂=>wpAny_bind (z21 h₂ λ_ s₃ h₃=>wpAny_bind (z21 h₃ λok s₄ h₄=>?_)));cases ok with
   | false=>exact wpAny_pure ⟨rfl,h₄⟩
   | true =>
     exact wpAny_bind (wpAny_bind (z21 h₄ λx s₅ h₅=>wpAny_bind (z21 h₅ λ_ s₆ h₆=>wpAny_pure (wpAny_pure ⟨rfl,h₆⟩))))
def PIf (X:Cx) (ifs:List Expr) (t:TT):Prop :=
 ∀(pins:List (Addr×Obj)) (s:Shared) (σ:St) (H:Hp) (Q:Bool->Hp->Prop),Inv X pins σ H s->t σ H Q ->
   wpAny (model X.prog X.w) X.A (forIn ifs true λc r=>if r=true then do let ok <- isTrue c X.env (eval c X.env); pure (ForInStep.yield ok) else pure (ForInStep.yield r)) (TP X pins σ Q) X.xe s
def tYes:TT:=λ_ H Q=>Q true H
theorem zfc {X:Cx}:PIf X [] tYes:=λ_ _ _ H _ I h=>wpAny_tests_nil ⟨H,I,h⟩
theorem z13 {X:Cx} {c:Expr} {t:TT} (h:PT X c t):PIf X [c] t:=λpins s σ H Q I hq=>wpAny_tests_one (h pins s σ H Q I hq)
def z5g (js:List (Option Nat)) (g:TG):Prop:=∀(x:V) (σ:St) (H:Hp) (Q:St->Hp->Prop),σ.length=js.length->g x σ H Q->g x σ H λσ' H'=>Q σ' H'/\σ'.length=js.length/\∀(i j:Nat),js[i]?=some (some j)->σ'[i]?=σ[i]?
theorem zdo {js:List (Option Nat)} {i:Nat} (h:js[i]?=some none:=by rfl):z5g js (zxb i):=λx σ H Q hl q=>⟨q,by rw[qbh]; exact hl,λk j e=>by rw[qcl];intro z;subst z;rw[h] at e;cases e⟩
def zru (J:It) (g:TG) (tif:TT) (te:TE) (js:List (Option Nat)) (σ:St) (Q:VK) (p:Addr) (H1:Hp):Prop :=
 ∃W:Nat->Nat->List V->Hp->Prop,(∃m,W 0 m [] (upd H1 p (.lst [])))/\∀i m acc H2,W i m acc H2->H2 p=some (.lst acc) /\
   ((J.stop i H2/\Q (.ref p) H2)\/(J.go i H2/\acc.length<sizeLine/\∃N:List V->Hp->Prop,(∀acc' H',N acc' H'->∃m',m'<m/\W (i+1) m' acc' H') /\
     ∀x H',J.yld i H2 x H'->g x (cap js σ) H' λσ2 H3=>tif σ2 H3 λc H4 =>
       if c=true then te σ2 H4 λy H5=>H5 p=some (.lst acc)/\N (acc++[y]) (upd H5 p (.lst (acc++[y]))) else N acc H4))
def z1i (wi:TI) (g:TG) (tif:TT) (te:TE) (js:List (Option Nat)):TE:=λσ H Q=>wi σ H λJ H1=>∀p,H1 p=none->zru J g tif te js σ Q p H1
theorem zqb {X:Cx} {use:Option (Value->Sem Unit)} {Q':Value->Shared->Prop} {Q:VK} {pins:List (Addr×Obj)} {s:Shared} {σ:St} {H:Hp} {elt target iter:Expr} {ifs:List Expr} {scope:Scope} {pos:Pos} {wi:TI} {g:TG} {tif:TT} {te:TE} {N':List Str} {js:List (Option Nat)} (hok:zqw scope X.env.scope N' X.N js=true) (hc:X.calm=true)
   (hi:PI X target iter wi) (ho:z5g js g) (hg:∀C s H fp,PG (zen X N' scope C s H fp) target g) (hif:∀C s H fp,PIf (zen X N' scope C s H fp) ifs tif) (he:∀C s H fp,PE (zen X N' scope C s H fp) elt te)
   (hs:∀x,foldedSetIterable iter X.env x=pure x) (I:Inv X pins σ H s) (h:z1i wi g tif te js σ H Q)
   (hfin:∀(s2:Shared) (H2:Hp) (fp:List Addr) (C:Addr),Inv X pins σ H2 s2->(∀b∈fp,zwj X pins H2 b)->s2.heap.objs.size<=C->∀(σ':St) (H':Hp) (s':Shared),Inv (zen X N' scope C s2 H2 fp) [] σ' H' s'->Q (.ref s2.heap.objs.size) H' ->
     compPost (model X.prog X.w) X.A X.xe use Q' (.ref s2.heap.objs.size) C (.ok .next) s') :
   wpAny (model X.prog X.w) X.A (comprehension (.ListComp elt [⟨target,iter,ifs,0⟩] scope pos) scope X.env (firstIterPos [⟨target,iter,ifs,0⟩] pos) (newList []) false (eval iter X.env) use) Q' X.xe s:=by
 have O:=zvv hok;have hfr:∀y∈scope.names,y.2=.free->∃c,X.env.cells.lookup y.1=some c:=λy hy e=>I.ok.has y.1 (O.free y hy e);refine wpAny_comprehension_free (use:=use) rfl hs (zzv hfr) O.kind O.names (thn (hi pins s σ H _ I h) λv s1 h1=>thn h1 λitv s2 h2=>?_);obtain⟨it,fp,tn,J,H2,e,I2,T,st2,f2,hq⟩:=h2;subst e;have hf0:H2 s2.heap.objs.size=none:=I2.hok.fresh (qae _);obtain⟨W,⟨m0,w0⟩,turn⟩:=hq _ hf0;refine wpAny_newObj_type (wpAny_newFunctionEnv O.nocell (by intro y hy; simp at hy) (λh₁ hns₁ hsb₁=>?_) O.kind);dsimp only at hns₁ hsb₁ ⊢;generalize hH2:s2.heap.push { cls:=.type "list",dict:=none,data:=.seq ([]:List Value).toArray }=B at hns₁ hsb₁ ⊢;have hC:B.objs.size=s2.heap.objs.size+1:=by rw[<- hH2,qby]
 have hCle:s2.heap.objs.size<=B.objs.size:=by rw[hC]; exact qcm _
 have old:∀b o,s2.heap.get? b=some o->h₁.get? b=some o:=λb o e=>hsb₁.extBut b o (by rw[hC]; exact qa2 (Nat.lt_succ_of_lt (Heap.lt_size e))) (Heap.get?_push_of_some _ (hH2 ▸ Heap.get?_push_of_some _ e));have hDC:s2.heap.objs.size≠B.objs.size:=by rw[hC]; exact qa2 (qca _)
 have hacc:h₁.get? s2.heap.objs.size=some { cls:=.type "list",dict:=none,data:=.seq ([]:List Value).toArray }:=hsb₁.extBut _ _ hDC (Heap.get?_push_of_some _ (hH2 ▸ qap _ rfl));have fpO:∀b∈fp,b<s2.heap.objs.size:=λb hb=>by obtain⟨o,e,_⟩:=T.obj 0 _ st2 b hb;exact Heap.lt_size e
 have sub:∀x c,(zjp scope.names X.env.cells []).lookup x=some c->X.env.cells.lookup x=some c:=zmz scope.names [] hfr (λx c e=>by cases e);have hasC:∀x,((relabel scope X.env).names.lookup x=some .cell\/(relabel scope X.env).names.lookup x=some .free)->∃c,(zjp scope.names X.env.cells []).lookup x=some c:=λx hx =>
   qcx.mp (zmt scope.names [] (zlp (scope:=scope) (env:=X.env) scope.names x O.nocell hx))
 -- the block's context at its begin
 have IY:∀t,Inv (zen X N' scope B.objs.size s2 H2 fp) [] (cap js σ) (upd H2 s2.heap.objs.size (.lst [])) { s2 with heap:=h₁,toks:=t }:=by
   intro t;refine⟨⟨I2.ok.mod,O.kind,I2.ok.glob,I2.ok.blt,hCle,λx y c h1 h2=>I2.ok.inj x y c (sub x c h1) (sub y c h2),λx hx=>hasC x hx,λx c h=>(by cases h),I2.ok.hd,I2.ok.frames,.inl rfl,λb hb=>⟨qa2 (Nat.lt_of_lt_of_le (fpO b hb) hCle),λx c e=>(f2 b hb).2.2.2.2.1 x c (sub x c e)⟩,
     I2.bs,Nat.le_trans I2.ok.bsz I2.sz,λb o e hb=>?_,λb hb z=>?_,I2.stack,I2.stkFree⟩,rfl,I2.bare,Un.laid old (qae _) hf0,⟨_,hns₁,λi x v e1 e2 e3=>?_⟩,λx c e=>?_,?_,λx c e=>?_,λp hp=>absurd (show p∈([]:List (Addr×Obj)) from hp) (by simp),?_,?_⟩
   . rcases (f2 b hb).2.2.2.1 with z|z
     . exact I2.ok.noex b o e z
     . exact absurd (Nat.lt_of_lt_of_le (Nat.lt_of_lt_of_le (Heap.lt_size e) I2.ok.bsz) z) (qbd _)
   . rcases List.mem_cons.mp (I2.stkSub b z) with q|q
     . exact(f2 b hb).2.1 q
     . exact(f2 b hb).2.2.1 q
   . have e1:N'[i]?=some x:=e1;unfold cap at e2;rw[List.getElem?_map] at e2;cases q:js[i]? with
     | none=>rw[q] at e2; cases e2
     | some o =>
       rw[q] at e2;cases o with
       | none=>cases e2
       | some j =>
         have e2:(σ[j]?).join=some v:=by simpa using e2
         have e2':σ[j]?=some (some v):=by
           cases z:σ[j]? with
           | none=>rw[z] at e2; cases e2
           | some a=>rw[z] at e2; cases a with
             | none=>cases e2
             | some a=>cases e2; rfl
         obtain⟨hN,hk,hsf⟩:=O.slots i j x q e1;obtain⟨m,hn,hl⟩:=I2.loc;obtain⟨u,r,l⟩:=hl j x v hN e2' (.inr hk);refine⟨u,r,?_⟩;have hkX:X.env.kindOf x=some .cell\/X.env.kindOf x=some .free:=hk;rcases l with⟨k,_⟩|⟨k,c,hc',hcell⟩
         . rcases hkX with z|z
           . rw[k] at z; cases z
           . rw[k] at z; cases z
         . have hky:(relabel scope X.env).names.lookup x=some .cell\/(relabel scope X.env).names.lookup x=some .free:=zi8 (env:=X.env) scope.names x hsf;obtain⟨c2,hc2⟩:=hasC x hky;have:c2=c:=by have:=sub x c2 hc2;rw[hc'] at this;exact(Option.some.inj this).symm
           subst this;obtain⟨ob,ho,hd⟩:=hcell;exact .inr ⟨hky,c2,hc2,ob,old _ _ ho,hd⟩
   . obtain⟨v,ob,ho,hd⟩:=I2.cell x c (sub x c e);exact⟨v,ob,old _ _ ho,hd⟩
   . show upd H2 s2.heap.objs.size (.lst []) B.objs.size=none;rw[zag (Ne.symm hDC)];exact I2.hok.fresh hCle
   . obtain⟨v,ob,ho,hd⟩:=I2.cell x c (sub x c e);rw[zag (qa2 (Heap.lt_size ho))];exact I2.freeC x c (sub x c e)
   . exact I2.hok.laid old (qae _) ⟨qa6 _,[],0,.nil,hacc⟩
   . unfold cap;rw[List.length_map];exact O.len
 have hcl:(cap js σ).length=js.length:=by unfold cap; rw[List.length_map]
 have fin:∀{σ':St} {H':Hp} {s':Shared},Inv (zen X N' scope B.objs.size s2 H2 fp) [] σ' H' s'->Q (.ref s2.heap.objs.size) H'->compPost (model X.prog X.w) X.A X.xe use Q' (.ref s2.heap.objs.size) B.objs.size (.ok .next) s' :=
   λ{σ' H' s'} J q=>hfin s2 H2 fp B.objs.size I2 f2 hCle σ' H' s' J q
 have loop:∀t,codeAny (model X.prog X.w) X.A (.compLoop (.ListComp elt [⟨target,iter,ifs,0⟩] scope pos) 0 (.ref it) (.ref s2.heap.objs.size) (compEnvC scope (zjp scope.names X.env.cells []) B.objs.size X.env))
     (compPost (model X.prog X.w) X.A X.xe use Q' (.ref s2.heap.objs.size) B.objs.size) { s2 with heap:=h₁,toks:=t }:=by
   intro t;have stat:∀{H':Hp},(∀b∈fp,H' b=none)->∀b∈fp,zwj (zen X N' scope B.objs.size s2 H2 fp) [] H' b:=λhn b hb =>
     ⟨hn b hb,qa2 (Nat.lt_of_lt_of_le (fpO b hb) hCle),(IY t).ok.exfs b hb,.inl hb,λx c e=>((IY t).ok.exf b hb).2 x c e,λp hp=>absurd (show p∈([]:List (Addr×Obj)) from hp) (by simp)⟩
   refine zvp (λn s'=>∃i acc H',Inv (zen X N' scope B.objs.size s2 H2 fp) [] (cap js σ) H' s'/\tn i s'.heap/\(∀b∈fp,H' b=none)/\W i n acc H') ?_ m0
     ⟨0,[],_,IY t,T.keep 0 _ _ st2 (λb _ o e=>old b o e),λb hb=>by rw[zag (qa2 (fpO b hb))]; exact(f2 b hb).1,w0⟩
   rintro n s3 ⟨i,acc,H3,I3,st3,fr3,w3⟩;obtain⟨hD,turn⟩:=turn i n acc H3 w3;rcases turn with⟨stop,qn⟩|⟨go,hlen,N,hN,step⟩
   . refine thn (T.done (zen X N' scope B.objs.size s2 H2 fp) rfl rfl rfl hc i [] s3 (cap js σ) H3 (λ_ _=>False) I3 (stat fr3) st3 stop) λr s4 ⟨hr,I4⟩=>?_;subst hr;exact fin I4 qn
   . refine thn (T.item (zen X N' scope B.objs.size s2 H2 fp) rfl rfl rfl hc i [] s3 (cap js σ) H3 (λ_ _=>False) I3 (stat fr3) st3 go) λr s4 ⟨u,hr,h4⟩=>?_;subst hr;refine thn h4 λ_ s5 ⟨x,H5,I5,r5,y5,st5,fr5⟩=>?_;have I5':=I5.pinned (stat fr5) (T.obj _ _ st5);refine thn (hg _ _ _ _ _ s5 (cap js σ) H5 x u _ I5' r5 (ho x (cap js σ) H5 _ hcl (step x H5 y5))) λ_ s6 ⟨σ6,H6,I6,q6,hl6,hk6⟩=>?_;refine thn (hif _ _ _ _ _ s6 σ6 H6 _ I6 q6) λok s7 ⟨H7,I7,q7⟩=>?_;have again:∀{H8:Hp} {acc8:List V} {s8:Shared},Inv (zen X N' scope B.objs.size s2 H2 fp) ([]++zqq fp s5.heap) σ6 H8 s8->N acc8 H8 ->
         ∃m,m<n/\∃i acc H',Inv (zen X N' scope B.objs.size s2 H2 fp) [] (cap js σ) H' s8/\tn i s8.heap/\(∀b∈fp,H' b=none)/\W i m acc H':=by
       intro H8 acc8 s8 I8 n8;obtain⟨m',hm,w8⟩:=hN acc8 H8 n8;refine⟨m',hm,i+1,acc8,H8,?_,T.keep _ _ _ st5 λb hb o e=>(I8.pin (b,o) (List.mem_append_right _ (List.mem_append_right _ (zit hb e)))).1,λb hb=>?_,w8⟩
       . refine Inv.weak I8.unpinned (by rw[hl6,hcl]) λk v e=>?_;have e':=e;unfold cap at e;rw[List.getElem?_map] at e;cases q:js[k]? with
         | none=>rw[q] at e; cases e
         | some o =>
           cases o with
           | none=>rw[q] at e; cases e
           | some j=>rw[hk6 k j q]; exact e'
       . obtain⟨o,e,d⟩:=T.obj _ _ st5 b hb;exact(I8.pin (b,o) (List.mem_append_right _ (List.mem_append_right _ (zit hb e)))).2.1
     cases ok with
     | false=>exact again I7 q7
     | true =>
       refine thn (he _ _ _ _ _ s7 σ6 H7 _ I7 q7) λy s8 ⟨yv,H8,I8,r8,hD8,q8⟩=>?_;refine thn (zdb _ s8 σ6 H8 (.ref s2.heap.objs.size) [yv] (.ref s2.heap.objs.size) [y] (λ_ H9=>N (acc++[yv]) H9) I8 rfl (.cons r8 .nil) ⟨_,acc,yv,rfl,rfl,hD8,hlen,q8⟩) λ_ s9 ⟨_,H9,I9,_,q9⟩=>?_;exact again I9 q9
 exact codeAny_compStart_list (loop _) (T.self X.A 0 _ _ _ (T.keep 0 _ _ st2 (λb _ o e=>old b o e)) (loop _))
theorem zf2 {X:Cx} {elt target iter:Expr} {ifs:List Expr} {scope:Scope} {pos:Pos} {wi:TI} {g:TG} {tif:TT} {te:TE} {N':List Str} {js:List (Option Nat)} (hok:zqw scope X.env.scope N' X.N js=true) (hc:X.calm=true)
   (hi:PI X target iter wi) (ho:z5g js g) (hg:∀C s H fp,PG (zen X N' scope C s H fp) target g) (hif:∀C s H fp,PIf (zen X N' scope C s H fp) ifs tif) (he:∀C s H fp,PE (zen X N' scope C s H fp) elt te)
   (hs:∀x,foldedSetIterable iter X.env x=pure x:=by intro _; rfl):PE X (.ListComp elt [⟨target,iter,ifs,0⟩] scope pos) (z1i wi g tif te js):=by
 intro pins s σ H Q I h;rw[eval_ListComp];refine zqb (use:=none) hok hc hi ho hg hif he hs I h λs2 H2 fp C I2 f2 hCle σ' H' s' J q=>?_;obtain⟨m,hn,_⟩:=J.loc;refine⟨m,hn,λh' hs'=>⟨.ref s2.heap.objs.size,H',?_,rfl,q⟩⟩;refine I2.call' (s':={ s' with heap:=h' }) (ch:=fp) J.os (J.base.sameBut hs' hCle) (λb ob e=>?_) J.bare λb hb=>⟨(f2 b hb).2.2.2.1,(f2 b hb).2.1,(f2 b hb).2.2.2.2.1,(f2 b hb).2.2.2.2.2⟩
 refine(J.hok b ob e).stay (λc w' hc q=>(hs'.2 c ?_).trans q) (λ_ q=>q) λ_ _ q=>q;have hfree:H' C=none:=J.free;intro hcC;rw[hcC] at hc;rcases hc with z|z
 . rw[<- z,hfree] at e; cases e
 . rw[hfree] at z; cases z
theorem zvx {X:Cx} {i:Nat} {y:Str} {elt target iter:Expr} {ifs:List Expr} {scope:Scope} {pos py spos:Pos} {wi:TI} {g:TG} {tif:TT} {te:TE} {N':List Str} {js:List (Option Nat)} (hN:X.N.Nodup) (hi':X.N[i]?=some y) (hx:Loc X.env.scope y)
   (hok:zqw scope X.env.scope N' X.N js=true) (hc:X.calm=true)
   (hi:PI X target iter wi) (ho:z5g js g) (hg:∀C s H fp,PG (zen X N' scope C s H fp) target g) (hif:∀C s H fp,PIf (zen X N' scope C s H fp) ifs tif) (he:∀C s H fp,PE (zen X N' scope C s H fp) elt te)
   (hsw:swapsWith (.ListComp elt [⟨target,iter,ifs,0⟩] scope pos) (some (.Name y py)) spos.line X.env=pure true)
   (hs:∀x,foldedSetIterable iter X.env x=pure x:=by intro _; rfl) (hf:X.fn y=true\/X.env.scope.names.lookup y=some .local:=by first|exact .inl rfl|exact .inr rfl|assumption) :
   PS X (.Assign [.Name y py] (.ListComp elt [⟨target,iter,ifs,0⟩] scope pos) spos) (z58 (z1i wi g tif te js) (zxb i)):=by
 intro pins s σ H D I h;rw[exec_Assign_Name_used _ _ _ _ hsw];refine wpAny_bind (wpAny_standAt (wpAny_bind ?_));show wpAny _ X.A (do let _ <- comprehension (.ListComp elt [⟨target,iter,ifs,0⟩] scope pos) scope X.env _ (newList []) false (eval iter X.env) (some (assign (.Name y py) X.env))) _ _ s;refine wpAny_bind (thn (zqb (use:=some (assign (.Name y py) X.env)) (Q':=λ_ s'=>SP X pins D .next s') hok hc hi ho hg hif he hs I h λs2 H2 fp C I2 f2 hCle σ' H' s' J q=>?_) λ_ s' q=>?_)
 . obtain⟨m,hn,_⟩:=J.loc;have I3:Inv X pins σ H' s':=I2.call' (ch:=fp) J.os J.base J.hok J.bare λb hb=>⟨(f2 b hb).2.2.2.1,(f2 b hb).2.1,(f2 b hb).2.2.2.2.1,(f2 b hb).2.2.2.2.2⟩
   have hCL:C≠X.env.locals:=λz=>absurd (Nat.lt_of_lt_of_le I2.lt hCle) (by rw[z]; exact qbd _);have hCc:∀x c,X.env.cells.lookup x=some c->c≠C:=λx c e z=>by obtain⟨v,ob,ho,_⟩:=I2.cell x c e;exact absurd (Nat.lt_of_lt_of_le (Heap.lt_size ho) hCle) (by rw[z]; exact qbd _)
   have hCp:∀p∈X.pn++pins,p.1≠C:=λp hp z=>by have e:=(I2.pin p hp).1;exact absurd (Nat.lt_of_lt_of_le (Heap.lt_size e) hCle) (by rw[z]; exact qbd _)
   show wpAny _ X.A (assign (.Name y py) X.env (.ref s2.heap.objs.size)) _ _ s';refine wpAny_assign_Name (zqf I3 hN hi' hx (v:=.ref s2.heap.objs.size) rfl (λs'' I4 ⟨a,hsb,ha⟩=>?_) hf);have hna:C≠a:=by
     rcases ha with z|z
     . rw[z]; exact hCL
     . exact(hCc _ _ z).symm
   refine⟨m,hn.sameBut hsb hna,λh' hs'=>⟨_,H',?_,q⟩⟩;exact I4.turned (t':=s''.toks) (h':=h') (it:=C) (λb o hb e=>(hs'.2 b hb).trans e) J.free hCL (.inr (Nat.le_trans I2.sz hCle)) hCc hCp
 . exact wpAny_pure (wpAny_pure q)
section
variable {g:TG} {tif:TT} {te:TE} {js:List (Option Nat)} {σ:St} {H:Hp} {Q:VK}
def z2k (g:TG) (tif:TT) (te:TE) (σ:St) (p:Addr) (acc:List V) (N:List V->Hp->Prop) (x:V) (H:Hp):Prop :=
 g x σ H λσ2 H3=>tif σ2 H3 λc H4=>if c=true then te σ2 H4 λy H5=>H5 p=some (.lst acc)/\N (acc++[y]) (upd H5 p (.lst (acc++[y]))) else N acc H4
theorem zuq {lo:Int} {n:Nat} {p:Addr} (hn:n<=1000000) (Pv:Nat->List V->Hp->Prop) (h0:Pv 0 [] (upd H p (.lst [])))
   (hl:∀i acc H2,i<=n->Pv i acc H2->H2 p=some (.lst acc)/\acc.length<=i)
   (hs:∀i acc H2,i<n->Pv i acc H2->z2k g tif te (cap js σ) p acc (Pv (i+1)) (.int (lo+i)) H2) (hd:∀acc H2,Pv n acc H2->Q (.ref p) H2) :
   zru (Itr lo n) g tif te js σ Q p H:=by
 refine⟨λi m acc H=>m=n - i/\i<=n/\Pv i acc H,⟨n,by simp,qa6 _,h0⟩,?_⟩;rintro i m acc H2 ⟨rfl,hi,q⟩;obtain⟨q1,q2⟩:=hl i acc H2 hi q;refine⟨q1,?_⟩;by_cases hlt:i<n
 . refine .inr ⟨hlt,?_,Pv (i+1),λacc' H' p'=>⟨n - (i+1),by omega,rfl,hlt,p'⟩,λx H' y=>?_⟩
   . have:(1000000:Nat)<sizeLine:=by decide
     omega
   . obtain⟨e,y⟩:=y;subst e y;exact hs i acc _ hlt q
 . have e:i=n:=by omega
   subst e;exact .inl ⟨qae _,hd acc H2 q⟩
theorem zmp {K:W.Frag} {a:Addr} {xs:List V} {p:Addr} (hn:xs.length<=1000000) (Pv:Nat->List V->Hp->Prop) (h0:Pv 0 [] (upd H p (.lst [])))
   (hl:∀i acc H2,i<=xs.length->Pv i acc H2->H2 p=some (.lst acc)/\acc.length<=i/\SqL K H2 a xs)
   (hs:∀i x acc H2,xs[i]?=some x->Pv i acc H2->z2k g tif te (cap js σ) p acc (Pv (i+1)) x H2) (hd:∀acc H2,Pv xs.length acc H2->Q (.ref p) H2) :
   zru (Itl K a) g tif te js σ Q p H:=by
 refine⟨λi m acc H=>m=xs.length - i/\i<=xs.length/\Pv i acc H,⟨xs.length,by simp,qa6 _,h0⟩,?_⟩;rintro i m acc H2 ⟨rfl,hi,q⟩;obtain⟨q1,q2,q3⟩:=hl i acc H2 hi q;refine⟨q1,?_⟩;by_cases hlt:i<xs.length
 . refine .inr ⟨⟨xs,xs[i],q3,by simp [hlt]⟩,?_,Pv (i+1),λacc' H' p'=>⟨xs.length - (i+1),by omega,rfl,hlt,p'⟩,λx H' y=>?_⟩
   . have:(1000000:Nat)<sizeLine:=by decide
     omega
   . obtain⟨e,y⟩:=y;subst e;exact hs i x acc _ (y xs q3) q
 . have e:i=xs.length:=by omega
   subst e;exact .inl ⟨⟨xs,q3,qae _⟩,hd acc H2 q⟩
theorem ztr {K:W.Frag} {a:Addr} {xs:List V} {p:Addr} (hn:xs.length<=1000000) (Pv:Nat->List V->Hp->Prop) (h0:Pv 0 [] (upd H p (.lst [])))
   (hl:∀i acc H2,i<=xs.length->Pv i acc H2->H2 p=some (.lst acc)/\acc.length<=i/\SqT K H2 a xs)
   (hs:∀i x acc H2,xs[i]?=some x->Pv i acc H2->z2k g tif te (cap js σ) p acc (Pv (i+1)) x H2) (hd:∀acc H2,Pv xs.length acc H2->Q (.ref p) H2) :
   zru (Itt K a) g tif te js σ Q p H:=by
 refine⟨λi m acc H=>m=xs.length - i/\i<=xs.length/\Pv i acc H,⟨xs.length,by simp,qa6 _,h0⟩,?_⟩;rintro i m acc H2 ⟨rfl,hi,q⟩;obtain⟨q1,q2,q3⟩:=hl i acc H2 hi q;refine⟨q1,?_⟩;by_cases hlt:i<xs.length
 . refine .inr ⟨⟨xs,xs[i],q3,by simp [hlt]⟩,?_,Pv (i+1),λacc' H' p'=>⟨xs.length - (i+1),by omega,rfl,hlt,p'⟩,λx H' y=>?_⟩
   . have:(1000000:Nat)<sizeLine:=by decide
     omega
   . obtain⟨e,y⟩:=y;subst e;exact hs i x acc _ (y xs q3) q
 . have e:i=xs.length:=by omega
   subst e;exact .inl ⟨⟨xs,q3,qae _⟩,hd acc H2 q⟩
end
section
variable {X:Cx}
theorem zu1 {h:Heap} {sl:Addr} {vl vu:Value} {lo hi:Option Int} (hs:h.IsSliceOf sl vl vu .none) (pl:IsPart vl lo) (pu:IsPart vu hi):∃l u:Option (Int×Tok),l.map (·.1)=lo/\u.map (·.1)=hi/\h.IsSlice sl l u none:=by
 obtain⟨o,ho,hc,hd⟩:=hs;cases pl with
 | none =>
   cases pu with
   | none=>exact⟨none,none,rfl,rfl,o,ho,hc,hd⟩
   | int j t=>exact⟨none,some (j,t),rfl,rfl,o,ho,hc,hd⟩
 | int i t =>
   cases pu with
   | none=>exact⟨some (i,t),none,rfl,rfl,o,ho,hc,hd⟩
   | int j t'=>exact⟨some (i,t),some (j,t'),rfl,rfl,o,ho,hc,hd⟩
def rSlS:V->Option Int->Option Int->Hp->VK->Prop:=λx lo hi H Q=>∃z,x=.str z/\z.length<=sizeLine/\Q (.str (Txt.slice z lo hi)) H
theorem z0n:SlR X rSlS:=by
 intro pins s σ H x v vl vu lo hi sl Q I rx hs pl pu h;obtain⟨z,rfl,hz,q⟩:=h;obtain⟨t,rfl⟩:=rx;obtain⟨l,u,rfl,rfl,hsl⟩:=zu1 hs pl pu;refine⟨"str",_,F.slot_str_getitem.lookup,typeIs_str _ _ _,wpAny_getItem_str_slice (l:=l) (u:=u) (st:=none) hsl rfl
   (post_val_or_str ⟨Nat.le_trans (Txt.slice_le z _ _) hz,λt' k=>⟨.str (Txt.slice z (l.map (·.1)) (u.map (·.1))),H,I.tok _,⟨_,rfl⟩,q⟩⟩)⟩
theorem z05 {ys:List Str}:∀{us:List Value},zcq (ys.map V.str) us->StrsAre us ys:=by
 induction ys with
 | nil=>intro us h; cases h; exact .nil
 | cons y r ih =>
   intro us h;cases h with
   | cons r1 h =>
     obtain⟨t,rfl⟩:=r1;exact .cons y t (ih h)
def z6b (K:W.Frag):V->List V->Hp->VK->Prop:=λx xs H Q=>∃sep p ys,x=.str sep/\xs=[.ref p]/\SqL K H p (ys.map V.str)/\(ys.map (·.length)).sum+ys.length * sep.length<=16777216/\Q (.str (Txt.join sep ys)) H
theorem z2l:MtR X "str.join" (z6b X.K):=by intro pins s σ H x xs v us Q I rx r h;obtain⟨sep,p,ys,rfl,rfl,hp,hl,q⟩:=h;obtain⟨t,rfl⟩:=rx;obtain⟨u,rfl,ru⟩:=zpd r;cases (show u=Value.ref p from ru);obtain⟨its,rv,pl,hz⟩:=I.list hp;exact join_list pl.isList (by simpa using z05 rv) hl λt' k=>⟨.str (Txt.join sep ys),H,I.tok _,⟨_,rfl⟩,q⟩
theorem zet:zjr X (.builtin "isinstance") (λxs H Q=>∃x c t b,xs=[x,.ty c]/\TyOf X.K H x t/\PySem.W.kitOne X.K t (.type c)=some b/\Q (.bl b) H):=by intro pins s σ H xs us Q I r h;obtain⟨x,c,t,b,rfl,ty,hk,q⟩:=h;obtain⟨u,w',rfl,rx,rc⟩:=z3b r;cases (show w'=Value.type c from rc);exact zvf I rx ty hk λtk=>⟨.bl b,H,I.tok _,rfl,q⟩
end
def z3h:Expr->Option V
 | .Constant (.str x) _ _=>some (.str x)
 | .Constant (.int i) _ _=>some (.int i)
 | .Constant (.bool b) _ _=>some (.bl b)
 | .Constant .none _ _=>some .non
 | _=>none
def zs4:List Expr->Option (List V)
 | []=>some []
 | e :: r=>match z3h e,zs4 r with
   | some v,some vs=>some (v :: vs)
   | _,_=>none
theorem z44 {X:Cx} {e:Expr} {v:V} (h:z3h e=some v):PE X e (tC v):=by
 unfold z3h at h;split at h
 . cases h; exact za5
 . cases h; exact zad
 . cases h; exact zh9
 . cases h; exact zi7
 . cases h
theorem zzi {X:Cx} {e:Expr} {es:List Expr} {v:V} (h:z3h e=some v):starEach (e :: es) X.env=(false,eval e X.env) :: starEach es X.env:=by unfold z3h at h;split at h <;> first|rfl|cases h
theorem zww {X:Cx}:∀{es:List Expr} {vs:List V},zs4 es=some vs->PA X es (λ_ H Q=>Q vs H)
 | [],vs,h=>by cases h;exact zaf
 | e :: r,vs,h=>by
   unfold zs4 at h;split at h
   . rename_i v vs' h1 h2
     cases h;exact zaa (z44 h1) (zww h2) (zzi h1)
   . cases h
theorem zan.tup {K:W.Frag} {H H':Hp} {a:Addr} {xs:List V} (e:zan H H') (h:SqT K H a xs):SqT K H' a xs:=by
 rcases h with(h|⟨o,h⟩)|h
 . exact .inl (.inl (e _ _ h))
 . exact .inl (.inr ⟨o,e _ _ h⟩)
 . exact .inr h
theorem zan.new {H:Hp} {p:Addr} {o:HO} (h:H p=none):zan H (upd H p o):=λb u e=>by rw[zag (za3 e h)];exact e
theorem zan.upd {H H':Hp} {p:Addr} {o:HO} (e:zan H H') (h:H p=none):zan H (upd H' p o):=λb u q=>by rw[zag (za3 q h)];exact e b u q
structure DefOk (K:W.Frag) (mg:Str->Option Value) (name:Str) (st:Stmt) (ps:List Str) (f:Addr) (fd:FuncData):Prop where
 F:Fun K name name st f fd
 g:mg name=some (.ref f)
 b:zjq K fd ps []
section
variable {X:Cx} {k:Nat} {f:Addr} {fd:FuncData} {ps:List Str} {sp:Sp} {x:Str} {st:Stmt} {p pos:Pos} {e:Expr} {es:List Expr} {t:TA}
theorem zbu (D:DefOk X.K X.mg x st ps f fd) (G:FnOk X.prog X.w X.K X.mg X.base CX0 k f fd ps sp) (hr:Room k X.A) (ha:PA X (e :: es) t) (hg:Gl X x:=by rfl)
   (hdb:(x==("__debug__":Str))=false:=by decide) (he:starEach (e :: es) X.env=(false,eval e X.env) :: starEach es X.env:=by rfl) (hpl:(backTo pos (starEach es X.env)).any (·.1)=false:=by rfl) :
   PE X (.Call (.Name x p) (e :: es) [] pos) (zvw sp [] E0 t):=z2w G hr hg D.g D.F.kp D.b .nil zcu ha hdb he hpl
theorem zse {z:Int} (h:∃t,X.mg x=some (.int z t)) (hg:Gl X x:=by rfl) (hd:(x==("__debug__":Str))=false:=by decide):PE X (.Name x pos) (tC (.int z)):=by obtain⟨t,h⟩:=h;exact zry hg h ⟨t,rfl⟩ hd
theorem zkq {a:Addr} (h:X.mg x=some (.ref a)) (hg:Gl X x:=by rfl) (hd:(x==("__debug__":Str))=false:=by decide):PE X (.Name x pos) (tC (.ref a)):=zry hg h rfl hd
end
theorem zbf {K:W.Frag} {mg:Str->Option Value} {h:Heap} {name:Str} {st:Stmt} {ps:List Str} {f:Addr} {oc:Value} {od an:Option Addr} {osl:Array (Option Value)} {kV doc pm cdv ct:Value} (X:K.In h) (G:h.Ns mainGlobals mg)
   (a:PySem.W.nsIn K mainGlobals name=some (some (.ref f))) (l:K.lookup f=some ⟨oc,od,.func (PySem.W.fnOf name name (zde st) (zav st) (zai st) .none kV doc pm an cdv ct),osl⟩) (c:PySem.W.codeIn K cdv name=true) (k:PySem.W.keepIn K (.ref f)=true)
   (b:∀(kV doc pm:Value) (an:Option Addr) (cdv ct:Value) (us:List Value),us.length=ps.length->bindArgs (PySem.W.fnOf name name (zde st) (zav st) (zai st) .none kV doc pm an cdv ct) ⟨us,[]⟩=pure (ps.zip us)) :
   DefOk K mg name st ps f (PySem.W.fnOf name name (zde st) (zav st) (zai st) .none kV doc pm an cdv ct) :=
 ⟨zlu l c k,PySem.W.mg_of X G a,(zlu l c k).binds b⟩
theorem zmb {α:Type} {xs:List α} {i:Int} (h0:0<=i) (h1:i<xs.length):∃v,atI xs i=some v/\v∈xs:=by
 have hi:i.toNat<xs.length:=by omega
 refine⟨xs[i.toNat],?_,qcn hi⟩;have:=zc2 (xs:=xs) (j:=i.toNat) (v:=xs[i.toNat]) (by simp [hi]);have e:((i.toNat:Nat):Int)=i:=by omega
 rwa [e] at this
theorem z2d {ns:List Int} {i:Int} (h0:0<=i) (h1:i<ns.length):∃z,atI (ns.map V.int) i=some (.int z):=by obtain⟨v,e,hv⟩:=zmb (xs:=ns.map V.int) h0 (by rw[List.length_map]; exact h1);obtain⟨z,_,rfl⟩:=List.mem_map.mp hv;exact⟨z,e⟩
theorem zby {p:Prop} [Decidable p] (h:decide p=true):p:=of_decide_eq_true h
theorem zh8 {c A B:Prop} [Decidable c] (hc:c) (h:A):if c then A else B:=by rw[if_pos hc];exact h
theorem zha {c A B:Prop} [Decidable c] (hc:¬ c) (h:B):if c then A else B:=by rw[if_neg hc];exact h
end L2
namespace L2
open PySem
theorem zhv:bootBuiltins "len"=some (.builtin "len"):=by decide +kernel
theorem zb4:bootBuiltins "isinstance"=some (.builtin "isinstance"):=by decide +kernel
theorem znb:bootBuiltins "str"=some (.type "str"):=by decide +kernel
theorem zql:bootBuiltins "int"=some (.type "int"):=by decide +kernel
theorem z1c:bootBuiltins "bool"=some (.type "bool"):=by decide +kernel
theorem znf:bootBuiltins "list"=some (.type "list"):=by decide +kernel
theorem zs6:bootBuiltins "tuple"=some (.type "tuple"):=by decide +kernel
theorem zwg:bootBuiltins "dict"=some (.type "dict"):=by decide +kernel
theorem zqi:bootBuiltins "enumerate"=some (.type "enumerate"):=by decide +kernel
theorem z4w:bootBuiltins "zip"=some (.type "zip"):=by decide +kernel
theorem z4x {b:Bool} (h:b=false):¬ b=true:=by rw[h]; decide
end L2
namespace L2
open PySem PySem.Spec PyProof.Rows
mutual
def zhy (K:W.Frag) (H:Hp):PyData->V->Prop
 | .none,v=>v=.non
 | .bool b,v=>v=.bl b
 | .int i,v=>v=.int i
 | .str x,v=>v=.str x
 | .list ds,v=>∃a xs,v=.ref a/\SqL K H a xs/\zdk K H ds xs
 | .tuple ds,v=>∃a xs,v=.ref a/\SqT K H a xs/\zdk K H ds xs
 | .dict _,_=>False
def zdk (K:W.Frag) (H:Hp):List PyData->List V->Prop
 | [],xs=>xs=[]
 | d :: ds,xs=>∃x r,xs=x :: r/\zhy K H d x/\zdk K H ds r
end
section
variable {X:Cx} {pins:List (Addr×Obj)} {σ:St} {H:Hp} {s:Shared}
mutual
theorem zke (I:Inv X pins σ H s):∀(d:PyData) (v:V) (u:Value),zhy X.K H d v->zc4 v u->∃as,Reads s.heap u d as
 | .none,v,u,h,r=>by unfold zhy at h;subst h;cases (show u=Value.none from r);exact⟨_,.none⟩
 | .bool b,v,u,h,r=>by unfold zhy at h;subst h;cases (show u=Value.bool b from r);exact⟨_,.bool b⟩
 | .int i,v,u,h,r=>by
   unfold zhy at h;subst h;obtain⟨t,rfl⟩:=(show ∃t,u=Value.int i t from r)
   exact⟨_,.int i t⟩
 | .str x,v,u,h,r=>by
   unfold zhy at h;subst h;obtain⟨t,rfl⟩:=(show ∃t,u=Value.str x t from r)
   exact⟨_,.str x t⟩
 | .list ds,v,u,h,r=>by unfold zhy at h;obtain⟨a,xs,rfl,hq,hd⟩:=h;cases (show u=Value.ref a from r);obtain⟨its,rv,⟨o,n,ho,hc,_,hdt⟩,_⟩:=I.list hq;obtain⟨as,ra⟩:=zjt I ds xs its hd rv;exact⟨_,.list ho hc hdt (by simpa using ra)⟩
 | .tuple ds,v,u,h,r=>by unfold zhy at h;obtain⟨a,xs,rfl,hq,hd⟩:=h;cases (show u=Value.ref a from r);obtain⟨its,rv,⟨o,ho,hc,n,hdt⟩,_⟩:=I.tuple hq;obtain⟨as,ra⟩:=zjt I ds xs its hd rv;exact⟨_,.tuple ho hc hdt (by simpa using ra)⟩
 | .dict _,v,u,h,r=>by unfold zhy at h;exact h.elim
theorem zjt (I:Inv X pins σ H s):∀(ds:List PyData) (xs:List V) (us:List Value),zdk X.K H ds xs->zcq xs us->∃as,ReadsAll s.heap us ds as
 | [],xs,us,h,r=>by unfold zdk at h;subst h;cases r;exact⟨_,.nil⟩
 | d :: ds,xs,us,h,r=>by
   unfold zdk at h;obtain⟨x,rest,rfl,hd,hds⟩:=h;cases r with
   | cons r1 r2 =>
     obtain⟨as,ra⟩:=zke I d _ _ hd r1;obtain⟨bs,rb⟩:=zjt I ds _ _ hds r2;exact⟨_,.cons ra rb⟩
end
end
def rEqD (K:W.Frag):R2:=λx y H Q=>∃d e,zhy K H d x/\zhy K H e y/\SeqAt.shaped d=true/\SeqAt.shaped e=true/\Q (.bl (PyData.eqv d e)) H
def rNeD (K:W.Frag):R2:=λx y H Q=>∃d e,zhy K H d x/\zhy K H e y/\SeqAt.shaped d=true/\SeqAt.shaped e=true/\Q (.bl (!PyData.eqv d e)) H
theorem z4d {X:Cx} (hu:X.A.units+64<cLine):OpR X (compareOp .Eq) (rEqD X.K):=by intro pins s σ H x y v u Q I rx ry h;obtain⟨d,e,hd,he,sd,se,q⟩:=h;obtain⟨as,ra⟩:=zke I d x v hd rx;obtain⟨bs,rb⟩:=zke I e y u he ry;exact SeqAt.compareEq_shaped ra rb sd se hu ⟨.bl _,H,I,rfl,q⟩
theorem z5d {X:Cx} (hu:X.A.units+64<cLine):OpR X (compareOp .NotEq) (rNeD X.K):=by intro pins s σ H x y v u Q I rx ry h;obtain⟨d,e,hd,he,sd,se,q⟩:=h;obtain⟨as,ra⟩:=zke I d x v hd rx;obtain⟨bs,rb⟩:=zke I e y u he ry;exact SeqAt.compareNe_shaped ra rb sd se hu ⟨.bl _,H,I,rfl,q⟩
section
variable {prog:Program} {w:World} {A:Around} {E:Value->Shared->Prop}
theorem zqa {it t:Addr} {items:Array Value} (hne:t≠it):∀(n i:Nat) (s:Shared) (Q:List Value->Shared->Prop),s.heap.IsListIter it t i->s.heap.IsList t items->i+n<=items.size ->
   (∀h',h'.IsListIter it t (i+n)->Heap.SameBut it s.heap h'->Q ((items.toList.drop i).take n) { s with heap:=h' })->wpAny (model prog w) A (draw (.ref it) n) Q E s
 | 0,i,s,Q,hit,_,_,hQ=>by show wpAny _ _ (pure []) Q E s;exact wpAny_pure (by simpa using hQ s.heap hit (Heap.SameBut.refl ..))
 | n+1,i,s,Q,hit,ht,hle,hQ=>by
   have hlt:i<items.size:=by omega
   show wpAny _ _ (pyNext (.ref it) >>= _) Q E s;refine wpAny_bind (wpAny_pyNext_list_item hit ht (x:=items[i]) (by simp [hlt]) λh₁ hit₁ hs₁=>?_);refine wpAny_bind (wpAny_holding (zqa hne n (i+1) _ _ hit₁ (ht.extBut hs₁.extBut hne) (by omega) λh₂ hit₂ hs₂=>wpAny_pure ?_));have hd:items.toList.drop i=items[i] :: items.toList.drop (i+1):=by simp [List.drop_eq_getElem_cons,hlt]
   have:=hQ h₂ (by rw[show i+(n+1)=i+1+n by omega]; exact hit₂) (hs₁.trans hs₂);rw[hd,List.take_succ_cons] at this;exact this
theorem zl3 {s:Shared} {t:Addr} {items:Array Value} {Q:List Value->Shared->Prop} (hh:A.handled=none) (ht:s.heap.IsList t items)
   (hQ:∀h',Heap.ExtBut s.heap.objs.size s.heap h'->Q items.toList { s with heap:=h' }):wpAny (model prog w) A (unpackItems (.ref t) items.size none) Q E s:=by
 have hlt:t≠s.heap.objs.size:=by obtain⟨o,ho,_⟩:=ht; exact qa2 (Heap.lt_size ho)
 unfold unpackItems;refine wpAny_bind ?_;unfold notIterableAtAll;refine wpAny_bind (wpAny_specialOf ht.typeIs slot_list_iter.lookup ?_);refine wpAny_pure ?_;simp only[qce,if_false];refine wpAny_bind (wpAny_holding (wpAny_pyIter_list ht ?_));refine wpAny_bind (wpAny_holding (zqa hlt items.size 0 _ _ ⟨_,qap _ rfl,rfl,rfl⟩ (ht.push _) (by omega) λh₁ hit₁ hs₁=>?_));have hall:List.take items.size (List.drop 0 items.toList)=items.toList:=by rw[qdh]; exact qbb (by simp)
 rw[hall];rw[if_neg (by simp)];have ht₁:h₁.IsList t items:=(ht.push _).extBut hs₁.extBut hlt;refine wpAny_bind (wpAny_holding (wpAny_pyNext_list_end hh hit₁ ht₁ (by simp) λh₂ he₂=>?_));simp only[Option.isSome_none,qce,if_false];refine wpAny_pure (hQ h₂ λb o hb e=>he₂ b o hb (hs₁.extBut b o hb (Heap.get?_push_of_some _ e)))
end
def gLst (K:W.Frag) (n:Nat) (t:TGs):TG:=λv σ H Q=>∃a xs,v=.ref a/\SqL K H a xs/\xs.length=n/\t xs σ H Q
theorem z5b {X:Cx} {pos:Pos} {es:List Expr} {k:Nat} {t:TGs} {n:Nat} (hc:X.calm=true) (h:PGs X es t)
   (hn:(assignEach es X.env).length=n:=by rfl) (hst:(assignEach es X.env).findIdx? (·.1)=none:=by rfl):PG X (.Tuple es k pos) (gLst X.K n t):=by
 intro pins s σ H v u Q I r hw;obtain⟨a,xs,e1,hq,hl,hw⟩:=hw;subst e1;cases r;obtain⟨its,rv,ht,hz⟩:=I.list hq;have hlen:=rv.length;rw[assign_Tuple];refine wpAny_bind (wpAny_standAt ?_);unfold unpack;rw[hst,hn,<- hl,hlen,show its.length=its.toArray.size by simp];refine wpAny_bind (wpAny_holding (zl3 (I.ok.hd hc) ht.isList λh' hx=>?_));have I1:Inv X pins σ H { s with heap:=h' }:=I.kept (t':=s.toks) λb o e=>hx b o (qa2 (Heap.lt_size e)) e;exact h pins _ σ H xs _ Q I1 (by simpa using rv) hw
theorem zzb {X:Cx}:OpR X (binaryOp .FloorDiv) (rI (λ_ j=>0<j/\j<2 ^ 64) λi j=>.int (i / j)):=opI λi j _ _ _ _ _ hc q=>by
 have h1:(0:Int)<j:=hc.1;have h2:j<2 ^ 64:=hc.2;refine floordiv_int (by omega) (by rw[qdo i (by omega)]; exact q) (.inl (PyProof.noPylong_of_log2 ?_));have h0:j.natAbs≠0:=by omega
 refine Nat.lt_trans (m:=64) ((Nat.log2_lt h0).mpr ?_) (by decide);have:(2:Int) ^ 64=((2 ^ 64:Nat):Int):=by decide
 omega
section
variable {κ:Type} [DecidableEq κ]
def zcx (kvs:List (κ×V)) (k:κ):Option V:=(kvs.find? λkv=>decide (kv.1=k)).map (·.2)
def zbd (kvs:List (κ×V)) (k:κ) (v:V):List (κ×V) :=
 if(kvs.any λkv=>decide (kv.1=k))=true then kvs.map (λkv=>if kv.1=k then(kv.1,v) else kv) else kvs++[(k,v)]
theorem zed {p:κ×V} {r:List (κ×V)} {k:κ} (e:p.1=k):zcx (p :: r) k=some p.2:=by simp [zcx,qcp,e]
theorem zd4 {p:κ×V} {r:List (κ×V)} {k:κ} (e:¬ p.1=k):zcx (p :: r) k=zcx r k:=by simp [zcx,qcp,e]
theorem zgl (k:κ):∀kvs:List (κ×V),(kvs.any λkv=>decide (kv.1=k))=(zcx kvs k).isSome
 | []=>rfl
 | p :: r=>by
   rw[qc3];by_cases e:p.1=k
   . simp only[zed e,decide_eq_true e,Bool.true_or,Option.isSome_some]
   . rw[zd4 e,decide_eq_false e,Bool.false_or]; exact zgl k r
theorem zsz (k j:κ) (y:V):∀kvs:List (κ×V),zcx (kvs.map λkv=>if kv.1=k then(kv.1,y) else kv) j=(zcx kvs j).map λx=>if j=k then y else x
 | []=>rfl
 | p :: r=>by
   have ih:=zsz k j y r;rw[qaz];by_cases h:p.1=k
   . rw[if_pos h];by_cases e:p.1=j
     . rw[zed (p:=(p.1,y)) e,zed e,qc9,if_pos (e.symm.trans h)]
     . rw[zd4 (p:=(p.1,y)) e,zd4 e,ih]
   . rw[if_neg h];by_cases e:p.1=j
     . rw[zed (p:=p) e,zed e,qc9,if_neg (λz=>h (e.trans z))]
     . rw[zd4 (p:=p) e,zd4 e,ih]
theorem zp7 (k j:κ) (y:V):∀kvs:List (κ×V),zcx kvs k=none->zcx (kvs++[(k,y)]) j=if j=k then some y else zcx kvs j
 | [],_=>by
   by_cases e:k=j
   . rw[if_pos e.symm]; exact zed (p:=(k,y)) e
   . rw[if_neg (λz=>e z.symm)]; exact zd4 (p:=(k,y)) e
 | p :: r,hn=>by
   rw[List.cons_append];have hk:¬ p.1=k:=λz=>by rw[zed z] at hn; cases hn
   rw[zd4 hk] at hn;have ih:=zp7 k j y r hn;by_cases e:p.1=j
   . rw[zed e,zed e,if_neg (λz=>hk (e.trans z))]
   . rw[zd4 e,zd4 e,ih]
theorem zda (kvs:List (κ×V)) (k j:κ) (y:V):zcx (zbd kvs k y) j=if j=k then some y else zcx kvs j:=by
 unfold zbd;by_cases a:(kvs.any λkv=>decide (kv.1=k))=true
 . rw[if_pos a,zsz];rw[zgl] at a;by_cases e:j=k
   . obtain⟨x,hx⟩:=qcx.mp a;rw[if_pos e,e,hx,qc9,if_pos rfl]
   . rw[if_neg e];cases zcx kvs j with
     | none=>rfl
     | some x=>rw[qc9,if_neg e]
 . rw[if_neg a];refine zp7 k j y kvs ?_;rw[zgl] at a;cases q:zcx kvs k with
   | none=>rfl
   | some x=>rw[q] at a; exact(a rfl).elim
theorem zbi (kvs:List (κ×V)) (k:κ) (v:V):(zbd kvs k v).length<=kvs.length+1:=by
 unfold zbd;split
 . rw[List.length_map]; omega
 . rw[List.length_append,qa0,qbi]; omega
theorem zs5 {kvs:List (κ×V)} {k:κ} (v:V) (h:zcx kvs k=none):zbd kvs k v=kvs++[(k,v)]:=by unfold zbd;rw[zgl,h];exact if_neg (by decide)
theorem zpq.isSome_eq {o:Option V} {u:Option Value} (r:zpq o u):o.isSome=u.isSome:=by
 cases o with
 | none=>cases u with
   | none=>rfl
   | some _=>exact(show False from r).elim
 | some _=>cases u with
   | none=>exact(show False from r).elim
   | some _=>rfl
theorem zpq.getD {o:Option V} {u:Option Value} {d:V} {d':Value} (r:zpq o u) (rd:zc4 d d'):zc4 (o.getD d) (u.getD d'):=by
 cases o with
 | none=>cases u with
   | none=>exact rd
   | some _=>exact(show False from r).elim
 | some _=>cases u with
   | none=>exact(show False from r).elim
   | some _=>exact r
theorem KV.val {kvs:List (κ×V)} {vs:List (κ×Value)} (r:KV kvs vs) (k:κ):zpq (zcx kvs k) (valueAt vs k):=by
 unfold KV at r
 induction r with
 | nil=>exact True.intro
 | @cons p q ps qs h t ih =>
   obtain⟨h1,h2⟩:=h;by_cases e:p.1=k
   . have e':q.1=k:=h1.symm.trans e;have b:valueAt (q :: qs) k=some q.2:=by simp [valueAt,qcp,e']
     rw[zed e,b]; exact h2
   . have e':¬ q.1=k:=λz=>e (h1.trans z);have b:valueAt (q :: qs) k=valueAt qs k:=by simp [valueAt,qcp,e']
     rw[zd4 e,b]; exact ih
theorem KV.any {kvs:List (κ×V)} {vs:List (κ×Value)} (r:KV kvs vs) (k:κ):(kvs.any λkv=>decide (kv.1=k))=vs.any λkv=>decide (kv.1=k):=by
 unfold KV at r
 induction r with
 | nil=>rfl
 | cons h t ih=>rw[qc3,qc3,ih,h.1]
theorem KV.repl {kvs:List (κ×V)} {vs:List (κ×Value)} (r:KV kvs vs) (k:κ) {y:V} {u:Value} (ry:zc4 y u) :
   KV (kvs.map λkv=>if kv.1=k then(kv.1,y) else kv) (vs.map λkv=>if kv.1=k then(kv.1,u) else kv):=by
 unfold KV at r ⊢
 induction r with
 | nil=>exact .nil
 | @cons p q ps qs h t ih =>
   rw[qaz,qaz];refine .cons ?_ ih;obtain⟨h1,h2⟩:=h;by_cases e:p.1=k
   . rw[if_pos e,if_pos (h1.symm.trans e)]; exact⟨h1,ry⟩
   . rw[if_neg e,if_neg (λz=>e (h1.trans z))]; exact⟨h1,h2⟩
theorem KV.put {kvs:List (κ×V)} {vs:List (κ×Value)} (r:KV kvs vs) (k:κ) {y:V} {u:Value} (ry:zc4 y u):KV (zbd kvs k y) (stored vs k u):=by
 unfold zbd stored;rw[r.any k];by_cases e:(vs.any λkv=>decide (kv.1=k))=true
 . rw[if_pos e,if_pos e]; exact r.repl k ry
 . rw[if_neg e,if_neg e]; exact Paired.snoc r ⟨rfl,ry⟩
theorem KV.length {kvs:List (κ×V)} {vs:List (κ×Value)} (r:KV kvs vs):kvs.length=vs.length:=Paired.length r
end
theorem zpj {P:Program} {w:World} {k:Key} {u:Value} (r:zc4 (kV k) u):(zbe P w).is k u=true:=by
 cases k with
 | inl i=>obtain⟨t,e⟩:=(show ∃t,u=Value.int i t from r); subst e; exact zr9 P w i t
 | inr x=>obtain⟨t,e⟩:=(show ∃t,u=Value.str x t from r); subst e; exact zrv P w x t
theorem zq1 {P:Program} {w:World}:∀{ks:List Key} {us:List Value},zcq (ks.map kV) us->ItemsAre (zbe P w) ks us
 | [],_,r=>by rw[qcd] at r; cases r; exact .nil
 | k :: ks,_,r=>by
   rw[qaz] at r;cases r with
   | cons h t=>exact .cons (zpj h) (zq1 t)
abbrev KT (H:Hp):List (List Key×V)->List (List Key×Addr×Value)->Prop:=Paired λp q=>p.1=q.1/\H q.2.1=some (.tup (p.1.map kV))/\zc4 p.2 q.2.2
theorem KT.val {H:Hp} {kvs:List (List Key×V)} {xs:List (List Key×Addr×Value)} (r:KT H kvs xs) (k:List Key):zpq (zcx kvs k) ((atKey xs k).map (·.2)):=by
 induction r with
 | nil=>exact True.intro
 | @cons p q ps qs h t ih =>
   obtain⟨h1,_,h2⟩:=h;by_cases e:p.1=k
   . have e':q.1=k:=h1.symm.trans e;have b:atKey (q :: qs) k=some q.2:=by simp [atKey,qcp,e']
     rw[zed e,b]; exact h2
   . have e':¬ q.1=k:=λz=>e (h1.trans z);have b:atKey (q :: qs) k=atKey qs k:=by simp [atKey,qcp,e']
     rw[zd4 e,b]; exact ih
theorem KT.repl {H:Hp} {kvs:List (List Key×V)} {xs:List (List Key×Addr×Value)} (r:KT H kvs xs) (k:List Key) {y:V} {u:Value} (ry:zc4 y u) :
   KT H (kvs.map λkv=>if kv.1=k then(kv.1,y) else kv) (xs.map (putAt k u)):=by
 induction r with
 | nil=>exact .nil
 | @cons p q ps qs h t ih =>
   rw[qaz,qaz];refine .cons ?_ ih;obtain⟨h1,h2,h3⟩:=h;unfold putAt;by_cases e:p.1=k
   . rw[if_pos e,if_pos (h1.symm.trans e)]; exact⟨h1,h2,ry⟩
   . rw[if_neg e,if_neg (λz=>e (h1.trans z))]; exact⟨h1,h2,h3⟩
theorem KT.put {H:Hp} {kvs:List (List Key×V)} {xs:List (List Key×Addr×Value)} (r:KT H kvs xs) (k:List Key) {b:Addr} {y:V} {u:Value} (hb:H b=some (.tup (k.map kV))) (ry:zc4 y u) :
   KT H (zbd kvs k y) (storedH xs k b u):=by
 have e:(kvs.any λkv=>decide (kv.1=k))=(atKey xs k).isSome:=by rw[zgl,(r.val k).isSome_eq,qdq]
 unfold zbd storedH;rw[e];by_cases q:(atKey xs k).isSome=true
 . rw[if_pos q,if_pos q]; exact r.repl k ry
 . rw[if_neg q,if_neg q]; exact Paired.snoc r ⟨rfl,hb,ry⟩
theorem KT.keeps {H H':Hp} {kvs:List (List Key×V)} {xs:List (List Key×Addr×Value)} (r:KT H kvs xs) (ht:∀b ys,H b=some (.tup ys)->H' b=some (.tup ys)):KT H' kvs xs :=
 Paired.mapP r λ_ _ z=>⟨z.1,ht _ _ z.2.1,z.2.2⟩
section
variable {P:Program} {w:World} {H:Hp} {h:Heap} {a:Addr}
theorem z4l {u:HO} (ok:HOk P w H h) (e:Rd H a u):zdm P w H h a u:=e.ok ok
theorem zrp {kvs:List (Key×V)} (ok:HOk P w H h) (e:Rd H a (.dK kvs)):kvs.length<=sizeLine/\(a==sysModules)=false/\∃vs,KV kvs vs/\h.DictOf (zbe P w) a vs :=
 show zdm P w H h a (.dK kvs) from z4l ok e
theorem zvh {kvs:List (Key×V)} (ok:HOk P w H h) (e:H a=some (.dK kvs)):kvs.length<=sizeLine/\(a==sysModules)=false/\∃vs,KV kvs vs/\h.DictOf (zbe P w) a vs:=zrp ok (.inl e)
theorem zn7 {ks:List Key} (ok:HOk P w H h) (e:H a=some (.tup (ks.map kV))):(tupleKind (zbe P w)).is h ks a:=by
 obtain⟨_,its,r,o,h1,h2,n,h3⟩:=(show zdm P w H h a (.tup (ks.map kV)) from ok a _ e)
 exact⟨o,its.toArray,n,h1,h2,h3,by simpa using zq1 r⟩
theorem zrr {kvs:List (List Key×V)} (ok:HOk P w H h) (e:Rd H a (.dT kvs)):kvs.length<=sizeLine/\(a==sysModules)=false /\
   ∃xs,KT H kvs xs/\h.DictOfH (tupleKind (zbe P w)) a xs:=by
 obtain⟨z,y,xs,r,o,es,ep,h1,h2,h3,h4,h5⟩:=(show zdm P w H h a (.dT kvs) from z4l ok e)
 refine⟨z,y,xs,r,o,es,ep,h1,h2,h3,h4,λx hx=>?_,h5⟩;have all:∀{l:List (List Key×V)} {m:List (List Key×Addr×Value)},KT H l m->∀x∈m,(tupleKind (zbe P w)).is h x.1 x.2.1:=by
   intro l m q
   induction q with
   | nil=>intro x hx; exact nomatch hx
   | @cons p q ps qs hq t ih =>
     intro x hx;rcases List.mem_cons.mp hx with e|hx
     . subst e;exact zn7 ok (by rw[<- hq.1]; exact hq.2.1)
     . exact ih x hx
 exact all r x hx
theorem z54 {kvs:List (List Key×V)} (ok:HOk P w H h) (e:H a=some (.dT kvs)):kvs.length<=sizeLine/\(a==sysModules)=false /\
   ∃xs,KT H kvs xs/\h.DictOfH (tupleKind (zbe P w)) a xs:=zrr ok (.inl e)
end
def zm8 (H:Hp) (a:Addr) (y:V) (r:Option V):Prop :=
 (∃kvs k,Rd H a (.dK kvs)/\y=kV k/\r=zcx kvs k)\/∃kvs k b,Rd H a (.dT kvs)/\y=.ref b/\H b=some (.tup (k.map kV))/\r=zcx kvs k
def zmc (H:Hp) (a:Addr) (y v:V) (H':Hp):Prop :=
 (∃kvs k,H a=some (.dK kvs)/\y=kV k/\kvs.length<sizeLine/\H'=upd H a (.dK (zbd kvs k v))) \/
 ∃kvs k b,H a=some (.dT kvs)/\y=.ref b/\H b=some (.tup (k.map kV))/\kvs.length<sizeLine/\H'=upd H a (.dT (zbd kvs k v))
theorem zm8.k {H:Hp} {a:Addr} {kvs:List (Key×V)} {k:Key} (e:H a=some (.dK kvs)):zm8 H a (kV k) (zcx kvs k):=.inl ⟨kvs,k,.inl e,rfl,rfl⟩
theorem zmc.k {H:Hp} {a:Addr} {kvs:List (Key×V)} {k:Key} {v:V} (e:H a=some (.dK kvs)) (hl:kvs.length<sizeLine):zmc H a (kV k) v (upd H a (.dK (zbd kvs k v))):=.inl ⟨kvs,k,e,rfl,hl,rfl⟩
section
variable {X:Cx} {pins:List (Addr×Obj)} {σ:St} {H:Hp} {s:Shared} {a:Addr} {y v:V} {u r:Value} {o:Option V} {A:Around} {E:Value->Shared->Prop}
theorem Inv.big (I:Inv X pins σ H s):sysModules<s.heap.objs.size:=by have h:mainGlobals<s.heap.objs.size:=(I.mod.glob.keeps I.bk).lt;exact Nat.lt_trans (by decide) h
theorem zvr {Q:Value->Shared->Prop} (hu:A.units+1<cLine) (I:Inv X pins σ H s) (g:zm8 H a y (some v)) (ry:zc4 y u) (h:∀w' s',Inv X pins σ H s'->zc4 v w'->Q w' s') :
   wpAny (model X.prog X.w) A (getItem (.ref a) u) Q E s:=by
 rcases g with⟨kvs,k,e,ey,l⟩|⟨kvs,k,b,e,ey,eb,l⟩
 . subst ey;obtain⟨z,hd,vs,rel,dd⟩:=zrp I.hok e;obtain⟨w',hw,rw'⟩:=zpq.some_of (v:=v) (o:=valueAt vs k) (by rw[l]; exact rel.val k);exact wpAny_getItem_of (zpj ry) dd.mapOf hw (h w' _ (I.tok _) rw')
 . subst ey;cases (show u=Value.ref b from ry);obtain⟨z,hd,xs,rel,dd⟩:=zrr I.hok e;obtain⟨w',hw,rw'⟩:=zpq.some_of (v:=v) (o:=(atKey xs k).map (·.2)) (by rw[l]; exact rel.val k);obtain⟨p,hp,hp2⟩:=qc1.mp hw;refine wpAny_getItem_heap (tupleKind_room_in1 hu) (zn7 I.hok eb) dd hp ?_;rw[hp2];exact h w' _ (I.tok _) rw'
theorem d_in {Q:Value->Shared->Prop} (hu:A.units+1<cLine) (I:Inv X pins σ H s) (g:zm8 H a y o) (ry:zc4 y u) (h:∀s',Inv X pins σ H s'->Q (.bool o.isSome) s') :
   wpAny (model X.prog X.w) A (compareOp .In u (.ref a)) Q E s:=by
 rcases g with⟨kvs,k,e,ey,l⟩|⟨kvs,k,b,e,ey,eb,l⟩
 . subst ey;obtain⟨z,hd,vs,rel,dd⟩:=zrp I.hok e;refine wpAny_in_of (zpj ry) hd dd.mapOf ?_;rw[<- (rel.val k).isSome_eq,<- l];exact h _ (I.tok _)
 . subst ey;cases (show u=Value.ref b from ry);obtain⟨z,hd,xs,rel,dd⟩:=zrr I.hok e;refine wpAny_in_heap (tupleKind_room_in1 hu) (zn7 I.hok eb) hd dd ?_;have q:=(rel.val k).isSome_eq;rw[qdq] at q;rw[<- q,<- l];exact h _ (I.tok _)
theorem z06 {Q:Value->Shared->Prop} (hu:A.units+1<cLine) (I:Inv X pins σ H s) (g:zm8 H a y o) (ry:zc4 y u) (h:∀s',Inv X pins σ H s'->Q (.bool (!o.isSome)) s') :
   wpAny (model X.prog X.w) A (compareOp .NotIn u (.ref a)) Q E s:=by
 rcases g with⟨kvs,k,e,ey,l⟩|⟨kvs,k,b,e,ey,eb,l⟩
 . subst ey;obtain⟨z,hd,vs,rel,dd⟩:=zrp I.hok e;refine wpAny_notIn_of (zpj ry) hd dd.mapOf ?_;rw[<- (rel.val k).isSome_eq,<- l];exact h _ (I.tok _)
 . subst ey;cases (show u=Value.ref b from ry);obtain⟨z,hd,xs,rel,dd⟩:=zrr I.hok e;refine wpAny_notIn_heap (tupleKind_room_in1 hu) (zn7 I.hok eb) hd dd ?_;have q:=(rel.val k).isSome_eq;rw[qdq] at q;rw[<- q,<- l];exact h _ (I.tok _)
theorem zmv {h':Heap} {t':Nat} {ob:HO} (I:Inv X pins σ H s) (mu:Mut (H a)) (hs:Heap.SameBut a s.heap h') (he:∃q,h'.get? a=some q) (new:zdm X.prog X.w (upd H a ob) h' a ob) :
   Inv X pins σ (upd H a ob) { s with heap:=h',toks:=t' } :=
 I.write (x:=a) (e:=a) mu (.inl rfl) (λb q hb z=>(hs.2 b hb).trans z) he new
theorem ztp {P:Program} {w:World} {H':Hp} {h':Heap} {kvs:List (Key×V)} {vs:List (Key×Value)} (z:kvs.length<=sizeLine) (hd:(a==sysModules)=false) (rel:KV kvs vs) (dd:h'.DictOf (zbe P w) a vs) :
   zdm P w H' h' a (.dK kvs):=⟨z,hd,vs,rel,dd⟩
theorem zwc {H':Hp} {Q:Unit->Shared->Prop} (hu:A.units+1<cLine) (I:Inv X pins σ H s) (g:zmc H a y v H') (ry:zc4 y u) (rv:zc4 v r) (h:∀s',Inv X pins σ H' s'->Q () s') :
   wpAny (model X.prog X.w) A (setItem (.ref a) u r) Q E s:=by
 rcases g with⟨kvs,k,e,ey,l,eH⟩|⟨kvs,k,b,e,ey,eb,l,eH⟩
 . subst ey eH;obtain⟨z,hd,vs,rel,dd⟩:=zvh I.hok e;have hz:vs.length<=sizeLine:=by rw[<- rel.length]; exact z
   have hl:(zbd kvs k v).length<=sizeLine:=by have:=zbi kvs k v; omega
   refine wpAny_setItem_pairs (hsz:=hz) (zpj ry) dd λh' dd' hs=>h _ ?_;have he:∃q,h'.get? a=some q:=let ⟨q,_,_,hq,_⟩:=dd'; ⟨q,hq⟩
   exact zmv I (by rw[e]; exact True.intro) hs he (ztp hl hd (rel.put k rv) dd')
 . subst ey eH;cases (show u=Value.ref b from ry);obtain⟨z,hd,xs,rel,dd⟩:=z54 I.hok e;have hz:xs.length<=sizeLine:=by rw[<- Paired.length rel]; exact z
   have hl:(zbd kvs k v).length<=sizeLine:=by have:=zbi kvs k v; omega
   refine wpAny_setItem_heap (hsz:=hz) (tupleKind_room_in1 hu) (zn7 I.hok eb) dd λh' dd' hs=>h _ ?_;obtain⟨q,es,ep,hq,h2,h3,h4,_,h5⟩:=dd';refine zmv I (by rw[e]; exact True.intro) hs ⟨q,hq⟩ ⟨hl,hd,_,(rel.put k eb rv).keeps λc ys ec=>?_,q,es,ep,hq,h2,h3,h4,h5⟩;rw[zag (zrm ec e (λz=>nomatch z))];exact ec
end
def NoSl (i:Expr):Prop:=∀ov iv,subscripted i false ov iv=operate [ov,iv] (getItem ov iv)
theorem z14 {prog:Program} {w:World} {A:Around} {E:Value->Shared->Prop} {s:Shared} {env:Env} {value slice:Expr} {pos:Pos} {T id:String} {Q:Value->Shared->Prop}
   (hl:typeLookup (.type T) "__getitem__"=pure (some (.builtin id))) (hs:NoSl slice)
   (h:wpAny (model prog w) A (eval value env) (λo s₁=>wpAny (model prog w) A (eval slice env) (λi s₂=>s₂.TypeIs o T/\wpAny (model prog w) A (getItem o i) Q E s₂) E s₁) E s) :
   wpAny (model prog w) A (eval (.Subscript value slice pos) env) Q E s:=by
 refine Subscript_ (wpAny_mono h (λo s₁ h₁=>wpAny_mono h₁ (λi s₂ h₂=>?_) λ_ _ x=>x) λ_ _ x=>x);obtain⟨hT,h₂⟩:=h₂;unfold subscriptTail;refine wpAny_bind ?_;rw[getitemInPython_of_ne hT.not_modules];refine wpAny_bind (wpAny_specialOf hT hl ?_);have fin:wpAny (model prog w) A (subscripted slice false o i) (λr s₃=>wpAny (model prog w) A (letTemporaryGo value o r >>= λ_=>pure r) Q E s₃) E s₂:=by rw[hs o i];exact wpAny_operating (wpAny_mono h₂ (λr s₃ h₃=>wpAny_bind (wpAny_letTemporaryGo (wpAny_pure h₃))) λ_ _ x=>x)
 first
   | exact wpAny_pure (wpAny_bind fin)
   | exact wpAny_bind (wpAny_pure (wpAny_bind fin))
   | exact wpAny_bind fin
theorem zr1 {X:Cx} {pins:List (Addr×Obj)} {σ:St} {H:Hp} {s:Shared} {a:Addr} {y:V} {o:Option V} (I:Inv X pins σ H s) (g:zm8 H a y o):s.TypeIs (.ref a) "dict":=by
 rcases g with⟨kvs,k,e,_,_⟩|⟨kvs,k,b,e,_,_,_⟩
 . obtain⟨_,_,vs,_,dd⟩:=zrp I.hok e;exact dd.typeIs
 . obtain⟨_,_,xs,_,dd⟩:=zrr I.hok e;exact dd.typeIs
def z6c (td ty:TE):TE:=λσ H Q=>td σ H λx H1=>ty σ H1 λy H2=>∃a v,x=.ref a/\zm8 H2 a y (some v)/\Q v H2
def tDIn (ty td:TE):TE:=λσ H Q=>ty σ H λy H1=>td σ H1 λx H2=>∃a o,x=.ref a/\zm8 H2 a y o/\Q (.bl o.isSome) H2
def z1z (ty td:TE):TE:=λσ H Q=>ty σ H λy H1=>td σ H1 λx H2=>∃a o,x=.ref a/\zm8 H2 a y o/\Q (.bl (!o.isSome)) H2
def z59 (td ty tv:TE):TS:=λD σ H=>tv σ H λv H1=>td σ H1 λx H2=>ty σ H2 λy H3=>∃a H4,x=.ref a/\zmc H3 a y v H4/\D.nx σ H4
section
variable {X:Cx} {o i e value:Expr} {pos pos' tpos:Pos} {td ty tv:TE}
theorem zd9 (hu:X.A.units+1<cLine) (ho:PE X o td) (hi:PE X i ty) (hs:NoSl i):PE X (.Subscript o i pos) (z6c td ty):=by intro pins s σ H Q I h;refine z14 PySem.F.slot_dict_getitem.lookup hs (thn (ho pins s σ H _ I h) λu s1 ⟨x,H1,I1,rx,q1⟩=>thn (hi pins s1 σ H1 _ I1 q1) λiv s2 ⟨y,H2,I2,ry,a,v,ex,g,q2⟩=>?_);subst ex;obtain rfl:u=Value.ref a:=rx;exact⟨zr1 I2 g,zvr hu I2 g ry λw' s3 I3 rw'=>⟨v,H2,I3,rw',q2⟩⟩
theorem z39 (hu:X.A.units+1<cLine) (hi:PE X i ty) (ho:PE X o td):PC X .In i o (tDIn ty td):=by intro pins s σ H Q I h;refine thn (hi pins s σ H _ I h) λiv s1 ⟨y,H1,I1,ry,q1⟩=>thn (ho pins s1 σ H1 _ I1 q1) λu s2 ⟨x,H2,I2,rx,a,ov,ex,g,q2⟩=>?_;subst ex;obtain rfl:u=Value.ref a:=rx;exact d_in hu I2 g ry λs3 I3=>⟨.bl ov.isSome,H2,I3,rfl,q2⟩
theorem zwo (hu:X.A.units+1<cLine) (hi:PE X i ty) (ho:PE X o td):PC X .NotIn i o (z1z ty td):=by intro pins s σ H Q I h;refine thn (hi pins s σ H _ I h) λiv s1 ⟨y,H1,I1,ry,q1⟩=>thn (ho pins s1 σ H1 _ I1 q1) λu s2 ⟨x,H2,I2,rx,a,ov,ex,g,q2⟩=>?_;subst ex;obtain rfl:u=Value.ref a:=rx;exact z06 hu I2 g ry λs3 I3=>⟨.bl (!ov.isSome),H2,I3,rfl,q2⟩
theorem zc1 (hu:X.A.units+1<cLine) (ho:PE X o td) (hi:PE X i ty) (hv:PE X value tv) (hs:swapsWith value (some (.Subscript o i pos')) pos.line X.env=pure false) :
   PS X (.Assign [.Subscript o i pos'] value pos) (z59 td ty tv):=by
 intro pins s σ H D I h;refine wpAny_Assign_Subscript (thn (hv pins s σ H _ I h) λr s1 ⟨v,H1,I1,rv,q1⟩=>thn (ho pins s1 σ H1 _ I1 q1) λu s2 ⟨x,H2,I2,rx,q2⟩=>thn (hi pins s2 σ H2 _ I2 q2) λiv s3 ⟨y,H3,I3,ry,a,H4,ex,g,q3⟩=>?_) hs;subst ex;obtain rfl:u=Value.ref a:=rx;exact zwc hu I3 g ry rv λs4 I4=>⟨σ,H4,I4,q3⟩
end
theorem zos {P:Program} {w:World} {H:Hp} (h:Heap) (hb:sysModules<h.objs.size):zdm P w H (h.push { cls:=.type "dict",data:=.dict #[] }) h.objs.size (.dK []) :=
 ⟨qa6 _,beq_eq_false_iff_ne.mpr (Ne.symm (qa2 hb)),[],.nil,Heap.DictOf.new h⟩
theorem zy5 {P:Program} {w:World} {H:Hp} (h:Heap) (hb:sysModules<h.objs.size):zdm P w H (h.push { cls:=.type "dict",data:=.dict #[] }) h.objs.size (.dT []) :=
 ⟨qa6 _,beq_eq_false_iff_ne.mpr (Ne.symm (qa2 hb)),[],.nil,_,#[],0,qap _ rfl,⟨rfl,rfl,rfl⟩,rfl,rfl,qd0⟩
def z31:TE:=λ_ H Q=>∀p,H p=none->Q (.ref p) (upd H p (.dK []))
def z3f:TE:=λ_ H Q=>∀p,H p=none->Q (.ref p) (upd H p (.dT []))
section
variable {X:Cx} {pos:Pos}
theorem zew:PE X (.Dict [] [] pos) z31:=λpins s σ H Q I h =>
 wpAny_Dict_empty ⟨.ref s.heap.objs.size,_,I.laid (a:=s.heap.objs.size) (o:=.dK []) (t':=s.toks) (λ_ _ q=>Heap.get?_push_of_some _ q) (qae _) (zos s.heap I.big),rfl,h _ (I.hok.fresh (qae _))⟩
theorem zya:PE X (.Dict [] [] pos) z3f:=λpins s σ H Q I h =>
 wpAny_Dict_empty ⟨.ref s.heap.objs.size,_,I.laid (a:=s.heap.objs.size) (o:=.dT []) (t':=s.toks) (λ_ _ q=>Heap.get?_push_of_some _ q) (qae _) (zy5 s.heap I.big),rfl,h _ (I.hok.fresh (qae _))⟩
end
def zwz:List (TE×TE)->St->Hp->(List (V×V)->Hp->Prop)->Prop
 | [],_,H,Q=>Q [] H
 | (tk,tv) :: r,σ,H,Q=>tk σ H λx H1=>tv σ H1 λy H2=>zwz r σ H2 λps H3=>Q ((x,y) :: ps) H3
abbrev VV:List (V×V)->List (Value×Value)->Prop:=Paired λp q=>zc4 p.1 q.1/\zc4 p.2 q.2
def PPs (X:Cx) (pos:Pos) (keys:List (Option Expr)) (values:List Expr) (trs:List (TE×TE)):Prop :=
 ∀(pins:List (Addr×Obj)) (s:Shared) (σ:St) (H:Hp) (Q:List (V×V)->Hp->Prop),Inv X pins σ H s->zwz trs σ H Q ->
   wpAny (model X.prog X.w) X.A (evalPairs (pairTrees keys values X.env pos)) (λvs s'=>∃ps H',Inv X pins σ H' s'/\VV ps vs/\Q ps H') X.xe s
theorem z1a {X:Cx} {pos:Pos}:PPs X pos [] [] []:=λpins s σ H Q I h=>pairTrees_nil_walk ⟨[],H,I,.nil,h⟩
theorem zov {X:Cx} {pos:Pos} {k v:Expr} {ks:List (Option Expr)} {vs:List Expr} {tk tv:TE} {trs:List (TE×TE)} (hk:PE X k tk) (hv:PE X v tv) (hr:PPs X pos ks vs trs) :
   PPs X pos (some k :: ks) (v :: vs) ((tk,tv) :: trs):=λpins s σ H Q I h =>
 pairTrees_cons_walk (thn (hk pins s σ H _ I h) λu s1 ⟨x,H1,I1,rx,q1⟩=>thn (hv pins s1 σ H1 _ I1 q1) λw2 s2 ⟨y,H2,I2,ry,q2⟩ =>
   thn (hr pins s2 σ H2 _ I2 q2) λws s3 ⟨ps,H3,I3,rel,q3⟩=>⟨(x,y) :: ps,H3,I3,.cons ⟨rx,ry⟩ rel,q3⟩)
def zj9 (kvs more:List (Key×V)):List (Key×V):=more.foldl (λacc kv=>zbd acc kv.1 kv.2) kvs
theorem KV.merge:∀{more:List (Key×V)} {rs:List (Key×Value)} {kvs:List (Key×V)} {vs:List (Key×Value)},KV more rs->KV kvs vs->KV (zj9 kvs more) (merged vs rs):=by
 intro more rs kvs vs r;unfold KV at r
 induction r generalizing kvs vs with
 | nil=>intro q; exact q
 | @cons p q ps qs h t ih =>
   intro r0;have e:KV (zbd kvs p.1 p.2) (stored vs q.1 q.2):=by have:=r0.put p.1 h.2;rw[<- h.1]; exact this
   exact ih e
theorem zks:∀(more kvs:List (Key×V)),(zj9 kvs more).length<=kvs.length+more.length
 | [],kvs=>by show kvs.length<=kvs.length+0; omega
 | p :: r,kvs=>by have h1:=zks r (zbd kvs p.1 p.2);have h2:=zbi kvs p.1 p.2;show(zj9 (zbd kvs p.1 p.2) r).length<=_;rw[qa0]; omega
theorem zn6 {P:Program} {w:World}:∀{kvs:List (Key×V)} {ws:List (Value×Value)},VV (kvs.map λkv=>(kV kv.1,kv.2)) ws->∃rs,Carries (zbe P w) ws rs/\KV kvs rs
 | [],_,r=>by rw[qcd] at r; cases r; exact⟨[],True.intro,.nil⟩
 | p :: kvs,_,r=>by
   rw[qaz] at r;cases r with
   | @cons a b as bs h t =>
     obtain⟨rs,c,q⟩:=zn6 (P:=P) (w:=w) t;obtain⟨b1,b2⟩:=b;exact⟨(p.1,b2) :: rs,⟨zpj h.1,rfl,c⟩,.cons ⟨rfl,h.2⟩ q⟩
def z5w (trs:List (TE×TE)):TE:=λσ H Q=>∀p,H p=none->zwz trs σ (upd H p (.dK [])) λps H2=>H2 p=some (.dK [])/\∃kvs:List (Key×V),ps=kvs.map (λkv=>(kV kv.1,kv.2))/\kvs.length<=15/\Q (.ref p) (upd H2 p (.dK (zj9 [] kvs)))
theorem z1w {X:Cx} {pos:Pos} {keys:List (Option Expr)} {values:List Expr} {trs:List (TE×TE)} (h:PPs X pos keys values trs) (hall:keys.all (·.isSome)=true) (hl:keys.length=values.length) (h0:keys≠[])
   (h15:keys.length<=15):PE X (.Dict keys values pos) (z5w trs):=by
 intro pins s σ H Q I q;have hn:=I.hok.fresh (qae s.heap.objs.size);have I1:=I.laid (a:=s.heap.objs.size) (o:=.dK []) (h':=s.heap.push { cls:=.type "dict",data:=.dict #[] }) (t':=s.toks) (λ_ _ q=>Heap.get?_push_of_some _ q) (qae _) (zos s.heap I.big);refine wpAny_Dict_walk (knd:=zbe X.prog X.w) hall hl h0 h15 (thn (h pins _ σ _ _ I1 (q _ hn)) λws s2 ⟨ps,H2,I2,rel,e,kvs,ep,lk,q2⟩=>?_);subst ep;obtain⟨rs,c,rk⟩:=zn6 (P:=X.prog) (w:=X.w) rel;obtain⟨z,hd,vs0,r0,dd⟩:=zvh I2.hok e;cases r0;refine⟨rs,c,dd,λh' dd' hs=>⟨.ref s.heap.objs.size,_,?_,rfl,q2⟩⟩;have hz:(zj9 [] kvs).length<=sizeLine:=by have h1:=zks kvs [];rw[qbi] at h1;rw[sizeLine_eq]; omega
 have he:∃q,h'.get? s.heap.objs.size=some q:=let ⟨q,_,_,hq,_⟩:=dd'; ⟨q,hq⟩
 exact zmv I2 (by rw[e]; exact True.intro) hs he (ztp hz hd (rk.merge .nil) dd')
structure M2 (X:Cx) (o:Expr) (m:Str) (apos:Pos) (e f:Expr) (cpos:Pos):Prop where
 base:attributeBase o m X.env (eval o X.env)=eval o X.env
 few:((backTo cpos (starEach [e,f] X.env)).all (λx=>!x.1)&&(backToKw cpos (keywordEach [] X.env)).all (λx=>x.1.isSome)
   && decide (([e,f]:List Expr).length+([]:List Keyword).length+(if([]:List Keyword).isEmpty then 0 else 1)<30))=true
 line:(apos.endLine==cpos.line)=true
 trees:backTo cpos (starEach [e,f] X.env)=[(false,eval e X.env),(false,eval f X.env)]
def IsD (H:Hp) (a:Addr):Prop:=(∃kvs,Rd H a (.dK kvs))\/∃kvs,Rd H a (.dT kvs)
theorem z0i {X:Cx} {pins:List (Addr×Obj)} {σ:St} {H:Hp} {s:Shared} {a:Addr} (I:Inv X pins σ H s) (d:IsD H a) :
   s.TypeIs (.ref a) "dict"/\(∀b,Value.ref a=.ref b->∃ob,s.heap.get? b=some ob/\ob.dict=none)/\(a==sysModules)=false:=by
 rcases d with⟨kvs,e⟩|⟨kvs,e⟩
 . obtain⟨_,hd,vs,_,dd⟩:=zrp I.hok e;refine⟨dd.typeIs,λb q=>?_,hd⟩;cases q;obtain⟨ob,_,_,h1,h2,_⟩:=dd;exact⟨ob,h1,h2.2.1⟩
 . obtain⟨_,hd,xs,_,dd⟩:=zrr I.hok e;refine⟨dd.typeIs,λb q=>?_,hd⟩;cases q;obtain⟨ob,_,_,h1,h2,_⟩:=dd;exact⟨ob,h1,h2.2.1⟩
section
variable {X:Cx} {pins:List (Addr×Obj)} {σ:St} {H:Hp} {s:Shared} {a:Addr} {y d:V} {u r:Value} {o:Option V} {A:Around} {E:Value->Shared->Prop}
theorem z46 {Q:Value->Shared->Prop} (hu:A.units+1<cLine) (I:Inv X pins σ H s) (g:zm8 H a y o) (ry:zc4 y u) (rd:zc4 d r) (h:∀w' s',Inv X pins σ H s'->zc4 (o.getD d) w'->Q w' s') :
   wpAny (model X.prog X.w) A (call (.builtin "dict.get") [.ref a,u,r]) Q E s:=by
 rcases g with⟨kvs,k,e,ey,l⟩|⟨kvs,k,b,e,ey,eb,l⟩
 . subst ey;obtain⟨z,hd,vs,rel,dd⟩:=zrp I.hok e;refine call_meetsIn qc4 dd.typeIs PySem.F.entry_dict_get (qdy _ _ _) (meets_dict_get_default (zbe X.prog X.w) a (zpj ry) hd r) ⟨_,dd.mapOf,h _ _ (I.tok _) ?_⟩;rw[l];exact(rel.val k).getD rd
 . subst ey;cases (show u=Value.ref b from ry);obtain⟨z,hd,xs,rel,dd⟩:=zrr I.hok e;refine call_meetsIn qc4 dd.typeIs PySem.F.entry_dict_get (qdy _ _ _) (meetsH_dict_get_default (tupleKind (zbe X.prog X.w)) a b hd r) ⟨tupleKind_room_in1 hu,k,xs,zn7 I.hok eb,dd,h _ _ (I.tok _) ?_⟩;rw[l];exact(rel.val k).getD rd
end
def z3j (td ty tx:TE):TE:=λσ H Q=>td σ H λx H1=>∃a,x=.ref a/\IsD H1 a/\ty σ H1 λy H2=>tx σ H2 λz H3=>∃o,zm8 H3 a y o/\Q (o.getD z) H3
section
variable {X:Cx} {o e f:Expr} {apos cpos:Pos} {td ty tx:TE}
theorem zy3 (hu:X.A.units+1<cLine) (ho:PE X o td) (he:PE X e ty) (hf:PE X f tx) (m:M2 X o "get" apos e f cpos):PE X (.Call (.Attribute o "get" apos) [e,f] [] cpos) (z3j td ty tx):=by
 intro pins s σ H Q I h;refine wpAny_Call_method m.base m.few m.line qcz qc4 PySem.F.type_dict_get (thn (ho pins s σ H _ I h) λu s1 ⟨x,H1,I1,rx,a,ex,d,q1⟩=>?_);subst ex;obtain rfl:u=Value.ref a:=rx;obtain⟨t1,t2,_⟩:=z0i I1 d;refine⟨t1,t2,?_⟩;rw[m.trees];refine Calls.callWith_builtin rfl (Calls.evalArgs_plain (Calls.spliced_cons (thn (he pins s1 σ H1 _ I1 q1) λiv s2 ⟨y,H2,I2,ry,q2⟩ =>
   Calls.spliced_cons (thn (hf pins s2 σ H2 _ I2 q2) λfv s3 ⟨z,H3,I3,rz,ov,g,q3⟩=>Calls.spliced_nil ?_))))
 exact z46 hu I3 g ry rz λw' s4 I4 rw'=>⟨_,H3,I4,rw',q3⟩
end
end L2
namespace PySem
theorem zqh:typeLookup (.type "list") "keys"=pure none:=by rw[typeLookup_type,builtinLookup_eq_fast]; kernel_rfl
theorem zki:entryFor table "dict.update.loop"=some Builtin.«dict.update.loop»:=entryFor_of_tree (by kernel_rfl)
theorem zfs:plainId "dict.update.loop"=true:=by decide +kernel
theorem zu4 {prog:Program} {w:World} {A:Around} {E:Value->Shared->Prop} {s:Shared} {a:Addr} {o:Obj} {xs:Array Value} {k:Nat} {Q:Option Value->Shared->Prop}
   (hx:s.heap.get? a=some o) (hc:o.cls=.type "list") (hdat:o.data=.seq xs k) (hd:o.dict=none) (hA:A.handled=none)
   (h:∀h' tk,(∀b ob,s.heap.get? b=some ob->h'.get? b=some ob)->Q none { s with heap:=h',toks:=tk }) :
   wpAny (model prog w) A (getAttr? (.ref a) "keys") Q E s:=by
 obtain⟨c,dct,dat,sl⟩:=o;simp only at hc hdat hd;subst hc hdat hd;obtain⟨hp,g,d,tk,os⟩:=s;have hT:∀tk',(⟨hp,g,d,tk',os⟩:Shared).TypeIs (.ref a) "list":=λ_=>⟨_,hx,rfl⟩
 have f1:=sub_AttributeError;have f3:=qcy.lookup;have f4:=qcy.bind (.ref a);have f5:=am_list_getattr_none;unfold getAttr? getAttrBy? getAttrBy
 repeat (any_goals (first|assumption|exact hT _|((with_reducible show wpAny _ _ (call (Value.builtin "list.__getattribute__") _ _) _ _ _); refine call_meets qcy (hT _) am_entry_list_getattribute (F.args_list_getattribute_2 _ _) (meets_getattribute_miss_list a xs k sl "keys" _ zqh (by decide +kernel) (by decide +kernel)) ⟨hx,hA,λh' tk' e hx'=>?_⟩)|wp_step))
 obtain⟨t',u',he⟩:=hx'.there
 try (show wpAny _ _ (getattributeRaised _ _ _ _ _ _ _) _ _ _)
 try unfold getattributeRaised
 repeat (any_goals (first|assumption|wp_step))
 all_goals (first|exact h _ _ hx'.keeps|trace_state)
end PySem
namespace L2
open PySem PySem.Spec PyProof.Rows
section
variable {X:Cx} {pins:List (Addr×Obj)} {σ:St} {H:Hp}
theorem zib {α β:Type} {F:α->β->Prop}:∀{l:List α} {m:List β},Paired F l m->∀{i:Nat} (h1:i<l.length) (h2:i<m.length),F l[i] m[i]
 | _,_,.cons h _,0,_,_=>h
 | _,_,.cons _ t,i+1,h1,h2=>by have:=zib t (i:=i) (by simpa using h1) (by simpa using h2);simpa using this
theorem zv0 {A:Around} {R:Result->Shared->Prop} {p D it:Addr} {ps:List Addr} {kvs:List (Key×V)} (hA:A.handled=none) (hpD:p≠D) (hS:SqL X.K H p (ps.map V.ref)) (hps:Paired (λa (kv:Key×V)=>SqT X.K H a [kV kv.1,kv.2]) ps kvs)
   (hD:H D=none) (hz:kvs.length<=100000) (hit0:it≠D)
   (hR:∀s',Inv X pins σ (upd H D (.dK (kvs.foldl (λacc kv=>zbd acc kv.1 kv.2) []))) s'->R (.ok (.ret .none)) s') :
   ∀(k i:Nat) (t:Tok) (s:Shared),kvs.length - i=k->i<=kvs.length->Inv X pins σ (upd H D (.dK ((kvs.take i).foldl (λacc kv=>zbd acc kv.1 kv.2) []))) s->s.heap.IsListIter it p i ->
     (∀H',H' it=none->zwj X pins H' it)->H it=none->codeAny (model X.prog X.w) A (.builtin "dict.update.loop" ⟨[.ref D,.ref it,.int (i:Nat) t,.none],[]⟩) R s:=by
 have sameD:∀o,zan H (upd H D o):=λo=>zan.new hD;have hlen:ps.length=kvs.length:=hps.length;have flen:∀(l:List (Key×V)) (acc:List (Key×V)),(l.foldl (λacc kv=>zbd acc kv.1 kv.2) acc).length<=acc.length+l.length:=by
   intro l
   induction l with
   | nil=>intro acc; simp
   | cons x r ih =>
     intro acc;rw[qa7];have h1:=ih (zbd acc x.1 x.2);have h2:=zbi acc x.1 x.2;simp only[qa0];omega
 have big:(100000:Nat)<sizeLine:=by decide
 intro k
 induction k with
 | zero =>
   intro i t s hk hi I hit hfp hHit;have e:i=kvs.length:=by omega
   subst e;rw[qbs] at I;obtain⟨its,rv,pl,hz'⟩:=I.list ((sameD _).seq hS);obtain⟨f0,f1,f2,f3,f4,f5⟩:=hfp (upd H D (.dK (kvs.foldl (λacc kv=>zbd acc kv.1 kv.2) []))) (by rw[zag hit0]; exact hHit);refine codeAny_builtin zki ?_;rw[Around.under_plainId zfs _];show wpAny _ A.in1 (pyNext (.ref it) >>= _) _ _ s;have hl:=rv.length;rw[List.length_map] at hl;refine wpAny_bind (wpAny_pyNext_list_end hA hit pl.isList (by simp; omega) λh' eb=>?_);have I1:Inv X pins σ (upd H D (.dK (kvs.foldl (λacc kv=>zbd acc kv.1 kv.2) []))) { s with heap:=h' }:=I.turned (t':=s.toks) (λb o hb e=>eb b o hb e) f0 f1 f3 f4 f5;show wpAny _ _ (Builtin.Dict.addKeywords D [] >>= _) _ _ _;exact wpAny_bind (wpAny_pure (wpAny_pure (hR _ I1)))
 | succ k ih =>
   intro i t s hk hi I hit hfp hHit;have hlt:i<kvs.length:=by omega
   obtain⟨its,rv,pl,hz'⟩:=I.list ((sameD _).seq hS);have hpi:(ps.map V.ref)[i]?=some (.ref (ps[i]'(by omega))):=by simp [show i<ps.length by omega]
   obtain⟨u,hu,ru⟩:=rv.get hpi;cases (show u=Value.ref _ from ru);obtain⟨f0,f1,f2,f3,f4,f5⟩:=hfp (upd H D (.dK ((kvs.take i).foldl (λacc kv=>zbd acc kv.1 kv.2) []))) (by rw[zag hit0]; exact hHit);refine codeAny_builtin zki ?_;rw[Around.under_plainId zfs _];show wpAny _ A.in1 (pyNext (.ref it) >>= _) _ _ s;refine wpAny_bind (wpAny_pyNext_list_item hit pl.isList (x:=.ref ps[i]) (by simpa using hu) λh' hit' sb=>?_);have I1:Inv X pins σ (upd H D (.dK ((kvs.take i).foldl (λacc kv=>zbd acc kv.1 kv.2) []))) { s with heap:=h' }:=I.turned (t':=s.toks) (λb o hb e=>(sb.2 b hb).trans e) f0 f1 f3 f4 f5;have hpair:SqT X.K H ps[i] [kV (kvs[i]).1,(kvs[i]).2]:=zib hps (by omega) hlt;obtain⟨its2,rv2,⟨o2,ho2,hc2,n2,hd2⟩,_⟩:=I1.tuple ((sameD _).tup hpair);cases rv2 with
   | cons r1 rr =>
     cases rr with
     | cons r2 rr =>
       cases rr
       rename_i ku vu
       refine wpAny_bind (wpAny_holding (wpAny_bind (wpAny_tryCatch ?_)));show wpAny _ _ (Builtin.Dict.pairItems (.ref ps[i])) _ _ _;unfold Builtin.Dict.pairItems;refine wpAny_bind (wpAny_typeOf (T:="tuple") ⟨o2,ho2,hc2⟩ ?_);rw[if_pos (by decide)];refine wpAny_bind ?_;show wpAny _ _ (load ps[i] >>= _) _ _ _;refine wpAny_bind (wpAny_load ho2 ?_);rw[hd2];refine wpAny_pure (wpAny_pure ?_);show wpAny _ _ (holding [ku,vu] (dictSet D ku vu)) _ _ _;refine wpAny_holding ?_;obtain⟨z,hd,vs,rel,dd⟩:=zvh I1.hok zac;have hl1:=flen (kvs.take i) [];have hl2:(kvs.take i).length<=kvs.length:=by rw[qax]; omega
       simp only[qbi,Nat.zero_add] at hl1;have hzv:vs.length<=sizeLine:=by rw[<- rel.length]; exact z
       refine wpAny_dictSet_pairs (hsz:=hzv) (zpj r1) dd λh2 dd2 hs2=>?_;have he:∃q,h2.get? D=some q:=let ⟨q,_,_,hq,_⟩:=dd2; ⟨q,hq⟩
       have hl3:(zbd ((kvs.take i).foldl (λacc kv=>zbd acc kv.1 kv.2) []) (kvs[i]).1 (kvs[i]).2).length<=sizeLine:=by have:=zbi ((kvs.take i).foldl (λacc kv=>zbd acc kv.1 kv.2) []) (kvs[i]).1 (kvs[i]).2;omega
       have I2:=zmv (t':=({ s with heap:=h' }:Shared).toks+1) I1 (by rw[zac]; exact True.intro) hs2 he (ztp hl3 hd (rel.put (kvs[i]).1 r2) dd2);rw[zmh] at I2;have e3:(kvs.take (i+1)).foldl (λacc kv=>zbd acc kv.1 kv.2) []=zbd ((kvs.take i).foldl (λacc kv=>zbd acc kv.1 kv.2) []) (kvs[i]).1 (kvs[i]).2:=by rw[qbf,qbc];simp [hlt]
       rw[<- e3] at I2;have hit2:h2.IsListIter it p (i+1):=by obtain⟨oi,hoi,ri⟩:=hit';exact⟨oi,(hs2.2 it hit0).trans hoi,ri⟩
       refine wpAny_pure ⟨plainId_quiet zfs _,?_⟩;have:=ih (i+1) 0 _ (by omega) (by omega) I2 hit2 hfp hHit;exact this
end
section
variable {X:Cx}
def z1k (K:W.Frag):List V->Hp->VK->Prop:=λxs H Q=>∃(p:Addr) (ps:List Addr) (kvs:List (Key×V)),xs=[.ref p]/\SqL K H p (ps.map V.ref)/\Paired (λa (kv:Key×V)=>SqT K H a [kV kv.1,kv.2]) ps kvs/\kvs.length<=100000 /\
 ∀d,H d=none->Q (.ref d) (upd H d (.dK (kvs.foldl (λacc kv=>zbd acc kv.1 kv.2) [])))
theorem zlr (hc:X.calm=true):zjr X (.type "dict") (z1k X.K):=by
 intro pins s σ H xs us Q I r h;obtain⟨p,ps,kvs,rfl,hS,hps,hz,q⟩:=h;obtain⟨u,rfl,ru⟩:=zpd r;cases (show u=Value.ref p from ru);have hA:=I.ok.hd hc;have hD:H s.heap.objs.size=none:=I.hok.fresh (qae _);obtain⟨its,rv,pl,_⟩:=I.list hS;have hplt:p<s.heap.objs.size:=pl.lt;have I0:Inv X pins σ (upd H s.heap.objs.size (.dK [])) { s with heap:=s.heap.push { cls:=.type "dict",data:=.dict #[] } } :=
   I.laid (a:=s.heap.objs.size) (o:=.dK []) (t':=s.toks) (λ_ _ q=>Heap.get?_push_of_some _ q) (qae _) (zos s.heap I.big)
 refine callType_codes (Q₁:=λobj s₁=>obj=.ref s.heap.objs.size/\s₁={ s with heap:=s.heap.push { cls:=.type "dict",data:=.dict #[] } }) PySem.F.kt_called_dict (PySem.F.kt_typeCall_dict_1 _) PySem.F.entry_dict_init (kt_code_dict_new _ ⟨rfl,rfl⟩) ?_;rintro obj s₁ ⟨rfl,rfl⟩;have hnew:(s.heap.push { cls:=.type "dict",data:=.dict #[] }).DictOf (zbe X.prog X.w) s.heap.objs.size []:=Heap.DictOf.new s.heap;refine⟨hnew.typeIs,PySem.F.args_dict_init_2 _ _,?_⟩;unfold Builtin.«dict.__init__»;refine wpAny_bind ?_;unfold Builtin.Dict.selfAndRest;refine wpAny_bind (wpAny_notOrdered_dict hnew.typeIs ?_);show wpAny _ _ (pure (s.heap.objs.size,[Value.ref p])) _ _ _;refine wpAny_pure ?_;show wpAny _ _ (Builtin.Dict.updateFrom "dict.__init__" s.heap.objs.size (.ref p) [] .none) _ _ _;unfold Builtin.Dict.updateFrom;obtain⟨o,n,ho,hcl,hdi,hda⟩:=pl;have ho1:(s.heap.push { cls:=.type "dict",data:=.dict #[] }).get? p=some o:=Heap.get?_push_of_some _ ho;refine wpAny_bind (wpAny_typeOf (T:="list") ⟨o,ho1,hcl⟩ ?_);rw[if_pos (by decide)];refine wpAny_bind (zu4 (s:={ s with heap:=s.heap.push { cls:=.type "dict",data:=.dict #[] } }) ho1 hcl hda hdi hA λh' tk hk=>?_);have I1:Inv X pins σ (upd H s.heap.objs.size (.dK [])) { s with heap:=h',toks:=tk }:=I0.kept hk;rw[if_pos (by rfl)];refine wpAny_bind (wpAny_rule ?_);have ho2:h'.get? p=some o:=hk _ _ ho1;refine wpAny_bind (wpAny_pyIter_list (s:={ s with heap:=h',toks:=tk }) (items:=its.toArray) ⟨o,ho2,hcl,n,hda⟩ ?_);have I2:Inv X pins σ (upd H s.heap.objs.size (.dK [])) { s with heap:=h'.push { cls:=.type "list_iterator",data:=.fields #[.ref p,.int 0 0] },toks:=tk }:=I1.kept (t':=tk) λb o e=>Heap.get?_push_of_some _ e;have hsz:s.heap.objs.size<h'.objs.size:=by have e:(s.heap.push { cls:=.type "dict",data:=.dict #[] }).get? s.heap.objs.size=some { cls:=.type "dict",data:=.dict #[] }:=qap _ rfl;exact Heap.lt_size (hk _ _ e)
 have hit0:h'.objs.size≠s.heap.objs.size:=qcc hsz;have hHit:H h'.objs.size=none:=I.hok.fresh (qbq hsz);refine wpAny_pure ⟨plainId_quiet zfs _,?_⟩;refine zv0 (A:=X.A.in1) (it:=h'.objs.size) hA (qa2 hplt) hS hps hD hz hit0 (λs' J=>⟨rfl,.ref s.heap.objs.size,_,J,rfl,q _ hD⟩) kvs.length 0 0 _ (by omega) (qa6 _) (by simpa using I2) ⟨_,qap _ rfl,rfl,rfl⟩ (λH' hn=>I1.fpOk (qae _) hn) hHit
theorem zwy:∀(xs:List V) (us:List Value),xs.length=us.length->(∀(i:Nat) (x:V) (u:Value),xs[i]?=some x->us[i]?=some u->zc4 x u)->zcq xs us
 | [],[],_,_=>.nil
 | [],_ :: _,h,_=>by simp at h
 | _ :: _,[],h,_=>by simp at h
 | x :: xs,u :: us,h,k=>.cons (k 0 x u rfl rfl) (zwy xs us (by simpa using h) λi y v e1 e2=>k (i+1) y v (by simpa using e1) (by simpa using e2))
theorem zvo {P:Program} {w:World} {k:Key} {v:Value} (h:(zbe P w).is k v=true):zc4 (kV k) v:=by
 rcases zcr (show zr5 k v=true from h) with⟨i,t,rfl,rfl⟩|⟨x,t,rfl,rfl⟩
 . exact⟨t,rfl⟩
 . exact⟨t,rfl⟩
theorem zwh {P:Program} {w:World} {kvs:List (Key×V)} {vs:List (Key×Value)} {acc:Array Value} (rel:KV kvs vs) (h:ItemsOf (λi v=>∃k x,vs[i]?=some (k,x)/\(zbe P w).is k v=true) acc vs.length) :
   zcq (kvs.map λkv=>kV kv.1) acc.toList:=by
 have hl:=rel.length;have el:acc.toList.length=acc.size:=by simp
 have hlen:(kvs.map λkv=>kV kv.1).length=acc.toList.length:=by rw[List.length_map,el,h.1]; exact hl
 refine zwy _ _ hlen λi x u e1 e2=>?_;obtain⟨k,y,e3,e4⟩:=h.2 i u (by simpa using e2);rw[List.getElem?_map] at e1;cases e5:kvs[i]? with
 | none=>rw[e5] at e1; cases e1
 | some kv =>
   rw[e5] at e1;have e1:kV kv.1=x:=by simpa using e1
   have e6:kv.1=k:=by
     have h1:i<kvs.length:=(List.getElem?_eq_some_iff.mp e5).1;have h2:i<vs.length:=by omega
     have e7:=zib rel h1 h2;have e8:kvs[i]=kv:=by have:=List.getElem?_eq_some_iff.mp e5; exact this.2
     have e9:vs[i]=(k,y):=by have:=List.getElem?_eq_some_iff.mp e3; exact this.2
     rw[e8,e9] at e7;exact e7.1
   rw[<- e1,e6];exact zvo e4
theorem zq8 (hc:X.calm=true):zjr X (.type "list") (λxs H Q=>∃d kvs,xs=[.ref d]/\H d=some (.dK kvs)/\∀l,H l=none->Q (.ref l) (upd H l (.lst (kvs.map λkv=>kV kv.1)))):=by intro pins s σ H xs us Q I r h;obtain⟨d,kvs,rfl,hd,q⟩:=h;obtain⟨u,rfl,ru⟩:=zpd r;cases (show u=Value.ref d from ru);obtain⟨z,lo,vs,rel,dd⟩:=zvh I.hok hd;have hlen:=rel.length;obtain⟨ep,dat⟩:∃ep,s.heap.DictAt (zbe X.prog X.w) d vs ep:=dd.dictAt;refine PySem.W.kdl_call (PySem.W.kdl_dict (knd:=zbe X.prog X.w) (kvs:=vs) (ep:=ep) lo) (I.ok.hd hc) dat (by rw[<- hlen]; exact z) λh' tk acc' c' hk hS hit=>?_;have hv:zcq (kvs.map λkv=>kV kv.1) acc'.toList:=zwh rel hit;refine⟨.ref s.heap.objs.size,_,I.laid (a:=s.heap.objs.size) (o:=.lst (kvs.map λkv=>kV kv.1)) hk (qae _) ⟨by rw[List.length_map]; exact z,acc'.toList,c',hv,by simpa using hS⟩,rfl,q _ (I.hok.fresh (qae _))⟩
end
end L2
namespace L2
open PySem PySem.Spec PyProof.Rows PySem.W
section
variable {prog:Program} {w:World} {A:Around} {E:Value->Shared->Prop} {s:Shared} {δ:Type} {R:δ->Value->Prop} {a:Addr} {D:List (Str×δ)} {k:Str} {tk:Tok} {d:δ}
theorem zob (T:KTD.TabOf R s.heap a D):s.TypeIs (.ref a) "dict":=let ⟨_,o,_,_,ho,hc,_⟩:=T; ⟨o,ho,hc.1⟩
theorem zsg {Q:Value->Shared->Prop} (T:KTD.TabOf R s.heap a D) (hd:KTD.datumAt k D=some d) (h:∀v,R d v->Q v { s with toks:=s.toks+1 }) :
   wpAny (model prog w) A (getItem (.ref a) (.str k tk)) Q E s:=by
 have ty:=zob T;obtain⟨_,o,es,ep,ho,hc,hdt,hr⟩:=T;unfold getItem
 try with_reducible refine wpAny_holding ?_
 refine wpAny_bind (wpAny_sequenceKey ty (by decide) ?_);refine wpAny_bind (wpAny_callSpecial?_slot (name:=Str.ofString "__getitem__") ty slot_dict_getitem
   (wpAny_call_entry slot_dict_getitem ty entry_dict_getitem ?_ (args_dict_getitem _ _)))
 show wpAny _ _ (dictGet a (.str k tk) >>= _) _ _ s;refine wpAny_bind ?_;unfold dictGet
 try with_reducible refine wpAny_holding ?_
 refine wpAny_bind (wpAny_pyHash_str (wpAny_bind (KTD.kt_dictFind_strs (s:={ s with toks:=s.toks+1 }) ho hdt (by obtain⟨l⟩:=es; simpa using hr.exact) ?_)));have hq:∃v,findBy (λk v=>v.isStr k) es k=some v/\R d v:=by
   have hf:findBy (λk v=>v.isStr k) es k=(es.toList.find? λe=>e.key.isStr k).map (·.val):=by obtain⟨l⟩:=es;simp [findBy]
   rw[hf];exact hr.find_some hd
 obtain⟨v,hv,hR⟩:=hq;rw[findBy_of_findIdx?] at hv;cases hi:es.findIdx? λe=>e.key.isStr k with
 | none=>rw[hi] at hv; cases hv
 | some i =>
   rw[hi] at hv;have hv:es[i]?.map (·.val)=some v:=hv;refine wpAny_bind (wpAny_dictEntries (s:={ s with toks:=s.toks+1 }) ho hdt (wpAny_pure ?_));show wpAny _ _ _ _ _ _;rw[hv];exact wpAny_pure ⟨v,rfl,wpAny_pure (h v hR)⟩
end
def z6h (K:W.Frag) (d:Addr) (rows:List (Str×List V)):Prop :=
 ∃(o:Obj) (es:Array DictEntry) (ep:Nat),K.lookup d=some o/\(d==sysModules)=false/\o.ExactDict/\o.data=.dict es ep/\KTD.Rows (λ(xs:List V) v=>∃a,v=.ref a/\∀H:Hp,SqT K H a xs) es.toList rows
def z4q (K:W.Frag):R2:=λx y H Q=>∃d rows k xs,x=.ref d/\y=.str k/\z6h K d rows/\KTD.datumAt k rows=some xs/\∀a,SqT K H a xs->Q (.ref a) H
theorem z3s {X:Cx}:IxR X (z4q X.K):=by
 intro value slice pins s σ H x y v u Q I rx ry h hs;obtain⟨d,rows,k,xs,rfl,rfl,⟨o,es,ep,ho,lo,hc,hd,hr⟩,hk,q⟩:=h;cases (show v=Value.ref d from rx);obtain⟨t,rfl⟩:=(show ∃t,u=Value.str k t from ry)
 have T:KTD.TabOf (λ(xs:List V) v=>∃a,v=.ref a/\∀H:Hp,SqT X.K H a xs) s.heap d rows:=⟨lo,o,es,ep,I.kIn d o ho,hc,hd,hr⟩
 refine tail_any (zob T) slot_dict_getitem.lookup (zsg T hk λv hv=>?_) hs;obtain⟨a,rfl,hsq⟩:=hv;exact⟨.ref a,H,I.tok _,rfl,q a (hsq H)⟩
end L2
namespace L2
open PySem PySem.Spec PyProof.Rows
def zsl:V->Value->Bool
 | .non,.none=>true
 | .bl b,.bool c=>b==c
 | .int i,.int j _=>i==j
 | .str x,.str y _=>x==y
 | _,_=>false
theorem zso:∀{x:V} {v:Value},zsl x v=true->zc4 x v:=by
 intro x v h;unfold zsl at h;split at h
 . rfl
 . obtain rfl:=beq_iff_eq.mp h; rfl
 . obtain rfl:=beq_iff_eq.mp h; exact⟨_,rfl⟩
 . obtain rfl:=beq_iff_eq.mp h; exact⟨_,rfl⟩
 . cases h
def zi1:List V->List Value->Bool
 | [],[]=>true
 | x :: xs,v :: vs=>zsl x v&&zi1 xs vs
 | _,_=>false
theorem zln:∀{xs:List V} {vs:List Value},zi1 xs vs=true->zcq xs vs
 | [],[],_=>.nil
 | x :: xs,v :: vs,h=>by simp only[zi1,qa1] at h;exact .cons (zso h.1) (zln h.2)
 | [],_ :: _,h=>by simp [zi1] at h
 | _ :: _,[],h=>by simp [zi1] at h
def zo1 (K:W.Frag) (xs:List V) (v:Value):Bool:=match v with
 | .ref a=>match K.lookup a with
   | some o=>o.cls==.type "tuple"&&(match o.data with | .seq its _=>decide (its.size<=sizeLine)&&zi1 xs its.toList|_=>false)
   | none=>false
 | _=>false
theorem zsi {K:W.Frag} (xs:List V) (v:Value) (h:zo1 K xs v=true):∃a,v=.ref a/\∀H:Hp,SqT K H a xs:=by
 unfold zo1 at h;split at h
 . rename_i a
   split at h
   . rename_i o ho
     rw[qa1] at h;obtain⟨h1,h2⟩:=h;split at h2
     . rename_i its n hd
       rw[qa1] at h2;exact⟨a,rfl,λH=>.inr ⟨o,its,n,ho,beq_iff_eq.mp h1,hd,of_decide_eq_true h2.1,zln h2.2⟩⟩
     . cases h2
   . cases h
 . cases h
theorem zp1 {K:W.Frag} {d:Addr} {rows:List (Str×List V)} (h:KTD.tabLook (zo1 K) (λa=>K.lookup a) d rows=true):z6h K d rows:=by
 simp only[KTD.tabLook,qa1] at h;obtain⟨h0,hl⟩:=h;split at hl
 . rename_i o ho
   simp only[qa1] at hl;obtain⟨⟨⟨e1,e2⟩,e3⟩,e4⟩:=hl;split at e4
   . rename_i es ep hd
     exact⟨o,es,ep,ho,by simpa using h0,⟨beq_iff_eq.mp e1,by simpa using e2,by simpa using e3⟩,hd,KTD.rows_of_look zsi e4⟩
   . cases e4
 . cases hl
end L2
namespace L2
open PySem
def z0l:Expr->Option (List V)
 | .Tuple es _ _=>zs4 es
 | _=>none
theorem z08 {X:Cx} {e:Expr} {vs:List V} (h:z0l e=some vs):PE X e (tTup λ_ H Q=>Q vs H):=by
 unfold z0l at h;split at h
 . exact zck (zww h)
 . cases h
end L2
namespace L2
open PySem PySem.Spec PyProof.Rows
section
variable {prog:Program} {w:World} {A:Around} {E:Value->Shared->Prop} {s:Shared}
theorem gx_nextOf_tup {it t:Addr} {i:Nat} {items:Array Value} {x:Value} {Q:Value->Shared->Prop} (hit:s.heap.IsTupleIter it t i) (ht:s.heap.IsTuple t items) (hx:items[i]?=some x)
   (hQ:∀h',h'.IsTupleIter it t (i+1)->Heap.SameBut it s.heap h'->Q x { s with heap:=h' }):wpAny (model prog w) A (Builtin.SmallTypes.nextOf (.ref it)) Q E s:=by
 obtain⟨⟨o,ho,hc,hd⟩,⟨ol,hol,_,nl,hdl⟩⟩:=(⟨id hit,ht⟩:_/\_)
 unfold Builtin.SmallTypes.nextOf; refine wpAny_bind (wpAny_callSpecial?_slot (name:=Str.ofString "__next__") hit.typeIs qci (wpAny_call_entry qci hit.typeIs qdl ?_ (qdi _)));show wpAny (model prog w) _ (field (.ref it) 0 >>= _) _ _ s; refine wpAny_bind (wpAny_field ho hd (x:=.ref t) rfl ?_);show wpAny (model prog w) _ (if(Value.ref t==Value.none)=true then _ else _) _ _ s; rw[if_neg (by exact qar)];show wpAny (model prog w) _ (field (.ref it) 1 >>= _) _ _ s; refine wpAny_bind (wpAny_field ho hd (x:=.int i 0) rfl ?_);show wpAny (model prog w) _ (seqItems? (.ref t) >>= _) _ _ s; refine wpAny_bind (wpAny_seqItems hol hdl ?_); simp only[qbe,hx];refine wpAny_bind (wpAny_setField ho hd (by simp) (wpAny_pure ⟨x,rfl,wpAny_pure (hQ _ ⟨_,qb5 _ ho (Obj.isFreed_of_fields (Obj.data_mapFields hd _)),(Obj.cls_mapFields ..).trans hc,by rw[Obj.data_mapFields hd]; simp [rawInt]⟩ (Heap.SameBut.update ..))⟩))
theorem gx_nextOf_tup_end {it t:Addr} {i:Nat} {items:Array Value} {Q:Value->Shared->Prop} (hh:A.handled=none) (hit:s.heap.IsTupleIter it t i) (ht:s.heap.IsTuple t items) (hx:items[i]?=none)
   (hE:∀h' e,Heap.ExtBut it s.heap h'->(∃o,h'.get? e=some o/\o.cls=.type "StopIteration")->E (.ref e) { s with heap:=h' }):wpAny (model prog w) A (Builtin.SmallTypes.nextOf (.ref it)) Q E s:=by
 obtain⟨⟨o,ho,hc,hd⟩,⟨ol,hol,_,nl,hdl⟩⟩:=(⟨id hit,ht⟩:_/\_)
 unfold Builtin.SmallTypes.nextOf; refine wpAny_bind (wpAny_callSpecial?_slot (name:=Str.ofString "__next__") hit.typeIs qci (wpAny_call_entry qci hit.typeIs qdl ?_ (qdi _)));show wpAny (model prog w) _ (field (.ref it) 0 >>= _) _ _ s; refine wpAny_bind (wpAny_field ho hd (x:=.ref t) rfl ?_);show wpAny (model prog w) _ (if(Value.ref t==Value.none)=true then _ else _) _ _ s; rw[if_neg (by exact qar)];show wpAny (model prog w) _ (field (.ref it) 1 >>= _) _ _ s; refine wpAny_bind (wpAny_field ho hd (x:=.int i 0) rfl ?_);show wpAny (model prog w) _ (seqItems? (.ref t) >>= _) _ _ s; refine wpAny_bind (wpAny_seqItems hol hdl ?_); simp only[qbe,hx];refine wpAny_bind (wpAny_rule (wpAny_bind (wpAny_setField ho hd (by simp) ?_))); show wpAny (model prog w) _ (newExc (.type "StopIteration") [] >>= _) _ _ _;refine wpAny_bind ?_; simp only[newExc,newTuple]; refine wpAny_bind (wpAny_newObj_type ?_ (by size_fits));refine wpAny_bind (m:=firstArgMember _ _) (wpAny_of_eq (a:=Value.none) (by first|rfl|(simp only[firstArgMember]; rfl)) (wpAny_newObj_type ?_ (by size_fits)));simp only[raiseNew]; refine wpAny_bind (wpAny_handled ?_); first|rw[show A.in1.handled=none from hh] | rw[hh]
 refine wpAny_bind (wpAny_pure (wpAny_throw (hE _ _ (((Heap.SameBut.update ..).extBut.push _).push _) ⟨_,qap _ rfl,rfl⟩)))
end
theorem zlj {prog:Program} {w:World} {A:Around} (hh:A.handled=none) (it t:Addr) (hne:t≠it) (items:Array Value) :
   Draws prog w A it [it,t] items.size (λi v=>items[i]?=some v) (λi h=>h.IsTupleIter it t i/\h.IsTuple t items) where
 live:=λ_ _ ⟨⟨o,ho,_⟩,_⟩=>⟨o,ho⟩
 frame:=λ_ _ _ ⟨⟨o,ho,r⟩,⟨o2,ho2,r2⟩⟩ hk=>⟨⟨o,hk it (by simp) o ho,r⟩,⟨o2,hk t (by simp) o2 ho2,r2⟩⟩
 item:=λi s Q E hi ⟨s1,s2⟩ hQ=>gx_nextOf_tup s1 s2 (x:=items[i]) (by simp [hi]) λh' hit' hs'=>hQ _ h' s.toks (by simp [hi]) ⟨hit',s2.extBut hs'.extBut hne⟩ hs'
 done:=λs Q E ⟨s1,s2⟩ hE=>gx_nextOf_tup_end hh s1 s2 (by simp) hE
section
variable {X:Cx} {pins:List (Addr×Obj)} {σ:St} {H:Hp} {s:Shared} {h':Heap}
theorem Inv.turnedL {t':Nat} {ch:List Addr} (I:Inv X pins σ H s) (k:∀b o,b ∉ ch->s.heap.get? b=some o->h'.get? b=some o) (hf:∀b∈ch,zwj X pins H b):Inv X pins σ H { s with heap:=h',toks:=t' }:=by
 have nit:∀b u,H b=some u->b ∉ ch:=λb u e z=>by rw[(hf b z).1] at e; cases e
 refine I.step (g':=s.gens) (d':=s.drawn) (ch:=ch) (λb hb=>⟨(hf b hb).2.2.2.1,(hf b hb).2.1,(hf b hb).2.2.2.2.1,(hf b hb).2.2.2.2.2⟩) (λb o _ _ hc e _=>k b o hc e) (λb o _ _ hc e _=>⟨o.slots,k b o hc e⟩) (λ_ _ _ _ n=>n) (λb o hc e=>⟨o,k b o hc e⟩) (λ_ _ e=>e) (λ_ _ _ e=>e) (λb ps e=>⟨#[],by rw[e]; simp⟩) (λm hm=>?_) (λb u e=>?_) I.bare
 . obtain⟨o,es,ep,ho,r⟩:=hm;exact⟨o,es,ep,k _ _ (λz=>(hf _ z).2.1 rfl) ho,r⟩
 . have key:∀c,c=b\/H c=some (.own b)->c ∉ ch:=λc hc=>by
     rcases hc with z|z
     . subst z; exact nit _ u e
     . exact nit c _ z
   exact(I.hok b u e).stay (λc v hc q=>k c v (key c hc) q) (λ_ q=>q) λ_ _ q=>q
theorem Inv.turnLaid {t':Nat} {ch:List Addr} {a:Addr} {o:HO} (I:Inv X pins σ H s) (k:∀b o,b ∉ ch->s.heap.get? b=some o->h'.get? b=some o) (hf:∀b∈ch,zwj X pins H b) (hp:s.heap.objs.size<=a) (new:zdm X.prog X.w (upd H a o) h' a o) :
   Inv X pins σ (upd H a o) { s with heap:=h',toks:=t' }:=by
 have nit:∀b u,H b=some u->b ∉ ch:=λb u e z=>by rw[(hf b z).1] at e; cases e
 have hn:H a=none:=I.hok.fresh hp;refine I.step (g':=s.gens) (d':=s.drawn) (ch:=ch) (λb hb=>⟨(hf b hb).2.2.2.1,(hf b hb).2.1,(hf b hb).2.2.2.2.1,(hf b hb).2.2.2.2.2⟩) (λb o _ _ hc e _=>k b o hc e) (λb o _ _ hc e _=>⟨o.slots,k b o hc e⟩) (λb u _ q n=>by rw[zag (λz=>by subst z; exact absurd (Nat.lt_of_lt_of_le (Heap.lt_size q) hp) (qbd _))]; exact n) (λb o hc e=>⟨o,k b o hc e⟩) (λb xs q=>by rw[zag (za3 q hn)]; exact q) (λb u xs q=>by rw[zag (za3 q hn)]; exact q) (λb ps q=>⟨#[],by rw[zag (za3 q hn),q]; simp⟩) (λm hm=>?_) (λb u e=>?_) I.bare
 . obtain⟨o,es,ep,ho,r⟩:=hm;exact⟨o,es,ep,k _ _ (λz=>(hf _ z).2.1 rfl) ho,r⟩
 . by_cases hb:b=a
   . subst hb;rw[zac] at e;cases e;exact new
   . rw[zag hb] at e;have key:∀c,c=b\/H c=some (.own b)->c ∉ ch:=λc hc=>by
       rcases hc with z|z
       . subst z; exact nit _ u e
       . exact nit c _ z
     exact(I.hok b u e).stay (λc v hc q=>k c v (key c hc) q) (λc q=>(zag (za3 q hn)).trans q) λc xs q=>(zag (za3 q hn)).trans q
end
theorem zlb (l:Addr) (items:Array Value) (n:Nat) (dct:Option Addr) (sl:Array (Option Value)) :
   Meets (Builtin.«enumerate.__new__» ⟨[.type "enumerate",.ref l],[]⟩) (λ_ R s=>s.heap.get? l=some { cls:=.type "tuple",dict:=dct,data:=.seq items n,slots:=sl } /\
     R (.ok (.ret (.ref (s.heap.push { cls:=.type "tuple_iterator",data:=.fields #[.ref l,.int 0 0] }).objs.size)))
       { s with heap:=(s.heap.push { cls:=.type "tuple_iterator",data:=.fields #[.ref l,.int 0 0] }).push { cls:=.type "enumerate",data:=.fields #[.none,.bool false,.ref s.heap.objs.size,rawInt 0,.none,.none] } }) :=
 .of_wp λprog w A R s h=>by
   obtain⟨h0,g0,d0,t0,o0⟩:=s;obtain⟨hl,h⟩:=h;have hsub:=sub_enumerate;have hL:Heap.IsTuple (Shared.heap ⟨h0,g0,d0,t0,o0⟩) l items:=⟨_,hl,rfl,n,rfl⟩
   wp_walk using AutoSeq1.wpAny_loadPart' hl
   refine wpAny_stack_any λst=>wpAny_pure ?_;split
   . rename_i c _ _ _ _ _
     cases (c==Value.type "enumerate") <;> (wp_walk using AutoSeq1.wpAny_loadPart' hl,wpAny_pyIter_tuple hL; exact⟨_,rfl,h⟩)
   . wp_walk using AutoSeq1.wpAny_loadPart' hl,wpAny_pyIter_tuple hL; exact⟨_,rfl,h⟩
theorem zl7 {prog:Program} {w:World} {A:Around} {E:Value->Shared->Prop} {s:Shared} {l:Addr} {items:Array Value} {Q:Value->Shared->Prop} (hL:s.heap.IsTuple l items)
   (h:∀h',IsEnum h' (s.heap.objs.size+1) s.heap.objs.size 0 .none->h'.IsTupleIter s.heap.objs.size l 0->(∀b o,s.heap.get? b=some o->h'.get? b=some o)->Q (.ref (s.heap.objs.size+1)) { s with heap:=h' }) :
   wpAny (model prog w) A (call (.type "enumerate") [.ref l]) Q E s:=by
 obtain⟨⟨c,dct,dt,sl⟩,hl,hc,n,hd⟩:=hL;cases (show c=.type "tuple" from hc); cases (show dt=.seq items n from hd);refine callType_new F.called_enumerate (by decide) (F.typeCall_enumerate_1 _) (F.newCall_enumerate_1 _) (λobj=>F.args_object_init_2 obj _) F.entry_enumerate_new (zlb l items n dct sl) ⟨hl,?_⟩;have hz:(s.heap.push { cls:=.type "tuple_iterator",data:=.fields #[.ref l,.int 0 0] }).objs.size=s.heap.objs.size+1:=qby ..;have he:IsEnum ((s.heap.push { cls:=.type "tuple_iterator",data:=.fields #[.ref l,.int 0 0] }).push { cls:=.type "enumerate",data:=.fields #[.none,.bool false,.ref s.heap.objs.size,rawInt 0,.none,.none] }) (s.heap.objs.size+1) s.heap.objs.size 0 .none:=by have e:=qap (s.heap.push { cls:=.type "tuple_iterator",data:=.fields #[.ref l,.int 0 0] }) (o:={ cls:=.type "enumerate",data:=.fields #[.none,.bool false,.ref s.heap.objs.size,rawInt 0,.none,.none] }) rfl;rw[hz] at e;exact e
 show _/\_;rw[hz];exact⟨⟨_,he,rfl⟩,h _ he ⟨_,Heap.get?_push_of_some _ (qap _ rfl),rfl,rfl⟩ λb o x=>Heap.get?_push_of_some _ (Heap.get?_push_of_some _ x)⟩
def Ite (K:W.Frag) (a:Addr):It :=
 ⟨λi H=>∃xs x,SqT K H a xs/\xs[i]?=some x,λi H y H'=>∃b,y=.ref b/\H b=none/\∀xs x,SqT K H a xs->xs[i]?=some x->H'=upd H b (.tup [.int i,x]),λi H=>∃xs,SqT K H a xs/\xs.length=i⟩
theorem zvs {P:Program} {w:World} {K:W.Frag} {elts:List Expr} {k:Nat} {pos:Pos} (a e it:Addr) (hne:e≠it):Turn P w K (.Tuple elts k pos) (Ite K a) [e,it] e (λi h=>(∃old,IsEnum h e it i old)/\h.IsTupleIter it a i) where
 mem:=by simp
 obj:=λi h st b hb=>by
   obtain⟨⟨old,he⟩,⟨o,ho,hc,hd⟩⟩:=st;rcases List.mem_cons.mp hb with z|z
   . subst z;exact⟨_,he,λv z=>by cases (show Data.fields _=Data.cell v from z)⟩
   . have z:b=it:=by simpa using z
     subst z;exact⟨o,ho,λv z=>by rw[hd] at z; cases z⟩
 keep:=λi h h' st kk=>by obtain⟨⟨old,he⟩,⟨o,ho,r⟩⟩:=st;exact⟨⟨old,kk e (by simp) _ he⟩,⟨o,kk it (by simp) o ho,r⟩⟩
 item:=by
   intro X hP hw hK hc i pins s σ H E I hf st hg;subst hP hw hK;obtain⟨⟨old,he⟩,hit⟩:=st;obtain⟨xs,x,hq,hx⟩:=hg;obtain⟨its,rv,p,hz⟩:=I.tuple hq;have pt:s.heap.IsTuple a its.toArray:=p;obtain⟨u,hu,ru⟩:=rv.get hx;have hia:a≠it:=λz=>by
     subst z;obtain⟨o1,h1,c1,_⟩:=hit;obtain⟨o2,h2,c2,_⟩:=pt;rw[h1] at h2;cases h2;rw[c1] at c2;injection c2 with c2
     exact absurd c2 (by decide)
   have hea:e ∉ [it,a]:=λz=>by
     rcases List.mem_cons.mp z with z|z
     . exact hne z
     . have z:e=a:=by simpa using z
       subst z;obtain⟨o2,h2,c2,_⟩:=pt;rw[he] at h2;cases h2;injection (show Value.type "enumerate"=Value.type "tuple" from c2) with c2
       exact absurd c2 (by decide)
   have hlt:i<its.toArray.size:=by have:=(List.getElem?_eq_some_iff.mp hu).1;simpa using this
   refine wpAny_pyNext_enum_itemD (zlj (A:=X.A.in1) (I.ok.hd hc) it a hia its.toArray) he ⟨hit,pt⟩ hlt hne hea λy h' tk hy hout hst hT hsz hk=>?_;refine⟨_,rfl,wpAny_letOwnedTupleGo_enum hout λh2 he2 hs2=>?_⟩;have hs2:Heap.SameBut e h' h2:=hs2;have hyu:y=u:=by
     have hy:its.toArray[i]?=some y:=hy;have:its[i]?=some y:=by simpa using hy
     rw[hu] at this;exact(Option.some.inj this).symm
   subst hyu;have helt:e<s.heap.objs.size:=Heap.lt_size he;have hfr:H s.heap.objs.size=none:=I.hok.fresh (qae _);have hnS:s.heap.objs.size≠e:=qcc helt;have hT2:h2.get? s.heap.objs.size=some { cls:=.type "tuple",data:=.seq #[.int i tk,y] }:=(hs2.2 _ hnS).trans hT;refine⟨.ref s.heap.objs.size,upd H s.heap.objs.size (.tup [.int i,x]),I.turnLaid (t':=tk+1) (ch:=[e,it]) (λb o hb q=>?_) hf (qae _) ?_,rfl,⟨s.heap.objs.size,rfl,hfr,λxs' x' hq' hx'=>?_⟩,⟨⟨y,by exact_mod_cast he2⟩,?_⟩,λb hb=>?_⟩
   . have h1:b≠e:=λz=>hb (by simp [z]);have h3:b≠it:=λz=>hb (by simp [z]);exact(hs2.2 b h1).trans (hk b o h1 h3 q)
   . exact⟨by show 2<=sizeLine; decide,[.int i tk,y],.cons ⟨tk,rfl⟩ (.cons ru .nil),⟨_,hT2,rfl,_,rfl⟩⟩
   . have:=I.tuple_inj hq' hq;subst this;rw[hx] at hx';cases hx';rfl
   . obtain⟨⟨o,ho,r⟩,_⟩:=hst;exact⟨o,(hs2.2 it hne.symm).trans ho,r⟩
   . have hb0:=(hf b hb).1;rw[zag]
     . exact hb0
     . intro z;subst z;obtain⟨o,ho,_⟩:=hit;rcases List.mem_cons.mp hb with z|z
       . exact hnS z
       . have z:s.heap.objs.size=it:=by simpa using z
         exact absurd (Heap.lt_size ho) (by rw[<- z]; exact qbd _)
 done:=by
   intro X hP hw hK hc i pins s σ H E I hf st hg;subst hP hw hK;obtain⟨⟨old,he⟩,hit⟩:=st;obtain⟨xs,hq,hx⟩:=hg;obtain⟨its,rv,p,hz⟩:=I.tuple hq;have pt:s.heap.IsTuple a its.toArray:=p;have hl:=rv.length;have hia:a≠it:=λz=>by
     subst z;obtain⟨o1,h1,c1,_⟩:=hit;obtain⟨o2,h2,c2,_⟩:=pt;rw[h1] at h2;cases h2;rw[c1] at c2;injection c2 with c2
     exact absurd c2 (by decide)
   have hi:i=its.toArray.size:=by simp; omega
   refine wpAny_pyNext_enum_endD (zlj (A:=X.A.in1) (I.ok.hd hc) it a hia its.toArray) he (by rw[<- hi]; exact⟨hit,pt⟩) λh' eb=>⟨rfl,?_⟩
   exact I.turnedL (t':=s.toks) (ch:=[e,it]) (λb o hb q=>eb b o (λz=>hb (by simp [z])) q) hf
 self:=λ_ _ _ _ _ st h=>by obtain⟨⟨old,he⟩,_⟩:=st;exact wpAny_pyIter_enum he h
section
variable {X:Cx}
theorem zqz:bootBuiltins "enumerate"=some (.type "enumerate"):=zqi
def z3x (K:W.Frag) (ta:TA):TI:=λσ H R=>ta σ H λvs H1=>∃a,vs=[.ref a]/\(∃xs,SqT K H1 a xs)/\R (Ite K a) H1
theorem zs0 {a:Expr} {ta:TA} {p pos tpos:Pos} {elts:List Expr} {k:Nat} (hg:Gl X "enumerate") (hm:X.mg "enumerate"=none) (ha:PA X [a] ta) (hs:starEach [a] X.env=[(false,eval a X.env)]:=by rfl):PI X (.Tuple elts k tpos) (.Call (.Name "enumerate" p) [a] [] pos) (z3x X.K ta):=by
 intro pins s σ H R I h;refine Call_ (zlt I hg hm zqz (qbr (thn (ha pos pins s σ H _ I h) λus s1 ⟨vs,H1,I1,r1,q1⟩=>?_) hs rfl));obtain⟨a,e,⟨xs,hq⟩,q⟩:=q1;subst e;cases r1 with
 | cons r rr =>
   cases rr;cases r;obtain⟨its,rv,p,hz⟩:=I1.tuple hq;refine zl7 (show s1.heap.IsTuple a its.toArray from p) λh' he hit hk=>?_;refine wpAny_pyIter_enum he ?_;refine⟨s1.heap.objs.size+1,[s1.heap.objs.size+1,s1.heap.objs.size],_,_,H1,rfl,I1.kept (t':=s1.toks) hk,zvs a (s1.heap.objs.size+1) s1.heap.objs.size (Nat.succ_ne_self _),⟨⟨.none,he⟩,hit⟩,λb hb=>?_,q⟩;rcases List.mem_cons.mp hb with z|z
   . subst z;exact I1.fpOk (qcm _) (I1.hok.fresh (qcm _))
   . have z:b=s1.heap.objs.size:=by simpa using z
     subst z;exact I1.fpOk (qae _) (I1.hok.fresh (qae _))
theorem zrb {K:W.Frag} {a:Addr} {xs:List V} {g:TG} {tb:TS} {D:zje} {σ:St} {H:Hp} (Pv:Nat->St->Hp->Prop) (h0:Pv 0 σ H) (hl:∀i σ H,i<=xs.length->Pv i σ H->SqT K H a xs)
   (hs:∀i x σ H b,xs[i]?=some x->Pv i σ H->H b=none->g (.ref b) σ (upd H b (.tup [.int i,x])) λσ2 H2=>tb { D with nx:=Pv (i+1),ct:=Pv (i+1),bk:=D.nx } σ2 H2) (hd:∀σ H,Pv xs.length σ H->D.nx σ H) :
   ∃W:Nat->Nat->St->Hp->Prop,(∃m,W 0 m σ H)/\∀i m σ H,W i m σ H->((Ite K a).stop i H/\D.nx σ H)\/((Ite K a).go i H/\∃N:St->Hp->Prop,(∀σ' H',N σ' H'->∃m',m'<m/\W (i+1) m' σ' H')/\∀x H',(Ite K a).yld i H x H'->g x σ H' λσ2 H2=>tb { D with nx:=N,ct:=N,bk:=D.nx } σ2 H2):=by
 refine⟨λi m σ H=>m=xs.length - i/\i<=xs.length/\Pv i σ H,⟨xs.length,by simp,qa6 _,h0⟩,?_⟩;rintro i m σ H ⟨rfl,hi,p⟩;have q:=hl i σ H hi p;by_cases hlt:i<xs.length
 . refine .inr ⟨⟨xs,xs[i],q,by simp [hlt]⟩,Pv (i+1),λσ' H' p'=>⟨xs.length - (i+1),by omega,rfl,hlt,p'⟩,λx H' y=>?_⟩;obtain⟨b,rfl,hb,y⟩:=y;rw[y xs xs[i] q (by simp [hlt])];exact hs i xs[i] σ H b (by simp [hlt]) p hb
 . have e:i=xs.length:=by omega
   subst e;exact .inl ⟨⟨xs,q,rfl⟩,hd σ H p⟩
end
section
variable {X:Cx} {pins:List (Addr×Obj)} {σ:St} {H:Hp} {s:Shared}
theorem Inv.freeze {d:Addr} {kvs:List (Key×V)} (I:Inv X pins σ H s) (e:H d=some (.dK kvs)):∃o,s.heap.get? d=some o/\Inv X pins σ (upd H d (.frz o (.dK kvs))) s:=by
 obtain⟨z,hd,vs,rel,⟨o,es,ep,ho,r⟩⟩:=I.hok d _ e;refine⟨o,ho,?_⟩;have nd:∀b u,H b=some u->u≠.dK kvs->b≠d:=λb u q n z=>by subst z;rw[e] at q;cases q;exact n rfl
 refine I.step (g':=s.gens) (t':=s.toks) (d':=s.drawn) (h':=s.heap) (ch:=[]) (λ_ z=>nomatch z) (λb o _ _ _ q _=>q) (λb o _ _ _ q _=>⟨o.slots,q⟩) (λb o _ _ n=>?_) (λb o _ q=>⟨o,q⟩) (λb xs q=>?_) (λb o u q=>?_) (λb ps q=>⟨#[],?_⟩) (λm hm=>hm) (λb u q=>?_) I.bare
 . rw[zag (λz=>by subst z; rw[e] at n; cases n)];exact n
 . rw[zag (nd b _ q (by intro z; cases z))];exact q
 . rw[zag (nd b _ q (by intro z; cases z))];exact q
 . rw[zag (nd b _ q (by intro z; cases z)),q];simp
 . have own:∀c b,H c=some (.own b)->(upd H d (.frz o (.dK kvs))) c=some (.own b):=λc b q=>(zag (nd c _ q (by intro z; cases z))).trans q;have tup:∀c xs,H c=some (.tup xs)->(upd H d (.frz o (.dK kvs))) c=some (.tup xs):=λc xs q=>(zag (nd c _ q (by intro z; cases z))).trans q;by_cases hb:b=d
   . subst hb;rw[zac] at q;cases q;exact⟨ho,(I.hok _ _ e).stay (λ_ _ _ q=>q) (λc q=>own c _ q) tup⟩
   . rw[zag hb] at q;exact(I.hok b u q).stay (λ_ _ _ q=>q) (λc q=>own c _ q) tup
end
theorem zny:entryFor table "dict_itemiterator.__iter__"=some Builtin.«dict_keyiterator.__iter__»:=entryFor_alias (id':="dict_keyiterator.__iter__") (by kernel_rfl) (by first|rfl|decide +kernel|(unfold String.splitOn; simp +decide [String.splitOnAux])) (by decide +kernel) (by kernel_rfl)
def Itd (o:Obj) (d:Addr) (kvs:List (Key×V)):It :=
 ⟨λi H=>H d=some (.frz o (.dK kvs))/\i<kvs.length,λi H y H'=>∃b,y=.ref b/\H b=none/\∀kv,kvs[i]?=some kv->H'=upd H b (.tup [kV kv.1,kv.2]),λi H=>H d=some (.frz o (.dK kvs))/\i=kvs.length⟩
theorem zoa {X:Cx} {pins:List (Addr×Obj)} {σ:St} {H:Hp} {s:Shared} {o:Obj} {d:Addr} {kvs:List (Key×V)} (I:Inv X pins σ H s) (e:H d=some (.frz o (.dK kvs))) {es0:Array DictEntry} {ep:Nat} (hep:o.data=.dict es0 ep) :
   ∃vs,KV kvs vs/\s.heap.DictAt (zbe X.prog X.w) d vs ep:=by
 obtain⟨h1,z,hd,vs,rel,⟨o',es,ep',ho,hx,hdat,r⟩⟩:=I.hok d _ e;rw[h1] at ho;cases ho;rw[hep] at hdat;cases hdat;exact⟨vs,rel,o,es0,h1,hx,hep,r⟩
theorem zt4 {P:Program} {w:World} {K:W.Frag} {elts:List Expr} {k:Nat} {pos:Pos} (o:Obj) (d it:Addr) (kvs:List (Key×V)) (es0:Array DictEntry) (ep:Nat) (hep:o.data=.dict es0 ep) :
   Turn P w K (.Tuple elts k pos) (Itd o d kvs) [it] it (λi h=>∃ok ov,IsItemIter h it d i kvs.length ep ok ov) where
 mem:=by simp
 obj:=λi h st b hb=>by
   obtain⟨ok,ov,he⟩:=st;have z:b=it:=by simpa using hb
   subst z;exact⟨_,he,λv z=>by cases (show Data.fields _=Data.cell v from z)⟩
 keep:=λi h h' st kk=>by obtain⟨ok,ov,he⟩:=st;exact⟨ok,ov,kk it (by simp) _ he⟩
 item:=by
   intro X hP hw hK hc i pins s σ H E I hf st hg;subst hP hw hK;obtain⟨ok,ov,he⟩:=st;obtain⟨hfz,hi⟩:=hg;obtain⟨vs,rel,hD⟩:=zoa I hfz hep;have hlen:kvs.length=vs.length:=KV.length rel;have hi':i<vs.length:=by omega
   have rk:kvs[i].1=vs[i].1/\zc4 kvs[i].2 vs[i].2:=zib rel hi hi';refine wpAny_pyNext_items_item (knd:=zbe X.prog X.w) (k:=vs[i].1) (v:=vs[i].2) (kvs:=vs) (by rw[<- hlen]; exact he) hD (by simp [hi']) λkey h' hkey hout hT hsz hk=>?_;refine⟨_,rfl,wpAny_letOwnedTupleGo_items hout λh2 he2 hs2=>?_⟩;have hs2:Heap.SameBut it h' h2:=hs2;have hilt:it<s.heap.objs.size:=Heap.lt_size he;have hnS:s.heap.objs.size≠it:=qcc hilt;have hfr:H s.heap.objs.size=none:=I.hok.fresh (qae _);have hT2:h2.get? s.heap.objs.size=some { cls:=.type "tuple",data:=.seq #[key,vs[i].2] }:=(hs2.2 _ hnS).trans hT;refine⟨.ref s.heap.objs.size,upd H s.heap.objs.size (.tup [kV kvs[i].1,kvs[i].2]),I.turnLaid (t':=s.toks) (ch:=[it]) (λb o hb q=>?_) hf (qae _) ?_,rfl,⟨s.heap.objs.size,rfl,hfr,λkv hkv=>?_⟩,⟨_,_,by rw[hlen]; exact he2⟩,λb hb=>?_⟩
   . have h1:b≠it:=λz=>hb (by simp [z]);exact(hs2.2 b h1).trans (hk b o h1 q)
   . exact⟨by show 2<=sizeLine; decide,[key,vs[i].2],.cons (by rw[rk.1]; exact zvo hkey) (.cons rk.2 .nil),⟨_,hT2,rfl,_,rfl⟩⟩
   . have:kvs[i]=kv:=by simpa [hi] using hkv
     rw[<- this]
   . have z:b=it:=by simpa using hb
     subst z;rw[zag hnS.symm];exact(hf _ hb).1
 done:=by
   intro X hP hw hK hc i pins s σ H E I hf st hg;subst hP hw hK;obtain⟨ok,ov,he⟩:=st;obtain⟨hfz,hi⟩:=hg;obtain⟨vs,rel,hD⟩:=zoa I hfz hep;have hlen:kvs.length=vs.length:=KV.length rel;refine wpAny_pyNext_items_end (knd:=zbe X.prog X.w) (kvs:=vs) (I.ok.hd hc) (by rw[<- hlen]; exact he) hD (by simp; omega) λh' eb=>⟨rfl,?_⟩
   exact I.turnedL (t':=s.toks) (ch:=[it]) (λb o hb q=>eb b o (λz=>hb (by simp [z])) q) hf
 self:=λA i s Q E st h=>by
   obtain⟨ok,ov,he⟩:=st;have hT:s.TypeIs (.ref it) "dict_itemiterator":=⟨_,he,rfl⟩
   exact wpAny_pyIter_slot hT qdc (wpAny_call_entry qdc hT zny (show wpAny _ _ (ret (.ref it)) _ _ s from wpAny_pure ⟨_,rfl,"dict_itemiterator",_,hT,F.slot_dict_itemiterator_next.lookup,h⟩) (F.args_dict_itemiterator_iter_1 _))
section
variable {X:Cx}
def z40 (td:TE):TI:=λσ H R=>td σ H λx H1=>∃d kvs,x=.ref d/\((H1 d=some (.dK kvs)/\∀o,R (Itd o d kvs) (upd H1 d (.frz o (.dK kvs))))\/∃o,H1 d=some (.frz o (.dK kvs))/\R (Itd o d kvs) H1)
theorem zto {l:Expr} {td:TE} {apos cpos tpos:Pos} {elts:List Expr} {k:Nat} (hl:PE X l td) (hbase:attributeBase l "items" X.env (eval l X.env)=eval l X.env:=by rfl) (hline:(apos.endLine==cpos.line)=true:=by rfl) :
   PI X (.Tuple elts k tpos) (.Call (.Attribute l "items" apos) [] [] cpos) (z40 td):=by
 intro pins s σ H R I h;refine wpAny_Call_method0_late hbase hline (thn (hl pins s σ H _ I h) λv s1 ⟨x,H1,I1,r1,q1⟩=>?_);obtain⟨d,kvs,rfl,q1⟩:=q1;cases r1;have key:∃o H2,Inv X pins σ H2 s1/\H2 d=some (.frz o (.dK kvs))/\R (Itd o d kvs) H2:=by
   rcases q1 with⟨e,q⟩|⟨o,e,q⟩
   . obtain⟨o,ho,I2⟩:=I1.freeze e;exact⟨o,_,I2,zac,q o⟩
   . exact⟨o,H1,I1,e,q⟩
 obtain⟨o,H2,I2,e2,q⟩:=key;obtain⟨ho,z,hd,vs,rel,dd⟩:=I2.hok d _ e2;obtain⟨o',es,ep,ho',hx,hdat,r⟩:=id dd;rw[ho] at ho';cases ho';refine⟨"dict","dict.items",qcz,qdz,PySem.F.type_dict_items,dd.typeIs,λb q=>?_,Calls.callWith_builtin rfl (PySem.evalArgs_none ?_)⟩
 . cases q;exact⟨o,ho,hx.2.1⟩
 refine call_meetsIn qdz dd.typeIs PySem.F.entry_dict_items (PySem.F.args_dict_items_1 _) (meets_dict_items (zbe X.prog X.w) d hd) ⟨⟨vs,dd⟩,?_⟩;have I3:Inv X pins σ H2 { s1 with heap:=s1.heap.push { cls:=.type "dict_items",data:=.fields #[.ref d] } }:=I2.kept (t':=s1.toks) λb o e=>Heap.get?_push_of_some _ e;obtain⟨vs3,rel3,hD3⟩:=zoa I3 e2 hdat;refine wpAny_pyIter_items (knd:=zbe X.prog X.w) (kvs:=vs3) (ep:=ep) ⟨_,qap _ rfl,rfl,rfl⟩ hD3 ?_;have hlen:kvs.length=vs3.length:=KV.length rel3;rw[<- hlen];generalize hh3:s1.heap.push { cls:=.type "dict_items",data:=.fields #[.ref d] }=h3 at I3 ⊢;refine⟨h3.objs.size,[h3.objs.size],_,_,H2,rfl,I3.kept (t':=s1.toks) λb o e=>Heap.get?_push_of_some _ e,zt4 o d h3.objs.size kvs es ep hdat,⟨_,_,qap _ rfl⟩,λb hb=>?_,q⟩;have z:b=h3.objs.size:=by simpa using hb
 subst z;exact I3.fpOk (qae _) (I3.hok.fresh (qae _))
theorem zq4 {o:Obj} {d:Addr} {kvs:List (Key×V)} {g:TG} {tb:TS} {D:zje} {σ:St} {H:Hp} (Pv:Nat->St->Hp->Prop) (h0:Pv 0 σ H) (hl:∀i σ H,i<=kvs.length->Pv i σ H->H d=some (.frz o (.dK kvs)))
   (hs:∀i kv σ H b,kvs[i]?=some kv->Pv i σ H->H b=none->g (.ref b) σ (upd H b (.tup [kV kv.1,kv.2])) λσ2 H2=>tb { D with nx:=Pv (i+1),ct:=Pv (i+1),bk:=D.nx } σ2 H2) (hd:∀σ H,Pv kvs.length σ H->D.nx σ H) :
   ∃W:Nat->Nat->St->Hp->Prop,(∃m,W 0 m σ H)/\∀i m σ H,W i m σ H->((Itd o d kvs).stop i H/\D.nx σ H)\/((Itd o d kvs).go i H/\∃N:St->Hp->Prop,(∀σ' H',N σ' H'->∃m',m'<m/\W (i+1) m' σ' H')/\∀x H',(Itd o d kvs).yld i H x H'->g x σ H' λσ2 H2=>tb { D with nx:=N,ct:=N,bk:=D.nx } σ2 H2):=by
 refine⟨λi m σ H=>m=kvs.length - i/\i<=kvs.length/\Pv i σ H,⟨kvs.length,by simp,qa6 _,h0⟩,?_⟩;rintro i m σ H ⟨rfl,hi,p⟩;have q:=hl i σ H hi p;by_cases hlt:i<kvs.length
 . refine .inr ⟨⟨q,hlt⟩,Pv (i+1),λσ' H' p'=>⟨kvs.length - (i+1),by omega,rfl,hlt,p'⟩,λx H' y=>?_⟩;obtain⟨b,rfl,hb,y⟩:=y;rw[y kvs[i] (by simp [hlt])];exact hs i kvs[i] σ H b (by simp [hlt]) p hb
 . have e:i=kvs.length:=by omega
   subst e;exact .inl ⟨⟨q,rfl⟩,hd σ H p⟩
end
section
variable {X:Cx} {o e f:Expr} {apos cpos:Pos} {td ty tx:TE}
def z4k (td ty tx:TE):TE:=λσ H Q=>td σ H λx H1=>∃a,x=.ref a/\IsD H1 a/\ty σ H1 λy H2=>tx σ H2 λz H3=>∃kvs k,H3 a=some (.dK kvs)/\y=kV k/\kvs.length<sizeLine /\
 (∀v,zcx kvs k=some v->Q v H3)/\(zcx kvs k=none->Q z (upd H3 a (.dK (zbd kvs k z))))
theorem zz1 (ho:PE X o td) (he:PE X e ty) (hf:PE X f tx) (m:M2 X o "setdefault" apos e f cpos):PE X (.Call (.Attribute o "setdefault" apos) [e,f] [] cpos) (z4k td ty tx):=by
 intro pins s σ H Q I h;refine wpAny_Call_method m.base m.few m.line qcz qdj PySem.F.type_dict_setdefault (thn (ho pins s σ H _ I h) λu s1 ⟨x,H1,I1,rx,a,ex,d,q1⟩=>?_);subst ex;obtain rfl:u=Value.ref a:=rx;obtain⟨t1,t2,_⟩:=z0i I1 d;refine⟨t1,t2,?_⟩;rw[m.trees];refine Calls.callWith_builtin rfl (Calls.evalArgs_plain (Calls.spliced_cons (thn (he pins s1 σ H1 _ I1 q1) λiv s2 ⟨y,H2,I2,ry,q2⟩=>Calls.spliced_cons (thn (hf pins s2 σ H2 _ I2 q2) λfv s3 ⟨z,H3,I3,rz,kvs,k,ea,ey,hl,q3,q4⟩=>Calls.spliced_nil ?_))));subst ey;obtain⟨hz,hd,vs,rel,dd⟩:=zvh I3.hok ea;refine call_meetsIn qdj dd.typeIs PySem.F.entry_dict_setdefault (PySem.F.args_dict_setdefault_3 _ _ _) (kt_meets_setdefault (zbe X.prog X.w) a (zpj ry) hd fv) ⟨vs,dd,by rw[<- rel.length]; exact hz,λv hv=>?_,λhn h' dd' hs=>?_⟩
 . have rv:=rel.val k;rw[hv] at rv;cases l:zcx kvs k with
   | none=>rw[l] at rv; exact absurd rv (by intro z; cases z)
   | some v' =>
     rw[l] at rv;exact⟨v',H3,I3.tok _,rv,q3 v' l⟩
 . have rv:=rel.val k;rw[hn] at rv;have l:zcx kvs k=none:=by
     cases l:zcx kvs k with
     | none=>rfl
     | some v'=>rw[l] at rv; exact absurd rv (by intro z; cases z)
   have hex:∃q,h'.get? a=some q:=let ⟨q,_,_,hq,_⟩:=dd'; ⟨q,hq⟩
   have hlp:(zbd kvs k z).length<=sizeLine:=by have:=zbi kvs k z; omega
   exact⟨z,_,zmv I3 (by rw[ea]; exact True.intro) hs hex (ztp hlp hd (rel.put k rz) dd'),rz,q4 l⟩
end
def Itn (hi:Int) (n:Nat):It:=⟨λi _=>i<n,λi H x H'=>H'=H/\x=.int (hi - i),λi _=>n<=i⟩
theorem zxo {P:Program} {w:World} {K:W.Frag} {tg:Expr} (it:Addr) (hi:Int) (n:Nat):Turn P w K tg (Itn hi n) [it] it (λi h=>IsRangeIter h it (hi+(i:Nat) * (-1)) ((n:Int) - (i:Nat)) (-1)) where
 mem:=by simp
 obj:=λi h st b hb=>by
   have e:b=it:=by simpa using hb
   subst e;exact⟨_,st,λv z=>by cases (show Data.fields _=Data.cell v from z)⟩
 keep:=λi h h' st k=>k it (by simp) _ st
 item:=by
   intro X hP hw hK hc i pins s σ H E I hf st hg;subst hP hw hK;refine(Walks.range (prog:=X.prog) (w:=X.w) (I.ok.hd hc) it hi (-1) n).item i s _ _ hg st λv h' tk hv st' kk=>?_;obtain⟨t,rfl⟩:=hv;have I1:Inv X pins σ H { s with heap:=h',toks:=tk }:=I.turnedL (ch:=[it]) (λb o hb e=>kk b o hb e) hf;have e:hi+(i:Int) * (-1)=hi - (i:Int):=by omega
   exact⟨_,rfl,zyk (s:={ s with heap:=h',toks:=tk }) (n:="range_iterator") st' rfl rfl (by decide) ⟨.int (hi - i),H,I1,⟨t,by rw[e]⟩,⟨rfl,rfl⟩,st',λb hb=>(hf b hb).1⟩⟩
 done:=by intro X hP hw hK hc i pins s σ H E I hf st hg;subst hP hw hK;exact wpAny_pyNext_range_end (I.ok.hd hc) st (by have:n<=i:=hg; omega) λh' eb=>⟨rfl,I.turnedL (t':=s.toks) (ch:=[it]) (λb o hb e=>eb b o (λz=>hb (by simp [z])) e) hf⟩
 self:=λ_ _ _ _ _ st h=>wpAny_pyIter_rangeiter st h
theorem zjd (a b:Int):Builtin.Range.rangeSize a b (-1)=if b<a then a - b else 0:=by
 unfold Builtin.Range.rangeSize;rw[if_neg (by decide)];have:(-(-1):Int)=1:=by decide
 rw[this];rw[Int.ediv_one];by_cases h:b<a
 . rw[if_pos h,if_pos h]; omega
 . rw[if_neg h,if_neg h]
theorem zut {a b:Int} (ha:-(2 ^ 60)<=a) (ha':a<2 ^ 60) (hb:-(2 ^ 60)<=b) (hb':b<2 ^ 60):Builtin.Range.small a b (-1)=true:=by
 unfold Builtin.Range.small;rw[zjd];simp only[Builtin.Range.rangeFitsLong,qa1,Bool.or_eq_true,decide_eq_true_eq,beq_iff_eq,show ¬ ((-1:Int) > 0) by decide,if_false];by_cases h:b<a
 . simp only[if_pos h]; omega
 . simp only[if_neg h]; omega
section
variable {X:Cx} {tg:Expr}
def z6i (ta:TA):TI:=λσ H R=>ta σ H λvs H1=>∃i j:Int,vs=[.int i,.int j,.int (-1)]/\(-(2 ^ 60)<=i/\i<2 ^ 60/\-(2 ^ 60)<=j/\j<2 ^ 60)/\R (Itn i (i - j).toNat) H1
theorem z01 {a b c:Expr} {ta:TA} {p pos:Pos} (hg:Gl X "range") (hm:X.mg "range"=none) (ha:PA X [a,b,c] ta) (hs:starEach [a,b,c] X.env=(false,eval a X.env) :: starEach [b,c] X.env:=by rfl) (hs2:(backTo pos (starEach [b,c] X.env)).any (·.1)=false:=by rfl) :
   PI X tg (.Call (.Name "range" p) [a,b,c] [] pos) (z6i ta):=by
 intro pins s σ H R I h;refine Call_ (zlt I hg hm boot_range (qbr (thn (ha pos pins s σ H _ I h) λus s1 ⟨vs,H1,I1,r1,q1⟩=>?_) hs hs2));obtain⟨i,j,e,⟨q1,q2,q3,q4⟩,q⟩:=q1;subst e;cases r1 with
 | cons r rr =>
   cases rr with
   | cons r' rr =>
     cases rr with
     | cons r'' rr =>
       cases rr;obtain⟨t,rfl⟩:=r;obtain⟨t',rfl⟩:=r';obtain⟨t'',rfl⟩:=r'';refine call_range_3 (by decide) ?_ (.inl (PyProof.noPylong_small (by omega)));refine wpAny_pyIter_range (IsRange.new ..) (zut q1 q2 q3 q4) ?_;have I2:Inv X pins σ H1 { s1 with heap:=s1.heap.push { cls:=.type "range",data:=.fields #[.int i t,.int j t',.int (-1) t''] },toks:=s1.toks }:=I1.kept λb o e=>Heap.get?_push_of_some _ e;refine⟨_,[(s1.heap.push { cls:=.type "range",data:=.fields #[.int i t,.int j t',.int (-1) t''] }).objs.size],_,_,H1,rfl,I2.kept (t':=s1.toks) λb o e=>Heap.get?_push_of_some _ e,zxo _ i (i - j).toNat,?_,λb hb=>?_,q⟩
       . have e1:i+((0:Nat):Int) * (-1)=i:=by omega
         have e2:(((i - j).toNat:Nat):Int) - ((0:Nat):Int)=Builtin.Range.rangeSize i j (-1):=by rw[zjd]; split <;> omega
         show IsRangeIter _ _ (i+((0:Nat):Int) * (-1)) ((((i - j).toNat:Nat):Int) - ((0:Nat):Int)) (-1);rw[e1,e2];exact qap _ rfl
       . have e:b=(s1.heap.push { cls:=.type "range",data:=.fields #[.int i t,.int j t',.int (-1) t''] }).objs.size:=by simpa using hb
         subst e;exact I2.fpOk (qae _) (I2.hok.fresh (qae _))
theorem zz2 {hi:Int} {n:Nat} {g:TG} {tb:TS} {D:zje} {σ:St} {H:Hp} (Pv:Nat->St->Hp->Prop) (h0:Pv 0 σ H) (hs:∀i σ H,i<n->Pv i σ H->g (.int (hi - i)) σ H λσ2 H2=>tb { D with nx:=Pv (i+1),ct:=Pv (i+1),bk:=D.nx } σ2 H2) (hd:∀σ H,Pv n σ H->D.nx σ H) :
   ∃W:Nat->Nat->St->Hp->Prop,(∃m,W 0 m σ H)/\∀i m σ H,W i m σ H->((Itn hi n).stop i H/\D.nx σ H)\/((Itn hi n).go i H/\∃N:St->Hp->Prop,(∀σ' H',N σ' H'->∃m',m'<m/\W (i+1) m' σ' H')/\∀x H',(Itn hi n).yld i H x H'->g x σ H' λσ2 H2=>tb { D with nx:=N,ct:=N,bk:=D.nx } σ2 H2):=by
 refine⟨λi m σ H=>m=n - i/\i<=n/\Pv i σ H,⟨n,by simp,qa6 _,h0⟩,?_⟩;rintro i m σ H ⟨rfl,hi',p⟩;by_cases hlt:i<n
 . refine .inr ⟨hlt,Pv (i+1),λσ' H' p'=>⟨n - (i+1),by omega,rfl,hlt,p'⟩,λx H' y=>?_⟩;obtain⟨e,y⟩:=y;subst e y;exact hs i σ _ hlt p
 . have e:i=n:=by omega
   subst e;exact .inl ⟨qae _,hd σ H p⟩
end
theorem zsc {X:Cx} {st:Stmt} {rest:List Stmt} {t u:TS} (h1:PS X st t) (h2:PSs X rest u):PSs X (st :: rest) (λD σ H=>∃M:St->Hp->Prop,t { D with nx:=M } σ H/\∀σ' H',M σ' H'->u D σ' H'):=by
 intro pins s σ H D I h;obtain⟨M,h,hm⟩:=h;refine wpAny_execs_cons (thn (h1 pins s σ H { D with nx:=M } I h) λf s1 q=>?_);cases f with
 | next =>
   obtain⟨σ',H',I',q⟩:=q;exact h2 pins s1 σ' H' D I' (hm _ _ q)
 | ret v=>exact q
 | brk=>exact q
 | cont=>exact q
def z30 (K:W.Frag):R2:=λx y H Q=>∃a b xs,x=.ref a/\y=.ref b/\SqL K H a xs/\SqL K H b []/\Q (.bl (decide (xs=[]))) H
theorem zss {X:Cx} (hu:X.A.units+64<cLine):OpR X (compareOp .Eq) (z30 X.K):=by
 intro pins s σ H x y v u Q I rx ry h;obtain⟨a,b,xs,rfl,rfl,hA,hB,q⟩:=h;cases rx;cases ry;obtain⟨its,r1,p1,_⟩:=I.list hA;obtain⟨its2,r2,p2,_⟩:=I.list hB;have e2:its2=[]:=r2.nil_iff.mpr rfl;subst e2;by_cases hx:xs=[]
 . have e1:its=[]:=r1.nil_iff.mpr hx;subst e1;refine SeqAt.eq_listAt (e:=λ_=>true) p1.isList p2.isList rfl (by omega) (λi h=>absurd h (qcw i)) ?_;rw[decide_eq_true hx] at q;exact⟨.bl true,H,I,rfl,q⟩
 . have hne:(its.toArray.size != ([]:List Value).toArray.size)=true:=by
     have:its≠[]:=λz=>hx (r1.nil_iff.mp z);cases its with
     | nil=>exact absurd rfl this
     | cons a b=>rfl
   refine SeqAt.eq_list_lengthsAt p1.isList p2.isList hne (by omega) ?_;rw[decide_eq_false hx] at q;exact⟨.bl false,H,I,rfl,q⟩
def Lay (n:Nat) (d:PyData):Prop:=PyData.canLay0 d=true/\PyData.depth d<=n
theorem Lay.int {n:Nat} (i:Int):Lay n (.int i):=⟨by unfold PyData.canLay0; rfl,by unfold PyData.depth; exact qa6 _⟩
theorem Lay.str {n:Nat} {x:Str} (h:PyData.strOk x=true):Lay n (.str x):=⟨by unfold PyData.canLay0; exact h,by unfold PyData.depth; exact qa6 _⟩
theorem z51 {n:Nat}:∀{ds:List PyData},(∀d∈ds,Lay n d)->PyData.canLayAll0 ds=true/\PyData.depthAll ds<=n
 | [],_=>⟨by unfold PyData.canLayAll0; rfl,by unfold PyData.depthAll; exact qa6 _⟩
 | d :: ds,h=>by
   have h1:=h d List.mem_cons_self;have h2:=z51 (λx hx=>h x (List.mem_cons_of_mem _ hx));constructor
   . unfold PyData.canLayAll0; rw[h1.1,h2.1]; rfl
   . unfold PyData.depthAll; exact Nat.max_le.mpr ⟨h1.2,h2.2⟩
theorem Lay.list {n:Nat} {ds:List PyData} (h:∀d∈ds,Lay n d):Lay (n+1) (.list ds):=by have h2:=z51 h;exact⟨by unfold PyData.canLay0; exact h2.1,by unfold PyData.depth; have:=h2.2; omega⟩
theorem Lay.tuple {n:Nat} {ds:List PyData} (h:∀d∈ds,Lay n d):Lay (n+1) (.tuple ds):=by have h2:=z51 h;exact⟨by unfold PyData.canLay0; exact h2.1,by unfold PyData.depth; have:=h2.2; omega⟩
theorem Lay.shaped {n:Nat} {d:PyData} (h:Lay n d) (hn:n<=64):SeqAt.shaped d=true:=by unfold SeqAt.shaped;rw[h.1,decide_eq_true (Nat.le_trans h.2 hn)];rfl
theorem Lay.refl {n:Nat} {d:PyData} (h:Lay n d):PyData.eqv d d=true:=SeqAt.eqv_refl d h.1
theorem zva {K:W.Frag} {x y:V} {H:Hp} {Q:VK} {d:PyData} {n:Nat} (hn:n<=64) (l:Lay n d) (hx:zhy K H d x) (hy:zhy K H d y) (q:Q (.bl true) H):rEqD K x y H Q :=
 ⟨d,d,hx,hy,l.shaped hn,l.shaped hn,by rw[l.refl]; exact q⟩
theorem zw9 {K:W.Frag} {x y:V} {H:Hp} {Q:VK} {d:PyData} {n:Nat} (hn:n<=64) (l:Lay n d) (hx:zhy K H d x) (hy:zhy K H d y) (q:Q (.bl false) H):rNeD K x y H Q :=
 ⟨d,d,hx,hy,l.shaped hn,l.shaped hn,by rw[l.refl]; exact q⟩
mutual
theorem zhy.mono {K:W.Frag} {H H':Hp} (e:zan H H'):∀(d:PyData) (v:V),zhy K H d v->zhy K H' d v
 | .none,v,h=>by unfold zhy at h ⊢; exact h
 | .bool b,v,h=>by unfold zhy at h ⊢; exact h
 | .int i,v,h=>by unfold zhy at h ⊢; exact h
 | .str x,v,h=>by unfold zhy at h ⊢; exact h
 | .list ds,v,h=>by unfold zhy at h ⊢;obtain⟨a,xs,rfl,hq,hd⟩:=h;exact⟨a,xs,rfl,e.seq hq,zdk.mono e ds xs hd⟩
 | .tuple ds,v,h=>by unfold zhy at h ⊢;obtain⟨a,xs,rfl,hq,hd⟩:=h;exact⟨a,xs,rfl,e.tup hq,zdk.mono e ds xs hd⟩
 | .dict _,v,h=>by unfold zhy at h; exact h.elim
theorem zdk.mono {K:W.Frag} {H H':Hp} (e:zan H H'):∀(ds:List PyData) (xs:List V),zdk K H ds xs->zdk K H' ds xs
 | [],xs,h=>by unfold zdk at h ⊢; exact h
 | d :: ds,xs,h=>by unfold zdk at h ⊢;obtain⟨x,r,rfl,hd,hds⟩:=h;exact⟨x,r,rfl,zhy.mono e d x hd,zdk.mono e ds r hds⟩
end
def ers (l:Addr) (H:Hp):Hp:=λb=>if b=l then none else H b
theorem zct {l b:Addr} {H:Hp} (h:b≠l):ers l H b=H b:=by unfold ers; rw[if_neg h]
theorem zhq {l:Addr} {H:Hp}:zan (ers l H) H:=λb o h=>by
 unfold ers at h;split at h
 . cases h
 . exact h
theorem zan.ers {l:Addr} {H H':Hp} (e:zan H H'):zan (ers l H) (ers l H'):=λb o h=>by
 unfold L2.ers at h ⊢;split at h
 . cases h
 . rename_i hb
   rw[if_neg hb];exact e b o h
end L2
namespace Gx
open PySem L2
theorem le0:0<=sizeLine:=by decide
theorem le1:1<=sizeLine:=by decide
theorem le2:2<=sizeLine:=by decide
theorem le3:3<=sizeLine:=by decide
theorem le4:4<=sizeLine:=by decide
theorem le5:5<=sizeLine:=by decide
theorem at0 {x:V} {r:List V}:atI (x :: r) 0=some x:=by unfold atI ixN;rw[if_pos (by decide),if_pos (by simp)];rfl
theorem vq {Q:VK} {H:Hp} {x y:V} (h:x=y) (q:Q y H):Q x H:=by subst h; exact q
theorem zc9 (z n:Int) (h:0<n):0<=z%n/\z%n<n:=⟨Int.emod_nonneg _ (by omega),Int.emod_lt_of_pos _ h⟩
theorem zj7 {α:Type} {es:List α} {f:α->V} {i:Nat} {x:V} (h:(es.map f)[i]?=some x):∃e,es[i]?=some e/\e∈es/\x=f e:=by
 rw[List.getElem?_map] at h;cases he:es[i]? with
 | none=>rw[he] at h; cases h
 | some e=>rw[he] at h; cases h; exact⟨e,rfl,List.mem_of_getElem? he,rfl⟩
end Gx
namespace L2
open PySem PySem.Spec PyProof.Rows
def tTru (K:W.Frag) (ta:TE):TT:=λσ H Q=>ta σ H λx H'=>∃k,z5s K x H' k/\Q k H'
theorem z42 {X:Cx} {K:W.Frag} {a:Expr} {ta:TE} (hK:X.K=K) (ha:PE X a ta) (he:∀whole,isTrue a X.env whole=(do let v <- whole; standAt a.pos; holding [v] (truthy v))):PT X a (tTru K ta):=by subst hK;exact zyr ha he
end L2
namespace Gx
open PySem L2
def tx (l:List Nat):Str:=⟨l.toArray⟩
theorem zku (l:List Nat):(tx l).cps.toList=l:=by unfold tx; simp
theorem zkd (l:List Nat):(tx l).length=l.length:=by unfold tx Str.length; simp
theorem z3w (a b:List Nat):tx a++tx b=tx (a++b):=by show(⟨_++_⟩:Str)=_;unfold tx;simp
theorem z4b {a b:List Nat} (h:tx a=tx b):a=b:=by rw[<- zku a,h,zku]
theorem zyz {l:List Nat} {i j:Int} (h0:0<=i) (h1:i<=j) (h2:j<=l.length):Txt.slice (tx l) (some i) (some j)=tx ((l.drop i.toNat).take (j - i).toNat):=by have:=PyProof.Rows.slice_closes (x:=tx l) (i:=i) (j:=j) ⟨h0,h1,by rw[zku]; exact h2⟩;rw[beq_iff_eq,zku] at this;exact this
theorem zv6 (y:Str) (ys:List Str):PySem.Txt.join "" (y :: ys)=y++PySem.Txt.join "" ys:=by
 show PySem.Builtin.Str.glued ("":Str) (y :: ys)=y++PySem.Builtin.Str.glued ("":Str) ys;rw[PySem.StrLaws.glued_eq_join,PySem.StrLaws.glued_eq_join];cases ys with
 | nil =>
   show y=y++Str.empty;cases y;show _=(⟨_++#[]⟩:Str);simp
 | cons z zs =>
   show y++""++Str.join "" (z :: zs)=_;have:y++("":Str)=y:=by cases y;show(⟨_++#[]⟩:Str)=_;simp
   rw[this]
theorem zwa:∀(ls:List (List Nat)),PySem.Txt.join "" (ls.map tx)=tx ls.flatten
 | []=>by show PySem.Builtin.Str.glued ("":Str) []=_;rw[PySem.StrLaws.glued_eq_join];rfl
 | l :: ls=>by rw[qaz,zv6,zwa ls,z3w,qck]
end Gx
namespace L2
open PySem PySem.Spec PyProof.Rows
def ItE (K:W.Frag) (a:Addr):It :=
 ⟨λi H=>∃xs x,SqL K H a xs/\xs[i]?=some x,λi H y H'=>∃b,y=.ref b/\H b=none/\∀xs x,SqL K H a xs->xs[i]?=some x->H'=upd H b (.tup [.int i,x]),λi H=>∃xs,SqL K H a xs/\xs.length=i⟩
theorem zt7 {P:Program} {w:World} {K:W.Frag} {elts:List Expr} {k:Nat} {pos:Pos} (a e it:Addr) (hne:e≠it):Turn P w K (.Tuple elts k pos) (ItE K a) [e,it] e (λi h=>(∃old,IsEnum h e it i old)/\h.IsListIter it a i) where
 mem:=by simp
 obj:=λi h st b hb=>by
   obtain⟨⟨old,he⟩,⟨o,ho,hc,hd⟩⟩:=st;rcases List.mem_cons.mp hb with z|z
   . subst z;exact⟨_,he,λv z=>by cases (show Data.fields _=Data.cell v from z)⟩
   . have z:b=it:=by simpa using z
     subst z;exact⟨o,ho,λv z=>by rw[hd] at z; cases z⟩
 keep:=λi h h' st kk=>by obtain⟨⟨old,he⟩,⟨o,ho,r⟩⟩:=st;exact⟨⟨old,kk e (by simp) _ he⟩,⟨o,kk it (by simp) o ho,r⟩⟩
 item:=by
   intro X hP hw hK hc i pins s σ H E I hf st hg;subst hP hw hK;obtain⟨⟨old,he⟩,hit⟩:=st;obtain⟨xs,x,hq,hx⟩:=hg;obtain⟨its,rv,p,hz⟩:=I.list hq;have pt:s.heap.IsList a its.toArray:=p.isList;obtain⟨u,hu,ru⟩:=rv.get hx;have hia:a≠it:=λz=>by
     subst z;obtain⟨o1,h1,c1,_⟩:=hit;obtain⟨o2,h2,c2,_⟩:=pt;rw[h1] at h2;cases h2;rw[c1] at c2;injection c2 with c2
     exact absurd c2 (by decide)
   have hea:e ∉ [it,a]:=λz=>by
     rcases List.mem_cons.mp z with z|z
     . exact hne z
     . have z:e=a:=by simpa using z
       subst z;obtain⟨o2,h2,c2,_⟩:=pt;rw[he] at h2;cases h2;injection (show Value.type "enumerate"=Value.type "list" from c2) with c2
       exact absurd c2 (by decide)
   have hlt:i<its.toArray.size:=by have:=(List.getElem?_eq_some_iff.mp hu).1;simpa using this
   refine wpAny_pyNext_enum_itemD (Draws.list (A:=X.A.in1) (I.ok.hd hc) it a hia its.toArray) he ⟨hit,pt⟩ hlt hne hea λy h' tk hy hout hst hT hsz hk=>?_;refine⟨_,rfl,wpAny_letOwnedTupleGo_enum hout λh2 he2 hs2=>?_⟩;have hs2:Heap.SameBut e h' h2:=hs2;have hyu:y=u:=by
     have hy:its.toArray[i]?=some y:=hy;have:its[i]?=some y:=by simpa using hy
     rw[hu] at this;exact(Option.some.inj this).symm
   subst hyu;have helt:e<s.heap.objs.size:=Heap.lt_size he;have hfr:H s.heap.objs.size=none:=I.hok.fresh (qae _);have hnS:s.heap.objs.size≠e:=qcc helt;have hT2:h2.get? s.heap.objs.size=some { cls:=.type "tuple",data:=.seq #[.int i tk,y] }:=(hs2.2 _ hnS).trans hT;refine⟨.ref s.heap.objs.size,upd H s.heap.objs.size (.tup [.int i,x]),I.turnLaid (t':=tk+1) (ch:=[e,it]) (λb o hb q=>?_) hf (qae _) ?_,rfl,⟨s.heap.objs.size,rfl,hfr,λxs' x' hq' hx'=>?_⟩,⟨⟨y,by exact_mod_cast he2⟩,?_⟩,λb hb=>?_⟩
   . have h1:b≠e:=λz=>hb (by simp [z]);have h3:b≠it:=λz=>hb (by simp [z]);exact(hs2.2 b h1).trans (hk b o h1 h3 q)
   . exact⟨by show 2<=sizeLine; decide,[.int i tk,y],.cons ⟨tk,rfl⟩ (.cons ru .nil),⟨_,hT2,rfl,_,rfl⟩⟩
   . have:=I.list_inj hq' hq;subst this;rw[hx] at hx';cases hx';rfl
   . obtain⟨⟨o,ho,r⟩,_⟩:=hst;exact⟨o,(hs2.2 it hne.symm).trans ho,r⟩
   . have hb0:=(hf b hb).1;rw[zag]
     . exact hb0
     . intro z;subst z;obtain⟨o,ho,_⟩:=hit;rcases List.mem_cons.mp hb with z|z
       . exact hnS z
       . have z:s.heap.objs.size=it:=by simpa using z
         exact absurd (Heap.lt_size ho) (by rw[<- z]; exact qbd _)
 done:=by
   intro X hP hw hK hc i pins s σ H E I hf st hg;subst hP hw hK;obtain⟨⟨old,he⟩,hit⟩:=st;obtain⟨xs,hq,hx⟩:=hg;obtain⟨its,rv,p,hz⟩:=I.list hq;have pt:s.heap.IsList a its.toArray:=p.isList;have hl:=rv.length;have hia:a≠it:=λz=>by
     subst z;obtain⟨o1,h1,c1,_⟩:=hit;obtain⟨o2,h2,c2,_⟩:=pt;rw[h1] at h2;cases h2;rw[c1] at c2;injection c2 with c2
     exact absurd c2 (by decide)
   have hi:i=its.toArray.size:=by simp; omega
   refine wpAny_pyNext_enum_endD (Draws.list (A:=X.A.in1) (I.ok.hd hc) it a hia its.toArray) he (by rw[<- hi]; exact⟨hit,pt⟩) λh' eb=>⟨rfl,?_⟩
   exact I.turnedL (t':=s.toks) (ch:=[e,it]) (λb o hb q=>eb b o (λz=>hb (by simp [z])) q) hf
 self:=λ_ _ _ _ _ st h=>by obtain⟨⟨old,he⟩,_⟩:=st;exact wpAny_pyIter_enum he h
section
variable {X:Cx}
def z4z (K:W.Frag) (ta:TA):TI:=λσ H R=>ta σ H λvs H1=>∃a,vs=[.ref a]/\(∃xs,SqL K H1 a xs)/\R (ItE K a) H1
theorem zzx {a:Expr} {ta:TA} {p pos tpos:Pos} {elts:List Expr} {k:Nat} (hg:Gl X "enumerate") (hm:X.mg "enumerate"=none) (ha:PA X [a] ta) (hs:starEach [a] X.env=[(false,eval a X.env)]:=by rfl):PI X (.Tuple elts k tpos) (.Call (.Name "enumerate" p) [a] [] pos) (z4z X.K ta):=by
 intro pins s σ H R I h;refine Call_ (zlt I hg hm zqz (qbr (thn (ha pos pins s σ H _ I h) λus s1 ⟨vs,H1,I1,r1,q1⟩=>?_) hs rfl));obtain⟨a,e,⟨xs,hq⟩,q⟩:=q1;subst e;cases r1 with
 | cons r rr =>
   cases rr;cases r;obtain⟨its,rv,p,hz⟩:=I1.list hq;refine call_enumerate_list p.isList λh' he hit _ hk=>?_;refine wpAny_pyIter_enum he ?_;refine⟨s1.heap.objs.size+1,[s1.heap.objs.size+1,s1.heap.objs.size],_,_,H1,rfl,I1.kept (t':=s1.toks) hk,zt7 a (s1.heap.objs.size+1) s1.heap.objs.size (Nat.succ_ne_self _),⟨⟨.none,he⟩,hit⟩,λb hb=>?_,q⟩;rcases List.mem_cons.mp hb with z|z
   . subst z;exact I1.fpOk (qcm _) (I1.hok.fresh (qcm _))
   . have z:b=s1.heap.objs.size:=by simpa using z
     subst z;exact I1.fpOk (qae _) (I1.hok.fresh (qae _))
theorem zu6 {K:W.Frag} {a:Addr} {xs:List V} {g:TG} {tb:TS} {D:zje} {σ:St} {H:Hp} (Pv:Nat->St->Hp->Prop) (h0:Pv 0 σ H) (hl:∀i σ H,i<=xs.length->Pv i σ H->SqL K H a xs)
   (hs:∀i x σ H b,xs[i]?=some x->Pv i σ H->H b=none->g (.ref b) σ (upd H b (.tup [.int i,x])) λσ2 H2=>tb { D with nx:=Pv (i+1),ct:=Pv (i+1),bk:=D.nx } σ2 H2) (hd:∀σ H,Pv xs.length σ H->D.nx σ H) :
   ∃W:Nat->Nat->St->Hp->Prop,(∃m,W 0 m σ H)/\∀i m σ H,W i m σ H->((ItE K a).stop i H/\D.nx σ H)\/((ItE K a).go i H/\∃N:St->Hp->Prop,(∀σ' H',N σ' H'->∃m',m'<m/\W (i+1) m' σ' H')/\∀x H',(ItE K a).yld i H x H'->g x σ H' λσ2 H2=>tb { D with nx:=N,ct:=N,bk:=D.nx } σ2 H2):=by
 refine⟨λi m σ H=>m=xs.length - i/\i<=xs.length/\Pv i σ H,⟨xs.length,by simp,qa6 _,h0⟩,?_⟩;rintro i m σ H ⟨rfl,hi,p⟩;have q:=hl i σ H hi p;by_cases hlt:i<xs.length
 . refine .inr ⟨⟨xs,xs[i],q,by simp [hlt]⟩,Pv (i+1),λσ' H' p'=>⟨xs.length - (i+1),by omega,rfl,hlt,p'⟩,λx H' y=>?_⟩;obtain⟨b,rfl,hb,y⟩:=y;rw[y xs xs[i] q (by simp [hlt])];exact hs i xs[i] σ H b (by simp [hlt]) p hb
 . have e:i=xs.length:=by omega
   subst e;exact .inl ⟨⟨xs,q,rfl⟩,hd σ H p⟩
end
end L2
namespace PySem
open Sem (wp)
def ItB (b:Bool) (h:Heap) (it l:Addr) (k:Nat):Prop:=match b with|true=>h.IsTupleIter it l k|false=>h.IsListIter it l k
def SqB (b:Bool) (h:Heap) (l:Addr) (xs:Array Value):Prop:=match b with|true=>h.IsTuple l xs|false=>h.IsList l xs
theorem ItB.at {b:Bool} {h h':Heap} {it l:Addr} {k:Nat} (p:ItB b h it l k) (e:∀o,h.get? it=some o->h'.get? it=some o):ItB b h' it l k:=by cases b <;> (obtain⟨o,ho,r⟩:=p; exact⟨o,e o ho,r⟩)
theorem SqB.at {b:Bool} {h h':Heap} {l:Addr} {xs:Array Value} (p:SqB b h l xs) (e:∀o,h.get? l=some o->h'.get? l=some o):SqB b h' l xs:=by cases b <;> (obtain⟨o,ho,r⟩:=p; exact⟨o,e o ho,r⟩)
theorem ItB.extBut {b:Bool} {h h':Heap} {it l c:Addr} {k:Nat} (p:ItB b h it l k) (e:Heap.ExtBut c h h') (n:it≠c):ItB b h' it l k:=p.at λo ho=>e _ _ n ho
theorem SqB.extBut {b:Bool} {h h':Heap} {l c:Addr} {xs:Array Value} (p:SqB b h l xs) (e:Heap.ExtBut c h h') (n:l≠c):SqB b h' l xs:=p.at λo ho=>e _ _ n ho
theorem ItB.lt {b:Bool} {h:Heap} {it l:Addr} {k:Nat} (p:ItB b h it l k):it<h.objs.size:=by cases b <;> (obtain⟨o,ho,r⟩:=p; exact Heap.lt_size ho)
section
variable {prog:Program} {w:World} {A:Around} {E:Value->Shared->Prop} {s:Shared}
theorem zk8 {b:Bool} {it l:Addr} {i:Nat} {items:Array Value} {x:Value} {Q:Value->Shared->Prop} (p:ItB b s.heap it l i) (q:SqB b s.heap l items) (hx:items[i]?=some x)
   (hQ:∀h',ItB b h' it l (i+1)->Heap.SameBut it s.heap h'->Q x { s with heap:=h' }):wpAny (model prog w) A (Builtin.SmallTypes.nextOf (.ref it)) Q E s:=by
 cases b with
 | true=>exact L2.gx_nextOf_tup p q hx hQ
 | false=>exact wpAny_nextOf_list_item p q hx hQ
theorem zq9 {b:Bool} {it l:Addr} {i:Nat} {items:Array Value} {Q:Value->Shared->Prop} (hh:A.handled=none) (p:ItB b s.heap it l i) (q:SqB b s.heap l items) (hx:items[i]?=none)
   (hE:∀h' e,Heap.ExtBut it s.heap h'->(∃o,h'.get? e=some o/\o.cls=.type "StopIteration")->E (.ref e) { s with heap:=h' }):wpAny (model prog w) A (Builtin.SmallTypes.nextOf (.ref it)) Q E s:=by
 cases b with
 | true=>exact L2.gx_nextOf_tup_end hh p q hx hE
 | false=>exact wpAny_nextOf_list_end hh p q hx hE
theorem zp8 {b1 b2:Bool} {z TI TO i1 i2 l1 l2:Addr} {k1 k2:Nat} {xs ys:Array Value} {x y a b:Value} {Q:Value->Shared->Prop} (D:ZipApart z TI TO i1 i2 l1 l2)
   (zZ:IsZip s.heap z TI TO .none) (zI:IsPair s.heap TI (.ref i1) (.ref i2)) (zO:IsPair s.heap TO a b)
   (p1:ItB b1 s.heap i1 l1 k1) (p2:ItB b2 s.heap i2 l2 k2) (q1:SqB b1 s.heap l1 xs) (q2:SqB b2 s.heap l2 ys) (hx:xs[k1]?=some x) (hy:ys[k2]?=some y)
   (hQ:∀h',IsZip h' z TI TO (rawInt s.heap.objs.size)->IsPair h' TO x y->ItB b1 h' i1 l1 (k1+1)->ItB b2 h' i2 l2 (k2+1)->IsPair h' s.heap.objs.size x y->h'.objs.size=s.heap.objs.size+1 ->
     (∀c o,c≠z->c≠TO->c≠i1->c≠i2->s.heap.get? c=some o->h'.get? c=some o)->Q (.ref s.heap.objs.size) { s with heap:=h' }) :
   wpAny (model prog w) A (Builtin.«zip.__next__» ⟨[.ref z],[]⟩) (λfin s'=>∃v,fin=.done (.ret v)/\Q v s') E s:=by
 show wpAny _ _ (field (.ref z) 2 >>= _) _ _ _; refine wpAny_bind (wpAny_field zZ rfl (x:=.bool false) rfl ?_); show wpAny _ _ (field (.ref z) 3 >>= _) _ _ _; refine wpAny_bind (wpAny_field zZ rfl (x:=.ref TI) rfl ?_); refine wpAny_bind (wpAny_seqItems zI rfl ?_); show wpAny _ _ (Builtin.SmallTypes.ownedTupleIsFree (.ref z) >>= _) _ _ _; refine wpAny_bind ?_; unfold Builtin.SmallTypes.ownedTupleIsFree; refine wpAny_bind (wpAny_field zZ rfl (x:=.none) rfl (wpAny_pure ?_)); simp only[if_true]; refine wpAny_bind (wpAny_rule ?_); refine wpAny_bind (wpAny_field zZ rfl (x:=.ref TO) rfl ?_);refine wpAny_bind (wpAny_setField_rec zZ (by simp) λh₁ zZ₁ hs₁=>?_); replace zZ₁:IsZip h₁ z TI TO .ellipsis:=zZ₁; refine wpAny_bind ?_; simp only[List.zipIdx_cons,List.zipIdx_nil,qc8,qd1];refine wpAny_bind (wpAny_bind (wpAny_onRaise ?_)); show wpAny _ _ (Builtin.SmallTypes.nextOf (.ref i1) >>= _) _ _ _; refine wpAny_bind (zk8 (p1.extBut hs₁.extBut D.i1z) (q1.extBut hs₁.extBut D.l1z) hx λh₂ h1₂ hs₂=>wpAny_pure ?_); have hTO₂:IsPair h₂ TO a b:=hs₂.extBut _ _ D.TOi1 (hs₁.extBut _ _ D.TOz zO); refine wpAny_bind (wpAny_seqItems hTO₂ rfl ?_); refine wpAny_bind (wpAny_updateSeq_pair hTO₂ λh₃ hTO₃ hs₃=>?_); replace hTO₃:IsPair h₃ TO x b:=hTO₃; refine wpAny_bind (wpAny_letGo (wpAny_pure ?_))
 refine wpAny_bind (wpAny_bind (wpAny_onRaise ?_)); show wpAny _ _ (Builtin.SmallTypes.nextOf (.ref i2) >>= _) _ _ _; refine wpAny_bind (zk8 (((p2.extBut hs₁.extBut D.i2z).extBut hs₂.extBut D.i12.symm).extBut hs₃.extBut D.TOi2.symm)
   (((q2.extBut hs₁.extBut D.l2z).extBut hs₂.extBut D.l2i1).extBut hs₃.extBut D.l2TO) hy λh₄ h2₄ hs₄=>wpAny_pure ?_)
 have hTO₄:IsPair h₄ TO x b:=hs₄.extBut _ _ D.TOi2 hTO₃; refine wpAny_bind (wpAny_seqItems hTO₄ rfl ?_); refine wpAny_bind (wpAny_updateSeq_pair hTO₄ λh₅ hTO₅ hs₅=>?_); replace hTO₅:IsPair h₅ TO x y:=hTO₅; refine wpAny_bind (wpAny_letGo (wpAny_pure (wpAny_pure ?_)));refine wpAny_bind (wpAny_seqItems hTO₅ rfl ?_); refine wpAny_bind (wpAny_newTuple ?_); have hsz:h₅.objs.size=s.heap.objs.size:=(by rw[hs₅.1,hs₄.1,hs₃.1,hs₂.1,hs₁.1]); have hz₅:IsZip h₅ z TI TO .ellipsis:=hs₅.extBut _ _ D.TOz.symm (hs₄.extBut _ _ D.i2z.symm (hs₃.extBut _ _ D.TOz.symm (hs₂.extBut _ _ D.i1z.symm zZ₁))); have hk₅:∀c o,c≠z->c≠TO->c≠i1->c≠i2->s.heap.get? c=some o->h₅.get? c=some o:=λc o c1 c2 c3 c4 e =>
   hs₅.extBut _ _ c2 (hs₄.extBut _ _ c4 (hs₃.extBut _ _ c2 (hs₂.extBut _ _ c3 (hs₁.extBut _ _ c1 e))))
 have h1₅:ItB b1 h₅ i1 l1 (k1+1):=((h1₂.extBut hs₃.extBut D.TOi1.symm).extBut hs₄.extBut D.i12).extBut hs₅.extBut D.TOi1.symm; have h2₅:ItB b2 h₅ i2 l2 (k2+1):=h2₄.extBut hs₅.extBut D.TOi2.symm; have hzlt:z<h₅.objs.size:=Heap.lt_size hz₅; have hTOlt:TO<h₅.objs.size:=Heap.lt_size hTO₅; have hi1lt:i1<h₅.objs.size:=ItB.lt h1₅; have hi2lt:i2<h₅.objs.size:=ItB.lt h2₅; show wpAny _ _ (Builtin.SmallTypes.ownedTupleHandOut (.ref z) (.ref h₅.objs.size) >>= _) _ _ _; refine wpAny_bind ?_; unfold Builtin.SmallTypes.ownedTupleHandOut; have hz₆:IsZip (h₅.push { cls:=.type "tuple",data:=.seq #[x,y] }) z TI TO .ellipsis:=Heap.get?_push_of_some _ hz₅
 refine wpAny_bind (wpAny_setField_rec hz₆ (by simp) λh₇ hz₇ hs₇=>?_); replace hz₇:IsZip h₇ z TI TO (rawInt h₅.objs.size):=hz₇; refine wpAny_setField_rec hz₇ (by simp) λh₈ hz₈ hs₈=>?_; replace hz₈:IsZip h₈ z TI TO (rawInt h₅.objs.size):=hz₈; have up:∀c o,c≠z->h₅.get? c=some o->h₈.get? c=some o:=λc o c1 e=>hs₈.extBut _ _ c1 (hs₇.extBut _ _ c1 (Heap.get?_push_of_some _ e)); have hT₈:IsPair h₈ h₅.objs.size x y:=hs₈.extBut _ _ (qcc hzlt) (hs₇.extBut _ _ (qcc hzlt) (qap _ rfl)); have hz8:h₈.objs.size=h₅.objs.size+1:=(by rw[hs₈.1,hs₇.1,qby])
 rw[hsz] at hz₈ hT₈ hz8;refine wpAny_pure ⟨_,rfl,?_⟩; show Q (.ref h₅.objs.size) _;rw[hsz];exact hQ h₈ hz₈ (up _ _ D.TOz hTO₅) (h1₅.at λo e=>up _ o D.i1z e) (h2₅.at λo e=>up _ o D.i2z e) hT₈ hz8 λc o c1 c2 c3 c4 e=>up c o c1 (hk₅ c o c1 c2 c3 c4 e)
theorem zr3 {b1 b2:Bool} {z TI TO i1 i2 l1 l2:Addr} {k1 k2:Nat} {xs ys:Array Value} {a b:Value} {Q:Fin->Shared->Prop} (hh:A.handled=none) (D:ZipApart z TI TO i1 i2 l1 l2)
   (zZ:IsZip s.heap z TI TO .none) (zI:IsPair s.heap TI (.ref i1) (.ref i2)) (zO:IsPair s.heap TO a b)
   (p1:ItB b1 s.heap i1 l1 k1) (p2:ItB b2 s.heap i2 l2 k2) (q1:SqB b1 s.heap l1 xs) (q2:SqB b2 s.heap l2 ys) (hend:xs[k1]?=none\/ys[k2]?=none)
   (hE:∀h' e,(∀c o,c≠z->c≠TO->c≠i1->c≠i2->s.heap.get? c=some o->h'.get? c=some o)->(∃o,h'.get? e=some o/\o.cls=.type "StopIteration")->E (.ref e) { s with heap:=h' }) :
   wpAny (model prog w) A (Builtin.«zip.__next__» ⟨[.ref z],[]⟩) Q E s:=by
 show wpAny _ _ (field (.ref z) 2 >>= _) _ _ _; refine wpAny_bind (wpAny_field zZ rfl (x:=.bool false) rfl ?_); show wpAny _ _ (field (.ref z) 3 >>= _) _ _ _; refine wpAny_bind (wpAny_field zZ rfl (x:=.ref TI) rfl ?_); refine wpAny_bind (wpAny_seqItems zI rfl ?_); show wpAny _ _ (Builtin.SmallTypes.ownedTupleIsFree (.ref z) >>= _) _ _ _; refine wpAny_bind ?_; unfold Builtin.SmallTypes.ownedTupleIsFree; refine wpAny_bind (wpAny_field zZ rfl (x:=.none) rfl (wpAny_pure ?_)); simp only[if_true]; refine wpAny_bind (wpAny_rule ?_); refine wpAny_bind (wpAny_field zZ rfl (x:=.ref TO) rfl ?_);refine wpAny_bind (wpAny_setField_rec zZ (by simp) λh₁ zZ₁ hs₁=>?_); replace zZ₁:IsZip h₁ z TI TO .ellipsis:=zZ₁; refine wpAny_bind ?_; simp only[List.zipIdx_cons,List.zipIdx_nil,qc8,qd1]; refine wpAny_bind (wpAny_bind (wpAny_onRaise ?_)); show wpAny _ _ (Builtin.SmallTypes.nextOf (.ref i1) >>= _) _ _ _;cases hx:xs[k1]? with
 | none =>
   refine wpAny_bind (zq9 hh (p1.extBut hs₁.extBut D.i1z) (q1.extBut hs₁.extBut D.l1z) hx λh₂ e hs₂ he=>?_); obtain⟨oe,hoe,hce⟩:=he; have hz₂:IsZip h₂ z TI TO .ellipsis:=hs₂ _ _ D.i1z.symm zZ₁; have hez:e≠z:=(λx=>by subst x; rw[hz₂] at hoe; cases hoe; simp at hce); refine wpAny_setField_rec hz₂ (by simp) λh₃ _ hs₃=>hE h₃ e (λc o c1 _ c3 _ x=>hs₃.extBut _ _ c1 (hs₂ _ _ c3 (hs₁.extBut _ _ c1 x))) ⟨oe,hs₃.extBut _ _ hez hoe,hce⟩
 | some x =>
   have hy:ys[k2]?=none:=(by rcases hend with h|h; rw[hx] at h; cases h; exact h); refine wpAny_bind (zk8 (p1.extBut hs₁.extBut D.i1z) (q1.extBut hs₁.extBut D.l1z) hx λh₂ h1₂ hs₂=>wpAny_pure ?_); have hTO₂:IsPair h₂ TO a b:=hs₂.extBut _ _ D.TOi1 (hs₁.extBut _ _ D.TOz zO); refine wpAny_bind (wpAny_seqItems hTO₂ rfl ?_); refine wpAny_bind (wpAny_updateSeq_pair hTO₂ λh₃ hTO₃ hs₃=>?_); refine wpAny_bind (wpAny_letGo (wpAny_pure ?_)); refine wpAny_bind (wpAny_bind (wpAny_onRaise ?_)); show wpAny _ _ (Builtin.SmallTypes.nextOf (.ref i2) >>= _) _ _ _; refine wpAny_bind (zq9 hh (((p2.extBut hs₁.extBut D.i2z).extBut hs₂.extBut D.i12.symm).extBut hs₃.extBut D.TOi2.symm)
     (((q2.extBut hs₁.extBut D.l2z).extBut hs₂.extBut D.l2i1).extBut hs₃.extBut D.l2TO) hy λh₄ e hs₄ he=>?_)
   obtain⟨oe,hoe,hce⟩:=he; have hz₄:IsZip h₄ z TI TO .ellipsis:=hs₄ _ _ D.i2z.symm (hs₃.extBut _ _ D.TOz.symm (hs₂.extBut _ _ D.i1z.symm zZ₁)); have hez:e≠z:=(λx=>by subst x; rw[hz₄] at hoe; cases hoe; simp at hce); refine wpAny_setField_rec hz₄ (by simp) λh₅ _ hs₅=>hE h₅ e (λc o c1 c2 c3 c4 x=>hs₅.extBut _ _ c1 (hs₄ _ _ c4 (hs₃.extBut _ _ c2 (hs₂.extBut _ _ c3 (hs₁.extBut _ _ c1 x))))) ⟨oe,hs₅.extBut _ _ hez hoe,hce⟩
theorem zqj {b1 b2:Bool} {z TI TO i1 i2 l1 l2:Addr} {k1 k2:Nat} {xs ys:Array Value} {x y a b:Value} {Q:Option Value->Shared->Prop} (D:ZipApart z TI TO i1 i2 l1 l2)
   (zZ:IsZip s.heap z TI TO .none) (zI:IsPair s.heap TI (.ref i1) (.ref i2)) (zO:IsPair s.heap TO a b)
   (p1:ItB b1 s.heap i1 l1 k1) (p2:ItB b2 s.heap i2 l2 k2) (q1:SqB b1 s.heap l1 xs) (q2:SqB b2 s.heap l2 ys) (hx:xs[k1]?=some x) (hy:ys[k2]?=some y)
   (hQ:∀h',IsZip h' z TI TO (rawInt s.heap.objs.size)->IsPair h' TO x y->ItB b1 h' i1 l1 (k1+1)->ItB b2 h' i2 l2 (k2+1)->IsPair h' s.heap.objs.size x y->h'.objs.size=s.heap.objs.size+1 ->
     (∀c o,c≠z->c≠TO->c≠i1->c≠i2->s.heap.get? c=some o->h'.get? c=some o)->Q (some (.ref s.heap.objs.size)) { s with heap:=h' }) :
   wpAny (model prog w) A (pyNext (.ref z)) Q E s:=by
 have hT:s.TypeIs (.ref z) "zip":=⟨_,zZ,rfl⟩; unfold pyNext;exact wpAny_bind (wpAny_attempt (wpAny_callSpecial?_slot (name:=Str.ofString "__next__") hT qda
   (wpAny_call_entry qda hT F.entry_zip_next
     (zp8 D zZ zI zO p1 p2 q1 q2 hx hy λh' a1 a2 a3 a4 a5 a6 a7=>wpAny_pure (hQ h' a1 a2 a3 a4 a5 a6 a7)) (F.args_zip_next_1 _))))
theorem zrk {b1 b2:Bool} {z TI TO i1 i2 l1 l2:Addr} {k1 k2:Nat} {xs ys:Array Value} {a b:Value} {Q:Option Value->Shared->Prop} (hh:A.handled=none) (D:ZipApart z TI TO i1 i2 l1 l2)
   (zZ:IsZip s.heap z TI TO .none) (zI:IsPair s.heap TI (.ref i1) (.ref i2)) (zO:IsPair s.heap TO a b)
   (p1:ItB b1 s.heap i1 l1 k1) (p2:ItB b2 s.heap i2 l2 k2) (q1:SqB b1 s.heap l1 xs) (q2:SqB b2 s.heap l2 ys) (hend:xs[k1]?=none\/ys[k2]?=none)
   (hQ:∀h',(∀c o,c≠z->c≠TO->c≠i1->c≠i2->s.heap.get? c=some o->h'.get? c=some o)->Q none { s with heap:=h' }):wpAny (model prog w) A (pyNext (.ref z)) Q E s:=by
 have hT:s.TypeIs (.ref z) "zip":=⟨_,zZ,rfl⟩; unfold pyNext; refine wpAny_bind (wpAny_attempt (wpAny_callSpecial?_slot (name:=Str.ofString "__next__") hT qda
   (wpAny_call_entry qda hT F.entry_zip_next (zr3 hh D zZ zI zO p1 p2 q1 q2 hend λh' e hk he=>?_) (F.args_zip_next_1 _))))
 obtain⟨o,ho,hc⟩:=he; refine wpAny_bind (wpAny_isInstance (T:="StopIteration") (b:=true) ⟨o,ho,hc⟩ isSubtype_stop ?_);exact wpAny_pure (hQ _ hk)
end
def itO (b:Bool) (l:Addr):Obj:={ cls:=.type (match b with|true=>"tuple_iterator" | false=>"list_iterator"),data:=.fields #[.ref l,.int 0 0] }
theorem zu2 (b1 b2:Bool) (l1 l2:Addr) (xs ys:Array Value) :
   Meets (Builtin.«zip.__new__» ⟨[.type "zip",.ref l1,.ref l2],[]⟩) (λ_ R s=>SqB b1 s.heap l1 xs/\SqB b2 s.heap l2 ys /\
     R (.ok (.ret (.ref ((((s.heap.push (itO b1 l1)).push (itO b2 l2)).push { cls:=.type "tuple",data:=.seq #[.ref s.heap.objs.size,.ref (s.heap.push (itO b1 l1)).objs.size] }).push { cls:=.type "tuple",data:=.seq #[.none,.none] }).objs.size)))
       { s with heap:=(((((s.heap.push (itO b1 l1)).push (itO b2 l2)).push { cls:=.type "tuple",data:=.seq #[.ref s.heap.objs.size,.ref (s.heap.push (itO b1 l1)).objs.size] }).push { cls:=.type "tuple",data:=.seq #[.none,.none] }).push
         { cls:=.type "zip",data:=.fields #[.none,.bool false,.bool false,.ref ((s.heap.push (itO b1 l1)).push (itO b2 l2)).objs.size,.ref (((s.heap.push (itO b1 l1)).push (itO b2 l2)).push { cls:=.type "tuple",data:=.seq #[.ref s.heap.objs.size,.ref (s.heap.push (itO b1 l1)).objs.size] }).objs.size] }) }) :=
 .of_wp λprog w A R s h=>by
   obtain⟨hp,g,d,tk,os⟩:=s; obtain⟨q1,q2,h⟩:=h;have hsub:=sub_zip;have q2':SqB b2 (hp.push (itO b1 l1)) l2 ys:=q2.at λo e=>Heap.get?_push_of_some _ e;cases b1 with
   | true =>
     have hL1:Heap.IsTuple (Shared.heap ⟨hp,g,d,tk,os⟩) l1 xs:=q1;cases b2 with
     | true =>
       have hL2:Heap.IsTuple (Shared.heap ⟨hp.push { cls:=.type "tuple_iterator",data:=.fields #[.ref l1,.int 0 0] },g,d,tk,os⟩) l2 ys:=q2'
       wp_walk using wpAny_pyIter_tuple hL1,wpAny_pyIter_tuple hL2; exact⟨_,rfl,h⟩
     | false =>
       have hL2:Heap.IsList (Shared.heap ⟨hp.push { cls:=.type "tuple_iterator",data:=.fields #[.ref l1,.int 0 0] },g,d,tk,os⟩) l2 ys:=q2'
       wp_walk using wpAny_pyIter_tuple hL1,wpAny_pyIter_list hL2; exact⟨_,rfl,h⟩
   | false =>
     have hL1:Heap.IsList (Shared.heap ⟨hp,g,d,tk,os⟩) l1 xs:=q1;cases b2 with
     | true =>
       have hL2:Heap.IsTuple (Shared.heap ⟨hp.push { cls:=.type "list_iterator",data:=.fields #[.ref l1,.int 0 0] },g,d,tk,os⟩) l2 ys:=q2'
       wp_walk using wpAny_pyIter_list hL1,wpAny_pyIter_tuple hL2; exact⟨_,rfl,h⟩
     | false =>
       have hL2:Heap.IsList (Shared.heap ⟨hp.push { cls:=.type "list_iterator",data:=.fields #[.ref l1,.int 0 0] },g,d,tk,os⟩) l2 ys:=q2'
       wp_walk using wpAny_pyIter_list hL1,wpAny_pyIter_list hL2; exact⟨_,rfl,h⟩
section
variable {prog:Program} {w:World} {A:Around} {E:Value->Shared->Prop} {s:Shared}
theorem z0h {b:Bool} {h:Heap} {it l:Addr} (e:h.get? it=some (itO b l)):ItB b h it l 0:=by cases b <;> exact⟨_,e,rfl,rfl⟩
theorem zr2 {b1 b2:Bool} {l1 l2:Addr} {xs ys:Array Value} {Q:Value->Shared->Prop} (q1:SqB b1 s.heap l1 xs) (q2:SqB b2 s.heap l2 ys)
   (h:∀h' (n:Nat),n=s.heap.objs.size->IsZip h' (n+4) (n+2) (n+3) .none->IsPair h' (n+2) (.ref n) (.ref (n+1))->IsPair h' (n+3) .none .none->ItB b1 h' n l1 0->ItB b2 h' (n+1) l2 0 ->
     (∀c o,s.heap.get? c=some o->h'.get? c=some o)->Q (.ref (n+4)) { s with heap:=h' }) :
   wpAny (model prog w) A (call (.type "zip") [.ref l1,.ref l2]) Q E s:=by
 refine callType_new F.called_zip (by decide) (F.typeCall_zip_2 _ _) (F.newCall_zip_2 _ _) (λobj=>F.args_object_init_3 obj _ _) F.entry_zip_new (zu2 b1 b2 l1 l2 xs ys) ⟨q1,q2,?_⟩;generalize ho1:itO b1 l1=o1;generalize ho2:itO b2 l2=o2;have z1:(s.heap.push o1).objs.size=s.heap.objs.size+1:=qby ..;have z2:((s.heap.push o1).push o2).objs.size=s.heap.objs.size+2:=by rw[qby,z1]
 rw[z1,z2];generalize hT1:({ cls:=.type "tuple",data:=.seq #[.ref s.heap.objs.size,.ref (s.heap.objs.size+1)] }:Obj)=t1;generalize hT2:({ cls:=.type "tuple",data:=.seq #[.none,.none] }:Obj)=t2;have z3:(((s.heap.push o1).push o2).push t1).objs.size=s.heap.objs.size+3:=by rw[qby,z2]
 have z4:((((s.heap.push o1).push o2).push t1).push t2).objs.size=s.heap.objs.size+4:=by rw[qby,z3]
 rw[z3,z4];generalize hZ:({ cls:=.type "zip",data:=.fields #[.none,.bool false,.bool false,.ref (s.heap.objs.size+2),.ref (s.heap.objs.size+3)] }:Obj)=tz;have g5:=qap ((((s.heap.push o1).push o2).push t1).push t2) (o:=tz) (by rw[<- hZ]; rfl);have g4:=Heap.get?_push_of_some tz (qap (((s.heap.push o1).push o2).push t1) (o:=t2) (by rw[<- hT2]; rfl));have g3:=Heap.get?_push_of_some tz (Heap.get?_push_of_some t2 (qap ((s.heap.push o1).push o2) (o:=t1) (by rw[<- hT1]; rfl)));have g2:=Heap.get?_push_of_some tz (Heap.get?_push_of_some t2 (Heap.get?_push_of_some t1 (qap (s.heap.push o1) (o:=o2) (by rw[<- ho2]; rfl))));have g1:=Heap.get?_push_of_some tz (Heap.get?_push_of_some t2 (Heap.get?_push_of_some t1 (Heap.get?_push_of_some o2 (qap s.heap (o:=o1) (by rw[<- ho1]; rfl)))));rw[z4] at g5;rw[z3] at g4;rw[z2] at g3;rw[z1] at g2;subst hZ hT1 hT2 ho1 ho2;exact⟨⟨_,g5,rfl⟩,h _ s.heap.objs.size rfl g5 g3 g4 (z0h g1) (z0h g2) λc o x =>
   Heap.get?_push_of_some _ (Heap.get?_push_of_some _ (Heap.get?_push_of_some _ (Heap.get?_push_of_some _ (Heap.get?_push_of_some _ x))))⟩
end
end PySem
namespace L2
open PySem PySem.Spec PyProof.Rows
def SqV (b:Bool) (K:W.Frag) (H:Hp) (l:Addr) (xs:List V):Prop:=match b with|true=>SqT K H l xs|false=>SqL K H l xs
theorem Inv.sqv {X:Cx} {pins:List (Addr×Obj)} {σ:St} {H:Hp} {s:Shared} {b:Bool} {l:Addr} {xs:List V} (I:Inv X pins σ H s) (h:SqV b X.K H l xs):∃its:List Value,zcq xs its/\SqB b s.heap l its.toArray:=by
 cases b with
 | true=>obtain⟨its,r,p,_⟩:=I.tuple h; exact⟨its,r,p⟩
 | false=>obtain⟨its,r,p,_⟩:=I.list h; exact⟨its,r,p.isList⟩
theorem Inv.sqv_inj {X:Cx} {pins:List (Addr×Obj)} {σ:St} {H:Hp} {s:Shared} {b:Bool} {l:Addr} {xs ys:List V} (I:Inv X pins σ H s) (h:SqV b X.K H l xs) (h':SqV b X.K H l ys):xs=ys:=by
 cases b with
 | true=>exact I.tuple_inj h h'
 | false=>exact I.list_inj h h'
theorem SqB.lt {b:Bool} {h:Heap} {l:Addr} {xs:Array Value} (p:SqB b h l xs):l<h.objs.size:=by cases b <;> (obtain⟨o,ho,r⟩:=p; exact Heap.lt_size ho)
def Itz (K:W.Frag) (b1 b2:Bool) (l1 l2:Addr):It :=
 ⟨λi H=>∃xs ys x y,SqV b1 K H l1 xs/\SqV b2 K H l2 ys/\xs[i]?=some x/\ys[i]?=some y,
  λi H v H'=>∃b,v=.ref b/\H b=none/\∀xs ys x y,SqV b1 K H l1 xs->SqV b2 K H l2 ys->xs[i]?=some x->ys[i]?=some y->H'=upd H b (.tup [x,y]),
  λi H=>∃xs ys,SqV b1 K H l1 xs/\SqV b2 K H l2 ys/\(xs[i]?=none\/ys[i]?=none)⟩
theorem zyq {P:Program} {w:World} {K:W.Frag} {elts:List Expr} {k:Nat} {pos:Pos} (b1 b2:Bool) (z TI TO i1 i2 l1 l2:Addr) (D:ZipApart z TI TO i1 i2 l1 l2) :
   Turn P w K (.Tuple elts k pos) (Itz K b1 b2 l1 l2) [z,TI,TO,i1,i2] z (λi h=>IsZip h z TI TO .none/\IsPair h TI (.ref i1) (.ref i2)/\(∃a b,IsPair h TO a b)/\ItB b1 h i1 l1 i/\ItB b2 h i2 l2 i) where
 mem:=by simp
 obj:=λi h st b hb=>by
   obtain⟨hz,hTI,⟨a,c,hTO⟩,h1,h2⟩:=st;simp only[List.mem_cons,qbk,or_false] at hb;rcases hb with rfl|rfl|rfl|rfl|rfl
   . exact⟨_,hz,λv z=>by cases (show Data.fields _=Data.cell v from z)⟩
   . exact⟨_,hTI,λv z=>by cases (show Data.seq _ _=Data.cell v from z)⟩
   . exact⟨_,hTO,λv z=>by cases (show Data.seq _ _=Data.cell v from z)⟩
   . cases b1 <;> (obtain⟨o,ho,hc,hd⟩:=h1; exact⟨o,ho,λv z=>by rw[hd] at z; cases z⟩)
   . cases b2 <;> (obtain⟨o,ho,hc,hd⟩:=h2; exact⟨o,ho,λv z=>by rw[hd] at z; cases z⟩)
 keep:=λi h h' st kk=>by obtain⟨hz,hTI,⟨a,c,hTO⟩,h1,h2⟩:=st;exact⟨kk _ (by simp) _ hz,kk _ (by simp) _ hTI,⟨a,c,kk _ (by simp) _ hTO⟩,h1.at λo e=>kk _ (by simp) o e,h2.at λo e=>kk _ (by simp) o e⟩
 item:=by
   intro X hP hw hK hc i pins s σ H E I hf st hg;subst hP hw hK;obtain⟨hz,hTI,⟨oa,ob,hTO⟩,h1,h2⟩:=st;obtain⟨xs,ys,x,y,e1,e2,hx,hy⟩:=hg;obtain⟨is1,r1,p1⟩:=I.sqv e1;obtain⟨is2,r2,p2⟩:=I.sqv e2;obtain⟨u,hu,ru⟩:=r1.get hx;obtain⟨v,hv,rv⟩:=r2.get hy;refine zqj D hz hTI hTO h1 h2 p1 p2 (by simpa using hu) (by simpa using hv) λh' a1 a2 a3 a4 a5 a6 hk=>?_;refine⟨_,rfl,wpAny_letOwnedTupleGo_zip a1 λh3 hz3 hs3=>?_⟩;have hs3:Heap.SameBut z h' h3:=hs3;have hzlt:z<s.heap.objs.size:=Heap.lt_size hz;have hfr:H s.heap.objs.size=none:=I.hok.fresh (qae _);have hnS:s.heap.objs.size≠z:=qcc hzlt;have hT3:IsPair h3 s.heap.objs.size u v:=(hs3.2 _ hnS).trans a5;refine⟨.ref s.heap.objs.size,upd H s.heap.objs.size (.tup [x,y]),I.turnLaid (t':=s.toks) (ch:=[z,TI,TO,i1,i2]) (λb o hb q=>?_) hf (qae _) ?_,rfl,⟨s.heap.objs.size,rfl,hfr,λxs' ys' x' y' q1 q2 hx' hy'=>?_⟩,⟨hz3,?_,⟨u,v,?_⟩,?_,?_⟩,λb hb=>?_⟩
   . have n1:b≠z:=λzz=>hb (by simp [zz]);have n3:b≠TO:=λzz=>hb (by simp [zz]);have n4:b≠i1:=λzz=>hb (by simp [zz]);have n5:b≠i2:=λzz=>hb (by simp [zz]);exact(hs3.2 b n1).trans (hk b o n1 n3 n4 n5 q)
   . exact⟨by show 2<=sizeLine; decide,[u,v],.cons ru (.cons rv .nil),⟨_,hT3,rfl,_,rfl⟩⟩
   . have t1:=I.sqv_inj q1 e1;have t2:=I.sqv_inj q2 e2;subst t1 t2;rw[hx] at hx';rw[hy] at hy';cases hx';cases hy';rfl
   . exact(hs3.2 _ D.TIz).trans (hk _ _ D.TIz D.TITO D.TIi1 D.TIi2 hTI)
   . exact(hs3.2 _ D.TOz).trans a2
   . exact a3.at λo e=>(hs3.2 _ D.i1z).trans e
   . exact a4.at λo e=>(hs3.2 _ D.i2z).trans e
   . have hb0:=(hf b hb).1;rw[zag]
     . exact hb0
     . intro zz;subst zz;simp only[List.mem_cons,qbk,or_false] at hb;rcases hb with e|e|e|e|e
       . exact hnS e
       . exact absurd (Heap.lt_size hTI) (by rw[<- e]; exact qbd _)
       . exact absurd (Heap.lt_size hTO) (by rw[<- e]; exact qbd _)
       . exact absurd h1.lt (by rw[<- e]; exact qbd _)
       . exact absurd h2.lt (by rw[<- e]; exact qbd _)
 done:=by
   intro X hP hw hK hc i pins s σ H E I hf st hg;subst hP hw hK;obtain⟨hz,hTI,⟨oa,ob,hTO⟩,h1,h2⟩:=st;obtain⟨xs,ys,e1,e2,hend⟩:=hg;obtain⟨is1,r1,p1⟩:=I.sqv e1;obtain⟨is2,r2,p2⟩:=I.sqv e2;refine zrk (I.ok.hd hc) D hz hTI hTO h1 h2 p1 p2 ?_ λh' hk=>⟨rfl,?_⟩
   . rcases hend with h|h
     . left; have:=r1.none_of h; simpa using this
     . right; have:=r2.none_of h; simpa using this
   . exact I.turnedL (t':=s.toks) (ch:=[z,TI,TO,i1,i2]) (λb o hb q=>hk b o (λzz=>hb (by simp [zz])) (λzz=>hb (by simp [zz])) (λzz=>hb (by simp [zz])) (λzz=>hb (by simp [zz])) q) hf
 self:=λ_ _ _ _ _ st h=>wpAny_pyIter_zip st.1 h
section
variable {X:Cx}
def iZip (b1 b2:Bool) (K:W.Frag) (ta:TA):TI:=λσ H R=>ta σ H λvs H1=>∃l1 l2,vs=[.ref l1,.ref l2]/\(∃xs,SqV b1 K H1 l1 xs)/\(∃ys,SqV b2 K H1 l2 ys)/\R (Itz K b1 b2 l1 l2) H1
theorem zz7 (b1 b2:Bool) {a b:Expr} {ta:TA} {p pos tpos:Pos} {elts:List Expr} {k:Nat} (hg:Gl X "zip") (hm:X.mg "zip"=none) (ha:PA X [a,b] ta) (hs:starEach [a,b] X.env=(false,eval a X.env) :: starEach [b] X.env:=by rfl) (hs2:(backTo pos (starEach [b] X.env)).any (·.1)=false:=by rfl) :
   PI X (.Tuple elts k tpos) (.Call (.Name "zip" p) [a,b] [] pos) (iZip b1 b2 X.K ta):=by
 intro pins s σ H R I h;refine Call_ (zlt I hg hm z4w (qbr (thn (ha pos pins s σ H _ I h) λus s1 ⟨vs,H1,I1,r1,q1⟩=>?_) hs hs2));obtain⟨l1,l2,e,⟨xs,hx⟩,⟨ys,hy⟩,q⟩:=q1;subst e;cases r1 with
 | cons r rr =>
   cases rr with
   | cons r' rr =>
     cases rr;cases r;cases r';obtain⟨is1,v1,p1⟩:=I1.sqv hx;obtain⟨is2,v2,p2⟩:=I1.sqv hy;refine zr2 p1 p2 λh' n hn hz hTI hTO h1 h2 hk=>?_;subst hn;refine wpAny_pyIter_zip hz ?_;refine⟨s1.heap.objs.size+4,[s1.heap.objs.size+4,s1.heap.objs.size+2,s1.heap.objs.size+3,s1.heap.objs.size,s1.heap.objs.size+1],_,_,H1,rfl,I1.kept (t':=s1.toks) hk,zyq b1 b2 _ _ _ _ _ l1 l2 (zipApart_new (SqB.lt p1) (SqB.lt p2)),⟨hz,hTI,⟨_,_,hTO⟩,h1,h2⟩,λb hb=>?_,q⟩;have hb':s1.heap.objs.size<=b:=by simp only[List.mem_cons,qbk,or_false] at hb;rcases hb with e|e|e|e|e <;> rw[e] <;> first|exact qae _|exact Nat.le_add_right _ _
     exact I1.fpOk hb' (I1.hok.fresh hb')
theorem zxc {b1 b2:Bool} {K:W.Frag} {l1 l2:Addr} {xs ys:List V} {g:TG} {tb:TS} {D:zje} {σ:St} {H:Hp} (Pv:Nat->St->Hp->Prop) (h0:Pv 0 σ H) (hl:∀i σ H,i<=min xs.length ys.length->Pv i σ H->SqV b1 K H l1 xs/\SqV b2 K H l2 ys)
   (hs:∀i x y σ H b,xs[i]?=some x->ys[i]?=some y->Pv i σ H->H b=none->g (.ref b) σ (upd H b (.tup [x,y])) λσ2 H2=>tb { D with nx:=Pv (i+1),ct:=Pv (i+1),bk:=D.nx } σ2 H2) (hd:∀σ H,Pv (min xs.length ys.length) σ H->D.nx σ H) :
   ∃W:Nat->Nat->St->Hp->Prop,(∃m,W 0 m σ H)/\∀i m σ H,W i m σ H->((Itz K b1 b2 l1 l2).stop i H/\D.nx σ H)\/((Itz K b1 b2 l1 l2).go i H/\∃N:St->Hp->Prop,(∀σ' H',N σ' H'->∃m',m'<m/\W (i+1) m' σ' H')/\∀x H',(Itz K b1 b2 l1 l2).yld i H x H'->g x σ H' λσ2 H2=>tb { D with nx:=N,ct:=N,bk:=D.nx } σ2 H2):=by
 refine⟨λi m σ H=>m=min xs.length ys.length - i/\i<=min xs.length ys.length/\Pv i σ H,⟨min xs.length ys.length,by simp,qa6 _,h0⟩,?_⟩;rintro i m σ H ⟨rfl,hi,p⟩;obtain⟨q1,q2⟩:=hl i σ H hi p;by_cases hlt:i<min xs.length ys.length
 . have l1':i<xs.length:=by omega
   have l2':i<ys.length:=by omega
   refine .inr ⟨⟨xs,ys,xs[i],ys[i],q1,q2,by simp [l1'],by simp [l2']⟩,Pv (i+1),λσ' H' p'=>⟨min xs.length ys.length - (i+1),by omega,rfl,hlt,p'⟩,λx H' y=>?_⟩;obtain⟨b,rfl,hb,y⟩:=y;rw[y xs ys xs[i] ys[i] q1 q2 (by simp [l1']) (by simp [l2'])];exact hs i xs[i] ys[i] σ H b (by simp [l1']) (by simp [l2']) p hb
 . have e:i=min xs.length ys.length:=by omega
   subst e;refine .inl ⟨⟨xs,ys,q1,q2,?_⟩,hd σ H p⟩;rcases Nat.le_total xs.length ys.length with h|h
   . left; rw[qdb h]; exact qbl (qae _)
   . right; rw[Nat.min_eq_right h]; exact qbl (qae _)
end
structure ClsOk (K:W.Frag) (mg:Str->Option Value) (name:Str) (C:Addr):Prop where
 cl:Cls K C
 g:mg name=some (.ref C)
structure MetOk (K:W.Frag) (C:Addr) (m qual:Str) (st:Stmt) (ps:List Str) (f:Addr) (fd:FuncData):Prop where
 F:Fun K m qual st f fd
 b:zjq K fd ps []
 m:Meth K C m f
structure IniOk (K:W.Frag) (C:Addr) (qual:Str) (st:Stmt) (ps:List Str) (f:Addr) (fd:FuncData):Prop where
 F:Fun K "__init__" qual st f fd
 b:zjq K fd ps []
 M:Mk K C f
section
variable {X:Cx} {k:Nat} {C f:Addr} {fd:FuncData} {ps:List Str} {sp:Sp} {x m qual:Str} {st:Stmt} {p pos apos:Pos} {o e:Expr} {es:List Expr} {ta:TE} {t:TA}
theorem zzn (Cc:ClsOk X.K X.mg x C) (D:IniOk X.K C qual st ps f fd) (G:FnOk X.prog X.w X.K X.mg X.base CX0 k f fd ps sp) (hr:Room (k+1) X.A) (ha:PA X (e :: es) t) (hg:Gl X x:=by rfl)
   (hdb:(x==("__debug__":Str))=false:=by decide) (he:starEach (e :: es) X.env=(false,eval e X.env) :: starEach es X.env:=by rfl) (hpl:(backTo pos (starEach es X.env)).any (·.1)=false:=by rfl) :
   PE X (.Call (.Name x p) (e :: es) [] pos) (z3v C sp [] E0 t):=z2a D.M G hr hg Cc.g D.b .nil zcu ha hdb he hpl
theorem zbg {K:W.Frag} {C:Addr} {m qual:Str} {st:Stmt} {ps:List Str} {f:Addr} {oc:Value} {od an:Option Addr} {osl:Array (Option Value)} {kV doc pm cdv ct:Value}
   (a:PySem.W.findIn K (.ref C) m=some (some (.ref f))) (i:PySem.W.isFn K (.ref f)=true) (l:K.lookup f=some ⟨oc,od,.func (PySem.W.fnOf m qual (zde st) (zav st) (zai st) .none kV doc pm an cdv ct),osl⟩) (c:PySem.W.codeIn K cdv qual=true) (k:PySem.W.keepIn K (.ref f)=true)
   (b:∀(kV doc pm:Value) (an:Option Addr) (cdv ct:Value) (us:List Value),us.length=ps.length->bindArgs (PySem.W.fnOf m qual (zde st) (zav st) (zai st) .none kV doc pm an cdv ct) ⟨us,[]⟩=pure (ps.zip us)) :
   MetOk K C m qual st ps f (PySem.W.fnOf m qual (zde st) (zav st) (zai st) .none kV doc pm an cdv ct) :=
 ⟨zlu l c k,(zlu l c k).binds b,⟨a,i,k⟩⟩
theorem zo3 {K:W.Frag} {C:Addr} {qual:Str} {st:Stmt} {ps:List Str} {f:Addr} {oc:Value} {od an:Option Addr} {osl:Array (Option Value)} {kV doc pm cdv ct:Value}
   (mk:PySem.W.makesIn K C=true) (kc:PySem.W.keepIn K (.ref C)=true) (a:PySem.W.findIn K (.ref C) "__init__"=some (some (.ref f))) (i:PySem.W.isFn K (.ref f)=true) (l:K.lookup f=some ⟨oc,od,.func (PySem.W.fnOf "__init__" qual (zde st) (zav st) (zai st) .none kV doc pm an cdv ct),osl⟩) (c:PySem.W.codeIn K cdv qual=true) (k:PySem.W.keepIn K (.ref f)=true)
   (b:∀(kV doc pm:Value) (an:Option Addr) (cdv ct:Value) (us:List Value),us.length=ps.length->bindArgs (PySem.W.fnOf "__init__" qual (zde st) (zav st) (zai st) .none kV doc pm an cdv ct) ⟨us,[]⟩=pure (ps.zip us)) :
   IniOk K C qual st ps f (PySem.W.fnOf "__init__" qual (zde st) (zav st) (zai st) .none kV doc pm an cdv ct) :=
 ⟨zlu l c k,(zlu l c k).binds b,⟨mk,a,i,kc⟩⟩
end
theorem u1' {A:Around} (h:A.units+64<cLine):A.units+1<cLine:=by omega
section
variable {prog:Program} {w:World} {A:Around} {E:Value->Shared->Prop} {s:Shared}
open HT in
theorem zle {t sl:Addr} {items:Array Value} {vl vu:Value} {lo hi:Option Int} {Q:Value->Shared->Prop} (ht:IsTup s.heap t items) (hs:s.heap.IsSliceOf sl vl vu .none) (pl:IsPart vl lo) (pu:IsPart vu hi)
   (hw:sIx items.size 0 lo=0/\sIx items.size items.size hi=items.size) (h:Q (.ref t) s):wpAny (model prog w) A (getItem (.ref t) (.ref sl)) Q E s:=by
 obtain⟨os,hos,hcs,hds⟩:=id hs;have tS:s.TypeIs (.ref sl) "slice":=⟨os,hos,hcs⟩
 unfold getItem; try with_reducible refine wpAny_holding ?_
 first|refine wpAny_bind (wpAny_pure ?_)|skip
 refine wpAny_bind (wpAny_sequenceKey ht.typeIs (by decide) ?_); refine wpAny_bind (wpAny_callSpecial?_slot (name:=Str.ofString "__getitem__") ht.typeIs qbm (wpAny_call_entry qbm ht.typeIs entry_tuple_getitem ?_ (args_tuple_getitem _ _)));show wpAny _ _ (Builtin.Tuple.tupleItemsOf (.ref t) >>= _) _ _ s; refine wpAny_bind (tupleItemsOf_ ht ?_); refine wpAny_bind (wpAny_typeOf tS ?_); rw[if_pos (by decide)]; refine wpAny_bind (zhu hs pl pu ?_);have yes:(((sIx items.size 0 lo:Nat):Int)==0&&(1:Int)==1&&(sIx items.size items.size hi - sIx items.size 0 lo)==items.size)=true:=by rw[hw.1,hw.2];simp
 show wpAny _ _ (if(((sIx items.size 0 lo:Nat):Int)==0&&(1:Int)==1&&(sIx items.size items.size hi - sIx items.size 0 lo)==items.size)=true then _ else _) _ _ s; rw[if_pos yes];show wpAny _ _ (Builtin.Tuple.tupleIsExact (.ref t) >>= _) _ _ s;unfold Builtin.Tuple.tupleIsExact;refine wpAny_bind (wpAny_bind (wpAny_typeOf ht.typeIs (wpAny_pure ?_)));rw[if_pos (by decide)];exact wpAny_bind (wpAny_rule (wpAny_bind (wpAny_pure (wpAny_pure ⟨_,rfl,wpAny_pure h⟩))))
end
def rSlW (K:W.Frag):V->Option Int->Option Int->Hp->VK->Prop:=λx lo hi H Q=>∃a xs,x=.ref a/\SqT K H a xs /\
 (HT.sIx xs.length 0 lo=0/\HT.sIx xs.length xs.length hi=xs.length)/\Q (.ref a) H
theorem z17 {X:Cx}:SlR X (rSlW X.K):=by
 intro pins s σ H x v vl vu lo hi sl Q I rx hs pl pu h;obtain⟨a,xs,rfl,hx,hw,q⟩:=h;cases rx;obtain⟨its,r,ht,hz⟩:=I.tuple hx;have hlen:its.toArray.size=xs.length:=by rw[List.size_toArray]; exact r.length.symm
 refine⟨"tuple",_,qbm.lookup,ht.typeIs,zle ht hs pl pu (by rw[hlen]; exact hw) ⟨.ref a,H,I,rfl,q⟩⟩
def rSlA (K:W.Frag):V->Option Int->Option Int->Hp->VK->Prop:=λx lo hi H Q=>rSlT K x lo hi H Q\/rSlW K x lo hi H Q
theorem z1y {X:Cx}:SlR X (rSlA X.K):=z37.or z17
theorem zvz {K:W.Frag} {H:Hp} {Q:VK} {a:Addr} {xs:List V} {lo hi:Option Int} (h:SqT K H a xs) (q:∀p H',zan H H'->SqT K H' p (zkp xs lo hi)->Q (.ref p) H'):rSlA K (.ref a) lo hi H Q:=by
 by_cases hw:HT.sIx xs.length 0 lo=0/\HT.sIx xs.length xs.length hi=xs.length
 . refine .inr ⟨a,xs,rfl,h,hw,q a H (zan.refl _) ?_⟩;have:zkp xs lo hi=xs:=by unfold zkp;rw[hw.1,hw.2,qdh,Nat.sub_zero,qbs]
   rw[this];exact h
 . exact .inl ⟨a,xs,rfl,h,hw,λp hp=>q p _ (zan.new hp) (SqT.of zac)⟩
end L2
namespace K12
open PySem L2
def step (acc:List Str) (s:Str):List Str:=if s∈acc then acc else acc++[s]
def onceL (ss:List Str):List Str:=ss.foldl step []
def strsOf (as:List V):List Str:=as.filterMap λv=>match v with | .str s=>some s|_=>none
theorem strsOf_append (a b:List V):strsOf (a++b)=strsOf a++strsOf b:=List.filterMap_append ..
theorem zt6 (i:Int):strsOf [.int i]=[]:=rfl
theorem strsOf_map (ss:List Str):strsOf (ss.map V.str)=ss:=by
 induction ss with
 | nil=>rfl
 | cons s r ih=>rw[qaz]; show s :: strsOf (r.map V.str)=_; rw[ih]
theorem zz3 (acc:List Str) (s:Str):∀x∈acc,x∈step acc s:=λx hx=>by
 unfold step;split
 . exact hx
 . exact qa8 _ hx
theorem zyo (acc:List Str) (s:Str):s∈step acc s:=by
 unfold step;split
 . assumption
 . exact List.mem_append_right _ (by simp)
theorem ztf:∀(ss acc:List Str),∀x∈acc,x∈ss.foldl step acc
 | [],acc,x,hx=>hx
 | s :: ss,acc,x,hx=>ztf ss _ x (zz3 acc s x hx)
theorem fold_has:∀(ss acc:List Str),∀x∈ss,x∈ss.foldl step acc
 | s :: ss,acc,x,hx=>by
   rcases List.mem_cons.mp hx with e|e
   . subst e;exact ztf ss _ _ (zyo acc _)
   . exact fold_has ss _ x e
theorem zra:∀(B:List Str) (acc C:List Str),(B.foldl step C).foldl step acc=B.foldl step (C.foldl step acc)
 | [],acc,C=>rfl
 | s :: B,acc,C=>by
   rw[qa7,zra B acc (step C s),qa7];congr 1;unfold step;by_cases h:s∈C
   . rw[if_pos h];have h2:s∈C.foldl step acc:=fold_has C acc s h;have h2':s∈List.foldl (λacc s=>if s∈acc then acc else acc++[s]) acc C:=h2;rw[if_pos h2']
   . rw[if_neg h,qbc];rfl
theorem zxj (A B C:List Str):onceL (A++onceL B++C)=onceL (A++B++C):=by unfold onceL;rw[qbc,qbc,qbc,qbc];have e:=zra B (A.foldl step []) [];rw[e];rfl
theorem onceL_sub (ss:List Str):∀x∈onceL ss,x∈ss:=by
 have key:∀(ss acc:List Str),∀x∈ss.foldl step acc,x∈acc\/x∈ss:=by
   intro ss
   induction ss with
   | nil=>intro acc x hx; exact .inl hx
   | cons s ss ih =>
     intro acc x hx;rcases ih _ x hx with h|h
     . unfold step at h;split at h
       . exact .inl h
       . rcases List.mem_append.mp h with h|h
         . exact .inl h
         . have:x=s:=by simpa using h
           exact .inr (by rw[this]; exact List.mem_cons_self)
     . exact .inr (List.mem_cons_of_mem _ h)
 intro x hx;rcases key ss [] x hx with h|h
 . cases h
 . exact h
theorem zy9 (acc:List Str) (s:Str):(step acc s).length<=acc.length+1:=by
 unfold step;split
 . omega
 . simp
theorem onceL_len (ss:List Str):(onceL ss).length<=ss.length:=by
 have key:∀(ss acc:List Str),(ss.foldl step acc).length<=acc.length+ss.length:=by
   intro ss
   induction ss with
   | nil=>intro acc; simp
   | cons s ss ih =>
     intro acc;have h1:=ih (step acc s);have h2:=zy9 acc s;rw[qa7];simp only[qa0];omega
 have:=key ss [];unfold onceL;simpa using this
def tru (ss:List Str):List (Key×V):=ss.map λs=>(Sum.inr s,V.bl true)
theorem z2s (acc:List Str) (s:Str):zbd (tru acc) (Sum.inr s) (.bl true)=tru (step acc s):=by
 unfold zbd step;have e:((tru acc).any λkv=>decide (kv.1=(Sum.inr s:Key)))=decide (s∈acc):=by
   unfold tru;rw[List.any_map];rw[qb1,qcb];simp only[Function.comp,decide_eq_true_eq];constructor
   . rintro ⟨x,hx,h⟩;have:x=s:=Sum.inr.inj h;rw[<- this];exact hx
   . intro h;exact⟨s,h,rfl⟩
 rw[e];by_cases h:s∈acc
 . rw[decide_eq_true h,if_pos rfl,if_pos h];unfold tru;rw[qbx];apply List.map_congr_left;intro x _;show(if(Sum.inr x:Key)=Sum.inr s then((Sum.inr x:Key),V.bl true) else(Sum.inr x,V.bl true))=_;split <;> rfl
 . rw[decide_eq_false h,if_neg (by decide),if_neg h];unfold tru;rw[List.map_append];rfl
theorem ztk:∀(ss acc:List Str),(tru ss).foldl (λacc kv=>zbd acc kv.1 kv.2) (tru acc)=tru (ss.foldl step acc)
 | [],acc=>rfl
 | s :: ss,acc=>by show(tru ss).foldl _ (zbd (tru acc) (Sum.inr s) (.bl true))=_;rw[z2s];exact ztk ss (step acc s)
theorem zyj (ss:List Str):(tru ss).foldl (λacc kv=>zbd acc kv.1 kv.2) []=tru (onceL ss):=ztk ss []
theorem zx9 (ss:List Str):((tru ss).map λkv=>kV kv.1)=ss.map V.str:=by unfold tru;rw[qbx];rfl
theorem z1h {K:W.Frag} {H:Hp} {a q:Addr} {xs l l':List V} (h:SqT K H a xs) (hq:H q=some (.lst l)):SqT K (upd H q (.lst l')) a xs:=by
 rcases h with(h|⟨o,h⟩)|h
 . exact .inl (.inl (by rw[zag (zrm h hq (by intro z; cases z))]; exact h))
 . exact .inl (.inr ⟨o,by rw[zag (zrm h hq (by intro z; cases z))]; exact h⟩)
 . exact .inr h
def Nm (s:Str):Prop:=s.length<=1000/\PyData.strOk s=true
end K12
namespace K12
open PySem L2 PySem.W PyProof.Rows
inductive RowS (K:W.Frag) (H:Hp):List V->Option Str->List V->Prop
 | copy (x:Str) (a:V):RowS K H [.str "copy",.str x,a] (some x) [a]
 | op (x s:Str) (a b:V):RowS K H [.str "op",.str x,.str s,a,b] (some x) [a,b]
 | new (x:Str):RowS K H [.str "new",.str x] (some x) []
 | get (x:Str) (a:V) (f:Str):RowS K H [.str "get",.str x,a,.str f] (some x) [a]
 | put (a:V) (f:Str) (b:V):RowS K H [.str "put",a,.str f,b] none [a,b]
 | call (x f:Str) (p:Addr) (as:List V):SqT K H p as->RowS K H [.str "call",.str x,.str f,.ref p] (some x) as
 | out (a:V):RowS K H [.str "out",a] none [a]
 | back (a:V):RowS K H [.str "back",a] none [a]
 | ifs (a:V):RowS K H [.str "if",a] none [a]
 | whl (a:V):RowS K H [.str "while",a] none [a]
 | els:RowS K H [.str "else"] none []
 | fin:RowS K H [.str "end"] none []
theorem RowS.mono {K:W.Frag} {H H':Hp} {xs:List V} {g:Option Str} {as:List V} (h:RowS K H xs g as) (e:zan H H'):RowS K H' xs g as:=by
 cases h with
 | call x f p as hp=>exact .call x f p as (e.tup hp)
 | copy x a=>exact .copy x a
 | op x s a b=>exact .op x s a b
 | new x=>exact .new x
 | get x a f=>exact .get x a f
 | put a f b=>exact .put a f b
 | out a=>exact .out a
 | back a=>exact .back a
 | ifs a=>exact .ifs a
 | whl a=>exact .whl a
 | els=>exact .els
 | fin=>exact .fin
def tabl:List (Str×List V):=[("copy",[.int 2]),("op",[.int 3,.int 4]),("new",[]),("get",[.int 2]),("put",[.int 1,.int 3]),("out",[.int 1]),("back",[.int 1]),("if",[.int 1]),("while",[.int 1]),("else",[]),("end",[])]
def giving:List Str:=["copy","op","new","get","call"]
theorem zuy {K:W.Frag} {H:Hp} {xs:List V} {g:Option Str} {as:List V} (h:RowS K H xs g as):∃kd:Str,atI xs 0=some (.str kd) /\
   ((kd="call"/\∃p,atI xs 3=some (.ref p)/\SqT K H p as)\/(kd≠"call"/\∃pl:List Int,KTD.datumAt kd tabl=some (pl.map V.int)/\pl.length=as.length/\∀(i:Nat) (a:V),as[i]?=some a->∃p,pl[i]?=some p/\atI xs p=some a)):=by
 cases h with
 | call x f p as hp=>exact⟨"call",rfl,.inl ⟨rfl,p,rfl,hp⟩⟩
 | copy x a=>exact⟨"copy",rfl,.inr ⟨by decide +kernel,[2],by decide +kernel,rfl,λi a' e=>by match i,e with|0,e=>exact⟨2,rfl,e⟩⟩⟩
 | op x s a b=>exact⟨"op",rfl,.inr ⟨by decide +kernel,[3,4],by decide +kernel,rfl,λi a' e=>by match i,e with|0,e=>exact⟨3,rfl,e⟩|1,e=>exact⟨4,rfl,e⟩⟩⟩
 | new x=>exact⟨"new",rfl,.inr ⟨by decide +kernel,[],by decide +kernel,rfl,λi a' e=>by simp at e⟩⟩
 | get x a f=>exact⟨"get",rfl,.inr ⟨by decide +kernel,[2],by decide +kernel,rfl,λi a' e=>by match i,e with|0,e=>exact⟨2,rfl,e⟩⟩⟩
 | put a f b=>exact⟨"put",rfl,.inr ⟨by decide +kernel,[1,3],by decide +kernel,rfl,λi a' e=>by match i,e with|0,e=>exact⟨1,rfl,e⟩|1,e=>exact⟨3,rfl,e⟩⟩⟩
 | out a=>exact⟨"out",rfl,.inr ⟨by decide +kernel,[1],by decide +kernel,rfl,λi a' e=>by match i,e with|0,e=>exact⟨1,rfl,e⟩⟩⟩
 | back a=>exact⟨"back",rfl,.inr ⟨by decide +kernel,[1],by decide +kernel,rfl,λi a' e=>by match i,e with|0,e=>exact⟨1,rfl,e⟩⟩⟩
 | ifs a=>exact⟨"if",rfl,.inr ⟨by decide +kernel,[1],by decide +kernel,rfl,λi a' e=>by match i,e with|0,e=>exact⟨1,rfl,e⟩⟩⟩
 | whl a=>exact⟨"while",rfl,.inr ⟨by decide +kernel,[1],by decide +kernel,rfl,λi a' e=>by match i,e with|0,e=>exact⟨1,rfl,e⟩⟩⟩
 | els=>exact⟨"else",rfl,.inr ⟨by decide +kernel,[],by decide +kernel,rfl,λi a' e=>by simp at e⟩⟩
 | fin=>exact⟨"end",rfl,.inr ⟨by decide +kernel,[],by decide +kernel,rfl,λi a' e=>by simp at e⟩⟩
def xv:Option Str->V
 | some x=>.str x
 | none=>.non
theorem zwd {K:W.Frag} {H:Hp} {xs:List V} {g:Option Str} {as:List V} (h:RowS K H xs g as):∃kd:Str,atI xs 0=some (.str kd) /\
   ((∃x,g=some x/\inV (.str kd) (giving.map V.str)=true/\atI xs 1=some (.str x))\/(g=none/\inV (.str kd) (giving.map V.str)=false)):=by
 cases h with
 | call x f p as hp=>exact⟨"call",rfl,.inl ⟨x,rfl,by decide +kernel,rfl⟩⟩
 | copy x a=>exact⟨"copy",rfl,.inl ⟨x,rfl,by decide +kernel,rfl⟩⟩
 | op x s a b=>exact⟨"op",rfl,.inl ⟨x,rfl,by decide +kernel,rfl⟩⟩
 | new x=>exact⟨"new",rfl,.inl ⟨x,rfl,by decide +kernel,rfl⟩⟩
 | get x a f=>exact⟨"get",rfl,.inl ⟨x,rfl,by decide +kernel,rfl⟩⟩
 | put a f b=>exact⟨"put",rfl,.inr ⟨rfl,by decide +kernel⟩⟩
 | out a=>exact⟨"out",rfl,.inr ⟨rfl,by decide +kernel⟩⟩
 | back a=>exact⟨"back",rfl,.inr ⟨rfl,by decide +kernel⟩⟩
 | ifs a=>exact⟨"if",rfl,.inr ⟨rfl,by decide +kernel⟩⟩
 | whl a=>exact⟨"while",rfl,.inr ⟨rfl,by decide +kernel⟩⟩
 | els=>exact⟨"else",rfl,.inr ⟨rfl,by decide +kernel⟩⟩
 | fin=>exact⟨"end",rfl,.inr ⟨rfl,by decide +kernel⟩⟩
theorem zsm:(giving.map V.str).all znu=true:=by decide +kernel
def Atom (v:V):Prop:=(∃s,v=.str s/\Nm s)\/∃i,v=.int i
structure RowD where
 r:Addr
 e:Addr
 a:Addr
 gx:Option Str
 as:List V
structure RowAt (K:W.Frag) (H:Hp) (d:RowD):Prop where
 row:∃xs,SqT K H d.r xs/\RowS K H xs d.gx d.as
 ats:∀v∈d.as,Atom v
 len:d.as.length<=10
 nm:∀x,d.gx=some x->Nm x
theorem RowAt.mono {K:W.Frag} {H H':Hp} {d:RowD} (h:RowAt K H d) (e:zan H H'):RowAt K H' d :=
 ⟨let ⟨xs,h1,h2⟩:=h.row; ⟨xs,e.tup h1,h2.mono e⟩,h.ats,h.len,h.nm⟩
structure FunAt (K:W.Frag) (H:Hp) (f:Addr) (ps:List Str) (ds:List RowD):Prop where
 fn:∃n b p r,SqT K H f [n,b,.ref p,.ref r]/\SqT K H p (ps.map V.str)/\SqT K H r (ds.map λd=>V.ref d.r)
 rows:∀d∈ds,RowAt K H d
 pn:∀s∈ps,Nm s
 pl:ps.length<=100
 dl:ds.length<=100
theorem FunAt.mono {K:W.Frag} {H H':Hp} {f:Addr} {ps:List Str} {ds:List RowD} (h:FunAt K H f ps ds) (e:zan H H'):FunAt K H' f ps ds :=
 ⟨let ⟨n,b,p,r,h1,h2,h3⟩:=h.fn; ⟨n,b,p,r,e.tup h1,e.tup h2,e.tup h3⟩,λd hd=>(h.rows d hd).mono e,h.pn,h.pl,h.dl⟩
def rowStrs (d:RowD):List Str:=d.gx.toList++strsOf d.as
def allOf (ps:List Str) (ds:List RowD):List Str:=ps++ds.flatMap rowStrs
theorem strsOf_len (as:List V):(strsOf as).length<=as.length:=List.length_filterMap_le _ _
end K12
namespace K12
open PySem L2
section
variable {P:Program} {w:World} {K:W.Frag} {mg:Str->Option Value} {base:Heap}
def zyd (H:Hp) (Q:VK) (vs:List V):Prop:=∀l H',zan H H'->H l=none->H' l=some (.lst vs)->Q (.ref l) H'
def sp_gives (K:W.Frag):Sp:=λvs H Q _=>∃(r:Addr) (xs:List V) (g:Option Str) (as:List V),vs=[.ref r]/\SqT K H r xs/\RowS K H xs g as/\Q (xv g) H
def sp_atoms_of (K:W.Frag):Sp:=λvs H Q _=>∃(r:Addr) (xs:List V) (g:Option Str) (as:List V),vs=[.ref r]/\SqT K H r xs/\RowS K H xs g as/\as.length<=10/\zyd H Q as
def sp_each_once (K:W.Frag):Sp:=λvs H Q _=>∃(p:Addr) (ss:List Str),vs=[.ref p]/\SqL K H p (ss.map V.str)/\ss.length<=5000/\zyd H Q ((onceL ss).map V.str)
def sp_reads (K:W.Frag):Sp:=λvs H Q _=>∃(r:Addr) (xs:List V) (g:Option Str) (as:List V),vs=[.ref r]/\SqT K H r xs/\RowS K H xs g as/\as.length<=10/\(∀v∈as,Atom v)/\zyd H Q ((onceL (strsOf as)).map V.str)
def sp_names_of (K:W.Frag):Sp:=λvs H Q _=>∃(f:Addr) (ps:List Str) (ds:List RowD),vs=[.ref f]/\FunAt K H f ps ds/\zyd H Q ((onceL (allOf ps ds)).map V.str)
def rIsi (K:W.Frag):List V->Hp->VK->Prop:=λxs H Q=>∃x c t b,xs=[x,.ty c]/\TyOf K H x t/\W.kitOne K t (.type c)=some b/\Q (.bl b) H
theorem zow {n:Nat} (h:n<1000000):n<=sizeLine:=by
 have:(1000000:Nat)<sizeLine:=by decide
 omega
theorem zd8 {n:Nat} (h:n<1000000):n<sizeLine:=by
 have:(1000000:Nat)<sizeLine:=by decide
 omega
theorem ztq {fs P G B:List Str} (h:onceL fs=onceL P):onceL (fs++G++onceL B)=onceL (P++(G++B)):=by have e:=zxj (fs++G) B [];rw[qbg,qbg] at e;rw[e,qcs];unfold onceL at h ⊢;rw[qbc,h,<- qbc]
end
end K12
namespace K13
open PySem L2
def isO (s:Str):Bool:=decide (s="if") || decide (s="while")
def isE (s:Str):Bool:=decide (s="else") || decide (s="end")
def push (st:List Nat) (i:Nat) (s:Str):List Nat:=if isO s=true then i :: st else if s="end" then st.tail else st
def kd (ks:List Str) (i:Nat):Str:=ks.getD i ""
def stk (ks:List Str):Nat->List Nat
 | 0=>[]
 | i+1=>push (stk ks i) i (kd ks i)
theorem zcz (ks:List Str) (i:Nat):stk ks (i+1)=push (stk ks i) i (kd ks i):=rfl
theorem zlx (ks:List Str):∀i,∀x∈stk ks i,x<i/\isO (kd ks x)=true
 | 0,x,h=>by cases h
 | i+1,x,h=>by
   rw[zcz] at h;unfold push at h;split at h
   . rcases List.mem_cons.mp h with e|e
     . subst e;exact⟨qca _,by assumption⟩
     . have:=zlx ks i x e;exact⟨by omega,this.2⟩
   . split at h
     . have:=zlx ks i x (List.mem_of_mem_tail h);exact⟨by omega,this.2⟩
     . have:=zlx ks i x h;exact⟨by omega,this.2⟩
theorem zr7 {s:Str} (h:isO s=true):¬ s="end":=by intro e;subst e;revert h;decide +kernel
theorem zq3 {s:Str} (h:isO s=true):¬ s="else":=by intro e;subst e;revert h;decide +kernel
theorem zng:isO ("end":Str)=false:=by decide +kernel
structure Wf (ks:List Str):Prop where
 open_:∀i,i<ks.length->isE (kd ks i)=true->stk ks i≠[]
 els:∀i b r,i<ks.length->kd ks i="else"->stk ks i=b :: r->kd ks b="if"
 shut:stk ks ks.length=[]
 last:∀i,i+1=ks.length->kd ks i="back"
 pos:0<ks.length
def At (ks:List Str) (b j d:Nat):Prop:=∃pre,stk ks j=pre++b :: stk ks b/\pre.length+1=d
theorem zts {ks:List Str} {b:Nat} (h:isO (kd ks b)=true):At ks b (b+1) 1:=⟨[],by rw[zcz]; unfold push; rw[if_pos h]; rfl,rfl⟩
theorem z0v {ks:List Str} {b j d:Nat} (h:At ks b j d) (ho:isO (kd ks j)=true):At ks b (j+1) (d+1):=by obtain⟨pre,e,l⟩:=h;exact⟨j :: pre,by rw[zcz]; unfold push; rw[if_pos ho,e]; rfl,by simp [l]⟩
theorem zst {ks:List Str} {b j d:Nat} (h:At ks b j (d+1)) (hd:0<d) (he:kd ks j="end"):At ks b (j+1) d:=by
 obtain⟨pre,e,l⟩:=h;cases pre with
 | nil=>simp at l; omega
 | cons p pre =>
   refine⟨pre,?_,by simpa using l⟩;rw[zcz];unfold push;rw[he,if_neg (by rw[zng]; decide),if_pos rfl,e];rfl
theorem zyy {ks:List Str} {b j d:Nat} (h:At ks b j d) (ho:¬ isO (kd ks j)=true) (he:¬ kd ks j="end"):At ks b (j+1) d:=by obtain⟨pre,e,l⟩:=h;exact⟨pre,by rw[zcz]; unfold push; rw[if_neg ho,if_neg he,e],l⟩
theorem z4h {ks:List Str} {b j:Nat} (h:At ks b j 1):stk ks j=b :: stk ks b:=by
 obtain⟨pre,e,l⟩:=h;cases pre with
 | nil=>exact e
 | cons p pre=>simp at l
theorem z4i {ks:List Str} (w:Wf ks) {b j d:Nat} (h:At ks b j d) (hj:j<=ks.length):j<ks.length:=by
 rcases qa4 j ks.length with q|q
 . exact q
 . have e:j=ks.length:=by omega
   subst e;obtain⟨pre,e,_⟩:=h;rw[w.shut] at e;simp at e
theorem z4a {ks:List Str} {b j d:Nat} (h:At ks b j d):0<d:=by obtain⟨pre,_,l⟩:=h;omega
def zje (ks:List Str) (b e:Nat):Prop:=b<e/\e<ks.length/\kd ks e="end"/\stk ks e=b :: stk ks b/\∀j,b<j->j<=e->∃d,At ks b j d
theorem zvb {ks:List Str} {b e e':Nat} (h:zje ks b e) (h':zje ks b e'):e=e':=by
 have key:∀{e e':Nat},zje ks b e->zje ks b e'->¬ e<e':=by
   intro e e' h h' hlt;obtain⟨h1,h2,h3,h4,h5⟩:=h;obtain⟨d,pre,q,_⟩:=h'.2.2.2.2 (e+1) (by omega) hlt;rw[zcz] at q;unfold push at q;rw[h3,if_neg (by rw[zng]; decide),if_pos rfl,h4] at q;have:(stk ks b).length=(pre++b :: stk ks b).length:=by rw[<- q]; rfl
   simp at this;omega
 have a:=key h h';have b:=key h' h;omega
theorem zpv {ks:List Str} (w:Wf ks) {b:Nat}:∀(m j d:Nat),m=ks.length - j->j<=ks.length->b<j->(∀i,b<i->i<=j->∃d,At ks b i d)->At ks b j d->∃e,j<=e/\zje ks b e
 | 0,j,d,hm,hj,hb,hall,h=>absurd (z4i w h hj) (by omega)
 | m+1,j,d,hm,hj,hb,hall,h=>by
   have hlt:=z4i w h hj;have go:∀d',At ks b (j+1) d'->∃e,j<=e/\zje ks b e:=λd' h'=>by
     obtain⟨e,he,q⟩:=zpv w m (j+1) d' (by omega) (by omega) (by omega) (λi h1 h2=>by
       rcases qa4 j i with z|z
       . have:i=j+1:=by omega
         subst this;exact⟨d',h'⟩
       . exact hall i h1 z) h'
     exact⟨e,by omega,q⟩
   by_cases ho:isO (kd ks j)=true
   . exact go _ (z0v h ho)
   by_cases he:kd ks j="end"
   . have hp:=z4a h;by_cases hd:d=1
     . subst hd;exact⟨j,qae _,hb,hlt,he,z4h h,hall⟩
     . obtain⟨d',rfl⟩:∃d',d=d'+1:=⟨d - 1,by omega⟩
       exact go _ (zst h (by omega) he)
   . exact go _ (zyy h ho he)
theorem zw7 {ks:List Str} (w:Wf ks) {b:Nat} (hb:b<ks.length) (ho:isO (kd ks b)=true):∃e,zje ks b e:=by
 obtain⟨e,_,h⟩:=zpv w (ks.length - (b+1)) (b+1) 1 rfl (by omega) (by omega) (λi h1 h2=>by
   have:i=b+1:=by omega
   subst this;exact⟨1,zts ho⟩) (zts ho)
 exact⟨e,h⟩
def Hit (ks:List Str) (b k:Nat):Prop:=isE (kd ks k)=true/\(stk ks k).head?=some b
theorem zvk {ks:List Str} {b k:Nat} (h:Hit ks b k):b<k/\isO (kd ks b)=true:=zlx ks k b (List.mem_of_mem_head? h.2)
theorem zsk {ks:List Str} {b e:Nat} (h:zje ks b e):Hit ks b e:=by
 refine⟨?_,?_⟩
 . rw[h.2.2.1]; decide +kernel
 . rw[h.2.2.2.1]; rfl
theorem gone {ks:List Str} {b e:Nat} (h:zje ks b e):∀j,e<j->b ∉ stk ks j
 | 0,hj,_=>by omega
 | j+1,hj,hm=>by
   rcases qa4 e j with q|q
   . have ih:=gone h j q;rw[zcz] at hm;unfold push at hm;split at hm
     . rcases List.mem_cons.mp hm with z|z
       . have:=h.1;omega
       . exact ih z
     . split at hm
       . exact ih (List.mem_of_mem_tail hm)
       . exact ih hm
   . have e1:j=e:=by omega
     subst e1;rw[zcz] at hm;unfold push at hm;rw[h.2.2.1,if_neg (by rw[zng]; decide),if_pos rfl,h.2.2.2.1] at hm;have:=(zlx ks b b hm).1;omega
theorem z0f {ks:List Str} {b e k:Nat} (h:zje ks b e) (hk:Hit ks b k):k<=e:=by
 rcases qa4 e k with q|q
 . exact absurd (List.mem_of_mem_head? hk.2) (gone h k q)
 . exact q
def one (ks:List Str) (i:Nat):List (Nat×Nat):=if isE (kd ks i)=true then(match stk ks i with | []=>[] | b :: _=>[(i,b)]) else []
def prs (ks:List Str):Nat->List (Nat×Nat)
 | 0=>[]
 | i+1=>prs ks i++one ks i
def zht (L:List (Nat×Nat)) (b:Nat):Option Nat:=L.foldl (λacc p=>if p.2=b then some p.1 else acc) none
def zcb (L:List (Nat×Nat)) (b:Nat):Option Nat:=L.foldl (λacc p=>if acc.isSome=true then acc else if p.2=b then some p.1 else none) none
theorem zfx (ks:List Str) (i:Nat):(∃b,one ks i=[(i,b)]/\Hit ks b i)\/(one ks i=[]/\∀b,¬ Hit ks b i):=by
 unfold one Hit;by_cases h:isE (kd ks i)=true
 . rw[if_pos h];cases q:stk ks i with
   | nil=>exact .inr ⟨rfl,λb z=>by simp at z⟩
   | cons b r=>exact .inl ⟨b,rfl,h,rfl⟩
 . rw[if_neg h];exact .inr ⟨rfl,λb z=>h z.1⟩
theorem zmq (L:List (Nat×Nat)) (p:Nat×Nat) (b:Nat):zht (L++[p]) b=if p.2=b then some p.1 else zht L b:=by unfold zht; rw[qbc]; rfl
theorem zlm (L:List (Nat×Nat)) (p:Nat×Nat) (b:Nat):zcb (L++[p]) b=if(zcb L b).isSome=true then zcb L b else if p.2=b then some p.1 else none:=by unfold zcb; rw[qbc]; rfl
theorem zot {ks:List Str} {b b' k:Nat} (h:Hit ks b k) (h':Hit ks b' k):b=b':=by have:=h.2.symm.trans h'.2;simpa using this
theorem zp9 (ks:List Str) (b:Nat):∀i,(∀m,zht (prs ks i) b=some m->m<i/\Hit ks b m/\∀k,m<k->k<i->¬ Hit ks b k)/\(zht (prs ks i) b=none->∀k,k<i->¬ Hit ks b k)
 | 0=>⟨λm h=>(by cases h),λ_ k hk=>(by omega)⟩
 | i+1=>by
   obtain⟨ih1,ih2⟩:=zp9 ks b i;show(∀m,zht (prs ks i++one ks i) b=some m->_)/\(zht (prs ks i++one ks i) b=none->_)
   rcases zfx ks i with⟨b',e,hh⟩|⟨e,hn⟩
   . rw[e,zmq];by_cases hb:b'=b
     . rw[if_pos hb];subst hb;exact⟨λm h=>by cases h; exact⟨qca _,hh,λk h1 h2=>by omega⟩,λh=>by cases h⟩
     . rw[if_neg hb];refine⟨λm h=>?_,λh k hk=>?_⟩
       . obtain⟨h1,h2,h3⟩:=ih1 m h;refine⟨by omega,h2,λk q1 q2 hk=>?_⟩;rcases qa4 k i with z|z
         . exact h3 k q1 z hk
         . have:k=i:=by omega
           subst this;exact hb (zot hh hk)
       . intro hk';rcases qa4 k i with z|z
         . exact ih2 h k z hk'
         . have:k=i:=by omega
           subst this;exact hb (zot hh hk')
   . rw[e,qbg];refine⟨λm h=>?_,λh k hk hk'=>?_⟩
     . obtain⟨h1,h2,h3⟩:=ih1 m h;refine⟨by omega,h2,λk q1 q2 hk=>?_⟩;rcases qa4 k i with z|z
       . exact h3 k q1 z hk
       . have:k=i:=by omega
         subst this;exact hn b hk
     . rcases qa4 k i with z|z
       . exact ih2 h k z hk'
       . have:k=i:=by omega
         subst this;exact hn b hk'
theorem zix (ks:List Str) (b:Nat):∀i,(∀m,zcb (prs ks i) b=some m->m<i/\Hit ks b m/\∀k,k<m->¬ Hit ks b k)/\(zcb (prs ks i) b=none->∀k,k<i->¬ Hit ks b k)
 | 0=>⟨λm h=>(by cases h),λ_ k hk=>(by omega)⟩
 | i+1=>by
   obtain⟨ih1,ih2⟩:=zix ks b i;show(∀m,zcb (prs ks i++one ks i) b=some m->_)/\(zcb (prs ks i++one ks i) b=none->_)
   rcases zfx ks i with⟨b',e,hh⟩|⟨e,hn⟩
   . rw[e,zlm];cases hf:zcb (prs ks i) b with
     | some m0 =>
       rw[if_pos (show(some m0).isSome=true from rfl)];obtain⟨h1,h2,h3⟩:=ih1 m0 hf;exact⟨λm h=>by cases h; exact⟨by omega,h2,h3⟩,λh=>by cases h⟩
     | none =>
       rw[if_neg (show ¬ (none:Option Nat).isSome=true by decide)];have hno:=ih2 hf;by_cases hb:b'=b
       . rw[if_pos hb];subst hb;exact⟨λm h=>by cases h; exact⟨qca _,hh,λk hk=>hno k hk⟩,λh=>by cases h⟩
       . rw[if_neg hb];refine⟨λm h=>(by cases h),λ_ k hk hk'=>?_⟩;rcases qa4 k i with z|z
         . exact hno k z hk'
         . have:k=i:=by omega
           subst this;exact hb (zot hh hk')
   . rw[e,qbg];refine⟨λm h=>?_,λh k hk hk'=>?_⟩
     . obtain⟨h1,h2,h3⟩:=ih1 m h;exact⟨by omega,h2,h3⟩
     . rcases qa4 k i with z|z
       . exact ih2 h k z hk'
       . have:k=i:=by omega
         subst this;exact hn b hk'
theorem zzj {ks:List Str} {b e:Nat} (h:zje ks b e):zht (prs ks ks.length) b=some e:=by
 obtain⟨h1,h2⟩:=zp9 ks b ks.length;cases q:zht (prs ks ks.length) b with
 | none=>exact absurd (zsk h) (h2 q e h.2.1)
 | some m =>
   obtain⟨q1,q2,q3⟩:=h1 m q;have:=z0f h q2;rcases qa4 m e with z|z
   . exact absurd (zsk h) (q3 e z h.2.1)
   . have:m=e:=by omega
     rw[this]
def zrx (ks:List Str) (b f:Nat):Prop:=f<ks.length/\Hit ks b f/\∀k,k<f->¬ Hit ks b k
theorem zof {ks:List Str} {b f f':Nat} (h:zrx ks b f) (h':zrx ks b f'):f=f':=by
 rcases Nat.lt_trichotomy f f' with z|z|z
 . exact absurd h.2.1 (h'.2.2 f z)
 . exact z
 . exact absurd h'.2.1 (h.2.2 f' z)
theorem zyl {ks:List Str} {b f:Nat} (h:zrx ks b f):zcb (prs ks ks.length) b=some f:=by
 obtain⟨h1,h2⟩:=zix ks b ks.length;cases q:zcb (prs ks ks.length) b with
 | none=>exact absurd h.2.1 (h2 q f h.1)
 | some m =>
   obtain⟨q1,q2,q3⟩:=h1 m q;rw[zof (⟨q1,q2,q3⟩:zrx ks b m) h]
theorem zuj {ks:List Str} {b:Nat} (h:¬ isO (kd ks b)=true):zcb (prs ks ks.length) b=none:=by
 obtain⟨h1,h2⟩:=zix ks b ks.length;cases q:zcb (prs ks ks.length) b with
 | none=>rfl
 | some m=>exact absurd (zvk (h1 m q).2.1).2 h
inductive Beh (ks:List Str):Nat->Nat->Prop
 | els {k b e r:Nat}:kd ks (k+1)="else"->(stk ks (k+1)).head?=some b->zje ks b e->Beh ks e r->Beh ks k r
 | whl {k b:Nat}:kd ks (k+1)="end"->(stk ks (k+1)).head?=some b->kd ks b="while"->Beh ks k b
 | fin {k b r:Nat}:kd ks (k+1)="end"->(stk ks (k+1)).head?=some b->¬ kd ks b="while"->Beh ks (k+1) r->Beh ks k r
 | oth {k:Nat}:¬ kd ks (k+1)="else"->¬ kd ks (k+1)="end"->Beh ks k (k+1)
theorem zmi:¬ (("else":Str)="end"):=by decide +kernel
theorem Beh.uniq {ks:List Str} {k r:Nat} (h:Beh ks k r):∀{r':Nat},Beh ks k r'->r=r':=by
 induction h with
 | els h1 h2 h3 h4 ih =>
   intro r' h';cases h' with
   | els g1 g2 g3 g4 =>
     have hb:=Option.some.inj (h2.symm.trans g2);subst hb;have he:=zvb h3 g3;subst he;exact ih g4
   | whl g1 _ _=>exact absurd (h1.symm.trans g1) zmi
   | fin g1 _ _ _=>exact absurd (h1.symm.trans g1) zmi
   | oth g1 _=>exact absurd h1 g1
 | whl h1 h2 h3 =>
   intro r' h';cases h' with
   | els g1 _ _ _=>exact absurd (g1.symm.trans h1) zmi
   | whl g1 g2 g3=>exact Option.some.inj (h2.symm.trans g2)
   | fin g1 g2 g3 _ =>
     have hb:=Option.some.inj (h2.symm.trans g2);subst hb;exact absurd h3 g3
   | oth _ g2=>exact absurd h1 g2
 | fin h1 h2 h3 h4 ih =>
   intro r' h';cases h' with
   | els g1 _ _ _=>exact absurd (g1.symm.trans h1) zmi
   | whl g1 g2 g3 =>
     have hb:=Option.some.inj (h2.symm.trans g2);subst hb;exact absurd g3 h3
   | fin g1 g2 g3 g4=>exact ih g4
   | oth _ g2=>exact absurd h1 g2
 | oth h1 h2 =>
   intro r' h';cases h' with
   | els g1 _ _ _=>exact absurd g1 h1
   | whl g1 _ _=>exact absurd g1 h2
   | fin g1 _ _ _=>exact absurd g1 h2
   | oth _ _=>rfl
theorem zxh:¬ (("back":Str)="else")/\¬ (("back":Str)="end"):=by decide +kernel
theorem zmr {s:Str} (h:isO s=true):¬ isE s=true:=by unfold isE;rw[decide_eq_false (zq3 h),decide_eq_false (zr7 h)];decide
theorem z4v {s:Str} (h1:¬ s="else") (h2:¬ s="end"):¬ isE s=true:=by unfold isE;rw[decide_eq_false h1,decide_eq_false h2];decide
inductive Due (ks:List Str):Nat->Option (List Nat)->Prop
 | no {k:Nat}:isE (kd ks k)=true->Due ks k none
 | back {k:Nat}:kd ks k="back"->Due ks k (some [])
 | two {k f r1 r2:Nat}:isO (kd ks k)=true->zrx ks k f->Beh ks k r1->Beh ks f r2->Due ks k (some [r1,r2])
 | one {k r:Nat}:¬ isE (kd ks k)=true->¬ kd ks k="back"->¬ isO (kd ks k)=true->Beh ks k r->Due ks k (some [r])
theorem ztm:¬ isE ("back":Str)=true:=by decide +kernel
theorem zw0:¬ isO ("back":Str)=true:=by decide +kernel
theorem Due.uniq {ks:List Str} {k:Nat} {o o':Option (List Nat)} (h:Due ks k o) (h':Due ks k o'):o=o':=by
 cases h with
 | no h =>
   cases h' with
   | no _=>rfl
   | back g=>rw[g] at h; exact absurd h ztm
   | two g _ _ _=>exact absurd h (zmr g)
   | one g _ _ _=>exact absurd h g
 | back h =>
   cases h' with
   | no g=>rw[h] at g; exact absurd g ztm
   | back _=>rfl
   | two g _ _ _=>rw[h] at g; exact absurd g zw0
   | one _ g _ _=>exact absurd h g
 | two h1 h2 h3 h4 =>
   cases h' with
   | no g=>exact absurd g (zmr h1)
   | back g=>rw[g] at h1; exact absurd h1 zw0
   | two g1 g2 g3 g4 =>
     have:=zof h2 g2;subst this;rw[h3.uniq g3,h4.uniq g4]
   | one _ _ g _=>exact absurd h1 g
 | one h1 h2 h3 h4 =>
   cases h' with
   | no g=>exact absurd g h1
   | back g=>exact absurd g h2
   | two g _ _ _=>exact absurd g h3
   | one _ _ _ g=>rw[h4.uniq g]
theorem zyf {ks:List Str} {b e:Nat} (h:zje ks b e):∃f,zrx ks b f:=by
 obtain⟨h1,h2⟩:=zix ks b ks.length;cases q:zcb (prs ks ks.length) b with
 | none=>exact absurd (zsk h) (h2 q e h.2.1)
 | some m =>
   obtain⟨q1,q2,q3⟩:=h1 m q;exact⟨m,q1,q2,q3⟩
theorem zta {ks:List Str} (w:Wf ks) {k:Nat} (hk:k<ks.length) (h:¬ kd ks k="back"):k+1<ks.length:=by
 rcases qa4 (k+1) ks.length with z|z
 . exact z
 . exact absurd (w.last k (by omega)) h
theorem zuh {ks:List Str} (w:Wf ks) {b f:Nat} (h:zrx ks b f):f+1<ks.length:=by refine zta w h.1 λz=>?_;have:=h.2.1.1;rw[z] at this;exact ztm this
theorem zk7 {ks ys:List Str} {i:Nat} (h:i<ks.length):kd (ks++ys) i=kd ks i:=by unfold kd;rw[qbu,qbu,qa3 h]
theorem zzl (ks ys:List Str) (i:Nat):kd (ks++ys) (ks.length+i)=kd ys i:=by unfold kd;rw[qbu,qbu,qbn (Nat.le_add_right _ _),Nat.add_sub_cancel_left]
theorem zpg (ks:List Str) (x:Str):kd (ks++[x]) ks.length=x:=by have:=zzl ks [x] 0;rw[Nat.add_zero] at this;rw[this];rfl
theorem zma (ks ys:List Str):∀i,i<=ks.length->stk (ks++ys) i=stk ks i
 | 0,_=>rfl
 | i+1,h=>by rw[zcz,zcz,zma ks ys i (by omega),zk7 (by omega)]
structure Good (ks os:List Str):Prop where
 open_:∀i,i<ks.length->isE (kd ks i)=true->stk ks i≠[]
 els:∀i b r,i<ks.length->kd ks i="else"->stk ks i=b :: r->kd ks b="if"
 len:(stk ks ks.length).length=os.length
 mt:∀(i b:Nat),(stk ks ks.length)[i]?=some b->os[i]?=some "if"->kd ks b="if"
theorem good_nil:Good [] []:=⟨λi h=>absurd h (qcw i),λi _ _ h=>absurd h (qcw i),rfl,λi b h=>by cases h⟩
theorem zsx (ks:List Str) (x:Str):stk (ks++[x]) (ks++[x]).length=push (stk ks ks.length) ks.length x:=by rw[List.length_append];show stk (ks++[x]) (ks.length+1)=_;rw[zcz,zma _ _ _ (qae _),zpg]
theorem Good.snoc {ks os os':List Str} {x:Str} (g:Good ks os) (ho:isE x=true->os≠[]) (he:x="else"->∃r,os=("if":Str) :: r)
   (hl:(push (stk ks ks.length) ks.length x).length=os'.length) (hm:∀(i b:Nat),(push (stk ks ks.length) ks.length x)[i]?=some b->os'[i]?=some "if"->kd (ks++[x]) b="if"):Good (ks++[x]) os':=by
 have hn:(ks++[x]).length=ks.length+1:=by rw[List.length_append]; rfl
 refine⟨λi h hE=>?_,λi b r h hE hs=>?_,by rw[zsx]; exact hl,by rw[zsx]; exact hm⟩
 . rw[zma _ _ _ (by omega)];rcases qa4 i ks.length with z|z
   . rw[zk7 z] at hE;exact g.open_ i z hE
   . have:i=ks.length:=by omega
     subst this;rw[zpg] at hE;intro e;have:=g.len;rw[e] at this;exact ho hE (qc0.mp this.symm)
 . rw[zma _ _ _ (by omega)] at hs;rcases qa4 i ks.length with z|z
   . rw[zk7 z] at hE;have hb:=(zlx ks i b (by rw[hs]; exact List.mem_cons_self)).1;rw[zk7 (by omega)];exact g.els i b r z hE hs
   . have:i=ks.length:=by omega
     subst this;rw[zpg] at hE;obtain⟨r',e⟩:=he hE;have hb:=(zlx ks ks.length b (by rw[hs]; exact List.mem_cons_self)).1;rw[zk7 hb];exact g.mt 0 b (by rw[hs]; rfl) (by rw[e]; rfl)
theorem Good.keep {ks os:List Str} (g:Good ks os) (x:Str) {i b:Nat} (h:(stk ks ks.length)[i]?=some b) (h':os[i]?=some "if"):kd (ks++[x]) b="if":=by have hb:=(zlx ks ks.length b (List.mem_of_getElem? h)).1;rw[zk7 hb];exact g.mt i b h h'
theorem Good.plain {ks os:List Str} {x:Str} (g:Good ks os) (h1:¬ isO x=true) (h2:¬ isE x=true) (h3:¬ x="end"):Good (ks++[x]) os:=by
 have e:push (stk ks ks.length) ks.length x=stk ks ks.length:=by unfold push; rw[if_neg h1,if_neg h3]
 refine g.snoc (λz=>absurd z h2) (λz=>absurd (by rw[z]; decide +kernel) h2) (by rw[e,g.len]) ?_;rw[e];intro i b h h';exact g.keep x h h'
theorem Good.back {ks:List Str} (g:Good ks []):Wf (ks++[("back":Str)]):=by
 have hs:stk ks ks.length=[]:=qc0.mp g.len;have g':=g.plain zw0 ztm (by decide +kernel);refine⟨g'.open_,g'.els,qc0.mp g'.len,λi h=>?_,by rw[List.length_append]; exact Nat.succ_pos _⟩;have:i=ks.length:=by rw[List.length_append] at h; simpa using h
 rw[this,zpg]
structure RowsAt (K:W.Frag) (H:Hp) (a:Addr) (ks:List Str):Prop where
 ex:∃rs:List Addr,SqT K H a (rs.map V.ref)/\rs.length=ks.length/\∀i r,rs[i]?=some r->∃rest,SqT K H r (V.str (kd ks i) :: rest)
theorem RowsAt.mono {K:W.Frag} {H H':Hp} {a:Addr} {ks:List Str} (h:RowsAt K H a ks) (e:zan H H'):RowsAt K H' a ks :=
 ⟨let ⟨rs,h1,h2,h3⟩:=h.ex; ⟨rs,e.tup h1,h2,λi r q=>let ⟨rest,z⟩:=h3 i r q; ⟨rest,e.tup z⟩⟩⟩
theorem at0 {x:V} {r:List V}:atI (x :: r) 0=some x:=by unfold atI ixN;rw[if_pos (by decide),if_pos (by simp)];rfl
theorem ixk {K:W.Frag} {H:Hp} {Q:VK} {a:Addr} {ks:List Str} {i:Int} (h:RowsAt K H a ks) (h0:0<=i) (h1:i<ks.length) (q:Q (.str (kd ks i.toNat)) H):z3z K (.ref a) (.int i) H λx H1=>z3z K x (.int 0) H1 Q:=by
 obtain⟨rs,e1,e2,e3⟩:=h.ex;have hi:i.toNat<rs.length:=by omega
 obtain⟨rest,hr⟩:=e3 i.toNat rs[i.toNat] (by simp [hi]);refine⟨a,_,i,.ref rs[i.toNat],rfl,rfl,e1,?_,rs[i.toNat],_,0,_,rfl,rfl,hr,at0,q⟩;have e:atI (rs.map V.ref) i=some (V.ref rs[i.toNat]):=by unfold atI ixN;rw[if_pos h0,if_pos (by rw[List.length_map]; omega),qco,List.getElem?_map];simp [hi]
 exact e
def zx5 (L:List (Nat×Nat)):List (Key×V):=L.map λp=>(Sum.inl (p.1:Int),V.int (p.2:Int))
def bg (ks:List Str) (i:Nat):List (Key×V):=zx5 (prs ks i)
theorem z0p (ks:List Str):∀i,∀p∈prs ks i,p.1<i
 | 0,p,h=>by cases h
 | i+1,p,h=>by
   rcases List.mem_append.mp h with h|h
   . have:=z0p ks i p h;omega
   . rcases zfx ks i with⟨b,e,_⟩|⟨e,_⟩
     . rw[e] at h;have:p=(i,b):=by simpa using h
       rw[this];exact qca _
     . rw[e] at h;cases h
theorem z32 (ks:List Str) (i:Nat):zcx (bg ks i) (Sum.inl (i:Int):Key)=none:=by
 have h:=zgl (Sum.inl (i:Int):Key) (bg ks i);cases q:zcx (bg ks i) (Sum.inl (i:Int):Key) with
 | none=>rfl
 | some v =>
   rw[q] at h;obtain⟨kv,hm,e⟩:=qcb.mp h;obtain⟨p,hp,rfl⟩:=List.mem_map.mp hm;have e:=of_decide_eq_true e;have:(p.1:Int)=(i:Int):=Sum.inl.inj e;have:=z0p ks i p hp;omega
theorem ztc {ks:List Str} {i b:Nat} (h:Hit ks b i):zbd (bg ks i) (Sum.inl (i:Int):Key) (V.int (b:Int))=bg ks (i+1):=by
 rw[zs5 _ (z32 ks i)];rcases zfx ks i with⟨b',e,h'⟩|⟨e,h'⟩
 . show zx5 (prs ks i)++_=zx5 (prs ks i++one ks i);rw[e,zot h h'];unfold zx5;rw[List.map_append];rfl
 . exact absurd h (h' b)
theorem zv5 {ks:List Str} {i:Nat} (h:¬ isE (kd ks i)=true):bg ks (i+1)=bg ks i:=by
 rcases zfx ks i with⟨b',e,h'⟩|⟨e,h'⟩
 . exact absurd h'.1 h
 . show zx5 (prs ks i++one ks i)=_;rw[e,qbg];rfl
theorem zrz (ks:List Str):∀i,(prs ks i).length<=i
 | 0=>qae _
 | i+1=>by have:=zrz ks i;show(prs ks i++one ks i).length<=i+1;rw[List.length_append];rcases zfx ks i with⟨b',e,h'⟩|⟨e,h'⟩ <;> rw[e] <;> simp <;> omega
theorem zvu (ks:List Str) (i:Nat):(bg ks i).length<=i:=by unfold bg zx5; rw[List.length_map]; exact zrz ks i
def zud (ks:List Str) (i:Nat):List V:=(stk ks i).reverse.map λ(n:Nat)=>V.int (n:Int)
theorem zy2 (ks:List Str):∀i,(zud ks i).length<=i:=by
 intro i;unfold zud;rw[List.length_map,List.length_reverse]
 induction i with
 | zero=>exact qae _
 | succ i ih =>
   rw[zcz];unfold push;split
   . simp; omega
   . split
     . simp; omega
     . omega
theorem inO (s:Str):inV (.str s) [V.str "if",V.str "while"]=isO s:=by show((("if":Str)==s) || ((("while":Str)==s) || false))=isO s;unfold isO;rw[qd2];congr 1 <;> (rw[qb1,beq_iff_eq,decide_eq_true_eq]; exact eq_comm)
theorem inE (s:Str):inV (.str s) [V.str "else",V.str "end"]=isE s:=by show((("else":Str)==s) || ((("end":Str)==s) || false))=isE s;unfold isE;rw[qd2];congr 1 <;> (rw[qb1,beq_iff_eq,decide_eq_true_eq]; exact eq_comm)
theorem le0:0<=sizeLine:=by decide
theorem le1:1<=sizeLine:=by decide
theorem le2:2<=sizeLine:=by decide
theorem zd8 {n:Nat} (h:n<1000000):n<sizeLine:=by
 have:(1000000:Nat)<sizeLine:=by decide
 omega
theorem zsy {ks:List Str} {i b:Nat} {r:List Nat} (h:stk ks i=b :: r):atI (zud ks i) (-1)=some (.int (b:Int))/\(zud ks i)[(zud ks i).length - 1]?=some (.int (b:Int))/\(zud ks i).dropLast=r.reverse.map λ(n:Nat)=>V.int (n:Int):=by
 have e:zud ks i=(r.reverse.map λ(n:Nat)=>V.int (n:Int))++[V.int (b:Int)]:=by unfold zud;rw[h,List.reverse_cons,List.map_append];rfl
 rw[e];refine⟨?_,by simp,by simp⟩;unfold atI ixN;rw[if_neg (by decide),if_pos (by simp; omega),qco];have:((-1:Int)+(((r.reverse.map λ(n:Nat)=>V.int (n:Int))++[V.int (b:Int)]).length:Int)).toNat=(r.reverse.map λ(n:Nat)=>V.int (n:Int)).length:=by rw[List.length_append];simp;omega
 rw[this];simp
theorem zxn {K:W.Frag} {H:Hp} {a q:Addr} {xs:List V} {kvs:List (Key×V)} {o:HO} (h:SqT K H a xs) (hq:H q=some (.dK kvs)):SqT K (upd H q o) a xs:=by
 rcases h with(h|⟨o,h⟩)|h
 . exact .inl (.inl (by rw[zag (zrm h hq (by intro z; cases z))]; exact h))
 . exact .inl (.inr ⟨o,by rw[zag (zrm h hq (by intro z; cases z))]; exact h⟩)
 . exact .inr h
theorem RowsAt.frz {K:W.Frag} {H:Hp} {a q:Addr} {ks:List Str} {kvs:List (Key×V)} {o:HO} (h:RowsAt K H a ks) (hq:H q=some (.dK kvs)):RowsAt K (upd H q o) a ks :=
 ⟨let ⟨rs,h1,h2,h3⟩:=h.ex; ⟨rs,zxn h1 hq,h2,λi r z=>let ⟨rest,y⟩:=h3 i r z; ⟨rest,zxn y hq⟩⟩⟩
def BehL (H:Hp) (l:Addr) (ks:List Str):Prop:=∃bs,H l=some (.lst bs)/\bs.length=ks.length/\∀k,k+1<ks.length->∃r:Nat,Beh ks k r/\bs[k]?=some (.int (r:Int))
def z3y (n:Nat):List V:=(List.replicate n [V.non]).flatten
theorem zv9 (n:Nat):(z3y n).length=n:=by unfold z3y; rw[zwk]; simp
theorem z36 {ks:List Str} {b k:Nat} (n:Nat) (hk:k<n) (h:Hit ks b k):zcx (bg ks n) (Sum.inl (k:Int):Key)=some (.int (b:Int)):=by
 induction n with
 | zero=>omega
 | succ n ih =>
   rcases qa4 k n with z|z
   . rcases zfx ks n with⟨b',e,h'⟩|⟨e,h'⟩
     . rw[<- ztc h',zda,if_neg (λz'=>by have:(k:Int)=(n:Int):=Sum.inl.inj z'; omega)];exact ih z
     . have:bg ks (n+1)=bg ks n:=by show zx5 (prs ks n++one ks n)=_;rw[e,qbg];rfl
       rw[this];exact ih z
   . have:k=n:=by omega
     subst this;rw[<- ztc h,zda,if_pos rfl]
theorem z0k {ks:List Str} {n i:Nat} {kv:Key×V} (h:(bg ks n)[i]?=some kv):∃p:Nat×Nat,(prs ks n)[i]?=some p/\kv=(Sum.inl (p.1:Int),V.int (p.2:Int)):=by
 unfold bg zx5 at h;rw[List.getElem?_map] at h;cases q:(prs ks n)[i]? with
 | none=>rw[q] at h; cases h
 | some p=>rw[q] at h; exact⟨p,rfl,by simpa using h.symm⟩
def natsV (l:List Nat):List V:=l.map λ(n:Nat)=>V.int (n:Int)
def zx7 (H:Hp) (v:V):Option (List Nat)->Prop
 | none=>v=.non
 | some l=>∃p,v=.ref p/\H p=some (.tup (natsV l))
theorem zx7.mono {H H':Hp} {v:V} {o:Option (List Nat)} (h:zx7 H v o) (e:zan H H'):zx7 H' v o:=by
 cases o with
 | none=>exact h
 | some l=>obtain⟨p,h1,h2⟩:=h; exact⟨p,h1,e _ _ h2⟩
theorem zx7.lst {H:Hp} {q:Addr} {l l':List V} {v:V} {o:Option (List Nat)} (h:zx7 H v o) (hq:H q=some (.lst l)):zx7 (upd H q (.lst l')) v o:=by
 cases o with
 | none=>exact h
 | some l=>obtain⟨p,h1,h2⟩:=h; exact⟨p,h1,by rw[zag (zrm h2 hq (by intro z; cases z))]; exact h2⟩
def FoundN (H:Hp) (l:Addr) (ks:List Str) (i:Nat):Prop:=∃vs:List V,H l=some (.lst vs)/\vs.length=i/\∀k v,vs[k]?=some v->∃o,Due ks k o/\zx7 H v o
theorem FoundN.mono {H H':Hp} {l:Addr} {ks:List Str} {i:Nat} (h:FoundN H l ks i) (e:zan H H'):FoundN H' l ks i :=
 let ⟨vs,h1,h2,h3⟩:=h; ⟨vs,e _ _ h1,h2,λk v q=>let ⟨o,d,z⟩:=h3 k v q; ⟨o,d,z.mono e⟩⟩
theorem FoundN.push {H:Hp} {l:Addr} {ks:List Str} {i:Nat} {vs:List V} {v:V} {o:Option (List Nat)} (h1:H l=some (.lst vs)) (h2:vs.length=i) (h3:∀k v,vs[k]?=some v->∃o,Due ks k o/\zx7 H v o) (hd:Due ks i o) (hv:zx7 H v o):FoundN (upd H l (.lst (vs++[v]))) l ks (i+1):=by
 refine⟨_,zac,by rw[List.length_append,h2]; rfl,λk v' q=>?_⟩;rcases qa4 k vs.length with z|z
 . rw[qa3 z] at q;obtain⟨o',d,y⟩:=h3 k v' q;exact⟨o',d,y.lst h1⟩
 . rw[qbn z] at q;have hk:k - vs.length=0:=by
     rcases Nat.eq_zero_or_pos (k - vs.length) with y|y
     . exact y
     . rw[qbl (by simp; omega)] at q;cases q
   rw[hk] at q;have hv':v=v':=by simpa using q
   subst hv';have:k=i:=by omega
   subst this;exact⟨o,hd,hv.lst h1⟩
section
variable {P:Program} {w:World} {K:W.Frag} {mg:Str->Option Value} {base:Heap}
def sp_begins_of (K:W.Frag):Sp:=λvs H Q _=>∃(a:Addr) (ks:List Str),vs=[.ref a]/\RowsAt K H a ks/\Wf ks/\ks.length<=1000/\∀d H',zan H H'->H d=none->H' d=some (.dK (bg ks ks.length))->Q (.ref d) H'
def sp_firsts_behind (K:W.Frag):Sp:=λvs H Q _=>∃(a d:Addr) (ks:List Str),vs=[.ref a,.ref d]/\RowsAt K H a ks/\Wf ks/\ks.length<=1000/\H d=some (.dK (bg ks ks.length))/\∀l o H',zan (upd H d (.frz o (.dK (bg ks ks.length)))) H'->H l=none->BehL H' l ks->Q (.ref l) H'
def sp_ways (K:W.Frag):Sp:=λvs H Q _=>∃(a:Addr) (ks:List Str),vs=[.ref a]/\RowsAt K H a ks/\Wf ks/\ks.length<=1000/\∀l H',zan H H'->H l=none->FoundN H' l ks ks.length->Q (.ref l) H'
theorem zow {n:Nat} (h:n<1000000):n<=sizeLine:=by
 have:(1000000:Nat)<sizeLine:=by decide
 omega
end
end K13
namespace Fl
open PySem L2 Gx
structure Rw where
 r:Addr
 k:Str
 c:Str
structure Fd where
 name:Str
 fa:Addr
 ra:Addr
 rs:List Rw
def z23 (K:W.Frag) (H:Hp) (w:Rw):Prop:=∃rest,SqT K H w.r (V.str w.k :: rest)/\(w.k="call"->∃x y,rest=[x,.str w.c,y])
theorem z23.mono {K:W.Frag} {H H':Hp} {w:Rw} (e:zan H H') (h:z23 K H w):z23 K H' w:=let ⟨rest,h1,h2⟩:=h; ⟨rest,e.tup h1,h2⟩
structure FnAt (K:W.Frag) (H:Hp) (f:Fd):Prop where
 fn:∃fo pa,SqT K H f.fa [.str f.name,fo,.ref pa,.ref f.ra]
 rw_:SqT K H f.ra (f.rs.map λw=>V.ref w.r)
 rk:∀w∈f.rs,z23 K H w
 fu:∃ps ds,K12.FunAt K H f.fa ps ds
 wf:K13.Wf (f.rs.map (·.k))
 len:f.rs.length<=100
theorem FnAt.mono {K:W.Frag} {H H':Hp} {f:Fd} (e:zan H H') (h:FnAt K H f):FnAt K H' f :=
 ⟨let ⟨a,b,z⟩:=h.fn; ⟨a,b,e.tup z⟩,e.tup h.rw_,λw hw=>(h.rk w hw).mono e,let ⟨a,b,z⟩:=h.fu; ⟨a,b,z.mono e⟩,h.wf,h.len⟩
theorem FnAt.rows {K:W.Frag} {H:Hp} {f:Fd} (h:FnAt K H f):K13.RowsAt K H f.ra (f.rs.map (·.k)):=by
 refine⟨f.rs.map (·.r),by rw[qbx]; exact h.rw_,by rw[List.length_map,List.length_map],λi r hr=>?_⟩;rw[List.getElem?_map] at hr;cases e:f.rs[i]? with
 | none=>rw[e] at hr; cases hr
 | some w =>
   rw[e] at hr;cases hr;obtain⟨rest,h1,_⟩:=h.rk w (List.mem_of_getElem? e);refine⟨rest,?_⟩;have:K13.kd (f.rs.map (·.k)) i=w.k:=by unfold K13.kd;rw[qbu,List.getElem?_map,e];rfl
   rw[this];exact h1
structure FS (C:Addr) (H:Hp) (x dx:Addr) (fs:List (Str×V)) (d:Nat->Addr) (kv:Nat->List (Key×V)):Prop where
 ob:H x=some (.ins C dx fs)
 dc:∀j,j<6->H (d j)=some (.dK (kv j))
theorem FS.mono {C:Addr} {H H':Hp} {x dx:Addr} {fs:List (Str×V)} {d:Nat->Addr} {kv:Nat->List (Key×V)} (e:zan H H') (h:FS C H x dx fs d kv):FS C H' x dx fs d kv:=⟨e _ _ h.ob,λj hj=>e _ _ (h.dc j hj)⟩
theorem FS.put {C:Addr} {H:Hp} {x dx:Addr} {fs:List (Str×V)} {d:Nat->Addr} {kv:Nat->List (Key×V)} (h:FS C H x dx fs d kv) (inj:∀i j,i<6->j<6->d i=d j->i=j) (j:Nat) (hj:j<6) (k':List (Key×V)):FS C (upd H (d j) (.dK k')) x dx fs d (λi=>if i=j then k' else kv i):=by
 refine⟨?_,λi hi=>?_⟩
 . rw[zag (zrm h.ob (h.dc j hj) (by intro z; cases z))]; exact h.ob
 . by_cases e:i=j
   . subst e;rw[zac,if_pos rfl]
   . rw[zag (λz=>e (inj i j hi hj z)),if_neg e];exact h.dc i hi
def zqg (v:V) (d:Nat->Addr):List (Str×V):=zj2 "ways_in" (.ref (d 5)) (zj2 "names_in" (.ref (d 4)) (zj2 "rows_of" (.ref (d 3)) (zj2 "params_of" (.ref (d 2)) (zj2 "folded_of" (.ref (d 1)) (zj2 "number_of" (.ref (d 0)) (zj2 "last" v []))))))
theorem zvy (v:V) (d:Nat->Addr):(zqg v d).lookup ("number_of":Str)=some (.ref (d 0)):=by unfold zqg;rw[zar,if_neg (by decide +kernel),zar,if_neg (by decide +kernel),zar,if_neg (by decide +kernel),zar,if_neg (by decide +kernel),zar,if_neg (by decide +kernel),zar,if_pos rfl]
theorem zw3 (v:V) (d:Nat->Addr):(zqg v d).lookup ("folded_of":Str)=some (.ref (d 1)):=by unfold zqg;rw[zar,if_neg (by decide +kernel),zar,if_neg (by decide +kernel),zar,if_neg (by decide +kernel),zar,if_neg (by decide +kernel),zar,if_pos rfl]
theorem zq7 (v:V) (d:Nat->Addr):(zqg v d).lookup ("params_of":Str)=some (.ref (d 2)):=by unfold zqg;rw[zar,if_neg (by decide +kernel),zar,if_neg (by decide +kernel),zar,if_neg (by decide +kernel),zar,if_pos rfl]
theorem zvq (v:V) (d:Nat->Addr):(zqg v d).lookup ("rows_of":Str)=some (.ref (d 3)):=by unfold zqg;rw[zar,if_neg (by decide +kernel),zar,if_neg (by decide +kernel),zar,if_pos rfl]
theorem zsr (v:V) (d:Nat->Addr):(zqg v d).lookup ("names_in":Str)=some (.ref (d 4)):=by unfold zqg;rw[zar,if_neg (by decide +kernel),zar,if_pos rfl]
theorem zv3 (v:V) (d:Nat->Addr):(zqg v d).lookup ("ways_in":Str)=some (.ref (d 5)):=by unfold zqg;rw[zar,if_pos rfl]
theorem z2g (v:V) (d:Nat->Addr):(zqg v d).lookup ("last":Str)=some v:=by unfold zqg;rw[zar,if_neg (by decide +kernel),zar,if_neg (by decide +kernel),zar,if_neg (by decide +kernel),zar,if_neg (by decide +kernel),zar,if_neg (by decide +kernel),zar,if_neg (by decide +kernel),zar,if_pos rfl]
def dd (d0 d1 d2 d3 d4 d5:Addr):Nat->Addr
 | 0=>d0
 | 1=>d1
 | 2=>d2
 | 3=>d3
 | 4=>d4
 | _=>d5
theorem zbj {H:Hp} {a b:Addr} {o:HO} (h:upd H a o b=none):b≠a/\H b=none:=by
 have hn:b≠a:=λz=>by rw[z,zac] at h; cases h
 rw[zag hn] at h;exact⟨hn,h⟩
theorem za2 {H:Hp} {a b:Addr} {o o':HO} (h:H b=some o) (hn:b≠a):upd H a o' b=some o:=by rw[zag hn]; exact h
theorem zlc (f:Str) (v:V) (l:List (Str×V)) (k:Nat) (h:l.length<=k):(zj2 f v l).length<=k+1:=Nat.le_trans (zer f v l) (by omega)
theorem zll {α:Type} {l:List α} {f:α->V} {r:Int} {a:α} (h0:0<=r) (h:l[r.toNat]?=some a):atI (l.map f) r=some (f a):=by obtain⟨j,rfl⟩:=qb0 h0;refine zc2 ?_;rw[qbe] at h;rw[List.getElem?_map,h];rfl
end Fl
namespace L2
open PySem
def hl (H:Hp):Hp:=λb=>match H b with
 | some (.lst xs)=>some (.lst xs)
 | some (.tup xs)=>some (.tup xs)
 | _=>none
theorem zsa {H:Hp}:zan (hl H) H:=λb o h=>by
 unfold hl at h;split at h
 . rename_i e; rw[e]; exact h
 . rename_i e; rw[e]; exact h
 . cases h
theorem zz8 {H:Hp} {b:Addr} {xs:List V} (h:H b=some (.lst xs)):hl H b=some (.lst xs):=by unfold hl; rw[h]
theorem z25 {H:Hp} {b:Addr} {xs:List V} (h:H b=some (.tup xs)):hl H b=some (.tup xs):=by unfold hl; rw[h]
theorem zan.hl {H H':Hp} (e:zan H H'):zan (hl H) (hl H'):=λb o h=>by have h1:=zsa _ _ h;have h2:=e _ _ h1;unfold L2.hl at h ⊢;rw[h1] at h;rw[h2];exact h
theorem z35 {H:Hp} {a:Addr} {o:HO} (h:∀xs,H a≠some (.lst xs)/\H a≠some (.tup xs)) (ho:∀xs,o≠.lst xs/\o≠.tup xs):hl (upd H a o)=hl H:=by
 funext b;unfold hl upd;by_cases hb:b=a
 . subst hb;rw[if_pos rfl];cases o with
   | lst xs=>exact absurd rfl (ho xs).1
   | tup xs=>exact absurd rfl (ho xs).2
   | _ =>
     cases e:H b with
     | none=>rfl
     | some u=>cases u with
       | lst xs=>exact absurd e (h xs).1
       | tup xs=>exact absurd e (h xs).2
       | _=>rfl
 . rw[if_neg hb]
theorem zup {H:Hp} {a:Addr} {kvs kvs':List (Key×V)} (h:H a=some (.dK kvs)):hl (upd H a (.dK kvs'))=hl H :=
 z35 (λxs=>⟨(by rw[h]; intro z; cases z),(by rw[h]; intro z; cases z)⟩) λxs=>⟨(by intro z; cases z),(by intro z; cases z)⟩
end L2
namespace K13
open PySem L2
theorem FoundN.hl {H:Hp} {l:Addr} {ks:List Str} {i:Nat} (h:FoundN H l ks i):FoundN (L2.hl H) l ks i:=by
 obtain⟨vs,h1,h2,h3⟩:=h;refine⟨vs,zz8 h1,h2,λk v q=>?_⟩;obtain⟨o,d,z⟩:=h3 k v q;refine⟨o,d,?_⟩;cases o with
 | none=>exact z
 | some l=>obtain⟨p,z1,z2⟩:=z; exact⟨p,z1,z25 z2⟩
end K13
namespace F2
open PySem L2 Gx Fl
structure Fd where
 name:Str
 fo:V
 fa:Addr
 pa:Addr
 ra:Addr
 ps:List Str
 rs:List Rw
 ds:List K12.RowD
structure FnAt (K:W.Frag) (H:Hp) (f:Fd):Prop where
 fn:SqT K H f.fa [.str f.name,f.fo,.ref f.pa,.ref f.ra]
 pr:SqT K H f.pa (f.ps.map V.str)
 rw_:SqT K H f.ra (f.rs.map λw=>V.ref w.r)
 rk:∀w∈f.rs,z23 K H w
 fu:K12.FunAt K H f.fa f.ps f.ds
 wf:K13.Wf (f.rs.map (·.k))
 len:f.rs.length<=100
theorem FnAt.mono {K:W.Frag} {H H':Hp} {f:Fd} (e:zan H H') (h:FnAt K H f):FnAt K H' f :=
 ⟨e.tup h.fn,e.tup h.pr,e.tup h.rw_,λw hw=>(h.rk w hw).mono e,h.fu.mono e,h.wf,h.len⟩
def toF (f:Fd):Fl.Fd:=⟨f.name,f.fa,f.ra,f.rs⟩
theorem FnAt.old {K:W.Frag} {H:Hp} {f:Fd} (h:FnAt K H f):Fl.FnAt K H (toF f):=⟨⟨_,_,h.fn⟩,h.rw_,h.rk,⟨_,_,h.fu⟩,h.wf,h.len⟩
def nms (f:Fd):List Str:=K12.onceL (K12.allOf f.ps f.ds)
def kds (f:Fd):List Str:=f.rs.map (·.k)
def kD (g:Nat->Fd->V) (fns:List Fd):List (Key×V):=fns.mapIdx λi f=>(Sum.inr f.name,g i f)
theorem z1m (g:Nat->Fd->V) (fns:List Fd) (f:Fd):kD g (fns++[f])=kD g fns++[(Sum.inr f.name,g fns.length f)]:=by unfold kD;rw[List.mapIdx_append];simp
theorem zy8 {g g':Nat->Fd->V} {fns:List Fd} (h:∀i f,i<fns.length->g i f=g' i f):kD g fns=kD g' fns:=by unfold kD;refine List.ext_getElem (by simp) λi h1 h2=>?_;simp only[List.getElem_mapIdx];rw[h i _ (by simpa using h1)]
theorem z1n (g:Nat->Fd->V) {fns:List Fd} {s:Str} (h:s ∉ fns.map (·.name)):zcx (kD g fns) (Sum.inr s:Key)=none:=by
 unfold zcx;rw[Option.map_eq_none_iff,List.find?_eq_none];intro kv hkv z;unfold kD at hkv;obtain⟨i,hi,e⟩:=List.mem_mapIdx.mp hkv;subst e;have z:(Sum.inr fns[i].name:Key)=Sum.inr s:=by simpa using z
 exact h (List.mem_map.mpr ⟨fns[i],qcn hi,Sum.inr.inj z⟩)
theorem zod {fns:List Fd} {f:Fd} {i:Nat} (h:fns[i]?=some f) (nd:(fns.map (·.name)).Nodup):f.name ∉ (fns.take i).map (·.name):=by
 intro z;obtain⟨g,hg,e⟩:=List.mem_map.mp z;obtain⟨j,hj⟩:=qaw hg;have hji:j<i:=by have:=(List.getElem?_eq_some_iff.mp hj).1;rw[qax] at this;omega
 rw[qb8 hji] at hj;have h1:(fns.map (·.name))[i]?=some f.name:=by rw[List.getElem?_map,h]; rfl
 have h2:(fns.map (·.name))[j]?=some f.name:=by rw[List.getElem?_map,hj]; exact congrArg some e
 have:=(qb9 (List.getElem?_eq_some_iff.mp h2).1 nd).mp (h2.trans h1.symm);omega
theorem zm0 {g g':Nat->Fd->V} {fns:List Fd} {f:Fd} {i:Nat} {v:V} (h:fns[i]?=some f) (nd:(fns.map (·.name)).Nodup) (hg:∀j f,j<i->g j f=g' j f) (hv:v=g' i f):zbd (kD g (fns.take i)) (Sum.inr f.name:Key) v=kD g' (fns.take (i+1)):=by
 have hi:i<fns.length:=(List.getElem?_eq_some_iff.mp h).1;have hl:(fns.take i).length=i:=by rw[qax]; omega
 rw[zs5 _ (z1n g (zod h nd)),qbf,h];show _=kD g' (fns.take i++[f]);rw[z1m,hl,<- hv,zy8 (g:=g) (g':=g') λj f hj=>hg j f (by omega)]
theorem kD_at (g:Nat->Fd->V):∀{fns:List Fd} {i:Nat} {f:Fd},(fns.map (·.name)).Nodup->fns[i]?=some f->zcx (kD g fns) (Sum.inr f.name:Key)=some (g i f):=by
 intro fns i f nd h;have hi:i<fns.length:=(List.getElem?_eq_some_iff.mp h).1;have key:∀k,i<k->k<=fns.length->zcx (kD g (fns.take k)) (Sum.inr f.name:Key)=some (g i f):=by
   intro k
   induction k with
   | zero=>intro h0; exact absurd h0 (qcw _)
   | succ k ih =>
     intro hk hk';obtain⟨f',hf'⟩:∃f',fns[k]?=some f':=⟨fns[k],List.getElem?_eq_getElem (by omega)⟩
     rw[<- zm0 (g:=g) (g':=g) hf' nd (λ_ _ _=>rfl) rfl,zda];by_cases e:i=k
     . subst e;rw[h] at hf';cases hf';rw[if_pos rfl]
     . have hn:¬ (Sum.inr f.name:Key)=Sum.inr f'.name:=λz=>zod hf' nd (List.mem_map.mpr ⟨f,List.mem_of_getElem? (by rw[qb8 (show i<k by omega)]; exact h),Sum.inr.inj z⟩);rw[if_neg hn];exact ih (by omega) (by omega)
 have:=key fns.length hi (qae _);rw[qbs] at this;exact this
structure FlowsAt (K:W.Frag) (C:Addr) (H:Hp) (x:Addr) (fns:List Fd):Prop where
 all:∀f∈fns,FnAt K H f
 nd:(fns.map (·.name)).Nodup
 ob:∃dx fz d kv,∃nl wl:Nat->Addr,fns[fns.length - 1]?=some fz/\FS C H x dx (zqg (V.str fz.name) d) d kv/\kv 0=kD (λi _=>.int i) fns/\kv 1=kD (λ_ f=>f.fo) fns/\kv 2=kD (λ_ f=>.ref f.pa) fns/\kv 3=kD (λ_ f=>.ref f.ra) fns /\
   kv 4=kD (λi _=>.ref (nl i)) fns/\kv 5=kD (λi _=>.ref (wl i)) fns/\∀i f,fns[i]?=some f->H (nl i)=some (.lst ((nms f).map V.str))/\K13.FoundN H (wl i) (kds f) (kds f).length
theorem FlowsAt.mono {K:W.Frag} {C:Addr} {H H':Hp} {x:Addr} {fns:List Fd} (e:zan H H') (h:FlowsAt K C H x fns):FlowsAt K C H' x fns:=by obtain⟨dx,fz,d,kv,nl,wl,h0,h1,h2,h3,h4,h5,h6,h7,h8⟩:=h.ob;exact⟨λf hf=>(h.all f hf).mono e,h.nd,⟨dx,fz,d,kv,nl,wl,h0,h1.mono e,h2,h3,h4,h5,h6,h7,λi f hi=>⟨e _ _ (h8 i f hi).1,(h8 i f hi).2.mono e⟩⟩⟩
end F2
namespace K21
open PySem L2
abbrev wide:Int:=281474976710656
def bw (s:Str) (a b:Int):Int:=if s="&" then Builtin.bitAnd a b else if s="|" then Builtin.bitOr a b else Builtin.bitXor a b
def zwb (s:Str) (x y:Int):Int:=if s="&" then x * y else if s="|" then x+y - x * y else(x+y)%2
theorem z5h (x:Int):x%2=0\/x%2=1:=by omega
theorem zyb (s:Str) (a b:Int):0<=zwb s (a%2) (b%2)/\zwb s (a%2) (b%2)<=1:=by unfold zwb;rcases z5h a with h|h <;> rcases z5h b with h' | h' <;> rw[h,h'] <;> (split; decide; split <;> decide)
theorem z4t {x y:Int} (hx:0<=x) (hy:0<=y):Builtin.bitAnd x y=2 * Builtin.bitAnd (x / 2) (y / 2)+(x%2) * (y%2):=by
 obtain⟨n,rfl⟩:=qb0 hx;obtain⟨m,rfl⟩:=qb0 hy;rw[PyProof.Rows.bitAnd_pp hx hy,PyProof.Rows.bitAnd_pp (by omega) (by omega)];have e1:(Int.ofNat n).toNat=n:=rfl;have e2:(Int.ofNat m).toNat=m:=rfl;have e3:((n:Int) / 2).toNat=n / 2:=by omega
 have e4:((m:Int) / 2).toNat=m / 2:=by omega
 have a1:((n &&& m) / 2)=(n / 2) &&& (m / 2):=Nat.and_div_two;have a2:(n &&& m)%2=(n%2) * (m%2):=by have h1:=Nat.and_mod_two_eq_one (a:=n) (b:=m);rcases qdp n with h|h <;> rcases qdp m with h' | h' <;> rw[h,h'] at h1 ⊢ <;> omega
 have a3:=Nat.div_add_mod (n &&& m) 2;show((n &&& m:Nat):Int)=_;rw[e3,e4,<- a1];have a4:((n:Int)%2) * ((m:Int)%2)=(((n%2) * (m%2):Nat):Int):=by rw[Int.natCast_mul];rfl
 show _=2 * (((n &&& m) / 2:Nat):Int)+((n:Int)%2) * ((m:Int)%2);rw[a4,<- a2];omega
theorem z2u (s:Str) {a b:Int} (ha:0<=a) (hb:0<=b):bw s a b=2 * bw s (a / 2) (b / 2)+zwb s (a%2) (b%2):=by
 have h:=z4t ha hb;unfold bw zwb;split
 . exact h
 . split
   . rw[qc2,qc2,h];omega
   . have e:∀x y:Int,Builtin.bitXor x y=x+y - 2 * Builtin.bitAnd x y:=λx y=>by unfold Builtin.bitXor;rw[qc2];omega
     rw[e,e,h];rcases z5h a with p|p <;> rcases z5h b with p' | p' <;> rw[p,p'] <;> omega
theorem z1v (s:Str):bw s 0 0=0:=by
 unfold bw;split
 . rfl
 . split <;> rfl
theorem zsv (s:Str):∀(n:Nat) {a b:Int},0<=a->0<=b->a<2 ^ n->b<2 ^ n->0<=bw s a b/\bw s a b<2 ^ n
 | 0,a,b,h1,h2,h3,h4=>by
   have e1:a=0:=by simp at h3; omega
   have e2:b=0:=by simp at h4; omega
   subst e1 e2;rw[z1v];decide
 | n+1,a,b,h1,h2,h3,h4=>by rw[Int.pow_succ] at h3 h4 ⊢;have ih:=zsv s n (a:=a / 2) (b:=b / 2) (by omega) (by omega) (by omega) (by omega);have st:=z2u s h1 h2;have bb:=zyb s a b;omega
def valOf (s:Str) (a b:Int):Int :=
 if s="+" then(a+b)%wide else if s="-" then(a - b)%wide else if s="*" then(a * b)%wide else if s="/" then(if b=0 then 0 else a / b)
 else if s="<" then(if a<b then 1 else 0) else if s="=" then(if a=b then 1 else 0) else bw s a b
theorem val_bound (s:Str) {a b:Int} (ha:0<=a) (hb:0<=b) (ha':a<wide) (hb':b<wide):0<=valOf s a b/\valOf s a b<wide:=by
 have m:∀z:Int,0<=z%wide/\z%wide<wide:=λz=>⟨Int.emod_nonneg _ (by decide),Int.emod_lt_of_pos _ (by decide)⟩
 unfold valOf;split
 . exact m _
 split
 . exact m _
 split
 . exact m _
 split
 . split
   . decide
   . have h1:0<=a / b:=Int.ediv_nonneg ha hb;have h2:a / b<=a:=Int.ediv_le_self b ha;omega
 split
 . split <;> decide
 split
 . split <;> decide
 exact zsv s 48 ha hb ha' hb'
end K21
namespace L2
open PySem PySem.Spec PyProof.Rows
def sB:Stmt->List Stmt
 | .For _ _ b _ _=>b
 | .While _ b _ _=>b
 | .If _ b _ _=>b
 | _=>[]
end L2
namespace Ex
open PySem PySem.W PyProof.Rows PySem.Spec
section
variable {prog:Program} {w:World} {A:Around} {E:Value->Shared->Prop} {R:Result->Shared->Prop} {h:Heap} {g:Array GenState} {d:Drawn} {t:Nat} {os:OsState}
 {nm q:Str} {C N:Addr} {bs bm:List Value} {hdct:Bool} {sn:List Str} {sub:List Value} {ab:Bool} {col:Option Bool} {dd:Option Addr} {k0 k1 k2 k3 k5:Option Value}
structure VE (C:Addr) (bm:List Value):Prop where
 b:(Value.ref C :: bm).contains (.type "ValueError")=true
 e:(Value.ref C :: bm).contains (.type "BaseException")=true
 a:(Value.ref C :: bm).contains (.type "AttributeError")=false
 n:(Value.ref C :: bm).contains (.type "NameError")=false
theorem z16 {M:Model} (hC:h.get? C=some (excClassObj nm q C N bs bm hdct sn sub ab col dd k0 k1 k2 k3 k5 "ValueError.__new__")) (V:VE C bm) {rest:List Value} {Q:Unit->Shared->Prop}
   (hq:Q () ⟨h,g,d,t,os⟩):wpAny M A (checkBuiltinCall "ValueError.__new__" ⟨.ref C :: rest,[]⟩) Q E ⟨h,g,d,t,os⟩:=by
 have F:=qb3;have v:=V.b;have st:=F.noStar;simp only[checkBuiltinCall,F.newKind,F.newSplit,F.newRow]
 repeat (first|refine wpAny_loadPart_at hC ?_|(refine wpAny_isSubtype_exc hC ?_; rw[v])|refine wpAny_staticBase_exc hC ?_|refine wpAny_madeBy_exc hC ?_|simp only[bne_self_eq_false,qce,if_false] | wp_step)
 exact hq
def zuf (h:Heap) (C:Addr) (rest:List Value):Heap:=(h.push { cls:=.type "tuple",data:=.seq rest.toArray }).push { cls:=.ref C,data:=.fields #[.ref h.objs.size,.none,.none,.none,.bool false,.none] }
theorem heapX_keeps {rest:List Value}:∀b o,h.get? b=some o->(zuf h C rest).get? b=some o:=λ_ _ e=>Heap.get?_push_of_some _ (Heap.get?_push_of_some _ e)
theorem heapX_at {rest:List Value}:(zuf h C rest).get? (h.objs.size+1)=some { cls:=.ref C,data:=.fields #[.ref h.objs.size,.none,.none,.none,.bool false,.none] }:=by unfold zuf; heap_get
theorem z6e (hC:h.get? C=some (excClassObj nm q C N bs bm hdct sn sub ab col dd k0 k1 k2 k3 k5 "ValueError.__new__")) (V:VE C bm) {rest:List Value} (hz:rest.length<=sizeLine)
   (hq:R (.ok (.ret (.ref (h.objs.size+1)))) ⟨zuf h C rest,g,d,t,os⟩):codeAny (model prog w) A (.builtin "ValueError.__new__" ⟨.ref C :: rest,[]⟩) R ⟨h,g,d,t,os⟩:=by
 have F:=qb3;have en:=F.ends;have vb:=V.b;have va:=V.a;have vn:=V.n;refine codeAny_builtinAt F.entry ?_;unfold Builtin.«BaseException.__new__»;refine PySem.wpAt_bind ?_;show PySem.wpAt _ _ _ (stack >>= _) _ _ _;refine PySem.wpAt_bind (PySem.wpAt_stack λp below=>PySem.wpAt_of_wpAny ?_)
 wp_walk
 refine PySem.wpAt_of_wpAny ?_;rw[F.owner]
 repeat (first|with_reducible refine wpAny_madeHere_exc F.canon hC ?_|with_reducible refine wpAny_loadPart_at hC ?_|(with_reducible refine wpAny_isSubtype_exc hC ?_; first|rw[vb] | rw[va] | rw[vn])|wp_step)
 show R _ _;rw[qby];exact hq
theorem z3n (hC:h.get? C=some (excClassObj nm q C N bs bm hdct sn sub ab col dd k0 k1 k2 k3 k5 "ValueError.__new__")) (V:VE C bm) {rest:List Value} (hz:rest.length<=sizeLine) {fI:Value}
   (hi:Looks (model prog w) h (typeLookup (.ref C) "__init__") (some fI)) (hb:Looks (model prog w) h (bindSpecial fI (.ref (h.objs.size+1))) (fI,[.ref (h.objs.size+1)])) {Q:Fin->Shared->Prop}
   (hq:wpAny (model prog w) A (call fI (.ref (h.objs.size+1) :: rest)) (λr s'=>r=.none/\Q (.done (.ret (.ref (h.objs.size+1)))) s') E ⟨zuf h C rest,g,d,t,os⟩) :
   wpAny (model prog w) A (Builtin.«type.__call__» ⟨.ref C :: rest,[]⟩) Q E ⟨h,g,d,t,os⟩:=by
 repeat (first|with_reducible refine wpAny_loadPart_at hC ?_|with_reducible refine wpAny_madeBy_exc hC ?_|wp_step)
 refine codeAny_call_builtin_code (Code.quiet_builtin _ qb3.quiet) (z16 hC V ?_);refine z6e hC V hz ?_;show wpAny _ _ _ _ _ _;have hC1:=heapX_keeps (C:=C) (rest:=rest) _ _ hC;have hg:=heapX_at (h:=h) (C:=C) (rest:=rest);have hcC:(Value.ref C :: bm).contains (.ref C)=true:=by simp
 have i1:=hi.keeps (heapX_keeps (C:=C) (rest:=rest));have b1:=hb.keeps (heapX_keeps (C:=C) (rest:=rest));unfold isInstance
 repeat (first|with_reducible refine wpAny_loadPart_at hg ?_|(with_reducible refine wpAny_isSubtype_exc hC1 ?_; rw[hcC])|wp_step)
 show wpAny _ _ (typeLookup (.ref C) _) _ _ _;refine i1.at ?_;refine wpAny_holding (wpAny_bind ?_);refine b1.at ?_;refine wpAny_bind (wpAny_mono hq (λr s' hr=>?_) λ_ _ x=>x);obtain⟨rfl,hQ⟩:=hr
 wp_walk
 exact hQ
theorem x_call (hC:h.get? C=some (excClassObj nm q C N bs bm hdct sn sub ab col dd k0 k1 k2 k3 k5 "ValueError.__new__")) (V:VE C bm) {rest:List Value} (hz:rest.length<=sizeLine) {fI:Value}
   (hi:Looks (model prog w) h (typeLookup (.ref C) "__init__") (some fI)) (hb:Looks (model prog w) h (bindSpecial fI (.ref (h.objs.size+1))) (fI,[.ref (h.objs.size+1)])) {Q:Value->Shared->Prop}
   (hq:wpAny (model prog w) (A.under (.builtin "type.__call__" ⟨.ref C :: rest,[]⟩)) (call fI (.ref (h.objs.size+1) :: rest)) (λr s'=>r=.none/\Q (.ref (h.objs.size+1)) s') E ⟨zuf h C rest,g,d,t,os⟩) :
   wpAny (model prog w) A (call (.ref C) rest) Q E ⟨h,g,d,t,os⟩:=by
 have f1:=tc_lookup;have f2:=tc_bind (.ref C);have hT:(⟨h,g,d,t,os⟩:Shared).TypeIs (.ref C) "type":=⟨_,hC,rfl⟩
 refine wpAny_call (codeAny_of_tree ?_);show wpAny _ _ (callAny (.ref C) _) _ _ _
 repeat (any_goals (first|assumption|with_reducible refine wpAny_loadPart_at hC ?_|wp_step))
 refine⟨rfl,?_⟩;exact codeAny_call_builtin_at (Code.quiet_builtin _ (by decide +kernel)) entry_typeCall (wpAny_check_type_call_sub hC (z3n hC V hz hi hb hq))
theorem x_raise {M:Model} {env:Env} {s:Shared} {x:Sem Value} {Q:Flow->Shared->Prop} (hh:A.handled=none)
   (hx:wpAny M A x (λv s₁=>∃e o vs,v=.ref e/\s₁.heap.get? C=some (excClassObj nm q C N bs bm hdct sn sub ab col dd k0 k1 k2 k3 k5 "ValueError.__new__")/\VE C bm /\
     s₁.heap.get? e=some o/\o.cls=.ref C/\o.data=.fields vs/\vs[1]?=some .none/\E (.ref e) s₁) E s):wpAny M A (raiseStmt env (some x) none) Q E s:=by
 unfold raiseStmt;refine wpAny_bind (wpAny_mono hx (λv s₁ h₁=>?_) λ_ _ x=>x);obtain⟨e,o,vs,rfl,hC,V,he,hc,hd,h1,hE⟩:=h₁;obtain⟨hp,g,d,tk,os⟩:=s₁;obtain⟨oc,od,oda,osl⟩:=o;dsimp only at hc hd;subst hc hd;have ve:=V.e
 repeat (first|with_reducible refine wpAny_loadPart_at he ?_|with_reducible refine wpAny_loadPart_at hC ?_|(with_reducible refine wpAny_isSubtype_exc hC ?_; rw[ve])|wp_step)
 rw[h1];refine wpAny_pure ?_;rw[if_neg (by decide)];exact wpAny_pure (wpAny_raiseNew_none hh hE)
end
end Ex
namespace Ex
open PySem PySem.W PyProof.Rows PySem.Spec L2
structure Mvd (S:List Addr) (D:Addr->Prop) (h h':Heap):Prop where
 keep:∀b o,¬ D b->b ∉ S->h.get? b=some o->h'.get? b=some o
 slot:∀b o,¬ D b->h.get? b=some o->∃sl,h'.get? b=some { o with slots:=sl }
theorem Mvd.trans {S:List Addr} {D:Addr->Prop} {h h1 h2:Heap} (a:Mvd S D h h1) (b:Mvd S D h1 h2):Mvd S D h h2 :=
 ⟨λc o n m e=>b.keep c o n m (a.keep c o n m e),λc o n e=>by obtain⟨sl,e1⟩:=a.slot c o n e;obtain⟨sl2,e2⟩:=b.slot c _ n e1;exact⟨sl2,e2⟩⟩
theorem Mvd.mono {S:List Addr} {D D':Addr->Prop} {h h':Heap} (a:Mvd S D h h') (hd:∀b,D b->D' b):Mvd S D' h h':=⟨λb o n=>a.keep b o λz=>n (hd b z),λb o n=>a.slot b o λz=>n (hd b z)⟩
def Tr (h:Heap) (e:Addr) (cls:Value) (d:Option Addr) (T:Addr) (fl:Value):Prop :=
 ∃o vs oT ts,h.get? e=some o/\o.cls=cls/\o.dict=d/\o.data=.fields vs/\vs[1]?=some (.ref T)/\T≠e/\h.get? T=some oT/\oT.data=.fields ts/\ts[3]?=some fl
def Raw (h:Heap) (e:Addr) (cls:Value) (d:Option Addr):Prop:=∃o vs,h.get? e=some o/\o.cls=cls/\o.dict=d/\o.data=.fields vs/\vs[1]?=some .none
section
variable {M:Model} {A:Around} {E:Value->Shared->Prop} {s:Shared} {base:Heap} {env:Env} {outer:List Env} {L e:Addr} {cls:Value} {d:Option Addr}
theorem mapF (f:Array Value->Array Value) {o:Obj} {vs:Array Value} (hd:o.data=.fields vs):Obj.mapFields f o={ o with data:=.fields (f vs) }:=by obtain⟨c,d,dt,sl⟩:=o;dsimp only at hd;subst hd;rfl
theorem zu5 {oe:Obj} {vs:Array Value} {head:Value} {hadNext:Bool} {Q:Unit->Shared->Prop} (hfr:A.frames=some (env :: outer)) (hl:s.heap.FunFrames base (env :: outer)) (hf:env.frame=some L)
   (he:s.heap.get? e=some oe) (hd:oe.data=.fields vs) (hsz:1<vs.size)
   (h:∀h' T,s.heap.get? T=none->Mvd (frs (env :: outer)) (λb=>b=e) s.heap h'->Tr h' e oe.cls oe.dict T (rawInt L)->Q () { s with heap:=h' }) :
   wpAny M A (do let a <- frameOf env; let pl <- entryPlaceOf L hadNext; let b <- EntryCells.newEntry head a .none (rawInt L) .none pl; setField (.ref e) 1 b) Q E s:=by
 have hene:e ∉ frs (env :: outer):=λhm=>by obtain⟨_,o,ho,hnf⟩:=hl.mem hm;rw[he] at ho; cases ho; exact hnf vs hd
 refine wpAny_bind (wpAny_frameOf_fun hfr hl hf λh₁ hs₁=>?_);refine wpAny_bind (wpAny_entryPlaceOf λpl hpl=>?_);unfold EntryCells.newEntry newFields;refine wpAny_bind (wpAny_newObj_type ?_ (hpl.sizeOk5 _ _ _ _ _));have he₁:h₁.get? e=some oe:=(hs₁.2.1 e hene).trans he;have he₂:=Heap.get?_push_of_some (h:=h₁) { cls:=.type "traceback",dict:=none,data:=.fields ([head,.ref L,.none,rawInt L,.none]++(if pl.isEmpty then List.replicate 6 Value.none else pl)).toArray } he₁;refine wpAny_setField he₂ hd hsz (h _ h₁.objs.size (qcu (by rw[hs₁.1]; exact qae _)) ?_ ?_)
 . refine⟨λb o hb hm hbo=>?_,λb o hb hbo=>?_⟩
   . rw[qbo _ _ (Ne.symm hb)];exact Heap.get?_push_of_some _ ((hs₁.2.1 b hm).trans hbo)
   . obtain⟨sl,e1⟩:=hs₁.2.2 b o hbo;refine⟨sl,?_⟩;rw[qbo _ _ (Ne.symm hb)];exact Heap.get?_push_of_some _ e1
 . have hTe:h₁.objs.size≠e:=qcc (Heap.lt_size he₁);have hd₃:=Obj.data_mapFields hd (·.setIfInBounds 1 (Value.ref h₁.objs.size));have he₃:=qb5 (Obj.mapFields (·.setIfInBounds 1 (Value.ref h₁.objs.size))) he₂ (Obj.isFreed_of_fields hd₃);have hT₃:=(qbo (h₁.push { cls:=.type "traceback",dict:=none,data:=.fields ([head,.ref L,.none,rawInt L,.none]++(if pl.isEmpty then List.replicate 6 Value.none else pl)).toArray })
     (Obj.mapFields (·.setIfInBounds 1 (Value.ref h₁.objs.size))) (Ne.symm hTe)).trans (qap h₁ rfl)
   refine⟨_,_,_,_,he₃,?_,?_,hd₃,by simp [hsz],hTe,hT₃,rfl,by first|(simp; done)|(rcases hpl with rfl|⟨_,_,_,_,_,_,_,rfl⟩ <;> simp)⟩
   . rw[mapF _ hd]
   . rw[mapF _ hd]
theorem x_mark {T:Addr} {fl:Value} {fr:Option Addr} {Q:Unit->Shared->Prop} (ht:Tr s.heap e cls d T fl)
   (h:∀h',Mvd [] (λb=>b=T) s.heap h'->Tr h' e cls d T (fr.elim .none λf=>rawInt f)->Q () { s with heap:=h' }):wpAny M A (setFlight (.ref e) fr) Q E s:=by
 obtain⟨o,vs,oT,ts,he,hc,hdc,hd,h1,hTe,hT,hdT,h3⟩:=ht;have hsz:3<ts.size:=(qcj.mp h3).1;unfold setFlight;refine wpAny_bind (wpAny_field he hd h1 ?_);rw[if_pos (show(Value.ref T != Value.none)=true from by simp)];have other:∀(g:Obj->Obj) (b:Addr),b≠T->(s.heap.update T g).get? b=s.heap.get? b:=λg b hb=>qbo _ _ (Ne.symm hb);refine wpAny_setField hT hdT hsz (h _ ⟨λb o hb _ hbo=>(other _ b hb).trans hbo,λb o hb hbo=>⟨o.slots,(other _ b hb).trans hbo⟩⟩ ?_);exact⟨o,vs,_,_,(other _ e (Ne.symm hTe)).trans he,hc,hdc,hd,h1,hTe,qb5 _ hT (Obj.isFreed_of_fields (Obj.data_mapFields hdT _)),Obj.data_mapFields hdT _,by simp [hsz]⟩
theorem x_noteR {Q:Unit->Shared->Prop} (hfr:A.frames=some (env :: outer)) (hl:s.heap.FunFrames base (env :: outer)) (hf:env.frame=some L) (hr:Raw s.heap e cls d)
   (h:∀h' T,s.heap.get? T=none->Mvd (frs (env :: outer)) (λb=>b=e) s.heap h'->Tr h' e cls d T (rawInt L)->Q () { s with heap:=h' }):wpAny M A (noteFrame (.ref e) env) Q E s:=by
 obtain⟨o,vs,he,rfl,rfl,hd,h1⟩:=hr;unfold noteFrame;simp only[hf];refine wpAny_bind (wpAny_field he hd h1 ?_);rw[if_neg (by decide)];exact zu5 hfr hl hf he hd (qcj.mp h1).1 h
theorem x_noteT {T0:Addr} {Q:Unit->Shared->Prop} (hfr:A.frames=some (env :: outer)) (hl:s.heap.FunFrames base (env :: outer)) (hf:env.frame=some L) (hr:Tr s.heap e cls d T0 .none)
   (h:∀h' T,s.heap.get? T=none->Mvd (frs (env :: outer)) (λb=>b=e\/b=T0) s.heap h'->Tr h' e cls d T (rawInt L)->Q () { s with heap:=h' }):wpAny M A (noteFrame (.ref e) env) Q E s:=by
 obtain⟨o,vs,oT,ts,he,rfl,rfl,hd,h1,hTe,hT,hdT,h3⟩:=hr;unfold noteFrame;simp only[hf];refine wpAny_bind (wpAny_field he hd h1 ?_);rw[if_pos (show(Value.ref T0 != Value.none)=true from by simp)];refine wpAny_bind (wpAny_field hT hdT h3 ?_);rw[if_neg (show ¬ ((Value.none==rawInt L)=true) from by simp [rawInt])];refine wpAny_bind (wpAny_setField hT hdT (qcj.mp h3).1 ?_);have other:∀(g:Obj->Obj) (b:Addr),b≠T0->(s.heap.update T0 g).get? b=s.heap.get? b:=λg b hb=>qbo _ _ (Ne.symm hb);have noT:∀b o,s.heap.get? b=some o->(∀vs,o.data≠.fields vs)->b≠T0:=λb o hb hnf q=>by rw[q,hT] at hb; cases hb; exact hnf ts hdT
 have m1:Mvd (frs (env :: outer)) (λb=>b=e\/b=T0) s.heap (s.heap.update T0 (Obj.mapFields (·.setIfInBounds 3 Value.none))) :=
   ⟨λb o hb _ hbo=>(other _ b λz=>hb (.inr z)).trans hbo,λb o hb hbo=>⟨o.slots,(other _ b λz=>hb (.inr z)).trans hbo⟩⟩
 have hl2:(s.heap.update T0 (Obj.mapFields (·.setIfInBounds 3 Value.none))).FunFrames base (env :: outer):=hl.of_keeps λb o hb hnf=>⟨o,(other _ b (noT b o hb hnf)).trans hb,rfl⟩
 refine zu5 (s:={ s with heap:=s.heap.update T0 (Obj.mapFields (·.setIfInBounds 3 Value.none)) }) hfr hl2 hf ((other _ e (Ne.symm hTe)).trans he) hd (qcj.mp h1).1 λh' T hT' m2 tr=>h h' T ?_ (m1.trans (m2.mono λb z=>.inl z)) tr;by_cases z:T=T0
 . subst z;exfalso;have q:=qb5 (Obj.mapFields (·.setIfInBounds 3 Value.none)) hT (Obj.isFreed_of_fields (Obj.data_mapFields hdT _));dsimp only at hT';rw[q] at hT'; cases hT'
 . dsimp only at hT';rwa [other _ T z] at hT'
end
end Ex
namespace L2
open PySem PySem.Spec PyProof.Rows
def XO (e C:Addr) (d:Option Addr):HO:=.ext λh=>∃t,h.get? e=some { cls:=.ref C,dict:=d,data:=.fields #[.ref t,.none,.none,.none,.bool false,.none] }
def XC (e C:Addr) (d:Option Addr):HO:=.ext λh=>∃o vs,h.get? e=some o/\o.cls=.ref C/\o.dict=d/\o.data=.fields vs
def XCls (K:W.Frag) (C:Addr):Prop:=∃(nm q:Str) (N:Addr) (bs bm:List Value) (sn:List Str) (sub:List Value) (ab:Bool) (col:Option Bool) (dd:Option Addr) (k0 k1 k2 k3 k5:Option Value),
 K.lookup C=some (excClassObj nm q C N bs bm true sn sub ab col dd k0 k1 k2 k3 k5 "ValueError.__new__")/\Ex.VE C bm
def CXe (P:Program) (w:World):CXT:=λouter H s E e s'=>∃ea cls d T H',e=.ref ea/\s'.os=s.os/\AllBare s'.gens/\Un (frs outer) [] H H' s.heap s'.heap/\HOk P w H' s'.heap /\
 s.heap.get? ea=none/\H' ea=none/\s.heap.get? T=none/\H' T=none/\Ex.Tr s'.heap ea cls d T .none/\E cls d H'
section
variable {P:Program} {w:World} {H H':Hp} {h h':Heap} {a:Addr} {o:HO} {fs S:List Addr} {D:Addr->Prop} {H0:Hp} {h0:Heap}
theorem zdm.some_at (x:zdm P w H h a o):∃u,h.get? a=some u:=by
 cases o with
 | lst xs=>obtain⟨_,_,_,_,e⟩:=x; exact⟨_,e⟩
 | tup xs=>obtain⟨_,_,_,ob,e,_⟩:=x; exact⟨_,e⟩
 | dK kvs=>obtain⟨_,_,_,_,o,_,_,e,_⟩:=x; exact⟨_,e⟩
 | dT kvs=>obtain⟨_,_,_,_,o,_,_,e,_⟩:=x; exact⟨_,e⟩
 | set S n=>obtain⟨o,_,_,_,e,_⟩:=x; exact⟨_,e⟩
 | ins C dx fs=>obtain⟨_,_,_,e,_⟩:=x; exact⟨_,e⟩
 | own y=>exact x
 | xd fs=>obtain⟨_,⟨_,_,_,e,_⟩,_⟩:=x; exact⟨_,e⟩
 | rng lo hi=>obtain⟨_,_,_,e⟩:=x; exact⟨_,e⟩
 | frz ob u=>obtain⟨e,_⟩:=x; exact⟨_,e⟩
 | tbl ps=>exact⟨_,(show h.get? a=some _ from x)⟩
 | met f y=>exact⟨_,(show h.get? a=some _ from x)⟩
 | ext φ=>exact x.2.1
theorem HOk.none_of (x:HOk P w H h) (e:h.get? a=none):H a=none:=by
 cases q:H a with
 | none=>rfl
 | some u=>obtain⟨v,z⟩:=(x a u q).some_at; rw[e] at z; cases z
theorem Un.moved (u:Un fs [] H0 H h0 h) (m:Ex.Mvd S D h h') (hD:∀b,D b->h0.get? b=none) (hS:∀b∈S,b∈fs\/h0.get? b=none):Un fs [] H0 H h0 h' where
 keep:=λb o q n hb hx=>m.keep b o (λz=>by rw[hD b z] at q; cases q) (λz=>(hS b z).elim hb λr=>by rw[r] at q; cases q) (u.keep b o q n hb hx)
 slot:=λb o q n hb hx=>by obtain⟨sl,e⟩:=u.slot b o q n hb hx;obtain⟨sl2,e2⟩:=m.slot b _ (λz=>by rw[hD b z] at q; cases q) e;exact⟨sl2,e2⟩
 free:=u.free
 there:=λb o q hx=>by obtain⟨o',e⟩:=u.there b o q hx;obtain⟨sl2,e2⟩:=m.slot b _ (λz=>by rw[hD b z] at q; cases q) e;exact⟨_,e2⟩
 tups:=u.tups
 frzs:=u.frzs
 tbls:=u.tbls
theorem HOk.moved (x:HOk P w H h) (m:Ex.Mvd S D h h') (hD:∀b,D b->H b=none) (hS:∀b∈S,H b=none):HOk P w H h':=λa o e =>
 (x a o e).stay (λb u hb q=>by
   have t:∃z,H b=some z:=by
     rcases hb with rfl|hb
     . exact⟨_,e⟩
     . exact⟨_,hb⟩
   obtain⟨z,t⟩:=t;exact m.keep b u (λy=>by rw[hD b y] at t; cases t) (λy=>by rw[hS b y] at t; cases t) q) (λ_ q=>q) λ_ _ q=>q
theorem Un.ers {φ:Heap->Prop} (u:Un fs [] H0 H h0 h) (e:H a=some (.ext φ)):Un fs [] H0 (ers a H) h0 h where
 keep:=u.keep
 slot:=u.slot
 free:=λb o q n hx=>by
   have r:=u.free b o q n hx;unfold L2.ers;split
   . rfl
   . exact r
 there:=u.there
 tups:=λb xs q=>by have r:=u.tups b xs q;rw[zct (λz=>by rw[z,e] at r; cases r)]; exact r
 frzs:=λb o xs q=>by have r:=u.frzs b o xs q;rw[zct (λz=>by rw[z,e] at r; cases r)]; exact r
 tbls:=λb ps q=>by obtain⟨m,r⟩:=u.tbls b ps q;exact⟨m,by rw[zct (λz=>by rw[z,e] at r; cases r)]; exact r⟩
theorem HOk.ers {φ:Heap->Prop} (x:HOk P w H h) (e:H a=some (.ext φ)):HOk P w (ers a H) h:=λb o q=>by
 have hb:b≠a:=λz=>by subst z; unfold L2.ers at q; rw[if_pos rfl] at q; cases q
 rw[zct hb] at q;exact(x b o q).stay (λc u _ r=>r) (λc r=>by rw[zct (λz=>by rw[z,e] at r; cases r)]; exact r) λc xs r=>by rw[zct (λz=>by rw[z,e] at r; cases r)]; exact r
end
theorem zzr {S S':List Addr} {D:Addr->Prop} {h h':Heap} (m:Ex.Mvd S D h h') (hs:∀b∈S,b∈S'):Ex.Mvd S' D h h':=⟨λb o n z=>m.keep b o n λq=>z (hs b q),m.slot⟩
section
variable {P:Program} {w:World} {K:W.Frag} {mg:Str->Option Value} {base:Heap} {N:List Str} {qual:Str} {sc:Scope} {f:Addr} {cd:Value} {A:Around} {outer:List Env} {s0 s:Shared} {H0 H:Hp} {E:XK}
 {pins:List (Addr×Obj)} {σ:St} {cls:Value} {d:Option Addr} {e:Addr}
theorem z0r {h2:Heap} {T:Addr} {D:Addr->Prop} {S:List Addr} (I:Inv (zkf (CXe P w) P w K mg base N qual sc f cd A outer s0 H0 E) pins σ H s) {H1:Hp} (hn:s0.heap.get? e=none) (hT:s.heap.get? T=none)
   (u:Un (frs outer) [] H0 H1 s0.heap s.heap) (hok:HOk P w H1 s.heap) (he1:H1 e=none) (hS:S=frs (zkf (CXe P w) P w K mg base N qual sc f cd A outer s0 H0 E).stack) (hS1:∀b∈S,H1 b=none)
   (m:Ex.Mvd S D s.heap h2) (hD0:∀b,D b->s0.heap.get? b=none) (hD1:∀b,D b->H1 b=none)
   (t:Ex.Tr h2 e cls d T .none) (hE:E cls d H1):CXe P w outer H0 s0 E (.ref e) { s with heap:=h2 }:=by
 have fresh:∀b,s.heap.get? b=none->s0.heap.get? b=none:=λb q=>by
   cases r:s0.heap.get? b with
   | none=>rfl
   | some o=>obtain⟨o',z⟩:=u.there b o r (by simp); rw[q] at z; cases z
 refine⟨e,cls,d,T,H1,rfl,I.os,I.bare,u.moved m hD0 λb hb=>?_,hok.moved m hD1 hS1,hn,he1,fresh T hT,hok.none_of hT,t,hE⟩;subst hS;rcases List.mem_cons.mp (I.stkSub b hb) with z|z
 . exact .inr (by rw[z]; exact qcu I.ok.above)
 . exact .inl z
theorem z3l (I:Inv (zkf (CXe P w) P w K mg base N qual sc f cd A outer s0 H0 E) pins σ H s) {φ:Heap->Prop} (he:H e=some (.ext φ)) (hn:s0.heap.get? e=none) (hr:Ex.Raw s.heap e cls d) (hE:E cls d (ers e H)) :
   (zkf (CXe P w) P w K mg base N qual sc f cd A outer s0 H0 E).xe (.ref e) s:=by
 show wpAny _ _ (leaving _ _) _ _ s;unfold leaving;refine wpAny_bind (Ex.x_noteR I.ok.frames I.stack rfl hr λh1 T hT m1 t1=>?_);refine Ex.x_mark (fr:=none) t1 λh2 m2 t2=>?_;have hfr:=I.stkFree;have fresh:∀b,s.heap.get? b=none->s0.heap.get? b=none:=λb q=>by
   cases r:s0.heap.get? b with
   | none=>rfl
   | some o=>obtain⟨o',z⟩:=I.base.there b o r (λq=>nomatch q); rw[q] at z; cases z
 refine z0r (s:=s) (D:=λb=>b=e\/b=T) (S:=frs (zkf (CXe P w) P w K mg base N qual sc f cd A outer s0 H0 E).stack) I hn hT (Un.ers I.base he) (HOk.ers I.hok he) (if_pos rfl) rfl (λb hb=>?_) ((m1.mono λb z=>.inl z).trans (zzr (m2.mono λb z=>.inr z) λb z=>nomatch z)) ?_ ?_ t2 hE
 . unfold L2.ers; split; rfl; exact hfr b hb
 . rintro b (rfl|rfl); exact hn; exact fresh _ hT
 . rintro b (rfl|rfl)
   . exact if_pos rfl
   . exact(HOk.ers I.hok he).none_of hT
theorem z0c:zjf (CXe P w) (zkf (CXe P w) P w K mg base N qual sc f cd A outer s0 H0 E) E:=by
 intro pins σ H s ev s' I c;obtain⟨e,cls,d,T0,H1,rfl,os,bare,un,hok,hn,he1,hT0,hT1,tr,hE⟩:=c;have I1:Inv (zkf (CXe P w) P w K mg base N qual sc f cd A outer s0 H0 E) pins σ H1 s':=I.call' os un hok bare λb z=>nomatch z;show wpAny _ _ (leaving _ _) _ _ s';unfold leaving;refine wpAny_bind (Ex.x_noteT I1.ok.frames I1.stack rfl tr λh1 T hT m1 t1=>?_);refine Ex.x_mark (fr:=none) t1 λh2 m2 t2=>?_;have fr0:∀b,s.heap.get? b=none->s0.heap.get? b=none:=λb q=>by
   cases r:s0.heap.get? b with
   | none=>rfl
   | some o=>obtain⟨o',z⟩:=I.base.there b o r (λq=>nomatch q); rw[q] at z; cases z
 have fr1:∀b,s'.heap.get? b=none->s0.heap.get? b=none:=λb q=>by
   cases r:s0.heap.get? b with
   | none=>rfl
   | some o=>obtain⟨o',z⟩:=I1.base.there b o r (λq=>nomatch q); rw[q] at z; cases z
 refine z0r (s:=s') (D:=λb=>(b=e\/b=T0)\/b=T) (S:=frs (zkf (CXe P w) P w K mg base N qual sc f cd A outer s0 H0 E).stack) I1 (fr0 _ hn) hT I1.base I1.hok he1 rfl I1.stkFree ((m1.mono λb z=>.inl z).trans (zzr (m2.mono λb z=>.inr z) λb z=>nomatch z)) ?_ ?_ t2 hE
 . rintro b ((rfl|rfl)|rfl)
   . exact fr0 _ hn
   . exact fr0 _ hT0
   . exact fr1 _ hT
 . rintro b ((rfl|rfl)|rfl)
   . exact he1
   . exact hT1
   . exact I1.hok.none_of hT
end
def zvl (X:Cx) (EX:XK):Prop:=∀(pins:List (Addr×Obj)) (σ:St) (H:Hp) (s:Shared) (e:Addr) (φ:Heap->Prop) (cls:Value) (d:Option Addr),
 Inv X pins σ H s->H e=some (.ext φ)->X.s₀.heap.get? e=none->Ex.Raw s.heap e cls d->EX cls d (ers e H)->X.xe (.ref e) s
theorem ztu {P:Program} {w:World} {K:W.Frag} {mg:Str->Option Value} {base:Heap} {N:List Str} {qual:Str} {sc:Scope} {f:Addr} {cd:Value} {A:Around} {outer:List Env} {s0:Shared} {H0:Hp} {E:XK} :
   zvl (zkf (CXe P w) P w K mg base N qual sc f cd A outer s0 H0 E) E:=λ_ _ _ _ _ _ _ _ I he hn hr hE=>z3l I he hn hr hE
theorem z53 {P:Program} {w:World} {H:Hp} {h:Heap} {e C:Addr} {d:Option Addr} {t:Addr} (q:h.get? e=some { cls:=.ref C,dict:=d,data:=.fields #[.ref t,.none,.none,.none,.bool false,.none] }):zdm P w H h e (XO e C d) :=
 ⟨⟨t,q⟩,⟨_,q⟩,λh1 h2 ⟨u,z⟩ k=>⟨u,k _ z⟩⟩
theorem z6j {P:Program} {w:World} {H:Hp} {h:Heap} {e C:Addr} {d:Option Addr} {o:Obj} {vs:Array Value} (q:h.get? e=some o) (hc:o.cls=.ref C) (hd:o.dict=d) (hf:o.data=.fields vs):zdm P w H h e (XC e C d) :=
 ⟨⟨o,vs,q,hc,hd,hf⟩,⟨_,q⟩,λh1 h2 ⟨o,vs,z,r⟩ k=>⟨o,vs,k _ z,r⟩⟩
end L2
namespace Ex
open PySem PySem.W PyProof.Rows PySem.Spec
section
variable {prog:Program} {w:World} {A:Around} {E:Value->Shared->Prop} {R:Result->Shared->Prop} {h:Heap} {g:Array GenState} {d:Drawn} {t:Nat} {os:OsState}
 {nm q:Str} {C N:Addr} {bs bm:List Value} {hdct:Bool} {sn:List Str} {sub:List Value} {ab:Bool} {col:Option Bool} {dd:Option Addr} {k0 k1 k2 k3 k5:Option Value}
theorem x_init0 {e t0:Addr} {Q:Value->Shared->Prop} (hC:h.get? C=some (excClassObj nm q C N bs bm hdct sn sub ab col dd k0 k1 k2 k3 k5 "ValueError.__new__")) (V:VE C bm)
   (he:h.get? e=some { cls:=.ref C,data:=.fields #[.ref t0,.none,.none,.none,.bool false,.none] })
   (hq:∀h' t',(∀b o,b≠e->h.get? b=some o->h'.get? b=some o)->h'.get? e=some { cls:=.ref C,data:=.fields #[.ref t',.none,.none,.none,.bool false,.none] }->Q .none ⟨h',g,d,t,os⟩) :
   wpAny (model prog w) A (call (.builtin "ValueError.__init__") [.ref e]) Q E ⟨h,g,d,t,os⟩:=by
 have F:=qb3;have vb:=V.b;have st:=F.noStar;refine wpAny_call (codeAny_call_builtin F.init.plain F.initEntry ?_);simp only[checkBuiltinCall,F.initKind,F.initSplit,F.initRow]
 repeat (first|with_reducible refine wpAny_loadPart_at he ?_|with_reducible refine wpAny_loadPart_at hC ?_|(with_reducible refine wpAny_isSubtype_exc hC ?_; rw[vb])|wp_step)
 show Q _ _;refine hq _ h.objs.size (λb o hb hbo=>?_) ?_
 . rw[qbo _ _ (Ne.symm hb)];exact Heap.get?_push_of_some _ hbo
 . rw[qb5 _ (Heap.get?_push_of_some _ he) rfl];rfl
end
end Ex
namespace L2
open PySem PySem.Spec PyProof.Rows
def zvc (C:Addr) (EX:XK):TS:=λ_ _ H=>EX (.ref C) none H
section
variable {X:Cx} {C:Addr} {EX:XK} {x:Str} {p pos cpos:Pos}
theorem zu9 (hX:XCls X.K C) (hm:X.mg x=some (.ref C)) (hi:PySem.W.findIn X.K (.ref C) "__init__"=some (some (.builtin "ValueError.__init__"))) (hk:PySem.W.keepIn X.K (.ref C)=true)
   (hc:X.calm=true) (hx:zvl X EX) (hg:Gl X x:=by rfl) (hdb:(x==("__debug__":Str))=false:=by decide) :
   PS X (.Raise (some (.Call (.Name x p) [] [] cpos)) none pos) (zvc C EX):=by
 intro pins s σ H D I h;obtain⟨nm,q,N,bs,bm,sn,sub,ab,col,dd,k0,k1,k2,k3,k5,hl,VV⟩:=hX;rw[arm_exec_Raise];refine wpAny_bind (wpAny_standAt (Ex.x_raise (C:=C) (nm:=nm) (q:=q) (N:=N) (bs:=bs) (bm:=bm) (hdct:=true) (sn:=sn) (sub:=sub) (ab:=ab) (col:=col) (dd:=dd) (k0:=k0) (k1:=k1) (k2:=k2) (k3:=k3) (k5:=k5) (I.ok.hd hc) ?_));show wpAny _ _ (eval (.Call (.Name x p) [] [] cpos) X.env >>= λv=>standAt pos >>= λ_=>pure v) _ _ _;refine wpAny_bind (wpAny_mono (Q:=λv s₁=>∃e o vs,v=.ref e/\s₁.heap.get? C=some (excClassObj nm q C N bs bm true sn sub ab col dd k0 k1 k2 k3 k5 "ValueError.__new__")/\Ex.VE C bm /\
     s₁.heap.get? e=some o/\o.cls=.ref C/\o.data=.fields vs/\vs[1]?=some .none/\X.xe (.ref e) s₁) ?_ (λv s3 h3=>wpAny_bind (wpAny_standAt (wpAny_pure h3))) λ_ _ z=>z)
 refine wpAny_Call_Name_kw (zmx I hg hm ?_ hdb);refine PySem.W.callWith_K0 I.kIn hk ?_;obtain⟨hp,g,dr,tk,os⟩:=s;refine Ex.x_call (fI:=.builtin "ValueError.__init__") (rest:=[]) (I.kIn _ _ hl) VV (by decide) (PySem.W.looks_findIn I.kIn hi) (PySem.W.Looks.of_pure (qb3.init.bind _)) ?_;have hC2:=Ex.heapX_keeps (C:=C) (rest:=[]) _ _ (I.kIn _ _ hl);refine Ex.x_init0 hC2 VV Ex.heapX_at λh' t' hk' he'=>⟨rfl,?_⟩
 have ne:∀b o,hp.get? b=some o->b≠hp.objs.size+1:=λb o z=>qa2 (Nat.lt_succ_of_lt (Heap.lt_size z));have I2:Inv X pins σ (upd H (hp.objs.size+1) (XO (hp.objs.size+1) C none)) ⟨h',g,dr,tk,os⟩ :=
   I.laid (h':=h') (t':=tk) (λb u z=>hk' b u (ne b u z) (Ex.heapX_keeps b u z)) (qcm _) (z53 he')
 have eH:ers (hp.objs.size+1) (upd H (hp.objs.size+1) (XO (hp.objs.size+1) C none))=H:=by
   funext b;unfold L2.ers upd;by_cases z:b=hp.objs.size+1
   . rw[if_pos z,z]; exact(I.hok.fresh (qcm _)).symm
   . rw[if_neg z,if_neg z]
 exact⟨_,_,_,rfl,I2.kIn _ _ hl,VV,he',rfl,rfl,rfl,hx pins σ _ ⟨h',g,dr,tk,os⟩ (hp.objs.size+1) _ (.ref C) none I2 zac (qcu (Nat.le_trans I.sz (qcm _))) ⟨_,_,he',rfl,rfl,rfl,rfl⟩ (by rw[eH]; exact h)⟩
end
end L2
namespace Ex
open PySem PySem.W PyProof.Rows PySem.Spec
def veTail:List Value->Bool
 | .ref _ :: r=>veTail r
 | l=>l==[.type "ValueError",.type "Exception",.type "BaseException",.type "object"]
theorem zoh {p:List Value->Prop} (h0:p [.type "ValueError",.type "Exception",.type "BaseException",.type "object"]) (h1:∀a r,p r->p (.ref a :: r)):∀{l:List Value},veTail l=true->p l
 | [],e=>by cases e
 | c :: r,e=>by
   cases c with
   | ref a=>exact h1 a r (zoh h0 h1 e)
   | _=>rw[show _ :: r=_ from beq_iff_eq.mp e]; exact h0
theorem veTail_has {l:List Value} (h:veTail l=true) {X:String} {b:Bool} (hb:([.type "ValueError",.type "Exception",.type "BaseException",.type "object"]:List Value).contains (.type X)=b):l.contains (.type X)=b :=
 zoh (p:=λl=>l.contains (.type X)=b) hb (λa r z=>by rw[List.contains_cons,z]; rfl) h
theorem VE.of {C:Addr} {bm:List Value} (h:veTail bm=true):VE C bm:=by have h':veTail (.ref C :: bm)=true:=h;exact⟨veTail_has h' (by decide +kernel),veTail_has h' (by decide +kernel),veTail_has h' (by decide +kernel),veTail_has h' (by decide +kernel)⟩
end Ex
namespace L2
open PySem PySem.Spec PyProof.Rows
structure XClsOk (K:W.Frag) (mg:Str->Option Value) (name:Str) (C:Addr):Prop where
 g:mg name=some (.ref C)
 obj:∃(nm q:Str) (N:Addr) (bs bm:List Value) (sn:List Str) (sub:List Value) (ab:Bool) (col:Option Bool) (dd:Option Addr) (k0 k1 k2 k3 k5:Option Value),
   K.lookup C=some (excClassObj nm q C N bs bm true sn sub ab col dd k0 k1 k2 k3 k5 "ValueError.__new__")/\Ex.veTail bm=true
 kp:PySem.W.keepIn K (.ref C)=true
 sa:PySem.W.findIn K (.ref C) "__setattr__"=some (some (.builtin "object.__setattr__"))
 ga:PySem.W.findIn K (.ref C) "__getattribute__"=some (some (.builtin "BaseException.__getattribute__"))
 gt:PySem.W.findIn K (.ref C) "__getattr__"=some none
 cl:PySem.W.findIn K (.ref C) "__class__"=some (some (.builtin "object.__class__"))
 sg:PySem.W.specialIn K (.builtin "object.__class__") "__get__"=some (some (.builtin "getset_descriptor.__get__"))
 tk:PySem.W.takesIn K (.builtin "object.__class__")=some true
theorem XClsOk.cls {K:W.Frag} {mg:Str->Option Value} {name:Str} {C:Addr} (c:XClsOk K mg name C):XCls K C:=by obtain⟨nm,q,N,bs,bm,sn,sub,ab,col,dd,k0,k1,k2,k3,k5,l,v⟩:=c.obj;exact⟨nm,q,N,bs,bm,sn,sub,ab,col,dd,k0,k1,k2,k3,k5,l,Ex.VE.of v⟩
theorem XClsOk.cd {K:W.Frag} {mg:Str->Option Value} {name:Str} {C:Addr} (c:XClsOk K mg name C):∃cd,PySem.W.clsIn K C=some cd/\Ex.veTail cd.mro=true/\cd.hasDict=true/\∃bm,cd.mro=.ref C :: bm:=by obtain⟨nm,q,N,bs,bm,sn,sub,ab,col,dd,k0,k1,k2,k3,k5,l,v⟩:=c.obj;refine⟨_,by unfold PySem.W.clsIn; rw[l],v,rfl,_,rfl⟩
theorem XClsOk.mro {K:W.Frag} {mg:Str->Option Value} {name:Str} {C:Addr} (c:XClsOk K mg name C) {X:String} {b:Bool} (hb:([.type "ValueError",.type "Exception",.type "BaseException",.type "object"]:List Value).contains (.type X)=b):PySem.W.mroIn K C (.type X)=some b:=by obtain⟨cd,hcd,hv,_,bm,hm⟩:=c.cd;unfold PySem.W.mroIn;rw[hcd,qco,if_neg (by rw[hm]; exact qar),Ex.veTail_has hv hb]
end L2
namespace Ex
open PySem PySem.W PyProof.Rows PySem.Spec
section
variable {prog:Program} {w:World} {A:Around} {E:Value->Shared->Prop} {K:Frag} {x C:Addr} {ox:Obj} {od:Option Obj} {h:Heap} {g:Array GenState} {d:Drawn} {t:Nat} {os:OsState}
theorem z1t {tk:Tok} {R:Result->Shared->Prop} (X:K.In h) (I:InstAt h x ox C od) (hb:mroIn K C (.type "BaseException")=some true) (ho:mroIn K C (.type "object")=some true)
   (hf:findObj K C od "__class__"=some (.bind (.builtin "getset_descriptor.__get__") (.builtin "object.__class__"))) (hq:R (.ok (.ret (.ref C))) ⟨h,g,d,t,os⟩) :
   codeAny (model prog w) A (.call (.builtin "BaseException.__getattribute__") ⟨[.ref x,.str "__class__" tk],[]⟩) R ⟨h,g,d,t,os⟩:=by
 have hk:builtinKind "BaseException.__getattribute__"=some .slot:=by decide +kernel
 have hsp:splitId "BaseException.__getattribute__"=some ("BaseException","__getattribute__"):=by decide +kernel
 have sub:Looks (model prog w) h (isInstance (.ref x) (.type "BaseException")) true:=I.type.andThen (looks_mroIn X hb);have L0:=I.type (M:=model prog w);have L1:=looks_find (M:=model prog w) X I hf;refine codeAny_call_builtin qdm.ga.plain PySem.F.entry_bexc_ga (@check_slot (model prog w) _ _ ⟨h,g,d,t,os⟩ "BaseException.__getattribute__" "BaseException" "__getattribute__" (.ref x) [.str "__class__" tk] [] _ hk hsp sub (PySem.F.args_bexc_ga (.ref x) (.str "__class__" tk)) ?_);unfold Builtin.«object.__getattribute__»;refine wpAny_bind (wpAny_pure ?_);refine wpAny_bind (wpAny_pure ?_);refine wpAny_bind (L0.at ?_);refine wpAny_bind (L1.at ?_);show wpAny _ _ (holding [.builtin "object.__class__"] (call (.builtin "getset_descriptor.__get__") [.builtin "object.__class__",.ref x,.ref C]) >>= ret) _ _ _;exact wpAny_bind (wpAny_holding (wpAny_call (class_get (ox:=ox) (od:=od) X I ho (wpAny_pure hq))))
theorem xc_attr {Q:Option Value->Shared->Prop} (X:K.In h) (I:InstAt h x ox C od) (hb:mroIn K C (.type "BaseException")=some true) (ho:mroIn K C (.type "object")=some true)
   (hga:findIn K (.ref C) "__getattribute__"=some (some (.builtin "BaseException.__getattribute__"))) (hgt:findIn K (.ref C) "__getattr__"=some none)
   (hf:findObj K C od "__class__"=some (.bind (.builtin "getset_descriptor.__get__") (.builtin "object.__class__"))) (hq:Q (some (.ref C)) ⟨h,g,d,t+1,os⟩):wpAny (model prog w) A (getAttr? (.ref x) "__class__") Q E ⟨h,g,d,t,os⟩:=by
 have L0:=I.type (M:=model prog w);have L1:=looks_findIn (M:=model prog w) X hga;have L2:=looks_findIn (M:=model prog w) X hgt;have f3:=qdm.ga.bind (.ref x);have hx0:(false&&onTheHeap (Value.builtin "BaseException.__getattribute__"))=false:=rfl;have hx2:(Value.builtin "BaseException.__getattribute__"==Value.builtin "object.__getattribute__")=false:=by decide +kernel
 have hx1:(onTheHeap (Value.ref C)&&Value.builtin "BaseException.__getattribute__"==Value.builtin "object.__getattribute__")=false:=by rw[hx2]; rfl
 unfold getAttr? getAttrBy? getAttrBy;refine wpAny_bind (wpAny_mkText (wpAny_bind (wpAny_attempt (wpAny_holding (wpAny_bind (L0.at (wpAny_bind (L1.at ?_))))))))
 repeat (any_goals (first|assumption|with_reducible refine L0.at ?_|with_reducible refine L1.at ?_|with_reducible refine L2.at ?_|wp_step))
 refine z1t X I hb ho hf ?_;show wpAny _ _ (handedOut (.ref C)) _ _ _;exact wpAny_pure (wpAny_pure hq)
end
end Ex
namespace L2
open PySem PySem.Spec PyProof.Rows
def XAt (x C:Addr) (h:Heap):Prop:=∃o vs,h.get? x=some o/\o.cls=.ref C/\o.data=.fields vs/\(o.dict=none\/∃dx od,o.dict=some dx/\h.get? dx=some od)
theorem XAt.inst {x C:Addr} {h:Heap} (p:XAt x C h):∃ox od,PySem.W.InstAt h x ox C od:=by
 obtain⟨o,vs,ho,hc,hd,z|⟨dx,od,z,q⟩⟩:=p
 . exact⟨o,none,ho,hc,by unfold PySem.W.notCls; rw[hd],by rw[z]; trivial⟩
 . exact⟨o,some od,ho,hc,by unfold PySem.W.notCls; rw[hd],by rw[z]; exact q⟩
theorem zzd {K:W.Frag} {mg:Str->Option Value} {nm:Str} {x C:Addr} (c:XClsOk K mg nm C):PySem.W.KitX K (.ref x) (.ref C) (XAt x C) where
 ty:=λM h _ p=>by obtain⟨ox,od,I⟩:=p.inst; exact I.type
 it:=λM h X _=>by obtain⟨nm,q,N,bs,bm,sn,sub,ab,col,dd,k0,k1,k2,k3,k5,l,v⟩:=c.obj;intro A' Q' E' s' k q;unfold isType loadHead;exact wpAny_bind (wpAny_loadPart (k _ _ (X _ _ l)) (wpAny_pure q))
 ne:=λh tp dd its n sl X htp=>by obtain⟨nm,q,N,bs,bm,sn,sub,ab,col,dd',k0,k1,k2,k3,k5,l,v⟩:=c.obj;refine Bool.eq_false_iff.mpr λq=>?_;have e:C=tp:=Value.ref.inj (beq_iff_eq.mp q);subst e;have z:=congrArg Obj.cls (Option.some.inj ((X _ _ l).symm.trans htp));exact absurd (Value.type.inj z) (by decide)
 ca:=λ{prog w A E Q s} X p hq=>by
   obtain⟨ox,od,I⟩:=p.inst;obtain⟨cd,hcd,_⟩:=c.cd;have hf:PySem.W.findObj K C od "__class__"=some (.bind (.builtin "getset_descriptor.__get__") (.builtin "object.__class__")):=by unfold PySem.W.findObj;rw[hcd,qco,c.cl,qco];simp [c.sg,c.tk]
   obtain⟨hp,g,dr,tk,os⟩:=s;exact Ex.xc_attr X I (c.mro (by decide +kernel)) (c.mro (by decide +kernel)) c.ga c.gt hf hq
def z5e (K:W.Frag) (mg:Str->Option Value):List V->Hp->VK->Prop:=λxs H Q=>∃a C d nm y u b,xs=[.ref a,y]/\H a=some (XC a C d)/\(∀dx,d=some dx->∃o,H dx=some o)/\XClsOk K mg nm C/\zc4 y u/\PySem.W.kitOne K (.ref C) u=some b/\Q (.bl b) H
section
variable {X:Cx}
theorem z48 {pins:List (Addr×Obj)} {σ:St} {H:Hp} {s:Shared} {a C:Addr} {d:Option Addr} (I:Inv X pins σ H s) (e:H a=some (XC a C d)) (hd:∀dx,d=some dx->∃o,H dx=some o):XAt a C s.heap:=by
 obtain⟨o,vs,ho,hc,hdd,hf⟩:=(I.hok _ _ e).1;refine⟨o,vs,ho,hc,hf,?_⟩;cases d with
 | none=>exact .inl hdd
 | some dx =>
   obtain⟨z,q⟩:=hd dx rfl;obtain⟨u,r⟩:=(I.hok _ _ q).some_at;exact .inr ⟨dx,u,hdd,r⟩
theorem zo5:zjr X (.builtin "isinstance") (z5e X.K X.mg):=by
 intro pins s σ H xs us Q I r h;obtain⟨a,C,d,nm,y,u,b,rfl,e,hd,c,ry,hk,q⟩:=h;obtain⟨v,w',rfl,rx,rc⟩:=z3b r;cases (show v=Value.ref a from rx);have hw:PySem.W.kitOne X.K (.ref C) w'=some b:=by
   cases y with
   | ref z=>cases (show w'=Value.ref z from rc); cases (show u=Value.ref z from ry); exact hk
   | ty z=>cases (show w'=Value.type z from rc); cases (show u=Value.type z from ry); exact hk
   | non=>cases (show w'=Value.none from rc); cases (show u=Value.none from ry); exact hk
   | bl z=>cases (show w'=Value.bool z from rc); cases (show u=Value.bool z from ry); exact hk
   | int z=>obtain⟨t,rfl⟩:=ry; cases hk
   | str z=>obtain⟨t,rfl⟩:=ry; cases hk
   | byt z=>obtain⟨t,rfl⟩:=ry; cases hk
   | flt z=>obtain⟨t,rfl⟩:=ry; cases hk
 exact PySem.W.kia_one (zzd c) I.kIn (z48 I e hd) hw (λz=>nomatch z) λtk=>⟨.bl b,H,I.tok _,rfl,q⟩
end
end L2
namespace Ex
open PySem PySem.W PyProof.Rows PySem.Spec
theorem x_match {M:Model} {A:Around} {E:Value->Shared->Prop} {s:Shared} {K:Frag} {e C G:Addr} {Q:Bool->Shared->Prop} (X:K.In s.heap) (ht:Looks M s.heap (typeOf (.ref e)) (.ref C)) (hG:typeIn K (.ref G)=some (.type "type"))
   (hi:Looks M s.heap (isType (.ref G)) true) (hb:mroIn K G (.type "BaseException")=some true) (hs:mroIn K C (.ref G)=some true) (h:Q true s):wpAny M A (excMatches (.ref e) (.ref G)) Q E s:=by
 obtain⟨hp,g,d,tk,os⟩:=s;have L0:=looks_typeIn (M:=M) X hG;have L1:=looks_mroIn (M:=M) X hb;have L2:=looks_mroIn (M:=M) X hs;have f:=tc_notTuple;unfold excMatches isExcClass isInstance;refine wpAny_bind (wpAny_bind (L0.at ?_));rw[f];refine wpAny_pure ?_;simp only[qce,if_false];refine wpAny_bind (wpAny_pure ?_);simp only[qc8,qd1];refine wpAny_bind (wpAny_bind (wpAny_bind (wpAny_bind (hi.at ?_))));simp only[if_true];refine L1.at ?_;simp only[Bool.not_true,qce,if_false];refine wpAny_pure (wpAny_pure (wpAny_bind (ht.at ?_)));refine wpAny_bind (wpAny_bind (wpAny_bind (L2.at ?_)));simp only[if_true];exact wpAny_pure (wpAny_pure (wpAny_pure h))
end Ex
namespace L2
open PySem PySem.Spec PyProof.Rows
abbrev TX:=St->Hp->VK->XK->Prop
def PX (X:Cx) (e:Expr) (t:TX):Prop:=∀(pins:List (Addr×Obj)) (s:Shared) (σ:St) (H:Hp) (Q:VK) (E:XK),Inv X pins σ H s->t σ H Q E ->
 wpAny (model X.prog X.w) X.A (eval e X.env) (EP X pins σ Q) (λev s'=>∃H1 s1,Inv X pins σ H1 s1/\CXe X.prog X.w X.stack H1 s1 E ev s') s
def PSx (X:Cx) (st:Stmt) (t:zje->XK->St->Hp->Prop):Prop:=∀(pins:List (Addr×Obj)) (s:Shared) (σ:St) (H:Hp) (D:zje) (E:XK),Inv X pins σ H s->t D E σ H ->
 wpAny (model X.prog X.w) X.A (exec st X.env) (SP X pins D) (λev s'=>∃H1 s1,Inv X pins σ H1 s1/\CXe X.prog X.w X.stack H1 s1 E ev s') s
section
variable {X:Cx} {k:Nat} {f:Addr} {fd:FuncData} {ps:List Str} {sp:Sp} {x:Str} {st:Stmt} {p pos:Pos} {e:Expr} {es:List Expr} {t:TA} {tx:TX}
theorem zzh (he:PX X e tx) (hs:swapsWith e none pos.line X.env=pure false:=by rfl):PSx X (.Expr e pos) (λD E σ H=>tx σ H (λ_ H'=>D.nx σ H') E):=by intro pins s σ H D E I h;exact wpAny_Expr_any (wpAny_mono (he pins s σ H _ E I h) (λv s1 ⟨x,H1,I1,r1,q1⟩=>⟨σ,H1,I1,q1⟩) λ_ _ z=>z) I.quiet hs
end
abbrev Cx.hdl (X:Cx) (ea:Addr):Cx:={ X with A:=X.A.mark (some (.ref ea)),calm:=false }
theorem Inv.hdl {X:Cx} {pins:List (Addr×Obj)} {σ:St} {H:Hp} {s:Shared} (I:Inv X pins σ H s) (ea:Addr):Inv (X.hdl ea) pins σ H s :=
 ⟨⟨I.ok.mod,I.ok.kind,I.ok.glob,I.ok.blt,I.ok.above,I.ok.inj,I.ok.has,I.ok.cab,λz=>Bool.noConfusion z,I.ok.frames,I.ok.stk,I.ok.exf,I.ok.bs,I.ok.bsz,I.ok.noex,I.ok.exfs,I.ok.funs,I.ok.frf⟩,I.os,I.bare,I.base,I.loc,I.cell,I.free,I.freeC,I.pin,I.hok,I.len⟩
theorem Inv.unhdl {X:Cx} {pins:List (Addr×Obj)} {σ:St} {H:Hp} {s:Shared} {ea:Addr} {E:Value->Shared->Prop} (ok:X.Ok) (I:Inv ((X.hdl ea).wish E) pins σ H s):Inv X pins σ H s :=
 ⟨ok,I.os,I.bare,I.base,I.loc,I.cell,I.free,I.freeC,I.pin,I.hok,I.len⟩
theorem Inv.dropped {X:Cx} {pins:List (Addr×Obj)} {σ:St} {H:Hp} {s:Shared} {j:Nat} {n:Str} {m:Str->Option Value} {h':Heap} {v:Option Value} {t':Nat} (I:Inv X pins σ H s) (hN:X.N.Nodup) (hj:X.N[j]?=some n) (hk:X.env.kindOf n=some .local)
   (hm:∀(i:Nat) (x:Str) (v:V),X.N[i]?=some x->σ[i]?=some (some v)->Vis X.env.scope x->∃u,zc4 v u/\Look X.env s.heap m x u) (hn0:s.heap.Ns X.env.locals m)
   (hn:h'.Ns X.env.locals (λx=>if x=n then v else m x)) (hs:Heap.SameBut X.env.locals s.heap h'):Inv X pins (σ.set j none) H { s with heap:=h',toks:=t' }:=by
 have cne:=I.cne;have lt:∀b o,X.s₀.heap.get? b=some o->b≠X.env.locals:=λb o e=>qa2 (Nat.lt_of_lt_of_le (Heap.lt_size e) I.ok.above);obtain⟨oL,_,_,hoL,_⟩:=id hn0;refine⟨I.ok,I.os,I.bare,⟨λb o e n hb hx=>(hs.2 b (lt b o e)).trans (I.base.keep b o e n hb hx),λb o e n hb hx=>?_,I.base.free,λb o e hx=>?_,I.base.tups,I.base.frzs,I.base.tbls⟩,
   ⟨_,hn,λi y w e1 e2 e3=>?_⟩,λy c e=>?_,I.free,I.freeC,λp hp=>?_,λb ob e=>?_,by rw[qbh]; exact I.len⟩
 . obtain⟨sl,e1⟩:=I.base.slot b o e n hb hx;exact⟨sl,(hs.2 b (lt b o e)).trans e1⟩
 . obtain⟨o',e1⟩:=I.base.there b o e hx;exact⟨o',(hs.2 b (lt b o e)).trans e1⟩
 . have hij:j≠i:=λz=>by
     subst z;by_cases q:j<σ.length
     . rw[qcq q] at e2; cases e2
     . rw[qbl (by rw[qbh]; omega)] at e2; cases e2
   rw[qcl hij] at e2;obtain⟨u,r,q⟩:=hm i y w e1 e2 e3;refine⟨u,r,?_⟩;rcases q with⟨k,e⟩|⟨k,c,e,z⟩
   . have:y≠n:=λz=>hij (zpf hN hj (z ▸ e1));exact .inl ⟨k,by show(if y=n then v else m y)=some u; rw[if_neg this]; exact e⟩
   . exact .inr ⟨k,c,e,z.sameBut hs (cne y c e)⟩
 . obtain⟨w',z⟩:=I.cell y c e;exact⟨w',z.sameBut hs (cne y c e)⟩
 . obtain⟨e,n,ne,nf,d⟩:=I.pin p hp;exact⟨(hs.2 p.1 ne).trans e,n,ne,nf,d⟩
 . refine(I.hok b ob e).stay (λc w' hc q=>(hs.2 c ?_).trans q) (λ_ q=>q) λ_ _ q=>q;rintro rfl;rcases hc with rfl|hc
   . rw[I.free] at e; cases e
   . rw[I.free] at hc; cases hc
theorem Un.track {fs:List Addr} {H0 H:Hp} {h0 h:Heap} {a:Addr} {o:HO} (u:Un fs [] H0 H h0 h) (n:h0.get? a=none) (e:H a=none):Un fs [] H0 (upd H a o) h0 h where
 keep:=u.keep
 slot:=u.slot
 free:=λb ob q z hx=>by rw[zag (λy=>by rw[y,n] at q; cases q)]; exact u.free b ob q z hx
 there:=u.there
 tups:=λb xs q=>by have r:=u.tups b xs q;rw[zag (za3 r e)]; exact r
 frzs:=λb ob xs q=>by have r:=u.frzs b ob xs q;rw[zag (za3 r e)]; exact r
 tbls:=λb ps q=>by obtain⟨m,r⟩:=u.tbls b ps q;exact⟨m,by rw[zag (za3 r e)]; exact r⟩
theorem HOk.track {P:Program} {w:World} {H:Hp} {h:Heap} {a:Addr} {o:HO} (x:HOk P w H h) (e:H a=none) (k:zdm P w (upd H a o) h a o):HOk P w (upd H a o) h:=λb u q=>by
 by_cases hb:b=a
 . subst hb; rw[zac] at q; cases q; exact k
 . rw[zag hb] at q;exact(x b u q).stay (λc v _ r=>r) (λc r=>by rw[zag (za3 r e)]; exact r) λc xs r=>by rw[zag (za3 r e)]; exact r
def tTry (K:W.Frag) (mg:Str->Option Value) (G:Addr) (j:Nat) (tb:zje->XK->St->Hp->Prop) (th:TS):TS:=λD σ H=>tb D (λcls d H'=>∃C nm,cls=.ref C/\XClsOk K mg nm C/\PySem.W.mroIn K C (.ref G)=some true /\
 ∀ea,H' ea=none->th { nx:=λσ' H2=>D.nx (σ'.set j none) H2,rt:=D.rt,bk:=λσ' H2=>D.bk (σ'.set j none) H2,ct:=λσ' H2=>D.ct (σ'.set j none) H2 } (σ.set j (some (.ref ea))) (upd H' ea (XC ea C d))) σ H
section
variable {X:Cx} {st b0:Stmt} {suite:List Stmt} {tb:zje->XK->St->Hp->Prop} {th:TS} {G:Addr} {j:Nat} {c n:Str} {cp hp pos:Pos}
theorem z4m (hN:X.N.Nodup) (hj:X.N[j]?=some n) (hk:X.env.scope.names.lookup n=some .local) (hG:XClsOk X.K X.mg c G) (hst:X.stack=X.env :: X.outer) (hfr:X.env.frame=some X.env.locals)
   (hb:PSx X st tb) (hh:∀ea,PSs (X.hdl ea).nox (b0 :: suite) th) (hg:Gl X c:=by rfl) (hdb:(c==("__debug__":Str))=false:=by decide) :
   PS X (.Try [st] [.ExceptHandler (some (.Name c cp)) (some n) (b0 :: suite) hp] [] [] pos) (tTry X.K X.mg G j tb th):=by
 intro pins s σ H D I h;refine wpAny_Try_except (wpAny_execs_cons (wpAny_mono (hb pins s σ H D _ I h) (λf s1 q=>?_) λev s1 q=>?_))
 . cases f with
   | next=>exact wpAny_execs_nil (wpAny_execs_nil q)
   | ret v=>exact q
   | brk=>exact q
   | cont=>exact q
 obtain⟨H1,s2,I1,ea,cls,d,T0,H',rfl,os,bare,un,hok,hn,he1,hT0,hT1,tr,C,nm,rfl,hC,hsub,hth⟩:=q;have I2:Inv X pins σ H' s1:=I1.call' os un hok bare λb z=>nomatch z;have hframes:X.A.frames=some (X.env :: X.outer):=by rw[<- hst]; exact I.ok.frames
 have hfun:s1.heap.FunFrames X.base (X.env :: X.outer):=by rw[<- hst]; exact I2.stack
 have hS1:∀b∈frs (X.env :: X.outer),H' b=none:=by rw[<- hst]; exact I2.stkFree
 -- the state with a heap that moved
 have mv:∀(h':Heap) (D':Addr->Prop) (g:Array GenState) (dr:Drawn) (tk:Nat),Ex.Mvd (frs (X.env :: X.outer)) D' s1.heap h'->(∀b,D' b->s2.heap.get? b=none)->(∀b,D' b->H' b=none)->AllBare g ->
     Inv X pins σ H' ⟨h',g,dr,tk,s1.os⟩:=λh' D' g dr tk m h1 h2 h3=>by
   refine I1.call' (s':=⟨h',g,dr,tk,s1.os⟩) os (Un.moved un m h1 λb hb=>.inl ?_) (HOk.moved hok m h2 hS1) h3 λb z=>nomatch z;rw[hst]; exact hb
 refine Ex.x_noteT hframes hfun hfr tr λh3 T hT m3 t3=>?_;refine Ex.x_mark (fr:=none) t3 λh4 m4 t4=>?_;have fr2:∀b,s1.heap.get? b=none->s2.heap.get? b=none:=λb q=>by
   cases r:s2.heap.get? b with
   | none=>rfl
   | some o=>obtain⟨o',z⟩:=un.there b o r (by simp); rw[q] at z; cases z
 have D1:∀b,((b=ea\/b=T0)\/b=T)->s2.heap.get? b=none:=by
   rintro b ((rfl|rfl)|rfl)
   . exact hn
   . exact hT0
   . exact fr2 _ hT
 have D2:∀b,((b=ea\/b=T0)\/b=T)->H' b=none:=by
   rintro b ((rfl|rfl)|rfl)
   . exact he1
   . exact hT1
   . exact hok.none_of hT
 have M4:Ex.Mvd (frs (X.env :: X.outer)) (λb=>(b=ea\/b=T0)\/b=T) s1.heap h4:=(m3.mono λb z=>.inl z).trans (zzr (m4.mono λb z=>.inr z) λb z=>nomatch z);have I4:Inv X pins σ H' { s1 with heap:=h4 }:=mv h4 _ s1.gens s1.drawn s1.toks M4 D1 D2 bare;have Ih:=I4.hdl ea;obtain⟨cdG,hcG,hvG,_,bmG,hmG⟩:=hG.cd;obtain⟨nmG,qG,NG,bsG,bm',snG,subG,abG,colG,ddG,k0,k1,k2,k3,k5,lG,vG⟩:=hG.obj;refine wpAny_handleBy_cons (codeAny_handlers_test (A:=X.A.mark (some (.ref ea))) (zmx Ih hg hG.g ?_ hdb)) (by intro q; cases q);have ty:PySem.W.typeIn X.K (.ref G)=some (.type "type"):=by show(List.lookup G X.K).map (·.cls)=_; rw[lG]; rfl
 obtain⟨oe,vs,oT,ts,q1,q2,q3,q4,q5,q6,q7,q8,q9⟩:=id t4;have Lt:PySem.W.Looks (model X.prog X.w) h4 (typeOf (.ref ea)) (.ref C):=q2 ▸ (PySem.W.Looks.ld q1).andThen .now;have Li:PySem.W.Looks (model X.prog X.w) h4 (isType (.ref G)) true:=by intro A' Q' E' s' k q;unfold isType loadHead;exact wpAny_bind (wpAny_loadPart (k _ _ (I4.kIn _ _ lG)) (wpAny_pure q))
 refine Ex.x_match (s:={ s1 with heap:=h4 }) I4.kIn Lt ty Li (hG.mro (by decide +kernel)) hsub ?_;dsimp only;refine codeAny_handlers_suite_as ?_;refine Ex.x_mark (s:={ s1 with heap:=h4 }) (fr:=none) t4 λh5 m5 t5=>?_;have M5:Ex.Mvd (frs (X.env :: X.outer)) (λb=>(b=ea\/b=T0)\/b=T) s1.heap h5:=M4.trans (zzr (m5.mono λb z=>.inr z) λb z=>nomatch z);have I5:Inv X pins σ H' { s1 with heap:=h5 }:=mv h5 _ s1.gens s1.drawn s1.toks M5 D1 D2 bare;obtain⟨oe5,vs5,oT5,ts5,p1,p2,p3,p4,_⟩:=id t5;have I6:Inv X pins σ (upd H' ea (XC ea C d)) { s1 with heap:=h5 }:=by refine I1.call' (s':={ s1 with heap:=h5 }) os (Un.track (Un.moved un M5 D1 λb hb=>.inl (by rw[hst]; exact hb)) hn he1) (HOk.track (HOk.moved hok M5 D2 hS1) he1 (z6j p1 p2 p3 p4)) bare λb z=>nomatch z
 refine zo4 I6 hN hj (.inl hk) (show zc4 (.ref ea) (.ref ea) from rfl) (λs6 I7=>?_) (.inr hk);refine wpAny_mono (hh ea pins s6 _ _ _ ((I7.hdl ea).wish _) (hth ea he1)) (λf s7 q=>?_) λ_ _ z=>z.elim;have go:∀{σ':St} {H2:Hp} {Q:Flow->Shared->Prop},Inv ((X.hdl ea).nox) pins σ' H2 s7->(∀s8,Inv X pins (σ'.set j none) H2 s8->Q f s8)->wpAny (model X.prog X.w) X.A (do bindName X.env n .none; unbindBehindTheSuite X.env n hp) (λ_ s8=>Q f s8) X.xe s7:=λ{σ' H2 Q} J k=>by have J':=J.unhdl I.ok;obtain⟨m,hm,hl⟩:=id J'.loc;exact wpAny_nameGoes_keeps hk hm (by rw[I.ok.kind]; rfl) λh' v hn' hs'=>k _ (J'.dropped hN hj hk hl hm hn' hs')
 cases f with
 | next =>
   obtain⟨σ',H2,J,z⟩:=q;exact go J λs8 K8=>⟨_,H2,K8,z⟩
 | ret u =>
   obtain⟨v,σ',H2,J,rv,z⟩:=q;exact go J λs8 K8=>⟨v,_,H2,K8,rv,z⟩
 | brk =>
   obtain⟨σ',H2,J,z⟩:=q;exact go J λs8 K8=>⟨_,H2,K8,z⟩
 | cont =>
   obtain⟨σ',H2,J,z⟩:=q;exact go J λs8 K8=>⟨_,H2,K8,z⟩
end
section
variable {P:Program} {w:World} {K:W.Frag} {mg:Str->Option Value} {base:Heap}
theorem Fun.okE {x qual:Str} {st:Stmt} {f:Addr} {fd:FuncData} {N ps:List Str} {k:Nat} {sp:Sp} (F:Fun K x qual st f fd) (S:FnScope N ps (zai st)) (len:∀vs H Q E,sp vs H Q E->vs.length=ps.length)
   (hbody:∀(cdv:Value) (A:Around) (outer:List Env) (s:Shared) (H:Hp) (vs:List V) (Q:VK) (E:XK),Room k (A.deeper (envOfC qual (zai st) s.heap.objs.size f cdv))->sp vs H Q E ->
     ∃t,PSs (zkf (CXe P w) P w K mg base N qual (zai st) f cdv A outer s H E) (zav st) t/\t { nx:=λ_ H'=>Q .non H',rt:=Q } (zph N vs) H):FnOk P w K mg base (CXe P w) (k+1) f fd ps sp:=by
 obtain⟨oc,od,kV,doc,pm,an,cdv,ct,osl,rfl,lk,hcd⟩:=F.ex;exact z4r lk hcd S len λA outer s H vs Q E hr hsp=>hbody cdv A outer s H vs Q E hr hsp
end
section
variable {X:Cx} {k:Nat} {f C:Addr} {fd:FuncData} {ps:List Str} {sp:Sp} {x qual:Str} {st:Stmt} {p pos cpos:Pos} {e:Expr} {es:List Expr} {t:TA} {E:XK}
theorem zwx (c:XClsOk X.K X.mg x C) (hi:PySem.W.findIn X.K (.ref C) "__init__"=some (some (.builtin "ValueError.__init__"))) (hc:X.calm=true) (hx:zvl X E) (hg:Gl X x:=by rfl)
   (hdb:(x==("__debug__":Str))=false:=by decide):PS X (.Raise (some (.Call (.Name x p) [] [] cpos)) none pos) (zvc C E):=zu9 c.cls c.g hi c.kp hc hx hg hdb
end
theorem zpr {K:W.Frag} {mg:Str->Option Value} {h:Heap} {name:Str} {C N:Addr} {nm q:Str} {bs bm:List Value} {sn:List Str} {sub:List Value} {ab:Bool} {col:Option Bool} {dd:Option Addr} {k0 k1 k2 k3 k5:Option Value} (X:K.In h) (G:h.Ns mainGlobals mg)
   (a:PySem.W.nsIn K mainGlobals name=some (some (.ref C))) (l:K.lookup C=some (excClassObj nm q C N bs bm true sn sub ab col dd k0 k1 k2 k3 k5 "ValueError.__new__")) (v:Ex.veTail bm=true) (kp:PySem.W.keepIn K (.ref C)=true)
   (sa:PySem.W.findIn K (.ref C) "__setattr__"=some (some (.builtin "object.__setattr__"))) (ga:PySem.W.findIn K (.ref C) "__getattribute__"=some (some (.builtin "BaseException.__getattribute__"))) (gt:PySem.W.findIn K (.ref C) "__getattr__"=some none)
   (cl:PySem.W.findIn K (.ref C) "__class__"=some (some (.builtin "object.__class__"))) (sg:PySem.W.specialIn K (.builtin "object.__class__") "__get__"=some (some (.builtin "getset_descriptor.__get__"))) (tk:PySem.W.takesIn K (.builtin "object.__class__")=some true):XClsOk K mg name C :=
 ⟨PySem.W.mg_of X G a,⟨nm,q,N,bs,bm,sn,sub,ab,col,dd,k0,k1,k2,k3,k5,l,v⟩,kp,sa,ga,gt,cl,sg,tk⟩
theorem zo6:bootBuiltins "ValueError"=some (.type "ValueError"):=by decide +kernel
theorem zro {X:Cx}:OpR X (compareOp .IsNot) (λx y H Q=>∃a b,x=.bl a/\y=.bl b/\Q (.bl (!decide (a=b))) H):=by intro pins s σ H x y v u Q I rx ry h;obtain⟨a,b,rfl,rfl,q⟩:=h;cases rx;cases ry;exact wpAny_isNot_plain rfl (zca I q (by cases a <;> cases b <;> rfl))
def noX:XK:=λ_ _ _=>False
theorem zr0 {P:Program} {w:World} {X:Cx}:zjf (CXe P w) X noX:=by rintro pins σ H s e s' I ⟨ea,cls,d,T,H',_,_,_,_,_,_,_,_,_,_,h⟩;exact h.elim
end L2
namespace Sk
open PySem PySem.Spec PyProof.Rows
mutual
def hsh (w:World):PyData->Int
 | .int i=>hashInt i
 | .str x=>hashStr w x
 | .bool b=>hashInt (if b then 1 else 0)
 | .tuple ds=>reduceHash (Builtin.Tuple.tupleHashOf (hshs w ds))
 | _=>0
def hshs (w:World):List PyData->List Int
 | []=>[]
 | d :: ds=>hsh w d :: hshs w ds
end
mutual
def drw:PyData->Nat
 | .tuple ds=>drws ds+1
 | _=>1
def drws:List PyData->Nat
 | []=>0
 | d :: ds=>drw d+drws ds
end
end Sk
namespace L2
open PySem PySem.Spec PyProof.Rows
structure BaseOk (K:W.Frag) (C:Addr) (m:Str) (f:Addr):Prop where
 ga:PySem.W.specialIn K (.ref C) "__getattribute__"=some (some (.builtin "type.__getattribute__"))
 rd:PySem.W.readsIn K C (.type "type")=true
 e:PySem.W.findCls K (.ref C) (.type "type") m=some (.val (.ref f))
 kp:PySem.W.keepIn K (.ref f)=true
section
variable {X:Cx} {CX:CXT} {k:Nat} {f C:Addr} {fd:FuncData} {ps:List Str} {sp:Sp} {dvs:List V} {ds:List Value} {E:XK} {x m:Str} {p pos apos:Pos} {e o:Expr} {es:List Expr} {ta:TE} {t:TA}
theorem z0w {pl:Sem Bool} (he:PE X o (tC (.ref C))) (B:BaseOk X.K C m f) (F:FnOk X.prog X.w X.K X.mg X.base CX k f fd ps sp) (hr:Room k X.A) (hb:zjq X.K fd ps ds) (hd:zcq dvs ds) (hx:zjf CX X E) (ha:PA X (e :: es) t)
   (hst:starEach (e :: es) X.env=(false,eval e X.env) :: starEach es X.env:=by rfl) (hpl:(backTo pos (starEach es X.env)).any (·.1)=false:=by rfl)
   (ht:eval (.Call (.Attribute o m apos) (e :: es) [] pos) X.env=(do
     let ov <- eval o X.env
     standAt apos.atName
     let (f,first) <- holding [ov] (getMethod ov m pl)
     callWith pos f first (backTo pos (starEach (e :: es) X.env)) (backToKw pos (keywordEach [] X.env))):=by rfl) :
   PE X (.Call (.Attribute o m apos) (e :: es) [] pos) (zvw sp dvs E t):=by
 intro pins s σ H Q I h;refine PySem.W.methodCall_KW (pl:=pl) (thn (he pins s σ H (λx H1=>x=.ref C/\t σ H1 λvs H2=>sp (vs++dvs) H2 Q E) I ⟨rfl,h⟩) λu s1 ⟨x,H1,I1,rx,ex,q⟩=>?_) ht;subst ex;obtain rfl:u=Value.ref C:=rx;refine PySem.W.method_cls I1.kIn B.ga (PySem.W.cls_value I1.kIn B.rd B.e rfl ?_);have I2:=I1.tok (s1.toks+1);refine PySem.W.callWith_K (first:=[]) (h₀:=X.base) I.ok.mod.kin B.kp (thn (ha pos pins _ σ H1 _ I2 q) λus s2 ⟨vs,H2,I3,r,q2⟩=>⟨I3.kIn,?_⟩) hst hpl;exact ztg (us:=us) (vs:=vs) F hr hb hd hx I3 r q2
end
structure BasOk (K:W.Frag) (C:Addr) (m qual:Str) (st:Stmt) (ps:List Str) (f:Addr) (fd:FuncData):Prop where
 F:Fun K m qual st f fd
 b:zjq K fd ps []
 B:BaseOk K C m f
theorem zza {K:W.Frag} {C:Addr} {m qual:Str} {st:Stmt} {ps:List Str} {f:Addr} {oc:Value} {od an:Option Addr} {osl:Array (Option Value)} {kV doc pm cdv ct:Value}
   (ga:PySem.W.specialIn K (.ref C) "__getattribute__"=some (some (.builtin "type.__getattribute__"))) (rd:PySem.W.readsIn K C (.type "type")=true) (e:PySem.W.findCls K (.ref C) (.type "type") m=some (.val (.ref f))) (l:K.lookup f=some ⟨oc,od,.func (PySem.W.fnOf m qual (zde st) (zav st) (zai st) .none kV doc pm an cdv ct),osl⟩) (c:PySem.W.codeIn K cdv qual=true) (k:PySem.W.keepIn K (.ref f)=true)
   (b:∀(kV doc pm:Value) (an:Option Addr) (cdv ct:Value) (us:List Value),us.length=ps.length->bindArgs (PySem.W.fnOf m qual (zde st) (zav st) (zai st) .none kV doc pm an cdv ct) ⟨us,[]⟩=pure (ps.zip us)) :
   BasOk K C m qual st ps f (PySem.W.fnOf m qual (zde st) (zav st) (zai st) .none kV doc pm an cdv ct) :=
 ⟨zlu l c k,(zlu l c k).binds b,⟨ga,rd,e,k⟩⟩
theorem Inv.thaw {X:Cx} {pins:List (Addr×Obj)} {σ:St} {H:Hp} {s:Shared} {d:Addr} {o:Obj} {kvs:List (Key×V)} (I:Inv X pins σ H s) (e:H d=some (.frz o (.dK kvs))) (h0:∀o u,X.H₀ d≠some (.frz o u)):Inv X pins σ (upd H d (.dK kvs)) s:=by
 have nd:∀b u,H b=some u->u≠.frz o (.dK kvs)->b≠d:=λb u q n z=>by subst z;rw[e] at q;cases q;exact n rfl
 have none_of:∀{b:Addr},H b=none->upd H d (.dK kvs) b=none:=λ{b} hb=>by rw[zag (λz=>by subst z; rw[e] at hb; cases hb)];exact hb
 refine⟨I.ok,I.os,I.bare,⟨I.base.keep,I.base.slot,λb q h1 h2 h3=>none_of (I.base.free b q h1 h2 h3),I.base.there,λb xs q=>?_,λb q u h=>?_,λb ps q=>?_⟩,I.loc,I.cell,none_of I.free,λx c h=>none_of (I.freeC x c h),λp hp=>?_,λb u q=>?_,I.len⟩
 . have:=I.base.tups b xs q;rw[zag (nd b _ this (by intro z; cases z))];exact this
 . have:=I.base.frzs b q u h;rw[zag (λz=>by subst z; exact h0 _ _ h)];exact this
 . obtain⟨more,this⟩:=I.base.tbls b ps q;refine⟨more,?_⟩;rw[zag (nd b _ this (by intro z; cases z))];exact this
 . obtain⟨p1,p2,p3⟩:=I.pin p hp;exact⟨p1,none_of p2,p3⟩
 . have own:∀c b,H c=some (.own b)->(upd H d (.dK kvs)) c=some (.own b):=λc b q=>(zag (nd c _ q (by intro z; cases z))).trans q;have tup:∀c xs,H c=some (.tup xs)->(upd H d (.dK kvs)) c=some (.tup xs):=λc xs q=>(zag (nd c _ q (by intro z; cases z))).trans q;by_cases hb:b=d
   . subst hb;rw[zac] at q;cases q;exact(I.hok _ _ e).2.stay (λ_ _ _ q=>q) (λc q=>own c _ q) tup
   . rw[zag hb] at q;exact(I.hok b u q).stay (λ_ _ _ q=>q) (λc q=>own c _ q) tup
theorem z1s {X:Cx} {st:Stmt} {t:TS} (h:PS X st t):PS X st (λD σ H=>∃d kvs,H d=some (.dK kvs)/\t { D with nx:=λσ' H'=>∃o,H' d=some (.frz o (.dK kvs))/\D.nx σ' (upd H' d (.dK kvs)) } σ H):=by
 intro pins s σ H D I hh;obtain⟨d,kvs,hd,hh⟩:=hh;have h0:∀o u,X.H₀ d≠some (.frz o u):=λo u z=>by have:=I.base.frzs d o u z;rw[hd] at this;cases this
 refine thn (h pins s σ H _ I hh) λf s1 q=>?_;cases f with
 | next =>
   obtain⟨σ',H',I',o,e,q⟩:=q;exact⟨σ',_,I'.thaw e h0,q⟩
 | brk=>exact q
 | cont=>exact q
 | ret u=>exact q
def Itq (o:Obj) (d:Addr) (kvs:List (Key×V)):It :=
 ⟨λi H=>H d=some (.frz o (.dK kvs))/\i<kvs.length,λi H y H'=>H'=H/\∀kv,kvs[i]?=some kv->y=kV kv.1,λi H=>H d=some (.frz o (.dK kvs))/\i=kvs.length⟩
theorem z2b {P:Program} {w:World} {K:W.Frag} {tg:Expr} (o:Obj) (d it:Addr) (kvs:List (Key×V)) (es0:Array DictEntry) (ep:Nat) (hep:o.data=.dict es0 ep) :
   Turn P w K tg (Itq o d kvs) [it] it (λi h=>h.IsKeyIter it d i kvs.length ep) where
 mem:=by simp
 obj:=λi h st b hb=>by
   have e:b=it:=by simpa using hb
   subst e;obtain⟨o,e,c,d⟩:=st;exact⟨o,e,λv z=>by rw[d] at z; cases z⟩
 keep:=λi h h' st k=>st.at λo e=>k it (by simp) o e
 item:=by
   intro X hP hw hK hc i pins s σ H E I hf st hg;subst hP hw hK;obtain⟨hfz,hi⟩:=hg;obtain⟨vs,rel,hD⟩:=zoa I hfz hep;have hlen:kvs.length=vs.length:=KV.length rel;have hi':i<vs.length:=by omega
   have rk:kvs[i].1=vs[i].1/\zc4 kvs[i].2 vs[i].2:=zib rel hi hi';refine wpAny_pyNext_dict_item (knd:=zbe X.prog X.w) (k:=vs[i].1) (v:=vs[i].2) (kvs:=vs) (by rw[<- hlen]; exact st) hD (by simp [hi']) λkey h' hkey st' sb=>?_;have I1:Inv X pins σ H { s with heap:=h' }:=I.turnedL (t':=s.toks) (ch:=[it]) (λb o hb e=>(sb.2 b (λz=>hb (by simp [z]))).trans e) hf;have kk:∀kv,kvs[i]?=some kv->kV kvs[i].1=kV kv.1:=λkv hkv=>by
     have:kvs[i]=kv:=by simpa [hi] using hkv
     rw[this]
   exact⟨_,rfl,letGo_keyiter (s':={ s with heap:=h' }) st' ⟨kV kvs[i].1,H,I1,by rw[rk.1]; exact zvo hkey,⟨rfl,kk⟩,by rw[hlen]; exact st',λb hb=>(hf b hb).1⟩⟩
 done:=by intro X hP hw hK hc i pins s σ H E I hf st hg;subst hP hw hK;obtain⟨hfz,hi⟩:=hg;obtain⟨vs,rel,hD⟩:=zoa I hfz hep;have hlen:kvs.length=vs.length:=KV.length rel;exact wpAny_pyNext_dict_end (knd:=zbe X.prog X.w) (kvs:=vs) (I.ok.hd hc) (by rw[<- hlen]; exact st) hD (by simp; omega) λh' eb=>⟨rfl,I.turnedL (t':=s.toks) (ch:=[it]) (λb o hb e=>eb b o (λz=>hb (by simp [z])) e) hf⟩
 self:=λ_ _ _ _ _ st h=>wpAny_pyIter_keyiter st h
section
variable {X:Cx} {tg:Expr}
def iDk (td:TE):TI:=λσ H R=>td σ H λx H1=>∃d kvs,x=.ref d/\H1 d=some (.dK kvs)/\∀o,R (Itq o d kvs) (upd H1 d (.frz o (.dK kvs)))
theorem z5y {l:Expr} {td:TE} (hl:PE X l td):PI X tg l (iDk td):=by
 intro pins s σ H R I h;refine thn (hl pins s σ H _ I h) λv s1 ⟨x,H1,I1,r1,q1⟩=>?_;obtain⟨d,kvs,rfl,e,q⟩:=q1;cases r1;obtain⟨o,ho,I2⟩:=I1.freeze e;obtain⟨ho2,z,hd,vs,rel,dd⟩:=I2.hok d _ zac;obtain⟨o',es,ep,ho',hx,hdat,r⟩:=id dd;rw[ho] at ho';cases ho';obtain⟨vs3,rel3,hD3⟩:=zoa I2 zac hdat;have hlen:kvs.length=vs3.length:=KV.length rel3;refine wpAny_pyIter_dict (knd:=zbe X.prog X.w) (kvs:=vs3) (ep:=ep) hd hD3 ?_;rw[<- hlen];refine⟨s1.heap.objs.size,[s1.heap.objs.size],_,_,_,rfl,I2.kept (t':=s1.toks) λb o e=>Heap.get?_push_of_some _ e,z2b o d s1.heap.objs.size kvs es ep hdat,⟨_,qap _ rfl,rfl,rfl⟩,λb hb=>?_,q o⟩;have z:b=s1.heap.objs.size:=by simpa using hb
 subst z;exact I2.fpOk (qae _) (I2.hok.fresh (qae _))
theorem z4f {o:Obj} {d:Addr} {kvs:List (Key×V)} {g:TG} {tb:TS} {D:zje} {σ:St} {H:Hp} (Pv:Nat->St->Hp->Prop) (h0:Pv 0 σ H) (hl:∀i σ H,i<=kvs.length->Pv i σ H->H d=some (.frz o (.dK kvs)))
   (hs:∀i kv σ H,kvs[i]?=some kv->Pv i σ H->g (kV kv.1) σ H λσ2 H2=>tb { D with nx:=Pv (i+1),ct:=Pv (i+1),bk:=D.nx } σ2 H2) (hd:∀σ H,Pv kvs.length σ H->D.nx σ H) :
   ∃W:Nat->Nat->St->Hp->Prop,(∃m,W 0 m σ H)/\∀i m σ H,W i m σ H->((Itq o d kvs).stop i H/\D.nx σ H)\/((Itq o d kvs).go i H/\∃N:St->Hp->Prop,(∀σ' H',N σ' H'->∃m',m'<m/\W (i+1) m' σ' H')/\∀x H',(Itq o d kvs).yld i H x H'->g x σ H' λσ2 H2=>tb { D with nx:=N,ct:=N,bk:=D.nx } σ2 H2):=by
 refine⟨λi m σ H=>m=kvs.length - i/\i<=kvs.length/\Pv i σ H,⟨kvs.length,by simp,qa6 _,h0⟩,?_⟩;rintro i m σ H ⟨rfl,hi,p⟩;have q:=hl i σ H hi p;by_cases hlt:i<kvs.length
 . refine .inr ⟨⟨q,hlt⟩,Pv (i+1),λσ' H' p'=>⟨kvs.length - (i+1),by omega,rfl,hlt,p'⟩,λx H' y=>?_⟩;obtain⟨rfl,y⟩:=y;rw[y kvs[i] (by simp [hlt])];exact hs i kvs[i] σ H' (by simp [hlt]) p
 . have e:i=kvs.length:=by omega
   subst e;exact .inl ⟨⟨q,rfl⟩,hd σ H p⟩
end
def z5p:R2:=λx y H Q=>∃(c:Nat) (k:Int),x=.str ⟨#[c]⟩/\y=.int k/\1<=k/\k<=1000/\Q (.str ⟨(List.replicate k.toNat c).toArray⟩) H
theorem zvg (c:Nat):∀(n:Nat) (a:Array Nat),(List.replicate n #[c]).foldl (·++·) a=a++(List.replicate n c).toArray
 | 0,a=>by simp
 | n+1,a=>by rw[qb2,qa7,zvg c n,qb2];apply Array.toList_inj.mp;simp
theorem z1r {X:Cx}:OpR X (binaryOp .Mult) z5p:=by
 intro pins s σ H x y v u Q I rx ry h;obtain⟨c,k,rfl,rfl,k0,k1,q⟩:=h;obtain⟨t,rfl⟩:=rx;obtain⟨tu,rfl⟩:=ry;have hl:(⟨#[c]⟩:Str).length=1:=rfl;refine PySem.P.mul_str ?_ (λ_ _=>?_) (λ_ _=>?_) ?_
 . rw[decide_eq_false (by omega),decide_eq_false (by omega)]; rfl
 . rw[hl];have:(1:Int)<=(2 ^ 63 - 1) / k:=by rw[Int.le_ediv_iff_mul_le (by omega)];omega
   omega
 . rw[hl];show decide (1 * k.toNat > sizeLine)=false;refine decide_eq_false ?_;have:(1000:Nat)<sizeLine:=by decide
   omega
 . rw[if_neg (by omega)];by_cases e:k=1
   . subst e;rw[if_pos (by simp)];exact⟨.str ⟨#[c]⟩,H,I,⟨_,rfl⟩,q⟩
   . rw[if_neg (by rw[hl]; simp [e]),zvg];refine⟨?_,?_⟩
     . show _<=_;simp [Str.length];have:(1000:Nat)<sizeLine:=by decide
       omega
     . have ee:(#[]:Array Nat)++(List.replicate k.toNat c).toArray=(List.replicate k.toNat c).toArray:=by simp
       rw[ee];exact⟨.str _,H,I.tok _,⟨_,rfl⟩,q⟩
section
variable {g:TG} {tif:TT} {te:TE} {js:List (Option Nat)} {σ:St} {H:Hp} {Q:VK}
def zqd (H:Hp) (p:Addr) (T:Nat->Hp->V->Prop) (i:Nat) (acc:List V) (H2:Hp):Prop:=zan H H2/\H2 p=some (.lst acc)/\acc.length=i/\∀(j:Nat) v,acc[j]?=some v->T j (ers p H2) v
theorem ersU {p:Addr} {H:Hp} {o:HO}:ers p (upd H p o)=ers p H:=by
 funext b;unfold ers;by_cases h:b=p
 . rw[if_pos h,if_pos h]
 . rw[if_neg h,if_neg h,zag h]
theorem zou {p:Addr} {T:Nat->Hp->V->Prop} {i:Nat} {acc:List V} {H2 H3:Hp} {v:V} (tm:∀i v H H',zan H H'->T i H v->T i H' v) (hp:H p=none) (r:zqd H p T i acc H2) (s3:zan H2 H3) (hv:T i (ers p H3) v) :
   H3 p=some (.lst acc)/\zqd H p T (i+1) (acc++[v]) (upd H3 p (.lst (acc++[v]))):=by
 obtain⟨s2,e2,rfl,ht⟩:=r;refine⟨s3 _ _ e2,(s2.trans s3).upd hp,zac,by simp,λj u hu=>?_⟩;rw[ersU];by_cases hj:j<acc.length
 . rw[qa3 hj] at hu;exact tm _ _ _ _ (zan.ers s3) (ht j u hu)
 . have:j=acc.length:=by have:=(List.getElem?_eq_some_iff.mp hu).1;simp at this;omega
   subst this;rw[qbn (qae _)] at hu;simp at hu;rw[<- hu];exact hv
theorem zkk {K:W.Frag} {a:Addr} {xs:List V} {p:Addr} (T:Nat->Hp->V->Prop) (tm:∀i v H H',zan H H'->T i H v->T i H' v) (hn:xs.length<=1000000) (hS:SqL K H a xs) (hp:H p=none)
   (hs:∀i x H2 (R:VK),xs[i]?=some x->zan H H2->(∃acc,H2 p=some (.lst acc))->(∀v H3,zan H2 H3->T i (ers p H3) v->R v H3)->g x (cap js σ) H2 λσ2 H3=>tif σ2 H3 λc H4=>if c=true then te σ2 H4 R else False)
   (hd:∀H2 vs,zan H H2->H2 p=some (.lst vs)->vs.length=xs.length->(∀(i:Nat) v,vs[i]?=some v->T i (ers p H2) v)->Q (.ref p) H2) (mono:∀x H2 (M M':St->Hp->Prop),(∀σ' H',M σ' H'->M' σ' H')->g x (cap js σ) H2 M->g x (cap js σ) H2 M':=by intro _ _ _ _ h z; exact h _ _ z) (mon2:∀σ2 H2 (M M':Bool->Hp->Prop),(∀c H',M c H'->M' c H')->tif σ2 H2 M->tif σ2 H2 M':=by intro _ _ _ _ h z; exact h _ _ z) :
   zru (Itl K a) g tif te js σ Q p H:=by
 refine zmp hn (zqd H p T) ⟨zan.new hp,zac,rfl,λj v h=>by simp at h⟩ ?_ ?_ ?_
 . rintro i acc H2 hi ⟨s2,e2,l2,_⟩;exact⟨e2,by omega,s2.seq hS⟩
 . rintro i x acc H2 hx r;refine mono _ _ _ _ (λσ' H' z=>?_) (hs i x H2 _ hx r.1 ⟨acc,r.2.1⟩ λv H3 s3 t3=>zou tm hp r s3 t3);refine mon2 _ _ _ _ (λc H'' zz=>?_) z;cases c with
   | true=>exact zz
   | false=>exact zz.elim
 . rintro acc H2 ⟨s2,e2,l2,t2⟩;exact hd H2 acc s2 e2 l2 t2
theorem zp0 {K:W.Frag} {a:Addr} {xs:List V} {p:Addr} (T:Nat->Hp->V->Prop) (tm:∀i v H H',zan H H'->T i H v->T i H' v) (hn:xs.length<=1000000) (hS:SqT K H a xs) (hp:H p=none)
   (hs:∀i x H2 (R:VK),xs[i]?=some x->zan H H2->(∃acc,H2 p=some (.lst acc))->(∀v H3,zan H2 H3->T i (ers p H3) v->R v H3)->g x (cap js σ) H2 λσ2 H3=>tif σ2 H3 λc H4=>if c=true then te σ2 H4 R else False)
   (hd:∀H2 vs,zan H H2->H2 p=some (.lst vs)->vs.length=xs.length->(∀(i:Nat) v,vs[i]?=some v->T i (ers p H2) v)->Q (.ref p) H2) (mono:∀x H2 (M M':St->Hp->Prop),(∀σ' H',M σ' H'->M' σ' H')->g x (cap js σ) H2 M->g x (cap js σ) H2 M':=by intro _ _ _ _ h z; exact h _ _ z) (mon2:∀σ2 H2 (M M':Bool->Hp->Prop),(∀c H',M c H'->M' c H')->tif σ2 H2 M->tif σ2 H2 M':=by intro _ _ _ _ h z; exact h _ _ z) :
   zru (Itt K a) g tif te js σ Q p H:=by
 refine ztr hn (zqd H p T) ⟨zan.new hp,zac,rfl,λj v h=>by simp at h⟩ ?_ ?_ ?_
 . rintro i acc H2 hi ⟨s2,e2,l2,_⟩;exact⟨e2,by omega,s2.tup hS⟩
 . rintro i x acc H2 hx r;refine mono _ _ _ _ (λσ' H' z=>?_) (hs i x H2 _ hx r.1 ⟨acc,r.2.1⟩ λv H3 s3 t3=>zou tm hp r s3 t3);refine mon2 _ _ _ _ (λc H'' zz=>?_) z;cases c with
   | true=>exact zz
   | false=>exact zz.elim
 . rintro acc H2 ⟨s2,e2,l2,t2⟩;exact hd H2 acc s2 e2 l2 t2
theorem zkg {lo:Int} {n:Nat} {p:Addr} (T:Nat->Hp->V->Prop) (tm:∀i v H H',zan H H'->T i H v->T i H' v) (hn:n<=1000000) (hp:H p=none)
   (hs:∀i H2 (R:VK),i<n->zan H H2->(∃acc,H2 p=some (.lst acc))->(∀v H3,zan H2 H3->T i (ers p H3) v->R v H3)->g (.int (lo+i)) (cap js σ) H2 λσ2 H3=>tif σ2 H3 λc H4=>if c=true then te σ2 H4 R else False)
   (hd:∀H2 vs,zan H H2->H2 p=some (.lst vs)->vs.length=n->(∀(i:Nat) v,vs[i]?=some v->T i (ers p H2) v)->Q (.ref p) H2) (mono:∀x H2 (M M':St->Hp->Prop),(∀σ' H',M σ' H'->M' σ' H')->g x (cap js σ) H2 M->g x (cap js σ) H2 M':=by intro _ _ _ _ h z; exact h _ _ z) (mon2:∀σ2 H2 (M M':Bool->Hp->Prop),(∀c H',M c H'->M' c H')->tif σ2 H2 M->tif σ2 H2 M':=by intro _ _ _ _ h z; exact h _ _ z) :
   zru (Itr lo n) g tif te js σ Q p H:=by
 refine zuq hn (zqd H p T) ⟨zan.new hp,zac,rfl,λj v h=>by simp at h⟩ ?_ ?_ ?_
 . rintro i acc H2 hi ⟨s2,e2,l2,_⟩;exact⟨e2,by omega⟩
 . rintro i acc H2 hx r;refine mono _ _ _ _ (λσ' H' z=>?_) (hs i H2 _ hx r.1 ⟨acc,r.2.1⟩ λv H3 s3 t3=>zou tm hp r s3 t3);refine mon2 _ _ _ _ (λc H'' zz=>?_) z;cases c with
   | true=>exact zz
   | false=>exact zz.elim
 . rintro acc H2 ⟨s2,e2,l2,t2⟩;exact hd H2 acc s2 e2 l2 t2
end
end L2
namespace Wk
open PySem L2 Gx Fl
structure Wr where
 (a dx st sd ct fl:Addr)
structure Fm where
 (a dx nd:Addr)
 fn:Str
 row:Nat
 kvs:List (Key×V)
def wF (w:Wr) (oc:V) (rc:Int):List (Str×V):=[("flows",.ref w.fl),("stack",.ref w.st),("outcome",oc),("sendings",.ref w.sd),("contents",.ref w.ct),("records",.int rc)]
def fF (f:Fm):List (Str×V):=[("function",.str f.fn),("row",.int f.row),("named",.ref f.nd)]
structure FrAt (cF:Addr) (H:Hp) (f:Fm):Prop where
 o:H f.a=some (.ins cF f.dx (fF f))
 n:H f.nd=some (.dK f.kvs)
structure WAt (cW cF:Addr) (Hb H:Hp) (w:Wr) (fs:List Fm) (oc:V) (sent:List V) (co:HO) (rc:Int):Prop where
 b:zan Hb H
 o:H w.a=some (.ins cW w.dx (wF w oc rc))
 st:H w.st=some (.lst (fs.map λf=>V.ref f.a))
 sd:H w.sd=some (.lst sent)
 ct:H w.ct=some co
 fr:∀f∈fs,FrAt cF H f
 na:(fs.map (·.a)).Nodup
 nn:(fs.map (·.nd)).Nodup
 ne:w.st≠w.sd
 nc:∀f∈fs,f.nd≠w.ct
 cs:w.ct≠w.st/\w.ct≠w.sd/\w.ct≠w.a
 nf:∀f∈fs,f.a≠w.a/\f.a≠w.ct
 fa:Hb w.a=none
 fst:Hb w.st=none
 fsd:Hb w.sd=none
 fct:Hb w.ct=none
 ff:∀f∈fs,Hb f.a=none/\Hb f.nd=none
section
variable {cW cF:Addr} {Hb H H2:Hp} {w:Wr} {fs:List Fm} {oc:V} {sent:List V} {co:HO} {rc:Int}
def gr (Hb H H2:Hp):Hp:=λb=>match H b with
 | some _=>Hb b
 | none=>H2 b
theorem zb5 (hb:zan Hb H):zan Hb (gr Hb H H2):=λb o h=>by unfold gr;rw[hb _ _ h];exact h
theorem z5m (hb:zan Hb H) (s:zan H H2):zan (gr Hb H H2) H2:=λb o h=>by
 unfold gr at h;cases e:H b with
 | none=>rw[e] at h; exact h
 | some v=>rw[e] at h; exact s _ _ (hb _ _ h)
theorem zn4 {b:Addr} {o:HO} (h:H b=none) (h2:H2 b=some o):gr Hb H H2 b=some o:=by unfold gr;rw[h];exact h2
theorem zna {b:Addr} {o:HO} (h:H b=some o) (hb:Hb b=none):gr Hb H H2 b=none:=by unfold gr;rw[h];exact hb
theorem WAt.grow (h:WAt cW cF Hb H w fs oc sent co rc) (s:zan H H2):WAt cW cF (gr Hb H H2) H2 w fs oc sent co rc :=
 ⟨z5m h.b s,s _ _ h.o,s _ _ h.st,s _ _ h.sd,s _ _ h.ct,λf hf=>⟨s _ _ (h.fr f hf).o,s _ _ (h.fr f hf).n⟩,h.na,h.nn,h.ne,h.nc,h.cs,h.nf,zna h.o h.fa,zna h.st h.fst,zna h.sd h.fsd,zna h.ct h.fct,λf hf=>⟨zna (h.fr f hf).o (h.ff f hf).1,zna (h.fr f hf).n (h.ff f hf).2⟩⟩
theorem WAt.put {x:Addr} {o o':HO} (h:WAt cW cF Hb H w fs oc sent co rc) (hx:Hb x=some o):WAt cW cF (upd Hb x o') (upd H x o') w fs oc sent co rc:=by
 have k:∀{b:Addr},Hb b=none->b≠x:=λhb z=>by rw[z,hx] at hb; cases hb
 refine⟨λb u q=>?_,by rw[zag (k h.fa)]; exact h.o,by rw[zag (k h.fst)]; exact h.st,by rw[zag (k h.fsd)]; exact h.sd,by rw[zag (k h.fct)]; exact h.ct,λf hf=>⟨by rw[zag (k (h.ff f hf).1)]; exact(h.fr f hf).o,by rw[zag (k (h.ff f hf).2)]; exact(h.fr f hf).n⟩,
   h.na,h.nn,h.ne,h.nc,h.cs,h.nf,by rw[zag (k h.fa)]; exact h.fa,by rw[zag (k h.fst)]; exact h.fst,by rw[zag (k h.fsd)]; exact h.fsd,by rw[zag (k h.fct)]; exact h.fct,λf hf=>⟨by rw[zag (k (h.ff f hf).1)]; exact(h.ff f hf).1,by rw[zag (k (h.ff f hf).2)]; exact(h.ff f hf).2⟩⟩
 by_cases z:b=x
 . subst z; rw[zac] at q ⊢; exact q
 . rw[zag z] at q ⊢; exact h.b _ _ q
theorem za6 {a b:Addr} {x y:HO} (h1:H a=some x) (h2:H b=some y) (h:x≠y):a≠b:=λz=>by rw[z,h2] at h1;exact h (Option.some.inj h1).symm
theorem WAt.out {v:V} (h:WAt cW cF Hb H w fs oc sent co rc):WAt cW cF Hb (upd H w.a (.ins cW w.dx (wF w v rc))) w fs v sent co rc :=
 ⟨h.b.upd h.fa,zac,by rw[zag (za6 h.st h.o (by intro z; cases z))]; exact h.st,by rw[zag (za6 h.sd h.o (by intro z; cases z))]; exact h.sd,by rw[zag h.cs.2.2]; exact h.ct,λf hf=>⟨by rw[zag (h.nf f hf).1]; exact(h.fr f hf).o,by rw[zag (za6 (h.fr f hf).n h.o (by intro z; cases z))]; exact(h.fr f hf).n⟩,h.na,h.nn,h.ne,h.nc,h.cs,h.nf,h.fa,h.fst,h.fsd,h.fct,h.ff⟩
theorem WAt.pop {f:Fm} (h:WAt cW cF Hb H w (fs++[f]) oc sent co rc):WAt cW cF Hb (upd H w.st (.lst (fs.map λf=>V.ref f.a))) w fs oc sent co rc:=by
 have sub:∀g∈fs,g∈fs++[f]:=λg hg=>qa8 _ hg;refine⟨h.b.upd h.fst,by rw[zag (za6 h.o h.st (by intro z; cases z))]; exact h.o,zac,by rw[zag h.ne.symm]; exact h.sd,by rw[zag h.cs.1]; exact h.ct,λg hg=>⟨by rw[zag (za6 (h.fr g (sub g hg)).o h.st (by intro z; cases z))]; exact(h.fr g (sub g hg)).o,by rw[zag (za6 (h.fr g (sub g hg)).n h.st (by intro z; cases z))]; exact(h.fr g (sub g hg)).n⟩,
   ?_,?_,h.ne,λg hg=>h.nc g (sub g hg),h.cs,λg hg=>h.nf g (sub g hg),h.fa,h.fst,h.fsd,h.fct,λg hg=>h.ff g (sub g hg)⟩
 . have:=h.na; rw[List.map_append] at this; exact(qbp.mp this).1
 . have:=h.nn; rw[List.map_append] at this; exact(qbp.mp this).1
theorem WAt.goto {f:Fm} {r:Nat} (h:WAt cW cF Hb H w (fs++[f]) oc sent co rc):WAt cW cF Hb (upd H f.a (.ins cF f.dx (fF { f with row:=r }))) w (fs++[{ f with row:=r }]) oc sent co rc:=by
 have hf:f∈fs++[f]:=List.mem_append_right _ (List.mem_singleton.mpr rfl);have sub:∀g∈fs,g∈fs++[f]:=λg hg=>qa8 _ hg;have of:=(h.fr f hf).o;have na:=h.na;rw[List.map_append] at na;have apart:∀g∈fs,g.a≠f.a:=λg hg z=>(qbp.mp na).2.2 _ (List.mem_map.mpr ⟨g,hg,rfl⟩) _ (List.mem_singleton.mpr rfl) z;have fall:∀{P:Fm->Prop},(∀g∈fs,P g)->P { f with row:=r }->∀g∈fs++[{ f with row:=r }],P g:=λh1 h2 g hg=>by
   rcases List.mem_append.mp hg with hg|hg
   . exact h1 g hg
   . rw[List.mem_singleton.mp hg]; exact h2
 refine⟨h.b.upd (h.ff f hf).1,by rw[zag (h.nf f hf).1.symm]; exact h.o,?_,by rw[zag (za6 h.sd of (by intro z; cases z))]; exact h.sd,by rw[zag (h.nf f hf).2.symm]; exact h.ct,
   fall (λg hg=>⟨by rw[zag (apart g hg)]; exact(h.fr g (sub g hg)).o,by rw[zag (za6 (h.fr g (sub g hg)).n of (by intro z; cases z))]; exact(h.fr g (sub g hg)).n⟩) ⟨zac,?_⟩,?_,?_,h.ne,fall (λg hg=>h.nc g (sub g hg)) (h.nc f hf),h.cs,fall (λg hg=>h.nf g (sub g hg)) (h.nf f hf),h.fa,h.fst,h.fsd,h.fct,fall (λg hg=>h.ff g (sub g hg)) (h.ff f hf)⟩
 . rw[zag (za6 h.st of (by intro z; cases z)),h.st,List.map_append,List.map_append]; rfl
 . show upd H f.a _ f.nd=some (.dK f.kvs);rw[zag (za6 (h.fr f hf).n of (by intro z; cases z))]; exact(h.fr f hf).n
 . have:=h.na; rw[List.map_append] at this ⊢; exact this
 . have:=h.nn; rw[List.map_append] at this ⊢; exact this
theorem WAt.name {f:Fm} {ks:List (Key×V)} (h:WAt cW cF Hb H w (fs++[f]) oc sent co rc):WAt cW cF Hb (upd H f.nd (.dK ks)) w (fs++[{ f with kvs:=ks }]) oc sent co rc:=by
 have hf:f∈fs++[f]:=List.mem_append_right _ (List.mem_singleton.mpr rfl);have sub:∀g∈fs,g∈fs++[f]:=λg hg=>qa8 _ hg;have nf:=(h.fr f hf).n;have nn:=h.nn;rw[List.map_append] at nn;have apart:∀g∈fs,g.nd≠f.nd:=λg hg z=>(qbp.mp nn).2.2 _ (List.mem_map.mpr ⟨g,hg,rfl⟩) _ (List.mem_singleton.mpr rfl) z;have fall:∀{P:Fm->Prop},(∀g∈fs,P g)->P { f with kvs:=ks }->∀g∈fs++[{ f with kvs:=ks }],P g:=λh1 h2 g hg=>by
   rcases List.mem_append.mp hg with hg|hg
   . exact h1 g hg
   . rw[List.mem_singleton.mp hg]; exact h2
 refine⟨h.b.upd (h.ff f hf).2,by rw[zag (za6 h.o nf (by intro z; cases z))]; exact h.o,?_,by rw[zag (za6 h.sd nf (by intro z; cases z))]; exact h.sd,by rw[zag (h.nc f hf).symm]; exact h.ct,
   fall (λg hg=>⟨by rw[zag (za6 (h.fr g (sub g hg)).o nf (by intro z; cases z))]; exact(h.fr g (sub g hg)).o,by rw[zag (apart g hg)]; exact(h.fr g (sub g hg)).n⟩) ⟨?_,zac⟩,?_,?_,h.ne,fall (λg hg=>h.nc g (sub g hg)) (h.nc f hf),h.cs,fall (λg hg=>h.nf g (sub g hg)) (h.nf f hf),h.fa,h.fst,h.fsd,h.fct,fall (λg hg=>h.ff g (sub g hg)) (h.ff f hf)⟩
 . rw[zag (za6 h.st nf (by intro z; cases z)),h.st,List.map_append,List.map_append]; rfl
 . show upd H f.nd _ f.a=some (.ins cF f.dx (fF f));rw[zag (za6 (h.fr f hf).o nf (by intro z; cases z))]; exact(h.fr f hf).o
 . have:=h.na; rw[List.map_append] at this ⊢; exact this
 . have:=h.nn; rw[List.map_append] at this ⊢; exact this
theorem WAt.push {f:Fm} (h:WAt cW cF Hb H w fs oc sent co rc) (s:zan H H2) (ha:H f.a=none) (hn:H f.nd=none) (hF:FrAt cF H2 f) :
   WAt cW cF (ers f.a (ers f.nd (gr Hb H H2))) (upd H2 w.st (.lst ((fs++[f]).map λf=>V.ref f.a))) w (fs++[f]) oc sent co rc/\zan Hb (ers f.a (ers f.nd (gr Hb H H2))):=by
 have h2:=h.grow s;have old:∀{b:Addr} {o:HO},H b=some o->b≠f.a/\b≠f.nd:=λhb=>⟨(λz=>by rw[z,ha] at hb; cases hb),(λz=>by rw[z,hn] at hb; cases hb)⟩
 have er:∀{b:Addr},gr Hb H H2 b=none->ers f.a (ers f.nd (gr Hb H H2)) b=none:=λ{b} hb=>by
   unfold L2.ers;split
   . rfl
   . split
     . rfl
     . exact hb
 have fall:∀{P:Fm->Prop},(∀g∈fs,P g)->P f->∀g∈fs++[f],P g:=λh1 h2 g hg=>by
   rcases List.mem_append.mp hg with hg|hg
   . exact h1 g hg
   . rw[List.mem_singleton.mp hg]; exact h2
 have hb2:zan (ers f.a (ers f.nd (gr Hb H H2))) H2:=λb o hb=>by
   unfold L2.ers at hb;split at hb
   . cases hb
   . split at hb
     . cases hb
     . exact h2.b _ _ hb
 refine⟨⟨hb2.upd (er h2.fst),by rw[zag (za6 h2.o h2.st (by intro z; cases z))]; exact h2.o,zac,by rw[zag h.ne.symm]; exact h2.sd,by rw[zag h.cs.1]; exact h2.ct,?_,?_,?_,h.ne,fall h.nc (old h.ct).2.symm,h.cs,fall h.nf ⟨(old h.o).1.symm,(old h.ct).1.symm⟩,er h2.fa,er h2.fst,er h2.fsd,er h2.fct,?_⟩,λb o hb=>?_⟩
 . refine fall (λg hg=>⟨by rw[zag (za6 (h2.fr g hg).o h2.st (by intro z; cases z))]; exact(h2.fr g hg).o,by rw[zag (za6 (h2.fr g hg).n h2.st (by intro z; cases z))]; exact(h2.fr g hg).n⟩) ⟨by rw[zag (za6 hF.o h2.st (by intro z; cases z))]; exact hF.o,by rw[zag (za6 hF.n h2.st (by intro z; cases z))]; exact hF.n⟩
 . rw[List.map_append,qbp];refine⟨h.na,(by simp),λa ha' b hb z=>?_⟩;obtain⟨g,hg,rfl⟩:=List.mem_map.mp ha';rw[List.mem_singleton.mp hb] at z;exact(old (h.fr g hg).o).1 z
 . rw[List.map_append,qbp];refine⟨h.nn,(by simp),λa ha' b hb z=>?_⟩;obtain⟨g,hg,rfl⟩:=List.mem_map.mp ha';rw[List.mem_singleton.mp hb] at z;exact(old (h.fr g hg).n).2 z
 . refine fall (λg hg=>⟨er (h2.ff g hg).1,er (h2.ff g hg).2⟩) ⟨?_,?_⟩
   . unfold L2.ers; rw[if_pos rfl]
   . unfold L2.ers;split
     . rfl
     . rw[if_pos rfl]
 . have o':=h.b _ _ hb;have n1:=old o';rw[zct n1.1,zct n1.2];exact zb5 h.b _ _ hb
def NI (H H':Hp):Prop:=∀b o,H b=some o->(∀C dx fs,o≠.ins C dx fs)->H' b=some o
theorem NI.tup {K:W.Frag} {a:Addr} {xs:List V} {H':Hp} (e:NI H H') (h:SqT K H a xs):SqT K H' a xs:=by
 rcases h with h|h
 . refine .inl ?_;rcases h with h|h
   . exact .inl (e _ _ h (λ_ _ _ z=>by cases z))
   . exact .inr (by
       obtain h:=h
       first
         | exact e _ _ h (λ_ _ _ z=>by cases z)
         | (obtain⟨n,h⟩:=h; exact⟨n,e _ _ h (λ_ _ _ z=>by cases z)⟩))
 . exact .inr h
theorem z0x {K:W.Frag} {H':Hp} {xs as:List V} {g:Option Str} (e:NI H H') (h:K12.RowS K H xs g as):K12.RowS K H' xs g as:=by cases h <;> first|(constructor; done)|(constructor; exact e.tup (by assumption))
theorem z2r {K:W.Frag} {H':Hp} {f:F2.Fd} (h:F2.FnAt K H f) (e:NI H H'):F2.FnAt K H' f :=
 ⟨e.tup h.fn,e.tup h.pr,e.tup h.rw_,λw hw=>let ⟨rest,h1,h2⟩:=h.rk w hw; ⟨rest,e.tup h1,h2⟩,
   ⟨let ⟨n,b,p,r,h1,h2,h3⟩:=h.fu.fn; ⟨n,b,p,r,e.tup h1,e.tup h2,e.tup h3⟩,λd hd=>let z:=h.fu.rows d hd; ⟨let ⟨xs,h1,h2⟩:=z.row; ⟨xs,e.tup h1,z0x e h2⟩,z.ats,z.len,z.nm⟩,h.fu.pn,h.fu.pl,h.fu.dl⟩,h.wf,h.len⟩
theorem zy6 {K:W.Frag} {C x:Addr} {H':Hp} {fns:List F2.Fd} (h:F2.FlowsAt K C H x fns) (e:NI H H') (ex:∀o,H x=some o->H' x=some o):F2.FlowsAt K C H' x fns:=by
 obtain⟨dx,fz,d,kv,nl,wl,h0,h1,h2,h3,h4,h5,h6,h7,h8⟩:=h.ob;refine⟨λf hf=>z2r (h.all f hf) e,h.nd,⟨dx,fz,d,kv,nl,wl,h0,⟨ex _ h1.ob,λj hj=>e _ _ (h1.dc j hj) (λ_ _ _ z=>by cases z)⟩,h2,h3,h4,h5,h6,h7,λi f hi=>⟨e _ _ (h8 i f hi).1 (λ_ _ _ z=>by cases z),?_⟩⟩⟩;obtain⟨vs,e1,e2,e3⟩:=(h8 i f hi).2;refine⟨vs,e _ _ e1 (λ_ _ _ z=>by cases z),e2,λk v q=>?_⟩;obtain⟨o,due,vo⟩:=e3 k v q;refine⟨o,due,?_⟩;cases o with
 | none=>exact vo
 | some l=>obtain⟨p,z1,z2⟩:=vo; exact⟨p,z1,e _ _ z2 (λ_ _ _ z=>by cases z)⟩
end
def av (kvs:List (Key×V)):V->Option V
 | .str s=>zcx kvs (Sum.inr s)
 | .int i=>some (.int i)
 | _=>none
def Way (F:F2.Fd) (k j r:Nat):Prop:=∃l,K13.Due (F2.kds F) k (some l)/\l[j]?=some r
section
variable {K:W.Frag} {C x:Addr} {H:Hp} {fns:List F2.Fd} {F:F2.Fd}
def zzu (C:Addr) (H:Hp) (x:Addr) (fld:Str) (n:Str) (v:V):Prop:=∃dx fs d kvs,H x=some (.ins C dx fs)/\fs.lookup fld=some (.ref d)/\H d=some (.dK kvs)/\zcx kvs (Sum.inr n:Key)=some v
theorem zjn {H:Hp} {d:Addr} {kvs:List (Key×V)} {n:Str} {v:V} (h:H d=some (.dK kvs)) (hv:zcx kvs (Sum.inr n:Key)=some v):zm8 H d (.str n) (some v):=by have:=zm8.k (k:=(Sum.inr n:Key)) h;rw[hv] at this;exact this
theorem z15 (h:F2.FlowsAt K C H x fns) (hF:F∈fns):zzu C H x "rows_of" F.name (.ref F.ra):=by obtain⟨i,hi⟩:=qaw hF;obtain⟨dx,fz,d,kv,nl,wl,h0,hO,h2,h3,h4,h5,h6,h7,h8⟩:=h.ob;have hd:=hO.dc 3 (by decide);rw[h5] at hd;exact⟨dx,_,_,_,hO.ob,zvq _ _,hd,F2.kD_at _ h.nd hi⟩
theorem zwp (h:F2.FlowsAt K C H x fns) (hF:F∈fns):zzu C H x "params_of" F.name (.ref F.pa):=by obtain⟨i,hi⟩:=qaw hF;obtain⟨dx,fz,d,kv,nl,wl,h0,hO,h2,h3,h4,h5,h6,h7,h8⟩:=h.ob;have hd:=hO.dc 2 (by decide);rw[h4] at hd;exact⟨dx,_,_,_,hO.ob,zq7 _ _,hd,F2.kD_at _ h.nd hi⟩
theorem ztn (h:F2.FlowsAt K C H x fns) (hF:F∈fns):∃nl,zzu C H x "names_in" F.name (.ref nl)/\H nl=some (.lst ((F2.nms F).map V.str)):=by obtain⟨i,hi⟩:=qaw hF;obtain⟨dx,fz,d,kv,nl,wl,h0,hO,h2,h3,h4,h5,h6,h7,h8⟩:=h.ob;have hd:=hO.dc 4 (by decide);rw[h6] at hd;exact⟨nl i,⟨dx,_,_,_,hO.ob,zsr _ _,hd,F2.kD_at _ h.nd hi⟩,(h8 i F hi).1⟩
theorem z1e (h:F2.FlowsAt K C H x fns) (hF:F∈fns) {k j r:Nat} (hk:k<F.rs.length) (hw:Way F k j r):∃wl tp vs l,zzu C H x "ways_in" F.name (.ref wl)/\H wl=some (.lst vs)/\vs[k]?=some (.ref tp)/\H tp=some (.tup (K13.natsV l))/\l[j]?=some r:=by
 obtain⟨i,hi⟩:=qaw hF;obtain⟨dx,fz,d,kv,nl,wl,h0,hO,h2,h3,h4,h5,h6,h7,h8⟩:=h.ob;have hd:=hO.dc 5 (by decide);rw[h7] at hd;obtain⟨vs,e1,e2,e3⟩:=(h8 i F hi).2;have hl:(F2.kds F).length=F.rs.length:=by unfold F2.kds; rw[List.length_map]
 have ev:vs[k]?=some vs[k]:=List.getElem?_eq_getElem (by omega);obtain⟨o,due,vo⟩:=e3 k _ ev;obtain⟨l,dl,hl'⟩:=hw;rw[K13.Due.uniq due dl] at vo;obtain⟨p,ep,hp⟩:=vo;exact⟨wl i,p,vs,l,⟨dx,_,_,_,hO.ob,zv3 _ _,hd,F2.kD_at _ h.nd hi⟩,e1,by rw[ev,ep],hp,hl'⟩
theorem z1u (h:F2.FlowsAt K C H x fns):∃dx fs fz,H x=some (.ins C dx fs)/\fns[fns.length - 1]?=some fz/\fs.lookup ("last":Str)=some (.str fz.name):=by obtain⟨dx,fz,d,kv,nl,wl,h0,hO,_⟩:=h.ob;exact⟨dx,_,fz,hO.ob,h0,z2g _ _⟩
end
theorem ztv {K:W.Frag} {H:Hp}:∀{vs:List V} {ns:List Str},vs.length=ns.length->(∀(i:Nat) v,vs[i]?=some v->∃y tp,ns[i]?=some y/\v=.ref tp/\H tp=some (.tup [.str y,.int 0]))->∃ps:List Addr,vs=ps.map V.ref/\Paired (λa (kv:Key×V)=>SqT K H a [kV kv.1,kv.2]) ps (ns.map λn=>((Sum.inr n:Key),V.int 0))
 | [],[],_,_=>⟨[],rfl,.nil⟩
 | v :: vs,n :: ns,hl,h=>by
   obtain⟨y,tp,h1,h2,h3⟩:=h 0 v rfl;obtain⟨ps,e,p⟩:=ztv (vs:=vs) (ns:=ns) (by simpa using hl) (λi u hu=>by obtain⟨y,tp,q⟩:=h (i+1) u (by simpa using hu);exact⟨y,tp,by simpa using q⟩)
   have:n=y:=by simpa using h1
   subst this;exact⟨tp :: ps,by rw[h2,e]; rfl,.cons (SqT.of h3) p⟩
 | [],_ :: _,hl,_=>by simp at hl
 | _ :: _,[],hl,_=>by simp at hl
theorem z19 (kvs:List (Key×V)) (k:Key) (v:V):(zbd kvs k v).length<=kvs.length+1:=by
 induction kvs with
 | nil=>simp [zbd]
 | cons p r ih =>
   unfold zbd;split <;> simp <;> omega
theorem zfz {α:Type} (g:α->Key×V):∀(l:List α) (d:List (Key×V)),(l.foldl (λd p=>zbd d (g p).1 (g p).2) d).length<=d.length+l.length
 | [],d=>by simp
 | p :: l,d=>by rw[qa7,qa0];have h1:=zfz g l (zbd d (g p).1 (g p).2);have h2:=z19 d (g p).1 (g p).2;omega
end Wk
namespace K41
open PySem L2 Gx Fl
structure RR where
 w:Rw
 d:K12.RowD
def RRok (K:W.Frag) (H:Hp) (x:RR):Prop:=x.w.r=x.d.r/\z23 K H x.w/\K12.RowAt K H x.d
end K41
namespace Bg
open PySem L2 Gx K41
def z22 (K:W.Frag) (H:Hp) (n:Nat) (v:V):Prop:=∃d,Lay n d/\zhy K H d v
def HasA (K:W.Frag) (H:Hp) (n:Nat) (xs:List V):Prop:=∃ds,(∀d∈ds,Lay n d)/\zdk K H ds xs
theorem z22.str {K:W.Frag} {H:Hp} {n:Nat} {s:Str} (h:PyData.strOk s=true):z22 K H n (.str s):=⟨.str s,Lay.str h,by unfold zhy; rfl⟩
theorem z22.int {K:W.Frag} {H:Hp} {n:Nat} {i:Int}:z22 K H n (.int i):=⟨.int i,Lay.int i,by unfold zhy; rfl⟩
theorem HasA.nil {K:W.Frag} {H:Hp} {n:Nat}:HasA K H n []:=⟨[],λd h=>(by cases h),by unfold zdk; rfl⟩
theorem HasA.cons {K:W.Frag} {H:Hp} {n:Nat} {x:V} {xs:List V} (h:z22 K H n x) (t:HasA K H n xs):HasA K H n (x :: xs):=by obtain⟨d,l,z⟩:=h;obtain⟨ds,ls,zs⟩:=t;refine⟨d :: ds,λe he=>(List.mem_cons.mp he).elim (λz=>z ▸ l) (ls e),?_⟩;unfold zdk;exact⟨_,_,rfl,z,zs⟩
theorem HasA.of {K:W.Frag} {H:Hp} {n:Nat}:∀{xs:List V},(∀x∈xs,z22 K H n x)->HasA K H n xs
 | [],_=>.nil
 | x :: xs,h=>.cons (h x List.mem_cons_self) (HasA.of λy hy=>h y (List.mem_cons_of_mem _ hy))
def Twin (K:W.Frag) (H:Hp) (n:Nat) (x y:V):Prop:=∃d,Lay n d/\zhy K H d x/\zhy K H d y
def TwinA (K:W.Frag) (H:Hp) (n:Nat) (xs ys:List V):Prop:=∃ds,(∀d∈ds,Lay n d)/\zdk K H ds xs/\zdk K H ds ys
theorem TwinA.nil {K:W.Frag} {H:Hp} {n:Nat}:TwinA K H n [] []:=⟨[],λd h=>(by cases h),(by unfold zdk; rfl),(by unfold zdk; rfl)⟩
theorem TwinA.cons {K:W.Frag} {H:Hp} {n:Nat} {x y:V} {xs ys:List V} (h:Twin K H n x y) (t:TwinA K H n xs ys):TwinA K H n (x :: xs) (y :: ys):=by
 obtain⟨d,l,z1,z2⟩:=h;obtain⟨ds,ls,zs1,zs2⟩:=t;refine⟨d :: ds,λe he=>(List.mem_cons.mp he).elim (λz=>z ▸ l) (ls e),?_,?_⟩
 . unfold zdk;exact⟨_,_,rfl,z1,zs1⟩
 . unfold zdk;exact⟨_,_,rfl,z2,zs2⟩
theorem TwinA.of {K:W.Frag} {H:Hp} {n:Nat} {xs:List V} (h:HasA K H n xs):TwinA K H n xs xs:=let ⟨ds,l,z⟩:=h; ⟨ds,l,z,z⟩
theorem TwinA.at {K:W.Frag} {H:Hp} {n:Nat}:∀{xs ys:List V},xs.length=ys.length->(∀(i:Nat) x y,xs[i]?=some x->ys[i]?=some y->Twin K H n x y)->TwinA K H n xs ys
 | [],[],_,_=>.nil
 | x :: xs,y :: ys,e,h=>.cons (h 0 x y rfl rfl) (TwinA.at (by simpa using e) λi a b ha hb=>h (i+1) a b (by simpa using ha) (by simpa using hb))
 | [],_ :: _,e,_=>by cases e
 | _ :: _,[],e,_=>by cases e
theorem Twin.tup {K:W.Frag} {H:Hp} {n:Nat} {a b:Addr} {xs ys:List V} (h1:SqT K H a xs) (h2:SqT K H b ys) (t:TwinA K H n xs ys):Twin K H (n+1) (.ref a) (.ref b):=by
 obtain⟨ds,ls,z1,z2⟩:=t;refine⟨.tuple ds,Lay.tuple ls,?_,?_⟩
 . unfold zhy;exact⟨a,xs,rfl,h1,z1⟩
 . unfold zhy;exact⟨b,ys,rfl,h2,z2⟩
theorem Twin.lst {K:W.Frag} {H:Hp} {n:Nat} {a b:Addr} {xs ys:List V} (h1:SqL K H a xs) (h2:SqL K H b ys) (t:TwinA K H n xs ys):Twin K H (n+1) (.ref a) (.ref b):=by
 obtain⟨ds,ls,z1,z2⟩:=t;refine⟨.list ds,Lay.list ls,?_,?_⟩
 . unfold zhy;exact⟨a,xs,rfl,h1,z1⟩
 . unfold zhy;exact⟨b,ys,rfl,h2,z2⟩
theorem z34 {K:W.Frag} {H:Hp} {nk:Str} {fa tr qC:Addr} {fo:V} {ps:List Str} (rr:List RR) (h1:SqT K H fa [.str nk,fo,.ref qC,.ref tr]) (h2:SqT K H tr (rr.map λx=>V.ref x.w.r)) (h3:∀x∈rr,RRok K H x) (h4:SqT K H qC (ps.map V.str)) (h5:∀s∈ps,K12.Nm s) (h6:ps.length<=100) (h7:rr.length<=100) (wf:K13.Wf (rr.map λx=>x.w.k)) :
   F2.FnAt K H ⟨nk,fo,fa,qC,tr,ps,rr.map (·.w),rr.map (·.d)⟩:=by
 refine⟨h1,h4,by show SqT K H tr ((rr.map (·.w)).map λw=>V.ref w.r); rw[qbx]; exact h2,λw hw=>?_,⟨⟨_,_,_,_,h1,h4,?_⟩,λd hd=>?_,h5,h6,by show(rr.map (·.d)).length<=100; rw[List.length_map]; exact h7⟩,by show K13.Wf ((rr.map (·.w)).map (·.k)); rw[qbx]; exact wf,by show(rr.map (·.w)).length<=100; rw[List.length_map]; exact h7⟩
 . obtain⟨x,hx,rfl⟩:=List.mem_map.mp hw;exact(h3 x hx).2.1
 . show SqT K H tr ((rr.map (·.d)).map λd=>V.ref d.r);rw[qbx];have:(rr.map λx=>V.ref x.w.r)=rr.map ((λd=>V.ref d.r) ∘ (·.d)):=List.map_congr_left λx hx=>by show V.ref x.w.r=V.ref x.d.r;rw[(h3 x hx).1]
   rw[<- this];exact h2
 . obtain⟨x,hx,rfl⟩:=List.mem_map.mp hd;exact(h3 x hx).2.2
end Bg
namespace Wk
open PySem L2 Gx Fl K41 Bg
inductive RG where
 | out (a:V)|copy (x:Str) (a:V)|op (x s:Str) (a b:V)|back (a:V)|new (x:Str)|get (x:Str) (a:V) (f:Str)|put (a:V) (f:Str) (b:V)|call (x g:Str) (p:Addr) (as:List V)|ifs (a:V)|whl (a:V)
def RG.items:RG->List V
 | .out a=>[.str "out",a]
 | .copy x a=>[.str "copy",.str x,a]
 | .op x s a b=>[.str "op",.str x,.str s,a,b]
 | .back a=>[.str "back",a]
 | .new x=>[.str "new",.str x]
 | .get x a f=>[.str "get",.str x,a,.str f]
 | .put a f b=>[.str "put",a,.str f,b]
 | .call x g p _=>[.str "call",.str x,.str g,.ref p]
 | .ifs a=>[.str "if",a]
 | .whl a=>[.str "while",a]
def RG.kind:RG->Str
 | .out _=>"out"
 | .copy _ _=>"copy"
 | .op _ _ _ _=>"op"
 | .back _=>"back"
 | .new _=>"new"
 | .get _ _ _=>"get"
 | .put _ _ _=>"put"
 | .call _ _ _ _=>"call"
 | .ifs _=>"if"
 | .whl _=>"while"
def RG.gx:RG->Option Str
 | .copy x _=>some x
 | .op x _ _ _=>some x
 | .new x=>some x
 | .get x _ _=>some x
 | .call x _ _ _=>some x
 | _=>none
def RG.as:RG->List V
 | .out a=>[a]
 | .copy _ a=>[a]
 | .op _ _ a b=>[a,b]
 | .back a=>[a]
 | .new _=>[]
 | .get _ a _=>[a]
 | .put a _ b=>[a,b]
 | .call _ _ _ as=>as
 | .ifs a=>[a]
 | .whl a=>[a]
def RG.cl:RG->Str
 | .call _ g _ _=>g
 | _=>""
def RG.rr (r:Addr) (rg:RG):RR:=⟨⟨r,rg.kind,rg.cl⟩,⟨r,0,0,rg.gx,rg.as⟩⟩
def RG.parts (rg:RG):List V:=(rg.gx.toList.map V.str)++rg.as
structure RGAt (K:W.Frag) (H:Hp) (r:Addr) (rg:RG):Prop where
 it:SqT K H r rg.items
 ar:∀x g p as,rg=.call x g p as->SqT K H p as
theorem RGAt.mono {K:W.Frag} {H H':Hp} {r:Addr} {rg:RG} (h:RGAt K H r rg) (e:zan H H'):RGAt K H' r rg:=⟨e.tup h.it,λx g p as z=>e.tup (h.ar x g p as z)⟩
structure RG.Ok (rg:RG):Prop where
 at_:∀v∈rg.parts,K12.Atom v
 sg:∀x s a b,rg=.op x s a b->PyData.strOk s=true
 fl:(∀x a f,rg=.get x a f->PyData.strOk f=true)/\∀a f b,rg=.put a f b->PyData.strOk f=true
 cl:∀x g p as,rg=.call x g p as->PyData.strOk g=true/\as.length<=10
theorem gat {x:Str} (h:K12.Atom (.str x)):K12.Nm x:=by
 rcases h with⟨s,e,h⟩|⟨i,e⟩
 . cases e; exact h
 . cases e
theorem z43 {K:W.Frag} {H:Hp} {r:Addr} {rg:RG} (h:RGAt K H r rg):K12.RowS K H rg.items rg.gx rg.as:=by
 cases rg with
 | out a=>exact .out a
 | copy x a=>exact .copy x a
 | op x s a b=>exact .op x s a b
 | back a=>exact .back a
 | new x=>exact .new x
 | get x a f=>exact .get x a f
 | put a f b=>exact .put a f b
 | call x g p as=>exact .call x g p as (h.ar x g p as rfl)
 | ifs a=>exact .ifs a
 | whl a=>exact .whl a
theorem z0q {rg:RG} (ok:rg.Ok):rg.as.length<=10:=by
 cases rg with
 | call x g p as=>exact(ok.cl x g p as rfl).2
 | _=>simp [RG.as]
theorem z55 {K:W.Frag} {H:Hp} {r:Addr} {rg:RG} (h:RGAt K H r rg) (ok:rg.Ok):RRok K H (rg.rr r):=by
 refine⟨rfl,?_,⟨⟨_,h.it,z43 h⟩,λv hv=>ok.at_ v (List.mem_append_right _ hv),z0q ok,λx hx=>?_⟩⟩
 . have ne:∀k∈([("out":Str),"copy","op","back","new","get","put","if","while"]:List Str),¬ k="call":=by decide +kernel
   cases rg with
   | call x g p as=>exact⟨_,h.it,λ_=>⟨_,_,rfl⟩⟩
   | out a=>exact⟨_,h.it,λz=>absurd z (ne "out" (by simp))⟩
   | copy x a=>exact⟨_,h.it,λz=>absurd z (ne "copy" (by simp))⟩
   | op x s a b=>exact⟨_,h.it,λz=>absurd z (ne "op" (by simp))⟩
   | back a=>exact⟨_,h.it,λz=>absurd z (ne "back" (by simp))⟩
   | new x=>exact⟨_,h.it,λz=>absurd z (ne "new" (by simp))⟩
   | get x a f=>exact⟨_,h.it,λz=>absurd z (ne "get" (by simp))⟩
   | put a f b=>exact⟨_,h.it,λz=>absurd z (ne "put" (by simp))⟩
   | ifs a=>exact⟨_,h.it,λz=>absurd z (ne "if" (by simp))⟩
   | whl a=>exact⟨_,h.it,λz=>absurd z (ne "while" (by simp))⟩
 . have hx:rg.gx=some x:=hx;refine gat (ok.at_ (.str x) (qa8 _ ?_));rw[hx];simp
theorem zvj {rg:RG} (h1:∀a,rg≠.ifs a) (h2:∀a,rg≠.whl a):¬ K13.isO rg.kind=true/\¬ K13.isE rg.kind=true/\¬ rg.kind="end"/\¬ rg.kind="else":=by
 have key:∀k∈([("out":Str),"copy","op","back","new","get","put","call"]:List Str),¬ K13.isO k=true/\¬ K13.isE k=true/\¬ k="end"/\¬ k="else":=by decide +kernel
 cases rg with
 | ifs a=>exact absurd rfl (h1 a)
 | whl a=>exact absurd rfl (h2 a)
 | _=>exact key _ (by simp [RG.kind])
theorem zy4 {rg:RG} (h:∀a,rg≠.back a):¬ rg.kind="back":=by
 have key:∀k∈([("out":Str),"copy","op","new","get","put","call","if","while"]:List Str),¬ k="back":=by decide +kernel
 cases rg with
 | back a=>exact absurd rfl (h a)
 | _=>exact key _ (by simp [RG.kind])
def Pl (rg:RG):Prop:=(∀a,rg≠.ifs a)/\∀a,rg≠.whl a
theorem z3r:∀(rgs:List RG) (ks:List Str),(∀rg∈rgs,Pl rg)->K13.Good ks []->K13.Good (ks++rgs.map RG.kind) []
 | [],ks,_,g=>by rw[qcd,qbg]; exact g
 | rg :: rgs,ks,hp,g=>by have h:=zvj (hp rg List.mem_cons_self).1 (hp rg List.mem_cons_self).2;have:=z3r rgs (ks++[rg.kind]) (λr hr=>hp r (List.mem_cons_of_mem _ hr)) (g.plain h.1 h.2.1 h.2.2.1);rw[qcs] at this;exact this
theorem gwf {rgs:List RG} (a:V) (hp:∀rg∈rgs,Pl rg):K13.Wf ((rgs++[RG.back a]).map RG.kind):=by have g:=(z3r rgs [] hp K13.good_nil).back;rw[List.nil_append] at g;rw[List.map_append];exact g
def grs (rs:List Addr) (rgs:List RG):List RR:=(rs.zip rgs).map λp=>p.2.rr p.1
theorem zsj {rs:List Addr} {rgs:List RG} (h:rs.length=rgs.length):(grs rs rgs).length=rgs.length:=by unfold grs;rw[List.length_map,qcf];omega
theorem z0d {rs:List Addr} {rgs:List RG} {k:Nat} {x:RR} (hx:(grs rs rgs)[k]?=some x):∃r rg,rs[k]?=some r/\rgs[k]?=some rg/\x=rg.rr r:=by unfold grs at hx;rw[List.getElem?_map,qc1] at hx;obtain⟨p,hp,rfl⟩:=hx;rw[qb7] at hp;exact⟨p.1,p.2,hp.1,hp.2,rfl⟩
theorem z4o {α:Type} (g:Addr->α):∀(rs:List Addr) (rgs:List RG),rs.length=rgs.length->(rs.zip rgs).map (λp=>g p.1)=rs.map g
 | [],[],_=>rfl
 | r :: rs,v :: rgs,h=>by rw[qdn,qaz,qaz,z4o g rs rgs (by simpa using h)]
 | [],_ :: _,h=>by simp at h
 | _ :: _,[],h=>by simp at h
theorem z4c {α:Type} (g:RG->α):∀(rs:List Addr) (rgs:List RG),rs.length=rgs.length->(rs.zip rgs).map (λp=>g p.2)=rgs.map g
 | [],[],_=>rfl
 | r :: rs,v :: rgs,h=>by rw[qdn,qaz,qaz,z4c g rs rgs (by simpa using h)]
 | [],_ :: _,h=>by simp at h
 | _ :: _,[],h=>by simp at h
theorem zzq {rs:List Addr} {rgs:List RG} (h:rs.length=rgs.length):((grs rs rgs).map λx=>V.ref x.w.r)=rs.map V.ref:=by unfold grs;rw[qbx];exact z4o V.ref rs rgs h
theorem zqr {rs:List Addr} {rgs:List RG} (h:rs.length=rgs.length):((grs rs rgs).map λx=>x.w.k)=rgs.map RG.kind:=by unfold grs;rw[qbx];exact z4c RG.kind rs rgs h
theorem z5v (r:Addr) (rg:RG):K12.rowStrs (rg.rr r).d=K12.strsOf rg.parts:=by unfold RG.parts K12.rowStrs;rw[K12.strsOf_append,K12.strsOf_map];rfl
theorem z3d {β:Type} (g:RG->List β):∀(rs:List Addr) (rgs:List RG),rs.length=rgs.length->(rs.zip rgs).flatMap (λp=>g p.2)=rgs.flatMap g
 | [],[],_=>rfl
 | r :: rs,v :: rgs,h=>by rw[qdn,qdr,qdr,z3d g rs rgs (by simpa using h)]
 | [],_ :: _,h=>by simp at h
 | _ :: _,[],h=>by simp at h
def zua (rgs:List RG):List Str:=rgs.flatMap λrg=>K12.strsOf rg.parts
theorem zpu {rs:List Addr} {rgs:List RG} (h:rs.length=rgs.length):((grs rs rgs).map (·.d)).flatMap K12.rowStrs=zua rgs:=by
 unfold grs zua;rw[qbx,List.flatMap_map];have:((λp:Addr×RG=>K12.rowStrs (((λx:RR=>x.d) ∘ λp:Addr×RG=>p.2.rr p.1) p)):Addr×RG->List Str)=λp=>(λrg:RG=>K12.strsOf rg.parts) p.2:=by funext p;exact z5v p.1 p.2
 rw[this];exact z3d (λrg=>K12.strsOf rg.parts) rs rgs h
theorem zld {rg:RG} (ok:rg.Ok):rg.parts.length<=11:=by
 unfold RG.parts;rw[List.length_append,List.length_map];have h1:=z0q ok;have h2:rg.gx.toList.length<=1:=by cases rg.gx <;> simp
 omega
theorem zsw:∀rgs:List RG,(∀rg∈rgs,rg.Ok)->(zua rgs).length<=11 * rgs.length
 | [],_=>by simp [zua]
 | rg :: rgs,ok=>by have h1:=zsw rgs λr hr=>ok r (List.mem_cons_of_mem _ hr);have h2:=K12.strsOf_len rg.parts;have h3:=zld (ok rg List.mem_cons_self);unfold zua at h1 ⊢;rw[qdr,List.length_append,qa0];omega
theorem z50 {s:Str} {l:List V}:s∈K12.strsOf l <-> V.str s∈l:=by
 unfold K12.strsOf;rw[qdk];constructor
 . rintro ⟨v,hv,e⟩;cases v with
   | str x=>cases e; exact hv
   | _=>cases e
 . intro h;exact⟨_,h,rfl⟩
theorem z5r {x:Str} {ss:List Str}:x∈K12.onceL ss <-> x∈ss:=⟨K12.onceL_sub ss x,λh=>K12.fold_has ss [] x h⟩
def gfn (nk:Str) (fo:V) (fa qC tr:Addr) (ps:List Str) (rs:List Addr) (rgs:List RG):F2.Fd:=⟨nk,fo,fa,qC,tr,ps,(grs rs rgs).map (·.w),(grs rs rgs).map (·.d)⟩
section
variable {K:W.Frag} {H:Hp} {nk:Str} {fa tr qC:Addr} {fo:V} {ps:List Str} {rs:List Addr} {rgs:List RG}
theorem z3o (hl:rs.length=rgs.length) (h1:SqT K H fa [.str nk,fo,.ref qC,.ref tr]) (h2:SqT K H tr (rs.map V.ref)) (h3:∀(i:Nat) r rg,rs[i]?=some r->rgs[i]?=some rg->RGAt K H r rg/\rg.Ok) (h4:SqT K H qC (ps.map V.str)) (h5:∀s∈ps,K12.Nm s) (h6:ps.length<=100) (h7:rgs.length<=100) (wf:K13.Wf (rgs.map RG.kind)) :
   F2.FnAt K H (gfn nk fo fa qC tr ps rs rgs):=by
 refine z34 (grs rs rgs) h1 (by rw[zzq hl]; exact h2) (λx hx=>?_) h4 h5 h6 (by rw[zsj hl]; exact h7) (by rw[zqr hl]; exact wf);obtain⟨k,hk⟩:=qaw hx;obtain⟨r,rg,e1,e2,rfl⟩:=z0d hk;exact z55 (h3 k r rg e1 e2).1 (h3 k r rg e1 e2).2
theorem z2i (hl:rs.length=rgs.length) {x:Str}:x∈F2.nms (gfn nk fo fa qC tr ps rs rgs) <-> x∈ps\/x∈zua rgs:=by unfold F2.nms K12.allOf;rw[z5r,List.mem_append];show x∈ps\/x∈((grs rs rgs).map (·.d)).flatMap K12.rowStrs <-> _;rw[zpu hl]
theorem zyx (hl:rs.length=rgs.length) (ok:∀rg∈rgs,rg.Ok):(F2.nms (gfn nk fo fa qC tr ps rs rgs)).length<=ps.length+11 * rgs.length:=by unfold F2.nms K12.allOf;refine Nat.le_trans (K12.onceL_len _) ?_;rw[List.length_append];show ps.length+(((grs rs rgs).map (·.d)).flatMap K12.rowStrs).length<=_;rw[zpu hl];have:=zsw rgs ok;omega
theorem z0z (hl:rs.length=rgs.length) {k:Nat} {rg:RG} (hv:rgs[k]?=some rg):∃w:Rw,(gfn nk fo fa qC tr ps rs rgs).rs[k]?=some w/\rs[k]?=some w.r:=by
 have hk:k<(grs rs rgs).length:=by rw[zsj hl]; exact(List.getElem?_eq_some_iff.mp hv).1
 have hx:(grs rs rgs)[k]?=some (grs rs rgs)[k]:=List.getElem?_eq_getElem hk;obtain⟨r,rg',e1,e2,e3⟩:=z0d hx;refine⟨(grs rs rgs)[k].w,?_,?_⟩
 . show((grs rs rgs).map (·.w))[k]?=_;rw[List.getElem?_map,hx];rfl
 . rw[e3]; exact e1
theorem z18 (hl:rs.length=rgs.length):(gfn nk fo fa qC tr ps rs rgs).rs.length=rgs.length:=by show((grs rs rgs).map (·.w)).length=_;rw[List.length_map,zsj hl]
theorem z00 (hl:rs.length=rgs.length) {k:Nat} {rg:RG} (hk:k+1<rgs.length) (hv:rgs[k]?=some rg) (hb:∀a,rg≠.back a) (hp:Pl rg) (hp2:∀r,rgs[k+1]?=some r->Pl r):Way (gfn nk fo fa qC tr ps rs rgs) k 0 (k+1):=by
 have kdw:∀(j:Nat) (rg:RG),rgs[j]?=some rg->K13.kd (F2.kds (gfn nk fo fa qC tr ps rs rgs)) j=rg.kind:=λj rg h=>by
   unfold K13.kd F2.kds;have e:(gfn nk fo fa qC tr ps rs rgs).rs.map (·.k)=rgs.map RG.kind:=by show((grs rs rgs).map (·.w)).map (·.k)=_;rw[qbx];exact zqr hl
   rw[e,qbu,List.getElem?_map,h];rfl
 have h2:rgs[k+1]?=some rgs[k+1]:=List.getElem?_eq_getElem hk;have c1:=zvj hp.1 hp.2;have c2:=zvj (hp2 _ h2).1 (hp2 _ h2).2;exact⟨[k+1],.one (by rw[kdw k rg hv]; exact c1.2.1) (by rw[kdw k rg hv]; exact zy4 hb) (by rw[kdw k rg hv]; exact c1.1) (.oth (by rw[kdw _ _ h2]; exact c2.2.2.2) (by rw[kdw _ _ h2]; exact c2.2.2.1)),rfl⟩
end
structure Cn where
 kv:List (List Key×V)
 rc:Int
def fk (i:Int) (f:Str):List Key:=[Sum.inl i,Sum.inr f]
def fldV (cn:Cn) (i:Int) (f:Str):V:=(zcx cn.kv (fk i f)).getD (.int 0)
def RG.gives (kvs:List (Key×V)) (cn:Cn):RG->Option (Str×V)
 | .copy x a=>(av kvs a).map λv=>(x,v)
 | .op x s a b=>match av kvs a,av kvs b with
   | some (.int i),some (.int j)=>if 0<=i/\0<=j/\i<K21.wide/\j<K21.wide then some (x,.int (K21.valOf s i j)) else none
   | _,_=>none
 | .get x a f=>match av kvs a with
   | some (.int i)=>some (x,fldV cn i f)
   | _=>none
 | _=>none
theorem zqv {kvs:List (Key×V)} {cn:Cn} {y s x:Str} {a b v:V} (h:(RG.op y s a b).gives kvs cn=some (x,v)):x=y/\∃i j,av kvs a=some (.int i)/\av kvs b=some (.int j)/\(0<=i/\0<=j/\i<K21.wide/\j<K21.wide)/\v=.int (K21.valOf s i j):=by
 dsimp only[RG.gives] at h;split at h
 . rename_i i j ea eb
   split at h
   . rename_i hb
     cases h;exact⟨rfl,i,j,ea,eb,hb,rfl⟩
   . cases h
 . cases h
theorem zmf {kvs:List (Key×V)} {cn:Cn} {y x:Str} {a v:V} (h:(RG.copy y a).gives kvs cn=some (x,v)):x=y/\av kvs a=some v:=by have h:(av kvs a).map (λv=>(y,v))=some (x,v):=h;rw[qc1] at h;obtain⟨u,hu,hz⟩:=h;cases hz;exact⟨rfl,hu⟩
theorem zuo {kvs:List (Key×V)} {cn:Cn} {y x f:Str} {a v:V} (h:(RG.get y a f).gives kvs cn=some (x,v)):x=y/\∃i,av kvs a=some (.int i)/\v=fldV cn i f:=by
 dsimp only[RG.gives] at h;split at h
 . rename_i i e
   cases h;exact⟨rfl,i,e,rfl⟩
 . cases h
theorem zm1 {kvs:List (Key×V)} {cn:Cn} {rg:RG} {x:Str} {v:V} (h:rg.gives kvs cn=some (x,v)):rg.items[1]?=some (.str x):=by
 cases rg with
 | copy y a=>rw[(zmf h).1]; rfl
 | op y s a b=>rw[(zqv h).1]; rfl
 | get y a f=>rw[(zuo h).1]; rfl
 | _=>cases h
end Wk
namespace L2
open PySem PySem.Spec PyProof.Rows
def z56 (t:TS):TS:=λD σ H=>∃d kvs,H d=some (.dK kvs)/\t { D with nx:=λσ' H'=>∃o,H' d=some (.frz o (.dK kvs))/\D.nx σ' (upd H' d (.dK kvs)) } σ H
theorem zyt {X:Cx} {st:Stmt} {t:TS} (h:PS X st t):PS X st (z56 t):=z1s h
section
variable {X:Cx} {k:Nat} {f C:Addr} {fd:FuncData} {ps:List Str} {sp:Sp} {m:Str} {pos apos:Pos} {o e:Expr} {es:List Expr} {t:TA} {ta:TE}
theorem z1q {pl:Sem Bool} (he:PE X.nox o ta) (c:Cls X.K C) (hm:Meth X.K C m f) (F:FnOk X.prog X.w X.K X.mg X.base (CXe X.prog X.w) k f fd ps sp) (hr:Room k X.A) (hb:zjq X.K fd ps []) (ha:PA X.nox (e :: es) t)
   (hst:starEach (e :: es) X.env=(false,eval e X.env) :: starEach es X.env:=by rfl) (hpl:(backTo pos (starEach es X.env)).any (·.1)=false:=by rfl)
   (ht:eval (.Call (.Attribute o m apos) (e :: es) [] pos) X.env=(do
     let ov <- eval o X.env
     standAt apos.atName
     let (f,first) <- holding [ov] (getMethod ov m pl)
     callWith pos f first (backTo pos (starEach (e :: es) X.env)) (backToKw pos (keywordEach [] X.env))):=by rfl) :
   PX X (.Call (.Attribute o m apos) (e :: es) [] pos) (λσ H Q E=>z09 C m sp [] E ta t σ H Q):=by
 intro pins s σ H Q E I h;refine PySem.W.methodCall_KW (pl:=pl) (wpAny_mono (he pins s σ H _ (I.wish _) h) (λu s1 ⟨x,H1,I1,rx,a,dx,fs,ex,ea,l,q⟩=>?_) λ_ _ z=>z.elim) ht;have I1:=I1.unwish;subst ex;obtain rfl:u=Value.ref a:=rx;refine zlf I1 ea c hm l ?_;refine PySem.W.callWith_K (first:=[.ref a]) (h₀:=X.base) I.ok.mod.kin hm.kp (wpAny_mono (ha pos pins s1 σ H1 _ (I1.wish _) q) (λus s2 ⟨vs,H2,I2,r,q2⟩=>⟨I2.kIn,?_⟩) λ_ _ z=>z.elim) hst hpl;have I2:=I2.unwish;have r2:zcq (.ref a :: vs) (.ref a :: us):=.cons rfl r;have q2:sp (.ref a :: vs) H2 Q E:=by have q3:sp (.ref a :: (vs++[])) H2 Q E:=q2;rw[qbg] at q3; exact q3
 have hl:(Value.ref a :: us).length=ps.length:=by rw[<- r2.length]; exact F.len _ _ _ _ q2
 have hb2:BindsTo s2 fd ⟨.ref a :: us,[]⟩ (ps.zip (.ref a :: us)):=by have:=hb s2 (.ref a :: us) I2.kIn (by rw[qbg]; exact hl);rwa [qbg] at this
 refine wpAny_call (codeAny_mono (F.run X.A X.stack s2 H2 ⟨.ref a :: us,[]⟩ (.ref a :: us) (.ref a :: vs) Q E hr I2.env0 hb2 r2 q2) λrr s' hq=>?_);cases rr with
 | error ev=>exact⟨H2,s2,I2,hq⟩
 | ok fl =>
   cases fl with
   | ret u=>exact I2.after hq
   | next=>exact False.elim hq
   | brk=>exact False.elim hq
   | cont=>exact False.elim hq
end
end L2
namespace Wk
open PySem L2 Gx Fl K41 Bg
section
variable {cW cF:Addr} {Hb H H2:Hp} {w:Wr} {fs:List Fm} {oc:V} {sent:List V} {co:HO} {rc:Int}
theorem zd0 {α β:Type} (g:α->β) {l:List α} {i:Nat} {x y:α} (h:l[i]?=some x) (e:g y=g x):(l.set i y).map g=l.map g:=by
 refine qct λj=>?_;rw[List.getElem?_map,List.getElem?_map,qbv];by_cases hj:i=j
 . subst hj;rw[if_pos rfl,if_pos (List.getElem?_eq_some_iff.mp h).1,h];exact congrArg some e
 . rw[if_neg hj]
theorem WAt.nameAt {f:Fm} {i:Nat} {ks:List (Key×V)} (h:WAt cW cF Hb H w fs oc sent co rc) (hf:fs[i]?=some f):WAt cW cF Hb (upd H f.nd (.dK ks)) w (fs.set i { f with kvs:=ks }) oc sent co rc:=by
 have hi:i<fs.length:=(List.getElem?_eq_some_iff.mp hf).1;have hfm:=List.mem_of_getElem? hf;have nf:=(h.fr f hfm).n;have ma:(fs.set i { f with kvs:=ks }).map (·.a)=fs.map (·.a):=zd0 _ hf rfl;have mn:(fs.set i { f with kvs:=ks }).map (·.nd)=fs.map (·.nd):=zd0 _ hf rfl;have mr:((fs.set i { f with kvs:=ks }).map λf=>V.ref f.a)=fs.map λf=>V.ref f.a:=by exact zd0 _ hf rfl
 have fall:∀{P:Fm->Prop},(∀(j:Nat) g,fs[j]?=some g->j≠i->P g)->P { f with kvs:=ks }->∀g∈fs.set i { f with kvs:=ks },P g:=λh1 h2 g hg=>by
   obtain⟨j,hj⟩:=qaw hg;rw[qbv] at hj;by_cases hne:i=j
   . rw[if_pos hne] at hj;have hil:i<fs.length:=hi;rw[if_pos hil] at hj;cases hj; exact h2
   . rw[if_neg hne] at hj;exact h1 j g hj (λz=>hne z.symm)
 have apart:∀(j:Nat) g,fs[j]?=some g->j≠i->g.nd≠f.nd:=λj g hj hne z=>by
   have h1:(fs.map (·.nd))[j]?=some f.nd:=by rw[List.getElem?_map,hj]; exact congrArg some z
   have h2:(fs.map (·.nd))[i]?=some f.nd:=by rw[List.getElem?_map,hf]; rfl
   exact hne ((qb9 (List.getElem?_eq_some_iff.mp h1).1 h.nn).mp (h1.trans h2.symm))
 refine⟨h.b.upd (h.ff f hfm).2,by rw[zag (za6 h.o nf (by intro z; cases z))]; exact h.o,?_,by rw[zag (za6 h.sd nf (by intro z; cases z))]; exact h.sd,by rw[zag (h.nc f hfm).symm]; exact h.ct,
   fall (λj g hj hne=>⟨by rw[zag (za6 (h.fr g (List.mem_of_getElem? hj)).o nf (by intro z; cases z))]; exact(h.fr g (List.mem_of_getElem? hj)).o,by rw[zag (apart j g hj hne)]; exact(h.fr g (List.mem_of_getElem? hj)).n⟩) ⟨?_,zac⟩,by rw[ma]; exact h.na,by rw[mn]; exact h.nn,h.ne,fall (λj g hj _=>h.nc g (List.mem_of_getElem? hj)) (h.nc f hfm),h.cs,fall (λj g hj _=>h.nf g (List.mem_of_getElem? hj)) (h.nf f hfm),h.fa,h.fst,h.fsd,h.fct,fall (λj g hj _=>h.ff g (List.mem_of_getElem? hj)) (h.ff f hfm)⟩
 . rw[zag (za6 h.st nf (by intro z; cases z)),h.st,mr]
 . show upd H f.nd _ f.a=some (.ins cF f.dx (fF f));rw[zag (za6 (h.fr f hfm).o nf (by intro z; cases z))]; exact(h.fr f hfm).o
end
end Wk
namespace K14
open PySem PySem.NumText L2 K11
theorem str_ext {a b:Str} (h:a.cps.toList=b.cps.toList):a=b:=by cases a;cases b;have:=Array.toList_inj.mp h;simp only at this;rw[this]
theorem z4g {ws:List Str} {n:Nat} (h:∀w∈ws,w.length<=n):(ws.map (·.length)).sum<=ws.length * n:=by
 induction ws with
 | nil=>simp
 | cons w r ih =>
   have h1:=h w (by simp);have h2:=ih λz hz=>h z (List.mem_cons_of_mem _ hz);simp only[qaz,List.sum_cons,qa0];rw[Nat.succ_mul];omega
end K14
namespace K14
open PySem PyProof.Rows L2 K11 Gx
theorem let_at {z:Int} (h0:0<=z) (h1:z<26):atI ("abcdefghijklmnopqrstuvwxyz":Str).cps.toList z=some (97+z.toNat):=by
 obtain⟨n,rfl⟩:=qb0 h0;have g:∀n<26,("abcdefghijklmnopqrstuvwxyz":Str).cps.toList[n]?=some (97+n):=by decide +kernel
 exact zc2 (g n (by omega))
theorem zte:∀l:List Nat,(l.map λc=>[c]).flatten=l
 | []=>rfl
 | x :: l=>by rw[qaz,qck,zte l]; rfl
theorem one_fit {cs:List Nat} (h:cs.length<=8):((cs.map λc=>tx [c]).map (·.length)).sum+(cs.map λc=>tx [c]).length * ("":Str).length<=16777216:=by
 have h2:=z4g (ws:=cs.map λc=>tx [c]) (n:=1) λw hw=>by obtain⟨c,_,rfl⟩:=List.mem_map.mp hw;rw[zkd];exact qae _
 have e:("":Str).length=0:=by decide +kernel
 rw[e];rw[List.length_map] at h2 ⊢;omega
theorem one_join (cs:List Nat):PySem.Txt.join "" (cs.map λc=>tx [c])=tx cs:=by have:=zwa (cs.map λc=>[c]);rw[zte,qbx] at this;exact this
end K14
namespace K15
open PySem PySem.NumText L2 K11 K14 Gx
theorem zr4 (i j n:Nat):Builtin.Str.strSliceIndices (some (i:Int)) (some (j:Int)) 1 n=Builtin.Str.strSliceIndices (some ((min i n:Nat):Int)) (some ((min j n:Nat):Int)) 1 n:=by unfold Builtin.Str.strSliceIndices;simp only[show(1:Int) > 0 by decide,if_true];have h:∀k:Nat,(if(k:Int)<0 then(k:Int)+(n:Int) else(k:Int))=(k:Int):=λk=>if_neg (by omega);rw[h,h,h,h];congr 1 <;> omega
theorem z0g (l:List Nat) {i j:Nat} (h:i<=j):Txt.slice (tx l) (some (i:Int)) (some (j:Int))=tx ((l.take j).drop i):=by
 have e:Txt.slice (tx l) (some (i:Int)) (some (j:Int))=Txt.slice (tx l) (some ((min i l.length:Nat):Int)) (some ((min j l.length:Nat):Int)):=by unfold Txt.slice;rw[zkd,zr4 i j l.length]
 rw[e,zyz (by omega) (by omega) (by omega)];congr 1;rw[qbe];by_cases hi:i<=l.length
 . rw[qdb hi];by_cases hj:j<=l.length
   . rw[qdb hj,List.drop_take];congr 1;omega
   . rw[Nat.min_eq_right (by omega),qbb (l:=l) (by omega),qbb];rw[qbj]; omega
 . rw[qcr (show l.length<=min i l.length by omega),qcr (by rw[qax]; omega)];simp
theorem sl_to (l:List Nat) (j:Nat):Txt.slice (tx l) none (some (j:Int))=tx (l.take j):=by
 have e:Txt.slice (tx l) none (some (j:Int))=Txt.slice (tx l) (some ((0:Nat):Int)) (some (j:Int)):=by unfold Txt.slice;rw[StrLaws.sliceIdx_none_lo];rfl
 rw[e,z0g l (qa6 _),qdh]
theorem sl_from (l:List Nat) (i:Nat):Txt.slice (tx l) (some (i:Int)) none=tx (l.drop i):=by
 have e:Txt.slice (tx l) (some (i:Int)) none=Txt.slice (tx l) (some (i:Int)) (some ((max i l.length:Nat):Int)):=by
   unfold Txt.slice;rw[StrLaws.sliceIdx_none_hi,zkd,zr4 i l.length l.length,zr4 i (max i l.length) l.length];have:min (max i l.length) l.length=min l.length l.length:=by omega
   rw[this]
 rw[e,z0g l (by omega),qbb (by omega)]
end K15
namespace Wk
open PySem L2 Gx
theorem zzy {vs:List V} {m:Nat} {f:Nat->V} (hl:vs.length=m) (h:∀(i:Nat) v,vs[i]?=some v->v=f i):vs=(List.range m).map f:=by
 refine qct λi=>?_;rw[List.getElem?_map];cases e:vs[i]? with
 | none =>
   have:vs.length<=i:=qb6.mp e;rw[qbl (by rw[qds]; omega)];rfl
 | some v =>
   have:i<vs.length:=(List.getElem?_eq_some_iff.mp e).1;rw[List.getElem?_range (by omega),h i v e];rfl
theorem zwf:∀{vs:List V},(∀(i:Nat) v,vs[i]?=some v->∃c,(97<=c/\c<=122)/\v=.str (tx [c]))->∃cs:List Nat,vs=(cs.map λc=>tx [c]).map V.str/\(∀c∈cs,97<=c/\c<=122)/\cs.length=vs.length
 | [],_=>⟨[],rfl,(λc h=>by cases h),rfl⟩
 | v :: vs,h=>by
   obtain⟨c,hc,e⟩:=h 0 v rfl;obtain⟨cs,e1,h1,h2⟩:=zwf (vs:=vs) λi u hu=>h (i+1) u (by simpa using hu);refine⟨c :: cs,by rw[e,e1]; rfl,λx hx=>?_,by simp [h2]⟩;rcases List.mem_cons.mp hx with rfl|hx
   . exact hc
   . exact h1 x hx
def chr (q:Int) (k:Nat):Nat:=97+((q+7 * (k:Int))%26).toNat
theorem z4p (q:Int) (k:Nat):97<=chr q k/\chr q k<=122:=by unfold chr;have:=zc9 (q+7 * (k:Int)) 26 (by decide);omega
theorem z1l {q:Int} {j k:Nat} (hj:j<13) (hk:k<13) (h:chr q j=chr q k):j=k:=by unfold chr at h;omega
def nmB (cs:List Nat) (a:Nat) (q:Int) (k:Nat):List Nat:=cs.take a++(chr q k :: cs.drop a)
def nmF (W:List (List Nat)) (cs:List Nat) (a:Nat) (q:Int) (k:Nat):List Nat:=if nmB cs a q k∈W then nmB cs a q k++[120] else nmB cs a q k
theorem zo7 (cs:List Nat) (a:Nat) (q:Int) (k:Nat):(nmB cs a q k).length=cs.length+1:=by unfold nmB;rw[List.length_append,qa0,qax,qbj];omega
theorem zw1 {cs:List Nat} {a:Nat} {q:Int} {j k:Nat} (hj:j<13) (hk:k<13) (h:nmB cs a q j=nmB cs a q k):j=k:=by unfold nmB at h;have h2:=List.append_cancel_left h;exact z1l hj hk (List.cons.inj h2).1
theorem z2t {W:List (List Nat)} {cs:List Nat} {a:Nat} {q:Int} {j k:Nat} (hj:j<13) (hk:k<13) (h:nmF W cs a q j=nmF W cs a q k):j=k:=by
 have l1:=zo7 cs a q j;have l2:=zo7 cs a q k;unfold nmF at h;split at h <;> split at h
 . exact zw1 hj hk (List.append_cancel_right h)
 . have:=congrArg List.length h;rw[List.length_append] at this;simp at this;omega
 . have:=congrArg List.length h;rw[List.length_append] at this;simp at this;omega
 . exact zw1 hj hk h
theorem nodup_range {α:Type} {m:Nat} {f:Nat->α} (h:∀j k,j<m->k<m->f j=f k->j=k):((List.range m).map f).Nodup:=by rw[List.nodup_iff_pairwise_ne,List.pairwise_map];refine List.Pairwise.imp_of_mem (R:=λa b=>a≠b) (λ{a b} ha hb hab z=>hab (h a b (qdg.mp ha) (qdg.mp hb) z)) List.nodup_range
end Wk
namespace Wk
open PySem L2 Gx Fl
theorem ztt {n:Str}:∀(ns:List Str) (d:List (Key×V)),(n∈ns\/zcx d (Sum.inr n:Key)=some (.int 0))->zcx ((ns.map λn=>((Sum.inr n:Key),V.int 0)).foldl (λacc kv=>zbd acc kv.1 kv.2) d) (Sum.inr n:Key)=some (.int 0)
 | [],d,h=>h.elim (λz=>by cases z) id
 | m :: ns,d,h=>by
   rw[qaz,qa7];refine ztt ns _ ?_;rw[zda];by_cases z:n=m
   . exact .inr (by rw[z,if_pos rfl])
   . rcases h with h|h
     . rcases List.mem_cons.mp h with h|h
       . exact absurd h z
       . exact .inl h
     . exact .inr (by rw[if_neg (by intro y; exact z (Sum.inr.inj y))]; exact h)
end Wk
namespace L2
open PySem PySem.Spec PyProof.Rows
theorem nw {H X:Hp} {a:Addr} {o:HO} (e:upd H a o=X) (h:H a=none):zan H X/\X a=some o:=by subst e; exact⟨zan.new h,zac⟩
theorem iN {c A B:Prop} [Decidable c] (h:B) (hc:¬ c:=by decide +kernel):if c then A else B:=zha hc h
theorem iP {c A B:Prop} [Decidable c] (h:A) (hc:c:=by decide +kernel):if c then A else B:=zh8 hc h
theorem jN {c A B:Prop} [Decidable c] (h:B) (hc:¬ c:=by decide):if c then A else B:=zha hc h
end L2
namespace K26
open PySem L2 Gx Fl Wk
def top (i:Nat):Stmt:=PySem.Challenge.pw_stopglass_k26_values_set_by_hand.main.body.getD i (.Pass ⟨0,0,0,0⟩)
abbrev zi0:Stmt:=top 8
abbrev zor:Stmt:=top 9
abbrev zpe:Stmt:=top 10
abbrev ziz:Stmt:=top 11
abbrev zho:Stmt:=top 12
abbrev zm9:Stmt:=top 13
abbrev zhb:Stmt:=top 14
abbrev zb9:Stmt:=top 15
abbrev zdz:Stmt:=zbk (top 16) 0
abbrev zpc:Stmt:=top 19
abbrev zfp:Stmt:=zbk (top 20) 0
abbrev zex:Stmt:=zbk (top 20) 1
abbrev zd6:Stmt:=zbk (top 20) 2
abbrev zhf:Stmt:=zbk (top 20) 3
abbrev zev:Stmt:=zbk (top 20) 4
abbrev zd5:Stmt:=zbk (top 20) 5
abbrev zft:Stmt:=zbk (top 20) 6
abbrev zfo:Stmt:=zbk (top 20) 7
abbrev zci:Stmt:=zbk (top 20) 12
abbrev zcn:Stmt:=zbk (top 20) 13
abbrev zdt:Stmt:=zbk (top 20) 14
abbrev zdn:Stmt:=zbk (top 20) 15
abbrev zdg:Stmt:=zbk (top 20) 16
abbrev zcy:Stmt:=zbk (top 20) 17
abbrev zdy:Stmt:=zbk (top 21) 0
abbrev zcw:Stmt:=zbk (top 21) 1
abbrev zdl:Stmt:=zbk (top 22) 0
abbrev zco:Stmt:=zbk (top 22) 2
abbrev zcj:Stmt:=zbk (top 22) 3
abbrev zdq:Stmt:=zbk (top 22) 4
abbrev za7:Stmt:=zbk (top 22) 5
abbrev zbz:Stmt:=zbk (top 22) 6
abbrev zc6:Stmt:=zbk (top 22) 7
abbrev zdh:Stmt:=zbk (top 22) 8
abbrev zcv:Stmt:=zbk (top 22) 9
abbrev zc7:Stmt:=zbk (top 22) 10
abbrev zbx:Stmt:=zbk (top 22) 11
abbrev zdr:Stmt:=zbk (top 22) 1
abbrev zhj:Stmt:=top 24
abbrev ziv:Stmt:=top 25
abbrev ze1:Stmt:=top 26
abbrev zgn:Stmt:=top 27
abbrev zme:Stmt:=top 28
abbrev zoz:Stmt:=top 29
abbrev zkl:Stmt:=top 31
abbrev zcs:Stmt:=top 30
abbrev zkh:Stmt:=top 32
abbrev zf0:Stmt:=top 33
abbrev zez:Stmt:=top 34
abbrev zhk:Stmt:=top 35
abbrev zfu:Stmt:=top 36
abbrev zeq:Stmt:=top 37
abbrev zfr:Stmt:=top 38
abbrev zo9:Stmt:=top 39
set_option genInjectivity false in
set_option genSizeOf false in
structure Adr where
 zgt:Addr
 zb6:Addr
 zx4:Addr
 zaz:Addr
 zty:Addr
 zal:Addr
 zbb:Addr
 zol:Addr
 zoq:FuncData
 zxs:Addr
 zxz:FuncData
 zxq:Addr
 zxx:FuncData
 zoj:Addr
 zom:FuncData
 zni:Addr
 znp:FuncData
 zxu:Addr
 z0t:FuncData
 znh:Addr
 zno:FuncData
 zge:Addr
 zis:FuncData
 zim:Addr
 zlz:FuncData
 zxt:Addr
 zx0:FuncData
 zkz:Addr
 zk2:FuncData
 zjh:Addr
 zjj:FuncData
 zin:Addr
 ziq:FuncData
 zpl:Addr
 zpo:FuncData
 zji:Addr
 zjk:FuncData
 zio:Addr
 zir:FuncData
 zk1:Addr
 zk4:FuncData
 zk0:Addr
 zk3:FuncData
 zeo:Addr
 zep:FuncData
 ze7:Addr
 zfa:FuncData
 zg2:Addr
 zg7:FuncData
 zg3:Addr
 zg8:FuncData
 zgp:Addr
 zgs:FuncData
 zfj:Addr
 zfn:FuncData
 zhw:Addr
 zhx:FuncData
 zfh:Addr
 zfk:FuncData
 zg0:Addr
 zg5:FuncData
 ze5:Addr
 ze8:FuncData
 ze6:Addr
 ze9:FuncData
 zg1:Addr
 zg6:FuncData
 zdw:Addr
 zfm:FuncData
 zei:Addr
 zgq:FuncData
 zgd:Addr
 zgg:FuncData
 zgo:Addr
 zgr:FuncData
 zfi:Addr
 zfl:FuncData
 zgc:Addr
 zgf:FuncData
 zd1:Addr
 zd2:FuncData
 zgz:Addr
 zg4:FuncData
 znj:Addr
 znq:FuncData
 zok:Addr
 zop:FuncData
 znm:Addr
 zrg:FuncData
 zly:Addr
 zl0:FuncData
 ztx:Addr
 ztz:FuncData
 zxr:Addr
 zxy:FuncData
 zrd:Addr
 zri:FuncData
 zjz:Addr
 znr:FuncData
 zrc:Addr
 zrh:FuncData
 znk:Addr
 zre:FuncData
 znl:Addr
 zrf:FuncData
 znn:Addr
 zns:FuncData
 zli:Addr
 zoo:FuncData
 zlh:Addr
 zon:FuncData
 zpm:Addr
 zt0:FuncData
 z2z:Addr
 zz4:FuncData
 zpk:Addr
 z2y:Addr
structure Txt (K:W.Frag) (mg:Str->Option Value) (t:Adr):Prop where
 zgt:XClsOk K mg "GlassError" t.zgt
 zb6:XClsOk K mg "NoName" t.zb6
 g_Ended:mg "Ended"=some (.ref t.zx4)
 i0_NoName:W.findIn K (.ref t.zb6) "__init__"=some (some (.builtin "ValueError.__init__"))
 e_NoName:W.mroIn K t.zb6 (.ref t.zgt)=some true
 k_NoName_NoName:W.kitOne K (.ref t.zb6) (.ref t.zb6)=some true
 k_NoName_Ended:W.kitOne K (.ref t.zb6) (.ref t.zx4)=some false
 v_NoName:W.kitOne K (.ref t.zb6) (.type "ValueError")=some true
 names_of:DefOk K mg "names_of" zi0 ["function"] t.zol t.zoq
 reads:DefOk K mg "reads" zor ["row"] t.zxs t.zxz
 gives:DefOk K mg "gives" zpe ["row"] t.zxq t.zxx
 atoms_of:DefOk K mg "atoms_of" ziz ["row"] t.zoj t.zom
 each_once:DefOk K mg "each_once" zho ["names"] t.zni t.znp
 ways:DefOk K mg "ways" zm9 ["rows"] t.zxu t.z0t
 begins_of:DefOk K mg "begins_of" zhb ["rows"] t.znh t.zno
 firsts_behind:DefOk K mg "firsts_behind" zb9 ["rows","begins"] t.zge t.zis
 zoi:IniOk K t.zaz "Flows.__init__" zdz ["self","program"] t.zim t.zlz
 value:DefOk K mg "value" zpc ["sign","one","other"] t.zxt t.zx0
 zjy:BasOk K t.zty "__init__" "Walker.__init__" zfp ["self","program"] t.zkz t.zk2
 ze4:MetOk K t.zal "ended" "Walker.ended" zex ["self"] t.zjh t.zjj
 zhr:MetOk K t.zal "answer" "Walker.answer" zd6 ["self"] t.zin t.ziq
 z2x:MetOk K t.zal "sent" "Walker.sent" zhf ["self"] t.zpl t.zpo
 zil:MetOk K t.zal "field" "Walker.field" zev ["self","record","name"] t.zji t.zjk
 zhs:MetOk K t.zal "frames" "Walker.frames" zd5 ["self"] t.zio t.zir
 zgb:MetOk K t.zal "told" "Walker.told" zft ["self","level","name"] t.zk1 t.zk4
 zga:MetOk K t.zal "step" "Walker.step" zfo ["self"] t.zk0 t.zk3
 zdv:MetOk K t.zal "ask_for_level" "Walker.ask_for_level" zci ["self","level"] t.zeo t.zep
 zcf:MetOk K t.zal "ask_for_name" "Walker.ask_for_name" zcn ["self","level","name"] t.ze7 t.zfa
 zf8:MetOk K t.zal "names_at" "Walker.names_at" zdt ["self","level"] t.zg2 t.zg7
 zf9:MetOk K t.zal "send_out" "Walker.send_out" zdn ["self","number"] t.zg3 t.zg8
 zfe:MetOk K t.zal "put_field" "Walker.put_field" zdg ["self","record","name","number"] t.zgp t.zgs
 zeh:MetOk K t.zal "make_record" "Walker.make_record" zcy ["self"] t.zfj t.zfn
 zjg:IniOk K t.zbb "TextFrame.__init__" zdy ["self","function","named"] t.zhw t.zhx
 zam:MetOk K t.zbb "value_of" "TextFrame.value_of" zcw ["self","atom"] t.zfh t.zfk
 zf6:IniOk K t.zal "TextWalker.__init__" zdl ["self","program","args"] t.zg0 t.zg5
 zcc:MetOk K t.zal "chain_of" "TextWalker.chain_of" zco ["self","frame"] t.ze5 t.ze8
 zce:MetOk K t.zal "shown_at" "TextWalker.shown_at" zcj ["self","level"] t.ze6 t.ze9
 zf7:MetOk K t.zal "tell" "TextWalker.tell" zdq ["self","level","name"] t.zg1 t.zg6
 zeg:MetOk K t.zal "walk_on" "TextWalker.walk_on" za7 ["self"] t.zdw t.zfm
 zdc:MetOk K t.zal "begin" "TextWalker.begin" zbz ["self","function","args"] t.zei t.zgq
 zc3:MetOk K t.zal "row_of" "TextWalker.row_of" zc6 ["self","frame"] t.zgd t.zgg
 zb1:MetOk K t.zal "go_on" "TextWalker.go_on" zdh ["self","frame","way"] t.zgo t.zgr
 zef:MetOk K t.zal "go_back" "TextWalker.go_back" zcv ["self","number"] t.zfi t.zfl
 zeu:MetOk K t.zal "do_row" "TextWalker.do_row" zc7 ["self","frame","row"] t.zgc t.zgf
 zdf:MetOk K t.zal "value_given" "TextWalker.value_given" zbx ["self","frame","row"] t.zd1 t.zd2
 zcd:MetOk K t.zal "fill" "TextWalker.fill" zdr ["self","level","name","number"] t.zgz t.zg4
 zfb:DefOk K mg "_law_cell_at" zhj ["_law_script","_law_k"] t.znj t.znq
 zi2:DefOk K mg "_law_stream" ziv ["_law_cell","_law_many"] t.zok t.zop
 zx2:DefOk K mg "_law_names" ze1 ["_law_cell","_law_many"] t.znm t.zrg
 zg9:DefOk K mg "_law_value_by" zgn ["_law_number"] t.zly t.zl0
 zl1:DefOk K mg "_law_atom" zme ["_law_number","_law_names_here"] t.ztx t.ztz
 z20:DefOk K mg "_law_row" zoz ["_law_cell","_law_names_here"] t.zxr t.zxy
 zj0:DefOk K mg "_law_worth" zkl ["_law_atom_here","_law_now"] t.zrd t.zri
 zrj:DefOk K mg "_law_program" zcs ["_law_script","_law_names_here"] t.zjz t.znr
 zx3:DefOk K mg "_law_parts" zkh ["_law_row_here"] t.zrc t.zrh
 zsq:DefOk K mg "_law_frame" zf0 ["_law_function","_law_args"] t.znk t.zre
 zx1:DefOk K mg "_law_moved" zez ["_law_stack","_law_program_here"] t.znl t.zrf
 znt:DefOk K mg "_law_refused" zhk ["_law_walker","_law_level","_law_name","_law_number"] t.znn t.zns
 zpp:DefOk K mg "_law_stands" zfu ["_law_walker","_law_stack"] t.zli t.zoo
 zt1:DefOk K mg "_law_filled" zeq ["_law_walker","_law_stack","_law_xs","_law_names_here"] t.zlh t.zon
 z0u:DefOk K mg "_law_deep" zfr ["_law_names_here","_law_cell"] t.zpm t.zt0
 law:DefOk K mg "law" zo9 ["_law_script"] t.z2z t.zz4
 zb0:ClsOk K mg "Flows" t.zaz
 zxw:ClsOk K mg "Walker" t.zty
 zae:ClsOk K mg "TextWalker" t.zal
 zaq:ClsOk K mg "TextFrame" t.zbb
 zd3:zdu K t.zaz "last"
 zb8:zdu K t.zaz "number_of"
 zb7:zdu K t.zaz "folded_of"
 zbr:zdu K t.zaz "params_of"
 zcg:zdu K t.zaz "rows_of"
 zbp:zdu K t.zaz "names_in"
 zch:zdu K t.zaz "ways_in"
 zay:zdu K t.zal "flows"
 zao:zdu K t.zal "stack"
 zbc:zdu K t.zal "outcome"
 zbw:zdu K t.zal "sendings"
 zbv:zdu K t.zal "contents"
 zb3:zdu K t.zal "records"
 za8:zdu K t.zbb "function"
 zbm:zdu K t.zbb "row"
 za4:zdu K t.zbb "named"
 zxv:∃tk,mg "WIDE"=some (.int 281474976710656 tk)
 zn3:mg "GIVING_KINDS"=some (.ref t.zpk)
 zz5:∀H:Hp,SqT K H t.zpk (K12.giving.map V.str)
 zpn:mg "ATOM_PLACES"=some (.ref t.z2y)
 z6k:z6h K t.z2y K12.tabl
 b_ValueError:mg "ValueError"=none
 b_len:mg "len"=none
 b_list:mg "list"=none
 b_tuple:mg "tuple"=none
 b_isinstance:mg "isinstance"=none
 b_range:mg "range"=none
 b_enumerate:mg "enumerate"=none
 b_dict:mg "dict"=none
 b_str:mg "str"=none
 b_min:mg "min"=none
 b_max:mg "max"=none
 b_int:mg "int"=none
 b_zip:mg "zip"=none
 b_bool:mg "bool"=none
 bl:∀(s:Shared) (u:Value),BindsTo s t.zz4 ⟨[u],[]⟩ [("_law_script",u)]
section
variable {P:Program} {w:World} {K:W.Frag} {mg:Str->Option Value} {base:Heap} {t:Adr}
abbrev WA (t:Adr) (Hb H:Hp) (w:Wr) (fs:List Fm) (oc:V) (sent:List V) (cn:Cn):Prop:=WAt t.zal t.zbb Hb H w fs oc sent (.dT cn.kv) cn.rc
abbrev z0o (f:Fm):HO:=.tup [.str f.fn,.int f.row]
def zpa (K:W.Frag) (t:Adr):Sp:=λvs H Q _=>∃(x dx p:Addr) (fns:List F2.Fd),vs=[.ref x,.ref p]/\H x=some (.ins t.zaz dx [])/\SqL K (ers x H) p (fns.map λf=>V.ref f.fa)/\fns≠[]/\fns.length<=12/\(∀f∈fns,F2.FnAt K (ers x H) f)/\(fns.map (·.name)).Nodup /\
 ∀H',zan (ers x H) H'->F2.FlowsAt K t.zaz H' x fns->Q .non H'
def zzp (K:W.Frag):Sp:=λvs H Q _=>∃(s:Str) (a b:Int),vs=[.str s,.int a,.int b]/\0<=a/\0<=b/\a<K21.wide/\b<K21.wide/\Q (.int (K21.valOf s a b)) H
def zn1 (K:W.Frag) (t:Adr):Sp:=λvs H Q _=>∃(x dx p:Addr) (fns:List F2.Fd),vs=[.ref x,.ref p]/\H x=some (.ins t.zal dx [])/\SqL K (ers x H) p (fns.map λf=>V.ref f.fa)/\fns≠[]/\fns.length<=12/\(∀f∈fns,F2.FnAt K (ers x H) f)/\(fns.map (·.name)).Nodup /\
 ∀Hb w H',w.a=x->zan (ers x H) Hb->WA t Hb H' w [] .non [] ⟨[],0⟩->F2.FlowsAt K t.zaz Hb w.fl fns->Q .non H'
def zmo (K:W.Frag) (t:Adr):Sp:=λvs H Q _=>∃(Hb:Hp) (w:Wr) (fs:List Fm) (oc:V) (sent:List V) (cn:Cn),vs=[.ref w.a]/\WA t Hb H w fs oc sent cn/\Q (.bl (decide (fs=[]))) H
def zl8 (K:W.Frag) (t:Adr):Sp:=λvs H Q _=>∃(Hb:Hp) (w:Wr) (fs:List Fm) (oc:V) (sent:List V) (cn:Cn),vs=[.ref w.a]/\WA t Hb H w fs oc sent cn/\Q oc H
def zm6 (K:W.Frag) (t:Adr):Sp:=λ_ _ _ _=>False
def zju (K:W.Frag) (t:Adr):Sp:=λ_ _ _ _=>False
def zh7 (K:W.Frag) (t:Adr):Sp:=λ_ _ _ _=>False
def zl2 (K:W.Frag) (t:Adr):Sp:=λvs H Q _=>∃(Hb:Hp) (w:Wr) (fs:List Fm) (oc:V) (sent:List V) (cn:Cn),vs=[.ref w.a]/\WA t Hb H w fs oc sent cn/\fs.length<=1000 /\
 ∀l H' (tps:List Addr),H l=none->zan H H'->H' l=some (.lst (tps.map V.ref))->tps.length=fs.length->(∀(i:Nat) f tp,fs[i]?=some f->tps[i]?=some tp->H tp=none/\tp≠l/\H' tp=some (z0o f))->Q (.ref l) H'
def znv (K:W.Frag) (t:Adr):Sp:=λvs H Q _=>∃(Hb:Hp) (w:Wr) (fs:List Fm) (oc:V) (sent:List V) (cn:Cn) (i:Nat) (f:Fm) (n:Str) (v:V) (fns:List F2.Fd) (F:F2.Fd),vs=[.ref w.a,.int i,.str n]/\WA t Hb H w fs oc sent cn/\fs[i]?=some f/\(∀f∈fs,∃F∈fns,F.name=f.fn)/\F2.FlowsAt K t.zaz Hb w.fl fns/\F∈fns/\F.name=f.fn/\n∈F2.nms F/\zcx f.kvs (Sum.inr n:Key)=some v/\∀H',zan H H'->Q v H'
def zhe (K:W.Frag) (t:Adr):Sp:=λvs H Q E=>∃(Hb:Hp) (w:Wr) (fs:List Fm) (oc:V) (sent:List V) (cn:Cn) (z:Int),vs=[.ref w.a,.int z]/\WA t Hb H w fs oc sent cn/\(0<=z/\z<(fs.length:Int)->∀H',zan H H'->Q .non H')/\((z<0\/(fs.length:Int)<=z)->∀H',zan H H'->E (.ref t.zb6) none H')
def zkw (K:W.Frag) (t:Adr):Sp:=λvs H Q _=>∃(Hb:Hp) (w:Wr) (fs:List Fm) (oc:V) (sent:List V) (cn:Cn) (i:Nat) (f:Fm) (fns:List F2.Fd) (F:F2.Fd),vs=[.ref w.a,.int i]/\WA t Hb H w fs oc sent cn/\fs[i]?=some f/\F2.FlowsAt K t.zaz Hb w.fl fns/\F∈fns/\F.name=f.fn/\∀nl H',zan H H'->SqL K H' nl ((F2.nms F).map V.str)->Q (.ref nl) H'
def zqp (fs:List Fm) (fns:List F2.Fd) (z:Int) (n:Str):Prop:=∃(i:Nat) (f:Fm) (F:F2.Fd),z=(i:Int)/\fs[i]?=some f/\F∈fns/\F.name=f.fn/\n∈F2.nms F
def zhz (K:W.Frag) (t:Adr):Sp:=λvs H Q E=>∃(Hb:Hp) (w:Wr) (fs:List Fm) (oc:V) (sent:List V) (cn:Cn) (z:Int) (n:Str) (fns:List F2.Fd),vs=[.ref w.a,.int z,.str n]/\WA t Hb H w fs oc sent cn/\F2.FlowsAt K t.zaz Hb w.fl fns/\(∀f∈fs,∃F∈fns,F.name=f.fn)/\(zqp fs fns z n->∀H',zan H H'->Q .non H')/\(¬ zqp fs fns z n->∀H',zan H H'->E (.ref t.zb6) none H')
def zka (K:W.Frag) (t:Adr):Sp:=λ_ _ _ _=>False
def zk6 (K:W.Frag) (t:Adr):Sp:=λvs H Q _=>∃(x dx nd:Addr) (fn:Str),vs=[.ref x,.str fn,.ref nd]/\H x=some (.ins t.zbb dx [])/\Q .non (upd H x (.ins t.zbb dx (fF ⟨x,dx,nd,fn,0,[]⟩)))
def zii (K:W.Frag) (t:Adr):Sp:=λvs H Q _=>∃(f:Fm) (v y:V),vs=[.ref f.a,v]/\FrAt t.zbb H f/\av f.kvs v=some y/\Q y H
def zh4 (K:W.Frag) (t:Adr):Sp:=λvs H Q _=>∃(x:V) (f:Fm),vs=[x,.ref f.a]/\FrAt t.zbb H f/\∀tp l,H tp=none->H l=none->l≠tp->Q (.ref l) (upd (upd H tp (z0o f)) l (.lst [.ref tp]))
def zh1 (K:W.Frag) (t:Adr):Sp:=λvs H Q _=>∃(Hb:Hp) (w:Wr) (fs:List Fm) (oc:V) (sent:List V) (cn:Cn) (z:Int),vs=[.ref w.a,.int z]/\WA t Hb H w fs oc sent cn/\(∀(i:Nat) f,z=(i:Int)->fs[i]?=some f->∀tp H',H tp=none->zan H H'->H' tp=some (z0o f)->Q (.ref tp) H')/\((z<0\/(fs.length:Int)<=z)->Q .non H)
def zkm (K:W.Frag) (t:Adr):Sp:=λvs H Q _=>∃(Hb:Hp) (w:Wr) (fs:List Fm) (oc:V) (sent:List V) (cn:Cn) (i:Nat) (f:Fm) (n:Str) (v:V),vs=[.ref w.a,.int i,.str n]/\WA t Hb H w fs oc sent cn/\fs[i]?=some f/\zcx f.kvs (Sum.inr n:Key)=some v/\Q v H
def zi4 (K:W.Frag) (t:Adr):Sp:=λvs H Q _=>∃(Hb:Hp) (w:Wr) (fs:List Fm) (oc:V) (sent:List V) (cn:Cn) (f:Fm) (fns:List F2.Fd) (F:F2.Fd) (r:Rw),vs=[.ref w.a,.ref f.a]/\WA t Hb H w fs oc sent cn/\f∈fs/\F2.FlowsAt K t.zaz Hb w.fl fns/\F∈fns/\F.name=f.fn/\F.rs[f.row]?=some r/\Q (.ref r.r) H
def zjs (K:W.Frag) (t:Adr):Sp:=λvs H Q _=>∃(Hb:Hp) (w:Wr) (fs:List Fm) (oc:V) (sent:List V) (cn:Cn) (f:Fm) (fns:List F2.Fd) (F:F2.Fd) (j r:Nat),vs=[.ref w.a,.ref f.a,.int j]/\WA t Hb H w (fs++[f]) oc sent cn/\F2.FlowsAt K t.zaz Hb w.fl fns/\F∈fns/\F.name=f.fn/\f.row<F.rs.length/\Way F f.row j r/\∀H',WA t Hb H' w (fs++[{ f with row:=r }]) oc sent cn->Q .non H'
def zj3 (F:F2.Fd) (vals:List V):List (Key×V):=(F.ps.zip vals).foldl (λd p=>zbd d (Sum.inr p.1:Key) p.2) (((F2.nms F).map λn=>((Sum.inr n:Key),V.int 0)).foldl (λacc kv=>zbd acc kv.1 kv.2) [])
def zjw (K:W.Frag) (t:Adr):Sp:=λvs H Q _=>∃(Hb:Hp) (w:Wr) (fs:List Fm) (oc:V) (sent:List V) (cn:Cn) (fns:List F2.Fd) (F:F2.Fd) (ar:Addr) (vals:List V),vs=[.ref w.a,.str F.name,.ref ar]/\WA t Hb H w fs oc sent cn/\F2.FlowsAt K t.zaz Hb w.fl fns/\F∈fns/\SqL K Hb ar vals/\vals.length<=1000/\fs.length<=1000/\(F2.nms F).length<=1000/\F.ps.length<=1000 /\
 ∀Hb' H' f,zan Hb Hb'->WA t Hb' H' w (fs++[f]) oc sent cn->f.fn=F.name->f.row=0->f.kvs=zj3 F vals->Q .non H'
def zkc (K:W.Frag) (t:Adr):Sp:=λvs H Q _=>∃(x dx p ar:Addr) (fns:List F2.Fd) (F:F2.Fd) (vals:List V),vs=[.ref x,.ref p,.ref ar]/\H x=some (.ins t.zal dx [])/\SqL K (ers x H) p (fns.map λf=>V.ref f.fa)/\fns≠[]/\fns.length<=12/\(∀f∈fns,F2.FnAt K (ers x H) f)/\(fns.map (·.name)).Nodup/\fns[fns.length - 1]?=some F/\SqL K (ers x H) ar vals/\vals.length<=1000/\(F2.nms F).length<=1000/\F.ps.length<=1000 /\
 ∀Hb w f H',w.a=x->zan (ers x H) Hb->WA t Hb H' w [f] .non [] ⟨[],0⟩->F2.FlowsAt K t.zaz Hb w.fl fns->f.fn=F.name->f.row=0->f.kvs=zj3 F vals->Q .non H'
def zgu (K:W.Frag) (t:Adr):Sp:=λvs H Q _=>∃(Hb:Hp) (w:Wr) (fs:List Fm) (oc:V) (sent:List V) (cn:Cn) (f:Fm) (r:Addr) (rg:RG) (x:Str) (v:V),vs=[.ref w.a,.ref f.a,.ref r]/\WA t Hb H w (fs++[f]) oc sent cn/\SqT K H r rg.items/\((∃x a,rg=.copy x a)\/(∃x s a b,rg=.op x s a b))/\rg.gives f.kvs cn=some (x,v)/\∀H',zan H H'->Q v H'
def Done (t:Adr) (Hb:Hp) (w:Wr) (fs:List Fm) (f:Fm) (oc:V) (sent:List V) (cn:Cn) (Q:VK):RG->Prop
 | .copy x a=>∃y v,(RG.copy x a).gives f.kvs cn=some (y,v)/\∀Hb' H',zan Hb Hb'->WA t Hb' H' w (fs++[{ f with kvs:=zbd f.kvs (Sum.inr y:Key) v }]) oc sent cn->Q .non H'
 | .op x s a b=>∃y v,(RG.op x s a b).gives f.kvs cn=some (y,v)/\∀Hb' H',zan Hb Hb'->WA t Hb' H' w (fs++[{ f with kvs:=zbd f.kvs (Sum.inr y:Key) v }]) oc sent cn->Q .non H'
 | _=>False
def zi6 (K:W.Frag) (t:Adr):Sp:=λvs H Q _=>∃(Hb:Hp) (w:Wr) (fs:List Fm) (oc:V) (sent:List V) (cn:Cn) (f:Fm) (r:Addr) (rg:RG),vs=[.ref w.a,.ref f.a,.ref r]/\WA t Hb H w (fs++[f]) oc sent cn/\SqT K Hb r rg.items/\sent.length<1000000/\f.kvs.length<1000000/\Done t Hb w fs f oc sent cn Q rg
def z4n (K:W.Frag) (t:Adr) (Hb:Hp) (w:Wr) (fs:List Fm) (oc:V) (sent:List V) (cn:Cn) (v:V) (Q:VK):Prop:=(fs=[]/\∀H',WA t Hb H' w [] v sent cn->Q .non H')\/∃(fs0:List Fm) (g:Fm) (fns:List F2.Fd) (G:F2.Fd) (rw:Rw) (its:List V) (x:Str) (r:Nat),fs=fs0++[g]/\F2.FlowsAt K t.zaz Hb w.fl fns/\G∈fns/\G.name=g.fn/\G.rs[g.row]?=some rw/\SqT K Hb rw.r its/\its[1]?=some (.str x)/\Way G g.row 0 r/\g.kvs.length<1000000/\∀H',WA t Hb H' w (fs0++[{ g with kvs:=zbd g.kvs (Sum.inr x:Key) v,row:=r }]) oc sent cn->Q .non H'
def zid (K:W.Frag) (t:Adr):Sp:=λvs H Q _=>∃(Hb:Hp) (w:Wr) (fs:List Fm) (oc:V) (sent:List V) (cn:Cn) (f:Fm) (v:V),vs=[.ref w.a,v]/\WA t Hb H w (fs++[f]) oc sent cn/\z4n K t Hb w fs oc sent cn v Q
def z27 (K:W.Frag) (t:Adr) (Hb:Hp) (w:Wr) (fs:List Fm) (f:Fm) (sent:List V) (cn:Cn) (fns:List F2.Fd) (F:F2.Fd) (Q:VK):RG->Prop
 | .back a=>∃v,av f.kvs a=some v/\z4n K t Hb w fs .non sent cn v Q
 | .copy x a=>∃r,Way F f.row 0 r/\∃y v,(RG.copy x a).gives f.kvs cn=some (y,v)/\∀Hb' H',zan Hb Hb'->WA t Hb' H' w (fs++[{ f with kvs:=zbd f.kvs (Sum.inr y:Key) v,row:=r }]) .non sent cn->Q .non H'
 | .op x s a b=>∃r,Way F f.row 0 r/\∃y v,(RG.op x s a b).gives f.kvs cn=some (y,v)/\∀Hb' H',zan Hb Hb'->WA t Hb' H' w (fs++[{ f with kvs:=zbd f.kvs (Sum.inr y:Key) v,row:=r }]) .non sent cn->Q .non H'
 | .call x g p as=>∃(G:F2.Fd) (vals:List V),G∈fns/\G.name=g/\SqT K Hb p as/\as.length=vals.length/\(∀(i:Nat) a v,as[i]?=some a->vals[i]?=some v->av f.kvs a=some v)/\as.length<=100/\fs.length<=900/\(F2.nms G).length<=1000/\G.ps.length<=1000/\∀Hb' H' f',zan Hb Hb'->WA t Hb' H' w (fs++[f]++[f']) .non sent cn->f'.fn=G.name->f'.row=0->f'.kvs=zj3 G vals->Q .non H'
 | _=>False
def ze0 (K:W.Frag) (t:Adr):Sp:=λvs H Q _=>∃(Hb:Hp) (w:Wr) (fs:List Fm) (f:Fm) (sent:List V) (cn:Cn) (fns:List F2.Fd) (F:F2.Fd) (r:Rw) (rg:RG),vs=[.ref w.a]/\WA t Hb H w (fs++[f]) .non sent cn/\F2.FlowsAt K t.zaz Hb w.fl fns/\F∈fns/\F.name=f.fn/\F.rs[f.row]?=some r/\SqT K Hb r.r rg.items/\sent.length<1000000/\f.kvs.length<1000000/\z27 K t Hb w fs f sent cn fns F Q rg
def znz (K:W.Frag) (t:Adr):Sp:=ze0 K t
def zkb (K:W.Frag) (t:Adr):Sp:=λvs H Q E=>∃(Hb:Hp) (w:Wr) (fs:List Fm) (oc:V) (sent:List V) (cn:Cn) (z:Int) (n:Str) (v:V) (fns:List F2.Fd),vs=[.ref w.a,.int z,.str n,v]/\WA t Hb H w fs oc sent cn/\F2.FlowsAt K t.zaz Hb w.fl fns/\(∀f∈fs,∃F∈fns,F.name=f.fn)/\(∀f∈fs,f.kvs.length<1000000)/\(zqp fs fns z n->∀(i:Nat) (f:Fm) Hb' H',z=(i:Int)->fs[i]?=some f->zan Hb Hb'->WA t Hb' H' w (fs.set i { f with kvs:=zbd f.kvs (Sum.inr n:Key) v }) oc sent cn->Q (.bl true) H')/\(¬ zqp fs fns z n->∀H',zan H H'->E (.ref t.zb6) none H')
theorem zba {n:Nat} (h:n<1000000):n<sizeLine:=by
 have:(1000000:Nat)<sizeLine:=by decide
 omega
theorem put1 (f:Str) (v:V):(zj2 f v []).length<1000:=by show 1<1000; decide
theorem put2 (f g:Str) (v u:V):(zj2 g u (zj2 f v [])).length<1000:=by have:=zer g u (zj2 f v []);have:=zer f v [];simp at *;omega
theorem zsn (f:Str) (v:V) (l:List (Str×V)) (n:Nat) (h:l.length<=n):(zj2 f v l).length<=n+1:=Nat.le_trans (zer f v l) (by omega)
theorem zym (ss:List Str):(ss.map V.str).all znu=true:=by rw[qdt];intro v hv;obtain⟨s,_,rfl⟩:=List.mem_map.mp hv;rfl
theorem zyc {n:Str} {ss:List Str} (h:n∈ss):(if true=true then !inV (.str n) (ss.map V.str) else inV (.str n) (ss.map V.str))=false:=by
 have:inV (.str n) (ss.map V.str)=true:=by unfold inV;rw[qcb];exact⟨.str n,List.mem_map.mpr ⟨n,h,rfl⟩,by show(n==n)=true; simp⟩
 rw[this];rfl
theorem z1x {l:List Nat} {j r:Nat} (h:l[j]?=some r):atI (K13.natsV l) (j:Int)=some (.int r):=zc2 (by unfold K13.natsV; rw[List.getElem?_map,h]; rfl)
theorem zst (fs:List Fm) (f:Fm):atI ((fs++[f]).map λf=>V.ref f.a) (-1)=some (.ref f.a):=by rw[List.map_append];exact ztw _ _
theorem zwl (n:Int):z5f n 3:=by unfold z5f; decide
theorem zyi (n j:Int) (h:0<j/\j<1073741824):z5f n j:=h
theorem zv2 {n:Str} {ss:List Str} (h:n ∉ ss):(if true=true then !inV (.str n) (ss.map V.str) else inV (.str n) (ss.map V.str))=true:=by
 have:inV (.str n) (ss.map V.str)=false:=by
   unfold inV;rw[Bool.eq_false_iff];intro z;rw[qcb] at z;obtain⟨v,hv,e⟩:=z;obtain⟨s,hs,rfl⟩:=List.mem_map.mp hv;have e:(n==s)=true\/(s==n)=true:=by first|exact .inl e|exact .inr e
   have:s=n:=e.elim (λz=>(eq_of_beq z).symm) eq_of_beq;rw[this] at hs;exact h hs
 rw[this];rfl
theorem z1f {fns:List F2.Fd} (nd:(fns.map (·.name)).Nodup) {F G:F2.Fd} (hF:F∈fns) (hG:G∈fns) (h:F.name=G.name):F=G:=by
 obtain⟨i,hi⟩:=qaw hF;obtain⟨j,hj⟩:=qaw hG;have h1:(fns.map (·.name))[i]?=some F.name:=by rw[List.getElem?_map,hi]; rfl
 have h2:(fns.map (·.name))[j]?=some F.name:=by rw[List.getElem?_map,hj,h]; rfl
 have:=(qb9 (List.getElem?_eq_some_iff.mp h1).1 nd).mp (h1.trans h2.symm);rw[this,hj] at hi;exact(Option.some.inj hi).symm
def zqt (K:W.Frag):Sp:=λvs H Q _=>∃(a:Addr) (ns:List Int) (k:Int),vs=[.ref a,.int k]/\SqL K H a (ns.map V.int)/\ns.length<=63/\0<=k/\∀z,Q (.int z) H
def zrq (K:W.Frag):Sp:=λvs H Q _=>∃(c:Int) (m:Nat),vs=[.int c,.int m]/\m<=100/\∀l H' (ns:List Int),H l=none->zan H H'->H' l=some (.lst (ns.map V.int))->ns.length=m->(∀n∈ns,0<=n/\n<2147483647)->Q (.ref l) H'
def Val (i:Int):Prop:=0<=i/\i<K21.wide
def zpi (K:W.Frag):Sp:=λvs H Q _=>∃(n:Int),vs=[.int n]/\∀v,Val v->Q (.int v) H
def zlo (ns:List Str) (v:V):Prop:=(∃i,v=.int i/\Val i)\/∃s,v=.str s/\s∈ns
def zws (K:W.Frag):Sp:=λvs H Q _=>∃(n:Int) (a:Addr) (ns:List Str),vs=[.int n,.ref a]/\SqL K H a (ns.map V.str)/\0<ns.length/\∀v,zlo ns v->Q v H
def zuu (K:W.Frag):Sp:=λvs H Q _=>∃(v y:V) (d:Addr) (kvs:List (Key×V)),vs=[v,.ref d]/\H d=some (.dK kvs)/\av kvs v=some y/\Q y H
def Let (cs:List Nat):Prop:=∀c∈cs,97<=c/\c<=122
structure NmsOk (ns:List Str):Prop where
 nd:ns.Nodup
 ok:∀n∈ns,∃cs,n=tx cs/\Let cs/\0<cs.length/\cs.length<=9
def zux (K:W.Frag):Sp:=λvs H Q _=>∃(c:Int) (m:Nat),vs=[.int c,.int m]/\m<=8/\∀l H' ns,H l=none->zan H H'->H' l=some (.lst (ns.map V.str))->ns.length=m->NmsOk ns->Q (.ref l) H'
theorem zxa (xs:List V):zkp xs (some 1) none=xs.drop 1:=by
 unfold zkp HT.sIx;simp only;rw[if_neg (by decide)];by_cases h:1<=xs.length
 . rw[show min (1:Int).toNat xs.length=1 by omega];rw[qbb (by rw[qbj]; omega)]
 . rw[show min (1:Int).toNat xs.length=xs.length by omega];rw[qcr (qae _),qcr (by omega)];simp
theorem zzw {H:Hp} {d:Addr} {kvs:List (Key×V)} {o:Obj} {n:Str} {v:V} (h:H d=some (.frz o (.dK kvs))) (hv:zcx kvs (Sum.inr n:Key)=some v):zm8 H d (.str n) (some v):=by have:zm8 H d (kV (Sum.inr n:Key)) (zcx kvs (Sum.inr n:Key)):=.inl ⟨kvs,Sum.inr n,.inr ⟨o,h⟩,rfl,rfl⟩;rw[hv] at this;exact this
def zog:List Str:=["fn","in","new","get","put","call","out","if","while","else","end","back"]
def WN:List (List Nat):=zog.map λw=>w.cps.toList
theorem inW (l:List Nat):inV (.str (tx l)) (zog.map V.str)=decide (l∈WN):=by
 rw[qb1,decide_eq_true_eq];unfold inV WN;rw[qcb];constructor
 . rintro ⟨v,hv,e⟩;obtain⟨w,hw,rfl⟩:=List.mem_map.mp hv;have e:(tx l==w)=true\/(w==tx l)=true:=by first|exact .inl e|exact .inr e
   have:w=tx l:=e.elim (λz=>(eq_of_beq z).symm) eq_of_beq;exact List.mem_map.mpr ⟨w,hw,by rw[this,zku]⟩
 . intro h;obtain⟨w,hw,e⟩:=List.mem_map.mp h;have:tx l=w:=K14.str_ext (by rw[zku,e]);refine⟨.str w,List.mem_map.mpr ⟨w,hw,rfl⟩,?_⟩;rw[this];show(w==w)=true;simp
theorem zms {ns:List Str} {v:V} (h:zlo ns v) (hn:∀s∈ns,K12.Nm s):K12.Atom v:=by
 rcases h with⟨i,rfl,_⟩|⟨s,rfl,hs⟩
 . exact .inr ⟨i,rfl⟩
 . exact .inl ⟨s,rfl,hn s hs⟩
theorem zs9 {ns:List Str} (h:NmsOk ns):∀s∈ns,K12.Nm s:=λs hs=>by
 obtain⟨cs,rfl,hl,h0,h9⟩:=h.ok s hs;refine⟨by rw[zkd]; omega,?_⟩;unfold PyData.strOk;rw[Array.all_eq_true'];intro x hx;have hx:x∈cs:=by
   have:x∈(tx cs).cps.toList:=by simpa using hx
   rwa [zku] at this
 have:=hl x hx;simp;omega
theorem zw4 {xs:List V} {lo hi:Option Int} {v:V} (h:v∈zkp xs lo hi):v∈xs:=qbz (qbt h)
theorem zw6 (xs:List V) (lo hi:Option Int):(zkp xs lo hi).length<=xs.length:=by unfold zkp;rw[qax,qbj];omega
theorem zs3 (ss:List Str) (M:Nat) (h:M<=ss.length):zkp (ss.map V.str) none (some (M:Int))=(ss.take M).map V.str:=by unfold zkp;rw[HT.sIx_none,show HT.sIx (ss.map V.str).length (ss.map V.str).length (some (M:Int))=min M (ss.map V.str).length from HT.sIx_nat _ _ M,List.length_map,qdh,Nat.sub_zero,qdb h,List.map_take]
theorem zqx {H:Hp} {x dx:Addr} {o1 o2:HO} (hx:H x=none) (hdx:H dx=none):zan H (ers x (upd (upd H dx o1) x o2)):=λb o hb=>by
 have n1:b≠x:=λz=>by rw[z,hx] at hb; cases hb
 have n2:b≠dx:=λz=>by rw[z,hdx] at hb; cases hb
 rw[zct n1,zag n1,zag n2];exact hb
theorem zsh {kvs:List (Key×V)} {k:Key} {v:V} {kv:Key×V} (h:kv∈zbd kvs k v):kv=(k,v)\/(kv∈kvs/\kv.1≠k):=by
 unfold zbd at h;split at h
 . obtain⟨u,hu,e⟩:=List.mem_map.mp h;by_cases z:u.1=k
   . rw[if_pos z] at e;exact .inl (by rw[<- e,z])
   . rw[if_neg z] at e;subst e;exact .inr ⟨hu,z⟩
 . rename_i hn
   rcases List.mem_append.mp h with h|h
   . refine .inr ⟨h,λz=>hn ?_⟩;rw[qcb];exact⟨kv,h,decide_eq_true z⟩
   . exact .inl (List.mem_singleton.mp h)
def sg3:List Str:=["-","<","&"]
theorem z5a:∀s∈sg3,PyData.strOk s=true:=by decide +kernel
theorem z11 {z:Int} (h0:0<=z) (h1:z<3):∃g,atI ("-<&":Str).cps.toList z=some g/\(⟨#[g]⟩:Str)∈sg3:=by
 have hl:("-<&":Str).cps.toList.length=3:=by decide +kernel
 obtain⟨g,hg,hm⟩:=zmb (xs:=("-<&":Str).cps.toList) h0 (by rw[hl]; exact h1);have key:∀g∈("-<&":Str).cps.toList,(⟨#[g]⟩:Str)∈sg3:=by decide +kernel
 exact⟨g,hg,key g hm⟩
def zx6 (ns:List Str):RG->Prop
 | .copy x a=>x∈ns/\zlo ns a
 | .op x s a b=>x∈ns/\s∈sg3/\zlo ns a/\zlo ns b
 | _=>False
def zzz (K:W.Frag):Sp:=λvs H Q _=>∃(c:Int) (a:Addr) (ns:List Str),vs=[.int c,.ref a]/\SqL K H a (ns.map V.str)/\5<=ns.length/\∀tp H' rg,H tp=none->zan H H'->H' tp=some (.tup (RG.items rg))->zx6 (ns.take 5) rg->Q (.ref tp) H'
structure Fg (K:W.Frag) (H:Hp) (F:F2.Fd) (rgs:List RG):Prop where
 at_:F2.FnAt K H F
 len:F.rs.length=rgs.length
 row:∀(k:Nat) rw rg,F.rs[k]?=some rw->rgs[k]?=some rg->RGAt K H rw.r rg
 nm:∀x,x∈F2.nms F <-> x∈F.ps\/x∈zua rgs
 nl:(F2.nms F).length<=900
 pl:F.ps.length<=6
 way:∀(k:Nat) rg,rgs[k]?=some rg->(∀a,rg≠.back a)->Way F k 0 (k+1)/\k+1<rgs.length
 kd:∀rg∈rgs,(∃x a,rg=.copy x a)\/(∃x s a b,rg=.op x s a b)\/(∃x g p as,rg=.call x g p as)\/∃a,rg=.back a
 vl:∀rg∈rgs,∀v∈rg.parts,(∃i,v=.int i/\Val i)\/∃n,v=.str n
 small:rgs.length<=100
 sn:PyData.strOk F.name=true
 ok:∀rg∈rgs,rg.Ok
theorem Fg.mono {H H':Hp} {F:F2.Fd} {rgs:List RG} (h:Fg K H F rgs) (e:zan H H'):Fg K H' F rgs:=⟨h.at_.mono e,h.len,λk rw rg h1 h2=>(h.row k rw rg h1 h2).mono e,h.nm,h.nl,h.pl,h.way,h.kd,h.vl,h.small,h.sn,h.ok⟩
theorem Fg.atom {H:Hp} {F:F2.Fd} {rgs:List RG} (h:Fg K H F rgs) {rg:RG} (hr:rg∈rgs) {v:V} (hv:v∈rg.parts):(∃i,v=.int i/\Val i)\/∃n,v=.str n/\n∈F2.nms F:=by
 rcases h.vl rg hr v hv with h1|⟨n,rfl⟩
 . exact .inl h1
 . refine .inr ⟨n,rfl,(h.nm n).mpr (.inr ?_)⟩;unfold zua;rw[qdu];exact⟨rg,hr,z50.mpr hv⟩
theorem z6d {H:Hp} {nk:Str} {fo:V} {fa qC tr:Addr} {ps:List Str} {rs:List Addr} {pre:List RG} {a:V} (hl:rs.length=(pre++[RG.back a]).length) (h1:SqT K H fa [.str nk,fo,.ref qC,.ref tr]) (h2:SqT K H tr (rs.map V.ref)) (h3:∀(i:Nat) r rg,rs[i]?=some r->(pre++[RG.back a])[i]?=some rg->RGAt K H r rg) (h4:SqT K H qC (ps.map V.str)) (h5:∀s∈ps,K12.Nm s) (h6:ps.length<=6) (h7:pre.length<=70)
   (kd:∀rg∈pre,(∃x a,rg=.copy x a)\/(∃x s a b,rg=.op x s a b)\/(∃x g p as,rg=.call x g p as)) (ok:∀rg∈pre++[RG.back a],rg.Ok) (vl:∀rg∈pre++[RG.back a],∀v∈rg.parts,(∃i,v=.int i/\Val i)\/∃n,v=.str n) (nl:ps.length+11 * (pre.length+1)<=900) (sn:PyData.strOk nk=true):Fg K H (gfn nk fo fa qC tr ps rs (pre++[RG.back a])) (pre++[RG.back a]):=by
 have pl:∀rg∈pre,Pl rg/\∀b,rg≠.back b:=λrg hr=>by rcases kd rg hr with⟨x,a,rfl⟩|⟨x,s,a,b,rfl⟩|⟨x,g,p,as,rfl⟩ <;> exact⟨⟨(λ_ z=>by cases z),(λ_ z=>by cases z)⟩,(λ_ z=>by cases z)⟩
 have plb:Pl (RG.back a):=⟨(λ_ z=>by cases z),(λ_ z=>by cases z)⟩
 have plA:∀(k:Nat) rg,(pre++[RG.back a])[k]?=some rg->Pl rg:=λk rg h=>by
   rcases List.mem_append.mp (List.mem_of_getElem? h) with h|h
   . exact(pl rg h).1
   . rw[List.mem_singleton.mp h]; exact plb
 have ln:(pre++[RG.back a]).length=pre.length+1:=by rw[List.length_append]; rfl
 refine⟨z3o hl h1 h2 (λi r rg q1 q2=>⟨h3 i r rg q1 q2,ok rg (List.mem_of_getElem? q2)⟩) h4 h5 (by omega) (by omega) (gwf a λrg hr=>(pl rg hr).1),z18 hl,λk rw rg q1 q2=>?_,λx=>z2i hl,Nat.le_trans (zyx hl ok) (by rw[ln]; exact nl),h6,λk rg q1 q2=>?_,λrg hr=>?_,vl,by omega,sn,ok⟩
 . obtain⟨w2,e1,e2⟩:=z0z (nk:=nk) (fo:=fo) (fa:=fa) (qC:=qC) (tr:=tr) (ps:=ps) hl q2;rw[q1] at e1;cases e1;exact h3 k _ rg e2 q2
 . have hk:k<pre.length:=by
     have:=(List.getElem?_eq_some_iff.mp q1).1;rcases qa4 k pre.length with h|h
     . exact h
     . have:k=pre.length:=by omega
       rw[this,qbn (qae _),Nat.sub_self] at q1;cases q1;exact absurd rfl (q2 a)
   exact⟨z00 hl (by omega) q1 q2 (plA k rg q1) (λr h=>plA _ r h),by omega⟩
 . rcases List.mem_append.mp hr with h|h
   . rcases kd rg h with h|h|h
     . exact .inl h
     . exact .inr (.inl h)
     . exact .inr (.inr (.inl h))
   . exact .inr (.inr (.inr ⟨a,List.mem_singleton.mp h⟩))
theorem zr8 {H:Hp} {ns:List Str}:∀{vs:List V},(∀(i:Nat) v,vs[i]?=some v->∃tp rg,v=.ref tp/\H tp=some (.tup (RG.items rg))/\zx6 ns rg)->∃ps:List (Addr×RG),vs=(ps.map (·.1)).map V.ref/\∀p∈ps,H p.1=some (.tup (RG.items p.2))/\zx6 ns p.2
 | [],_=>⟨[],rfl,(λrv h=>by cases h)⟩
 | v :: vs,h=>by
   obtain⟨tp,rg,rfl,h1,h2⟩:=h 0 v rfl;obtain⟨ps,rfl,h3⟩:=zr8 (vs:=vs) λi u hu=>h (i+1) u (by simpa using hu);refine⟨(tp,rg) :: ps,rfl,λp hp=>?_⟩;rcases List.mem_cons.mp hp with rfl|hp
   . exact⟨h1,h2⟩
   . exact h3 p hp
theorem nm5 {ns:List Str} (h:5<=ns.length) (z:Int):∃y,atI (ns.map V.str) (z%5)=some (.str y)/\y∈ns.take 5:=by
 have b5:=zc9 z 5 (by decide);have hi:(z%5).toNat<ns.length:=by omega
 refine⟨ns[(z%5).toNat],zll b5.1 (List.getElem?_eq_getElem hi),?_⟩;have:(ns.take 5)[(z%5).toNat]?=some ns[(z%5).toNat]:=by rw[qb8 (by omega)]; exact List.getElem?_eq_getElem hi
 exact List.mem_of_getElem? this
structure RowFit (rg:RG):Prop where
 kd:(∃x a,rg=.copy x a)\/(∃x s a b,rg=.op x s a b)\/∃x g p as,rg=.call x g p as
 ok:rg.Ok
 vl:∀v∈rg.parts,(∃i,v=.int i/\Val i)\/∃n,v=.str n
theorem zne {ns:List Str} {v:V} (h:zlo ns v):(∃i,v=.int i/\Val i)\/∃n,v=.str n:=by
 rcases h with h|⟨s,rfl,_⟩
 . exact .inl h
 . exact .inr ⟨s,rfl⟩
theorem zwr {ns:List Str} (nm:∀s∈ns,K12.Nm s):∀{rg:RG},zx6 ns rg->RowFit rg
 | .copy x a,h=>by
   obtain⟨hx,ha⟩:=h;refine⟨.inl ⟨x,a,rfl⟩,⟨λv hv=>?_,(λ_ _ _ _ z=>by cases z),⟨(λ_ _ _ z=>by cases z),(λ_ _ _ z=>by cases z)⟩,(λ_ _ _ _ z=>by cases z)⟩,λv hv=>?_⟩ <;> rcases (show v=.str x\/v=a by simpa [RG.parts,RG.gx,RG.as] using hv) with rfl|rfl
   . exact .inl ⟨x,rfl,nm x hx⟩
   . exact zms ha nm
   . exact .inr ⟨x,rfl⟩
   . exact zne ha
 | .op x s a b,h=>by
   obtain⟨hx,hs,ha,hb⟩:=h;refine⟨.inr (.inl ⟨x,s,a,b,rfl⟩),⟨λv hv=>?_,(λ_ _ _ _ z=>by cases z; exact z5a s hs),⟨(λ_ _ _ z=>by cases z),(λ_ _ _ z=>by cases z)⟩,(λ_ _ _ _ z=>by cases z)⟩,λv hv=>?_⟩ <;> rcases (show v=.str x\/v=a\/v=b by simpa [RG.parts,RG.gx,RG.as] using hv) with rfl|rfl|rfl
   . exact .inl ⟨x,rfl,nm x hx⟩
   . exact zms ha nm
   . exact zms hb nm
   . exact .inr ⟨x,rfl⟩
   . exact zne ha
   . exact zne hb
theorem zsu {ns:List Str} (nm:∀s∈ns,K12.Nm s) {x g:Str} {p:Addr} {as:List V} (hx:x∈ns) (hg:PyData.strOk g=true) (ha:∀v∈as,zlo ns v) (hl:as.length<=10):RowFit (.call x g p as):=by
 refine⟨.inr (.inr ⟨x,g,p,as,rfl⟩),⟨λv hv=>?_,(λ_ _ _ _ z=>by cases z),⟨(λ_ _ _ z=>by cases z),(λ_ _ _ z=>by cases z)⟩,(λ_ _ _ _ z=>by cases z; exact⟨hg,hl⟩)⟩,λv hv=>?_⟩ <;> rcases (show v=.str x\/v∈as by simpa [RG.parts,RG.gx,RG.as] using hv) with rfl|hv
 . exact .inl ⟨x,rfl,nm x hx⟩
 . exact zms (ha v hv) nm
 . exact .inr ⟨x,rfl⟩
 . exact zne (ha v hv)
theorem z03 {H:Hp} {ns:List Str} (nm:∀s∈ns,K12.Nm s) {nk:Str} {fo:V} {fa qC tr bk:Addr} {prs:List Str} {ps:List (Addr×RG)} {a:V} (h1:SqT K H fa [.str nk,fo,.ref qC,.ref tr]) (h2:SqT K H tr (((ps++[(bk,RG.back a)]).map (·.1)).map V.ref)) (h3:∀p∈ps,RGAt K H p.1 p.2/\RowFit p.2) (hb:H bk=some (.tup [.str "back",a])) (ha:zlo ns a) (h4:SqT K H qC (prs.map V.str)) (h5:∀s∈prs,K12.Nm s) (h6:prs.length<=6) (h7:ps.length<=70) (sn:PyData.strOk nk=true):Fg K H (gfn nk fo fa qC tr prs ((ps++[(bk,RG.back a)]).map (·.1)) (ps.map (·.2)++[RG.back a])) (ps.map (·.2)++[RG.back a]):=by
 have bko:(RG.back a).Ok:=⟨λv hv=>by rw[show v=a by simpa [RG.parts,RG.gx,RG.as] using hv]; exact zms ha nm,(λ_ _ _ _ z=>by cases z),⟨(λ_ _ _ z=>by cases z),(λ_ _ _ z=>by cases z)⟩,(λ_ _ _ _ z=>by cases z)⟩
 have el:ps.map (·.2)++[RG.back a]=(ps++[(bk,RG.back a)]).map (·.2):=by rw[List.map_append]; rfl
 refine z6d (by simp) h1 h2 (λi r rg q1 q2=>?_) h4 h5 h6 (by rw[List.length_map]; exact h7) (λrg hr=>?_) (λrg hr=>?_) (λrg hr v hv=>?_) (by rw[List.length_map]; omega) sn
 . rw[el] at q2;rw[List.getElem?_map] at q1 q2;cases e:(ps++[(bk,RG.back a)])[i]? with
   | none=>rw[e] at q1; cases q1
   | some p =>
     rw[e] at q1 q2;cases q1;cases q2;rcases List.mem_append.mp (List.mem_of_getElem? e) with h|h
     . exact(h3 p h).1
     . rw[List.mem_singleton.mp h];exact⟨SqT.of hb,λ_ _ _ _ z=>by cases z⟩
 . obtain⟨p,hp,rfl⟩:=List.mem_map.mp hr;exact(h3 p hp).2.kd
 . rcases List.mem_append.mp hr with h|h
   . obtain⟨p,hp,rfl⟩:=List.mem_map.mp h;exact(h3 p hp).2.ok
   . rw[List.mem_singleton.mp h]; exact bko
 . rcases List.mem_append.mp hr with h|h
   . obtain⟨p,hp,rfl⟩:=List.mem_map.mp h;exact(h3 p hp).2.vl v hv
   . rw[List.mem_singleton.mp h] at hv;rw[show v=a by simpa [RG.parts,RG.gx,RG.as] using hv];exact zne ha
theorem z45 (xs:List V) {z:Int} (h0:0<=z) (h1:z<=xs.length):zkp xs none (some z)=xs.take z.toNat:=by
 unfold zkp;have e:HT.sIx xs.length xs.length (some z)=z.toNat:=by
   obtain⟨k,rfl⟩:∃k:Nat,z=(k:Int):=⟨z.toNat,by omega⟩
   rw[HT.sIx_nat];omega
 rw[e];show(xs.drop 0).take (z.toNat - 0)=_;simp
theorem zyw (xs:List V) {z:Int} (h0:0<=z) (h1:z<=xs.length):zkp xs (some z) none=xs.drop z.toNat:=by
 unfold zkp;have e:HT.sIx xs.length 0 (some z)=z.toNat:=by
   obtain⟨k,rfl⟩:∃k:Nat,z=(k:Int):=⟨z.toNat,by omega⟩
   rw[HT.sIx_nat];omega
 rw[e];show(xs.drop z.toNat).take (xs.length - z.toNat)=_;exact qbb (by rw[qbj]; omega)
structure Prg (K:W.Frag) (H:Hp) (pl:Addr) (F0 F1:F2.Fd) (r0 r1:List RG) (ns:List Str):Prop where
 e:H pl=some (.lst [V.ref F0.fa,V.ref F1.fa])
 f0:Fg K H F0 r0
 f1:Fg K H F1 r1
 n0:ns[5]?=some F0.name
 n1:ns[6]?=some F1.name
 p0:F0.ps.length=2
 p1:F1.ps.length=1
 c0:∀rg∈r0++r1,∀x g p as,rg=.call x g p as->g=F0.name/\as.length=2
 sg:∀rg∈r0++r1,∀x s a b,rg=.op x s a b->s∈sg3
 l0:0<r0.length/\0<r1.length
def zpt (K:W.Frag):Sp:=λvs H Q _=>∃(a nl:Addr) (sc:List Int) (ns:List Str),vs=[.ref a,.ref nl]/\SqL K H a (sc.map V.int)/\sc.length<=63/\SqL K H nl (ns.map V.str)/\ns.length=7/\NmsOk ns/\∀pl H' F0 F1 r0 r1,H pl=none->zan H H'->Prg K H' pl F0 F1 r0 r1 ns->Q (.ref pl) H'
def zus (K:W.Frag):Sp:=λvs H Q _=>∃(r:Addr) (rg:RG),vs=[.ref r]/\RGAt K H r rg/\((∃x a,rg=.copy x a)\/(∃x s a b,rg=.op x s a b)\/(∃x g p as,rg=.call x g p as/\as.length<=10)\/∃a,rg=.back a)/\∀l H',H l=none->zan H H'->H' l=some (.lst rg.parts)->Q (.ref l) H'
structure Alk (F:F2.Fd) (k1 k2:List (Key×V)):Prop where
 v:∀n∈F2.nms F,∃i,Val i/\zcx k1 (Sum.inr n:Key)=some (.int i)/\zcx k2 (Sum.inr n:Key)=some (.int i)
 k:∀kv∈k2,∃n,kv.1=(Sum.inr n:Key)/\n∈F2.nms F
 l:k1.length<=2000/\k2.length<=2000
def zk5 (d:List (Key×V)) (v:V):List (Key×V):=match v with
 | .str s=>zbd d (Sum.inr s:Key) (.int 0)
 | _=>d
def z24 (rgs:List RG) (ps:List Str) (vals:List V):List (Key×V):=(ps.zip vals).foldl (λd p=>zbd d (Sum.inr p.1:Key) p.2) (rgs.foldl (λd rg=>(RG.parts rg).foldl zk5 d) [])
theorem zyu (d:List (Key×V)) (v:V):(zk5 d v).length<=d.length+1:=by
 unfold zk5;split
 . exact zbi _ _ _
 . omega
theorem znc:∀(vs:List V) (d:List (Key×V)),(vs.foldl zk5 d).length<=d.length+vs.length
 | [],d=>by simp
 | v :: vs,d=>by rw[qa7,qa0];have h1:=znc vs (zk5 d v);have h2:=zyu d v;omega
theorem zmd:∀(rgs:List RG) (d:List (Key×V)),(∀rg∈rgs,rg.Ok)->(rgs.foldl (λd rg=>(RG.parts rg).foldl zk5 d) d).length<=d.length+11 * rgs.length
 | [],d,_=>by simp
 | rg :: rgs,d,ok=>by rw[qa7,qa0];have h1:=zmd rgs ((RG.parts rg).foldl zk5 d) λr hr=>ok r (List.mem_cons_of_mem _ hr);have h2:=znc (RG.parts rg) d;have h3:=zld (ok rg List.mem_cons_self);omega
theorem zps {F:F2.Fd} (P:Str->Prop) (hP:∀n,P n->n∈F2.nms F):∀(vs:List V) (d:List (Key×V)),(∀s,V.str s∈vs->P s)->(∀kv∈d,∃n,kv=((Sum.inr n:Key),V.int 0)/\P n/\zcx d (Sum.inr n:Key)=some (.int 0))->(∀kv∈vs.foldl zk5 d,∃n,kv=((Sum.inr n:Key),V.int 0)/\P n/\zcx (vs.foldl zk5 d) (Sum.inr n:Key)=some (.int 0))/\∀n,(V.str n∈vs\/zcx d (Sum.inr n:Key)=some (.int 0))->zcx (vs.foldl zk5 d) (Sum.inr n:Key)=some (.int 0)
 | [],d,_,h2=>⟨h2,λn h=>h.elim (λz=>by cases z) id⟩
 | v :: vs,d,h1,h2=>by
   rw[qa7];have step:(∀kv∈zk5 d v,∃n,kv=((Sum.inr n:Key),V.int 0)/\P n/\zcx (zk5 d v) (Sum.inr n:Key)=some (.int 0))/\∀n,(V.str n=v\/zcx d (Sum.inr n:Key)=some (.int 0))->zcx (zk5 d v) (Sum.inr n:Key)=some (.int 0):=by
     cases v with
     | str s =>
       show(∀kv∈zbd d (Sum.inr s:Key) (.int 0),∃n,kv=((Sum.inr n:Key),V.int 0)/\P n/\zcx (zbd d (Sum.inr s:Key) (.int 0)) (Sum.inr n:Key)=some (.int 0))/\∀n,(V.str n=.str s\/zcx d (Sum.inr n:Key)=some (.int 0))->zcx (zbd d (Sum.inr s:Key) (.int 0)) (Sum.inr n:Key)=some (.int 0);refine⟨λkv hkv=>?_,λn hn=>?_⟩
       . rcases zsh hkv with rfl|⟨h,hk⟩
         . exact⟨s,rfl,h1 s (by simp),by rw[zda,if_pos rfl]⟩
         . obtain⟨n,rfl,h3,h4⟩:=h2 kv h;exact⟨n,rfl,h3,by rw[zda,if_neg hk]; exact h4⟩
       . rw[zda];by_cases z:(Sum.inr n:Key)=Sum.inr s
         . rw[if_pos z]
         . rw[if_neg z];rcases hn with hn|hn
           . cases hn; exact absurd rfl z
           . exact hn
     | _=>exact⟨h2,λn hn=>hn.elim (λz=>by cases z) id⟩
   have:=zps P hP vs (zk5 d v) (λs hs=>h1 s (List.mem_cons_of_mem _ hs)) step.1;refine⟨this.1,λn hn=>this.2 n ?_⟩;rcases hn with hn|hn
   . rcases List.mem_cons.mp hn with hn|hn
     . exact .inr (step.2 n (.inl hn))
     . exact .inl hn
   . exact .inr (step.2 n (.inr hn))
theorem zq6 {F:F2.Fd} (P:Str->Prop) (hP:∀n,P n->n∈F2.nms F):∀(rvs:List RG) (d:List (Key×V)),(∀rv∈rvs,∀s,V.str s∈RG.parts rv->P s)->(∀kv∈d,∃n,kv=((Sum.inr n:Key),V.int 0)/\P n/\zcx d (Sum.inr n:Key)=some (.int 0))->(∀kv∈rvs.foldl (λd rv=>(RG.parts rv).foldl zk5 d) d,∃n,kv=((Sum.inr n:Key),V.int 0)/\P n/\zcx (rvs.foldl (λd rv=>(RG.parts rv).foldl zk5 d) d) (Sum.inr n:Key)=some (.int 0))/\∀n,((∃rv∈rvs,V.str n∈RG.parts rv)\/zcx d (Sum.inr n:Key)=some (.int 0))->zcx (rvs.foldl (λd rv=>(RG.parts rv).foldl zk5 d) d) (Sum.inr n:Key)=some (.int 0)
 | [],d,_,h2=>⟨h2,λn h=>h.elim (λ⟨_,z,_⟩=>by cases z) id⟩
 | rv :: rvs,d,h1,h2=>by
   rw[qa7];have s:=zps P hP (RG.parts rv) d (h1 rv List.mem_cons_self) h2;have:=zq6 P hP rvs _ (λr hr=>h1 r (List.mem_cons_of_mem _ hr)) s.1;refine⟨this.1,λn hn=>this.2 n ?_⟩;rcases hn with⟨r,hr,hn⟩|hn
   . rcases List.mem_cons.mp hr with rfl|hr
     . exact .inr (s.2 n (.inl hn))
     . exact .inl ⟨r,hr,hn⟩
   . exact .inr (s.2 n (.inr hn))
theorem zox {ps:List Str} {vals:List V} {p:Str×V} (h:p∈ps.zip vals):p.1∈ps/\p.2∈vals:=by obtain⟨a,b⟩:=p;exact⟨(qcv h).1,(qcv h).2⟩
theorem zih (n:Str):∀(l:List (Str×V)) (d:List (Key×V)),zcx (l.foldl (λd p=>zbd d (Sum.inr p.1:Key) p.2) d) (Sum.inr n:Key)=l.foldl (λacc p=>if n=p.1 then some p.2 else acc) (zcx d (Sum.inr n:Key))
 | [],d=>rfl
 | p :: l,d=>by
   rw[qa7,qa7,zih n l,zda];congr 1;by_cases z:n=p.1
   . rw[if_pos z,if_pos (by rw[z])]
   . rw[if_neg z,if_neg (by intro y; exact z (Sum.inr.inj y))]
theorem zm2 (P:V->Prop) (n:Str):∀(l:List (Str×V)) (o:V),P o->(∀p∈l,P p.2)->∃v,P v/\l.foldl (λacc p=>if n=p.1 then some p.2 else acc) (some o)=some v
 | [],o,ho,_=>⟨o,ho,rfl⟩
 | p :: l,o,ho,h=>by
   rw[qa7];by_cases z:n=p.1
   . rw[if_pos z];exact zm2 P n l p.2 (h p List.mem_cons_self) λq hq=>h q (List.mem_cons_of_mem _ hq)
   . rw[if_neg z];exact zm2 P n l o ho λq hq=>h q (List.mem_cons_of_mem _ hq)
theorem zs8 (P:V->Prop) (n:Str):∀(l:List (Str×V)),(∃p∈l,p.1=n)->∀(o1 o2:Option V),(∀p∈l,P p.2)->∃v,P v/\l.foldl (λacc p=>if n=p.1 then some p.2 else acc) o1=some v/\l.foldl (λacc p=>if n=p.1 then some p.2 else acc) o2=some v
 | [],h,_,_,_=>by obtain⟨_,h,_⟩:=h; cases h
 | p :: l,h,o1,o2,hP=>by
   rw[qa7,qa7];by_cases hl:∃q∈l,q.1=n
   . exact zs8 P n l hl _ _ λq hq=>hP q (List.mem_cons_of_mem _ hq)
   . have hp:p.1=n:=by
       obtain⟨q,hq,e⟩:=h;rcases List.mem_cons.mp hq with rfl|hq
       . exact e
       . exact absurd ⟨q,hq,e⟩ hl
     rw[if_pos hp.symm,if_pos hp.symm];have no:∀(l:List (Str×V)),(¬ ∃q∈l,q.1=n)->∀o:Option V,l.foldl (λacc p=>if n=p.1 then some p.2 else acc) o=o:=by
       intro l
       induction l with
       | nil=>intro _ o; rfl
       | cons q r ih =>
         intro hh o;rw[qa7,if_neg (λz=>hh ⟨q,List.mem_cons_self,z.symm⟩)];exact ih (λ⟨x,hx,e⟩=>hh ⟨x,List.mem_cons_of_mem _ hx,e⟩) o
     exact⟨p.2,hP p List.mem_cons_self,no l hl _,no l hl _⟩
theorem z2m {ps:List Str} {vals:List V} {n:Str} (h:n∈ps) (hl:ps.length=vals.length):∃p∈ps.zip vals,p.1=n:=by
 obtain⟨i,hi⟩:=qaw h;have hv:i<vals.length:=by rw[<- hl]; exact(List.getElem?_eq_some_iff.mp hi).1
 exact⟨(n,vals[i]),List.mem_of_getElem? (qb7.mpr ⟨hi,List.getElem?_eq_getElem hv⟩),rfl⟩
theorem zqy (P:Str->Prop):∀(l:List (Str×V)) (d:List (Key×V)),(∀p∈l,P p.1)->(∀kv∈d,∃n,kv.1=(Sum.inr n:Key)/\P n)->∀kv∈l.foldl (λd p=>zbd d (Sum.inr p.1:Key) p.2) d,∃n,kv.1=(Sum.inr n:Key)/\P n
 | [],d,_,h=>h
 | p :: l,d,hl,h=>by
   rw[qa7];refine zqy P l _ (λq hq=>hl q (List.mem_cons_of_mem _ hq)) (λkv hkv=>?_);rcases zsh hkv with rfl|⟨h1,_⟩
   . exact⟨p.1,rfl,hl p List.mem_cons_self⟩
   . exact h kv h1
theorem zqe {H:Hp} {F:F2.Fd} {rgs:List RG} {vals:List V} (hF:Fg K H F rgs) (hv:∀v∈vals,∃i,v=.int i/\Val i) (hlen:F.ps.length=vals.length):Alk F (zj3 F vals) (z24 rgs F.ps vals):=by
 have hin:∀rg∈rgs,∀s,V.str s∈RG.parts rg->s∈zua rgs:=λrg hrg s hs=>by unfold zua;rw[qdu];exact⟨rg,hrg,z50.mpr hs⟩
 have z:=zq6 (F:=F) (λs=>s∈zua rgs) (λn hn=>(hF.nm n).mpr (.inr hn)) rgs [] hin (λkv h=>by cases h);have base:∀n,n∈F2.nms F->zcx (((F2.nms F).map λn=>((Sum.inr n:Key),V.int 0)).foldl (λacc kv=>zbd acc kv.1 kv.2) []) (Sum.inr n:Key)=some (.int 0):=λn hn=>ztt _ _ (.inl hn);have hz:Val 0:=by unfold Val K21.wide; decide
 refine⟨λn hn=>?_,?_,?_,?_⟩
 . have b1:=base n hn;by_cases hg:n∈zua rgs
   . have b2:zcx (rgs.foldl (λd rg=>(RG.parts rg).foldl zk5 d) []) (Sum.inr n:Key)=some (.int 0):=z.2 n (.inl (by unfold zua at hg;rw[qdu] at hg;obtain⟨rg,h1,h2⟩:=hg;exact⟨rg,h1,z50.mp h2⟩))
     obtain⟨v,⟨i,rfl,hi⟩,e⟩:=zm2 (λv=>∃i,v=V.int i/\Val i) n (F.ps.zip vals) (.int 0) ⟨0,rfl,hz⟩ (λp hp=>hv p.2 (zox hp).2);refine⟨i,hi,?_,?_⟩
     . unfold zj3;rw[zih,b1];exact e
     . unfold z24;rw[zih,b2];exact e
   . have hp:n∈F.ps:=((hF.nm n).mp hn).resolve_right hg;obtain⟨v,⟨i,rfl,hi⟩,e1,e2⟩:=zs8 (λv=>∃i,v=V.int i/\Val i) n (F.ps.zip vals) (z2m hp hlen) (some (.int 0)) (zcx (rgs.foldl (λd rg=>(RG.parts rg).foldl zk5 d) []) (Sum.inr n:Key)) (λp hp=>hv p.2 (zox hp).2);refine⟨i,hi,?_,?_⟩
     . unfold zj3;rw[zih,b1];exact e1
     . unfold z24;rw[zih];exact e2
 . unfold z24;refine zqy (λn=>n∈F2.nms F) _ _ (λp hp=>(hF.nm _).mpr (.inl (zox hp).1)) (λkv hkv=>?_);obtain⟨n,e,h1,_⟩:=z.1 kv hkv;exact⟨n,by rw[e],(hF.nm n).mpr (.inr h1)⟩
 . unfold zj3;refine Nat.le_trans (zfz (λp:Str×V=>((Sum.inr p.1:Key),p.2)) _ _) ?_;have l1:(((F2.nms F).map λn=>((Sum.inr n:Key),V.int 0)).foldl (λacc kv=>zbd acc kv.1 kv.2) []).length<=([]:List (Key×V)).length+((F2.nms F).map λn=>((Sum.inr n:Key),V.int 0)).length:=zfz (λkv:Key×V=>kv) ((F2.nms F).map λn=>((Sum.inr n:Key),V.int 0)) [];refine Nat.le_trans (Nat.add_le_add_right l1 _) ?_;have l2:=hF.nl;have l3:=hF.pl;rw[List.length_map,qcf];show 0+(F2.nms F).length+_<=2000;omega
 . unfold z24;refine Nat.le_trans (zfz (λp:Str×V=>((Sum.inr p.1:Key),p.2)) _ _) ?_;have l1:=zmd rgs [] hF.ok;have l2:=hF.small;have l3:=hF.pl;simp only[qbi] at l1;rw[qcf];omega
def zuz (K:W.Frag):Sp:=λvs H Q _=>∃(F:F2.Fd) (rgs:List RG) (ar:Addr) (vals:List V),vs=[.ref F.fa,.ref ar]/\Fg K H F rgs/\SqL K H ar vals/\F.ps.length=vals.length/\(∀v∈vals,∃i,v=.int i/\Val i)/\∀l d H' kvs,H l=none->H d=none->l≠d->zan H H'->H' l=some (.lst [V.ref F.fa,V.int 0,V.ref d])->H' d=some (.dK kvs)->Alk F (zj3 F vals) kvs->Q (.ref l) H'
structure Lf where
 (l d:Addr)
 F:F2.Fd
 at_:Nat
 kvs:List (Key×V)
structure Stk (H:Hp) (sk:Addr) (ls:List Lf):Prop where
 e:H sk=some (.lst (ls.map λx=>V.ref x.l))
 fr:∀x∈ls,H x.l=some (.lst [V.ref x.F.fa,V.int x.at_,V.ref x.d])/\H x.d=some (.dK x.kvs)
 nl:(ls.map (·.l)).Nodup
 nd:(ls.map (·.d)).Nodup
 ns:∀x∈ls,x.l≠sk
def adL (sk:Addr) (ls:List Lf):List Addr:=sk :: (ls.map (·.l)++ls.map (·.d))
def erO (l:List Addr) (H:Hp):Hp:=λb=>if b∈l then none else H b
theorem z0j {l:List Addr} {H:Hp} {b:Addr} (h:b ∉ l):erO l H b=H b:=by unfold erO; rw[if_neg h]
theorem z3u {l:List Addr} {H:Hp} {b:Addr} (h:b∈l):erO l H b=none:=by unfold erO; rw[if_pos h]
theorem ziy {l:List Addr} {H:Hp}:zan (erO l H) H:=λb o hb=>by
 unfold erO at hb;split at hb
 . cases hb
 . exact hb
theorem Stk.mono {H H':Hp} {sk:Addr} {ls:List Lf} (h:Stk H sk ls) (e:zan H H'):Stk H' sk ls:=⟨e _ _ h.e,λx hx=>⟨e _ _ (h.fr x hx).1,e _ _ (h.fr x hx).2⟩,h.nl,h.nd,h.ns⟩
theorem Stk.all {H:Hp} {sk:Addr} {ls:List Lf} (h:Stk H sk ls) {b:Addr} (hb:b∈adL sk ls):∃o,H b=some o:=by
 rcases List.mem_cons.mp hb with rfl|hb
 . exact⟨_,h.e⟩
 . rcases List.mem_append.mp hb with hb|hb
   . obtain⟨x,hx,rfl⟩:=List.mem_map.mp hb; exact⟨_,(h.fr x hx).1⟩
   . obtain⟨x,hx,rfl⟩:=List.mem_map.mp hb; exact⟨_,(h.fr x hx).2⟩
theorem z2q {sk:Addr} {ls0:List Lf} {x:Lf}:sk∈adL sk (ls0++[x])/\x.l∈adL sk (ls0++[x])/\x.d∈adL sk (ls0++[x]) :=
 ⟨List.mem_cons_self,List.mem_cons_of_mem _ (qa8 _ (List.mem_map.mpr ⟨x,by simp,rfl⟩)),List.mem_cons_of_mem _ (List.mem_append_right _ (List.mem_map.mpr ⟨x,by simp,rfl⟩))⟩
theorem zmg {sk:Addr} {ls:List Lf} {x:Lf} (h:x∈ls):x.l∈adL sk ls/\x.d∈adL sk ls :=
 ⟨List.mem_cons_of_mem _ (qa8 _ (List.mem_map.mpr ⟨x,h,rfl⟩)),List.mem_cons_of_mem _ (List.mem_append_right _ (List.mem_map.mpr ⟨x,h,rfl⟩))⟩
theorem Stk.push {H H':Hp} {sk:Addr} {ls:List Lf} {x:Lf} (st:Stk H sk ls) (s:zan H H') (hl:H x.l=none) (hd:H x.d=none) (e1:H' x.l=some (.lst [V.ref x.F.fa,V.int x.at_,V.ref x.d])) (e2:H' x.d=some (.dK x.kvs)):Stk (upd H' sk (.lst ((ls++[x]).map λx=>V.ref x.l))) sk (ls++[x]):=by
 have st':=st.mono s;have n1:x.l≠sk:=λz=>by rw[z,st.e] at hl; cases hl
 have n2:x.d≠sk:=λz=>by rw[z,st.e] at hd; cases hd
 have n3:∀y∈ls,y.d≠sk:=λy hy z=>by have:=(st.fr y hy).2; rw[z,st.e] at this; cases this
 refine⟨zac,λy hy=>?_,?_,?_,λy hy=>?_⟩
 . rcases List.mem_append.mp hy with h|h
   . exact⟨by rw[zag (st.ns y h)]; exact(st'.fr y h).1,by rw[zag (n3 y h)]; exact(st'.fr y h).2⟩
   . rw[List.mem_singleton.mp h];exact⟨by rw[zag n1]; exact e1,by rw[zag n2]; exact e2⟩
 . rw[List.map_append,qbp];refine⟨st.nl,(by simp),λa ha b hb z=>?_⟩;obtain⟨y,hy,rfl⟩:=List.mem_map.mp ha;rw[List.mem_singleton.mp hb] at z;have:=(st.fr y hy).1;rw[z,hl] at this;cases this
 . rw[List.map_append,qbp];refine⟨st.nd,(by simp),λa ha b hb z=>?_⟩;obtain⟨y,hy,rfl⟩:=List.mem_map.mp ha;rw[List.mem_singleton.mp hb] at z;have:=(st.fr y hy).2;rw[z,hd] at this;cases this
 . rcases List.mem_append.mp hy with h|h
   . exact st.ns y h
   . rw[List.mem_singleton.mp h]; exact n1
theorem Stk.pop {H:Hp} {sk:Addr} {ls:List Lf} {x:Lf} (st:Stk H sk (ls++[x])):Stk (upd H sk (.lst (ls.map λx=>V.ref x.l))) sk ls:=by
 have sub:∀y∈ls,y∈ls++[x]:=λy hy=>qa8 _ hy;refine⟨zac,λy hy=>⟨by rw[zag (st.ns y (sub y hy))]; exact(st.fr y (sub y hy)).1,?_⟩,?_,?_,λy hy=>st.ns y (sub y hy)⟩
 . rw[zag (λz=>by have:=(st.fr y (sub y hy)).2; rw[z,st.e] at this; cases this)];exact(st.fr y (sub y hy)).2
 . have:=st.nl; rw[List.map_append] at this; exact(qbp.mp this).1
 . have:=st.nd; rw[List.map_append] at this; exact(qbp.mp this).1
theorem Stk.set {H:Hp} {sk:Addr} {ls:List Lf} {x:Lf} {i:Nat} {kvs:List (Key×V)} {n:Nat} (st:Stk H sk ls) (hx:ls[i]?=some x):Stk (upd (upd H x.d (.dK kvs)) x.l (.lst [V.ref x.F.fa,V.int n,V.ref x.d])) sk (ls.set i { x with kvs:=kvs,at_:=n }):=by
 have hxm:=List.mem_of_getElem? hx;have fx:=st.fr x hxm;have dl:x.d≠x.l:=λz=>by have:=fx.2; rw[z,fx.1] at this; cases this
 have sl:sk≠x.l:=(st.ns x hxm).symm;have sd:sk≠x.d:=λz=>by have:=fx.2; rw[<- z,st.e] at this; cases this
 have ap:∀(j:Nat) y,ls[j]?=some y->j≠i->y.l≠x.l/\y.d≠x.d:=λj y hy hj=>by
   refine⟨λz=>hj ?_,λz=>hj ?_⟩
   . have h1:(ls.map (·.l))[j]?=some x.l:=by rw[List.getElem?_map,hy]; exact congrArg some z
     have h2:(ls.map (·.l))[i]?=some x.l:=by rw[List.getElem?_map,hx]; rfl
     exact(qb9 (List.getElem?_eq_some_iff.mp h1).1 st.nl).mp (h1.trans h2.symm)
   . have h1:(ls.map (·.d))[j]?=some x.d:=by rw[List.getElem?_map,hy]; exact congrArg some z
     have h2:(ls.map (·.d))[i]?=some x.d:=by rw[List.getElem?_map,hx]; rfl
     exact(qb9 (List.getElem?_eq_some_iff.mp h1).1 st.nd).mp (h1.trans h2.symm)
 have hil:i<ls.length:=(List.getElem?_eq_some_iff.mp hx).1;have fall:∀{P:Lf->Prop},(∀(j:Nat) y,ls[j]?=some y->j≠i->P y)->P { x with kvs:=kvs,at_:=n }->∀y∈ls.set i { x with kvs:=kvs,at_:=n },P y:=λh1 h2 y hy=>by
   obtain⟨j,hj⟩:=qaw hy;rw[qbv] at hj;by_cases hne:i=j
   . rw[if_pos hne,if_pos hil] at hj;cases hj; exact h2
   . rw[if_neg hne] at hj;exact h1 j y hj (λz=>hne z.symm)
 refine⟨?_,fall (λj y hy hj=>?_) ⟨zac,by show upd _ x.l _ x.d=_; rw[zag dl,zac]⟩,?_,?_,fall (λj y hy _=>st.ns y (List.mem_of_getElem? hy)) (st.ns x hxm)⟩
 . rw[zag sl,zag sd,st.e,zd0 (y:={ x with kvs:=kvs,at_:=n }) (λx:Lf=>V.ref x.l) hx rfl]
 . have fy:=st.fr y (List.mem_of_getElem? hy);obtain⟨q1,q2⟩:=ap j y hy hj;refine⟨?_,?_⟩
   . rw[zag q1,zag (λz=>by have:=fy.1; rw[z,fx.2] at this; cases this)];exact fy.1
   . rw[zag (λz=>by have:=fy.2; rw[z,fx.1] at this; cases this),zag q2];exact fy.2
 . rw[zd0 (y:={ x with kvs:=kvs,at_:=n }) (λx:Lf=>x.l) hx rfl]; exact st.nl
 . rw[zd0 (y:={ x with kvs:=kvs,at_:=n }) (λx:Lf=>x.d) hx rfl]; exact st.nd
theorem zwq {α:Type} (l:List α) (x y:α):(l++[x]).set l.length y=l++[y]:=by rw[List.set_append_right _ _ (qae _),Nat.sub_self];rfl
theorem zd7 {α:Type} (l:List α) (x:α):(l++[x])[l.length]?=some x:=by rw[qbn (qae _),Nat.sub_self]; rfl
theorem zla (ls:List Lf) (x:Lf):atI ((ls++[x]).map λx=>V.ref x.l) (-1)=some (.ref x.l):=by rw[List.map_append];exact ztw _ _
theorem zhp {l:List Addr} {H H':Hp} {b:Addr} {o:HO} (s:zan (erO l H) H') (h:b∈l):zan (erO l H) (upd H' b o):=s.upd (z3u h)
theorem zyn (l:List V) (y:V):zkp (l++[y]) (some (-1)) none=[y]:=by
 have h:HT.sIx (l++[y]).length 0 (some (-1))=l.length:=by show((-1:Int)+((l++[y]).length:Int)).toNat=_;rw[List.length_append,qa5];omega
 unfold zkp;rw[h,List.drop_left];show List.take ((l++[y]).length - l.length) [y]=[y];rw[List.length_append];exact qbb (by simp)
theorem zys:zkp [] (some (-1)) none=[]:=by decide
theorem zu7 {α:Type} {l:List α} {x:α}:x∈l++[x]:=List.mem_append_right _ (List.mem_singleton.mpr rfl)
theorem val3 {s:Str} {i j:Int} (hs:s∈sg3):zcx (zj9 [] [((Sum.inr "-":Key),V.int ((i - j)%(2:Int) ^ (48:Int).toNat)),((Sum.inr "<":Key),V.int (if decide (i<j)=true then 1 else 0)),((Sum.inr "&":Key),V.int (Builtin.bitAnd i j))]) (Sum.inr s:Key)=some (V.int (K21.valOf s i j)):=by
 simp only[sg3,List.mem_cons,qbk,or_false] at hs;rcases hs with rfl|rfl|rfl
 . have e:K21.valOf "-" i j=(i - j)%(2:Int) ^ (48:Int).toNat:=by
     have w2:K21.wide=(2:Int) ^ (48:Int).toNat:=by decide
     rw[<- w2];rfl
   rw[e];rfl
 . have e:K21.valOf "<" i j=if decide (i<j)=true then 1 else 0:=by have:K21.valOf "<" i j=if i<j then 1 else 0:=rfl;rw[this];simp only[decide_eq_true_eq]
   rw[e];rfl
 . rfl
theorem zpb {kvs:List (Key×V)} {k:Key} {v u:V} (h:zcx kvs k=some u):(zbd kvs k v).length=kvs.length:=by unfold zbd;rw[zgl,h,if_pos (by rfl),List.length_map]
theorem z4y {H:Hp} {b:Addr} {o:HO} (h:H b=some o):upd H b o=H:=by
 funext c;by_cases z:c=b
 . rw[z,zac,h]
 . rw[zag z]
theorem Alk.has {F:F2.Fd} {k1 k2:List (Key×V)} {n:Str} (a:Alk F k1 k2):(zcx k2 (Sum.inr n:Key)).isSome=true <-> n∈F2.nms F:=by
 constructor
 . intro h;rw[<- zgl,qcb] at h;obtain⟨kv,h1,h2⟩:=h;obtain⟨m,e1,e2⟩:=a.k kv h1;have:=of_decide_eq_true h2;rw[e1] at this;rw[<- Sum.inr.inj this];exact e2
 . intro h;obtain⟨i,_,_,e⟩:=a.v n h;rw[e];rfl
theorem Alk.put {F:F2.Fd} {k1 k2:List (Key×V)} {n:Str} {z:Int} (a:Alk F k1 k2) (hn:n∈F2.nms F) (hz:Val z):Alk F (zbd k1 (Sum.inr n:Key) (.int z)) (zbd k2 (Sum.inr n:Key) (.int z)):=by
 obtain⟨i,_,e1,e2⟩:=a.v n hn;refine⟨λm hm=>?_,λkv hkv=>?_,by rw[zpb e1,zpb e2]; exact a.l⟩
 . rw[zda,zda];by_cases h:(Sum.inr m:Key)=Sum.inr n
   . rw[if_pos h,if_pos h]; exact⟨z,hz,rfl,rfl⟩
   . rw[if_neg h,if_neg h]; exact a.v m hm
 . rcases zsh hkv with rfl|⟨h1,_⟩
   . exact⟨n,rfl,hn⟩
   . exact a.k kv h1
abbrev RFt:=F2.Fd->List RG->Prop
structure Sta (K:W.Frag) (t:Adr) (RF:RFt) (H0 Hb H:Hp) (w:Wr) (fs:List Fm) (fns:List F2.Fd) (sk:Addr) (ls:List Lf):Prop where
 wa:WA t Hb H w fs .non [] ⟨[],0⟩
 fl:F2.FlowsAt K t.zaz H0 w.fl fns
 s0:zan H0 Hb
 st:Stk Hb sk ls
 no:∀b∈adL sk ls,H0 b=none
 len:fs.length=ls.length
 few:fs.length<=100
 tw:∀(i:Nat) f x,fs[i]?=some f->ls[i]?=some x->f.fn=x.F.name/\f.row=x.at_/\x.F∈fns/\Alk x.F f.kvs x.kvs/\∃rgs,RF x.F rgs/\Fg K H0 x.F rgs/\x.at_<rgs.length/\(i+1<ls.length->∃y g p as,rgs[x.at_]?=some (.call y g p as))
theorem Sta.grow {RF:RFt} {H0 Hb H H':Hp} {w:Wr} {fs:List Fm} {fns:List F2.Fd} {sk:Addr} {ls:List Lf} (S:Sta K t RF H0 Hb H w fs fns sk ls) (e:zan H H'):Sta K t RF H0 (gr Hb H H') H' w fs fns sk ls :=
 ⟨S.wa.grow e,S.fl,S.s0.trans (zb5 S.wa.b),S.st.mono (zb5 S.wa.b),S.no,S.len,S.few,S.tw⟩
theorem Sta.hall {RF:RFt} {H0 Hb H:Hp} {w:Wr} {fs:List Fm} {fns:List F2.Fd} {sk:Addr} {ls:List Lf} (S:Sta K t RF H0 Hb H w fs fns sk ls):∀f∈fs,∃F∈fns,F.name=f.fn:=λf hf=>by
 obtain⟨i,hi⟩:=qaw hf;have hl:i<ls.length:=by rw[<- S.len]; exact(List.getElem?_eq_some_iff.mp hi).1
 obtain⟨h1,_,h3,_⟩:=S.tw i f _ hi (List.getElem?_eq_getElem hl);exact⟨_,h3,h1.symm⟩
def znd (K:W.Frag) (t:Adr):Sp:=λvs H Q _=>∃(RF:RFt) (H0 Hb:Hp) (w:Wr) (fs:List Fm) (fns:List F2.Fd) (sk:Addr) (ls:List Lf),vs=[.ref w.a,.ref sk]/\Sta K t RF H0 Hb H w fs fns sk ls/\∀H',zan H H'->Q (.bl true) H'
def zlq (K:W.Frag) (t:Adr):Sp:=λvs H Q _=>∃(Hb:Hp) (w:Wr) (fs:List Fm) (oc:V) (sent:List V) (cn:Cn) (z:Int) (n:Str) (v:V) (fns:List F2.Fd),vs=[.ref w.a,.int z,.str n,v]/\WA t Hb H w fs oc sent cn/\F2.FlowsAt K t.zaz Hb w.fl fns/\(∀f∈fs,∃F∈fns,F.name=f.fn)/\(∀f∈fs,f.kvs.length<1000000)/\¬ zqp fs fns z n/\∀H',zan H H'->Q (.bl true) H'
def z2o (ls ls':List Lf):Prop:=ls'.length=ls.length/\∀(i:Nat) x y,ls[i]?=some x->ls'[i]?=some y->y.l=x.l/\y.d=x.d/\y.F=x.F/\y.at_=x.at_
theorem zum (ls:List Lf):z2o ls ls:=⟨rfl,λi x y h1 h2=>by rw[h1] at h2; cases h2; exact⟨rfl,rfl,rfl,rfl⟩⟩
theorem zwu {ls:List Lf} {i:Nat} {x:Lf} {ks:List (Key×V)} (hx:ls[i]?=some x):z2o ls (ls.set i { x with kvs:=ks }):=by
 refine⟨by rw[qbh],λj u y h1 h2=>?_⟩;rw[qbv] at h2;by_cases h:i=j
 . subst h;rw[hx] at h1;cases h1;rw[if_pos rfl] at h2;split at h2
   . cases h2; exact⟨rfl,rfl,rfl,rfl⟩
   . cases h2
 . rw[if_neg h,h1] at h2;cases h2;exact⟨rfl,rfl,rfl,rfl⟩
theorem Sta.at {RF:RFt} {H0 Hb H:Hp} {w:Wr} {fs:List Fm} {fns:List F2.Fd} {sk:Addr} {ls:List Lf} (S:Sta K t RF H0 Hb H w fs fns sk ls) {i:Nat} (hi:i<ls.length):∃f x,fs[i]?=some f/\ls[i]?=some x:=by have:=S.len;exact⟨_,_,List.getElem?_eq_getElem (by omega),List.getElem?_eq_getElem hi⟩
theorem Sta.few2 {RF:RFt} {H0 Hb H:Hp} {w:Wr} {fs:List Fm} {fns:List F2.Fd} {sk:Addr} {ls:List Lf} (S:Sta K t RF H0 Hb H w fs fns sk ls):∀f∈fs,f.kvs.length<1000000:=λf hf=>by
 obtain⟨i,hi⟩:=qaw hf;have hl:i<ls.length:=by rw[<- S.len]; exact(List.getElem?_eq_some_iff.mp hi).1
 obtain⟨_,_,_,h4,_⟩:=S.tw i f _ hi (List.getElem?_eq_getElem hl);have:=h4.l.1;omega
theorem z0y {fns:List F2.Fd} (nd:(fns.map (·.name)).Nodup) {F G:F2.Fd} (h1:F∈fns) (h2:G∈fns) (e:F.name=G.name):F=G:=by
 obtain⟨i,hi⟩:=qaw h1;obtain⟨j,hj⟩:=qaw h2;have a1:(fns.map (·.name))[i]?=some G.name:=by rw[List.getElem?_map,hi]; exact congrArg some e
 have a2:(fns.map (·.name))[j]?=some G.name:=by rw[List.getElem?_map,hj]; rfl
 have:=(qb9 (List.getElem?_eq_some_iff.mp a1).1 nd).mp (a1.trans a2.symm);rw[this,hj] at hi;cases hi;rfl
theorem Sta.there {RF:RFt} {H0 Hb H:Hp} {w:Wr} {fs:List Fm} {fns:List F2.Fd} {sk:Addr} {ls:List Lf} (S:Sta K t RF H0 Hb H w fs fns sk ls) {i:Nat} {x:Lf} {n:Str} (hx:ls[i]?=some x):zqp fs fns (i:Int) n <-> n∈F2.nms x.F:=by
 have hi:i<ls.length:=(List.getElem?_eq_some_iff.mp hx).1;obtain⟨f,x',hf,hx'⟩:=S.at hi;rw[hx] at hx';cases hx';obtain⟨n1,_,n3,_⟩:=S.tw i f x hf hx;constructor
 . rintro ⟨j,f',F,e,hf',hF,hn,hm⟩;have:j=i:=by omega
   subst this;rw[hf] at hf';cases hf';rw[<- z0y S.fl.nd hF n3 (hn.trans n1)];exact hm
 . exact λh=>⟨i,f,x.F,rfl,hf,n3,n1.symm,h⟩
theorem Sta.put {RF:RFt} {H0 Hb H Hb1 H1:Hp} {w:Wr} {fs:List Fm} {fns:List F2.Fd} {sk:Addr} {ls:List Lf} (S:Sta K t RF H0 Hb H w fs fns sk ls) {i:Nat} {f:Fm} {x:Lf} {n:Str} {v:Int} (hf:fs[i]?=some f) (hx:ls[i]?=some x) (hn:n∈F2.nms x.F) (hv:Val v) (s1:zan Hb Hb1) (h1:WA t Hb1 H1 w (fs.set i { f with kvs:=zbd f.kvs (Sum.inr n:Key) (.int v) }) .non [] ⟨[],0⟩) :
   Sta K t RF H0 (upd Hb1 x.d (.dK (zbd x.kvs (Sum.inr n:Key) (.int v)))) (upd H1 x.d (.dK (zbd x.kvs (Sum.inr n:Key) (.int v)))) w (fs.set i { f with kvs:=zbd f.kvs (Sum.inr n:Key) (.int v) }) fns sk (ls.set i { x with kvs:=zbd x.kvs (Sum.inr n:Key) (.int v) }):=by
 have hxm:=List.mem_of_getElem? hx;have st1:=S.st.mono s1;have fx:=st1.fr x hxm;have st2:=st1.set (kvs:=zbd x.kvs (Sum.inr n:Key) (.int v)) (n:=x.at_) hx;have nl:x.l≠x.d:=λz=>by have:=fx.1; rw[z,fx.2] at this; cases this
 rw[z4y ((zag nl).trans fx.1)] at st2;have ead:adL sk (ls.set i { x with kvs:=zbd x.kvs (Sum.inr n:Key) (.int v) })=adL sk ls:=by unfold adL;rw[zd0 (y:={ x with kvs:=zbd x.kvs (Sum.inr n:Key) (.int v) }) (λx:Lf=>x.l) hx rfl,zd0 (y:={ x with kvs:=zbd x.kvs (Sum.inr n:Key) (.int v) }) (λx:Lf=>x.d) hx rfl]
 refine⟨h1.put fx.2,S.fl,(S.s0.trans s1).upd (S.no x.d (zmg hxm).2),st2,(by rw[ead]; exact S.no),by rw[qbh,qbh]; exact S.len,by rw[qbh]; exact S.few,λj g y hg hy=>?_⟩;rw[qbv] at hg hy;rw[qbh];by_cases h:i=j
 . subst h;obtain⟨m1,m2,m3,m4,m5⟩:=S.tw i f x hf hx;rw[if_pos rfl] at hg hy;split at hg
   . split at hy
     . cases hg;cases hy;exact⟨m1,m2,m3,m4.put hn hv,m5⟩
     . cases hy
   . cases hg
 . rw[if_neg h] at hg hy;exact S.tw j g y hg hy
def zrt (K:W.Frag) (t:Adr):Sp:=λvs H Q _=>∃(RF:RFt) (H0 Hb:Hp) (w:Wr) (fs:List Fm) (fns:List F2.Fd) (sk xl nl:Addr) (ls:List Lf) (xs:List Int) (ns:List Str),vs=[.ref w.a,.ref sk,.ref xl,.ref nl]/\Sta K t RF H0 Hb H w fs fns sk ls/\ls≠[]/\SqL K H xl (xs.map V.int)/\xs.length=4/\(∀x∈xs,0<=x)/\SqL K H nl (ns.map V.str)/\5<=ns.length/\ns.length<=100 /\
 ∀Hb' H' fs' ls',zan (erO (adL sk ls) Hb) Hb'->z2o ls ls'->Sta K t RF H0 Hb' H' w fs' fns sk ls'->Q (.bl true) H'
def z4u (K:W.Frag) (H:Hp) (sk:Addr) (ls0:List Lf) (x:Lf) (F0:F2.Fd) (Q:VK):RG->Prop
 | .copy y a=>∃v,av x.kvs a=some (.int v)/\∀H',zan (erO (adL sk (ls0++[x])) H) H'->Stk H' sk (ls0++[{ x with kvs:=zbd x.kvs (Sum.inr y:Key) (.int v),at_:=x.at_+1 }])->Q .non H'
 | .op y s a b=>∃i j,av x.kvs a=some (.int i)/\av x.kvs b=some (.int j)/\Val i/\Val j/\s∈sg3/\∀H',zan (erO (adL sk (ls0++[x])) H) H'->Stk H' sk (ls0++[{ x with kvs:=zbd x.kvs (Sum.inr y:Key) (.int (K21.valOf s i j)),at_:=x.at_+1 }])->Q .non H'
 | .call y g p as=>∃vals:List V,as.length=vals.length/\(∀(i:Nat) a v,as[i]?=some a->vals[i]?=some v->av x.kvs a=some v)/\(∀v∈vals,∃i,v=.int i/\Val i)/\as.length<=10/\F0.ps.length=vals.length/\∀H' x',zan (erO (adL sk (ls0++[x])) H) H'->x'.F=F0->x'.at_=0->Alk F0 (zj3 F0 vals) x'.kvs->H x'.l=none->H x'.d=none->Stk H' sk (ls0++[x]++[x'])->Q .non H'
 | .back a=>∃v,av x.kvs a=some (.int v)/\(ls0=[]->∀H',zan (erO (adL sk (ls0++[x])) H) H'->Stk H' sk []->Q .non H')/\∀ls1 y,ls0=ls1++[y]->y.kvs.length<100000/\∃rgs z g p as,Fg K H y.F rgs/\rgs[y.at_]?=some (.call z g p as)/\∀H',zan (erO (adL sk (ls0++[x])) H) H'->Stk H' sk (ls1++[{ y with kvs:=zbd y.kvs (Sum.inr z:Key) (.int v),at_:=y.at_+1 }])->Q .non H'
 | _=>False
def zur (K:W.Frag):Sp:=λvs H Q _=>∃(sk pl:Addr) (ls0:List Lf) (x:Lf) (rgs r0:List RG) (rg:RG) (F0 F1:F2.Fd),vs=[.ref sk,.ref pl]/\Stk H sk (ls0++[x])/\SqL K H pl [V.ref F0.fa,V.ref F1.fa]/\Fg K H x.F rgs/\Fg K H F0 r0/\rgs[x.at_]?=some rg/\x.kvs.length<100000/\ls0.length<=1000/\z4u K H sk ls0 x F0 Q rg
theorem zpw {kvs:List (Key×V)} {cn:Cn} {y s:Str} {a b:V} {i j:Int} (ha:av kvs a=some (.int i)) (hb:av kvs b=some (.int j)) (h:0<=i/\0<=j/\i<K21.wide/\j<K21.wide):(RG.op y s a b).gives kvs cn=some (y,.int (K21.valOf s i j)):=by dsimp only[RG.gives];rw[ha,hb];exact if_pos h
def dv (x:Int) (j i:Nat):Int:=x+i+(if 2 * i<j then 1 else 0)
structure Dp (F:F2.Fd) (n0:Str) (x:Int) (j:Nat) (fs:List Fm):Prop where
 len:fs.length=j / 2+1
 at_:∀(i:Nat) f,fs[i]?=some f->f.fn=F.name/\f.row=(if 2 * i<j then 1 else 0)/\zcx f.kvs (Sum.inr n0:Key)=some (.int (dv x j i))/\f.kvs.length<=2000
theorem Dp.op {F:F2.Fd} {n0:Str} {x:Int} {j:Nat} {fs:List Fm} {f:Fm} (h:Dp F n0 x j (fs++[f])) (he:j%2=0):Dp F n0 x (j+1) (fs++[{ f with kvs:=zbd f.kvs (Sum.inr n0:Key) (.int (x+(j / 2:Nat)+1)),row:=1 }]):=by
 have hl:fs.length=j / 2:=by have:=h.len; rw[List.length_append,qa5] at this; omega
 refine⟨by rw[List.length_append,qa5]; omega,λi g hg=>?_⟩;rcases qa4 i fs.length with hi|hi
 . rw[qa3 hi] at hg;obtain⟨a1,a2,a3,a4⟩:=h.at_ i g (by rw[qa3 hi]; exact hg);unfold dv at *;rw[if_pos (by omega)] at a2 a3;rw[if_pos (by omega),if_pos (by omega)];exact⟨a1,a2,a3,a4⟩
 . have hi2:i=fs.length:=by have:=(List.getElem?_eq_some_iff.mp hg).1;rw[List.length_append,qa5] at this;omega
   subst hi2;rw[zd7] at hg;cases hg;obtain⟨a1,a2,a3,a4⟩:=h.at_ _ f (zd7 _ _);unfold dv;rw[if_pos (by omega),if_pos (by omega)];exact⟨a1,rfl,by rw[zda,if_pos rfl,hl],by rw[zpb a3]; exact a4⟩
theorem Dp.call {F:F2.Fd} {n0:Str} {x:Int} {j:Nat} {fs:List Fm} {f:Fm} (h:Dp F n0 x j fs) (ho:j%2=1) (e1:f.fn=F.name) (e2:f.row=0) (e3:zcx f.kvs (Sum.inr n0:Key)=some (.int (x+(j / 2:Nat)+1))) (e4:f.kvs.length<=2000):Dp F n0 x (j+1) (fs++[f]):=by
 have hl:=h.len;refine⟨by rw[List.length_append,qa5]; omega,λi g hg=>?_⟩;rcases qa4 i fs.length with hi|hi
 . rw[qa3 hi] at hg;obtain⟨a1,a2,a3,a4⟩:=h.at_ i g hg;unfold dv at *;rw[if_pos (by omega)] at a2 a3;rw[if_pos (by omega),if_pos (by omega)];exact⟨a1,a2,a3,a4⟩
 . have hi2:i=fs.length:=by have:=(List.getElem?_eq_some_iff.mp hg).1;rw[List.length_append,qa5] at this;omega
   subst hi2;rw[zd7] at hg;cases hg;unfold dv;rw[if_neg (by omega),if_neg (by omega),e3];exact⟨e1,e2,by rw[show x+(j / 2:Nat)+1=x+(fs.length:Int)+0 by omega],e4⟩
theorem zv4 {x:Int} (h0:0<=x) (h1:x<3000000000):K21.valOf "+" x 1=x+1:=by have e:K21.valOf "+" x 1=(x+1)%K21.wide:=rfl;rw[e];have:K21.wide=281474976710656:=rfl;rw[this];omega
def rb (A:List Addr) (Hb H H1:Hp):Hp:=λb=>if b∈A then H1 b else gr Hb H H1 b
theorem z1p {A:List Addr} {Hb H H1:Hp} {b:Addr} (h:b∈A\/H b=none):rb A Hb H H1 b=H1 b:=by
 unfold rb gr;by_cases z:b∈A
 . rw[if_pos z]
 . rw[if_neg z,h.resolve_left z]
theorem z3k {cW cF:Addr} {Hb H H1:Hp} {w:Wr} {fs:List Fm} {oc:V} {sent:List V} {co:HO} {rc:Int} {A:List Addr} (h:WAt cW cF Hb H w fs oc sent co rc) (hA:∀b∈A,∃o,Hb b=some o) (s:zan (erO A H) H1):WAt cW cF (K26.rb A Hb H H1) H1 w fs oc sent co rc:=by
 have nA:∀{b:Addr},Hb b=none->b ∉ A:=λhb z=>by obtain⟨o,ho⟩:=hA _ z; rw[hb] at ho; cases ho
 have up:∀{b:Addr} {o:HO},H b=some o->Hb b=none->H1 b=some o:=λh1 h2=>s _ _ (by rw[z0j (nA h2)]; exact h1);have no:∀{b:Addr} {o:HO},H b=some o->Hb b=none->K26.rb A Hb H H1 b=none:=λh1 h2=>by unfold K26.rb;rw[if_neg (nA h2)];exact zna h1 h2
 refine⟨λb o hb=>?_,up h.o h.fa,up h.st h.fst,up h.sd h.fsd,up h.ct h.fct,λf hf=>⟨up (h.fr f hf).o (h.ff f hf).1,up (h.fr f hf).n (h.ff f hf).2⟩,h.na,h.nn,h.ne,h.nc,h.cs,h.nf,no h.o h.fa,no h.st h.fst,no h.sd h.fsd,no h.ct h.fct,λf hf=>⟨no (h.fr f hf).o (h.ff f hf).1,no (h.fr f hf).n (h.ff f hf).2⟩⟩;unfold K26.rb at hb;by_cases z:b∈A
 . rw[if_pos z] at hb; exact hb
 . rw[if_neg z] at hb;unfold gr at hb;cases e:H b with
   | none=>rw[e] at hb; exact hb
   | some v=>rw[e] at hb; exact s _ _ (by rw[z0j z]; exact h.b _ _ hb)
theorem z07 {A:List Addr} {H0 Hb H H1:Hp} (s0:zan H0 Hb) (sb:zan Hb H) (no:∀b∈A,H0 b=none):zan H0 (rb A Hb H H1):=λb o hb=>by unfold rb;rw[if_neg (λz=>by rw[no b z] at hb; cases hb)];exact zb5 sb _ _ (s0 _ _ hb)
theorem Stk.rb {Hb H H1:Hp} {sk:Addr} {ls:List Lf} {A:List Addr} (st:Stk H1 sk ls) (h:∀b∈adL sk ls,b∈A\/H b=none):Stk (K26.rb A Hb H H1) sk ls :=
 ⟨by rw[z1p (h sk List.mem_cons_self)]; exact st.e,λx hx=>⟨by rw[z1p (h _ (zmg hx).1)]; exact(st.fr x hx).1,by rw[z1p (h _ (zmg hx).2)]; exact(st.fr x hx).2⟩,st.nl,st.nd,st.ns⟩
def One (K:W.Frag) (RF:RFt) (H0:Hp) (fns:List F2.Fd) (C:Prop) (f:Fm) (x:Lf):Prop:=f.fn=x.F.name/\f.row=x.at_/\x.F∈fns/\Alk x.F f.kvs x.kvs/\∃rgs,RF x.F rgs/\Fg K H0 x.F rgs/\x.at_<rgs.length/\(C->∃y g p as,rgs[x.at_]?=some (.call y g p as))
def Tw (K:W.Frag) (RF:RFt) (H0:Hp) (fns:List F2.Fd) (fs:List Fm) (ls:List Lf):Prop:=∀(i:Nat) f x,fs[i]?=some f->ls[i]?=some x->One K RF H0 fns (i+1<ls.length) f x
theorem ziw {α:Type} {l:List α} {x y:α} {i:Nat} (h:(l++[x])[i]?=some y):(i<l.length/\l[i]?=some y)\/(i=l.length/\x=y):=by
 rcases qa4 i l.length with hi|hi
 . rw[qa3 hi] at h; exact .inl ⟨hi,h⟩
 . have:=(List.getElem?_eq_some_iff.mp h).1;rw[List.length_append,qa5] at this;have e:i=l.length:=by omega
   rw[e,zd7] at h;cases h;exact .inr ⟨e,rfl⟩
theorem One.weak {RF:RFt} {H0:Hp} {fns:List F2.Fd} {C D:Prop} {f:Fm} {x:Lf} (h:One K RF H0 fns C f x) (hc:D->C):One K RF H0 fns D f x:=let ⟨a,b,c,d,r,e1,e2,e3,e4⟩:=h; ⟨a,b,c,d,r,e1,e2,e3,λz=>e4 (hc z)⟩
theorem z0s {RF:RFt} {H0:Hp} {fns:List F2.Fd} {fs:List Fm} {ls:List Lf} {f:Fm} {x:Lf} (hl:fs.length=ls.length) (h:Tw K RF H0 fns (fs++[f]) (ls++[x])):∀(i:Nat) f x,fs[i]?=some f->ls[i]?=some x->One K RF H0 fns True f x:=λi g y hg hy=>by have hi:=(List.getElem?_eq_some_iff.mp hy).1;refine(h i g y (by rw[qa3 (by omega)]; exact hg) (by rw[qa3 hi]; exact hy)).weak (λ_=>?_);rw[List.length_append,qa5];omega
theorem zrl {RF:RFt} {H0:Hp} {fns:List F2.Fd} {fs:List Fm} {ls:List Lf} {f:Fm} {x:Lf} (hl:fs.length=ls.length) (h:∀(i:Nat) f x,fs[i]?=some f->ls[i]?=some x->One K RF H0 fns True f x) (h1:One K RF H0 fns False f x):Tw K RF H0 fns (fs++[f]) (ls++[x]):=λi g y hg hy=>by
 rcases ziw hg with⟨h2,h3⟩|⟨h2,h3⟩
 . rcases ziw hy with⟨h4,h5⟩|⟨h4,h5⟩
   . exact(h i g y h3 h5).weak λ_=>trivial
   . omega
 . rcases ziw hy with⟨h4,h5⟩|⟨h4,h5⟩
   . omega
   . subst h3 h5;refine h1.weak (λz=>?_);rw[List.length_append,qa5] at z;omega
theorem zy0 {RF:RFt} {H0:Hp} {fns:List F2.Fd} {fs:List Fm} {ls:List Lf} {f:Fm} {x:Lf} (hl:fs.length=ls.length) (h:∀(i:Nat) f x,fs[i]?=some f->ls[i]?=some x->One K RF H0 fns True f x) (h1:One K RF H0 fns True f x):∀(i:Nat) g y,(fs++[f])[i]?=some g->(ls++[x])[i]?=some y->One K RF H0 fns True g y:=λi g y hg hy=>by
 rcases ziw hg with⟨h2,h3⟩|⟨h2,h3⟩
 . rcases ziw hy with⟨h4,h5⟩|⟨h4,h5⟩
   . exact h i g y h3 h5
   . omega
 . rcases ziw hy with⟨h4,h5⟩|⟨h4,h5⟩
   . omega
   . subst h3 h5; exact h1
theorem Alk.av {F:F2.Fd} {k1 k2:List (Key×V)} (a:Alk F k1 k2) {v:V} (h:(∃i,v=.int i/\Val i)\/∃n,v=.str n/\n∈F2.nms F):∃i,Val i/\Wk.av k1 v=some (.int i)/\Wk.av k2 v=some (.int i):=by
 rcases h with⟨i,rfl,hi⟩|⟨n,rfl,hn⟩
 . exact⟨i,hi,rfl,rfl⟩
 . obtain⟨i,h1,h2,h3⟩:=a.v n hn;exact⟨i,h1,h2,h3⟩
theorem zxf {H:Hp} {F:F2.Fd} {rgs:List RG} (h:Fg K H F rgs) {rg:RG} (hr:rg∈rgs) {y:Str} (hv:V.str y∈rg.parts):y∈F2.nms F:=by
 rcases h.atom hr hv with⟨i,e,_⟩|⟨n,e,hn⟩
 . cases e
 . cases e; exact hn
theorem zwe {F:F2.Fd} {k1 k2:List (Key×V)} (al:Alk F k1 k2):∀{as:List V},(∀a∈as,(∃i,a=.int i/\Val i)\/∃n,a=.str n/\n∈F2.nms F)->∃vals:List V,as.length=vals.length/\(∀v∈vals,∃i,v=.int i/\Val i)/\∀(i:Nat) a v,as[i]?=some a->vals[i]?=some v->av k1 a=some v/\av k2 a=some v
 | [],_=>⟨[],rfl,(λ_ h=>by cases h),(λ_ _ _ h=>by cases h)⟩
 | a :: as,h=>by
   obtain⟨i,h1,h2,h3⟩:=al.av (h a List.mem_cons_self);obtain⟨vals,e1,e2,e3⟩:=zwe al (as:=as) λb hb=>h b (List.mem_cons_of_mem _ hb);refine⟨.int i :: vals,by simp [e1],λv hv=>?_,λj b v hb hv=>?_⟩
   . rcases List.mem_cons.mp hv with rfl|hv
     . exact⟨i,rfl,h1⟩
     . exact e2 v hv
   . cases j with
     | zero=>cases hb; cases hv; exact⟨h2,h3⟩
     | succ j=>exact e3 j b v (by simpa using hb) (by simpa using hv)
theorem zxi {sk:Addr} {ls0:List Lf} {x x':Lf} (h1:x'.l=x.l) (h2:x'.d=x.d):adL sk (ls0++[x'])=adL sk (ls0++[x]):=by unfold adL;simp only[List.map_append,qaz,qcd,h1,h2]
theorem z2e {sk b:Addr} {ls0:List Lf} {x:Lf} (h:b∈adL sk ls0):b∈adL sk (ls0++[x]):=by
 unfold adL at *;simp only[List.map_append,List.mem_cons,List.mem_append,qaz,qcd] at *;rcases h with h|h|h
 . exact .inl h
 . exact .inr (.inl (.inl h))
 . exact .inr (.inr (.inl h))
theorem z2p {sk b:Addr} {ls0:List Lf} {x:Lf} (h:b∈adL sk (ls0++[x])):b∈adL sk ls0\/b=x.l\/b=x.d:=by
 unfold adL at *;simp only[List.map_append,List.mem_cons,List.mem_append,qaz,qcd,qbk,or_false] at *;rcases h with h|(h|h)|h|h
 . exact .inl (.inl h)
 . exact .inl (.inr (.inl h))
 . exact .inr (.inl h)
 . exact .inl (.inr (.inr h))
 . exact .inr (.inr h)
theorem zxl {RF:RFt} {H0 Hb H:Hp} {w:Wr} {fs0:List Fm} {f:Fm} {fns:List F2.Fd} {sk pl:Addr} {ls0:List Lf} {x:Lf} {F0 F1:F2.Fd} {r0 r1 rgs:List RG} {rg:RG} {ns:List Str} {Q:VK} {Q':Hp->Prop} (S:Sta K t RF H0 Hb H w (fs0++[f]) fns sk (ls0++[x])) (P:Prg K H0 pl F0 F1 r0 r1 ns) (hF0:F0∈fns) (hRF:∀F rs,RF F rs->rs=r0\/rs=r1) (h00:RF F0 r0) (hrf:RF x.F rgs) (fg:Fg K H0 x.F rgs) (hrg:rgs[x.at_]?=some rg) (few:ls0.length+2<=100)
   (hQ:∀Hb1 H1,WA t Hb1 H1 w (fs0++[f]) .non [] ⟨[],0⟩->zan H0 Hb1->z27 K t Hb1 w fs0 f [] ⟨[],0⟩ fns x.F (λ_ H2=>Q' H2) rg->Q .non H1)
   (go:∀Hb2 H2 fs2 ls2,Sta K t RF H0 Hb2 H2 w fs2 fns sk ls2->ls2≠[]->fs2.length<=fs0.length+2->Q' H2)
   (fin:∀Hb2 H2 a v,rg=.back a->av x.kvs a=some v->WA t Hb2 H2 w [] v [] ⟨[],0⟩->zan H0 Hb2->Hb2 sk=some (.lst [])->Q' H2):z4u K H sk ls0 x F0 Q rg:=by
 have hlen:fs0.length=ls0.length:=by have:=S.len; rw[List.length_append,List.length_append] at this; simpa using this
 obtain⟨m1,m2,m3,al,_⟩:=S.tw ls0.length f x (by rw[<- hlen]; exact zd7 _ _) (zd7 _ _);have low:=z0s hlen S.tw;have hA:∀b∈adL sk (ls0++[x]),∃o,Hb b=some o:=λb hb=>S.st.all hb;have wa1:∀H1,zan (erO (adL sk (ls0++[x])) H) H1->WA t (rb (adL sk (ls0++[x])) Hb H H1) H1 w (fs0++[f]) .non [] ⟨[],0⟩:=λH1 s=>z3k S.wa hA s;have same0:∀H1,zan H0 (rb (adL sk (ls0++[x])) Hb H H1):=λH1=>z07 S.s0 S.wa.b S.no;have hm:rg∈rgs:=List.mem_of_getElem? hrg;have hmr:rg∈r0++r1:=by
   rcases hRF _ _ hrf with h|h
   . rw[h] at hm; exact qa8 _ hm
   . rw[h] at hm; exact List.mem_append_right _ hm
 have lk:=al.l;have put_:∀(y:Str) (v:Int) H1,Val v->y∈F2.nms x.F->x.at_+1<rgs.length->Stk H1 sk (ls0++[{ x with kvs:=zbd x.kvs (Sum.inr y:Key) (.int v),at_:=x.at_+1 }])->∀Hb2 H2,zan (rb (adL sk (ls0++[x])) Hb H H1) Hb2->WA t Hb2 H2 w (fs0++[{ f with kvs:=zbd f.kvs (Sum.inr y:Key) (.int v),row:=x.at_+1 }]) .non [] ⟨[],0⟩->Q' H2:=λy v H1 hv hy hlt st Hb2 H2 s2 h2=>by have ead:=zxi (sk:=sk) (ls0:=ls0) (x:=x) (x':={ x with kvs:=zbd x.kvs (Sum.inr y:Key) (.int v),at_:=x.at_+1 }) rfl rfl;refine go Hb2 H2 _ _ ⟨h2,S.fl,(same0 H1).trans s2,(st.rb (λb hb=>.inl (by rw[<- ead]; exact hb))).mono s2,(by rw[ead]; exact S.no),(by simp [hlen]),(by simp; omega),?_⟩ (by simp) (by simp);exact zrl hlen low ⟨m1,rfl,m3,al.put hy hv,rgs,hrf,fg,hlt,λz=>z.elim⟩
 cases rg with
 | copy y a =>
   obtain⟨v,vv,w1,w2⟩:=al.av (fg.atom hm (v:=a) (by simp [RG.parts,RG.gx,RG.as]));have hy:=zxf fg hm (y:=y) (by simp [RG.parts,RG.gx,RG.as]);obtain⟨way,hlt⟩:=fg.way x.at_ _ hrg (λ_ z=>by cases z);refine⟨v,w2,λH1 s st=>hQ _ H1 (wa1 H1 s) (same0 H1) ⟨x.at_+1,by rw[m2]; exact way,y,.int v,by show(av f.kvs a).map _=_; rw[w1]; rfl,put_ y v H1 vv hy hlt st⟩⟩
 | op y s a b =>
   obtain⟨i,vi,a1,a2⟩:=al.av (fg.atom hm (v:=a) (by simp [RG.parts,RG.gx,RG.as]));obtain⟨j,vj,b1,b2⟩:=al.av (fg.atom hm (v:=b) (by simp [RG.parts,RG.gx,RG.as]));have hy:=zxf fg hm (y:=y) (by simp [RG.parts,RG.gx,RG.as]);obtain⟨way,hlt⟩:=fg.way x.at_ _ hrg (λ_ z=>by cases z);have vv:Val (K21.valOf s i j):=K21.val_bound s vi.1 vj.1 vi.2 vj.2;refine⟨i,j,a2,b2,vi,vj,P.sg _ hmr _ _ _ _ rfl,λH1 s1 st=>hQ _ H1 (wa1 H1 s1) (same0 H1) ⟨x.at_+1,by rw[m2]; exact way,y,_,zpw a1 b1 ⟨vi.1,vj.1,vi.2,vj.2⟩,put_ y _ H1 vv hy hlt st⟩⟩
 | call y g p as =>
   obtain⟨hg,h2⟩:=P.c0 _ hmr _ _ _ _ rfl;obtain⟨vals,e1,e2,e3⟩:=zwe al (as:=as) (λa ha=>fg.atom hm (by simp [RG.parts,RG.gx,RG.as,ha]));obtain⟨r,hr⟩:∃r,x.F.rs[x.at_]?=some r:=⟨_,List.getElem?_eq_getElem (by rw[fg.len]; exact(List.getElem?_eq_some_iff.mp hrg).1)⟩
   have hq:=fg.row _ _ _ hr hrg;refine⟨vals,e1,λi a v ha hv=>(e3 i a v ha hv).2,e2,by omega,by rw[P.p0]; omega,λH1 x' s hF hat hal hl hd st=>hQ _ H1 (wa1 H1 s) (same0 H1) ⟨F0,vals,hF0,hg.symm,(same0 H1).tup (hq.ar _ _ _ _ rfl),e1,λi a v ha hv=>(e3 i a v ha hv).1,by omega,by omega,Nat.le_trans P.f0.nl (by decide),by rw[P.p0]; decide,λHb2 H2 f' s2 h2 n1 n2 n3=>?_⟩⟩;have sub:∀b∈adL sk (ls0++[x]++[x']),b∈adL sk (ls0++[x])\/H b=none:=λb hb=>by
     rcases z2p hb with h|rfl|rfl
     . exact .inl h
     . exact .inr hl
     . exact .inr hd
   refine go Hb2 H2 _ _ ⟨h2,S.fl,(same0 H1).trans s2,(st.rb sub).mono s2,λb hb=>?_,(by simp [hlen]),(by simp; omega),?_⟩ (by simp) (by simp)
   . rcases sub b hb with h|h
     . exact S.no b h
     . exact(S.s0.trans S.wa.b).free h
   . refine zrl (by simp [hlen]) (zy0 hlen low ⟨m1,m2,m3,al,rgs,hrf,fg,(List.getElem?_eq_some_iff.mp hrg).1,λ_=>⟨y,g,p,as,hrg⟩⟩) ⟨by rw[n1,hF],by rw[n2,hat],by rw[hF]; exact hF0,by rw[hF,n3]; exact hal,r0,by rw[hF]; exact h00,by rw[hF]; exact P.f0,by rw[hat]; exact P.l0.1,λz=>z.elim⟩
 | back a =>
   obtain⟨v,vv,w1,w2⟩:=al.av (fg.atom hm (v:=a) (by simp [RG.parts,RG.gx,RG.as]));refine⟨v,w2,λhz H1 s st=>?_,λls1 y hz=>?_⟩
   . subst hz;have hf0:fs0=[]:=qdd hlen;subst hf0;refine hQ _ H1 (wa1 H1 s) (same0 H1) ⟨.int v,w1,.inl ⟨rfl,λH2 h2=>fin _ H2 a _ rfl w2 h2 (same0 H1) ?_⟩⟩;exact(st.rb (A:=adL sk ([]++[x])) (Hb:=Hb) (H:=H) (λb hb=>.inl (by rw[List.mem_singleton.mp hb];exact List.mem_cons_self))).e
   . subst hz;obtain⟨fs1,g,rfl⟩:∃fs1 g,fs0=fs1++[g]:=by
       rcases qcg fs0 with e|⟨fs1,g,e⟩
       . rw[e] at hlen; simp at hlen
       . rw[qch] at e; exact⟨fs1,g,e⟩
     have hlen1:fs1.length=ls1.length:=by simpa using hlen
     obtain⟨p1,p2,p3,p4,rgy,p5,p6,p7,p8⟩:=low ls1.length g y (by rw[<- hlen1]; exact zd7 _ _) (zd7 _ _);obtain⟨z,g',pa,as,hc⟩:=p8 trivial;have ly:=p4.l;obtain⟨way,hlt⟩:=p6.way y.at_ _ hc (λ_ z=>by cases z);obtain⟨r,hr⟩:∃r,y.F.rs[y.at_]?=some r:=⟨_,List.getElem?_eq_getElem (by rw[p6.len]; exact p7)⟩
     have hq:=p6.row _ _ _ hr hc;have hzn:=zxf p6 (List.mem_of_getElem? hc) (y:=z) (by simp [RG.parts,RG.gx,RG.as]);refine⟨by omega,rgy,z,g',pa,as,p6.mono (S.s0.trans S.wa.b),hc,λH1 s st=>hQ _ H1 (wa1 H1 s) (same0 H1) ⟨.int v,w1,.inr ⟨fs1,g,fns,y.F,r,_,z,y.at_+1,rfl,S.fl.mono (same0 H1),p3,p1.symm,by rw[p2]; exact hr,(same0 H1).tup hq.it,rfl,by rw[p2]; exact way,by omega,λH2 h2=>?_⟩⟩⟩;have ead:=zxi (sk:=sk) (ls0:=ls1) (x:=y) (x':={ y with kvs:=zbd y.kvs (Sum.inr z:Key) (.int v),at_:=y.at_+1 }) rfl rfl;have sub:∀b∈adL sk (ls1++[{ y with kvs:=zbd y.kvs (Sum.inr z:Key) (.int v),at_:=y.at_+1 }]),b∈adL sk (ls1++[y]++[x]):=λb hb=>z2e (by rw[<- ead]; exact hb);refine go _ H2 _ _ ⟨h2,S.fl,same0 H1,st.rb (λb hb=>.inl (sub b hb)),λb hb=>S.no b (sub b hb),(by simp [hlen1]),(by simp at few ⊢; omega),?_⟩ (by simp) (by simp);exact zrl hlen1 (z0s hlen1 (λi f' x' h1 h2=>(low i f' x' h1 h2).weak λ_=>trivial)) ⟨p1,rfl,p3,p4.put hzn vv,rgy,p5,p6,hlt,λz=>z.elim⟩
 | _=>exact(by rcases fg.kd _ hm with⟨_,_,z⟩|⟨_,_,_,_,z⟩|⟨_,_,_,_,z⟩|⟨_,z⟩ <;> cases z)
theorem z02 {H:Hp} {F:F2.Fd} {rgs:List RG} (h:Fg K H F rgs) {rg:RG} (hr:rg∈rgs) {k1 k2:List (Key×V)} (al:Alk F k1 k2):∃u z,rg.items[1]?=some u/\av k2 u=some (.int z)/\∀a,rg=.back a->u=a:=by
 rcases h.kd rg hr with⟨x,a,rfl⟩|⟨x,s,a,b,rfl⟩|⟨x,g,p,as,rfl⟩|⟨a,rfl⟩
 . obtain⟨i,_,_,e⟩:=al.av (h.atom hr (v:=.str x) (by simp [RG.parts,RG.gx,RG.as]));exact⟨_,i,rfl,e,λ_ z=>by cases z⟩
 . obtain⟨i,_,_,e⟩:=al.av (h.atom hr (v:=.str x) (by simp [RG.parts,RG.gx,RG.as]));exact⟨_,i,rfl,e,λ_ z=>by cases z⟩
 . obtain⟨i,_,_,e⟩:=al.av (h.atom hr (v:=.str x) (by simp [RG.parts,RG.gx,RG.as]));exact⟨_,i,rfl,e,λ_ z=>by cases z⟩
 . obtain⟨i,_,_,e⟩:=al.av (h.atom hr (v:=a) (by simp [RG.parts,RG.gx,RG.as]));exact⟨_,i,rfl,e,λ_ z=>by cases z; rfl⟩
def zxm (K:W.Frag) (t:Adr):Sp:=λvs H Q _=>∃(nl:Addr) (ns:List Str) (c:Int),vs=[.ref nl,.int c]/\SqL K H nl (ns.map V.str)/\ns.length=7/\NmsOk ns/\∀H',zan H H'->Q (.bl true) H'
def sp_law (K:W.Frag):Sp:=λvs H Q _=>∃(a:Addr) (ns:List Int),vs=[.ref a]/\SqL K H a (ns.map V.int)/\ns.length<=63/\∀H',Q (.bl true) H'
end
end K26
namespace K26
open PySem L2 K12
section
variable {P:Program} {w:World} {K:W.Frag} {mg:Str->Option Value} {base:Heap} {t:Adr}
theorem zqo:FnScope ["names"] ["names"] (zai zho):=⟨rfl,rfl,rfl,by decide +kernel,rfl,by decide +kernel,by decide +kernel⟩
theorem zlw (T:Txt K mg t):FnOk P w K mg base CX0 1 t.zni t.znp ["names"] (K12.sp_each_once K):=by
 refine T.each_once.F.ok zqo (λvs H Q E h=>?_) (λcdv A outer s H vs Q E hr h=>?_)
 . obtain⟨p0,ss,rfl,hS,hl,q⟩:=h;rfl
 . obtain⟨p0,ss,rfl,hS,hl,q⟩:=h;refine⟨_,(@zab _ _ _ _ _ (@zau _ _ _ _ (zb2 (zq8 rfl) (by rfl) T.b_list znf (@zaa _ _ _ _ _ (zb2 (zlr rfl) (by rfl) T.b_dict zwg (@zaa _ _ _ _ _ (zf2 (N':=["name"]) (js:=[none]) (by kernel_rfl) rfl (zgx (pv 0)) zdo (λ_ _ _ _=>(za0 (i:=0) (show(["name"]:List Str).Nodup by decide +kernel) rfl (Or.inl rfl) (.inr rfl))) (λ_ _ _ _=>zfc) (λ_ _ _ _=>(@zck _ _ _ _ _ (@zaa _ _ _ _ _ (pv 0) (@zaa _ _ _ _ _ zh9 zaf (by rfl)) (by rfl))))) zaf (by rfl))) zaf (by rfl)))) zas),?_⟩;refine⟨_,rfl,p0,rfl,⟨_,hS⟩,λp hp=>zmp (xs:=ss.map V.str) (by rw[List.length_map]; omega) (λi acc H2=>i<=ss.length/\zan H H2/\H2 p=some (.lst acc)/\∃ps:List Addr,acc=ps.map V.ref/\Paired (λa (kv:Key×V)=>SqT K H2 a [kV kv.1,kv.2]) ps (tru (ss.take i))) ⟨qa6 _,zan.new hp,zac,[],rfl,.nil⟩ ?_ ?_ ?_⟩
   . rintro i acc H2 hi ⟨hi',s2,h2,ps,rfl,hps⟩;refine⟨h2,?_,s2.seq hS⟩;have:=Paired.length hps;rw[List.length_map,this];unfold tru;rw[List.length_map,qax];omega
   . rintro i x acc H2 hx ⟨hi',s2,h2,ps,rfl,hps⟩;have hi:i<ss.length:=by have:=(List.getElem?_eq_some_iff.mp hx).1;rw[List.length_map] at this;exact this
     rw[List.getElem?_map] at hx;have hx:V.str ss[i]=x:=by simpa [hi] using hx
     subst hx;refine⟨_,rfl,(by show 2<=sizeLine; decide),λa ha=>?_⟩;have hap:a≠p:=λz=>by rw[z,h2] at ha; cases ha
     have e:(upd H2 a (.tup [V.str ss[i],V.bl true])) p=some (.lst (ps.map V.ref)):=by rw[zag hap.symm]; exact h2
     refine⟨e,hi,?_,zac,ps++[a],by rw[List.map_append]; rfl,?_⟩
     . exact(s2.trans (zan.new ha)).upd hp
     . have e2:tru (ss.take (i+1))=tru (ss.take i)++[(Sum.inr ss[i],V.bl true)]:=by unfold tru;rw[qbf,List.map_append];simp [hi]
       rw[e2];refine Paired.snoc (Paired.mapP hps λb kv z=>z1h ((zan.new ha).tup z) e) ?_;exact SqT.of (by rw[zag hap]; exact zac)
   . rintro acc H2 ⟨hi',s2,h2,ps,rfl,hps⟩;have e0:ss.take (ss.map V.str).length=ss:=by rw[List.length_map]; exact qbs
     rw[e0] at hps;refine⟨p,ps,tru ss,rfl,SqL.of h2,hps,by unfold tru; rw[List.length_map]; omega,λd hd=>?_⟩;rw[zyj];refine⟨d,tru (onceL ss),rfl,zac,λl hl'=>?_⟩;rw[zx9];exact q l _ ((s2.trans (zan.new hd)).trans (zan.new hl')) (s2.free ((zan.new hd).free hl')) zac
theorem zye:FnScope ["row"] ["row"] (zai zpe):=⟨rfl,rfl,rfl,by decide +kernel,rfl,by decide +kernel,by decide +kernel⟩
theorem zyp (T:Txt K mg t):FnOk P w K mg base CX0 1 t.zxq t.zxx ["row"] (K12.sp_gives K):=by
 refine T.gives.F.ok zye (λvs H Q E h=>?_) (λcdv A outer s H vs Q E hr h=>?_)
 . obtain⟨r,xs,g,as,rfl,hr,hrow,q⟩:=h;rfl
 . obtain⟨r,xs,g,as,rfl,hr,hrow,q⟩:=h;refine⟨_,(@zab _ _ _ _ _ (@zau _ _ _ _ (@ziu _ _ _ _ _ _ _ _ (@zat _ _ _ _ _ _ _ _ zig (@zaj _ _ _ _ _ _ _ zap (pv 0) zad (λ_ _=>rfl)) (zkq T.zn3) (by with_unfolding_all rfl)) (@zaj _ _ _ _ _ _ _ zap (pv 0) zad (λ_ _=>rfl)) zi7)) zas),?_⟩;obtain⟨kd,h0,hc⟩:=zwd hrow;refine⟨_,rfl,r,xs,_,_,rfl,rfl,hr,h0,t.zpk,giving.map V.str,rfl,.inr (T.zz5 H),rfl,zsm,_,rfl,?_⟩;rcases hc with⟨x,rfl,e,h1⟩|⟨rfl,e⟩
   . exact zh8 e ⟨_,rfl,r,xs,_,_,rfl,rfl,hr,h1,q⟩
   . exact zha (z4x e) q
theorem zsp:FnScope ["row"] ["row"] (zai ziz):=⟨rfl,rfl,rfl,by decide +kernel,rfl,by decide +kernel,by decide +kernel⟩
theorem zsf (T:Txt K mg t):FnOk P w K mg base CX0 1 t.zoj t.zom ["row"] (K12.sp_atoms_of K):=by
 refine T.atoms_of.F.ok zsp (λvs H Q E h=>?_) (λcdv A outer s H vs Q E hr h=>?_)
 . obtain⟨r,xs,g,as,rfl,hr,hrow,hl,q⟩:=h;rfl
 . obtain⟨r,xs,g,as,rfl,hr,hrow,hl,q⟩:=h;refine⟨_,(@zab _ _ _ _ _ (@zbq _ _ _ _ _ _ _ _ (@zat _ _ _ _ _ _ _ _ zc8 (@zaj _ _ _ _ _ _ _ zap (pv 0) zad (λ_ _=>rfl)) za5 (za1 _)) (@zah _ _ _ (@zau _ _ _ _ (zb2 zgm (by rfl) T.b_list znf (@zaa _ _ _ _ _ (@zaj _ _ _ _ _ _ _ zap (pv 0) zad (λ_ _=>rfl)) zaf (by rfl))))) zas) (@zah _ _ _ (@zau _ _ _ _ (zf2 (N':=["place","row"]) (js:=[none,some 0]) (by kernel_rfl) rfl (zq0 (@zaj _ _ _ _ _ _ _ z3s (zkq T.zpn) (@zaj _ _ _ _ _ _ _ zap (pv 0) zad (λ_ _=>rfl)) (λ_ _=>rfl))) zdo (λ_ _ _ _=>(za0 (i:=0) (show(["place","row"]:List Str).Nodup by decide +kernel) rfl (Or.inl rfl) (.inr rfl))) (λ_ _ _ _=>zfc) (λ_ _ _ _=>(@zaj _ _ _ _ _ _ _ (show IxR _ (z3z K) from zap) (pv 1) (pv 0) (λ_ _=>rfl))))))),?_⟩;obtain⟨kd,h0,hc⟩:=zuy hrow;refine⟨_,rfl,r,xs,_,_,rfl,rfl,hr,h0,rfl,_,rfl,?_⟩;rcases hc with⟨rfl,p,h3,hp⟩|⟨hne,pl,hk,hpl,hat⟩
   . exact zh8 (decide_eq_true rfl) ⟨_,rfl,r,xs,_,_,rfl,rfl,hr,h3,p,as,rfl,.inr hp,λl hl=>q l _ (zan.new hl) hl zac⟩
   . refine zha (λh=>hne (V.str.inj (zby h))) ?_;refine⟨_,rfl,r,xs,_,_,rfl,rfl,hr,h0,t.z2y,tabl,_,_,rfl,rfl,T.z6k,hk,λa ha=>?_⟩;refine⟨a,rfl,⟨_,ha⟩,λp hp=>ztr (xs:=pl.map V.int) (by rw[List.length_map]; omega) (λi acc H2=>acc=as.take i/\H2=upd H p (.lst acc)) ⟨rfl,rfl⟩ ?_ ?_ ?_⟩
     . rintro i acc H2 hi ⟨rfl,rfl⟩;exact⟨zac,by rw[qax]; omega,(zan.new hp).tup ha⟩
     . rintro i x acc H2 hx ⟨rfl,rfl⟩;have hi:i<as.length:=by have:=(List.getElem?_eq_some_iff.mp hx).1;rw[List.length_map] at this;omega
       obtain⟨p1,hp1,hp2⟩:=hat i as[i] (by simp [hi]);rw[List.getElem?_map,hp1] at hx;have hx:V.int p1=x:=by simpa using hx
       subst hx;refine⟨_,rfl,_,rfl,r,xs,_,_,rfl,rfl,(zan.new hp).tup hr,hp2,zac,?_,zmh⟩;rw[qbf];simp [hi]
     . rintro acc H2 ⟨rfl,rfl⟩;have e:(as.take (pl.map V.int).length)=as:=by rw[List.length_map,hpl]; exact qbs
       exact q p _ (zan.new hp) hp (by rw[zac,e])
theorem zzm:FnScope ["row"] ["row"] (zai zor):=⟨rfl,rfl,rfl,by decide +kernel,rfl,by decide +kernel,by decide +kernel⟩
theorem zzc (T:Txt K mg t):FnOk P w K mg base CX0 2 t.zxs t.zxz ["row"] (K12.sp_reads K):=by
 have G_each_once:=zlw (P:=P) (w:=w) (base:=base) T;have G_atoms_of:=zsf (P:=P) (w:=w) (base:=base) T;refine T.reads.F.ok zzm (λvs H Q E h=>?_) (λcdv A outer s H vs Q E hr h=>?_)
 . obtain⟨r,xs,g,as,rfl,hrw,hrow,hl,hat,q⟩:=h;rfl
 . obtain⟨r,xs,g,as,rfl,hrw,hrow,hl,hat,q⟩:=h;refine⟨_,(@zab _ _ _ _ _ (@zau _ _ _ _ (zbu T.each_once G_each_once (hr.mono (by decide)) (@zaa _ _ _ _ _ (zf2 (N':=["atom"]) (js:=[none]) (by kernel_rfl) rfl (zgx (zbu T.atoms_of G_atoms_of (hr.mono (by decide)) (@zaa _ _ _ _ _ (pv 0) zaf (by rfl)))) zdo (λ_ _ _ _=>(za0 (i:=0) (show(["atom"]:List Str).Nodup by decide +kernel) rfl (Or.inl rfl) (.inr rfl))) (λ_ _ _ _=>(z13 (zjb (zbs (show zjr _ (.builtin "isinstance") (rIsi K) from zet) (by rfl) T.b_isinstance zb4 (@zaa _ _ _ _ _ (pv 0) (@zaa _ _ _ _ _ (zjl (v:=V.ty "str") rfl T.b_str znb rfl) zaf (by rfl)) (by rfl)))))) (λ_ _ _ _=>(pv 0))) zaf (by rfl)))) zas),?_⟩;refine⟨_,rfl,r,xs,g,as,rfl,hrw,hrow,hl,λl0 H1 s1 n1 e1=>?_⟩;refine⟨l0,rfl,⟨_,SqL.of e1⟩,λp hp=>zmp (xs:=as) (by omega) (λi acc H2=>acc=(strsOf (as.take i)).map V.str/\H2=upd H1 p (.lst acc)) ⟨rfl,rfl⟩ ?_ ?_ ?_⟩
   . rintro i acc H2 hi ⟨rfl,rfl⟩;refine⟨zac,?_,(zan.new hp).seq (SqL.of e1)⟩;have:=strsOf_len (as.take i);rw[List.length_map];rw[qax] at this;omega
   . rintro i x acc H2 hx ⟨rfl,rfl⟩;have hi:i<as.length:=(List.getElem?_eq_some_iff.mp hx).1;have e2:strsOf (as.take (i+1))=strsOf (as.take i)++strsOf [x]:=by rw[qbf,hx,strsOf_append];rfl
     rcases hat x (List.mem_of_getElem? hx) with⟨s,rfl,hn⟩|⟨z,rfl⟩
     . refine⟨_,rfl,_,_,_,true,rfl,.str _,rfl,_,rfl,?_⟩;refine⟨_,rfl,zac,?_,zmh⟩;rw[e2,List.map_append];rfl
     . refine⟨_,rfl,_,_,_,false,rfl,.int _,rfl,_,rfl,?_⟩;refine⟨?_,?_⟩
       . rw[e2,zt6,qbg]
       . rfl
   . rintro acc H2 ⟨rfl,rfl⟩;rw[qbs];have hle:=strsOf_len as;exact⟨p,strsOf as,rfl,SqL.of zac,by omega,λl H3 s3 n3 e3=>q l H3 ((s1.trans (zan.new hp)).trans s3) (s1.free ((zan.new hp).free n3)) e3⟩
theorem zhd:FnScope ["function","found","row","given"] ["function"] (zai zi0):=⟨rfl,rfl,rfl,by decide +kernel,rfl,by decide +kernel,by decide +kernel⟩
theorem zsb (T:Txt K mg t):FnOk P w K mg base CX0 3 t.zol t.zoq ["function"] (K12.sp_names_of K):=by
 have G_each_once:=zlw (P:=P) (w:=w) (base:=base) T;have G_gives:=zyp (P:=P) (w:=w) (base:=base) T;have G_reads:=zzc (P:=P) (w:=w) (base:=base) T;refine T.names_of.F.ok zhd (λvs H Q E h=>?_) (λcdv A outer s H vs Q E hr h=>?_)
 . obtain⟨f,ps,ds,rfl,hf,q⟩:=h;rfl
 . obtain⟨f,ps,ds,rfl,hf,q⟩:=h;refine⟨_,(@zab _ _ _ _ _ (@zax _ _ 1 _ _ _ _ zhd.nd rfl (Or.inl rfl) (zb2 zgm (by rfl) T.b_list znf (@zaa _ _ _ _ _ (@zaj _ _ _ _ _ _ _ zap (pv 0) zad (λ_ _=>rfl)) zaf (by rfl))) (by rfl) (by first|exact .inl rfl|exact .inr rfl|assumption)) (@zab _ _ _ _ _ (zeb PassesOwn.never rfl (zq0 (@zaj _ _ _ _ _ _ _ zap (pv 0) zad (λ_ _=>rfl))) (za0 (i:=2) zhd.nd rfl (Or.inl rfl)) (@zab _ _ _ _ _ (@zax _ _ 3 _ _ _ _ zhd.nd rfl (Or.inl rfl) (zbu T.gives G_gives (hr.mono (by decide)) (@zaa _ _ _ _ _ (pv 2) zaf (by rfl))) (by rfl) (by first|exact .inl rfl|exact .inr rfl|assumption)) (@zab _ _ _ _ _ (@zbq _ _ _ _ _ _ _ _ (zti (z1d (pv 3))) (@zah _ _ _ (@zbl _ _ _ _ (zj8 qay qa9 qba zdb (pv 1) (@zaa _ _ _ _ _ (pv 3) zaf (by rfl))) (by rfl))) zas) (@zah _ _ _ (@zbl _ _ _ _ (zj8 qay qdv qdw zpz (pv 1) (@zaa _ _ _ _ _ (zbu T.reads G_reads (hr.mono (by decide)) (@zaa _ _ _ _ _ (pv 2) zaf (by rfl))) zaf (by rfl))) (by rfl)))))) (@zah _ _ _ (@zau _ _ _ _ (zbu T.each_once G_each_once (hr.mono (by decide)) (@zaa _ _ _ _ _ (pv 1) zaf (by rfl))))))),?_⟩;obtain⟨n,b,pp,rr,hF,hP,hR⟩:=hf.fn;refine⟨_,rfl,f,_,_,_,rfl,rfl,hF,rfl,pp,_,rfl,.inr hP,λl hl=>?_⟩;refine⟨_,rfl,f,_,_,_,rfl,rfl,(zan.new hl).tup hF,rfl,?_⟩;refine⟨rr,rfl,⟨_,(zan.new hl).tup hR⟩,zxe (xs:=ds.map λd=>V.ref d.r) (λi σ H2=>zan H H2/\∃v1 v2 fs,σ=[some (.ref f),some (.ref l),v1,v2]/\H2 l=some (.lst (List.map V.str fs))/\onceL fs=onceL (ps++(ds.take i).flatMap rowStrs)/\fs.length<=100+11 * i) ⟨zan.new hl,_,_,ps,rfl,zac,by simp,by have:=hf.pl; omega⟩ ?_ ?_ ?_⟩
   . rintro i σ H2 hi ⟨s2,_⟩;exact s2.tup hR
   . rintro i x σ H2 hx ⟨s2,v1,v2,fs,rfl,h2,ho,hlen⟩;have hi:i<ds.length:=by have:=(List.getElem?_eq_some_iff.mp hx).1;rw[List.length_map] at this;exact this
     rw[List.getElem?_map] at hx;have hx:V.ref ds[i].r=x:=by simpa [hi] using hx
     subst hx;have hd:=hf.rows ds[i] (qcn hi);have hds:=hf.dl;have ef:(ds.take (i+1)).flatMap rowStrs=(ds.take i).flatMap rowStrs++rowStrs ds[i]:=by rw[qbf,List.flatMap_append];simp [hi]
     have hol:=onceL_len (strsOf ds[i].as);have hsl:=strsOf_len ds[i].as;have hal:=hd.len;obtain⟨xs,hr1,hr2⟩:=(hd.mono s2).row;refine⟨_,rfl,ds[i].r,xs,_,_,rfl,hr1,hr2,?_⟩;refine⟨_,rfl,_,rfl,?_⟩;cases hg:ds[i].gx with
     | none =>
       refine z3t ⟨_,rfl,.inl ⟨rfl,_,SqL.of h2⟩,_,rfl,ds[i].r,xs,_,_,rfl,hr1,hr2,hd.len,hd.ats,λl4 H4 s4 n4 e4=>?_⟩;refine⟨l,l4,_,_,rfl,rfl,s4 _ _ h2,e4,zow (by rw[List.length_map,List.length_map]; omega),?_⟩;refine⟨(s2.trans s4).upd hl,_,_,fs++[]++onceL (strsOf ds[i].as),rfl,(by rw[zac,qbg,List.map_append]),?_,(by simp only[List.length_append,qbi]; omega)⟩;rw[ztq ho,ef,qcs];unfold rowStrs;rw[hg];rfl
     | some x =>
       refine z0a ⟨_,rfl,.inl ⟨rfl,_,SqL.of h2⟩,_,rfl,l,_,_,rfl,rfl,h2,zd8 (by rw[List.length_map]; omega),?_⟩;have s3:zan H (upd H2 l (.lst (List.map V.str fs++[V.str x]))):=s2.upd hl;obtain⟨xs',hr1',hr2'⟩:=(hd.mono s3).row;refine⟨_,rfl,.inl ⟨rfl,_,SqL.of zac⟩,_,rfl,ds[i].r,xs',_,_,rfl,hr1',hr2',hd.len,hd.ats,λl4 H4 s4 n4 e4=>?_⟩;refine⟨l,l4,_,_,rfl,rfl,s4 _ _ zac,e4,zow (by simp only[List.length_append,List.length_map,qa0,qbi]; omega),?_⟩;refine⟨(s3.trans s4).upd hl,_,_,fs++[x]++onceL (strsOf ds[i].as),rfl,(by rw[zac,List.map_append,List.map_append]; rfl),?_,(by simp only[List.length_append,qa0,qbi]; omega)⟩;rw[ztq ho,ef,qcs];unfold rowStrs;rw[hg];rfl
   . rintro σ H2 ⟨s2,v1,v2,fs,rfl,h2,ho,hlen⟩;rw[List.length_map,qbs] at ho;rw[List.length_map] at hlen;have hds:=hf.dl;refine⟨_,rfl,l,fs,rfl,SqL.of h2,by omega,λl3 H3 s3 n3 e3=>q l3 H3 (s2.trans s3) (s2.free n3) ?_⟩;rw[e3,ho];rfl
end
end K26
namespace K26
open PySem L2 K13
section
variable {P:Program} {w:World} {K:W.Frag} {mg:Str->Option Value} {base:Heap} {t:Adr}
theorem ze2:FnScope ["rows","opened","begins","k","row"] ["rows"] (zai zhb):=⟨rfl,rfl,rfl,by decide +kernel,rfl,by decide +kernel,by decide +kernel⟩
theorem zqc (T:Txt K mg t):FnOk P w K mg base CX0 1 t.znh t.zno ["rows"] (K13.sp_begins_of K):=by
 refine T.begins_of.F.ok ze2 (λvs H Q E h=>?_) (λcdv A outer s H vs Q E hr h=>?_)
 . obtain⟨a,ks,rfl,hR,w,hn,q⟩:=h;rfl
 . obtain⟨a,ks,rfl,hR,w,hn,q⟩:=h;refine⟨_,(@zab _ _ _ _ _ (@zax _ _ 1 _ _ _ _ ze2.nd rfl (Or.inl rfl) (@zdj _ _ _ _ zaf) (by rfl) (by first|exact .inl rfl|exact .inr rfl|assumption)) (@zab _ _ _ _ _ (@zax _ _ 2 _ _ _ _ ze2.nd rfl (Or.inl rfl) zew (by rfl) (by first|exact .inl rfl|exact .inr rfl|assumption)) (@zab _ _ _ _ _ (zeb PassesOwn.never rfl (zs0 rfl T.b_enumerate (@zaa _ _ _ _ _ (pv 0) zaf (by rfl))) (zmj rfl (zcp (za0 (i:=3) ze2.nd rfl (Or.inl rfl)) (zcp (za0 (i:=4) ze2.nd rfl (Or.inl rfl)) zie))) (@zah _ _ _ (@zbq _ _ _ _ _ _ _ _ (@zat _ _ _ _ _ _ _ _ zig (@zaj _ _ _ _ _ _ _ zap (pv 4) zad (λ_ _=>rfl)) (@zck _ _ _ _ _ (@zaa _ _ _ _ _ za5 (@zaa _ _ _ _ _ za5 zaf (by rfl)) (by rfl))) (by with_unfolding_all rfl)) (@zah _ _ _ (@zbl _ _ _ _ (zj8 qay qa9 qba zdb (pv 1) (@zaa _ _ _ _ _ (pv 3) zaf (by rfl))) (by rfl))) (@zah _ _ _ (@zbq _ _ _ _ _ _ _ _ (@zat _ _ _ _ _ _ _ _ zc8 (@zaj _ _ _ _ _ _ _ zap (pv 4) zad (λ_ _=>rfl)) za5 (za1 _)) (@zah _ _ _ (zc1 (u1' hr.units) (pv 2) (pv 3) (@zaj _ _ _ _ _ _ _ zak (pv 1) (zjo zfw zad) (λ_ _=>rfl)) (by rfl))) (@zah _ _ _ (@zbq _ _ _ _ _ _ _ _ (@zat _ _ _ _ _ _ _ _ zc8 (@zaj _ _ _ _ _ _ _ zap (pv 4) zad (λ_ _=>rfl)) za5 (za1 _)) (@zah _ _ _ (zc1 (u1' hr.units) (pv 2) (pv 3) (zwi qay qc5 qc6 zu8 (pv 1)) (by rfl))) zas))))))) (@zah _ _ _ (@zau _ _ _ _ (pv 2)))))),?_⟩;refine⟨le0,λol hol=>λd hd=>?_⟩;obtain⟨rs,e1,e2,e3⟩:=hR.ex;have hdo:d≠ol:=λz=>by rw[z,zac] at hd; cases hd
   have s0:zan H (upd (upd H ol (.lst [])) d (.dK [])):=(zan.new hol).trans (zan.new hd);have hd0:H d=none:=(zan.new hol).free hd;refine⟨_,rfl,a,rfl,⟨_,s0.tup e1⟩,zrb (xs:=rs.map V.ref) (λi σ H2=>i<=ks.length/\zan H H2/\∃v3 v4,σ=[some (.ref a),some (.ref ol),some (.ref d),v3,v4]/\H2 ol=some (.lst (zud ks i))/\H2 d=some (.dK (bg ks i))) ⟨qa6 _,s0,_,_,rfl,by rw[zag hdo.symm]; exact zac,zac⟩ ?_ ?_ ?_⟩
   . rintro i σ H2 hi ⟨_,s2,_⟩;exact s2.tup e1
   . rintro i x σ H2 b hx ⟨hi',s2,v3,v4,rfl,ho,hg⟩ hb;have hi:i<rs.length:=by have:=(List.getElem?_eq_some_iff.mp hx).1;rw[List.length_map] at this;exact this
     rw[List.getElem?_map] at hx;have hx:V.ref rs[i]=x:=by simpa [hi] using hx
     subst hx;obtain⟨rest,hrow⟩:=e3 i rs[i] (by simp [hi]);have s3:zan H (upd H2 b (.tup [.int i,.ref rs[i]])):=s2.trans (zan.new hb);have ho3:=zan.new (o:=.tup [.int i,.ref rs[i]]) hb _ _ ho;have hg3:=zan.new (o:=.tup [.int i,.ref rs[i]]) hb _ _ hg;have sl:=zy2 ks i;have bl:=zvu ks i;refine⟨b,_,rfl,SqT.of zac,rfl,_,_,rfl,_,_,rfl,rfl,?_⟩;refine⟨_,rfl,rs[i],_,_,_,rfl,rfl,s3.tup hrow,at0,le2,λtw htw=>⟨tw,[V.str "if",V.str "while"],rfl,.inr (SqT.of zac),rfl,rfl,_,rfl,?_⟩⟩;have s4:=s3.trans (zan.new (o:=.tup [V.str "if",V.str "while"]) htw);have ho4:=zan.new (o:=.tup [V.str "if",V.str "while"]) htw _ _ ho3;have hg4:=zan.new (o:=.tup [V.str "if",V.str "while"]) htw _ _ hg3;by_cases hO:isO (kd ks i)=true
     . refine zh8 ((inO _).trans hO) ?_;refine⟨_,rfl,.inl ⟨rfl,_,SqL.of ho4⟩,_,rfl,ol,_,_,rfl,rfl,ho4,zd8 (by omega),?_⟩;refine⟨by omega,s4.upd hol,_,_,rfl,?_,?_⟩
       . rw[zac];have:stk ks (i+1)=i :: stk ks i:=by rw[zcz]; unfold push; rw[if_pos hO]
         unfold zud;rw[this,List.reverse_cons,List.map_append];rfl
       . rw[zag hdo,zv5 (zmr hO)];exact hg4
     refine zha (λz=>hO ((inO _).symm.trans z)) ?_;refine⟨_,rfl,rs[i],_,_,_,rfl,rfl,s4.tup hrow,at0,rfl,_,rfl,?_⟩;by_cases h1:kd ks i="else"
     . refine zh8 (decide_eq_true (congrArg V.str h1)) ?_;have hE:isE (kd ks i)=true:=by rw[h1]; decide +kernel
       obtain⟨t,r,ht⟩:∃t r,stk ks i=t :: r:=by
         cases z:stk ks i with
         | nil=>exact absurd z (w.open_ i (by omega) hE)
         | cons t r=>exact⟨t,r,rfl⟩
       obtain⟨q1,q2,q3⟩:=zsy ht;refine⟨_,rfl,_,rfl,ol,_,_,_,rfl,rfl,SqL.of ho4,q1,_,rfl,_,rfl,d,_,rfl,zmc.k (k:=Sum.inl (i:Int)) hg4 (zd8 (by omega)),?_⟩;refine⟨by omega,s4.upd hd0,_,_,rfl,?_,?_⟩
       . rw[zag hdo.symm];have:stk ks (i+1)=stk ks i:=by rw[zcz]; unfold push; rw[if_neg hO,if_neg (by rw[h1]; exact zmi)]
         unfold zud;rw[this];exact ho4
       . rw[zac,ztc ⟨hE,by rw[ht]; rfl⟩]
     refine zha (λz=>h1 (V.str.inj (zby z))) ?_;refine⟨_,rfl,rs[i],_,_,_,rfl,rfl,s4.tup hrow,at0,rfl,_,rfl,?_⟩;by_cases h2:kd ks i="end"
     . refine zh8 (decide_eq_true (congrArg V.str h2)) ?_;have hE:isE (kd ks i)=true:=by rw[h2]; decide +kernel
       obtain⟨t,r,ht⟩:∃t r,stk ks i=t :: r:=by
         cases z:stk ks i with
         | nil=>exact absurd z (w.open_ i (by omega) hE)
         | cons t r=>exact⟨t,r,rfl⟩
       obtain⟨q1,q2,q3⟩:=zsy ht;refine⟨_,rfl,.inl ⟨rfl,_,SqL.of ho4⟩,ol,_,_,rfl,rfl,ho4,q2,_,rfl,_,rfl,d,_,rfl,zmc.k (k:=Sum.inl (i:Int)) (by rw[zag hdo]; exact hg4) (zd8 (by omega)),?_⟩;refine⟨by omega,(s4.upd hol).upd hd0,_,_,rfl,?_,?_⟩
       . rw[zag hdo.symm,zac,q3];have:stk ks (i+1)=r:=by rw[zcz]; unfold push; rw[if_neg hO,if_pos h2,ht]; rfl
         unfold zud;rw[this]
       . rw[zac,ztc ⟨hE,by rw[ht]; rfl⟩]
     refine zha (λz=>h2 (V.str.inj (zby z))) ?_;refine⟨by omega,s4,_,_,rfl,?_,?_⟩
     . have:stk ks (i+1)=stk ks i:=by rw[zcz]; unfold push; rw[if_neg hO,if_neg h2]
       unfold zud;rw[this];exact ho4
     . rw[zv5 (z4v h1 h2)];exact hg4
   . rintro σ H2 ⟨_,s2,v3,v4,rfl,ho,hg⟩;rw[List.length_map,e2] at hg;exact⟨_,rfl,q d H2 s2 hd0 hg⟩
theorem zbn:FnScope ["rows","begins","ends","k","begin","behind","follower","kind"] ["rows","begins"] (zai zb9):=⟨rfl,rfl,rfl,by decide +kernel,rfl,by decide +kernel,by decide +kernel⟩
theorem zl5 (T:Txt K mg t):FnOk P w K mg base CX0 1 t.zge t.zis ["rows","begins"] (K13.sp_firsts_behind K):=by
 refine T.firsts_behind.F.ok zbn (λvs H Q E h=>?_) (λcdv A outer s H vs Q E hr h=>?_)
 . obtain⟨a,d,ks,rfl,hR,w,hn,hd,q⟩:=h;rfl
 . skip
   refine(let XX:Cx:=(zkf CX0 P w K mg base ["rows","begins","ends","k","begin","behind","follower","kind"] "firsts_behind" (zai zb9) t.zge cdv A outer s H E).nox; ?_);refine(let W3:TS:=_; have hW3:PSs XX ((zav zb9).drop 3) W3:=(@zab _ _ _ _ _ (zeb PassesOwn.never rfl (z01 rfl T.b_range (@zaa _ _ _ _ _ (@zaw _ _ _ _ _ _ _ _ zqm (zbs zbo (by rfl) T.b_len zhv (@zaa _ _ _ _ _ (pv 0) zaf (by rfl))) zad) (@zaa _ _ _ _ _ (zjo zfw zad) (@zaa _ _ _ _ _ (zjo zfw zad) zaf (by rfl)) (by rfl)) (by rfl))) (za0 (i:=3) zbn.nd rfl (Or.inl rfl)) (@zab _ _ _ _ _ (@zax _ _ 6 _ _ _ _ zbn.nd rfl (Or.inl rfl) (@zaw _ _ _ _ _ _ _ _ zdx (pv 3) zad) (by rfl) (by first|exact .inl rfl|exact .inr rfl|assumption)) (@zab _ _ _ _ _ (@zax _ _ 7 _ _ _ _ zbn.nd rfl (Or.inl rfl) (@zaj _ _ _ _ _ _ _ zap (@zaj _ _ _ _ _ _ _ zap (pv 0) (pv 6) (λ_ _=>rfl)) zad (λ_ _=>rfl)) (by rfl) (by first|exact .inl rfl|exact .inr rfl|assumption)) (@zah _ _ _ (@zbq _ _ _ _ _ _ _ _ (@zat _ _ _ _ _ _ _ _ zc8 (pv 7) za5 (za1 _)) (@zah _ _ _ (zlk (@zaj _ _ _ _ _ _ _ zak (pv 5) (zd9 (u1' hr.units) (pv 2) (zd9 (u1' hr.units) (pv 1) (pv 6) (λ_ _=>rfl)) (λ_ _=>rfl)) (λ_ _=>rfl)) (zmu (pv 5) (pv 3) zhm))) (@zah _ _ _ (@zbq _ _ _ _ _ _ _ _ (@PW.pt _ _ _ (@z33 _ _ _ _ _ _ _ (@zat _ _ _ _ _ _ _ _ zc8 (pv 7) za5 (za1 _)) (@z2c _ _ _ _ (@zat _ _ _ _ _ _ _ _ zc8 (@zaj _ _ _ _ _ _ _ zap (@zaj _ _ _ _ _ _ _ zap (pv 0) (zd9 (u1' hr.units) (pv 1) (pv 6) (λ_ _=>rfl)) (λ_ _=>rfl)) zad (λ_ _=>rfl)) za5 (za1 _))))) (@zah _ _ _ (zlk (zd9 (u1' hr.units) (pv 1) (pv 6) (λ_ _=>rfl)) (zmu (pv 5) (pv 3) zhm))) (@zah _ _ _ (@zbq _ _ _ _ _ _ _ _ (@zat _ _ _ _ _ _ _ _ zc8 (pv 7) za5 (za1 _)) (@zah _ _ _ (zlk (@zaj _ _ _ _ _ _ _ zak (pv 5) (pv 6) (λ_ _=>rfl)) (zmu (pv 5) (pv 3) zhm))) (@zah _ _ _ (zlk (pv 6) (zmu (pv 5) (pv 3) zhm)))))))))))) (@zah _ _ _ (@zau _ _ _ _ (pv 5)))); ?_);refine(let W2:TS:=_; have hW2:PSs XX ((zav zb9).drop 2) W2:=(@zab _ _ _ _ _ (@zax _ _ 5 _ _ _ _ zbn.nd rfl (Or.inl rfl) (@zaw _ _ _ _ _ _ _ _ z3q (@zdj _ _ _ _ (@zaa _ _ _ _ _ zi7 zaf (by rfl))) (zbs zbo (by rfl) T.b_len zhv (@zaa _ _ _ _ _ (pv 0) zaf (by rfl)))) (by rfl) (by first|exact .inl rfl|exact .inr rfl|assumption)) hW3); ?_);obtain⟨a,d,ks,rfl,hR,w,hn,hd,q⟩:=h;refine⟨_,(@zab _ _ _ _ _ (@zax _ _ 2 _ _ _ _ zbn.nd rfl (Or.inl rfl) zew (by rfl) (by first|exact .inl rfl|exact .inr rfl|assumption)) (@zab _ _ _ _ _ (zeb PassesOwn.never rfl (zto (pv 1)) (zmj rfl (zcp (za0 (i:=3) zbn.nd rfl (Or.inl rfl)) (zcp (za0 (i:=4) zbn.nd rfl (Or.inl rfl)) zie))) (@zah _ _ _ (zc1 (u1' hr.units) (pv 2) (pv 4) (pv 3) (by rfl)))) hW2)),?_⟩;refine λed hed=>?_;have hde:d≠ed:=λz=>by rw[<- z,hd] at hed; cases hed
   refine⟨_,rfl,d,bg ks ks.length,rfl,.inl ⟨zan.new hed _ _ hd,λo=>?_⟩⟩;have sF:zan (upd H d (.frz o (.dK (bg ks ks.length)))) (upd (upd H ed (.dK [])) d (.frz o (.dK (bg ks ks.length)))):=λb u h=>by
     by_cases hb:b=d
     . subst hb;rw[zac] at h ⊢;exact h
     . rw[zag hb] at h ⊢;rw[zag (λz=>by rw[z,hed] at h; cases h)];exact h
   have hF:(upd H d (.frz o (.dK (bg ks ks.length)))) d=some (.frz o (.dK (bg ks ks.length))):=zac;have hedF:(upd H d (.frz o (.dK (bg ks ks.length)))) ed=none:=by rw[zag hde.symm]; exact hed
   have hRF:RowsAt K (upd H d (.frz o (.dK (bg ks ks.length)))) a ks:=hR.frz hd;have qF:∀l H',zan (upd H d (.frz o (.dK (bg ks ks.length)))) H'->(upd H d (.frz o (.dK (bg ks ks.length)))) l=none->BehL H' l ks->Q (.ref l) H':=λl H' h1 h2 h3=>q l o H' h1 (by rw[zag (λz=>by rw[z,hF] at h2; cases h2)] at h2; exact h2) h3;generalize upd H d (.frz o (.dK (bg ks ks.length)))=HF at sF hF hedF hRF qF;have bl:=zvu ks ks.length;have pl:=zrz ks ks.length;refine zq4 (λi σ H2=>i<=(bg ks ks.length).length/\zan HF H2/\∃v3 v4 eds,σ=[some (.ref a),some (.ref d),some (.ref ed),v3,v4,none,none,none]/\H2 ed=some (.dK eds)/\eds.length<=i/\∀b:Nat,zcx eds (Sum.inl (b:Int):Key)=(zht ((prs ks ks.length).take i) b).map λ(m:Nat)=>V.int (m:Int)) ⟨qa6 _,sF,_,_,[],rfl,by rw[zag hde.symm]; exact zac,qae _,λb=>rfl⟩ ?_ ?_ ?_
   . rintro i σ H2 hi ⟨_,s2,_⟩;exact s2 _ _ hF
   . rintro i kv σ H2 b hkv ⟨hi,s2,v3,v4,eds,rfl,he,hel,hv⟩ hb;obtain⟨p,hp,rfl⟩:=z0k hkv;have hlt:=(List.getElem?_eq_some_iff.mp hkv).1;have he3:=zan.new (o:=.tup [V.int (p.1:Int),V.int (p.2:Int)]) hb _ _ he;refine⟨b,_,rfl,SqT.of zac,rfl,_,_,rfl,_,_,rfl,rfl,?_⟩;refine⟨_,rfl,_,rfl,_,rfl,ed,_,rfl,zmc.k (k:=Sum.inl (p.2:Int)) he3 (zd8 (by omega)),?_⟩;refine⟨hlt,(s2.trans (zan.new hb)).upd hedF,_,_,_,rfl,zac,?_,λb'=>?_⟩
     . exact Nat.le_trans (zbi _ _ _) (by omega)
     . rw[zda,qbf,hp];show _=(zht ((prs ks ks.length).take i++[p]) b').map _;rw[zmq,hv b'];by_cases h:p.2=b'
       . rw[if_pos h,if_pos (by rw[h])];rfl
       . rw[if_neg h,if_neg (λz=>h (by have:(b':Int)=(p.2:Int):=Sum.inl.inj z; omega))]
   . rintro σ H2 ⟨_,s2,v3,v4,eds,rfl,he,hel,hv⟩;have hv:∀b:Nat,zcx eds (Sum.inl (b:Int):Key)=(zht (prs ks ks.length) b).map λ(m:Nat)=>V.int (m:Int):=λb=>by rw[hv b];unfold bg zx5;rw[List.length_map,qbs]
     obtain⟨rs,r1,r2,r3⟩:=hRF.ex;have rl:(rs.map V.ref).length=ks.length:=by rw[List.length_map,r2]
     refine⟨le1,λnl hnl=>⟨_,rfl,a,_,rfl,.inr ((s2.trans (zan.new hnl)).tup r1),nl,_,_,rfl,rfl,zac,by omega,by rw[rl]; omega,by rw[rl]; exact zow (by simp; omega),λbl hbl=>?_⟩⟩;have s3:=(s2.trans (zan.new (o:=.lst [V.non]) hnl)).trans (zan.new (o:=.lst (List.replicate (((rs.map V.ref).length:Int).toNat) [V.non]).flatten) hbl);have hbF:HF bl=none:=s2.free ((zan.new hnl).free hbl);have hbe:bl≠ed:=λz=>by have:=(zan.new hnl).free hbl;rw[z,he] at this;cases this
     have he3:=(zan.new (o:=.lst (List.replicate (((rs.map V.ref).length:Int).toNat) [V.non]).flatten) hbl) _ _ ((zan.new (o:=.lst [V.non]) hnl) _ _ he);refine⟨_,rfl,a,_,rfl,.inr (s3.tup r1),_,_,rfl,rfl,_,rfl,_,rfl,(ks.length:Int) - 2,-1,by rw[rl],⟨by omega,by omega,by omega,by omega⟩,?_⟩;have hnn:(((ks.length:Int) - 2) - -1).toNat=ks.length - 1:=by omega
     rw[hnn];refine zz2 (λi σ H4=>zan HF H4/\∃v3 v4 v6 v7 bs,σ=[some (.ref a),some (.ref d),some (.ref ed),v3,v4,some (.ref bl),v6,v7]/\H4 ed=some (.dK eds)/\H4 bl=some (.lst bs)/\bs.length=ks.length/\∀k,k+1<ks.length->ks.length - 1 - i<=k->∃r:Nat,Beh ks k r/\bs[k]?=some (.int (r:Int))) ⟨s3,_,_,_,_,_,rfl,he3,zac,by rw[rl]; exact zv9 _,λk h1 h2=>by omega⟩ ?_ ?_
     . rintro i σ H4 hi ⟨s4,v3,v4,v6,v7,bs,rfl,e4,b4,l4,hb4⟩;obtain⟨k,hk⟩:∃k:Nat,k+2+i=ks.length:=⟨ks.length - 2 - i,by omega⟩
       have ek:((ks.length:Int) - 2) - (i:Int)=(k:Int):=by omega
       rw[ek];have hR4:=hRF.mono s4;have old:∀j,j+1<ks.length->k<j->∃r:Nat,Beh ks j r/\bs[j]?=some (.int (r:Int)):=λj h1 h2=>hb4 j h1 (by omega);have fin:∀(r:Nat) (v3 v4 v6 v7:Option V),Beh ks k r->zan HF (upd H4 bl (.lst (bs.set k (.int (r:Int)))))/\∃v3' v4' v6' v7' bs',([some (.ref a),some (.ref d),some (.ref ed),v3,v4,some (.ref bl),v6,v7]:St)=[some (.ref a),some (.ref d),some (.ref ed),v3',v4',some (.ref bl),v6',v7']/\(upd H4 bl (.lst (bs.set k (.int (r:Int))))) ed=some (.dK eds)/\(upd H4 bl (.lst (bs.set k (.int (r:Int))))) bl=some (.lst bs')/\bs'.length=ks.length/\∀j,j+1<ks.length->ks.length - 1 - (i+1)<=j->∃r:Nat,Beh ks j r/\bs'[j]?=some (.int (r:Int)):=λr v3 v4 v6 v7 hr=>by
         refine⟨s4.upd hbF,_,_,_,_,_,rfl,by rw[zag hbe.symm]; exact e4,zac,by rw[qbh]; exact l4,λj h1 h2=>?_⟩;by_cases hj:j=k
         . subst hj;exact⟨r,hr,by rw[qcq (by omega)]⟩
         . obtain⟨r',q1,q2⟩:=old j h1 (by omega);exact⟨r',q1,by rw[qcl (λz=>hj z.symm)]; exact q2⟩
       have hix:ixN bs.length (k:Int)=some k:=by unfold ixN;rw[if_pos (by omega),if_pos (by omega),qbe]
       have at_bs:∀j r:Nat,bs[j]?=some (.int (r:Int))->atI bs (j:Int)=some (.int (r:Int)):=λj r h=>zc2 h;refine⟨_,rfl,_,_,rfl,rfl,?_⟩;show zxb 6 (V.int ((k:Int)+1)) _ _ _;rw[show((k:Int)+1)=((k+1:Nat):Int) by omega];refine⟨_,rfl,_,rfl,ixk hR4 (by omega) (by omega) ?_⟩;refine⟨_,rfl,rfl,_,rfl,?_⟩;have top:isE (kd ks (k+1))=true->∃b,(stk ks (k+1)).head?=some b:=λh=>by
         cases z:stk ks (k+1) with
         | nil=>exact absurd z (w.open_ (k+1) (by omega) h)
         | cons b r=>exact⟨b,rfl⟩
       have fz:Rd H4 d (.dK (bg ks ks.length)):=.inr ⟨o,s4 _ _ hF⟩;by_cases h1:kd ks (k+1)="else"
       . refine zh8 (decide_eq_true (congrArg V.str h1)) ?_;have hE:isE (kd ks (k+1))=true:=by rw[h1]; decide +kernel
         obtain⟨b,hb⟩:=top hE;have hbo:=zvk (⟨hE,hb⟩:Hit ks b (k+1));obtain⟨e,hEn⟩:=zw7 w (by omega) hbo.2;have h5:k+1<=e:=z0f hEn ⟨hE,hb⟩;have h6:e+1<ks.length:=by
           rcases qa4 (e+1) ks.length with z|z
           . exact z
           . have:=w.last e (by have:=hEn.2.1; omega);rw[hEn.2.2.1] at this;exact absurd this.symm zxh.2
         obtain⟨r,hr1,hr2⟩:=old e h6 (by omega);have g1:zm8 H4 d (.int ((k+1:Nat):Int)) (some (.int (b:Int))):=.inl ⟨_,Sum.inl ((k+1:Nat):Int),fz,rfl,(z36 ks.length (by omega) ⟨hE,hb⟩).symm⟩;have g2:zm8 H4 ed (.int (b:Int)) (some (.int (e:Int))):=.inl ⟨_,Sum.inl (b:Int),.inl e4,rfl,by rw[hv b,zzj hEn]; rfl⟩;exact⟨_,rfl,_,rfl,_,rfl,_,rfl,d,_,rfl,g1,ed,_,rfl,g2,bl,_,_,_,rfl,rfl,SqL.of b4,at_bs e r hr2,_,rfl,_,rfl,bl,_,_,_,rfl,rfl,b4,hix,fin r _ _ _ _ (.els h1 hb hEn hr1)⟩
       refine zha (λz=>h1 (V.str.inj (zby z))) ?_;refine⟨_,rfl,rfl,_,rfl,?_⟩;by_cases h2:kd ks (k+1)="end"
       . have hE:isE (kd ks (k+1))=true:=by rw[h2]; decide +kernel
         obtain⟨b,hb⟩:=top hE;have hbo:=zvk (⟨hE,hb⟩:Hit ks b (k+1));have g1:zm8 H4 d (.int ((k+1:Nat):Int)) (some (.int (b:Int))):=.inl ⟨_,Sum.inl ((k+1:Nat):Int),fz,rfl,(z36 ks.length (by omega) ⟨hE,hb⟩).symm⟩;refine zh8 (decide_eq_true (congrArg V.str h2)) ?_;refine⟨_,rfl,_,rfl,_,rfl,d,_,rfl,g1,ixk hR4 (by omega) (by omega) ⟨rfl,_,rfl,?_⟩⟩;by_cases h3:kd ks b="while"
         . refine zh8 (decide_eq_true (congrArg V.str h3)) ?_;exact⟨_,rfl,_,rfl,d,_,rfl,g1,_,rfl,_,rfl,bl,_,_,_,rfl,rfl,b4,hix,fin b _ _ _ _ (.whl h2 hb h3)⟩
         . refine zha (λz=>h3 (V.str.inj (zby z))) ?_;refine⟨_,rfl,rfl,_,rfl,zh8 (decide_eq_true (congrArg V.str h2)) ?_⟩;have h6:k+1+1<ks.length:=by
             rcases qa4 (k+1+1) ks.length with z|z
             . exact z
             . have:=w.last (k+1) (by omega);rw[h2] at this;exact absurd this.symm zxh.2
           obtain⟨r,hr1,hr2⟩:=old (k+1) h6 (by omega);exact⟨_,rfl,_,rfl,bl,_,_,_,rfl,rfl,SqL.of b4,at_bs (k+1) r hr2,_,rfl,_,rfl,bl,_,_,_,rfl,rfl,b4,hix,fin r _ _ _ _ (.fin h2 hb h3 hr1)⟩
       . refine zha (λz=>h2 (V.str.inj (zby z))) (z3t ?_);refine⟨_,rfl,rfl,_,rfl,zha (λz=>h2 (V.str.inj (zby z))) ?_⟩;exact⟨_,rfl,_,rfl,_,rfl,bl,_,_,_,rfl,rfl,b4,hix,fin (k+1) _ _ _ _ (.oth h1 h2)⟩
     . rintro σ H4 ⟨s4,v3,v4,v6,v7,bs,rfl,e4,b4,l4,hb4⟩;exact⟨_,rfl,qF bl H4 s4 hbF ⟨bs,b4,l4,λk h1=>hb4 k h1 (by omega)⟩⟩
theorem zhc:FnScope ["rows","begins","behind","turns","k","begin","found","row"] ["rows"] (zai zm9):=⟨rfl,rfl,rfl,by decide +kernel,rfl,by decide +kernel,by decide +kernel⟩
theorem z1j (T:Txt K mg t):FnOk P w K mg base CX0 2 t.zxu t.z0t ["rows"] (K13.sp_ways K):=by
 have G_begins_of:=zqc (P:=P) (w:=w) (base:=base) T;have G_firsts_behind:=zl5 (P:=P) (w:=w) (base:=base) T;refine T.ways.F.ok zhc (λvs H Q E h=>?_) (λcdv A outer s H vs Q E hr h=>?_)
 . obtain⟨a,ks,rfl,hR,w,hn,q⟩:=h;rfl
 . skip
   refine(let XX:Cx:=(zkf CX0 P w K mg base ["rows","begins","behind","turns","k","begin","found","row"] "ways" (zai zm9) t.zxu cdv A outer s H E).nox; ?_);refine(let W5:TS:=_; have hW5:PSs XX ((zav zm9).drop 5) W5:=(@zab _ _ _ _ _ (zeb PassesOwn.never rfl (zs0 rfl T.b_enumerate (@zaa _ _ _ _ _ (pv 0) zaf (by rfl))) (zmj rfl (zcp (za0 (i:=4) zhc.nd rfl (Or.inl rfl)) (zcp (za0 (i:=7) zhc.nd rfl (Or.inl rfl)) zie))) (@zah _ _ _ (@zbq _ _ _ _ _ _ _ _ (@zat _ _ _ _ _ _ _ _ zig (@zaj _ _ _ _ _ _ _ zap (pv 7) zad (λ_ _=>rfl)) (@zck _ _ _ _ _ (@zaa _ _ _ _ _ za5 (@zaa _ _ _ _ _ za5 zaf (by rfl)) (by rfl))) (by with_unfolding_all rfl)) (@zah _ _ _ (@zbl _ _ _ _ (zj8 qay qa9 qba zdb (pv 6) (@zaa _ _ _ _ _ zi7 zaf (by rfl))) (by rfl))) (@zah _ _ _ (@zbq _ _ _ _ _ _ _ _ (@zat _ _ _ _ _ _ _ _ zc8 (@zaj _ _ _ _ _ _ _ zap (pv 7) zad (λ_ _=>rfl)) za5 (za1 _)) (@zah _ _ _ (@zbl _ _ _ _ (zj8 qay qa9 qba zdb (pv 6) (@zaa _ _ _ _ _ (@zck _ _ _ _ _ zaf) zaf (by rfl))) (by rfl))) (@zah _ _ _ (@zbq _ _ _ _ _ _ _ _ (zti (z39 (u1' hr.units) (pv 4) (pv 3))) (@zah _ _ _ (@zbl _ _ _ _ (zj8 qay qa9 qba zdb (pv 6) (@zaa _ _ _ _ _ (@zck _ _ _ _ _ (@zaa _ _ _ _ _ (@zaj _ _ _ _ _ _ _ zak (pv 2) (pv 4) (λ_ _=>rfl)) (@zaa _ _ _ _ _ (@zaj _ _ _ _ _ _ _ zak (pv 2) (zd9 (u1' hr.units) (pv 3) (pv 4) (λ_ _=>rfl)) (λ_ _=>rfl)) zaf (by rfl)) (by rfl))) zaf (by rfl))) (by rfl))) (@zah _ _ _ (@zbl _ _ _ _ (zj8 qay qa9 qba zdb (pv 6) (@zaa _ _ _ _ _ (@zck _ _ _ _ _ (@zaa _ _ _ _ _ (@zaj _ _ _ _ _ _ _ zak (pv 2) (pv 4) (λ_ _=>rfl)) zaf (by rfl))) zaf (by rfl))) (by rfl)))))))))) (@zah _ _ _ (@zau _ _ _ _ (pv 6)))); ?_);refine(let W3:TS:=_; have hW3:PSs XX ((zav zm9).drop 3) W3:=(@zab _ _ _ _ _ (zeb PassesOwn.never rfl (zto (pv 1)) (zmj rfl (zcp (za0 (i:=4) zhc.nd rfl (Or.inl rfl)) (zcp (za0 (i:=5) zhc.nd rfl (Or.inl rfl)) zie))) (@zah _ _ _ (@zbl _ _ _ _ (zz1 (pv 3) (pv 5) (pv 4) ⟨rfl,rfl,rfl,rfl⟩) (by rfl)))) (@zab _ _ _ _ _ (@zax _ _ 6 _ _ _ _ zhc.nd rfl (Or.inl rfl) (@zdj _ _ _ _ zaf) (by rfl) (by first|exact .inl rfl|exact .inr rfl|assumption)) hW5)); ?_);obtain⟨a,ks,rfl,hR,w,hn,q⟩:=h;refine⟨_,(@zab _ _ _ _ _ (@zax _ _ 1 _ _ _ _ zhc.nd rfl (Or.inl rfl) (zbu T.begins_of G_begins_of (hr.mono (by decide)) (@zaa _ _ _ _ _ (pv 0) zaf (by rfl))) (by rfl) (by first|exact .inl rfl|exact .inr rfl|assumption)) (@zab _ _ _ _ _ (@zax _ _ 2 _ _ _ _ zhc.nd rfl (Or.inl rfl) (zbu T.firsts_behind G_firsts_behind (hr.mono (by decide)) (@zaa _ _ _ _ _ (pv 0) (@zaa _ _ _ _ _ (pv 1) zaf (by rfl)) (by rfl))) (by rfl) (by first|exact .inl rfl|exact .inr rfl|assumption)) (@zab _ _ _ _ _ (@zax _ _ 3 _ _ _ _ zhc.nd rfl (Or.inl rfl) zew (by rfl) (by first|exact .inl rfl|exact .inr rfl|assumption)) hW3))),?_⟩;refine⟨_,rfl,a,ks,rfl,hR,w,hn,λd H1 s1 n1 e1=>?_⟩;refine⟨_,rfl,_,rfl,a,d,ks,rfl,hR.mono s1,w,hn,e1,λl o H2 s2 n2 hB=>?_⟩;have s02:zan H H2:=(s1.upd n1).trans s2;have hdF:H2 d=some (.frz o (.dK (bg ks ks.length))):=s2 _ _ zac;have hl0:H l=none:=s1.free n2;refine λtd htd=>?_;have bl:=zvu ks ks.length;obtain⟨bs,hb1,hb2,hb3⟩:=hB;refine⟨_,rfl,d,bg ks ks.length,rfl,.inr ⟨o,zan.new htd _ _ hdF,?_⟩⟩;refine zq4 (λi σ H3=>i<=(bg ks ks.length).length/\zan H2 H3/\∃v4 v5 tds,σ=[some (.ref a),some (.ref d),some (.ref l),some (.ref td),v4,v5,none,none]/\H3 td=some (.dK tds)/\tds.length<=i/\∀b:Nat,zcx tds (Sum.inl (b:Int):Key)=(zcb ((prs ks ks.length).take i) b).map λ(m:Nat)=>V.int (m:Int)) ⟨qa6 _,zan.new htd,_,_,[],rfl,zac,qae _,λb=>rfl⟩ ?_ ?_ ?_
   . rintro i σ H3 hi ⟨_,s3,_⟩;exact s3 _ _ hdF
   . rintro i kv σ H3 b hkv ⟨hi,s3,v4,v5,tds,rfl,he,hel,hv⟩ hb;obtain⟨p,hp,rfl⟩:=z0k hkv;have hlt:=(List.getElem?_eq_some_iff.mp hkv).1;have he3:=zan.new (o:=.tup [V.int (p.1:Int),V.int (p.2:Int)]) hb _ _ he;refine⟨b,_,rfl,SqT.of zac,rfl,_,_,rfl,_,_,rfl,rfl,?_⟩;have tk:∀b',zcb ((prs ks ks.length).take (i+1)) b'=if(zcb ((prs ks ks.length).take i) b').isSome=true then zcb ((prs ks ks.length).take i) b' else if p.2=b' then some p.1 else none:=λb'=>by rw[qbf,hp];exact zlm _ p b'
     refine⟨_,rfl,td,rfl,.inl ⟨tds,.inl he3⟩,_,rfl,_,rfl,tds,Sum.inl (p.2:Int),he3,rfl,zd8 (by omega),λv hv'=>?_,λhv'=>?_⟩
     . refine⟨hlt,s3.trans (zan.new hb),_,_,tds,rfl,he3,by omega,λb'=>?_⟩;rw[hv b',tk b'];cases z:zcb ((prs ks ks.length).take i) b' with
       | some m=>rfl
       | none =>
         rw[if_neg (show ¬ (none:Option Nat).isSome=true by decide),if_neg];intro h;rw[h,hv b',z] at hv';cases hv'
     . refine⟨hlt,(s3.trans (zan.new hb)).upd htd,_,_,_,rfl,zac,Nat.le_trans (zbi _ _ _) (by omega),λb'=>?_⟩;rw[zda,tk b'];by_cases h:p.2=b'
       . subst h;have z:zcb ((prs ks ks.length).take i) p.2=none:=by
           rw[hv p.2] at hv';cases y:zcb ((prs ks ks.length).take i) p.2 with
           | none=>rfl
           | some m=>rw[y] at hv'; cases hv'
         rw[if_pos rfl,z,if_neg (show ¬ (none:Option Nat).isSome=true by decide),if_pos rfl];rfl
       . rw[if_neg (λz=>h (by have:(b':Int)=(p.2:Int):=Sum.inl.inj z; omega)),hv b',if_neg h];cases z:zcb ((prs ks ks.length).take i) b' with
         | some m=>rfl
         | none=>rfl
   . rintro σ H3 ⟨_,s3,v4,v5,tds,rfl,he,hel,hv⟩;have hv:∀b:Nat,zcx tds (Sum.inl (b:Int):Key)=(zcb (prs ks ks.length) b).map λ(m:Nat)=>V.int (m:Int):=λb=>by rw[hv b];unfold bg zx5;rw[List.length_map,qbs]
     obtain⟨rs,r1,r2,r3⟩:=hR.ex;refine⟨le0,λfl hfl=>?_⟩;have s03:=s02.trans s3;have hf2:H3 fl=none:=hfl;have htf:td≠fl:=λz=>by rw[<- z,he] at hfl; cases hfl
     have hf0:H fl=none:=s03.free hfl;refine⟨_,rfl,a,rfl,⟨_,(s03.trans (zan.new hfl)).tup r1⟩,(let Jv1:Nat->St->Hp->Prop:=λi σ H4=>i<=ks.length/\zan H3 H4/\(∃v4 v5 v7,σ=[some (.ref a),some (.ref d),some (.ref l),some (.ref td),v4,v5,some (.ref fl),v7])/\FoundN H4 fl ks i; zrb (xs:=rs.map V.ref) Jv1 ⟨qa6 _,zan.new hfl,⟨_,_,_,rfl⟩,⟨[],zac,rfl,λk v z=>by simp at z⟩⟩ ?_ ?_ ?_)⟩
     . rintro i σ H4 hi ⟨_,s4,_⟩;exact(s03.trans s4).tup r1
     . rintro i x σ H4 b hx ⟨hi',s4,⟨v4,v5,v7,rfl⟩,hF⟩ hb;have hi:i<rs.length:=by have:=(List.getElem?_eq_some_iff.mp hx).1;rw[List.length_map] at this;exact this
       rw[List.getElem?_map] at hx;have hx:V.ref rs[i]=x:=by simpa [hi] using hx
       subst hx;obtain⟨rest,hrow⟩:=r3 i rs[i] (by simp [hi]);have s5:=s4.trans (zan.new (o:=.tup [.int i,.ref rs[i]]) hb);have hF5:=hF.mono (zan.new (o:=.tup [.int i,.ref rs[i]]) hb);refine⟨b,_,rfl,SqT.of zac,rfl,_,_,rfl,_,_,rfl,rfl,?_⟩;refine⟨_,rfl,rs[i],_,_,_,rfl,rfl,(s03.trans s5).tup hrow,at0,le2,λtw htw=>⟨tw,[V.str "else",V.str "end"],rfl,.inr (SqT.of zac),rfl,rfl,_,rfl,?_⟩⟩;have s6:=s5.trans (zan.new (o:=.tup [V.str "else",V.str "end"]) htw);obtain⟨vs,f1,f2,f3⟩:=hF5.mono (zan.new (o:=.tup [V.str "else",V.str "end"]) htw);generalize upd (upd H4 b (.tup [.int i,.ref rs[i]])) tw (.tup [V.str "else",V.str "end"])=H6 at s6 f1 f3 ⊢;have s06:=s03.trans s6;have fin:∀{H7:Hp} {v:V} {oo:Option (List Nat)} (u4 u5 u7:Option V),zan H6 H7->Due ks i oo->zx7 H7 v oo->i+1<=ks.length/\zan H3 (upd H7 fl (.lst (vs++[v])))/\(∃v4 v5 v7,([some (.ref a),some (.ref d),some (.ref l),some (.ref td),u4,u5,some (.ref fl),u7]:St)=[some (.ref a),some (.ref d),some (.ref l),some (.ref td),v4,v5,some (.ref fl),v7])/\FoundN (upd H7 fl (.lst (vs++[v]))) fl ks (i+1):=λu4 u5 u7 s7 hd hv=>by refine⟨by omega,(s6.trans s7).upd hfl,⟨_,_,_,rfl⟩,FoundN.push (s7 _ _ f1) f2 (λk v z=>?_) hd hv⟩;obtain⟨o',d',y⟩:=f3 k v z;exact⟨o',d',y.mono s7⟩
       by_cases hE:isE (kd ks i)=true
       . refine zh8 ((inE _).trans hE) ?_;exact⟨_,rfl,.inl ⟨rfl,_,SqL.of f1⟩,fl,_,_,rfl,rfl,f1,zd8 (by omega),fin _ _ _ (zan.refl _) (.no hE) rfl⟩
       refine zha (λz=>hE ((inE _).symm.trans z)) ?_;refine⟨_,rfl,rs[i],_,_,_,rfl,rfl,s06.tup hrow,at0,rfl,_,rfl,?_⟩;by_cases hbk:kd ks i="back"
       . refine zh8 (decide_eq_true (congrArg V.str hbk)) ?_;exact⟨_,rfl,.inl ⟨rfl,_,SqL.of f1⟩,le0,λp hp=>⟨fl,_,_,rfl,rfl,zan.new hp _ _ f1,zd8 (by omega),fin _ _ _ (zan.new hp) (.back hbk) ⟨p,rfl,zac⟩⟩⟩
       refine zha (λz=>hbk (V.str.inj (zby z))) ?_;have hlast:=zta w (by omega) hbk;obtain⟨r,hr1,hr2⟩:=hb3 i hlast;have hb6:=(s3.trans s6) _ _ hb1;have ht6:=s6 _ _ he;refine⟨_,rfl,_,rfl,td,_,rfl,zm8.k (k:=Sum.inl (i:Int)) ht6,_,rfl,?_⟩;by_cases hO:isO (kd ks i)=true
       . obtain⟨e,hEn⟩:=zw7 w (by omega) hO;obtain⟨f,hf⟩:=zyf hEn;obtain⟨r',hr3,hr4⟩:=hb3 f (zuh w hf);have hvi:zcx tds (Sum.inl (i:Int):Key)=some (V.int (f:Int)):=by rw[hv i,zyl hf]; rfl
         refine zh8 (by rw[hvi]; rfl) ?_;have g:zm8 H6 td (.int (i:Int)) (some (V.int (f:Int))):=.inl ⟨_,Sum.inl (i:Int),.inl ht6,rfl,hvi.symm⟩;exact⟨_,rfl,.inl ⟨rfl,_,SqL.of f1⟩,_,rfl,_,rfl,l,_,_,_,rfl,rfl,SqL.of hb6,zc2 hr2,_,rfl,_,rfl,_,rfl,td,_,rfl,g,l,_,_,_,rfl,rfl,SqL.of hb6,zc2 hr4,le2,λp hp=>⟨fl,_,_,rfl,rfl,zan.new hp _ _ f1,zd8 (by omega),fin _ _ _ (zan.new hp) (.two hO hf hr1 hr3) ⟨p,rfl,zac⟩⟩⟩
       . have hvi:zcx tds (Sum.inl (i:Int):Key)=none:=by rw[hv i,zuj hO]; rfl
         refine zha (by rw[hvi]; decide) ?_;exact⟨_,rfl,.inl ⟨rfl,_,SqL.of f1⟩,_,rfl,_,rfl,l,_,_,_,rfl,rfl,SqL.of hb6,zc2 hr2,le1,λp hp=>⟨fl,_,_,rfl,rfl,zan.new hp _ _ f1,zd8 (by omega),fin _ _ _ (zan.new hp) (.one hE hbk hO hr1) ⟨p,rfl,zac⟩⟩⟩
     . rintro σ H4 ⟨_,s4,⟨v4,v5,v7,rfl⟩,hF⟩;rw[List.length_map,r2] at hF;exact⟨_,rfl,q fl H4 (s03.trans s4) hf0 hF⟩
end
end K26
namespace K26
open PySem L2 Gx Fl F2
section
variable {P:Program} {w:World} {K:W.Frag} {mg:Str->Option Value} {base:Heap} {t:Adr}
theorem zhi:FnScope ["self","program","k","function"] ["self","program"] (zai zdz):=⟨rfl,rfl,rfl,by decide +kernel,rfl,by decide +kernel,by decide +kernel⟩
theorem zo2 (T:Txt K mg t):FnOk P w K mg base CX0 4 t.zim t.zlz ["self","program"] (zpa K t):=by
 have G_names_of:=zsb (P:=P) (w:=w) (base:=base) T;have G_ways:=z1j (P:=P) (w:=w) (base:=base) T;refine T.zoi.F.ok zhi (λvs H Q E h=>?_) (λcdv A outer s H vs Q E hr h=>?_)
 . obtain⟨x,dx,p,fns,rfl,hx,hS,n0,n12,hE,nd,q⟩:=h;rfl
 . skip
   refine(let XX:Cx:=(zkf CX0 P w K mg base ["self","program","k","function"] "Flows.__init__" (zai zdz) t.zim cdv A outer s H E).nox; ?_);refine(let W7:TS:=_; have hW7:PSs XX ((zav zdz).drop 7) W7:=(@zah _ _ _ (zeb PassesOwn.never rfl (zzx rfl T.b_enumerate (@zaa _ _ _ _ _ (pv 1) zaf (by rfl))) (zmj rfl (zcp (za0 (i:=2) zhi.nd rfl (Or.inl rfl)) (zcp (za0 (i:=3) zhi.nd rfl (Or.inl rfl)) zie))) (@zab _ _ _ _ _ (zc1 (u1' hr.units) (zbh (pv 0) (by rfl)) (@zaj _ _ _ _ _ _ _ zap (pv 3) zad (λ_ _=>rfl)) (pv 2) (by rfl)) (@zab _ _ _ _ _ (zc1 (u1' hr.units) (zbh (pv 0) (by rfl)) (@zaj _ _ _ _ _ _ _ zap (pv 3) zad (λ_ _=>rfl)) (@zaj _ _ _ _ _ _ _ zap (pv 3) zad (λ_ _=>rfl)) (by rfl)) (@zab _ _ _ _ _ (zc1 (u1' hr.units) (zbh (pv 0) (by rfl)) (@zaj _ _ _ _ _ _ _ zap (pv 3) zad (λ_ _=>rfl)) (@zaj _ _ _ _ _ _ _ zap (pv 3) zad (λ_ _=>rfl)) (by rfl)) (@zab _ _ _ _ _ (zc1 (u1' hr.units) (zbh (pv 0) (by rfl)) (@zaj _ _ _ _ _ _ _ zap (pv 3) zad (λ_ _=>rfl)) (@zaj _ _ _ _ _ _ _ zap (pv 3) zad (λ_ _=>rfl)) (by rfl)) (@zab _ _ _ _ _ (zc1 (u1' hr.units) (zbh (pv 0) (by rfl)) (@zaj _ _ _ _ _ _ _ zap (pv 3) zad (λ_ _=>rfl)) (zbu T.names_of G_names_of (hr.mono (by decide)) (@zaa _ _ _ _ _ (pv 3) zaf (by rfl))) (by rfl)) (@zah _ _ _ (zc1 (u1' hr.units) (zbh (pv 0) (by rfl)) (@zaj _ _ _ _ _ _ _ zap (pv 3) zad (λ_ _=>rfl)) (zbu T.ways G_ways (hr.mono (by decide)) (@zaa _ _ _ _ _ (@zaj _ _ _ _ _ _ _ zap (pv 3) zad (λ_ _=>rfl)) zaf (by rfl))) (by rfl)))))))))); ?_);obtain⟨x,dx,p,fns,rfl,hx,hS,n0,n12,hE,nd,q⟩:=h;refine⟨_,(@zab _ _ _ _ _ (zek (pv 0) (@zaj _ _ _ _ _ _ _ zap (@zaj _ _ _ _ _ _ _ zak (pv 1) (zjo zfw zad) (λ_ _=>rfl)) zad (λ_ _=>rfl)) (by rfl)) (@zab _ _ _ _ _ (zek (pv 0) zew (by rfl)) (@zab _ _ _ _ _ (zek (pv 0) zew (by rfl)) (@zab _ _ _ _ _ (zek (pv 0) zew (by rfl)) (@zab _ _ _ _ _ (zek (pv 0) zew (by rfl)) (@zab _ _ _ _ _ (zek (pv 0) zew (by rfl)) (@zsc _ _ _ _ _ (zek (pv 0) zew (by rfl)) hW7))))))),?_⟩;have fl:(fns.map λf=>V.ref f.fa).length=fns.length:=List.length_map _;have np:0<fns.length:=List.length_pos_iff.mpr n0;obtain⟨fz,hz⟩:∃fz,fns[fns.length - 1]?=some fz:=⟨fns[fns.length - 1],List.getElem?_eq_getElem (by omega)⟩
   have hzT:=(hE fz (List.mem_of_getElem? hz)).fn;have eL:atI (fns.map λf=>V.ref f.fa) (-1)=some (V.ref fz.fa):=by
     unfold atI ixN;rw[if_neg (by decide),if_pos (by rw[fl]; omega),qco];have:((-1:Int)+((fns.map λf=>V.ref f.fa).length:Int)).toNat=fns.length - 1:=by rw[fl]; omega
     rw[this,List.getElem?_map,hz];rfl
   refine⟨_,rfl,_,rfl,p,_,_,_,rfl,rfl,zhq.seq hS,eL,fz.fa,_,_,_,rfl,rfl,zhq.tup hzT,at0,_,rfl,x,t.zaz,dx,_,rfl,hx,T.zb0.cl,T.zd3,(by show 0<1000; decide),?_⟩;have sx:∀{b:Addr} {o:HO},ers x H b=some o->b≠x/\H b=some o:=λ{b o} e=>by
     have hb:b≠x:=λz=>by rw[z] at e; unfold ers at e; rw[if_pos rfl] at e; cases e
     rw[zct hb] at e;exact⟨hb,e⟩
   have l1:=zlc "last" (V.str fz.name) [] 0 (qae _);intro d0 h0;refine⟨_,rfl,x,t.zaz,dx,_,rfl,za2 zac (Ne.symm (zbj h0).1),T.zb0.cl,T.zb8,(by omega),?_⟩;have l2:=zlc "number_of" (.ref d0) _ 1 l1;intro d1 h1;refine⟨_,rfl,x,t.zaz,dx,_,rfl,za2 zac (Ne.symm (zbj h1).1),T.zb0.cl,T.zb7,(by omega),?_⟩;have l3:=zlc "folded_of" (.ref d1) _ 2 l2;intro d2 h2;refine⟨_,rfl,x,t.zaz,dx,_,rfl,za2 zac (Ne.symm (zbj h2).1),T.zb0.cl,T.zbr,(by omega),?_⟩;have l4:=zlc "params_of" (.ref d2) _ 3 l3;intro d3 h3;refine⟨_,rfl,x,t.zaz,dx,_,rfl,za2 zac (Ne.symm (zbj h3).1),T.zb0.cl,T.zcg,(by omega),?_⟩;have l5:=zlc "rows_of" (.ref d3) _ 4 l4;intro d4 h4;refine⟨_,rfl,x,t.zaz,dx,_,rfl,za2 zac (Ne.symm (zbj h4).1),T.zb0.cl,T.zbp,(by omega),?_⟩;have l6:=zlc "names_in" (.ref d4) _ 5 l5;refine⟨λσ' G=>∃d:Nat->Addr,σ'=[some (.ref x),some (.ref p),none,none]/\FS t.zaz G x dx (zqg (V.str fz.name) d) d (λ_=>[])/\(∀i j,i<6->j<6->d i=d j->i=j)/\zan (ers x H) G/\∀k,ers x H (d k)=none,?_,?_⟩
   . intro d5 h5;obtain⟨nx0,z0⟩:=zbj h0;have q0:H d0=none:=z0;obtain⟨nx1,z1⟩:=zbj h1;obtain⟨n10,w10⟩:=zbj z1;obtain⟨_,y10⟩:=zbj w10;have q1:H d1=none:=y10;obtain⟨nx2,z2⟩:=zbj h2;obtain⟨n21,w21⟩:=zbj z2;obtain⟨_,y21⟩:=zbj w21;obtain⟨n20,w20⟩:=zbj y21;obtain⟨_,y20⟩:=zbj w20;have q2:H d2=none:=y20;obtain⟨nx3,z3⟩:=zbj h3;obtain⟨n32,w32⟩:=zbj z3;obtain⟨_,y32⟩:=zbj w32;obtain⟨n31,w31⟩:=zbj y32;obtain⟨_,y31⟩:=zbj w31;obtain⟨n30,w30⟩:=zbj y31;obtain⟨_,y30⟩:=zbj w30;have q3:H d3=none:=y30;obtain⟨nx4,z4⟩:=zbj h4;obtain⟨n43,w43⟩:=zbj z4;obtain⟨_,y43⟩:=zbj w43;obtain⟨n42,w42⟩:=zbj y43;obtain⟨_,y42⟩:=zbj w42;obtain⟨n41,w41⟩:=zbj y42;obtain⟨_,y41⟩:=zbj w41;obtain⟨n40,w40⟩:=zbj y41;obtain⟨_,y40⟩:=zbj w40;have q4:H d4=none:=y40;obtain⟨nx5,z5⟩:=zbj h5;obtain⟨n54,w54⟩:=zbj z5;obtain⟨_,y54⟩:=zbj w54;obtain⟨n53,w53⟩:=zbj y54;obtain⟨_,y53⟩:=zbj w53;obtain⟨n52,w52⟩:=zbj y53;obtain⟨_,y52⟩:=zbj w52;obtain⟨n51,w51⟩:=zbj y52;obtain⟨_,y51⟩:=zbj w51;obtain⟨n50,w50⟩:=zbj y51;obtain⟨_,y50⟩:=zbj w50;have q5:H d5=none:=y50;have inj:∀i j,i<6->j<6->dd d0 d1 d2 d3 d4 d5 i=dd d0 d1 d2 d3 d4 d5 j->i=j:=λi j hi hj e=>by
       match i,j,hi,hj with
       | 0,0,_,_=>rfl
       | 0,1,_,_=>exact absurd e.symm n10
       | 0,2,_,_=>exact absurd e.symm n20
       | 0,3,_,_=>exact absurd e.symm n30
       | 0,4,_,_=>exact absurd e.symm n40
       | 0,5,_,_=>exact absurd e.symm n50
       | 1,0,_,_=>exact absurd e n10
       | 1,1,_,_=>rfl
       | 1,2,_,_=>exact absurd e.symm n21
       | 1,3,_,_=>exact absurd e.symm n31
       | 1,4,_,_=>exact absurd e.symm n41
       | 1,5,_,_=>exact absurd e.symm n51
       | 2,0,_,_=>exact absurd e n20
       | 2,1,_,_=>exact absurd e n21
       | 2,2,_,_=>rfl
       | 2,3,_,_=>exact absurd e.symm n32
       | 2,4,_,_=>exact absurd e.symm n42
       | 2,5,_,_=>exact absurd e.symm n52
       | 3,0,_,_=>exact absurd e n30
       | 3,1,_,_=>exact absurd e n31
       | 3,2,_,_=>exact absurd e n32
       | 3,3,_,_=>rfl
       | 3,4,_,_=>exact absurd e.symm n43
       | 3,5,_,_=>exact absurd e.symm n53
       | 4,0,_,_=>exact absurd e n40
       | 4,1,_,_=>exact absurd e n41
       | 4,2,_,_=>exact absurd e n42
       | 4,3,_,_=>exact absurd e n43
       | 4,4,_,_=>rfl
       | 4,5,_,_=>exact absurd e.symm n54
       | 5,0,_,_=>exact absurd e n50
       | 5,1,_,_=>exact absurd e n51
       | 5,2,_,_=>exact absurd e n52
       | 5,3,_,_=>exact absurd e n53
       | 5,4,_,_=>exact absurd e n54
       | 5,5,_,_=>rfl
       | n+6,_,h,_=>omega
       | _,n+6,_,h=>omega
     refine⟨_,rfl,x,t.zaz,dx,_,rfl,za2 zac (Ne.symm nx5),T.zb0.cl,T.zch,(by omega),dd d0 d1 d2 d3 d4 d5,rfl,⟨zac,λj hj=>?_⟩,inj,λb o e=>za2 (za2 (za2 (za2 (za2 (za2 (za2 (za2 (za2 (za2 (za2 (za2 (za2 (sx e).2 (sx e).1) (za3 (sx e).2 q0)) (sx e).1) (za3 (sx e).2 q1)) (sx e).1) (za3 (sx e).2 q2)) (sx e).1) (za3 (sx e).2 q3)) (sx e).1) (za3 (sx e).2 q4)) (sx e).1) (za3 (sx e).2 q5)) (sx e).1,λk=>?_⟩
     . match j,hj with
       | 0,_=>exact za2 (za2 (za2 (za2 (za2 (za2 (za2 (za2 (za2 (za2 (za2 zac nx0) (Ne.symm n10)) nx0) (Ne.symm n20)) nx0) (Ne.symm n30)) nx0) (Ne.symm n40)) nx0) (Ne.symm n50)) nx0
       | 1,_=>exact za2 (za2 (za2 (za2 (za2 (za2 (za2 (za2 (za2 zac nx1) (Ne.symm n21)) nx1) (Ne.symm n31)) nx1) (Ne.symm n41)) nx1) (Ne.symm n51)) nx1
       | 2,_=>exact za2 (za2 (za2 (za2 (za2 (za2 (za2 zac nx2) (Ne.symm n32)) nx2) (Ne.symm n42)) nx2) (Ne.symm n52)) nx2
       | 3,_=>exact za2 (za2 (za2 (za2 (za2 zac nx3) (Ne.symm n43)) nx3) (Ne.symm n53)) nx3
       | 4,_=>exact za2 (za2 (za2 zac nx4) (Ne.symm n54)) nx4
       | 5,_=>exact za2 zac nx5
       | n+6,h=>omega
     . match k with
       | 0=>exact(zct nx0).trans q0
       | 1=>exact(zct nx1).trans q1
       | 2=>exact(zct nx2).trans q2
       | 3=>exact(zct nx3).trans q3
       | 4=>exact(zct nx4).trans q4
       | n+5=>exact(zct nx5).trans q5
   rintro σ' G ⟨d,rfl,hFS,inj,hsm,hfd⟩;refine⟨_,rfl,p,rfl,⟨_,hsm.seq hS⟩,(let Jv1:Nat->St->Hp->Prop:=λi σ H2=>∃(v2 v3:Option V) (kv:Nat->List (Key×V)) (nl wl:Nat->Addr),σ=[some (.ref x),some (.ref p),v2,v3]/\zan (ers x H) H2/\FS t.zaz H2 x dx (zqg (V.str fz.name) d) d kv/\kv 0=kD (λi _=>.int i) (fns.take i)/\kv 1=kD (λ_ f=>f.fo) (fns.take i)/\kv 2=kD (λ_ f=>.ref f.pa) (fns.take i)/\kv 3=kD (λ_ f=>.ref f.ra) (fns.take i)/\kv 4=kD (λi _=>.ref (nl i)) (fns.take i)/\kv 5=kD (λi _=>.ref (wl i)) (fns.take i)/\(∀j g,j<i->fns[j]?=some g->hl H2 (nl j)=some (.lst ((nms g).map V.str))/\K13.FoundN (hl H2) (wl j) (kds g) (kds g).length)/\∀j,j<6->(kv j).length<=i; zu6 (xs:=fns.map λf=>V.ref f.fa) Jv1 ⟨_,_,_,λ_=>0,λ_=>0,rfl,hsm,hFS,rfl,rfl,rfl,rfl,rfl,rfl,λj g h=>absurd h (qcw _),λj hj=>qae _⟩ ?_ ?_ ?_)⟩
   . rintro i σ H2 hi ⟨v2,v3,kv,nlf,wlf,rfl,s2,_⟩;exact s2.seq hS
   . rintro i y σ H2 b hy ⟨v2,v3,kv,nlf,wlf,rfl,s2,o2,k0,k1,k2,k3,k4,k5,hnw,kl⟩ hb;obtain⟨f,hi,hm,rfl⟩:=zj7 hy;have ilt:i<fns.length:=(List.getElem?_eq_some_iff.mp hi).1;have hT:=(hE f hm).fn;have hfu:=(hE f hm).fu;have fit:∀{n:Nat},n<=i+1->n<sizeLine:=λ{n} h=>zwt (by omega);refine⟨b,_,rfl,SqT.of zac,rfl,_,_,rfl,_,_,rfl,rfl,?_⟩;have s3:=s2.trans (zan.new (o:=.tup [.int i,.ref f.fa]) hb);have o3:=o2.mono (zan.new (o:=.tup [.int i,.ref f.fa]) hb);refine⟨_,rfl,_,rfl,x,t.zaz,dx,_,_,rfl,o3.ob,T.zb0.cl,T.zb8,zvy _ _,_,rfl,f.fa,_,_,_,rfl,rfl,s3.tup hT,at0,d 0,_,rfl,zmc.k (k:=(Sum.inr f.name:Key)) (show _=some (HO.dK (kv 0)) from o3.dc 0 (by decide)) (fit (by have:=kl 0 (by decide); simpa using (by omega:_<=i+1))),?_⟩;have s4:=zan.upd (o:=.dK (zbd (kv 0) (Sum.inr f.name:Key) (V.int i))) s3 (hfd 0);have o4:=o3.put inj 0 (by decide) (zbd (kv 0) (Sum.inr f.name:Key) (V.int i));refine⟨_,rfl,f.fa,_,_,_,rfl,rfl,s4.tup hT,rfl,_,rfl,x,t.zaz,dx,_,_,rfl,o4.ob,T.zb0.cl,T.zb7,zw3 _ _,_,rfl,f.fa,_,_,_,rfl,rfl,s4.tup hT,at0,d 1,_,rfl,zmc.k (k:=(Sum.inr f.name:Key)) (show _=some (HO.dK (kv 1)) from o4.dc 1 (by decide)) (fit (by have:=kl 1 (by decide); simpa using (by omega:_<=i+1))),?_⟩;have s5:=zan.upd (o:=.dK (zbd (kv 1) (Sum.inr f.name:Key) f.fo)) s4 (hfd 1);have o5:=o4.put inj 1 (by decide) (zbd (kv 1) (Sum.inr f.name:Key) f.fo);refine⟨_,rfl,f.fa,_,_,_,rfl,rfl,s5.tup hT,rfl,_,rfl,x,t.zaz,dx,_,_,rfl,o5.ob,T.zb0.cl,T.zbr,zq7 _ _,_,rfl,f.fa,_,_,_,rfl,rfl,s5.tup hT,at0,d 2,_,rfl,zmc.k (k:=(Sum.inr f.name:Key)) (show _=some (HO.dK (kv 2)) from o5.dc 2 (by decide)) (fit (by have:=kl 2 (by decide); simpa using (by omega:_<=i+1))),?_⟩;have s6:=zan.upd (o:=.dK (zbd (kv 2) (Sum.inr f.name:Key) (.ref f.pa))) s5 (hfd 2);have o6:=o5.put inj 2 (by decide) (zbd (kv 2) (Sum.inr f.name:Key) (.ref f.pa));refine⟨_,rfl,f.fa,_,_,_,rfl,rfl,s6.tup hT,rfl,_,rfl,x,t.zaz,dx,_,_,rfl,o6.ob,T.zb0.cl,T.zcg,zvq _ _,_,rfl,f.fa,_,_,_,rfl,rfl,s6.tup hT,at0,d 3,_,rfl,zmc.k (k:=(Sum.inr f.name:Key)) (show _=some (HO.dK (kv 3)) from o6.dc 3 (by decide)) (fit (by have:=kl 3 (by decide); simpa using (by omega:_<=i+1))),?_⟩;have s7:=zan.upd (o:=.dK (zbd (kv 3) (Sum.inr f.name:Key) (.ref f.ra))) s6 (hfd 3);have o7:=o6.put inj 3 (by decide) (zbd (kv 3) (Sum.inr f.name:Key) (.ref f.ra));refine⟨_,rfl,f.fa,f.ps,f.ds,rfl,hfu.mono s7,λnl H8 e8 hnl hl8=>?_⟩;have s8:=s7.trans e8;have o8:=o7.mono e8;refine⟨_,rfl,x,t.zaz,dx,_,_,rfl,o8.ob,T.zb0.cl,T.zbp,zsr _ _,_,rfl,f.fa,_,_,_,rfl,rfl,s8.tup hT,at0,d 4,_,rfl,zmc.k (k:=(Sum.inr f.name:Key)) (show _=some (HO.dK (kv 4)) from o8.dc 4 (by decide)) (fit (by have:=kl 4 (by decide); simpa using (by omega:_<=i+1))),?_⟩;have s9:=zan.upd (o:=.dK (zbd (kv 4) (Sum.inr f.name:Key) (.ref nl))) s8 (hfd 4);have o9:=o8.put inj 4 (by decide) (zbd (kv 4) (Sum.inr f.name:Key) (.ref nl));refine⟨_,rfl,f.fa,_,_,_,rfl,rfl,s9.tup hT,rfl,f.ra,kds f,rfl,((hE f hm).old.mono s9).rows,(hE f hm).wf,(by unfold kds; rw[List.length_map]; have:=(hE f hm).len; omega),λwl HA eA hwl hfn=>?_⟩;have sA:=s9.trans eA;have oA:=o9.mono eA;refine⟨_,rfl,x,t.zaz,dx,_,_,rfl,oA.ob,T.zb0.cl,T.zch,zv3 _ _,_,rfl,f.fa,_,_,_,rfl,rfl,sA.tup hT,at0,d 5,_,rfl,zmc.k (k:=(Sum.inr f.name:Key)) (show _=some (HO.dK (kv 5)) from oA.dc 5 (by decide)) (fit (by have:=kl 5 (by decide); simpa using (by omega:_<=i+1))),?_⟩;have sB:=zan.upd (o:=.dK (zbd (kv 5) (Sum.inr f.name:Key) (.ref wl))) sA (hfd 5);have oB:=oA.put inj 5 (by decide) (zbd (kv 5) (Sum.inr f.name:Key) (.ref wl));have c3:zan (hl H2) (hl H8):=by have z1:zan (hl H2) (hl (upd H2 b (.tup [.int i,.ref f.fa]))):=(zan.new (o:=.tup [.int i,.ref f.fa]) hb).hl;have z2:=e8.hl;rw[zup (o6.dc 3 (by decide)),zup (o5.dc 2 (by decide)),zup (o4.dc 1 (by decide)),zup (o3.dc 0 (by decide))] at z2;exact z1.trans z2
     have c4:zan (hl H8) (hl HA):=by have z2:=eA.hl;rw[zup (o8.dc 4 (by decide))] at z2;exact z2
     have c5:hl (upd HA (d 5) (.dK (zbd (kv 5) (Sum.inr f.name:Key) (.ref wl))))=hl HA:=zup (oA.dc 5 (by decide));refine⟨_,_,_,λj=>if j=i then nl else nlf j,λj=>if j=i then wl else wlf j,rfl,sB,oB,?_,?_,?_,?_,?_,?_,λj g hj hg=>?_,λj hj=>?_⟩
     . show zbd (kv 0) (Sum.inr f.name:Key) (V.int i)=_;rw[k0];exact zm0 hi nd (λ_ _ _=>rfl) rfl
     . show zbd (kv 1) (Sum.inr f.name:Key) f.fo=_;rw[k1];exact zm0 hi nd (λ_ _ _=>rfl) rfl
     . show zbd (kv 2) (Sum.inr f.name:Key) (.ref f.pa)=_;rw[k2];exact zm0 hi nd (λ_ _ _=>rfl) rfl
     . show zbd (kv 3) (Sum.inr f.name:Key) (.ref f.ra)=_;rw[k3];exact zm0 hi nd (λ_ _ _=>rfl) rfl
     . show zbd (kv 4) (Sum.inr f.name:Key) (.ref nl)=_;rw[k4];exact zm0 hi nd (λj _ hj=>by show V.ref (nlf j)=V.ref (if j=i then nl else nlf j); rw[if_neg (by omega)]) (by show V.ref nl=V.ref (if i=i then nl else nlf i); rw[if_pos rfl])
     . show zbd (kv 5) (Sum.inr f.name:Key) (.ref wl)=_;rw[k5];exact zm0 hi nd (λj _ hj=>by show V.ref (wlf j)=V.ref (if j=i then wl else wlf j); rw[if_neg (by omega)]) (by show V.ref wl=V.ref (if i=i then wl else wlf i); rw[if_pos rfl])
     . rw[c5];by_cases hji:j=i
       . subst hji;rw[hi] at hg;cases hg;refine⟨?_,?_⟩
         . show hl HA (if j=j then nl else nlf j)=_;rw[if_pos rfl];exact c4 _ _ (zz8 hl8)
         . show K13.FoundN (hl HA) (if j=j then wl else wlf j) _ _;rw[if_pos rfl];exact hfn.hl
       . obtain⟨y1,y2⟩:=hnw j g (by omega) hg;refine⟨?_,?_⟩
         . show hl HA (if j=i then nl else nlf j)=_;rw[if_neg hji];exact c4 _ _ (c3 _ _ y1)
         . show K13.FoundN (hl HA) (if j=i then wl else wlf j) _ _;rw[if_neg hji];exact y2.mono (c3.trans c4)
     . have e:=kl j hj
       match j,hj with
       | 0,_=>exact Nat.le_trans (zbi _ _ _) (by omega)
       | 1,_=>exact Nat.le_trans (zbi _ _ _) (by omega)
       | 2,_=>exact Nat.le_trans (zbi _ _ _) (by omega)
       | 3,_=>exact Nat.le_trans (zbi _ _ _) (by omega)
       | 4,_=>exact Nat.le_trans (zbi _ _ _) (by omega)
       | 5,_=>exact Nat.le_trans (zbi _ _ _) (by omega)
       | n+6,h=>omega
   . rintro σ H2 ⟨v2,v3,kv,nlf,wlf,rfl,s2,o2,k0,k1,k2,k3,k4,k5,hnw,kl⟩;rw[fl,qbs] at k0 k1 k2 k3 k4 k5;exact q H2 s2 ⟨λf hf=>(hE f hf).mono s2,nd,dx,fz,d,kv,nlf,wlf,hz,o2,k0,k1,k2,k3,k4,k5,λi f hi=>let ⟨y1,y2⟩:=hnw i f (by rw[fl]; exact(List.getElem?_eq_some_iff.mp hi).1) hi; ⟨zsa _ _ y1,y2.mono zsa⟩⟩
end
end K26
namespace K26
open PySem L2 K21
section
variable {P:Program} {w:World} {K:W.Frag} {mg:Str->Option Value} {base:Heap} {t:Adr}
theorem zyg:FnScope ["sign","one","other"] ["sign","one","other"] (zai zpc):=⟨rfl,rfl,rfl,by decide +kernel,rfl,by decide +kernel,by decide +kernel⟩
theorem zzt (T:Txt K mg t):FnOk P w K mg base CX0 1 t.zxt t.zx0 ["sign","one","other"] (zzp K):=by
 refine T.value.F.ok zyg (λvs H Q E h=>?_) (λcdv A outer s H vs Q E hr h=>?_)
 . obtain⟨s,a,b,rfl,h1,h2,h3,h4,q⟩:=h;rfl
 . obtain⟨s,a,b,rfl,h1,h2,h3,h4,q⟩:=h;refine⟨_,(@zab _ _ _ _ _ (@zbq _ _ _ _ _ _ _ _ (@zat _ _ _ _ _ _ _ _ zc8 (pv 0) za5 (za1 _)) (@zah _ _ _ (@zau _ _ _ _ (@zaw _ _ _ _ _ _ _ _ zbt (@zaw _ _ _ _ _ _ _ _ zdx (pv 1) (pv 2)) (zse T.zxv)))) zas) (@zab _ _ _ _ _ (@zbq _ _ _ _ _ _ _ _ (@zat _ _ _ _ _ _ _ _ zc8 (pv 0) za5 (za1 _)) (@zah _ _ _ (@zau _ _ _ _ (@zaw _ _ _ _ _ _ _ _ zbt (@zaw _ _ _ _ _ _ _ _ zqm (pv 1) (pv 2)) (zse T.zxv)))) zas) (@zab _ _ _ _ _ (@zbq _ _ _ _ _ _ _ _ (@zat _ _ _ _ _ _ _ _ zc8 (pv 0) za5 (za1 _)) (@zah _ _ _ (@zau _ _ _ _ (@zaw _ _ _ _ _ _ _ _ zbt (@zaw _ _ _ _ _ _ _ _ zmm (pv 1) (pv 2)) (zse T.zxv)))) zas) (@zab _ _ _ _ _ (@zbq _ _ _ _ _ _ _ _ (@zat _ _ _ _ _ _ _ _ zc8 (pv 0) za5 (za1 _)) (@zah _ _ _ (@zau _ _ _ _ (@ziu _ _ _ _ _ _ _ _ (@zat _ _ _ _ _ _ _ _ zc8 (pv 2) zad (za1 _)) zad (@zaw _ _ _ _ _ _ _ _ zzb (pv 1) (pv 2))))) zas) (@zab _ _ _ _ _ (@zbq _ _ _ _ _ _ _ _ (@zat _ _ _ _ _ _ _ _ zc8 (pv 0) za5 (za1 _)) (@zah _ _ _ (@zau _ _ _ _ (@ziu _ _ _ _ _ _ _ _ (@zat _ _ _ _ _ _ _ _ zxd (pv 1) (pv 2) (za1 _)) zad zad))) zas) (@zab _ _ _ _ _ (@zbq _ _ _ _ _ _ _ _ (@zat _ _ _ _ _ _ _ _ zc8 (pv 0) za5 (za1 _)) (@zah _ _ _ (@zau _ _ _ _ (@ziu _ _ _ _ _ _ _ _ (@zat _ _ _ _ _ _ _ _ zc8 (pv 1) (pv 2) (za1 _)) zad zad))) zas) (@zab _ _ _ _ _ (@zbq _ _ _ _ _ _ _ _ (@zat _ _ _ _ _ _ _ _ zc8 (pv 0) za5 (za1 _)) (@zah _ _ _ (@zau _ _ _ _ (@zaw _ _ _ _ _ _ _ _ z0e (pv 1) (pv 2)))) zas) (@zab _ _ _ _ _ (@zbq _ _ _ _ _ _ _ _ (@zat _ _ _ _ _ _ _ _ zc8 (pv 0) za5 (za1 _)) (@zah _ _ _ (@zau _ _ _ _ (@zaw _ _ _ _ _ _ _ _ z5l (pv 1) (pv 2)))) zas) (@zah _ _ _ (@zau _ _ _ _ (@zaw _ _ _ _ _ _ _ _ z3g (pv 1) (pv 2)))))))))))),?_⟩;have hw:wide=281474976710656:=rfl;refine⟨_,rfl,rfl,_,rfl,?_⟩;by_cases k1:s="+"
   . refine zh8 (decide_eq_true (congrArg V.str k1)) ?_;have e:valOf s a b=(a+b)%wide:=by unfold valOf; rw[if_pos k1]
     rw[e] at q;exact⟨_,rfl,_,rfl,_,_,rfl,rfl,_,_,rfl,rfl,(show(0:Int)<281474976710656 by decide),q⟩
   refine zha (λz=>k1 (V.str.inj (zby z))) ?_;refine⟨_,rfl,rfl,_,rfl,?_⟩;by_cases k2:s="-"
   . refine zh8 (decide_eq_true (congrArg V.str k2)) ?_;have e:valOf s a b=(a - b)%wide:=by unfold valOf; rw[if_neg k1,if_pos k2]
     rw[e] at q;exact⟨_,rfl,_,rfl,_,_,rfl,rfl,_,_,rfl,rfl,(show(0:Int)<281474976710656 by decide),q⟩
   refine zha (λz=>k2 (V.str.inj (zby z))) ?_;refine⟨_,rfl,rfl,_,rfl,?_⟩;by_cases k3:s="*"
   . refine zh8 (decide_eq_true (congrArg V.str k3)) ?_;have e:valOf s a b=(a * b)%wide:=by unfold valOf; rw[if_neg k1,if_neg k2,if_pos k3]
     rw[e] at q;exact⟨_,rfl,_,rfl,_,_,rfl,rfl,.inl ⟨by omega,by omega⟩,_,_,rfl,rfl,(show(0:Int)<281474976710656 by decide),q⟩
   refine zha (λz=>k3 (V.str.inj (zby z))) ?_;refine⟨_,rfl,rfl,_,rfl,?_⟩;by_cases k4:s="/"
   . refine zh8 (decide_eq_true (congrArg V.str k4)) ?_;have e:valOf s a b=if b=0 then 0 else a / b:=by unfold valOf; rw[if_neg k1,if_neg k2,if_neg k3,if_pos k4]
     rw[e] at q;refine⟨_,rfl,rfl,_,rfl,?_⟩;by_cases hb:b=0
     . rw[if_pos hb] at q;exact zh8 (decide_eq_true (congrArg V.int hb)) q
     . rw[if_neg hb] at q;exact zha (λz=>hb (V.int.inj (zby z))) ⟨_,rfl,_,rfl,_,_,rfl,rfl,⟨by omega,by omega⟩,q⟩
   refine zha (λz=>k4 (V.str.inj (zby z))) ?_;refine⟨_,rfl,rfl,_,rfl,?_⟩;by_cases k5:s="<"
   . refine zh8 (decide_eq_true (congrArg V.str k5)) ?_;have e:valOf s a b=if a<b then 1 else 0:=by unfold valOf; rw[if_neg k1,if_neg k2,if_neg k3,if_neg k4,if_pos k5]
     rw[e] at q;refine⟨_,rfl,_,rfl,_,_,rfl,rfl,_,rfl,?_⟩;by_cases hb:a<b
     . rw[if_pos hb] at q;exact zh8 (decide_eq_true hb) q
     . rw[if_neg hb] at q;exact zha (λz=>hb (zby z)) q
   refine zha (λz=>k5 (V.str.inj (zby z))) ?_;refine⟨_,rfl,rfl,_,rfl,?_⟩;by_cases k6:s="="
   . refine zh8 (decide_eq_true (congrArg V.str k6)) ?_;have e:valOf s a b=if a=b then 1 else 0:=by unfold valOf; rw[if_neg k1,if_neg k2,if_neg k3,if_neg k4,if_neg k5,if_pos k6]
     rw[e] at q;refine⟨_,rfl,_,rfl,rfl,_,rfl,?_⟩;by_cases hb:a=b
     . rw[if_pos hb] at q;exact zh8 (decide_eq_true (congrArg V.int hb)) q
     . rw[if_neg hb] at q;exact zha (λz=>hb (V.int.inj (zby z))) q
   refine zha (λz=>k6 (V.str.inj (zby z))) ?_;refine⟨_,rfl,rfl,_,rfl,?_⟩;by_cases k7:s="&"
   . refine zh8 (decide_eq_true (congrArg V.str k7)) ?_;have e:valOf s a b=Builtin.bitAnd a b:=by unfold valOf bw; rw[if_neg k1,if_neg k2,if_neg k3,if_neg k4,if_neg k5,if_neg k6,if_pos k7]
     rw[e] at q;exact⟨_,rfl,_,rfl,_,_,rfl,rfl,q⟩
   refine zha (λz=>k7 (V.str.inj (zby z))) ?_;refine⟨_,rfl,rfl,_,rfl,?_⟩;by_cases k8:s="|"
   . refine zh8 (decide_eq_true (congrArg V.str k8)) ?_;have e:valOf s a b=Builtin.bitOr a b:=by unfold valOf bw; rw[if_neg k1,if_neg k2,if_neg k3,if_neg k4,if_neg k5,if_neg k6,if_neg k7,if_pos k8]
     rw[e] at q;exact⟨_,rfl,_,rfl,_,_,rfl,rfl,q⟩
   refine zha (λz=>k8 (V.str.inj (zby z))) ?_;have e:valOf s a b=Builtin.bitXor a b:=by unfold valOf bw; rw[if_neg k1,if_neg k2,if_neg k3,if_neg k4,if_neg k5,if_neg k6,if_neg k7,if_neg k8]
   rw[e] at q;exact⟨_,rfl,_,rfl,_,_,rfl,rfl,q⟩
end
end K26
namespace K26
open PySem L2 Gx Fl Wk
section
variable {P:Program} {w:World} {K:W.Frag} {mg:Str->Option Value} {base:Heap} {t:Adr}
theorem zn0:FnScope ["self","program"] ["self","program"] (zai zfp):=⟨rfl,rfl,rfl,by decide +kernel,rfl,by decide +kernel,by decide +kernel⟩
theorem zn2 (T:Txt K mg t):FnOk P w K mg base CX0 6 t.zkz t.zk2 ["self","program"] (zn1 K t):=by
 have G_Flows_init:=zo2 (P:=P) (w:=w) (base:=base) T;refine T.zjy.F.ok zn0 (λvs H Q E h=>?_) (λcdv A outer s H vs Q E hr h=>?_)
 . obtain⟨x,dx,p,fns,rfl,hx,hp,hne,hlen,hall,hnd,q⟩:=h;rfl
 . obtain⟨x,dx,p,fns,rfl,hx,hp,hne,hlen,hall,hnd,q⟩:=h;refine⟨_,(@zab _ _ _ _ _ (zek (pv 0) (zzn T.zb0 T.zoi G_Flows_init (hr.mono (by decide)) (@zaa _ _ _ _ _ (pv 1) zaf (by rfl))) (by rfl)) (@zab _ _ _ _ _ (zek (pv 0) (@zdj _ _ _ _ zaf) (by rfl)) (@zab _ _ _ _ _ (zek (pv 0) zi7 (by rfl)) (@zab _ _ _ _ _ (zek (pv 0) (@zdj _ _ _ _ zaf) (by rfl)) (@zab _ _ _ _ _ (zek (pv 0) zya (by rfl)) (@zah _ _ _ (zek (pv 0) zad (by rfl)))))))),?_⟩;refine⟨_,rfl,λfl fdx hfl hfdx nfd=>?_⟩;have nxf:x≠fl:=λz=>by rw[<- z,hx] at hfl; cases hfl
   have nxd:x≠fdx:=λz=>by rw[<- z,hx] at hfdx; cases hfdx
   have sE:zan (ers x H) (ers fl (upd (upd H fdx (.own fl)) fl (.ins t.zaz fdx []))):=λb o hb=>by
     unfold L2.ers at hb;split at hb
     . cases hb
     . have n1:b≠fl:=λz=>by rw[z,hfl] at hb; cases hb
       have n2:b≠fdx:=λz=>by rw[z,hfdx] at hb; cases hb
       rw[zct n1,zag n1,zag n2];exact hb
   refine⟨fl,fdx,p,fns,rfl,zac,sE.seq hp,hne,hlen,λf hf=>(hall f hf).mono sE,hnd,λH2 s2 hFl=>⟨rfl,?_⟩⟩;have hx2:H2 x=some (.ins t.zal dx []):=s2 _ _ (by rw[zct nxf,zag nxf,zag nxd]; exact hx);have sb:zan (ers x H) (ers x H2):=λb o hb=>by
     have nb:b≠x:=λz=>by rw[z] at hb; unfold L2.ers at hb; rw[if_pos rfl] at hb; cases hb
     rw[zct nb];exact s2 _ _ (sE _ _ hb)
   have hFb:F2.FlowsAt K t.zaz (ers x H2) fl fns:=zy6 hFl (λb o hb hn=>by
     have nb:b≠x:=λz=>by rw[z,hx2] at hb; cases hb; exact hn _ _ _ rfl
     rw[zct nb];exact hb) (λo ho=>by rw[zct nxf.symm]; exact ho)
   refine⟨_,rfl,x,_,_,_,rfl,hx2,T.zae.cl,T.zay,(by decide),le0,λst hst=>⟨_,rfl,x,_,_,_,rfl,zan.new hst _ _ zac,T.zae.cl,T.zao,qbw (zsn _ _ _ 0 (qae 0)) (by decide),_,rfl,x,_,_,_,rfl,zac,T.zae.cl,T.zbc,qbw (zsn _ _ _ 1 (zsn _ _ _ 0 (qae 0))) (by decide),le0,λsd hsd=>⟨_,rfl,x,_,_,_,rfl,zan.new hsd _ _ zac,T.zae.cl,T.zbw,qbw (zsn _ _ _ 2 (zsn _ _ _ 1 (zsn _ _ _ 0 (qae 0)))) (by decide),λct hct=>⟨_,rfl,x,_,_,_,rfl,zan.new hct _ _ zac,T.zae.cl,T.zbv,qbw (zsn _ _ _ 3 (zsn _ _ _ 2 (zsn _ _ _ 1 (zsn _ _ _ 0 (qae 0))))) (by decide),_,rfl,x,_,_,_,rfl,zac,T.zae.cl,T.zb3,qbw (zsn _ _ _ 4 (zsn _ _ _ 3 (zsn _ _ _ 2 (zsn _ _ _ 1 (zsn _ _ _ 0 (qae 0)))))) (by decide),?_⟩⟩⟩⟩;have nst:st≠x:=λz=>by rw[z,zac] at hst; cases hst
   have hst2:H2 st=none:=by rwa [zag nst] at hst
   have nsd:sd≠x:=λz=>by rw[z,zac] at hsd; cases hsd
   rw[zag nsd,zag nsd] at hsd;have nss:sd≠st:=λz=>by rw[z,zac] at hsd; cases hsd
   have hsd2:H2 sd=none:=by rwa [zag nss,zag nsd] at hsd
   have nct:ct≠x:=λz=>by rw[z,zac] at hct; cases hct
   rw[zag nct] at hct;have ncd:ct≠sd:=λz=>by rw[z,zac] at hct; cases hct
   rw[zag ncd,zag nct,zag nct] at hct;have ncs:ct≠st:=λz=>by rw[z,zac] at hct; cases hct
   have hct2:H2 ct=none:=by rwa [zag ncs,zag nct] at hct
   have hb0:∀{b:Addr},H2 b=none->ers x H2 b=none:=λ{b} hb=>by
     unfold L2.ers;split
     . rfl
     . exact hb
   have fin:∀b o,ers x H2 b=some o->b≠x/\b≠st/\b≠sd/\b≠ct/\H2 b=some o:=λb o hb=>by
     unfold L2.ers at hb;split at hb
     . cases hb
     . rename_i nb
       exact⟨nb,(λz=>by rw[z,hst2] at hb; cases hb),(λz=>by rw[z,hsd2] at hb; cases hb),(λz=>by rw[z,hct2] at hb; cases hb),hb⟩
   refine q (ers x H2) ⟨x,dx,st,sd,ct,fl⟩ _ rfl sb ⟨λb o hb=>?_,zac,?_,?_,?_,(λf hf=>by cases hf),qd0,qd0,nss.symm,(λf hf=>by cases hf),⟨ncs,ncd,nct⟩,(λf hf=>by cases hf),?_,hb0 hst2,hb0 hsd2,hb0 hct2,(λf hf=>by cases hf)⟩ hFb
   . obtain⟨n1,n2,n3,n4,e⟩:=fin b o hb;rw[zag n1,zag n1,zag n4,zag n1,zag n3,zag n1,zag n1,zag n2,zag n1];exact e
   . show upd _ x _ st=_;rw[zag nst,zag nst,zag ncs.symm,zag nst,zag nss.symm,zag nst,zag nst,zac];rfl
   . show upd _ x _ sd=_;rw[zag nsd,zag nsd,zag ncd.symm,zag nsd,zac]
   . show upd _ x _ ct=_;rw[zag nct,zag nct,zac]
   . show ers x H2 x=none;unfold L2.ers;rw[if_pos rfl]
theorem zml:FnScope ["self"] ["self"] (zai zex):=⟨rfl,rfl,rfl,by decide +kernel,rfl,by decide +kernel,by decide +kernel⟩
theorem zia (T:Txt K mg t):FnOk P w K mg base CX0 1 t.zjh t.zjj ["self"] (zmo K t):=by
 refine T.ze4.F.ok zml (λvs H Q E h=>?_) (λcdv A outer s H vs Q E hr h=>?_)
 . obtain⟨Hb,w,fs,oc,sent,cn,rfl,h,q⟩:=h;rfl
 . obtain⟨Hb,w,fs,oc,sent,cn,rfl,h,q⟩:=h;refine⟨_,(@zab _ _ _ _ _ (@zau _ _ _ _ (zmy zc8 (zbs zbo (by rfl) T.b_len zhv (@zaa _ _ _ _ _ (zbh (pv 0) (by rfl)) zaf (by rfl))) zad (za1 _))) zas),?_⟩;refine⟨_,rfl,w.a,_,_,_,_,rfl,h.o,T.zae.cl,T.zao,rfl,w.st,_,rfl,.inl (SqL.of h.st),rfl,vq (congrArg V.bl ?_) q⟩;rw[qb1,decide_eq_true_eq,decide_eq_true_eq];cases fs with
   | nil=>exact⟨λ_=>rfl,λ_=>rfl⟩
   | cons f r=>exact⟨(λz=>by have:=V.int.inj z; simp at this; omega),λz=>by cases z⟩
theorem zl9:FnScope ["self"] ["self"] (zai zd6):=⟨rfl,rfl,rfl,by decide +kernel,rfl,by decide +kernel,by decide +kernel⟩
theorem zl4 (T:Txt K mg t):FnOk P w K mg base CX0 1 t.zin t.ziq ["self"] (zl8 K t):=by
 refine T.zhr.F.ok zl9 (λvs H Q E h=>?_) (λcdv A outer s H vs Q E hr h=>?_)
 . obtain⟨Hb,w,fs,oc,sent,cn,rfl,h,q⟩:=h;rfl
 . obtain⟨Hb,w,fs,oc,sent,cn,rfl,h,q⟩:=h;refine⟨_,(@zab _ _ _ _ _ (@zau _ _ _ _ (zbh (pv 0) (by rfl))) zas),?_⟩;exact⟨_,rfl,w.a,_,_,_,_,rfl,h.o,T.zae.cl,T.zbc,rfl,q⟩
theorem zmn:FnScope ["self","record","name"] ["self","record","name"] (zai zev):=⟨rfl,rfl,rfl,by decide +kernel,rfl,by decide +kernel,by decide +kernel⟩
theorem zmw (T:Txt K mg t):FnOk P w K mg base CX0 1 t.zji t.zjk ["self","record","name"] (zm6 K t):=T.zil.F.ok zmn (λvs H Q E h=>h.elim) (λcdv A outer s H vs Q E hr h=>h.elim)
theorem zh3:FnScope ["self","frame"] ["self","frame"] (zai zco):=⟨rfl,rfl,rfl,by decide +kernel,rfl,by decide +kernel,by decide +kernel⟩
theorem zel (T:Txt K mg t):FnOk P w K mg base CX0 1 t.ze5 t.ze8 ["self","frame"] (zh4 K t):=by
 refine T.zcc.F.ok zh3 (λvs H Q E h=>?_) (λcdv A outer s H vs Q E hr h=>?_)
 . obtain⟨x,f,rfl,h,q⟩:=h;rfl
 . obtain⟨x,f,rfl,h,q⟩:=h;refine⟨_,(@zab _ _ _ _ _ (@zau _ _ _ _ (@zdj _ _ _ _ (@zaa _ _ _ _ _ (@zck _ _ _ _ _ (@zaa _ _ _ _ _ (zbh (pv 1) (by rfl)) (@zaa _ _ _ _ _ (zbh (pv 1) (by rfl)) zaf (by rfl)) (by rfl))) zaf (by rfl)))) zas),?_⟩;refine⟨_,rfl,f.a,_,_,_,_,rfl,h.o,T.zaq.cl,T.za8,rfl,_,rfl,f.a,_,_,_,_,rfl,h.o,T.zaq.cl,T.zbm,rfl,le2,λtp htp=>⟨le1,λl hl=>?_⟩⟩;have ne:l≠tp:=λz=>by rw[z,zac] at hl; cases hl
   exact q tp l htp (by rwa [zag ne] at hl) ne
theorem zfd:FnScope ["self","found","frame"] ["self"] (zai zd5):=⟨rfl,rfl,rfl,by decide +kernel,rfl,by decide +kernel,by decide +kernel⟩
theorem zl6 (T:Txt K mg t):FnOk P w K mg base CX0 2 t.zio t.zir ["self"] (zl2 K t):=by
 have G_TextWalker_chain_of:=zel (P:=P) (w:=w) (base:=base) T;refine T.zhs.F.ok zfd (λvs H Q E h=>?_) (λcdv A outer s H vs Q E hr h=>?_)
 . obtain⟨Hb,w,fs,oc,sent,cn,rfl,h,hl,q⟩:=h;rfl
 . obtain⟨Hb,w,fs,oc,sent,cn,rfl,h,hl,q⟩:=h;refine⟨_,(@zab _ _ _ _ _ (@zax _ _ 1 _ _ _ _ zfd.nd rfl (Or.inl rfl) (@zdj _ _ _ _ zaf) (by rfl) (by first|exact .inl rfl|exact .inr rfl|assumption)) (@zab _ _ _ _ _ (zeb PassesOwn.never rfl (zgx (zbh (pv 0) (by rfl))) (za0 (i:=2) zfd.nd rfl (Or.inl rfl)) (@zah _ _ _ (@zbl _ _ _ _ (zj8 qay qdv qdw zpz (pv 1) (@zaa _ _ _ _ _ (za9 (pv 0) T.zae.cl T.zcc.m G_TextWalker_chain_of (hr.mono (by decide)) T.zcc.b .nil zcu (@zaa _ _ _ _ _ (pv 2) zaf (by rfl))) zaf (by rfl))) (by rfl)))) (@zah _ _ _ (@zau _ _ _ _ (pv 1))))),?_⟩;refine⟨le0,λl hl0=>?_⟩;generalize e:upd H l _=H1;have ⟨s1,e1⟩:=nw e hl0;have h1:=h.grow s1;refine⟨_,rfl,w.a,_,_,_,_,rfl,h1.o,T.zae.cl,T.zao,rfl,w.st,rfl,⟨_,SqL.of h1.st⟩,zj6 (xs:=fs.map λf=>V.ref f.a) (λi σ H2=>∃(tps:List Addr) (v2:Option V),σ=[some (.ref w.a),some (.ref l),v2]/\zan H H2/\H2 l=some (.lst (tps.map V.ref))/\tps.length=i/\∀(k:Nat) f tp,fs[k]?=some f->tps[k]?=some tp->H tp=none/\tp≠l/\H2 tp=some (z0o f)) ⟨[],_,rfl,s1,e1,rfl,λk f tp _ h=>by simp at h⟩ ?_ ?_ ?_⟩
   . rintro i σ H2 hi ⟨tps,v2,rfl,s2,_⟩;exact SqL.of (s2 _ _ h.st)
   . rintro i x σ H2 hx ⟨tps,v2,rfl,s2,e2,hlen,hat⟩;obtain⟨f,hf,hfm,rfl⟩:=zj7 hx;have h2:=h.grow s2;have hF:=h2.fr f hfm;have hi:=(List.getElem?_eq_some_iff.mp hf).1;refine⟨_,rfl,.inl ⟨rfl,_,SqL.of e2⟩,_,rfl,w.a,_,_,rfl,h2.o,rfl,_,rfl,.ref w.a,f,rfl,hF,λtp l2 htp hl2 ne=>?_⟩;have sA:=zan.new (o:=z0o f) htp;have hl2':upd H2 tp (z0o f) l2=none:=by rw[zag ne]; exact hl2
     have sB:=zan.new (o:=.lst [.ref tp]) hl2';have ntp:tp≠l:=λz=>by rw[z,e2] at htp; cases htp
     refine⟨l,l2,tps.map V.ref,[.ref tp],rfl,rfl,sB _ _ (sA _ _ e2),zac,(by rw[List.length_map,hlen]; show i+1<=sizeLine; exact qbq (zba (by omega))),tps++[tp],_,rfl,((s2.trans sA).trans sB).upd hl0,?_,by rw[List.length_append,hlen]; rfl,λk g tq hg hq=>?_⟩
     . rw[List.map_append]; exact zac
     . rcases qa4 k tps.length with hk|hk
       . rw[qa3 hk] at hq;obtain⟨a1,a2,a3⟩:=hat k g tq hg hq;exact⟨a1,a2,by rw[zag a2]; exact sB _ _ (sA _ _ a3)⟩
       . rw[qbn hk] at hq;have hk0:k - tps.length=0:=by have:=(List.getElem?_eq_some_iff.mp hq).1;simp at this;omega
         rw[hk0] at hq;cases hq;have hki:k=i:=by omega
         rw[hki,hf] at hg;cases hg;refine⟨s2.free htp,ntp,?_⟩;rw[zag ntp];exact sB _ _ zac
   . rintro σ H2 ⟨tps,v2,rfl,s2,e2,hlen,hat⟩;rw[List.length_map] at hlen;exact⟨_,rfl,q l H2 tps hl0 s2 e2 hlen hat⟩
theorem zh0:FnScope ["self","level"] ["self","level"] (zai zcj):=⟨rfl,rfl,rfl,by decide +kernel,rfl,by decide +kernel,by decide +kernel⟩
theorem zem (T:Txt K mg t):FnOk P w K mg base CX0 2 t.ze6 t.ze9 ["self","level"] (zh1 K t):=by
 have G_TextWalker_chain_of:=zel (P:=P) (w:=w) (base:=base) T;refine T.zce.F.ok zh0 (λvs H Q E h=>?_) (λcdv A outer s H vs Q E hr h=>?_)
 . obtain⟨Hb,w,fs,oc,sent,cn,z,rfl,h,q1,q2⟩:=h;rfl
 . obtain⟨Hb,w,fs,oc,sent,cn,z,rfl,h,q1,q2⟩:=h;refine⟨_,(@zab _ _ _ _ _ (@zbq _ _ _ _ _ _ _ _ (@PW.pt _ _ _ (zrn (@zat _ _ _ _ _ _ _ _ zxd (pv 1) zad (za1 _)) (ztd (@zat _ _ _ _ _ _ _ _ z41 (pv 1) (zbs zbo (by rfl) T.b_len zhv (@zaa _ _ _ _ _ (zbh (pv 0) (by rfl)) zaf (by rfl))) (za1 _))))) (@zah _ _ _ (@zau _ _ _ _ zi7)) zas) (@zah _ _ _ (@zau _ _ _ _ (@zaj _ _ _ _ _ _ _ zak (za9 (pv 0) T.zae.cl T.zcc.m G_TextWalker_chain_of (hr.mono (by decide)) T.zcc.b .nil zcu (@zaa _ _ _ _ _ (@zaj _ _ _ _ _ _ _ zak (zbh (pv 0) (by rfl)) (pv 1) (λ_ _=>rfl)) zaf (by rfl))) zad (λ_ _=>rfl))))),?_⟩;by_cases h0:z<0
   . exact⟨_,rfl,_,_,rfl,rfl,_,rfl,zh8 (decide_eq_true h0) (z0a (q2 (.inl h0)))⟩
   refine⟨_,rfl,_,_,rfl,rfl,_,rfl,zha (by rw[decide_eq_true_eq]; exact h0) ⟨_,rfl,_,rfl,w.a,_,_,_,_,rfl,h.o,T.zae.cl,T.zao,rfl,w.st,_,rfl,.inl (SqL.of h.st),_,_,rfl,rfl,_,rfl,?_⟩⟩;by_cases h1:(fs.length:Int)<=z
   . exact zh8 (decide_eq_true (by rw[List.length_map]; exact h1)) (q2 (.inr h1))
   refine zha (by rw[decide_eq_true_eq,List.length_map]; exact h1) ?_;obtain⟨i,rfl⟩:=qb0 (by omega:0<=z);have hi:i<fs.length:=by omega
   have hf:fs[i]?=some fs[i]:=List.getElem?_eq_getElem hi;have hF:=h.fr fs[i] (qcn hi);refine⟨_,rfl,w.a,_,_,rfl,h.o,rfl,_,rfl,w.a,_,_,_,_,rfl,h.o,T.zae.cl,T.zao,rfl,_,rfl,w.st,_,_,_,rfl,rfl,SqL.of h.st,zll (by omega) (by rw[qbe]; exact hf),.ref w.a,fs[i],rfl,hF,λtp l htp hl ne=>⟨l,_,_,_,rfl,rfl,SqL.of zac,at0,?_⟩⟩;have s1:=zan.new (o:=z0o fs[i]) htp;have hl':upd H tp (z0o fs[i]) l=none:=by rw[zag ne]; exact hl
   exact q1 i fs[i] rfl hf tp _ htp (s1.trans (zan.new hl')) (zan.new hl' _ _ zac)
theorem zhn:FnScope ["self","level"] ["self","level"] (zai zci):=⟨rfl,rfl,rfl,by decide +kernel,rfl,by decide +kernel,by decide +kernel⟩
theorem zhh (T:Txt K mg t):FnOk P w K mg base (CXe P w) 3 t.zeo t.zep ["self","level"] (zhe K t):=by
 have G_TextWalker_shown_at:=zem (P:=P) (w:=w) (base:=base) T;refine T.zdv.F.okE zhn (λvs H Q E h=>?_) (λcdv A outer s H vs Q E hr h=>?_)
 . obtain⟨Hb,w,fs,oc,sent,cn,z,rfl,h,q1,q2⟩:=h;rfl
 . obtain⟨Hb,w,fs,oc,sent,cn,z,rfl,h,q1,q2⟩:=h;refine⟨_,(@zab _ _ _ _ _ (@zbq _ _ _ _ _ _ _ _ (zti (z3a (za9 (pv 0) T.zae.cl T.zce.m G_TextWalker_shown_at (hr.mono (by decide)) T.zce.b .nil zcu (@zaa _ _ _ _ _ (pv 1) zaf (by rfl))))) (@zah _ _ _ (zwx T.zb6 T.i0_NoName rfl ztu)) zas) zas),?_⟩;exact⟨_,rfl,w.a,_,_,rfl,h.o,rfl,_,rfl,Hb,w,fs,oc,sent,cn,z,rfl,h,(λi f hz hf tp H1 htp s1 e1=>⟨_,rfl,zha (by simp) (q1 (by have:=(List.getElem?_eq_some_iff.mp hf).1; omega) H1 s1)⟩),(λhz=>⟨_,rfl,zh8 rfl (q2 hz H (zan.refl _))⟩)⟩
theorem zkn:FnScope ["self","level"] ["self","level"] (zai zdt):=⟨rfl,rfl,rfl,by decide +kernel,rfl,by decide +kernel,by decide +kernel⟩
theorem zj4 (T:Txt K mg t):FnOk P w K mg base CX0 3 t.zg2 t.zg7 ["self","level"] (zkw K t):=by
 have G_TextWalker_shown_at:=zem (P:=P) (w:=w) (base:=base) T;refine T.zf8.F.ok zkn (λvs H Q E h=>?_) (λcdv A outer s H vs Q E hr h=>?_)
 . obtain⟨Hb,w,fs,oc,sent,cn,i,f,fns,F,rfl,h,hf,hFl,hF,hn,q⟩:=h;rfl
 . obtain⟨Hb,w,fs,oc,sent,cn,i,f,fns,F,rfl,h,hf,hFl,hF,hn,q⟩:=h;refine⟨_,(@zab _ _ _ _ _ (@zau _ _ _ _ (zy3 (u1' hr.units) (zbh (zbh (pv 0) (by rfl)) (by rfl)) (@zaj _ _ _ _ _ _ _ zap (za9 (pv 0) T.zae.cl T.zce.m G_TextWalker_shown_at (hr.mono (by decide)) T.zce.b .nil zcu (@zaa _ _ _ _ _ (pv 1) zaf (by rfl))) zad (λ_ _=>rfl)) (@zck _ _ _ _ _ zaf) ⟨rfl,rfl,rfl,rfl⟩)) zas),?_⟩;have hFl:=hFl.mono h.b;obtain⟨nl,⟨dx,gs,d,kvs,e1,e2,e3,e4⟩,e5⟩:=ztn hFl hF;rw[hn] at e4;refine⟨_,rfl,w.a,_,_,_,_,rfl,h.o,T.zae.cl,T.zay,rfl,w.fl,_,_,_,_,rfl,e1,T.zb0.cl,T.zbp,e2,d,rfl,.inl ⟨_,.inl e3⟩,_,rfl,w.a,_,_,rfl,h.o,rfl,_,rfl,Hb,w,fs,oc,sent,cn,(i:Int),rfl,h,λi2 f2 hz hf2 tp H1 htp s1 t1=>?_,λhz=>?_⟩;rotate_left
   . have:=(List.getElem?_eq_some_iff.mp hf).1;omega
   have e2:i2=i:=by omega
   rw[e2,hf] at hf2;cases hf2;refine⟨tp,_,_,_,rfl,rfl,SqT.of t1,at0,le0,λte hte=>⟨_,zjn (zan.new hte _ _ (s1 _ _ e3)) e4,?_⟩⟩;exact q nl _ (s1.trans (zan.new hte)) (SqL.of (zan.new hte _ _ (s1 _ _ e5)))
theorem zh2:FnScope ["self","level","name"] ["self","level","name"] (zai zcn):=⟨rfl,rfl,rfl,by decide +kernel,rfl,by decide +kernel,by decide +kernel⟩
theorem zej (T:Txt K mg t):FnOk P w K mg base (CXe P w) 4 t.ze7 t.zfa ["self","level","name"] (zhz K t):=by
 have G_Walker_ask_for_level:=zhh (P:=P) (w:=w) (base:=base) T;have G_Walker_names_at:=zj4 (P:=P) (w:=w) (base:=base) T;refine T.zcf.F.okE zh2 (λvs H Q E h=>?_) (λcdv A outer s H vs Q E hr h=>?_)
 . obtain⟨Hb,w,fs,oc,sent,cn,z,n,fns,rfl,h,hFl,hall,q1,q2⟩:=h;rfl
 . obtain⟨Hb,w,fs,oc,sent,cn,z,n,fns,rfl,h,hFl,hall,q1,q2⟩:=h;refine⟨_,(@zab _ _ _ _ _ (@zbl _ _ _ _ (za9 (pv 0) T.zae.cl T.zdv.m G_Walker_ask_for_level (hr.mono (by decide)) T.zdv.b .nil z0c (@zaa _ _ _ _ _ (pv 1) zaf (by rfl))) (by rfl)) (@zah _ _ _ (@zbq _ _ _ _ _ _ _ _ (@zat _ _ _ _ _ _ _ _ zqn (pv 2) (za9 (pv 0) T.zae.cl T.zf8.m G_Walker_names_at (hr.mono (by decide)) T.zf8.b .nil zcu (@zaa _ _ _ _ _ (pv 1) zaf (by rfl))) (by with_unfolding_all rfl)) (@zah _ _ _ (zwx T.zb6 T.i0_NoName rfl ztu)) zas))),?_⟩;refine⟨_,rfl,w.a,_,_,rfl,h.o,rfl,_,rfl,Hb,w,fs,oc,sent,cn,z,rfl,h,λhz H1 s1=>?_,λhz H1 s1=>q2 (λ⟨i,f,F,e,hf,_⟩=>by have:=(List.getElem?_eq_some_iff.mp hf).1; omega) H1 s1⟩;obtain⟨i,rfl⟩:=qb0 hz.1;have hi:i<fs.length:=by omega
   have hf:fs[i]?=some fs[i]:=List.getElem?_eq_getElem hi;obtain⟨F,hF,hn⟩:=hall fs[i] (qcn hi);have h1:=h.grow s1;have hFl1:=hFl.mono (zb5 (H2:=H1) h.b);refine⟨_,rfl,_,rfl,w.a,_,_,rfl,h1.o,rfl,_,rfl,_,w,fs,oc,sent,cn,i,fs[i],fns,F,rfl,h1,hf,hFl1,hF,hn,λnl H2 s2 e2=>⟨nl,_,rfl,.inl e2,rfl,zym _,_,rfl,?_⟩⟩;by_cases hm:n∈F2.nms F
   . refine zha ?_ (q1 ⟨i,_,F,rfl,hf,hF,hn,hm⟩ H2 (s1.trans s2));rw[zyc hm];decide
   . refine zh8 (zv2 hm) (q2 (λ⟨i2,f2,F2,e,hf2,hF2,hn2,hm2⟩=>hm ?_) H2 (s1.trans s2));have ei:i2=i:=by omega
     rw[ei,hf] at hf2;cases hf2;rw[z1f hFl.nd hF hF2 (hn.trans hn2.symm)];exact hm2
theorem zj1:FnScope ["self","level","name"] ["self","level","name"] (zai zdq):=⟨rfl,rfl,rfl,by decide +kernel,rfl,by decide +kernel,by decide +kernel⟩
theorem zkr (T:Txt K mg t):FnOk P w K mg base CX0 1 t.zg1 t.zg6 ["self","level","name"] (zkm K t):=by
 refine T.zf7.F.ok zj1 (λvs H Q E h=>?_) (λcdv A outer s H vs Q E hr h=>?_)
 . obtain⟨Hb,w,fs,oc,sent,cn,i,f,n,v,rfl,h,hf,hv,q⟩:=h;rfl
 . obtain⟨Hb,w,fs,oc,sent,cn,i,f,n,v,rfl,h,hf,hv,q⟩:=h;refine⟨_,(@zab _ _ _ _ _ (@zau _ _ _ _ (zd9 (u1' hr.units) (zbh (@zaj _ _ _ _ _ _ _ zak (zbh (pv 0) (by rfl)) (pv 1) (λ_ _=>rfl)) (by rfl)) (pv 2) (λ_ _=>rfl))) zas),?_⟩;have hF:=h.fr f (List.mem_of_getElem? hf);exact⟨_,rfl,w.a,_,_,_,_,rfl,h.o,T.zae.cl,T.zao,rfl,_,rfl,w.st,_,_,_,rfl,rfl,SqL.of h.st,zll (by omega) (by rw[qbe]; exact hf),f.a,_,_,_,_,rfl,hF.o,T.zaq.cl,T.za4,rfl,_,rfl,f.nd,_,rfl,(by have:=zm8.k (k:=(Sum.inr n:Key)) hF.n; rw[hv] at this; exact this),q⟩
theorem znx:FnScope ["self","level","name"] ["self","level","name"] (zai zft):=⟨rfl,rfl,rfl,by decide +kernel,rfl,by decide +kernel,by decide +kernel⟩
theorem zi9 (T:Txt K mg t):FnOk P w K mg base CX0 5 t.zk1 t.zk4 ["self","level","name"] (znv K t):=by
 have G_Walker_ask_for_name:=zej (P:=P) (w:=w) (base:=base) T;have G_TextWalker_tell:=zkr (P:=P) (w:=w) (base:=base) T;refine T.zgb.F.ok znx (λvs H Q E h=>?_) (λcdv A outer s H vs Q E hr h=>?_)
 . obtain⟨Hb,w,fs,oc,sent,cn,i,f,n,v,fns,F,rfl,h,hf,hall,hFl,hF,hn,hm,hv,q⟩:=h;rfl
 . obtain⟨Hb,w,fs,oc,sent,cn,i,f,n,v,fns,F,rfl,h,hf,hall,hFl,hF,hn,hm,hv,q⟩:=h;refine⟨_,(@zab _ _ _ _ _ (@zbl _ _ _ _ (za9 (pv 0) T.zae.cl T.zcf.m G_Walker_ask_for_name (hr.mono (by decide)) T.zcf.b .nil zr0 (@zaa _ _ _ _ _ (pv 1) (@zaa _ _ _ _ _ (pv 2) zaf (by rfl)) (by rfl))) (by rfl)) (@zah _ _ _ (@zau _ _ _ _ (za9 (pv 0) T.zae.cl T.zf7.m G_TextWalker_tell (hr.mono (by decide)) T.zf7.b .nil zcu (@zaa _ _ _ _ _ (pv 1) (@zaa _ _ _ _ _ (pv 2) zaf (by rfl)) (by rfl)))))),?_⟩;refine⟨_,rfl,w.a,_,_,rfl,h.o,rfl,_,rfl,_,rfl,Hb,w,fs,oc,sent,cn,(i:Int),n,fns,rfl,h,hFl,hall,λ_ H1 s1=>?_,λhno=>absurd ⟨i,f,F,rfl,hf,hF,hn,hm⟩ hno⟩;have h1:=h.grow s1;exact⟨_,rfl,w.a,_,_,rfl,h1.o,rfl,_,rfl,_,rfl,_,w,fs,oc,sent,cn,i,f,n,v,rfl,h1,hf,hv,q H1 s1⟩
theorem zi3:FnScope ["self","frame"] ["self","frame"] (zai zc6):=⟨rfl,rfl,rfl,by decide +kernel,rfl,by decide +kernel,by decide +kernel⟩
theorem zfg (T:Txt K mg t):FnOk P w K mg base CX0 1 t.zgd t.zgg ["self","frame"] (zi4 K t):=by
 refine T.zc3.F.ok zi3 (λvs H Q E h=>?_) (λcdv A outer s H vs Q E hr h=>?_)
 . obtain⟨Hb,w,fs,oc,sent,cn,f,fns,F,r,rfl,h,hf,hFl,hF,hn,hr1,q⟩:=h;rfl
 . obtain⟨Hb,w,fs,oc,sent,cn,f,fns,F,r,rfl,h,hf,hFl,hF,hn,hr1,q⟩:=h;refine⟨_,(@zab _ _ _ _ _ (@zau _ _ _ _ (@zaj _ _ _ _ _ _ _ zap (zd9 (u1' hr.units) (zbh (zbh (pv 0) (by rfl)) (by rfl)) (zbh (pv 1) (by rfl)) (λ_ _=>rfl)) (zbh (pv 1) (by rfl)) (λ_ _=>rfl))) zas),?_⟩;have hf1:=h.fr f hf;have hFl:=hFl.mono h.b;obtain⟨dx,gs,d,kvs,e1,e2,e3,e4⟩:=z15 hFl hF;rw[hn] at e4;exact⟨_,rfl,w.a,_,_,_,_,rfl,h.o,T.zae.cl,T.zay,rfl,w.fl,_,_,_,_,rfl,e1,T.zb0.cl,T.zcg,e2,_,rfl,f.a,_,_,_,_,rfl,hf1.o,T.zaq.cl,T.za8,rfl,d,_,rfl,zjn e3 e4,_,rfl,f.a,_,_,_,_,rfl,hf1.o,T.zaq.cl,T.zbm,rfl,F.ra,_,_,_,rfl,rfl,(hFl.all F hF).rw_,zll (by omega) (by rw[qbe]; exact hr1),q⟩
theorem zh5:FnScope ["self","atom"] ["self","atom"] (zai zcw):=⟨rfl,rfl,rfl,by decide +kernel,rfl,by decide +kernel,by decide +kernel⟩
theorem zdi (T:Txt K mg t):FnOk P w K mg base CX0 1 t.zfh t.zfk ["self","atom"] (zii K t):=by
 refine T.zam.F.ok zh5 (λvs H Q E h=>?_) (λcdv A outer s H vs Q E hr h=>?_)
 . obtain⟨f,v,y,rfl,h,hv,q⟩:=h;rfl
 . obtain⟨f,v,y,rfl,h,hv,q⟩:=h;refine⟨_,(@zab _ _ _ _ _ (@zau _ _ _ _ (@ziu _ _ _ _ _ _ _ _ (zjb (zbs zet (by rfl) T.b_isinstance zb4 (@zaa _ _ _ _ _ (pv 1) (@zaa _ _ _ _ _ (zjl (v:=V.ty "str") rfl T.b_str znb rfl) zaf (by rfl)) (by rfl)))) (zd9 (u1' hr.units) (zbh (pv 0) (by rfl)) (pv 1) (λ_ _=>rfl)) (pv 1))) zas),?_⟩;cases v with
   | str n=>exact⟨_,rfl,_,"str",_,true,rfl,.str _,rfl,_,rfl,z0a ⟨_,rfl,f.a,_,_,_,_,rfl,h.o,T.zaq.cl,T.za4,rfl,_,rfl,f.nd,_,rfl,(by have:=zm8.k (k:=(Sum.inr n:Key)) h.n; rw[show zcx f.kvs (Sum.inr n:Key)=some y from hv] at this; exact this),q⟩⟩
   | int i =>
     cases hv;exact⟨_,rfl,_,"str",_,false,rfl,.int _,rfl,_,rfl,z3t ⟨_,rfl,q⟩⟩
   | _=>cases hv
theorem zgw:FnScope ["self","frame","row"] ["self","frame","row"] (zai zbx):=⟨rfl,rfl,rfl,by decide +kernel,rfl,by decide +kernel,by decide +kernel⟩
theorem zgv (T:Txt K mg t):FnOk P w K mg base CX0 2 t.zd1 t.zd2 ["self","frame","row"] (zgu K t):=by
 have G_value:=zzt (P:=P) (w:=w) (base:=base) T;have G_TextFrame_value_of:=zdi (P:=P) (w:=w) (base:=base) T;have G_Walker_field:=zmw (P:=P) (w:=w) (base:=base) T;refine T.zdf.F.ok zgw (λvs H Q E h=>?_) (λcdv A outer s H vs Q E hr h=>?_)
 . obtain⟨Hb,w,fs,oc,sent,cn,f,r,rg,x0,v,rfl,h,hr1,hk,hg,q⟩:=h;rfl
 . obtain⟨Hb,w,fs,oc,sent,cn,f,r,rg,x0,v,rfl,h,hr1,hk,hg,q⟩:=h;refine⟨_,(@zab _ _ _ _ _ (@zbq _ _ _ _ _ _ _ _ (@zat _ _ _ _ _ _ _ _ zc8 (@zaj _ _ _ _ _ _ _ zap (pv 2) zad (λ_ _=>rfl)) za5 (za1 _)) (@zah _ _ _ (@zau _ _ _ _ (za9 (pv 0) T.zae.cl T.zil.m G_Walker_field (hr.mono (by decide)) T.zil.b .nil zcu (@zaa _ _ _ _ _ (za9 (pv 1) T.zaq.cl T.zam.m G_TextFrame_value_of (hr.mono (by decide)) T.zam.b .nil zcu (@zaa _ _ _ _ _ (@zaj _ _ _ _ _ _ _ zap (pv 2) zad (λ_ _=>rfl)) zaf (by rfl))) (@zaa _ _ _ _ _ (@zaj _ _ _ _ _ _ _ zap (pv 2) zad (λ_ _=>rfl)) zaf (by rfl)) (by rfl))))) zas) (@zab _ _ _ _ _ (@zbq _ _ _ _ _ _ _ _ (@zat _ _ _ _ _ _ _ _ zc8 (@zaj _ _ _ _ _ _ _ zap (pv 2) zad (λ_ _=>rfl)) za5 (za1 _)) (@zah _ _ _ (@zau _ _ _ _ (zbu T.value G_value (hr.mono (by decide)) (@zaa _ _ _ _ _ (@zaj _ _ _ _ _ _ _ zap (pv 2) zad (λ_ _=>rfl)) (@zaa _ _ _ _ _ (za9 (pv 1) T.zaq.cl T.zam.m G_TextFrame_value_of (hr.mono (by decide)) T.zam.b .nil zcu (@zaa _ _ _ _ _ (@zaj _ _ _ _ _ _ _ zap (pv 2) zad (λ_ _=>rfl)) zaf (by rfl))) (@zaa _ _ _ _ _ (za9 (pv 1) T.zaq.cl T.zam.m G_TextFrame_value_of (hr.mono (by decide)) T.zam.b .nil zcu (@zaa _ _ _ _ _ (@zaj _ _ _ _ _ _ _ zap (pv 2) zad (λ_ _=>rfl)) zaf (by rfl))) zaf (by rfl)) (by rfl)) (by rfl))))) zas) (@zah _ _ _ (@zau _ _ _ _ (za9 (pv 1) T.zaq.cl T.zam.m G_TextFrame_value_of (hr.mono (by decide)) T.zam.b .nil zcu (@zaa _ _ _ _ _ (@zaj _ _ _ _ _ _ _ zap (pv 2) zad (λ_ _=>rfl)) zaf (by rfl))))))),?_⟩;have hF:=h.fr f (List.mem_append_right _ (List.mem_singleton.mpr rfl));rcases hk with⟨x,a,rfl⟩|⟨x,s,a,b,rfl⟩
   . obtain⟨_,hu⟩:=zmf hg;exact⟨_,rfl,r,_,_,_,rfl,rfl,hr1,at0,rfl,_,rfl,iN ⟨_,rfl,r,_,_,_,rfl,rfl,hr1,at0,rfl,_,rfl,iN ⟨_,rfl,f.a,_,_,rfl,hF.o,rfl,_,rfl,r,_,_,_,rfl,rfl,hr1,rfl,f,a,v,rfl,hF,hu,q H (zan.refl _)⟩⟩⟩
   . obtain⟨_,i,j,ea,eb,hb,rfl⟩:=zqv hg;exact⟨_,rfl,r,_,_,_,rfl,rfl,hr1,at0,rfl,_,rfl,iN ⟨_,rfl,r,_,_,_,rfl,rfl,hr1,at0,rfl,_,rfl,iP ⟨_,rfl,r,_,_,_,rfl,rfl,hr1,rfl,_,rfl,f.a,_,_,rfl,hF.o,rfl,_,rfl,r,_,_,_,rfl,rfl,hr1,rfl,f,a,_,rfl,hF,ea,_,rfl,f.a,_,_,rfl,hF.o,rfl,_,rfl,r,_,_,_,rfl,rfl,hr1,rfl,f,b,_,rfl,hF,eb,s,i,j,rfl,hb.1,hb.2.1,hb.2.2.1,hb.2.2.2,q H (zan.refl _)⟩⟩⟩
theorem zkv:FnScope ["self","number"] ["self","number"] (zai zdn):=⟨rfl,rfl,rfl,by decide +kernel,rfl,by decide +kernel,by decide +kernel⟩
theorem zky (T:Txt K mg t):FnOk P w K mg base CX0 1 t.zg3 t.zg8 ["self","number"] (zka K t):=T.zf9.F.ok zkv (λvs H Q E h=>h.elim) (λcdv A outer s H vs Q E hr h=>h.elim)
theorem zjx:FnScope ["self","record","name","number"] ["self","record","name","number"] (zai zdg):=⟨rfl,rfl,rfl,by decide +kernel,rfl,by decide +kernel,by decide +kernel⟩
theorem zjm (T:Txt K mg t):FnOk P w K mg base CX0 1 t.zgp t.zgs ["self","record","name","number"] (zju K t):=T.zfe.F.ok zjx (λvs H Q E h=>h.elim) (λcdv A outer s H vs Q E hr h=>h.elim)
theorem zij:FnScope ["self"] ["self"] (zai zcy):=⟨rfl,rfl,rfl,by decide +kernel,rfl,by decide +kernel,by decide +kernel⟩
theorem zif (T:Txt K mg t):FnOk P w K mg base CX0 1 t.zfj t.zfn ["self"] (zh7 K t):=T.zeh.F.ok zij (λvs H Q E h=>h.elim) (λcdv A outer s H vs Q E hr h=>h.elim)
theorem zff:FnScope ["self","frame","row","deed"] ["self","frame","row"] (zai zc7):=⟨rfl,rfl,rfl,by decide +kernel,rfl,by decide +kernel,by decide +kernel⟩
theorem zi5 (T:Txt K mg t):FnOk P w K mg base CX0 3 t.zgc t.zgf ["self","frame","row"] (zi6 K t):=by
 have G_TextWalker_value_given:=zgv (P:=P) (w:=w) (base:=base) T;have G_Walker_send_out:=zky (P:=P) (w:=w) (base:=base) T;have G_Walker_put_field:=zjm (P:=P) (w:=w) (base:=base) T;have G_Walker_make_record:=zif (P:=P) (w:=w) (base:=base) T;have G_TextFrame_value_of:=zdi (P:=P) (w:=w) (base:=base) T;refine T.zeu.F.ok zff (λvs H Q E h=>?_) (λcdv A outer s H vs Q E hr h=>?_)
 . obtain⟨Hb,w,fs,oc,sent,cn,f,r,rg,rfl,h,hr0,hs,hk,q⟩:=h;rfl
 . obtain⟨Hb,w,fs,oc,sent,cn,f,r,rg,rfl,h,hr0,hs,hk,q⟩:=h;refine⟨_,(@zab _ _ _ _ _ (@zbq _ _ _ _ _ _ _ _ (@zat _ _ _ _ _ _ _ _ zc8 (@zaj _ _ _ _ _ _ _ zap (pv 2) zad (λ_ _=>rfl)) za5 (za1 _)) (@zah _ _ _ (@zau _ _ _ _ (za9 (pv 0) T.zae.cl T.zf9.m G_Walker_send_out (hr.mono (by decide)) T.zf9.b .nil zcu (@zaa _ _ _ _ _ (za9 (pv 1) T.zaq.cl T.zam.m G_TextFrame_value_of (hr.mono (by decide)) T.zam.b .nil zcu (@zaa _ _ _ _ _ (@zaj _ _ _ _ _ _ _ zap (pv 2) zad (λ_ _=>rfl)) zaf (by rfl))) zaf (by rfl))))) zas) (@zab _ _ _ _ _ (@zbq _ _ _ _ _ _ _ _ (@zat _ _ _ _ _ _ _ _ zc8 (@zaj _ _ _ _ _ _ _ zap (pv 2) zad (λ_ _=>rfl)) za5 (za1 _)) (@zah _ _ _ (@zau _ _ _ _ (za9 (pv 0) T.zae.cl T.zfe.m G_Walker_put_field (hr.mono (by decide)) T.zfe.b .nil zcu (@zaa _ _ _ _ _ (za9 (pv 1) T.zaq.cl T.zam.m G_TextFrame_value_of (hr.mono (by decide)) T.zam.b .nil zcu (@zaa _ _ _ _ _ (@zaj _ _ _ _ _ _ _ zap (pv 2) zad (λ_ _=>rfl)) zaf (by rfl))) (@zaa _ _ _ _ _ (@zaj _ _ _ _ _ _ _ zap (pv 2) zad (λ_ _=>rfl)) (@zaa _ _ _ _ _ (za9 (pv 1) T.zaq.cl T.zam.m G_TextFrame_value_of (hr.mono (by decide)) T.zam.b .nil zcu (@zaa _ _ _ _ _ (@zaj _ _ _ _ _ _ _ zap (pv 2) zad (λ_ _=>rfl)) zaf (by rfl))) zaf (by rfl)) (by rfl)) (by rfl))))) zas) (@zab _ _ _ _ _ (@zbq _ _ _ _ _ _ _ _ (@zat _ _ _ _ _ _ _ _ zc8 (@zaj _ _ _ _ _ _ _ zap (pv 2) zad (λ_ _=>rfl)) za5 (za1 _)) (@zab _ _ _ _ _ (@zax _ _ 3 _ _ _ _ zff.nd rfl (Or.inl rfl) (zgk (pv 0) T.zae.cl T.zeh.m G_Walker_make_record (hr.mono (by decide)) T.zeh.b .nil zcu) (by rfl) (by first|exact .inl rfl|exact .inr rfl|assumption)) (@zab _ _ _ _ _ (zc1 (u1' hr.units) (zbh (pv 1) (by rfl)) (@zaj _ _ _ _ _ _ _ zap (pv 2) zad (λ_ _=>rfl)) (@zaj _ _ _ _ _ _ _ zap (pv 3) zad (λ_ _=>rfl)) (by rfl)) (@zah _ _ _ (@zau _ _ _ _ (pv 3))))) zas) (@zab _ _ _ _ _ (zc1 (u1' hr.units) (zbh (pv 1) (by rfl)) (@zaj _ _ _ _ _ _ _ zap (pv 2) zad (λ_ _=>rfl)) (za9 (pv 0) T.zae.cl T.zdf.m G_TextWalker_value_given (hr.mono (by decide)) T.zdf.b .nil zcu (@zaa _ _ _ _ _ (pv 1) (@zaa _ _ _ _ _ (pv 2) zaf (by rfl)) (by rfl))) (by rfl)) (@zah _ _ _ (@zau _ _ _ _ zi7)))))),?_⟩;have hF:=h.fr f (List.mem_append_right _ (List.mem_singleton.mpr rfl));have hr1:=h.b.tup hr0;cases rg with
   | op x s a b =>
     obtain⟨y,v,hg,q⟩:=q;have hx:(RG.op x s a b).items[1]?=some (.str y):=zm1 hg;refine⟨_,rfl,r,_,_,_,rfl,rfl,hr1,at0,rfl,_,rfl,iN ⟨_,rfl,r,_,_,_,rfl,rfl,hr1,at0,rfl,_,rfl,iN ⟨_,rfl,r,_,_,_,rfl,rfl,hr1,at0,rfl,_,rfl,iN ⟨_,rfl,w.a,_,_,rfl,h.o,rfl,_,rfl,_,rfl,Hb,w,fs,oc,sent,cn,f,r,_,y,v,rfl,h,hr1,.inr (⟨_,_,_,_,rfl⟩),hg,λH1 s1=>?_⟩⟩⟩⟩;have h1:=h.grow s1;have hF1:=h1.fr f (List.mem_append_right _ (List.mem_singleton.mpr rfl));refine⟨_,rfl,f.a,_,_,_,_,rfl,hF1.o,T.zaq.cl,T.za4,rfl,_,rfl,r,_,_,_,rfl,rfl,s1.tup hr1,zc2 (j:=1) hx,f.nd,_,rfl,zmc.k (k:=(Sum.inr y:Key)) hF1.n (zba hk),?_⟩;exact q _ _ (zb5 h.b) h1.name
   | copy x a =>
     obtain⟨y,v,hg,q⟩:=q;have hx:(RG.copy x a).items[1]?=some (.str y):=zm1 hg;refine⟨_,rfl,r,_,_,_,rfl,rfl,hr1,at0,rfl,_,rfl,iN ⟨_,rfl,r,_,_,_,rfl,rfl,hr1,at0,rfl,_,rfl,iN ⟨_,rfl,r,_,_,_,rfl,rfl,hr1,at0,rfl,_,rfl,iN ⟨_,rfl,w.a,_,_,rfl,h.o,rfl,_,rfl,_,rfl,Hb,w,fs,oc,sent,cn,f,r,_,y,v,rfl,h,hr1,.inl ⟨_,_,rfl⟩,hg,λH1 s1=>?_⟩⟩⟩⟩;have h1:=h.grow s1;have hF1:=h1.fr f (List.mem_append_right _ (List.mem_singleton.mpr rfl));refine⟨_,rfl,f.a,_,_,_,_,rfl,hF1.o,T.zaq.cl,T.za4,rfl,_,rfl,r,_,_,_,rfl,rfl,s1.tup hr1,zc2 (j:=1) hx,f.nd,_,rfl,zmc.k (k:=(Sum.inr y:Key)) hF1.n (zba hk),?_⟩;exact q _ _ (zb5 h.b) h1.name
   | out a=>exact q.elim
   | put a fd b=>exact q.elim
   | new x=>exact q.elim
   | get x a fd=>exact q.elim
   | back a=>exact q.elim
   | call x g p as=>exact q.elim
   | ifs a=>exact q.elim
   | whl a=>exact q.elim
theorem zjv:FnScope ["self","frame","way"] ["self","frame","way"] (zai zdh):=⟨rfl,rfl,rfl,by decide +kernel,rfl,by decide +kernel,by decide +kernel⟩
theorem zf4 (T:Txt K mg t):FnOk P w K mg base CX0 1 t.zgo t.zgr ["self","frame","way"] (zjs K t):=by
 refine T.zb1.F.ok zjv (λvs H Q E h=>?_) (λcdv A outer s H vs Q E hr h=>?_)
 . obtain⟨Hb,w,fs,oc,sent,cn,f,fns,F,j,r,rfl,h,hFl,hF,hn,hk,hw,q⟩:=h;rfl
 . obtain⟨Hb,w,fs,oc,sent,cn,f,fns,F,j,r,rfl,h,hFl,hF,hn,hk,hw,q⟩:=h;refine⟨_,(@zab _ _ _ _ _ (zek (pv 1) (@zaj _ _ _ _ _ _ _ zap (@zaj _ _ _ _ _ _ _ zak (zd9 (u1' hr.units) (zbh (zbh (pv 0) (by rfl)) (by rfl)) (zbh (pv 1) (by rfl)) (λ_ _=>rfl)) (zbh (pv 1) (by rfl)) (λ_ _=>rfl)) (pv 2) (λ_ _=>rfl)) (by rfl)) zas),?_⟩;have hf:=h.fr f (List.mem_append_right _ (List.mem_singleton.mpr rfl));have hFl:=hFl.mono h.b;obtain⟨wl,tp,vs,l,⟨dx,gs,d,kvs,e1,e2,e3,e4⟩,e5,e6,e7,e8⟩:=z1e hFl hF hk hw;rw[hn] at e4;refine⟨_,rfl,w.a,_,_,_,_,rfl,h.o,T.zae.cl,T.zay,rfl,w.fl,_,_,_,_,rfl,e1,T.zb0.cl,T.zch,e2,_,rfl,f.a,_,_,_,_,rfl,hf.o,T.zaq.cl,T.za8,rfl,d,_,rfl,zjn e3 e4,_,rfl,f.a,_,_,_,_,rfl,hf.o,T.zaq.cl,T.zbm,rfl,wl,_,_,_,rfl,rfl,SqL.of e5,zc2 e6,_,rfl,tp,_,_,_,rfl,rfl,SqT.of e7,z1x e8,_,rfl,f.a,_,_,_,rfl,hf.o,T.zaq.cl,T.zbm,(by show 3<1000; decide),?_⟩;exact q _ (h.goto (r:=r))
theorem zk9:FnScope ["self","function","named"] ["self","function","named"] (zai zdy):=⟨rfl,rfl,rfl,by decide +kernel,rfl,by decide +kernel,by decide +kernel⟩
theorem zlg (T:Txt K mg t):FnOk P w K mg base CX0 1 t.zhw t.zhx ["self","function","named"] (zk6 K t):=by
 refine T.zjg.F.ok zk9 (λvs H Q E h=>?_) (λcdv A outer s H vs Q E hr h=>?_)
 . obtain⟨x,dx,nd,fn,rfl,hx,q⟩:=h;rfl
 . obtain⟨x,dx,nd,fn,rfl,hx,q⟩:=h;refine⟨_,(@zab _ _ _ _ _ (zek (pv 0) (pv 1) (by rfl)) (@zab _ _ _ _ _ (zek (pv 0) zad (by rfl)) (@zah _ _ _ (zek (pv 0) (pv 2) (by rfl))))),?_⟩;refine⟨_,rfl,_,rfl,x,_,_,_,rfl,hx,T.zaq.cl,T.za8,(by decide),_,rfl,x,_,_,_,rfl,zac,T.zaq.cl,T.zbm,put1 _ _,_,rfl,_,rfl,x,_,_,_,rfl,zac,T.zaq.cl,T.za4,put2 _ _ _ _,?_⟩;rw[zmh,zmh];exact q
theorem zc5:FnScope ["self","function","args","named","name","number"] ["self","function","args"] (zai zbz):=⟨rfl,rfl,rfl,by decide +kernel,rfl,by decide +kernel,by decide +kernel⟩
theorem zfy (T:Txt K mg t):FnOk P w K mg base CX0 3 t.zei t.zgq ["self","function","args"] (zjw K t):=by
 have G_TextFrame_init:=zlg (P:=P) (w:=w) (base:=base) T;refine T.zdc.F.ok zc5 (λvs H Q E h=>?_) (λcdv A outer s H vs Q E hr h=>?_)
 . obtain⟨Hb,w,fs,oc,sent,cn,fns,F,ar,vals,rfl,h,hFl,hF,har,hv,hl,hnn,hps,q⟩:=h;rfl
 . skip
   refine(let XX:Cx:=(zkf CX0 P w K mg base ["self","function","args","named","name","number"] "TextWalker.begin" (zai zbz) t.zei cdv A outer s H E).nox; ?_);refine(let W1:TS:=_; have hW1:PSs XX ((zav zbz).drop 1) W1:=(@zab _ _ _ _ _ (zeb PassesOwn.never rfl (zz7 true false rfl T.b_zip (@zaa _ _ _ _ _ (zd9 (u1' hr.units) (zbh (zbh (pv 0) (by rfl)) (by rfl)) (pv 1) (λ_ _=>rfl)) (@zaa _ _ _ _ _ (pv 2) zaf (by rfl)) (by rfl))) (zmj rfl (zcp (za0 (i:=4) zc5.nd rfl (Or.inl rfl)) (zcp (za0 (i:=5) zc5.nd rfl (Or.inl rfl)) zie))) (@zah _ _ _ (zc1 (u1' hr.units) (pv 3) (pv 4) (pv 5) (by rfl)))) (@zah _ _ _ (@zbl _ _ _ _ (zj8 qay qa9 qba zdb (zbh (pv 0) (by rfl)) (@zaa _ _ _ _ _ (zzn T.zaq T.zjg G_TextFrame_init (hr.mono (by decide)) (@zaa _ _ _ _ _ (pv 1) (@zaa _ _ _ _ _ (pv 3) zaf (by rfl)) (by rfl))) zaf (by rfl))) (by rfl)))); ?_);obtain⟨Hb,w,fs,oc,sent,cn,fns,F,ar,vals,rfl,h,hFl,hF,har,hv,hl,hnn,hps,q⟩:=h;refine⟨_,(@zab _ _ _ _ _ (@zax _ _ 3 _ _ _ _ zc5.nd rfl (Or.inl rfl) (zb2 (zlr rfl) (by rfl) T.b_dict zwg (@zaa _ _ _ _ _ (zf2 (N':=["name"]) (js:=[none]) (by kernel_rfl) rfl (zgx (zd9 (u1' hr.units) (zbh (zbh (pv 0) (by rfl)) (by rfl)) (pv 1) (λ_ _=>rfl))) zdo (λ_ _ _ _=>(za0 (i:=0) (show(["name"]:List Str).Nodup by decide +kernel) rfl (Or.inl rfl) (.inr rfl))) (λ_ _ _ _=>zfc) (λ_ _ _ _=>(@zck _ _ _ _ _ (@zaa _ _ _ _ _ (pv 0) (@zaa _ _ _ _ _ zad zaf (by rfl)) (by rfl))))) zaf (by rfl))) (by rfl) (by first|exact .inl rfl|exact .inr rfl|assumption)) hW1),?_⟩;have hFlH:=hFl.mono h.b;obtain⟨nl,⟨dx1,gs1,d1,kv1,a1,a2,a3,a4⟩,a5⟩:=ztn hFlH hF;obtain⟨dx2,gs2,d2,kv2,b1,b2,b3,b4⟩:=zwp hFlH hF;refine⟨_,rfl,w.a,_,_,_,_,rfl,h.o,T.zae.cl,T.zay,rfl,w.fl,_,_,_,_,rfl,a1,T.zb0.cl,T.zbp,a2,_,rfl,d1,_,rfl,zjn a3 a4,nl,rfl,⟨_,SqL.of a5⟩,λu hu=>zkk (K:=K) (λi Hq v=>∃y tp,(F2.nms F)[i]?=some y/\v=.ref tp/\Hq tp=some (.tup [.str y,.int 0])) (λi v H1 H2 e z=>let ⟨y,tp,z1,z2,z3⟩:=z; ⟨y,tp,z1,z2,e _ _ z3⟩) (xs:=(F2.nms F).map V.str) (by rw[List.length_map]; omega) (SqL.of a5) hu ?_ ?_⟩
   . rintro i z H2 R' hz s2 ⟨acc,ha⟩ r2;obtain⟨y,hy,hym,rfl⟩:=zj7 hz;refine⟨_,rfl,le2,λtp htp=>r2 _ _ (zan.new htp) ⟨y,tp,hy,rfl,?_⟩⟩;rw[zct (λz=>by rw[z,ha] at htp; cases htp)];exact zac
   intro H3 vs s3 e3 lv tv;rw[List.length_map] at lv;obtain⟨ps,rfl,hps2⟩:=ztv (K:=K) lv tv;refine⟨u,ps,(F2.nms F).map λn=>((Sum.inr n:Key),V.int 0),rfl,SqL.of e3,?_,by rw[List.length_map]; omega,λd hd=>?_⟩
   . exact hps2.mono λa kv z=>zhq.tup z
   have d0:H d=none:=s3.free hd;have s4:=s3.trans (zan.new (o:=.dK (((F2.nms F).map λn=>((Sum.inr n:Key),V.int 0)).foldl (λacc kv=>zbd acc kv.1 kv.2) [])) hd);have e4:=zac (H:=H3) (a:=d) (o:=.dK (((F2.nms F).map λn=>((Sum.inr n:Key),V.int 0)).foldl (λacc kv=>zbd acc kv.1 kv.2) []));have k0l:(((F2.nms F).map λn=>((Sum.inr n:Key),V.int 0)).foldl (λacc kv=>zbd acc kv.1 kv.2) []).length<=1000:=by refine Nat.le_trans (zfz (λkv:Key×V=>kv) ((F2.nms F).map λn=>((Sum.inr n:Key),V.int 0)) []) ?_;rw[List.length_map];show 0+(F2.nms F).length<=1000;omega
   have hbg:zj3 F vals=(F.ps.zip vals).foldl (λd p=>zbd d (Sum.inr p.1:Key) p.2) (((F2.nms F).map λn=>((Sum.inr n:Key),V.int 0)).foldl (λacc kv=>zbd acc kv.1 kv.2) []):=rfl;generalize (((F2.nms F).map λn=>((Sum.inr n:Key),V.int 0)).foldl (λacc kv=>zbd acc kv.1 kv.2) [])=k0 at s4 e4 k0l hbg ⊢;generalize upd H3 d (.dK k0)=H4 at s4 e4 ⊢;have h4:=h.grow s4;have hpa:SqT K H F.pa (F.ps.map V.str):=(hFlH.all F hF).pr;have har1:SqL K H ar vals:=h.b.seq har;refine⟨_,rfl,w.a,_,_,_,_,rfl,h4.o,T.zae.cl,T.zay,rfl,w.fl,_,_,_,_,rfl,s4 _ _ b1,T.zb0.cl,T.zbr,b2,_,rfl,d2,_,rfl,zjn (s4 _ _ b3) b4,_,rfl,F.pa,ar,rfl,⟨_,s4.tup hpa⟩,⟨_,s4.seq har1⟩,(let Jv1:Nat->St->Hp->Prop:=λi σ H'=>∃v4 v5:Option V,σ=[some (.ref w.a),some (.str F.name),some (.ref ar),some (.ref d),v4,v5]/\zan H H'/\H' d=some (.dK (((F.ps.zip vals).take i).foldl (λd p=>zbd d (Sum.inr p.1:Key) p.2) k0)); zxc (b1:=true) (b2:=false) (xs:=F.ps.map V.str) (ys:=vals) Jv1 ⟨_,_,rfl,s4,e4⟩ ?_ ?_ ?_)⟩
   . rintro i σ H' hi ⟨v4,v5,rfl,s5,e5⟩;exact⟨s5.tup hpa,s5.seq har1⟩
   . rintro i x y σ H' b hx hy ⟨v4,v5,rfl,s5,e5⟩ hb;obtain⟨n,hn,hnm,rfl⟩:=zj7 hx;have s6:=zan.new (o:=.tup [.str n,y]) hb;have nb:d≠b:=λz=>by rw[<- z,e5] at hb; cases hb
     have lz:(((F.ps.zip vals).take i).foldl (λd p=>zbd d (Sum.inr p.1:Key) p.2) k0).length<1000000:=by
       refine qbw (zfz (λp:Str×V=>((Sum.inr p.1:Key),p.2)) ((F.ps.zip vals).take i) k0) ?_;have l2:((F.ps.zip vals).take i).length<=1000:=by rw[qax,qcf];omega
       omega
     refine⟨b,_,rfl,SqT.of zac,rfl,_,_,rfl,_,_,rfl,rfl,_,rfl,_,rfl,_,rfl,d,_,rfl,zmc.k (k:=(Sum.inr n:Key)) (s6 _ _ e5) (zba lz),_,_,rfl,(s5.trans s6).upd d0,?_⟩;rw[zac,qbf,qbc];have hz:(F.ps.zip vals)[i]?=some (n,y):=qb7.mpr ⟨hn,hy⟩;rw[hz];rfl
   . rintro σ H' ⟨v4,v5,rfl,s5,e5⟩;rw[qbb (by rw[qcf,List.length_map]; exact qae _),<- hbg] at e5;have h5:=h.grow s5;refine⟨_,rfl,w.a,_,_,_,_,rfl,h5.o,T.zae.cl,T.zao,rfl,.inl ⟨rfl,_,SqL.of h5.st⟩,_,rfl,_,rfl,λfa fdx hfa hfdx nfd=>⟨fa,fdx,d,F.name,rfl,zac,rfl,?_⟩⟩;have n1:∀{b:Addr} {o:HO},H' b=some o->b≠fa/\b≠fdx:=λhb=>⟨(λz=>by rw[z,hfa] at hb; cases hb),(λz=>by rw[z,hfdx] at hb; cases hb)⟩
     have s6:zan H' (upd (upd (upd H' fdx (.own fa)) fa (.ins t.zbb fdx [])) fa (.ins t.zbb fdx (fF ⟨fa,fdx,d,F.name,0,[]⟩))):=λb o hb=>by rw[zag (n1 hb).1,zag (n1 hb).1,zag (n1 hb).2];exact hb
     have hfr:FrAt t.zbb (upd (upd (upd H' fdx (.own fa)) fa (.ins t.zbb fdx [])) fa (.ins t.zbb fdx (fF ⟨fa,fdx,d,F.name,0,[]⟩))) ⟨fa,fdx,d,F.name,0,zj3 F vals⟩:=⟨zac,s6 _ _ e5⟩
     obtain⟨p1,p2⟩:=h.push (s5.trans s6) (s5.free hfa) d0 hfr;rw[List.map_append] at p1;refine⟨w.st,_,_,rfl,rfl,s6 _ _ h5.st,zba (by rw[List.length_map]; omega),?_⟩;exact q _ _ _ p2 p1 rfl rfl rfl
theorem ze3:FnScope ["self","number","caller"] ["self","number"] (zai zcv):=⟨rfl,rfl,rfl,by decide +kernel,rfl,by decide +kernel,by decide +kernel⟩
theorem zh6 (T:Txt K mg t):FnOk P w K mg base CX0 2 t.zfi t.zfl ["self","number"] (zid K t):=by
 have G_TextWalker_go_on:=zf4 (P:=P) (w:=w) (base:=base) T;have G_TextWalker_row_of:=zfg (P:=P) (w:=w) (base:=base) T;refine T.zef.F.ok ze3 (λvs H Q E h=>?_) (λcdv A outer s H vs Q E hr h=>?_)
 . obtain⟨Hb,w,fs,oc,sent,cn,f,v,rfl,h,q⟩:=h;rfl
 . obtain⟨Hb,w,fs,oc,sent,cn,f,v,rfl,h,q⟩:=h;refine⟨_,(@zab _ _ _ _ _ (@zbl _ _ _ _ (zwi qay qc5 qc6 zu8 (zbh (pv 0) (by rfl))) (by rfl)) (@zah _ _ _ (@zbq _ _ _ _ _ _ _ _ (z42 (K:=K) rfl (zbh (pv 0) (by rfl)) (by intro _; rfl)) (@zab _ _ _ _ _ (@zax _ _ 2 _ _ _ _ ze3.nd rfl (Or.inl rfl) (@zaj _ _ _ _ _ _ _ zak (zbh (pv 0) (by rfl)) (zjo zfw zad) (λ_ _=>rfl)) (by rfl) (by first|exact .inl rfl|exact .inr rfl|assumption)) (@zab _ _ _ _ _ (zc1 (u1' hr.units) (zbh (pv 2) (by rfl)) (@zaj _ _ _ _ _ _ _ zap (za9 (pv 0) T.zae.cl T.zc3.m G_TextWalker_row_of (hr.mono (by decide)) T.zc3.b .nil zcu (@zaa _ _ _ _ _ (pv 2) zaf (by rfl))) zad (λ_ _=>rfl)) (pv 1) (by rfl)) (@zah _ _ _ (@zbl _ _ _ _ (za9 (pv 0) T.zae.cl T.zb1.m G_TextWalker_go_on (hr.mono (by decide)) T.zb1.b .nil zcu (@zaa _ _ _ _ _ (pv 2) (@zaa _ _ _ _ _ zad zaf (by rfl)) (by rfl))) (by rfl))))) (@zah _ _ _ (zek (pv 0) (pv 1) (by rfl)))))),?_⟩;have h1:=WAt.pop h;refine⟨_,rfl,w.a,_,_,_,_,rfl,h.o,T.zae.cl,T.zao,rfl,  .inl ⟨rfl,_,SqL.of h.st⟩,w.st,_,V.ref f.a,rfl,rfl,h.st,by simp,?_⟩;rw[show((fs++[f]).map λf=>V.ref f.a).dropLast=fs.map λf=>V.ref f.a by rw[List.map_append]; exact List.dropLast_concat];rcases q with⟨rfl,q⟩|⟨fs0,g,fns,G,rw,its,x,r,rfl,hFl,hG,hn,hr1,hq,hx,hw,hk,q⟩
   . refine⟨_,rfl,w.a,_,_,_,_,rfl,h1.o,T.zae.cl,T.zao,rfl,false,.inl ⟨[],SqL.of h1.st,rfl⟩,zha qar ?_⟩;exact⟨_,rfl,_,rfl,w.a,_,_,_,rfl,h1.o,T.zae.cl,T.zbc,(by show 6<1000; decide),q _ h1.out⟩
   . have hgm:g∈fs0++[g]:=List.mem_append_right _ (List.mem_singleton.mpr rfl);have hg:=h1.fr g hgm;have h2:=h1.name (ks:=zbd g.kvs (Sum.inr x:Key) v);have hqH:=h1.b.tup hq;have hrow:g.row<G.rs.length:=(List.getElem?_eq_some_iff.mp hr1).1;refine⟨_,rfl,w.a,_,_,_,_,rfl,h1.o,T.zae.cl,T.zao,rfl,true,.inl ⟨_,SqL.of h1.st,by simp⟩,zh8 rfl ?_⟩;refine⟨_,rfl,w.a,_,_,_,_,rfl,h1.o,T.zae.cl,T.zao,rfl,_,rfl,w.st,_,_,_,rfl,rfl,SqL.of h1.st,zst _ _,?_⟩;refine⟨_,rfl,_,rfl,g.a,_,_,_,_,rfl,hg.o,T.zaq.cl,T.za4,rfl,_,rfl,w.a,_,_,rfl,h1.o,rfl,_,rfl,Hb,w,fs0++[g],oc,sent,cn,g,fns,G,rw,rfl,h1,hgm,hFl,hG,hn,hr1,rw.r,_,_,_,rfl,rfl,hqH,zc2 (j:=1) hx,g.nd,_,rfl,zmc.k (k:=(Sum.inr x:Key)) hg.n (zba hk),?_⟩;exact⟨_,rfl,w.a,_,_,rfl,h2.o,rfl,_,rfl,Hb,w,fs0,oc,sent,cn,{ g with kvs:=zbd g.kvs (Sum.inr x:Key) v },fns,G,0,r,rfl,h2,hFl,hG,hn,hrow,hw,λH3 h3=>q H3 h3⟩
theorem zcm:FnScope ["self","frame","row","deed"] ["self"] (zai za7):=⟨rfl,rfl,rfl,by decide +kernel,rfl,by decide +kernel,by decide +kernel⟩
theorem zic (T:Txt K mg t):FnOk P w K mg base CX0 4 t.zdw t.zfm ["self"] (ze0 K t):=by
 have G_TextWalker_row_of:=zfg (P:=P) (w:=w) (base:=base) T;have G_TextWalker_do_row:=zi5 (P:=P) (w:=w) (base:=base) T;have G_TextWalker_go_on:=zf4 (P:=P) (w:=w) (base:=base) T;have G_TextWalker_begin:=zfy (P:=P) (w:=w) (base:=base) T;have G_TextWalker_go_back:=zh6 (P:=P) (w:=w) (base:=base) T;have G_TextFrame_value_of:=zdi (P:=P) (w:=w) (base:=base) T;refine T.zeg.F.ok zcm (λvs H Q E h=>?_) (λcdv A outer s H vs Q E hr h=>?_)
 . obtain⟨Hb,w,fs,f,sent,cn,fns,F,r,rg,rfl,h,hFl,hF,hn,hr1,hq,hs,hk,q⟩:=h;rfl
 . skip
   refine(let XX:Cx:=(zkf CX0 P w K mg base ["self","frame","row","deed"] "TextWalker.walk_on" (zai za7) t.zdw cdv A outer s H E).nox; ?_);refine(let W4:TS:=_; have hW4:PSs XX ((zav za7).drop 4) W4:=(@zab _ _ _ _ _ (@zbq _ _ _ _ _ _ _ _ (@zat _ _ _ _ _ _ _ _ zig (@zaj _ _ _ _ _ _ _ zap (pv 2) zad (λ_ _=>rfl)) (@zck _ _ _ _ _ (@zaa _ _ _ _ _ za5 (@zaa _ _ _ _ _ za5 zaf (by rfl)) (by rfl))) (by with_unfolding_all rfl)) (@zab _ _ _ _ _ (@zbl _ _ _ _ (za9 (pv 0) T.zae.cl T.zb1.m G_TextWalker_go_on (hr.mono (by decide)) T.zb1.b .nil zcu (@zaa _ _ _ _ _ (pv 1) (@zaa _ _ _ _ _ (@ziu _ _ _ _ _ _ _ _ (@zat _ _ _ _ _ _ _ _ z2h (za9 (pv 1) T.zaq.cl T.zam.m G_TextFrame_value_of (hr.mono (by decide)) T.zam.b .nil zcu (@zaa _ _ _ _ _ (@zaj _ _ _ _ _ _ _ zap (pv 2) zad (λ_ _=>rfl)) zaf (by rfl))) zad (za1 _)) zad zad) zaf (by rfl)) (by rfl))) (by rfl)) (@zah _ _ _ (@zau _ _ _ _ zi7))) zas) (@zab _ _ _ _ _ (@zax _ _ 3 _ _ _ _ zcm.nd rfl (Or.inl rfl) (za9 (pv 0) T.zae.cl T.zeu.m G_TextWalker_do_row (hr.mono (by decide)) T.zeu.b .nil zcu (@zaa _ _ _ _ _ (pv 1) (@zaa _ _ _ _ _ (pv 2) zaf (by rfl)) (by rfl))) (by rfl) (by first|exact .inl rfl|exact .inr rfl|assumption)) (@zab _ _ _ _ _ (@zbl _ _ _ _ (za9 (pv 0) T.zae.cl T.zb1.m G_TextWalker_go_on (hr.mono (by decide)) T.zb1.b .nil zcu (@zaa _ _ _ _ _ (pv 1) (@zaa _ _ _ _ _ zad zaf (by rfl)) (by rfl))) (by rfl)) (@zah _ _ _ (@zau _ _ _ _ (pv 3)))))); ?_);refine(let W3:TS:=_; have hW3:PSs XX ((zav za7).drop 3) W3:=(@zab _ _ _ _ _ (@zbq _ _ _ _ _ _ _ _ (@zat _ _ _ _ _ _ _ _ zc8 (@zaj _ _ _ _ _ _ _ zap (pv 2) zad (λ_ _=>rfl)) za5 (za1 _)) (@zab _ _ _ _ _ (@zbl _ _ _ _ (za9 (pv 0) T.zae.cl T.zef.m G_TextWalker_go_back (hr.mono (by decide)) T.zef.b .nil zcu (@zaa _ _ _ _ _ (za9 (pv 1) T.zaq.cl T.zam.m G_TextFrame_value_of (hr.mono (by decide)) T.zam.b .nil zcu (@zaa _ _ _ _ _ (@zaj _ _ _ _ _ _ _ zap (pv 2) zad (λ_ _=>rfl)) zaf (by rfl))) zaf (by rfl))) (by rfl)) (@zah _ _ _ (@zau _ _ _ _ zi7))) zas) hW4); ?_);refine(let W2:TS:=_; have hW2:PSs XX ((zav za7).drop 2) W2:=(@zab _ _ _ _ _ (@zbq _ _ _ _ _ _ _ _ (@zat _ _ _ _ _ _ _ _ zc8 (@zaj _ _ _ _ _ _ _ zap (pv 2) zad (λ_ _=>rfl)) za5 (za1 _)) (@zab _ _ _ _ _ (@zbl _ _ _ _ (za9 (pv 0) T.zae.cl T.zdc.m G_TextWalker_begin (hr.mono (by decide)) T.zdc.b .nil zcu (@zaa _ _ _ _ _ (@zaj _ _ _ _ _ _ _ zap (pv 2) zad (λ_ _=>rfl)) (@zaa _ _ _ _ _ (zf2 (N':=["atom","frame"]) (js:=[none,some 1]) (by kernel_rfl) rfl (zq0 (@zaj _ _ _ _ _ _ _ zap (pv 2) zad (λ_ _=>rfl))) zdo (λ_ _ _ _=>(za0 (i:=0) (show(["atom","frame"]:List Str).Nodup by decide +kernel) rfl (Or.inl rfl) (.inr rfl))) (λ_ _ _ _=>zfc) (λ_ _ _ _=>(za9 (pv 1) T.zaq.cl T.zam.m G_TextFrame_value_of (hr.mono (by decide)) T.zam.b .nil zcu (@zaa _ _ _ _ _ (pv 0) zaf (by rfl))))) zaf (by rfl)) (by rfl))) (by rfl)) (@zah _ _ _ (@zau _ _ _ _ zi7))) zas) hW3); ?_);obtain⟨Hb,w,fs,f,sent,cn,fns,F,r,rg,rfl,h,hFl,hF,hn,hr1,hq,hs,hk,q⟩:=h;refine⟨_,(@zab _ _ _ _ _ (@zax _ _ 1 _ _ _ _ zcm.nd rfl (Or.inr rfl) (@zaj _ _ _ _ _ _ _ zak (zbh (pv 0) (by rfl)) (zjo zfw zad) (λ_ _=>rfl)) (by rfl) (by first|exact .inl rfl|exact .inr rfl|assumption)) (@zab _ _ _ _ _ (@zax _ _ 2 _ _ _ _ zcm.nd rfl (Or.inl rfl) (za9 (pv 0) T.zae.cl T.zc3.m G_TextWalker_row_of (hr.mono (by decide)) T.zc3.b .nil zcu (@zaa _ _ _ _ _ (pv 1) zaf (by rfl))) (by rfl) (by first|exact .inl rfl|exact .inr rfl|assumption)) hW2)),?_⟩;have hfm:f∈fs++[f]:=List.mem_append_right _ (List.mem_singleton.mpr rfl);have hf:=h.fr f hfm;have hqH:=h.b.tup hq;have hrow:f.row<F.rs.length:=(List.getElem?_eq_some_iff.mp hr1).1;refine⟨_,rfl,w.a,_,_,_,_,rfl,h.o,T.zae.cl,T.zao,rfl,_,rfl,w.st,_,_,_,rfl,rfl,SqL.of h.st,zst _ _,?_⟩;refine⟨_,rfl,w.a,_,_,rfl,h.o,rfl,_,rfl,Hb,w,fs++[f],.non,sent,cn,f,fns,F,r,rfl,h,hfm,hFl,hF,hn,hr1,?_⟩;cases rg with
   | back a =>
     obtain⟨v,hv,q⟩:=q;exact⟨_,rfl,r.r,_,_,_,rfl,rfl,hqH,at0,rfl,_,rfl,iN ⟨_,rfl,r.r,_,_,_,rfl,rfl,hqH,at0,rfl,_,rfl,iP ⟨_,rfl,w.a,_,_,rfl,h.o,rfl,_,rfl,f.a,_,_,rfl,hf.o,rfl,_,rfl,r.r,_,_,_,rfl,rfl,hqH,rfl,f,a,v,rfl,hf,hv,Hb,w,fs,.non,sent,cn,f,v,rfl,h,q⟩⟩⟩
   | op x s a b =>
     refine⟨_,rfl,r.r,_,_,_,rfl,rfl,hqH,at0,rfl,_,rfl,iN ⟨_,rfl,r.r,_,_,_,rfl,rfl,hqH,at0,rfl,_,rfl,iN ⟨_,rfl,r.r,_,_,_,rfl,rfl,hqH,at0,le2,λtp htp=>⟨tp,_,rfl,.inr (SqT.of zac),rfl,(by decide +kernel),_,rfl,iN ?_⟩⟩⟩⟩;have s1:=zan.new (o:=.tup [.str (Str.ofString "if"),.str (Str.ofString "while")]) htp;have h1:=h.grow s1;have g1:=zb5 (H2:=upd H tp (.tup [.str (Str.ofString "if"),.str (Str.ofString "while")])) h.b;obtain⟨r2,hw,y,v,hg,q⟩:=q;refine⟨_,rfl,w.a,_,_,rfl,h1.o,rfl,_,rfl,_,rfl,_,w,fs,.non,sent,cn,f,r.r,.op x s a b,rfl,h1,g1.tup hq,hs,hk,y,v,hg,λHb2 H2 s2 h2=>?_⟩;exact⟨_,rfl,w.a,_,_,rfl,h2.o,rfl,_,rfl,Hb2,w,fs,.non,sent,cn,{ f with kvs:=zbd f.kvs (Sum.inr y:Key) v },fns,F,0,r2,rfl,h2,(hFl.mono g1).mono s2,hF,hn,hrow,hw,λH3 h3=>⟨_,rfl,q Hb2 H3 (g1.trans s2) h3⟩⟩
   | copy x a =>
     refine⟨_,rfl,r.r,_,_,_,rfl,rfl,hqH,at0,rfl,_,rfl,iN ⟨_,rfl,r.r,_,_,_,rfl,rfl,hqH,at0,rfl,_,rfl,iN ⟨_,rfl,r.r,_,_,_,rfl,rfl,hqH,at0,le2,λtp htp=>⟨tp,_,rfl,.inr (SqT.of zac),rfl,(by decide +kernel),_,rfl,iN ?_⟩⟩⟩⟩;have s1:=zan.new (o:=.tup [.str (Str.ofString "if"),.str (Str.ofString "while")]) htp;have h1:=h.grow s1;have g1:=zb5 (H2:=upd H tp (.tup [.str (Str.ofString "if"),.str (Str.ofString "while")])) h.b;obtain⟨r2,hw,y,v,hg,q⟩:=q;refine⟨_,rfl,w.a,_,_,rfl,h1.o,rfl,_,rfl,_,rfl,_,w,fs,.non,sent,cn,f,r.r,.copy x a,rfl,h1,g1.tup hq,hs,hk,y,v,hg,λHb2 H2 s2 h2=>?_⟩;exact⟨_,rfl,w.a,_,_,rfl,h2.o,rfl,_,rfl,Hb2,w,fs,.non,sent,cn,{ f with kvs:=zbd f.kvs (Sum.inr y:Key) v },fns,F,0,r2,rfl,h2,(hFl.mono g1).mono s2,hF,hn,hrow,hw,λH3 h3=>⟨_,rfl,q Hb2 H3 (g1.trans s2) h3⟩⟩
   | call x g p as =>
     obtain⟨G,vals,hG,hgn,hp,hl,hv,hal,hfl,hnn,hps,q⟩:=q;subst hgn;refine⟨_,rfl,r.r,_,_,_,rfl,rfl,hqH,at0,rfl,_,rfl,iP ⟨_,rfl,w.a,_,_,rfl,h.o,rfl,_,rfl,r.r,_,_,_,rfl,rfl,hqH,rfl,_,rfl,r.r,_,_,_,rfl,rfl,hqH,rfl,p,rfl,⟨_,h.b.tup hp⟩,λu hu=>zp0 (K:=K) (λi _ y=>∃a,as[i]?=some a/\av f.kvs a=some y) (λ_ _ _ _ _ z=>z) (xs:=as) (by omega) (h.b.tup hp) hu ?_ ?_⟩⟩
     . rintro i z H2 R' hz s2 ⟨acc,ha⟩ r2;have h2:=h.grow s2;have hf2:=h2.fr f hfm;have hi:i<vals.length:=by rw[<- hl]; exact(List.getElem?_eq_some_iff.mp hz).1
       have hvi:=hv i z _ hz (List.getElem?_eq_getElem hi);exact⟨_,rfl,f.a,_,_,rfl,hf2.o,rfl,_,rfl,f,z,_,rfl,hf2,hvi,r2 _ H2 (zan.refl _) ⟨z,hz,hvi⟩⟩
     . intro H3 ys s3 e3 ly ty;have ey:ys=vals:=by
         refine qct λi=>?_;cases e:ys[i]? with
         | none=>rw[qbl (by have:=qb6.mp e; omega)]
         | some y =>
           obtain⟨a,h1,h2⟩:=ty i y e;have hi:i<vals.length:=by rw[<- hl]; exact(List.getElem?_eq_some_iff.mp h1).1
           have:=hv i a _ h1 (List.getElem?_eq_getElem hi);rw[h2] at this;rw[List.getElem?_eq_getElem hi,this]
       subst ey;have h3:=h.grow s3;have u0:H u=none:=hu;exact⟨_,w,fs++[f],.non,sent,cn,fns,G,u,ys,rfl,h3,hFl.mono (zb5 h.b),hG,SqL.of (zn4 u0 e3),by omega,by rw[List.length_append]; show fs.length+1<=1000; omega,hnn,hps,λHb2 H4 f' s4 h4 e4 e5 e6=>q Hb2 H4 f' ((zb5 h.b).trans s4) h4 e4 e5 e6⟩
   | out a=>exact q.elim
   | put a fd b=>exact q.elim
   | new x=>exact q.elim
   | get x a fd=>exact q.elim
   | ifs a=>exact q.elim
   | whl a=>exact q.elim
theorem znw:FnScope ["self"] ["self"] (zai zfo):=⟨rfl,rfl,rfl,by decide +kernel,rfl,by decide +kernel,by decide +kernel⟩
theorem zjc (T:Txt K mg t):FnOk P w K mg base CX0 5 t.zk0 t.zk3 ["self"] (znz K t):=by
 have G_Walker_ended:=zia (P:=P) (w:=w) (base:=base) T;have G_TextWalker_walk_on:=zic (P:=P) (w:=w) (base:=base) T;refine T.zga.F.ok znw (λvs H Q E h=>?_) (λcdv A outer s H vs Q E hr h=>?_)
 . obtain⟨Hb,w,fs,f,sent,cn,fns,F,r,rg,rfl,h,hFl,hF,hn,hr1,hq,hs,hk,q⟩:=h;rfl
 . obtain⟨Hb,w,fs,f,sent,cn,fns,F,r,rg,rfl,h,hFl,hF,hn,hr1,hq,hs,hk,q⟩:=h;refine⟨_,(@zab _ _ _ _ _ (@zbq _ _ _ _ _ _ _ _ (zjb (zgk (pv 0) T.zae.cl T.ze4.m G_Walker_ended (hr.mono (by decide)) T.ze4.b .nil zcu)) (@zah _ _ _ zx8) zas) (@zah _ _ _ (@zau _ _ _ _ (zgk (pv 0) T.zae.cl T.zeg.m G_TextWalker_walk_on (hr.mono (by decide)) T.zeg.b .nil zcu)))),?_⟩;exact⟨_,rfl,w.a,_,_,rfl,h.o,rfl,Hb,w,fs++[f],.non,sent,cn,rfl,h,_,rfl,zha (by simp) ⟨_,rfl,w.a,_,_,rfl,h.o,rfl,Hb,w,fs,f,sent,cn,fns,F,r,rg,rfl,h,hFl,hF,hn,hr1,hq,hs,hk,q⟩⟩
theorem zj5:FnScope ["self","program","args"] ["self","program","args"] (zai zdl):=⟨rfl,rfl,rfl,by decide +kernel,rfl,by decide +kernel,by decide +kernel⟩
theorem zgh (T:Txt K mg t):FnOk P w K mg base CX0 7 t.zg0 t.zg5 ["self","program","args"] (zkc K t):=by
 have G_Walker_init:=zn2 (P:=P) (w:=w) (base:=base) T;have G_TextWalker_begin:=zfy (P:=P) (w:=w) (base:=base) T;refine T.zf6.F.ok zj5 (λvs H Q E h=>?_) (λcdv A outer s H vs Q E hr h=>?_)
 . obtain⟨x,dx,p,ar,fns,F,vals,rfl,hx,hp,hne,hlen,hall,hnd,hF,har,hv,hnn,hps,q⟩:=h;rfl
 . obtain⟨x,dx,p,ar,fns,F,vals,rfl,hx,hp,hne,hlen,hall,hnd,hF,har,hv,hnn,hps,q⟩:=h;refine⟨_,(@zab _ _ _ _ _ (@zbl _ _ _ _ (z0w (zry rfl T.zxw.g rfl) T.zjy.B G_Walker_init (hr.mono (by decide)) T.zjy.b .nil zcu (@zaa _ _ _ _ _ (pv 0) (@zaa _ _ _ _ _ (pv 1) zaf (by rfl)) (by rfl))) (by rfl)) (@zah _ _ _ (@zbl _ _ _ _ (za9 (pv 0) T.zae.cl T.zdc.m G_TextWalker_begin (hr.mono (by decide)) T.zdc.b .nil zcu (@zaa _ _ _ _ _ (zbh (zbh (pv 0) (by rfl)) (by rfl)) (@zaa _ _ _ _ _ (pv 2) zaf (by rfl)) (by rfl))) (by rfl)))),?_⟩;refine⟨_,rfl,_,rfl,x,dx,p,fns,rfl,hx,hp,hne,hlen,hall,hnd,λHb w H1 ew s1 h1 hFl=>?_⟩;subst ew;obtain⟨dx3,gs3,fz,c1,c2,c3⟩:=z1u (hFl.mono h1.b);rw[hF] at c2;cases c2;have hFm:F∈fns:=List.mem_of_getElem? hF;refine⟨_,rfl,w.a,_,_,rfl,h1.o,rfl,_,rfl,w.a,_,_,_,_,rfl,h1.o,T.zae.cl,T.zay,rfl,w.fl,_,_,_,_,rfl,c1,T.zb0.cl,T.zd3,c3,_,rfl,Hb,w,[],.non,[],⟨[],0⟩,fns,F,ar,vals,rfl,h1,hFl,hFm,s1.seq har,hv,by decide,hnn,hps,λHb2 H2 f s2 h2 e1 e2 e3=>?_⟩;exact q Hb2 w f H2 rfl (s1.trans s2) h2 (hFl.mono s2) e1 e2 e3
theorem zgi:FnScope ["self","level","name","number","frame"] ["self","level","name","number"] (zai zdr):=⟨rfl,rfl,rfl,by decide +kernel,rfl,by decide +kernel,by decide +kernel⟩
theorem zee (T:Txt K mg t):FnOk P w K mg base (CXe P w) 5 t.zgz t.zg4 ["self","level","name","number"] (zkb K t):=by
 have G_Walker_ask_for_name:=zej (P:=P) (w:=w) (base:=base) T;refine T.zcd.F.okE zgi (λvs H Q E h=>?_) (λcdv A outer s H vs Q E hr h=>?_)
 . obtain⟨Hb,w,fs,oc,sent,cn,z,n,v,fns,rfl,h,hFl,hall,hk,q1,q2⟩:=h;rfl
 . obtain⟨Hb,w,fs,oc,sent,cn,z,n,v,fns,rfl,h,hFl,hall,hk,q1,q2⟩:=h;refine⟨_,(@zab _ _ _ _ _ (@zbl _ _ _ _ (za9 (pv 0) T.zae.cl T.zcf.m G_Walker_ask_for_name (hr.mono (by decide)) T.zcf.b .nil z0c (@zaa _ _ _ _ _ (pv 1) (@zaa _ _ _ _ _ (pv 2) zaf (by rfl)) (by rfl))) (by rfl)) (@zab _ _ _ _ _ (@zax _ _ 4 _ _ _ _ zgi.nd rfl (Or.inl rfl) (@zaj _ _ _ _ _ _ _ zak (zbh (pv 0) (by rfl)) (pv 1) (λ_ _=>rfl)) (by rfl) (by first|exact .inl rfl|exact .inr rfl|assumption)) (@zab _ _ _ _ _ (zc1 (u1' hr.units) (zbh (pv 4) (by rfl)) (pv 2) (pv 3) (by rfl)) (@zah _ _ _ (@zau _ _ _ _ zh9))))),?_⟩;refine⟨_,rfl,w.a,_,_,rfl,h.o,rfl,_,rfl,_,rfl,Hb,w,fs,oc,sent,cn,z,n,fns,rfl,h,hFl,hall,λhT H1 s1=>?_,q2⟩;obtain⟨i,f,F,rfl,hf,hF,hn,hm⟩:=id hT;have h1:=h.grow s1;have hF1:=h1.fr f (List.mem_of_getElem? hf);refine⟨_,rfl,w.a,_,_,_,_,rfl,h1.o,T.zae.cl,T.zao,rfl,_,rfl,w.st,_,_,_,rfl,rfl,SqL.of h1.st,zll (by omega) (by rw[qbe]; exact hf),?_⟩;refine⟨_,rfl,_,rfl,f.a,_,_,_,_,rfl,hF1.o,T.zaq.cl,T.za4,rfl,_,rfl,f.nd,_,rfl,zmc.k (k:=(Sum.inr n:Key)) hF1.n (zba (hk f (List.mem_of_getElem? hf))),?_⟩;exact q1 hT i f _ _ rfl hf (zb5 h.b) (h1.nameAt hf)
theorem zpy:FnScope ["_law_script","_law_k"] ["_law_script","_law_k"] (zai zhj):=⟨rfl,rfl,rfl,by decide +kernel,rfl,by decide +kernel,by decide +kernel⟩
theorem zlv (T:Txt K mg t):FnOk P w K mg base CX0 1 t.znj t.znq ["_law_script","_law_k"] (zqt K):=by
 refine T.zfb.F.ok zpy (λvs H Q E h=>?_) (λcdv A outer s H vs Q E hr h=>?_)
 . obtain⟨a,ns,k,rfl,hS,hl,h0,q⟩:=h;rfl
 . obtain⟨a,ns,k,rfl,hS,hl,h0,q⟩:=h;refine⟨_,(@zab _ _ _ _ _ (@zbq _ _ _ _ _ _ _ _ (@zat _ _ _ _ _ _ _ _ zxd (pv 1) (zbs zbo (by rfl) T.b_len zhv (@zaa _ _ _ _ _ (pv 0) zaf (by rfl))) (za1 _)) (@zah _ _ _ (@zau _ _ _ _ (@zaj _ _ _ _ _ _ _ zak (pv 0) (pv 1) (λ_ _=>rfl)))) zas) (@zah _ _ _ (@zau _ _ _ _ zad))),?_⟩;have hlen:(ns.map V.int).length=ns.length:=List.length_map _;refine⟨_,rfl,_,rfl,a,_,rfl,.inl hS,_,_,rfl,rfl,_,rfl,?_⟩;refine z10 (λc=>?_) (λc=>?_)
   . have c:=zby c;rw[hlen] at c;obtain⟨z,hz⟩:=z2d h0 c;exact⟨_,rfl,_,rfl,a,_,_,_,rfl,rfl,hS,hz,q _⟩
   . exact q _
theorem zf1:FnScope ["_law_cell","_law_many","_law_found","_law_number","_law_k"] ["_law_cell","_law_many"] (zai ziv):=⟨rfl,rfl,rfl,by decide +kernel,rfl,by decide +kernel,by decide +kernel⟩
theorem zhg (T:Txt K mg t):FnOk P w K mg base CX0 1 t.zok t.zop ["_law_cell","_law_many"] (zrq K):=by
 refine T.zi2.F.ok zf1 (λvs H Q E h=>?_) (λcdv A outer s H vs Q E hr h=>?_)
 . obtain⟨c,m,rfl,hm,q⟩:=h;rfl
 . obtain⟨c,m,rfl,hm,q⟩:=h;refine⟨_,(@zab _ _ _ _ _ (@zax _ _ 2 _ _ _ _ zf1.nd rfl (Or.inl rfl) (@zdj _ _ _ _ zaf) (by rfl) (by first|exact .inl rfl|exact .inr rfl|assumption)) (@zab _ _ _ _ _ (@zax _ _ 3 _ _ _ _ zf1.nd rfl (Or.inl rfl) (@zaw _ _ _ _ _ _ _ _ zdx (@zaw _ _ _ _ _ _ _ _ zbt (pv 0) zad) zad) (by rfl) (by first|exact .inl rfl|exact .inr rfl|assumption)) (@zab _ _ _ _ _ (zeb PassesOwn.never rfl (zey rfl T.b_range (@zaa _ _ _ _ _ (@zaw _ _ _ _ _ _ _ _ zdx (pv 1) zad) zaf (by rfl))) (za0 (i:=4) zf1.nd rfl (Or.inl rfl)) (@zab _ _ _ _ _ (@zax _ _ 3 _ _ _ _ zf1.nd rfl (Or.inl rfl) (@zaw _ _ _ _ _ _ _ _ zbt (@zaw _ _ _ _ _ _ _ _ zdx (@zaw _ _ _ _ _ _ _ _ zdx (@zaw _ _ _ _ _ _ _ _ zmm (pv 3) (pv 3)) (@zaw _ _ _ _ _ _ _ _ zmm zad (pv 3))) (pv 4)) zad) (by rfl) (by first|exact .inl rfl|exact .inr rfl|assumption)) (@zah _ _ _ (@zbl _ _ _ _ (zj8 qay qa9 qba zdb (pv 2) (@zaa _ _ _ _ _ (pv 3) zaf (by rfl))) (by rfl))))) (@zah _ _ _ (@zau _ _ _ _ (@zc0 _ _ _ _ _ _ _ _ _ _ zes (pv 2) (zdd zad) zec)))))),?_⟩;have bM:∀z:Int,0<=z%2147483647/\z%2147483647<2147483647:=λz=>zc9 z 2147483647 (by decide);refine⟨le0,λl hl=>?_⟩;generalize e:upd H l _=H1;have ⟨s1,e1⟩:=nw e hl;refine⟨_,rfl,_,_,rfl,rfl,(show(0:Int)<2147483647 by decide),_,_,rfl,rfl,?_⟩;have b0:=bM c;refine⟨_,rfl,_,_,rfl,rfl,_,rfl,by omega,by omega,zko (lo:=0) (n:=((m:Int)+1).toNat) (λi σ H'=>∃(k:Int) (v4:Option V) (ns:List Int),σ=[some (.int c),some (.int m),some (.ref l),some (.int k),v4]/\0<=k/\k<2 ^ 40/\zan H H'/\H' l=some (.lst (ns.map V.int))/\ns.length=i/\∀n∈ns,0<=n/\n<2147483647) ⟨c%2147483647+48271,_,[],rfl,by omega,by omega,s1,e1,rfl,λn h=>by cases h⟩ ?_ ?_⟩
   . rintro i σ H' hi ⟨k,v4,ns,rfl,k0,k1,s2,e2,hlen,hns⟩;have b:=bM (k * k+48271 * k+(0+(i:Int)));refine⟨_,rfl,_,rfl,_,_,rfl,rfl,.inl ⟨by omega,by omega⟩,_,rfl,_,_,rfl,rfl,.inl ⟨by decide,by decide⟩,_,_,rfl,rfl,_,rfl,_,_,rfl,rfl,_,_,rfl,rfl,(show(0:Int)<2147483647 by decide),_,rfl,.inl ⟨rfl,_,SqL.of e2⟩,_,rfl,l,_,_,rfl,rfl,e2,zba (by rw[List.length_map]; omega),(k * k+48271 * k+(0+(i:Int)))%2147483647,_,ns++[(k * k+48271 * k+(0+(i:Int)))%2147483647],rfl,b.1,by omega,s2.upd hl,?_,by rw[List.length_append,hlen]; rfl,λn hn=>?_⟩
     . rw[List.map_append]; exact zac
     . rcases List.mem_append.mp hn with hn|hn
       . exact hns n hn
       . rw[List.mem_singleton.mp hn]; exact b
   . rintro σ H' ⟨k,v4,ns,rfl,k0,k1,s2,e2,hlen,hns⟩;refine⟨_,rfl,_,rfl,l,_,rfl,SqL.of e2,λp hp=>?_⟩;have hc:zkp (ns.map V.int) (some 1) none=(ns.drop 1).map V.int:=by rw[zxa,List.map_drop]
     rw[hc];exact q p _ (ns.drop 1) (s2.free hp) (s2.trans (zan.new hp)) zac (by rw[qbj,hlen]; omega) λn hn=>hns n (qbz hn)
theorem zdp:FnScope ["_law_cell","_law_many","_law_letters","_law_size","_law_at","_law_common","_law_found","_law_k","_law_name"] ["_law_cell","_law_many"] (zai ze1):=⟨rfl,rfl,rfl,by decide +kernel,rfl,by decide +kernel,by decide +kernel⟩
theorem zu0 (T:Txt K mg t):FnOk P w K mg base CX0 1 t.znm t.zrg ["_law_cell","_law_many"] (zux K):=by
 refine T.zx2.F.ok zdp (λvs H Q E h=>?_) (λcdv A outer s H vs Q E hr h=>?_)
 . obtain⟨c,m,rfl,hm,q⟩:=h;rfl
 . skip
   refine(let XX:Cx:=(zkf CX0 P w K mg base ["_law_cell","_law_many","_law_letters","_law_size","_law_at","_law_common","_law_found","_law_k","_law_name"] "_law_names" (zai ze1) t.znm cdv A outer s H E).nox; ?_);refine(let W6:TS:=_; have hW6:PSs XX ((zav ze1).drop 6) W6:=(@zab _ _ _ _ _ (zeb PassesOwn.never rfl (zey rfl T.b_range (@zaa _ _ _ _ _ (pv 1) zaf (by rfl))) (za0 (i:=7) zdp.nd rfl (Or.inl rfl)) (@zab _ _ _ _ _ (@zax _ _ 8 _ _ _ _ zdp.nd rfl (Or.inl rfl) (@zaw _ _ _ _ _ _ _ _ zgy (@zaw _ _ _ _ _ _ _ _ zgy (@zc0 _ _ _ _ _ _ _ _ _ _ z0n (pv 5) zec (zdd (pv 4))) (@zaj _ _ _ _ _ _ _ ztl (pv 2) (@zaw _ _ _ _ _ _ _ _ zbt (@zaw _ _ _ _ _ _ _ _ zdx (@zaw _ _ _ _ _ _ _ _ zf5 (pv 0) zad) (@zaw _ _ _ _ _ _ _ _ zmm zad (pv 7))) zad) (λ_ _=>rfl))) (@zc0 _ _ _ _ _ _ _ _ _ _ z0n (pv 5) (zdd (pv 4)) zec)) (by rfl) (by first|exact .inl rfl|exact .inr rfl|assumption)) (@zab _ _ _ _ _ (@zbq _ _ _ _ _ _ _ _ (@zat _ _ _ _ _ _ _ _ zig (pv 8) (@z08 _ _ [V.str "fn",V.str "in",V.str "new",V.str "get",V.str "put",V.str "call",V.str "out",V.str "if",V.str "while",V.str "else",V.str "end",V.str "back"] (by kernel_rfl)) (by with_unfolding_all rfl)) (@zah _ _ _ (@zax _ _ 8 _ _ _ _ zdp.nd rfl (Or.inl rfl) (@zaw _ _ _ _ _ _ _ _ zgy (pv 8) za5) (by rfl) (by first|exact .inl rfl|exact .inr rfl|assumption))) zas) (@zah _ _ _ (@zbl _ _ _ _ (zj8 qay qa9 qba zdb (pv 6) (@zaa _ _ _ _ _ (pv 8) zaf (by rfl))) (by rfl)))))) (@zah _ _ _ (@zau _ _ _ _ (pv 6)))); ?_);refine(let W4:TS:=_; have hW4:PSs XX ((zav ze1).drop 4) W4:=(@zab _ _ _ _ _ (@zax _ _ 5 _ _ _ _ zdp.nd rfl (Or.inl rfl) (zj8 PySem.F.plainAttrs_str PySem.F.slot_str_join PySem.F.type_str_join z2l za5 (@zaa _ _ _ _ _ (zf2 (N':=["_law_k","_law_letters","_law_cell"]) (js:=[none,some 2,some 0]) (by kernel_rfl) rfl (zey rfl T.b_range (@zaa _ _ _ _ _ (pv 3) zaf (by rfl))) zdo (λ_ _ _ _=>(za0 (i:=0) (show(["_law_k","_law_letters","_law_cell"]:List Str).Nodup by decide +kernel) rfl (Or.inl rfl) (.inr rfl))) (λ_ _ _ _=>zfc) (λ_ _ _ _=>(@zaj _ _ _ _ _ _ _ ztl (pv 1) (@zaw _ _ _ _ _ _ _ _ zbt (@zaw _ _ _ _ _ _ _ _ zf5 (pv 2) (@zaw _ _ _ _ _ _ _ _ zdx zad (@zaw _ _ _ _ _ _ _ _ zmm (pv 0) (@zaw _ _ _ _ _ _ _ _ zbt (pv 2) zad)))) zad) (λ_ _=>rfl)))) zaf (by rfl))) (by rfl) (by first|exact .inl rfl|exact .inr rfl|assumption)) (@zab _ _ _ _ _ (@zax _ _ 6 _ _ _ _ zdp.nd rfl (Or.inl rfl) (@zdj _ _ _ _ zaf) (by rfl) (by first|exact .inl rfl|exact .inr rfl|assumption)) hW6)); ?_);refine(let W2:TS:=_; have hW2:PSs XX ((zav ze1).drop 2) W2:=(@zab _ _ _ _ _ (@zax _ _ 3 _ _ _ _ zdp.nd rfl (Or.inl rfl) (@zaw _ _ _ _ _ _ _ _ zbt (@zaw _ _ _ _ _ _ _ _ zf5 (pv 0) zad) zad) (by rfl) (by first|exact .inl rfl|exact .inr rfl|assumption)) (@zab _ _ _ _ _ (@zax _ _ 4 _ _ _ _ zdp.nd rfl (Or.inl rfl) (@zaw _ _ _ _ _ _ _ _ zbt (@zaw _ _ _ _ _ _ _ _ zf5 (pv 0) zad) (@zaw _ _ _ _ _ _ _ _ zdx (pv 3) zad)) (by rfl) (by first|exact .inl rfl|exact .inr rfl|assumption)) hW4)); ?_);obtain⟨c,m,rfl,hm,q⟩:=h;refine⟨_,(@zab _ _ _ _ _ (@zax _ _ 2 _ _ _ _ zdp.nd rfl (Or.inr rfl) za5 (by rfl) (by first|exact .inl rfl|exact .inr rfl|assumption)) (@zab _ _ _ _ _ (@zbq _ _ _ _ _ _ _ _ (@zat _ _ _ _ _ _ _ _ zc8 (@zaw _ _ _ _ _ _ _ _ zbt (pv 0) zad) zad (za1 _)) (@zah _ _ _ (@zau _ _ _ _ (zf2 (N':=["_law_k","_law_letters","_law_cell"]) (js:=[none,some 2,some 0]) (by kernel_rfl) rfl (zey rfl T.b_range (@zaa _ _ _ _ _ (pv 1) zaf (by rfl))) zdo (λ_ _ _ _=>(za0 (i:=0) (show(["_law_k","_law_letters","_law_cell"]:List Str).Nodup by decide +kernel) rfl (Or.inl rfl) (.inr rfl))) (λ_ _ _ _=>zfc) (λ_ _ _ _=>(@zaw _ _ _ _ _ _ _ _ z1r (@zaj _ _ _ _ _ _ _ ztl (pv 1) (@zaw _ _ _ _ _ _ _ _ zbt (@zaw _ _ _ _ _ _ _ _ zf5 (pv 2) zad) zad) (λ_ _=>rfl)) (@zaw _ _ _ _ _ _ _ _ zdx (pv 0) zad)))))) zas) hW2)),?_⟩;have lf:("abcdefghijklmnopqrstuvwxyz":Str).length<=sizeLine:=by decide +kernel
   refine⟨_,rfl,_,_,rfl,rfl,(show(0:Int)<5 by decide),rfl,_,rfl,?_⟩;refine z10 (λ_=>?_) (λ_=>?_)
   . have b:=zc9 (c / 5) 26 (by decide);refine⟨_,rfl,_,rfl,by omega,by omega,λu hu=>zkg (lo:=0) (n:=(m:Int).toNat) (λi _ v=>v=.str (tx (List.replicate (i+1) (97+(c / 5%26).toNat)))) (λ_ _ _ _ _ h=>h) (by omega) hu ?_ ?_⟩
     . rintro i H2 R' hi s2 _ r2;refine⟨_,rfl,_,rfl,_,_,rfl,rfl,zyi _ _ (by decide),_,_,rfl,rfl,(show(0:Int)<26 by decide),_,_,_,rfl,rfl,lf,K14.let_at b.1 b.2,_,rfl,_,_,rfl,rfl,_,_,rfl,rfl,by omega,by omega,r2 _ H2 (zan.refl _) ?_⟩;rw[show(0+(i:Int)+1).toNat=i+1 by omega];rfl
     . intro H2 vs s2 e2 lv tv;have ev:=zzy (m:=m) (by omega) tv;subst ev;refine q u H2 ((List.range m).map λk=>tx (List.replicate (k+1) (97+(c / 5%26).toNat))) hu s2 (by rw[qbx]; exact e2) (by simp) ⟨nodup_range λj k hj hk z=>?_,λn hn=>?_⟩
       . have:=congrArg (λy:Str=>y.length) z;simp only[zkd,List.length_replicate] at this;omega
       . obtain⟨k,hk,rfl⟩:=List.mem_map.mp hn;have:=qdg.mp hk;refine⟨_,rfl,λx hx=>?_,by simp,by simp; omega⟩;rw[(List.mem_replicate.mp hx).2];omega
   . have b7:=zc9 (c / 5) 7 (by decide);refine⟨_,rfl,_,_,rfl,rfl,zyi _ _ (by decide),_,_,rfl,rfl,(show(0:Int)<7 by decide),?_⟩;refine⟨_,rfl,_,_,rfl,rfl,zyi _ _ (by decide),_,rfl,_,_,rfl,rfl,_,_,rfl,rfl,(show(0:Int)<c / 5%7+1 by omega),?_⟩;have ba:=zc9 (c / 35) (c / 5%7+1) (by omega);obtain⟨at',hat'⟩:∃a:Nat,c / 35%(c / 5%7+1)=(a:Int):=⟨(c / 35%(c / 5%7+1)).toNat,by omega⟩
     refine⟨rfl,_,rfl,_,rfl,by omega,by omega,λu hu=>zkg (lo:=0) (n:=(c / 5%7).toNat) (λ_ _ v=>∃ch,(97<=ch/\ch<=122)/\v=.str (tx [ch])) (λ_ _ _ _ _ h=>h) (by omega) hu ?_ ?_⟩
     . rintro i H2 R' hi s2 _ r2;have b2:=zc9 c 2 (by decide);have den:0<9+(0+(i:Int)) * (c%2)/\9+(0+(i:Int)) * (c%2)<1073741824:=by
         have:c%2=0\/c%2=1:=by omega
         rcases this with z|z <;> rw[z] <;> omega
       have b:=zc9 (c / (9+(0+(i:Int)) * (c%2))) 26 (by decide);exact⟨_,rfl,_,rfl,_,rfl,_,rfl,_,_,rfl,rfl,(show(0:Int)<2 by decide),_,_,rfl,rfl,.inr ⟨by omega,by omega⟩,_,_,rfl,rfl,_,_,rfl,rfl,den,_,_,rfl,rfl,(show(0:Int)<26 by decide),_,_,_,rfl,rfl,lf,K14.let_at b.1 b.2,r2 _ H2 (zan.refl _) ⟨_,by omega,rfl⟩⟩
     intro H2 vs s2 e2 lv tv;obtain⟨cs,rfl,hcs,hcl⟩:=zwf tv;have hcl2:cs.length<=6:=by omega
     refine⟨_,u,cs.map λc=>tx [c],rfl,rfl,SqL.of e2,K14.one_fit (by omega),?_⟩;rw[K14.one_join];refine⟨le0,λl hl=>?_⟩;have s3:=s2.trans (zan.new (o:=.lst []) hl);have e3:=zac (H:=H2) (a:=l) (o:=.lst []);have l0:H l=none:=s2.free hl;generalize upd H2 l (.lst [])=H3 at s3 e3 ⊢;have tcl:(tx cs).length<=sizeLine:=qbq (zba (by rw[zkd]; omega));refine⟨_,rfl,_,rfl,by omega,by omega,(let Jv1:Nat->St->Hp->Prop:=λi σ H'=>∃v7 v8:Option V,σ=[some (.int c),some (.int m),some (.str "abcdefghijklmnopqrstuvwxyz"),some (.int (c / 5%7)),some (.int (c / 35%(c / 5%7+1))),some (.str (tx cs)),some (.ref l),v7,v8]/\zan H H'/\H' l=some (.lst (((List.range i).map λk=>tx (nmF WN cs at' (c / 3) k)).map V.str)); zko (lo:=0) (n:=(m:Int).toNat) Jv1 ?_ ?_ ?_)⟩
     . exact⟨_,_,rfl,s3,e3⟩
     . rintro i σ H' hi ⟨v7,v8,rfl,s4,e4⟩;have b:=zc9 (c / 3+7 * (0+(i:Int))) 26 (by decide);have hb1:(Txt.slice (tx cs) none (some (c / 35%(c / 5%7+1))))=tx (cs.take at'):=by rw[hat']; exact K15.sl_to cs at'
       have hb2:(Txt.slice (tx cs) (some (c / 35%(c / 5%7+1))) none)=tx (cs.drop at'):=by rw[hat']; exact K15.sl_from cs at'
       have l1:(tx (cs.take at')).length<=6:=by rw[zkd,qax]; omega
       have l2:(tx (cs.drop at')).length<=6:=by rw[zkd,qbj]; omega
       refine⟨_,rfl,_,rfl,_,rfl,_,rfl,tcl,_,rfl,_,rfl,_,_,rfl,rfl,zyi _ _ (by decide),_,rfl,_,_,rfl,rfl,.inl ⟨by decide,by decide⟩,_,_,rfl,rfl,_,_,rfl,rfl,(show(0:Int)<26 by decide),_,_,_,rfl,rfl,lf,K14.let_at b.1 b.2,_,_,rfl,rfl,(by rw[hb1]; exact qbq (zba (by show(tx (cs.take at')).length+1<1000000; omega))),_,rfl,_,rfl,_,rfl,_,rfl,tcl,_,_,rfl,rfl,?_,?_⟩
       . rw[hb1,hb2,Str.length_append];exact qbq (zba (by show(tx (cs.take at')).length+1+(tx (cs.drop at')).length<1000000; omega))
       rw[hb1,hb2];have enm:tx (cs.take at')++(⟨#[97+((c / 3+7 * (0+(i:Int)))%26).toNat]⟩:Str)++tx (cs.drop at')=tx (nmB cs at' (c / 3) i):=by refine K14.str_ext ?_;rw[qdx];show((tx (cs.take at')).cps++#[chr (c / 3) i]++(tx (cs.drop at')).cps).toList=_;unfold nmB;rw[zku];simp [tx]
       rw[enm];refine⟨_,rfl,(by show 12<=sizeLine; decide),λtp htp=>⟨tp,zog.map V.str,rfl,.inr (SqT.of zac),rfl,(by decide +kernel),_,rfl,?_⟩⟩;have sT:=zan.new (o:=.tup (zog.map V.str)) htp;have e5:=sT _ _ e4;have s5:=s4.trans sT;rw[show(if false=true then !inV (.str (tx (nmB cs at' (c / 3) i))) (zog.map V.str) else inV (.str (tx (nmB cs at' (c / 3) i))) (zog.map V.str))=decide (nmB cs at' (c / 3) i∈WN) from inW _];have ll:(nmB cs at' (c / 3) i).length<=7:=by rw[zo7]; omega
       have push:∀y,y=tx (nmF WN cs at' (c / 3) i)->((List.range i).map λk=>tx (nmF WN cs at' (c / 3) k)).map V.str++[V.str y]=((List.range (i+1)).map λk=>tx (nmF WN cs at' (c / 3) k)).map V.str:=λy hy=>by rw[List.range_succ,List.map_append,List.map_append,hy]; rfl
       by_cases hW:nmB cs at' (c / 3) i∈WN
       . refine zh8 (decide_eq_true hW) ⟨_,rfl,_,_,rfl,rfl,qbq (zba (by rw[zkd]; show(nmB cs at' (c / 3) i).length+1<1000000; omega)),_,rfl,.inl ⟨rfl,_,SqL.of e5⟩,_,rfl,l,_,_,rfl,rfl,e5,zba (by rw[List.length_map,List.length_map,qds]; omega),_,_,rfl,s5.upd l0,?_⟩;rw[zac,push];unfold nmF;rw[if_pos hW];refine K14.str_ext ?_;rw[zku];show((tx (nmB cs at' (c / 3) i)).cps++_).toList=_;simp [tx];decide +kernel
       . refine zha (λz=>hW (of_decide_eq_true z)) ⟨_,rfl,.inl ⟨rfl,_,SqL.of e5⟩,_,rfl,l,_,_,rfl,rfl,e5,zba (by rw[List.length_map,List.length_map,qds]; omega),_,_,rfl,s5.upd l0,?_⟩;rw[zac,push];unfold nmF;rw[if_neg hW]
     . rintro σ H' ⟨v7,v8,rfl,s4,e4⟩;rw[qbe] at e4;refine⟨_,rfl,q l H' _ l0 s4 e4 (by simp) ⟨nodup_range λj k hj hk z=>z2t (by omega) (by omega) (z4b z),λn hn=>?_⟩⟩;obtain⟨k,hk,rfl⟩:=List.mem_map.mp hn;have hB:=zo7 cs at' (c / 3) k;have hL:Let (nmB cs at' (c / 3) k):=λx hx=>by
         unfold nmB at hx;rcases List.mem_append.mp hx with hx|hx
         . exact hcs x (qbt hx)
         rcases List.mem_cons.mp hx with rfl|hx
         . exact z4p _ _
         . exact hcs x (qbz hx)
       refine⟨_,rfl,?_⟩;unfold nmF;split
       . refine⟨λx hx=>?_,by simp,by rw[List.length_append]; show _+1<=9; omega⟩;rcases List.mem_append.mp hx with hx|hx
         . exact hL x hx
         . rw[List.mem_singleton.mp hx]; decide
       . exact⟨hL,by omega,by omega⟩
theorem zo0:FnScope ["_law_number"] ["_law_number"] (zai zgn):=⟨rfl,rfl,rfl,by decide +kernel,rfl,by decide +kernel,by decide +kernel⟩
theorem zfq (T:Txt K mg t):FnOk P w K mg base CX0 1 t.zly t.zl0 ["_law_number"] (zpi K):=by
 refine T.zg9.F.ok zo0 (λvs H Q E h=>?_) (λcdv A outer s H vs Q E hr h=>?_)
 . obtain⟨n,rfl,q⟩:=h;rfl
 . obtain⟨n,rfl,q⟩:=h;refine⟨_,(@zab _ _ _ _ _ (@zbq _ _ _ _ _ _ _ _ (@zat _ _ _ _ _ _ _ _ zc8 (@zaw _ _ _ _ _ _ _ _ zbt (pv 0) zad) zad (za1 _)) (@zah _ _ _ (@zau _ _ _ _ (@zaw _ _ _ _ _ _ _ _ zbt (@zaw _ _ _ _ _ _ _ _ zf5 (pv 0) zad) zad))) zas) (@zab _ _ _ _ _ (@zbq _ _ _ _ _ _ _ _ (@zat _ _ _ _ _ _ _ _ zc8 (@zaw _ _ _ _ _ _ _ _ zbt (pv 0) zad) zad (za1 _)) (@zah _ _ _ (@zau _ _ _ _ (@zaw _ _ _ _ _ _ _ _ zqm (@zaw _ _ _ _ _ _ _ _ zqm (@zaw _ _ _ _ _ _ _ _ zwv zad zad) zad) (@zaw _ _ _ _ _ _ _ _ zbt (@zaw _ _ _ _ _ _ _ _ zf5 (pv 0) zad) zad)))) zas) (@zah _ _ _ (@zau _ _ _ _ (@zaw _ _ _ _ _ _ _ _ zbt (@zaw _ _ _ _ _ _ _ _ zmm (@zaw _ _ _ _ _ _ _ _ zf5 (pv 0) zad) zad) (@zaw _ _ _ _ _ _ _ _ zwv zad zad)))))),?_⟩;have x1:(2:Int) ^ (48:Int).toNat=281474976710656:=by decide
   have w1:K21.wide=281474976710656:=by decide
   have b5:=zc9 (n / 3) 5 (by decide);refine⟨_,rfl,_,_,rfl,rfl,(show(0:Int)<3 by decide),rfl,_,rfl,?_⟩;refine z10 (λ_=>?_) (λ_=>?_)
   . exact⟨_,rfl,_,_,rfl,rfl,zwl _,_,_,rfl,rfl,(show(0:Int)<5 by decide),q _ ⟨b5.1,by rw[w1]; omega⟩⟩
   refine⟨_,rfl,_,_,rfl,rfl,(show(0:Int)<3 by decide),rfl,_,rfl,?_⟩;refine z10 (λ_=>?_) (λ_=>?_)
   . refine⟨_,_,rfl,rfl,⟨by decide,by decide,by decide⟩,_,_,rfl,rfl,_,rfl,_,_,rfl,rfl,zwl _,_,_,rfl,rfl,(show(0:Int)<5 by decide),_,_,rfl,rfl,q _ ⟨?_,?_⟩⟩
     . rw[x1]; omega
     . rw[x1,w1]; omega
   . refine⟨_,rfl,_,_,rfl,rfl,zwl _,_,_,rfl,rfl,.inr ⟨by decide,by decide⟩,_,_,rfl,rfl,⟨by decide,by decide,by decide⟩,_,_,rfl,rfl,(show(0:Int)<2 ^ (48:Int).toNat by decide),q _ ?_⟩;rw[x1];have b:=zc9 (n / 3 * 160481183) 281474976710656 (by decide);exact⟨b.1,by rw[w1]; exact b.2⟩
theorem zv1:FnScope ["_law_number","_law_names_here"] ["_law_number","_law_names_here"] (zai zme):=⟨rfl,rfl,rfl,by decide +kernel,rfl,by decide +kernel,by decide +kernel⟩
theorem zp6 (T:Txt K mg t):FnOk P w K mg base CX0 2 t.ztx t.ztz ["_law_number","_law_names_here"] (zws K):=by
 have G_l_value_by:=zfq (P:=P) (w:=w) (base:=base) T;refine T.zl1.F.ok zv1 (λvs H Q E h=>?_) (λcdv A outer s H vs Q E hr h=>?_)
 . obtain⟨n,a,ns,rfl,ha,hn,q⟩:=h;rfl
 . obtain⟨n,a,ns,rfl,ha,hn,q⟩:=h;refine⟨_,(@zab _ _ _ _ _ (@zbq _ _ _ _ _ _ _ _ (@zat _ _ _ _ _ _ _ _ zc8 (@zaw _ _ _ _ _ _ _ _ zbt (pv 0) zad) zad (za1 _)) (@zah _ _ _ (@zau _ _ _ _ (zbu T.zg9 G_l_value_by (hr.mono (by decide)) (@zaa _ _ _ _ _ (@zaw _ _ _ _ _ _ _ _ zf5 (pv 0) zad) zaf (by rfl))))) zas) (@zah _ _ _ (@zau _ _ _ _ (@zaj _ _ _ _ _ _ _ zak (pv 1) (@zaw _ _ _ _ _ _ _ _ zbt (@zaw _ _ _ _ _ _ _ _ zf5 (pv 0) zad) (zbs zbo (by rfl) T.b_len zhv (@zaa _ _ _ _ _ (pv 1) zaf (by rfl)))) (λ_ _=>rfl))))),?_⟩;refine⟨_,rfl,_,_,rfl,rfl,(show(0:Int)<3 by decide),rfl,_,rfl,?_⟩;refine z10 (λ_=>?_) (λ_=>?_)
   . exact⟨_,rfl,_,_,rfl,rfl,zwl _,n / 3,rfl,λv hv=>q _ (.inl ⟨v,rfl,hv⟩)⟩
   . have hl:(0:Int)<((ns.map V.str).length:Nat):=by rw[List.length_map]; omega
     have b:=zc9 (n / 3) _ hl;obtain⟨v,hv,hm⟩:=zmb (xs:=ns.map V.str) b.1 b.2;obtain⟨s,hs,rfl⟩:=List.mem_map.mp hm;exact⟨_,rfl,_,rfl,_,_,rfl,rfl,zwl _,_,rfl,a,_,rfl,.inl ha,_,_,rfl,rfl,hl,a,_,_,_,rfl,rfl,ha,hv,q _ (.inr ⟨s,rfl,hs⟩)⟩
theorem zth:FnScope ["_law_cell","_law_names_here","_law_xs"] ["_law_cell","_law_names_here"] (zai zoz):=⟨rfl,rfl,rfl,by decide +kernel,rfl,by decide +kernel,by decide +kernel⟩
theorem zzg (T:Txt K mg t):FnOk P w K mg base CX0 3 t.zxr t.zxy ["_law_cell","_law_names_here"] (zzz K):=by
 have G_l_stream:=zhg (P:=P) (w:=w) (base:=base) T;have G_l_atom:=zp6 (P:=P) (w:=w) (base:=base) T;refine T.z20.F.ok zth (λvs H Q E h=>?_) (λcdv A outer s H vs Q E hr h=>?_)
 . obtain⟨c,a,ns,rfl,ha,hn,q⟩:=h;rfl
 . obtain⟨c,a,ns,rfl,ha,hn,q⟩:=h;refine⟨_,(@zab _ _ _ _ _ (@zax _ _ 2 _ _ _ _ zth.nd rfl (Or.inl rfl) (zbu T.zi2 G_l_stream (hr.mono (by decide)) (@zaa _ _ _ _ _ (pv 0) (@zaa _ _ _ _ _ zad zaf (by rfl)) (by rfl))) (by rfl) (by first|exact .inl rfl|exact .inr rfl|assumption)) (@zab _ _ _ _ _ (@zbq _ _ _ _ _ _ _ _ (@zat _ _ _ _ _ _ _ _ zc8 (@zaw _ _ _ _ _ _ _ _ zbt (@zaj _ _ _ _ _ _ _ zak (pv 2) zad (λ_ _=>rfl)) zad) zad (za1 _)) (@zah _ _ _ (@zau _ _ _ _ (@zck _ _ _ _ _ (@zaa _ _ _ _ _ za5 (@zaa _ _ _ _ _ (@zaj _ _ _ _ _ _ _ zak (pv 1) (@zaw _ _ _ _ _ _ _ _ zbt (@zaj _ _ _ _ _ _ _ zak (pv 2) zad (λ_ _=>rfl)) zad) (λ_ _=>rfl)) (@zaa _ _ _ _ _ (zbu T.zl1 G_l_atom (hr.mono (by decide)) (@zaa _ _ _ _ _ (@zaj _ _ _ _ _ _ _ zak (pv 2) zad (λ_ _=>rfl)) (@zaa _ _ _ _ _ (@zc0 _ _ _ _ _ _ _ _ _ _ zes (pv 1) zec (zdd zad)) zaf (by rfl)) (by rfl))) zaf (by rfl)) (by rfl)) (by rfl))))) zas) (@zah _ _ _ (@zau _ _ _ _ (@zck _ _ _ _ _ (@zaa _ _ _ _ _ za5 (@zaa _ _ _ _ _ (@zaj _ _ _ _ _ _ _ zak (pv 1) (@zaw _ _ _ _ _ _ _ _ zbt (@zaj _ _ _ _ _ _ _ zak (pv 2) zad (λ_ _=>rfl)) zad) (λ_ _=>rfl)) (@zaa _ _ _ _ _ (@zaj _ _ _ _ _ _ _ ztl za5 (@zaw _ _ _ _ _ _ _ _ zbt (@zaj _ _ _ _ _ _ _ zak (pv 2) zad (λ_ _=>rfl)) zad) (λ_ _=>rfl)) (@zaa _ _ _ _ _ (zbu T.zl1 G_l_atom (hr.mono (by decide)) (@zaa _ _ _ _ _ (@zaj _ _ _ _ _ _ _ zak (pv 2) zad (λ_ _=>rfl)) (@zaa _ _ _ _ _ (@zc0 _ _ _ _ _ _ _ _ _ _ zes (pv 1) zec (zdd zad)) zaf (by rfl)) (by rfl))) (@zaa _ _ _ _ _ (zbu T.zl1 G_l_atom (hr.mono (by decide)) (@zaa _ _ _ _ _ (@zaj _ _ _ _ _ _ _ zak (pv 2) zad (λ_ _=>rfl)) (@zaa _ _ _ _ _ (@zc0 _ _ _ _ _ _ _ _ _ _ zes (pv 1) zec (zdd zad)) zaf (by rfl)) (by rfl))) zaf (by rfl)) (by rfl)) (by rfl)) (by rfl)) (by rfl))))))),?_⟩;refine⟨_,rfl,c,5,rfl,by decide,λl H1 xs hl0 s1 e1 hx hx0=>?_⟩
   match xs,hx with
   | [n0,n1,n2,n3,n4],_ =>
   have b5:=zc9 n1 5 (by decide);have hl:(ns.take 5).length=5:=by rw[qax]; omega
   obtain⟨x,hv,hxm⟩:∃x,atI (ns.map V.str) (n1%5)=some (.str x)/\x∈ns.take 5:=by
     have hi:(n1%5).toNat<ns.length:=by omega
     refine⟨ns[(n1%5).toNat],zll b5.1 (List.getElem?_eq_getElem hi),?_⟩;have:(ns.take 5)[(n1%5).toNat]?=some ns[(n1%5).toNat]:=by rw[qb8 (by omega)]; exact List.getElem?_eq_getElem hi
     exact List.mem_of_getElem? this
   have c5:=zs3 ns 5 (by omega);have c5:zkp (ns.map V.str) none (some 5)=(ns.take 5).map V.str:=c5;have sa:=s1.seq ha;refine⟨_,rfl,l,_,_,_,rfl,rfl,SqL.of e1,at0,_,_,rfl,rfl,(show(0:Int)<3 by decide),rfl,_,rfl,?_⟩;refine z10 (λ_=>?_) (λ_=>?_)
   . refine⟨_,rfl,_,rfl,l,_,_,_,rfl,rfl,SqL.of e1,rfl,_,_,rfl,rfl,(show(0:Int)<5 by decide),a,_,_,_,rfl,rfl,sa,hv,_,rfl,l,_,_,_,rfl,rfl,SqL.of e1,rfl,_,rfl,_,rfl,a,_,rfl,sa,λp hp=>?_⟩;rw[c5];have s2:=zan.new (o:=.lst ((ns.take 5).map V.str)) hp;refine⟨n2,p,ns.take 5,rfl,SqL.of zac,by omega,λv hv=>⟨le3,λtp htp=>q tp _ (.copy x v) (s1.free (s2.free htp)) ((s1.trans s2).trans (zan.new htp)) zac ⟨hxm,hv⟩⟩⟩
   have b3:=zc9 n4 3 (by decide);obtain⟨g,hg,hgm⟩:=z11 b3.1 b3.2;refine⟨_,rfl,_,rfl,l,_,_,_,rfl,rfl,SqL.of e1,rfl,_,_,rfl,rfl,(show(0:Int)<5 by decide),a,_,_,_,rfl,rfl,sa,hv,_,rfl,l,_,_,_,rfl,rfl,SqL.of e1,rfl,_,_,rfl,rfl,(show(0:Int)<3 by decide),_,_,_,rfl,rfl,(by decide +kernel),hg,_,rfl,l,_,_,_,rfl,rfl,SqL.of e1,rfl,_,rfl,_,rfl,a,_,rfl,sa,λp hp=>?_⟩;rw[c5];have s2:=zan.new (o:=.lst ((ns.take 5).map V.str)) hp;refine⟨n2,p,ns.take 5,rfl,SqL.of zac,by omega,λv hv=>?_⟩;generalize upd H1 p (.lst ((ns.take 5).map V.str))=H2 at s2 ⊢;refine⟨_,rfl,l,_,_,_,rfl,rfl,SqL.of (s2 _ _ e1),rfl,_,rfl,_,rfl,a,_,rfl,s2.seq sa,λp2 hp2=>?_⟩;rw[c5];have s3:=zan.new (o:=.lst ((ns.take 5).map V.str)) hp2;exact⟨n3,p2,ns.take 5,rfl,SqL.of zac,by omega,λu hu=>⟨le5,λtp htp=>q tp _ (.op x ⟨#[g]⟩ v u) (s1.free (s2.free (s3.free htp))) (((s1.trans s2).trans s3).trans (zan.new htp)) zac ⟨hxm,hgm,hv,hu⟩⟩⟩
theorem zt9:FnScope ["_law_atom_here","_law_now"] ["_law_atom_here","_law_now"] (zai zkl):=⟨rfl,rfl,rfl,by decide +kernel,rfl,by decide +kernel,by decide +kernel⟩
theorem zn8 (T:Txt K mg t):FnOk P w K mg base CX0 1 t.zrd t.zri ["_law_atom_here","_law_now"] (zuu K):=by
 refine T.zj0.F.ok zt9 (λvs H Q E h=>?_) (λcdv A outer s H vs Q E hr h=>?_)
 . obtain⟨v,y,d,kvs,rfl,hd,hv,q⟩:=h;rfl
 . obtain⟨v,y,d,kvs,rfl,hd,hv,q⟩:=h;refine⟨_,(@zab _ _ _ _ _ (@zbq _ _ _ _ _ _ _ _ (zjb (zbs zet (by rfl) T.b_isinstance zb4 (@zaa _ _ _ _ _ (pv 0) (@zaa _ _ _ _ _ (zjl (v:=V.ty "str") rfl T.b_str znb rfl) zaf (by rfl)) (by rfl)))) (@zah _ _ _ (@zau _ _ _ _ (zd9 (u1' hr.units) (pv 1) (pv 0) (λ_ _=>rfl)))) zas) (@zah _ _ _ (@zau _ _ _ _ (pv 0)))),?_⟩;cases v with
   | str n=>exact⟨_,rfl,_,"str",_,true,rfl,.str _,rfl,_,rfl,z0a ⟨_,rfl,_,rfl,d,_,rfl,zjn hd hv,q⟩⟩
   | int i =>
     cases hv;exact⟨_,rfl,_,"str",_,false,rfl,.int _,rfl,_,rfl,z3t ⟨_,rfl,q⟩⟩
   | _=>cases hv
theorem zcl:FnScope ["_law_script","_law_names_here","_law_size","_law_inner","_law_outer","_law_at","_law_xs","_law_call","_law_rows","_law_first"] ["_law_script","_law_names_here"] (zai zcs):=⟨rfl,rfl,rfl,by decide +kernel,rfl,by decide +kernel,by decide +kernel⟩
theorem zqs (T:Txt K mg t):FnOk P w K mg base CX0 4 t.zjz t.znr ["_law_script","_law_names_here"] (zpt K):=by
 have G_l_stream:=zhg (P:=P) (w:=w) (base:=base) T;have G_l_cell_at:=zlv (P:=P) (w:=w) (base:=base) T;have G_l_row:=zzg (P:=P) (w:=w) (base:=base) T;have G_l_atom:=zp6 (P:=P) (w:=w) (base:=base) T;refine T.zrj.F.ok zcl (λvs H Q E h=>?_) (λcdv A outer s H vs Q E hr h=>?_)
 . obtain⟨a,nl,sc,ns,rfl,ha,hn,hnl,h7,nok,q⟩:=h;rfl
 . skip
   refine(let XX:Cx:=(zkf CX0 P w K mg base ["_law_script","_law_names_here","_law_size","_law_inner","_law_outer","_law_at","_law_xs","_law_call","_law_rows","_law_first"] "_law_program" (zai zcs) t.zjz cdv A outer s H E).nox; ?_);refine(let W8:TS:=_; have hW8:PSs XX ((zav zcs).drop 8) W8:=(@zab _ _ _ _ _ (@zax _ _ 9 _ _ _ _ zcl.nd rfl (Or.inl rfl) (@zck _ _ _ _ _ (@zaa _ _ _ _ _ (@zaj _ _ _ _ _ _ _ zak (pv 1) zad (λ_ _=>rfl)) (@zaa _ _ _ _ _ (zmy zc8 (@zaw _ _ _ _ _ _ _ _ zbt (@zaj _ _ _ _ _ _ _ zak (pv 6) zad (λ_ _=>rfl)) zad) zad (za1 _)) (@zaa _ _ _ _ _ (@zck _ _ _ _ _ (@zaa _ _ _ _ _ (@zaj _ _ _ _ _ _ _ zak (pv 1) zad (λ_ _=>rfl)) (@zaa _ _ _ _ _ (@zaj _ _ _ _ _ _ _ zak (pv 1) zad (λ_ _=>rfl)) zaf (by rfl)) (by rfl))) (@zaa _ _ _ _ _ (zb2 zkj (by rfl) T.b_tuple zs6 (@zaa _ _ _ _ _ (pv 3) zaf (by rfl))) zaf (by rfl)) (by rfl)) (by rfl)) (by rfl))) (by rfl) (by first|exact .inl rfl|exact .inr rfl|assumption)) (@zah _ _ _ (@zau _ _ _ _ (@zdj _ _ _ _ (@zaa _ _ _ _ _ (pv 9) (@zaa _ _ _ _ _ (@zck _ _ _ _ _ (@zaa _ _ _ _ _ (@zaj _ _ _ _ _ _ _ zak (pv 1) zad (λ_ _=>rfl)) (@zaa _ _ _ _ _ zh9 (@zaa _ _ _ _ _ (@zck _ _ _ _ _ (@zaa _ _ _ _ _ (@zaj _ _ _ _ _ _ _ zak (pv 1) zad (λ_ _=>rfl)) zaf (by rfl))) (@zaa _ _ _ _ _ (zb2 zkj (by rfl) T.b_tuple zs6 (@zaa _ _ _ _ _ (pv 8) zaf (by rfl))) zaf (by rfl)) (by rfl)) (by rfl)) (by rfl))) zaf (by rfl)) (by rfl)))))); ?_);refine(let W7:TS:=_; have hW7:PSs XX ((zav zcs).drop 7) W7:=(@zab _ _ _ _ _ (@zax _ _ 8 _ _ _ _ zcl.nd rfl (Or.inl rfl) (@zaw _ _ _ _ _ _ _ _ zp5 (@zaw _ _ _ _ _ _ _ _ zp5 (@zaw _ _ _ _ _ _ _ _ zp5 (@zc0 _ _ _ _ _ _ _ _ _ _ zes (pv 4) zec (zdd (pv 5))) (@zdj _ _ _ _ (@zaa _ _ _ _ _ (pv 7) zaf (by rfl)))) (@zc0 _ _ _ _ _ _ _ _ _ _ zes (pv 4) (zdd (pv 5)) zec)) (@zdj _ _ _ _ (@zaa _ _ _ _ _ (@zck _ _ _ _ _ (@zaa _ _ _ _ _ za5 (@zaa _ _ _ _ _ (zbu T.zl1 G_l_atom (hr.mono (by decide)) (@zaa _ _ _ _ _ (@zaj _ _ _ _ _ _ _ zak (pv 6) zad (λ_ _=>rfl)) (@zaa _ _ _ _ _ (@zc0 _ _ _ _ _ _ _ _ _ _ zes (pv 1) zec (zdd zad)) zaf (by rfl)) (by rfl))) zaf (by rfl)) (by rfl))) zaf (by rfl)))) (by rfl) (by first|exact .inl rfl|exact .inr rfl|assumption)) hW8); ?_);refine(let W6:TS:=_; have hW6:PSs XX ((zav zcs).drop 6) W6:=(@zab _ _ _ _ _ (@zbl _ _ _ _ (zj8 qay qa9 qba zdb (pv 3) (@zaa _ _ _ _ _ (@zck _ _ _ _ _ (@zaa _ _ _ _ _ za5 (@zaa _ _ _ _ _ (zbu T.zl1 G_l_atom (hr.mono (by decide)) (@zaa _ _ _ _ _ (@zaj _ _ _ _ _ _ _ zak (pv 6) zad (λ_ _=>rfl)) (@zaa _ _ _ _ _ (@zc0 _ _ _ _ _ _ _ _ _ _ zes (pv 1) zec (zdd zad)) zaf (by rfl)) (by rfl))) zaf (by rfl)) (by rfl))) zaf (by rfl))) (by rfl)) hW7); ?_);refine(let W4:TS:=_; have hW4:PSs XX ((zav zcs).drop 4) W4:=(@zab _ _ _ _ _ (@zax _ _ 6 _ _ _ _ zcl.nd rfl (Or.inl rfl) (zbu T.zi2 G_l_stream (hr.mono (by decide)) (@zaa _ _ _ _ _ (zbu T.zfb G_l_cell_at (hr.mono (by decide)) (@zaa _ _ _ _ _ (pv 0) (@zaa _ _ _ _ _ zad zaf (by rfl)) (by rfl))) (@zaa _ _ _ _ _ zad zaf (by rfl)) (by rfl))) (by rfl) (by first|exact .inl rfl|exact .inr rfl|assumption)) (@zab _ _ _ _ _ (@zax _ _ 7 _ _ _ _ zcl.nd rfl (Or.inl rfl) (@zck _ _ _ _ _ (@zaa _ _ _ _ _ za5 (@zaa _ _ _ _ _ (@zaj _ _ _ _ _ _ _ zak (pv 1) (@zaw _ _ _ _ _ _ _ _ zbt (@zaj _ _ _ _ _ _ _ zak (pv 6) zad (λ_ _=>rfl)) zad) (λ_ _=>rfl)) (@zaa _ _ _ _ _ (@zaj _ _ _ _ _ _ _ zak (pv 1) zad (λ_ _=>rfl)) (@zaa _ _ _ _ _ (@zck _ _ _ _ _ (@zaa _ _ _ _ _ (zbu T.zl1 G_l_atom (hr.mono (by decide)) (@zaa _ _ _ _ _ (@zaj _ _ _ _ _ _ _ zak (pv 6) zad (λ_ _=>rfl)) (@zaa _ _ _ _ _ (@zc0 _ _ _ _ _ _ _ _ _ _ zes (pv 1) zec (zdd zad)) zaf (by rfl)) (by rfl))) (@zaa _ _ _ _ _ (zbu T.zl1 G_l_atom (hr.mono (by decide)) (@zaa _ _ _ _ _ (@zaj _ _ _ _ _ _ _ zak (pv 6) zad (λ_ _=>rfl)) (@zaa _ _ _ _ _ (@zc0 _ _ _ _ _ _ _ _ _ _ zes (pv 1) zec (zdd zad)) zaf (by rfl)) (by rfl))) zaf (by rfl)) (by rfl))) zaf (by rfl)) (by rfl)) (by rfl)) (by rfl))) (by rfl) (by first|exact .inl rfl|exact .inr rfl|assumption)) hW6)); ?_);refine(let W2:TS:=_; have hW2:PSs XX ((zav zcs).drop 2) W2:=(@zab _ _ _ _ _ (zvx (i:=4) zcl.nd rfl (Or.inl rfl) (N':=["_law_cell","_law_names_here"]) (js:=[none,some 1]) (by kernel_rfl) rfl (zgx (@zc0 _ _ _ _ _ _ _ _ _ _ zes (pv 0) (zdd (@zaw _ _ _ _ _ _ _ _ zdx zad (pv 2))) (zdd zad))) zdo (λ_ _ _ _=>(za0 (i:=0) (show(["_law_cell","_law_names_here"]:List Str).Nodup by decide +kernel) rfl (Or.inl rfl) (.inr rfl))) (λ_ _ _ _=>zfc) (λ_ _ _ _=>(zbu T.z20 G_l_row (hr.mono (by decide)) (@zaa _ _ _ _ _ (pv 0) (@zaa _ _ _ _ _ (pv 1) zaf (by rfl)) (by rfl)))) (by rfl)) (@zab _ _ _ _ _ (@zax _ _ 5 _ _ _ _ zcl.nd rfl (Or.inl rfl) (@zaw _ _ _ _ _ _ _ _ zbt (zbu T.zfb G_l_cell_at (hr.mono (by decide)) (@zaa _ _ _ _ _ (pv 0) (@zaa _ _ _ _ _ zad zaf (by rfl)) (by rfl))) (@zaw _ _ _ _ _ _ _ _ zdx (zbs zbo (by rfl) T.b_len zhv (@zaa _ _ _ _ _ (pv 4) zaf (by rfl))) zad)) (by rfl) (by first|exact .inl rfl|exact .inr rfl|assumption)) hW4)); ?_);obtain⟨a,nl,sc,ns,rfl,ha,hn,hnl,h7,nok,q⟩:=h;refine⟨_,(@zab _ _ _ _ _ (@zax _ _ 2 _ _ _ _ zcl.nd rfl (Or.inl rfl) (@zaw _ _ _ _ _ _ _ _ zbt (zbu T.zfb G_l_cell_at (hr.mono (by decide)) (@zaa _ _ _ _ _ (pv 0) (@zaa _ _ _ _ _ zad zaf (by rfl)) (by rfl))) zad) (by rfl) (by first|exact .inl rfl|exact .inr rfl|assumption)) (@zab _ _ _ _ _ (zvx (i:=3) zcl.nd rfl (Or.inl rfl) (N':=["_law_cell","_law_names_here"]) (js:=[none,some 1]) (by kernel_rfl) rfl (zgx (@zc0 _ _ _ _ _ _ _ _ _ _ zes (pv 0) (zdd zad) (zdd (@zaw _ _ _ _ _ _ _ _ zdx zad (pv 2))))) zdo (λ_ _ _ _=>(za0 (i:=0) (show(["_law_cell","_law_names_here"]:List Str).Nodup by decide +kernel) rfl (Or.inl rfl) (.inr rfl))) (λ_ _ _ _=>zfc) (λ_ _ _ _=>(zbu T.z20 G_l_row (hr.mono (by decide)) (@zaa _ _ _ _ _ (pv 0) (@zaa _ _ _ _ _ (pv 1) zaf (by rfl)) (by rfl)))) (by rfl)) hW2)),?_⟩;have nN:=zs9 nok;have nT:∀s∈ns.take 5,K12.Nm s:=λs hs=>nN s (qbt hs);have c5:zkp (ns.map V.str) none (some 5)=(ns.take 5).map V.str:=zs3 ns 5 (by omega);have l5:0<(ns.take 5).length:=by rw[qax]; omega
   refine⟨_,rfl,a,sc,1,rfl,ha,hn,by decide,λc1=>⟨_,_,rfl,rfl,(show(0:Int)<6 by decide),?_⟩⟩;refine⟨_,rfl,_,rfl,_,rfl,_,_,rfl,rfl,_,rfl,a,_,rfl,ha,λsl1 hsl1=>⟨sl1,rfl,⟨_,SqL.of zac⟩,?_⟩⟩;generalize hcv1:zkp (sc.map V.int) _ _=cv1;have lc1:cv1.length<=63:=by rw[<- hcv1]; exact Nat.le_trans (zw6 _ _ _) (by rw[List.length_map]; exact hn)
   have mc1:∀v∈cv1,∃z,v=V.int z:=λv hv=>by rw[<- hcv1] at hv;obtain⟨z,_,rfl⟩:=List.mem_map.mp (zw4 hv);exact⟨z,rfl⟩
   clear hcv1;generalize e:upd H sl1 _=G1;have ⟨t1,e1⟩:=nw e hsl1;refine λrl1 hrl1=>zkk (K:=K) (λi G v=>∃tp rg,v=.ref tp/\G tp=some (.tup (RG.items rg))/\zx6 (ns.take 5) rg) (λi v G G' s h=>let ⟨tp,rg,h1,h2,h3⟩:=h; ⟨tp,rg,h1,s _ _ h2,h3⟩) (xs:=cv1) (by omega) (SqL.of e1) hrl1 ?_ ?_
   . intro i x G R hx sG ⟨acc,hacc⟩ hR;obtain⟨z,rfl⟩:=mc1 x (List.mem_of_getElem? hx);refine⟨_,rfl,_,rfl,z,nl,ns,rfl,sG.seq (t1.seq hnl),by omega,λtp G' rg htp sG' etp ok=>?_⟩;have ntp:tp≠rl1:=λz=>by rw[z,hacc] at htp; cases htp
     exact hR (.ref tp) G' sG' ⟨tp,rg,rfl,by rw[zct ntp]; exact etp,ok⟩
   rintro G1b vs1 u1 f1 lvs1 hvs1;obtain⟨ps1,rfl,pr1⟩:=zr8 hvs1;clear hvs1;rw[List.length_map,List.length_map] at lvs1;have s1:=t1.trans u1;refine⟨_,rfl,_,rfl,_,_,rfl,rfl,_,rfl,_,rfl,a,_,rfl,(s1.seq ha),λsl2 hsl2=>⟨sl2,rfl,⟨_,SqL.of zac⟩,?_⟩⟩;generalize hcv2:zkp (sc.map V.int) _ _=cv2;have lc2:cv2.length<=63:=by rw[<- hcv2]; exact Nat.le_trans (zw6 _ _ _) (by rw[List.length_map]; exact hn)
   have mc2:∀v∈cv2,∃z,v=V.int z:=λv hv=>by rw[<- hcv2] at hv;obtain⟨z,_,rfl⟩:=List.mem_map.mp (zw4 hv);exact⟨z,rfl⟩
   clear hcv2;generalize e:upd G1b sl2 _=G2;have ⟨t2,e2⟩:=nw e hsl2;refine λrl2 hrl2=>zkk (K:=K) (λi G v=>∃tp rg,v=.ref tp/\G tp=some (.tup (RG.items rg))/\zx6 (ns.take 5) rg) (λi v G G' s h=>let ⟨tp,rg,h1,h2,h3⟩:=h; ⟨tp,rg,h1,s _ _ h2,h3⟩) (xs:=cv2) (by omega) (SqL.of e2) hrl2 ?_ ?_
   . intro i x G R hx sG ⟨acc,hacc⟩ hR;obtain⟨z,rfl⟩:=mc2 x (List.mem_of_getElem? hx);refine⟨_,rfl,_,rfl,z,nl,ns,rfl,sG.seq (t2.seq (s1.seq hnl)),by omega,λtp G' rg htp sG' etp ok=>?_⟩;have ntp:tp≠rl2:=λz=>by rw[z,hacc] at htp; cases htp
     exact hR (.ref tp) G' sG' ⟨tp,rg,rfl,by rw[zct ntp]; exact etp,ok⟩
   rintro G2b vs2 u2 f2 lvs2 hvs2;obtain⟨ps2,rfl,pr2⟩:=zr8 hvs2;clear hvs2;rw[List.length_map,List.length_map] at lvs2;have s12:=t2.trans u2;have s2:=s1.trans s12;have i2:=s12 _ _ f1;have q1:∀p∈ps1,G2b p.1=some (.tup (RG.items p.2))/\zx6 (ns.take 5) p.2:=λp hp=>⟨s12 _ _ (zhq _ _ (pr1 p hp).1),(pr1 p hp).2⟩
   have q2:∀p∈ps2,G2b p.1=some (.tup (RG.items p.2))/\zx6 (ns.take 5) p.2:=λp hp=>⟨zhq _ _ (pr2 p hp).1,(pr2 p hp).2⟩
   have l1:ps1.length<=63:=by omega
   have l2:ps2.length<=63:=by omega
   have hi1:H rl1=none:=t1.free hrl1;have n21:rl2≠rl1:=λz=>by have:=t2 _ _ f1; rw[<- z,hrl2] at this; cases this
   have a2:=s2.seq ha;have b2:=s2.seq hnl;clear pr1 pr2 t1 t2 u1 u2 s1 s12 f1 e1 e2 lc1 lc2 mc1 mc2 lvs1 lvs2 hrl1 hrl2 hsl1 hsl2;refine⟨_,rfl,a,sc,2,rfl,a2,hn,by decide,λc2=>⟨_,rfl,rl2,_,rfl,.inl (SqL.of f2),_,_,rfl,rfl,_,_,rfl,rfl,(by omega),?_⟩⟩;have bk_:=zc9 c2 ((((ps2.map (·.1)).map V.ref).length:Nat)+1:Int) (by omega);refine⟨_,rfl,a,sc,2,rfl,a2,hn,by decide,λc3=>⟨c3,5,rfl,by decide,λxl H3 xs hxl s3 e3 lx nn=>?_⟩⟩
   match xs,lx,e3 with
   | [x0,x1,x2,x3,x4],_,e3 =>
   have b3:=s3.seq b2;obtain⟨y,hy,hym⟩:=nm5 (ns:=ns) (by omega) x0;obtain⟨n5,h5⟩:∃n5,ns[5]?=some n5:=⟨_,List.getElem?_eq_getElem (by omega)⟩
   obtain⟨n6,h6⟩:∃n6,ns[6]?=some n6:=⟨_,List.getElem?_eq_getElem (by omega)⟩
   obtain⟨n0,h0⟩:∃n0,ns[0]?=some n0:=⟨_,List.getElem?_eq_getElem (by omega)⟩
   obtain⟨n1,h1⟩:∃n1,ns[1]?=some n1:=⟨_,List.getElem?_eq_getElem (by omega)⟩
   obtain⟨n2,h2⟩:∃n2,ns[2]?=some n2:=⟨_,List.getElem?_eq_getElem (by omega)⟩
   have atn:∀(j:Nat) n,ns[j]?=some n->atI (ns.map V.str) (j:Int)=some (.str n):=λj n h=>zc2 (by rw[List.getElem?_map,h]; rfl);refine⟨_,rfl,_,rfl,xl,_,_,_,rfl,rfl,SqL.of e3,at0,_,_,rfl,rfl,(show(0:Int)<5 by decide),nl,_,_,_,rfl,rfl,b3,hy,_,rfl,nl,_,_,_,rfl,rfl,b3,atn 5 _ h5,_,rfl,xl,_,_,_,rfl,rfl,SqL.of e3,rfl,_,rfl,_,rfl,nl,_,rfl,b3,λp1 hp1=>?_⟩;rw[c5];have w1:=zan.new (o:=.lst ((ns.take 5).map V.str)) hp1;refine⟨x1,p1,ns.take 5,rfl,SqL.of zac,l5,λv1 hv1=>?_⟩;generalize upd H3 p1 (.lst ((ns.take 5).map V.str))=G1 at w1 ⊢;refine⟨_,rfl,xl,_,_,_,rfl,rfl,SqL.of (w1 _ _ e3),rfl,_,rfl,_,rfl,nl,_,rfl,w1.seq b3,λp2 hp2=>?_⟩;rw[c5];have w2:=zan.new (o:=.lst ((ns.take 5).map V.str)) hp2;refine⟨x2,p2,ns.take 5,rfl,SqL.of zac,l5,λv2 hv2=>⟨le2,λap hap=>⟨le4,λcl hcl=>?_⟩⟩⟩;generalize upd G1 p2 (.lst ((ns.take 5).map V.str))=G2 at w2 hap hcl ⊢;have w3:=zan.new (o:=.tup [v1,v2]) hap;have k3:=zac (H:=G2) (a:=ap) (o:=.tup [v1,v2]);generalize upd G2 ap (.tup [v1,v2])=G3 at w3 k3 hcl ⊢;have w4:=zan.new (o:=.tup [V.str "call",.str y,.str n5,.ref ap]) hcl;have k4:=zac (H:=G3) (a:=cl) (o:=.tup [V.str "call",.str y,.str n5,.ref ap]);have k3:=w4 _ _ k3;generalize upd G3 cl (.tup [V.str "call",.str y,.str n5,.ref ap])=G4 at w4 k3 k4 ⊢;have w:=((w1.trans w2).trans w3).trans w4;have s4:=(s2.trans s3).trans w;have b4:=w.seq b3;have e4:=w _ _ e3;have i4:=(s3.trans w) _ _ i2;have o4:=(s3.trans w) _ _ f2;have q1:∀p∈ps1,G4 p.1=some (.tup (RG.items p.2))/\zx6 (ns.take 5) p.2:=λp hp=>⟨(s3.trans w) _ _ (q1 p hp).1,(q1 p hp).2⟩
   have q2:∀p∈ps2,G4 p.1=some (.tup (RG.items p.2))/\zx6 (ns.take 5) p.2:=λp hp=>⟨(s3.trans w) _ _ (q2 p hp).1,(q2 p hp).2⟩
   have nx:xl≠rl1:=λz=>by rw[z,i2] at hxl; cases hxl
   clear w w1 w2 w3 w4 s3 s2 b3 e3 i2 f2 a2 b2 hp1 hp2 hap hcl hxl;refine⟨_,rfl,.inl ⟨rfl,_,SqL.of i4⟩,_,rfl,xl,_,_,_,rfl,rfl,SqL.of e4,rfl,_,rfl,_,rfl,nl,_,rfl,b4,λp1 hp1=>?_⟩;rw[c5];have w1:=zan.new (o:=.lst ((ns.take 5).map V.str)) hp1;refine⟨x3,p1,ns.take 5,rfl,SqL.of zac,l5,λv3 hv3=>⟨le2,λbk hbk=>?_⟩⟩;generalize upd G4 p1 (.lst ((ns.take 5).map V.str))=G5 at w1 hbk ⊢;generalize e:upd G5 bk _=G6;have ⟨w2,k5⟩:=nw e hbk;have w:=w1.trans w2;have i6:=w _ _ i4;refine⟨rl1,_,_,rfl,rfl,i6,zba (by rw[List.length_map,List.length_map]; omega),?_⟩;have s7:zan H (upd G6 rl1 (.lst (((ps1.map (·.1)).map V.ref)++[V.ref bk]))):=(s4.trans w).upd hi1;have z7:zan (ers rl1 G6) (upd G6 rl1 (.lst (((ps1.map (·.1)).map V.ref)++[V.ref bk]))):=zhq.upd (by unfold ers; rw[if_pos rfl]);have i7:=zac (H:=G6) (a:=rl1) (o:=.lst (((ps1.map (·.1)).map V.ref)++[V.ref bk]));generalize upd G6 rl1 (.lst (((ps1.map (·.1)).map V.ref)++[V.ref bk]))=G7 at s7 z7 i7 ⊢;have tup7:∀b its,G6 b=some (.tup its)->G7 b=some (.tup its):=λb its h=>z7 _ _ (by rw[zct (λz=>by rw[z,i6] at h; cases h)]; exact h);have e7:=z7 _ _ ((zct nx).trans (w _ _ e4));have o7:=z7 _ _ ((zct n21).trans (w _ _ o4));have b7:=s7.seq hnl;have k7:=tup7 _ _ k5;have c7:RGAt K G7 cl (.call y n5 ap [v1,v2]):=⟨SqT.of (tup7 _ _ (w _ _ k4)),λ_ _ _ _ z=>by cases z; exact SqT.of (tup7 _ _ (w _ _ k3))⟩
   have r1:∀p∈ps1,RGAt K G7 p.1 p.2/\RowFit p.2:=λp hp=>by have f:=zwr nT (q1 p hp).2;refine⟨⟨SqT.of (tup7 _ _ (w _ _ (q1 p hp).1)),λx g p' as z=>?_⟩,f⟩;have:=(q1 p hp).2;rw[z] at this;exact this.elim
   have r2:∀p∈ps2,RGAt K G7 p.1 p.2/\RowFit p.2:=λp hp=>by have f:=zwr nT (q2 p hp).2;refine⟨⟨SqT.of (tup7 _ _ (w _ _ (q2 p hp).1)),λx g p' as z=>?_⟩,f⟩;have:=(q2 p hp).2;rw[z] at this;exact this.elim
   have nc1:∀p∈ps1++ps2,∀x g p' as,p.2≠.call x g p' as:=λp hp x g p' as z=>by
     rcases List.mem_append.mp hp with hp|hp
     . have:=(q1 p hp).2; rw[z] at this; exact this
     . have:=(q2 p hp).2; rw[z] at this; exact this
   have nc2:∀p∈ps1++ps2,∀x s a b,p.2=.op x s a b->s∈sg3:=λp hp x s a b z=>by
     rcases List.mem_append.mp hp with hp|hp
     . have:=(q1 p hp).2; rw[z] at this; exact this.2.1
     . have:=(q2 p hp).2; rw[z] at this; exact this.2.1
   clear w w1 w2 i6 z7 tup7 q1 q2 k3 k4 k5 i4 o4 e4 b4 s4 hp1 hbk nx n21 hi1;have lp2:((ps2.map (·.1)).map V.ref).length=ps2.length:=by rw[List.length_map,List.length_map]
   have kz1:c2%((((ps2.map (·.1)).map V.ref).length:Nat)+1:Int)<=(((ps2.map (·.1)).map V.ref).length:Nat):=by omega
   generalize hkk:(c2%((((ps2.map (·.1)).map V.ref).length:Nat)+1:Int)).toNat=kn;have S0:=zan.refl G7;refine⟨_,rfl,_,rfl,_,rfl,rl2,_,rfl,SqL.of o7,λp1 hp1=>?_⟩;rw[z45 _ bk_.1 kz1,hkk];generalize e:upd G7 p1 _=X1;have ⟨w1,k1⟩:=nw e hp1;have S1:=S0.trans w1;refine⟨_,rfl,le1,λp2 hp2=>?_⟩;generalize e:upd X1 p2 _=X2;have ⟨w2,k2⟩:=nw e hp2;have S2:=S1.trans w2;refine⟨p1,p2,_,_,rfl,rfl,w2 _ _ k1,k2,qbq (zba (by simp only[qax,List.length_map,qa0,qbi]; omega)),λp3 hp3=>?_⟩;generalize e:upd X2 p3 _=X3;have ⟨w3,k3⟩:=nw e hp3;have S3:=S2.trans w3;refine⟨_,rfl,_,rfl,_,rfl,rl2,_,rfl,SqL.of (S3 _ _ o7),λp4 hp4=>?_⟩;rw[zyw _ bk_.1 kz1,hkk];generalize e:upd X3 p4 _=X4;have ⟨w4,k4⟩:=nw e hp4;have S4:=S3.trans w4;refine⟨p3,p4,_,_,rfl,rfl,w4 _ _ k3,k4,qbq (zba (by simp only[qax,qbj,List.length_append,List.length_map,qa0,qbi]; omega)),λp5 hp5=>?_⟩;generalize e:upd X4 p5 _=X5;have ⟨w5,k5⟩:=nw e hp5;have S5:=S4.trans w5;refine⟨_,rfl,xl,_,_,_,rfl,rfl,SqL.of (S5 _ _ e7),rfl,_,rfl,_,rfl,nl,_,rfl,S5.seq b7,λp6 hp6=>?_⟩;rw[c5];generalize e:upd X5 p6 _=X6;have ⟨w6,k6⟩:=nw e hp6;have S6:=S5.trans w6;refine⟨x4,p6,ns.take 5,rfl,SqL.of k6,l5,λv4 hv4=>⟨le2,λbk2 hb2=>?_⟩⟩;generalize e:upd X6 bk2 _=X7;have ⟨w7,kb7⟩:=nw e hb2;have S7:=S6.trans w7;refine⟨le1,λp8 hp8=>?_⟩;generalize e:upd X7 p8 _=X8;have ⟨w8,k8⟩:=nw e hp8;have S8:=S7.trans w8;refine⟨p5,p8,_,_,rfl,rfl,((w6.trans w7).trans w8) _ _ k5,k8,qbq (zba (by simp only[qax,qbj,List.length_append,List.length_map,qa0,qbi]; omega)),λrl3 hrl3=>?_⟩;rw[show((ps2.map (·.1)).map V.ref).take kn++[V.ref cl]++((ps2.map (·.1)).map V.ref).drop kn++[V.ref bk2]=((ps2.take kn++[(cl,RG.call y n5 ap [v1,v2])]++ps2.drop kn++[(bk2,RG.back v4)]).map (·.1)).map V.ref by simp only[List.map_append,List.map_take,List.map_drop,qaz,qcd]];generalize e:upd X8 rl3 _=X9;have ⟨w9,k9⟩:=nw e hrl3;have S9:=S8.trans w9;have b9:=S9.seq b7;refine⟨_,rfl,nl,_,_,_,rfl,rfl,b9,atn 5 _ h5,_,rfl,xl,_,_,_,rfl,rfl,SqL.of (S9 _ _ e7),rfl,_,_,rfl,rfl,(show(0:Int)<2 by decide),rfl,_,rfl,nl,_,_,_,rfl,rfl,b9,atn 1 _ h1,_,rfl,nl,_,_,_,rfl,rfl,b9,atn 0 _ h0,le2,λqC hqC=>?_⟩;generalize e:upd X9 qC _=X10;have ⟨w10,k10⟩:=nw e hqC;have S10:=S9.trans w10;refine⟨_,rfl,rl1,_,rfl,.inl ⟨SqL.of (S10 _ _ i7),λtr htr=>?_⟩⟩;generalize e:upd X10 tr _=X11;have ⟨w11,k11⟩:=nw e htr;have S11:=S10.trans w11;refine⟨le4,λfa hfa=>?_⟩;generalize hfo:V.bl (decide (V.int (x3%2)=V.int 1))=fo;generalize e:upd X11 fa _=X12;have ⟨w12,k12⟩:=nw e hfa;have S12:=S11.trans w12;have b12:=S12.seq b7;refine⟨_,rfl,_,rfl,nl,_,_,_,rfl,rfl,b12,atn 6 _ h6,_,rfl,nl,_,_,_,rfl,rfl,b12,atn 2 _ h2,le1,λqD hqD=>?_⟩;generalize e:upd X12 qD _=X13;have ⟨w13,k13⟩:=nw e hqD;have S13:=S12.trans w13;refine⟨_,rfl,rl3,_,rfl,.inl ⟨SqL.of ((((w10.trans w11).trans w12).trans w13) _ _ k9),λtr2 htr2=>?_⟩⟩;generalize e:upd X13 tr2 _=X14;have ⟨w14,k14⟩:=nw e htr2;have S14:=S13.trans w14;refine⟨le4,λfa2 hfa2=>?_⟩;generalize e:upd X14 fa2 _=X15;have ⟨w15,k15⟩:=nw e hfa2;have S15:=S14.trans w15;refine⟨le2,λpl hpl=>?_⟩;generalize e:upd X15 pl _=X16;have ⟨w16,k16⟩:=nw e hpl;have S16:=S15.trans w16;have n5m:K12.Nm n5:=nN _ (List.mem_of_getElem? h5);have n6m:K12.Nm n6:=nN _ (List.mem_of_getElem? h6);have f0:=z03 (K:=K) (H:=X16) (ns:=ns.take 5) nT (nk:=n5) (fo:=fo) (fa:=fa) (qC:=qC) (tr:=tr) (bk:=bk) (prs:=[n1,n0]) (ps:=ps1) (a:=v3) (SqT.of ((((w13.trans w14).trans w15).trans w16) _ _ k12)) (by rw[List.map_append,List.map_append]; exact SqT.of (((((w12.trans w13).trans w14).trans w15).trans w16) _ _ k11)) (λp hp=>⟨(r1 p hp).1.mono S16,(r1 p hp).2⟩) (S16 _ _ k7) hv3 (SqT.of ((((((w11.trans w12).trans w13).trans w14).trans w15).trans w16) _ _ k10)) (λs hs=>by
     simp only[List.mem_cons,qbk,or_false] at hs;rcases hs with rfl|rfl
     . exact nN _ (List.mem_of_getElem? h1)
     . exact nN _ (List.mem_of_getElem? h0)) (by show 2<=6; decide) (by omega) n5m.2
   have f1:=z03 (K:=K) (H:=X16) (ns:=ns.take 5) nT (nk:=n6) (fo:=.bl false) (fa:=fa2) (qC:=qD) (tr:=tr2) (bk:=bk2) (prs:=[n2]) (ps:=ps2.take kn++[(cl,RG.call y n5 ap [v1,v2])]++ps2.drop kn) (a:=v4) (SqT.of (w16 _ _ k15)) (SqT.of ((w15.trans w16) _ _ k14)) (λp hp=>by
     rcases List.mem_append.mp hp with hp|hp
     . rcases List.mem_append.mp hp with hp|hp
       . exact⟨(r2 p (qbt hp)).1.mono S16,(r2 p (qbt hp)).2⟩
       . rw[List.mem_singleton.mp hp];refine⟨c7.mono S16,zsu nT hym n5m.2 (λv hv=>?_) (by show 2<=10; decide)⟩;simp only[List.mem_cons,qbk,or_false] at hv;rcases hv with rfl|rfl
         . exact hv1
         . exact hv2
     . exact⟨(r2 p (qbz hp)).1.mono S16,(r2 p (qbz hp)).2⟩) (((((((((w8.trans w9).trans w10).trans w11).trans w12).trans w13).trans w14).trans w15).trans w16) _ _ kb7) hv4 (SqT.of (((w14.trans w15).trans w16) _ _ k13)) (λs hs=>by
     rw[List.mem_singleton.mp hs];exact nN _ (List.mem_of_getElem? h2)) (by show 1<=6; decide) (by simp only[qax,qbj,List.length_append,qa0,qbi]; omega) n6m.2
   refine q pl X16 _ _ _ _ (s7.free (S15.free hpl)) (s7.trans S16) ⟨k16,f0,f1,h5,h6,rfl,rfl,λrg hr x g p as z=>?_,λrg hr x s a b z=>?_,by rw[List.length_append]; exact Nat.succ_pos _,by rw[List.length_append]; exact Nat.succ_pos _⟩;rotate_left
   . rcases List.mem_append.mp hr with hr|hr
     . rcases List.mem_append.mp hr with hr|hr
       . obtain⟨p0,hp0,rfl⟩:=List.mem_map.mp hr;exact nc2 p0 (qa8 _ hp0) _ _ _ _ z
       . rw[List.mem_singleton.mp hr] at z; cases z
     . rcases List.mem_append.mp hr with hr|hr
       . obtain⟨p0,hp0,rfl⟩:=List.mem_map.mp hr;rcases List.mem_append.mp hp0 with hp0|hp0
         . rcases List.mem_append.mp hp0 with hp0|hp0
           . exact nc2 p0 (List.mem_append_right _ (qbt hp0)) _ _ _ _ z
           . rw[List.mem_singleton.mp hp0] at z; cases z
         . exact nc2 p0 (List.mem_append_right _ (qbz hp0)) _ _ _ _ z
       . rw[List.mem_singleton.mp hr] at z; cases z
   rcases List.mem_append.mp hr with hr|hr
   . rcases List.mem_append.mp hr with hr|hr
     . obtain⟨p0,hp0,rfl⟩:=List.mem_map.mp hr;exact absurd z (nc1 p0 (qa8 _ hp0) _ _ _ _)
     . rw[List.mem_singleton.mp hr] at z; cases z
   . rcases List.mem_append.mp hr with hr|hr
     . obtain⟨p0,hp0,rfl⟩:=List.mem_map.mp hr;rcases List.mem_append.mp hp0 with hp0|hp0
       . rcases List.mem_append.mp hp0 with hp0|hp0
         . exact absurd z (nc1 p0 (List.mem_append_right _ (qbt hp0)) _ _ _ _)
         . rw[List.mem_singleton.mp hp0] at z;cases z;exact⟨rfl,rfl⟩
       . exact absurd z (nc1 p0 (List.mem_append_right _ (qbz hp0)) _ _ _ _)
     . rw[List.mem_singleton.mp hr] at z; cases z
theorem zuw:FnScope ["_law_row_here"] ["_law_row_here"] (zai zkh):=⟨rfl,rfl,rfl,by decide +kernel,rfl,by decide +kernel,by decide +kernel⟩
theorem zt8 (T:Txt K mg t):FnOk P w K mg base CX0 1 t.zrc t.zrh ["_law_row_here"] (zus K):=by
 refine T.zx3.F.ok zuw (λvs H Q E h=>?_) (λcdv A outer s H vs Q E hr h=>?_)
 . obtain⟨r,rg,rfl,hr1,hk,q⟩:=h;rfl
 . obtain⟨r,rg,rfl,hr1,hk,q⟩:=h;refine⟨_,(@zab _ _ _ _ _ (@zbq _ _ _ _ _ _ _ _ (@zat _ _ _ _ _ _ _ _ zc8 (@zaj _ _ _ _ _ _ _ zap (pv 0) zad (λ_ _=>rfl)) za5 (za1 _)) (@zah _ _ _ (@zau _ _ _ _ (@zaw _ _ _ _ _ _ _ _ zp5 (@zdj _ _ _ _ (@zaa _ _ _ _ _ (@zaj _ _ _ _ _ _ _ zap (pv 0) zad (λ_ _=>rfl)) zaf (by rfl))) (zb2 zgm (by rfl) T.b_list znf (@zaa _ _ _ _ _ (@zaj _ _ _ _ _ _ _ zap (pv 0) zad (λ_ _=>rfl)) zaf (by rfl)))))) zas) (@zab _ _ _ _ _ (@zbq _ _ _ _ _ _ _ _ (@zat _ _ _ _ _ _ _ _ zc8 (@zaj _ _ _ _ _ _ _ zap (pv 0) zad (λ_ _=>rfl)) za5 (za1 _)) (@zah _ _ _ (@zau _ _ _ _ (@zdj _ _ _ _ (@zaa _ _ _ _ _ (@zaj _ _ _ _ _ _ _ zap (pv 0) zad (λ_ _=>rfl)) (@zaa _ _ _ _ _ (@zaj _ _ _ _ _ _ _ zap (pv 0) zad (λ_ _=>rfl)) (@zaa _ _ _ _ _ (@zaj _ _ _ _ _ _ _ zap (pv 0) zad (λ_ _=>rfl)) zaf (by rfl)) (by rfl)) (by rfl))))) zas) (@zah _ _ _ (@zau _ _ _ _ (zb2 zgm (by rfl) T.b_list znf (@zaa _ _ _ _ _ (@zc0 _ _ _ _ _ _ _ _ _ _ z1y (pv 0) (zdd zad) zec) zaf (by rfl))))))),?_⟩;rcases hk with⟨x,a,rfl⟩|⟨x,s,a,b,rfl⟩|⟨x,g,p,as,rfl,h10⟩|⟨a,rfl⟩
   . refine⟨_,rfl,r,_,_,_,rfl,rfl,hr1.it,at0,rfl,_,rfl,iN ⟨_,rfl,r,_,_,_,rfl,rfl,hr1.it,at0,rfl,_,rfl,iN ⟨_,rfl,_,rfl,zvz hr1.it λp2 H4 s4 e4=>⟨p2,_,rfl,.inr e4,λl hl=>q l _ (s4.free hl) (s4.trans (zan.new hl)) zac⟩⟩⟩⟩
   . exact⟨_,rfl,r,_,_,_,rfl,rfl,hr1.it,at0,rfl,_,rfl,iN ⟨_,rfl,r,_,_,_,rfl,rfl,hr1.it,at0,rfl,_,rfl,iP ⟨_,rfl,r,_,_,_,rfl,rfl,hr1.it,rfl,_,rfl,r,_,_,_,rfl,rfl,hr1.it,rfl,_,rfl,r,_,_,_,rfl,rfl,hr1.it,rfl,le3,λl hl=>q l _ hl (zan.new hl) zac⟩⟩⟩
   . refine⟨_,rfl,r,_,_,_,rfl,rfl,hr1.it,at0,rfl,_,rfl,iP ⟨_,rfl,r,_,_,_,rfl,rfl,hr1.it,rfl,le1,λp1 h1=>?_⟩⟩;have s1:=zan.new (o:=.lst [V.str x]) h1;refine⟨_,rfl,r,_,_,_,rfl,rfl,s1.tup hr1.it,rfl,p,_,rfl,.inr (s1.tup (hr1.ar x g p as rfl)),λp2 h2=>?_⟩;have s2:=zan.new (o:=.lst as) h2;exact⟨p1,p2,_,_,rfl,rfl,s2 _ _ zac,zac,(by show 1+as.length<=sizeLine; exact qbq (zba (by omega))),λl hl=>q l _ (s1.free (s2.free hl)) ((s1.trans s2).trans (zan.new hl)) zac⟩
   . refine⟨_,rfl,r,_,_,_,rfl,rfl,hr1.it,at0,rfl,_,rfl,iN ⟨_,rfl,r,_,_,_,rfl,rfl,hr1.it,at0,rfl,_,rfl,iN ⟨_,rfl,_,rfl,zvz hr1.it λp2 H4 s4 e4=>⟨p2,_,rfl,.inr e4,λl hl=>q l _ (s4.free hl) (s4.trans (zan.new hl)) zac⟩⟩⟩⟩
theorem zfv:FnScope ["_law_function","_law_args","_law_now","_law_row_here","_law_part","_law_name","_law_number"] ["_law_function","_law_args"] (zai zf0):=⟨rfl,rfl,rfl,by decide +kernel,rfl,by decide +kernel,by decide +kernel⟩
theorem zn5 (T:Txt K mg t):FnOk P w K mg base CX0 2 t.znk t.zre ["_law_function","_law_args"] (zuz K):=by
 have G_l_parts:=zt8 (P:=P) (w:=w) (base:=base) T;refine T.zsq.F.ok zfv (λvs H Q E h=>?_) (λcdv A outer s H vs Q E hr h=>?_)
 . obtain⟨F,rgs,ar,vals,rfl,hF,har,hlen,hvi,q⟩:=h;rfl
 . skip
   refine(let XX:Cx:=(zkf CX0 P w K mg base ["_law_function","_law_args","_law_now","_law_row_here","_law_part","_law_name","_law_number"] "_law_frame" (zai zf0) t.znk cdv A outer s H E).nox; ?_);refine(let W2:TS:=_; have hW2:PSs XX ((zav zf0).drop 2) W2:=(@zab _ _ _ _ _ (zeb PassesOwn.never rfl (zz7 true false rfl T.b_zip (@zaa _ _ _ _ _ (@zaj _ _ _ _ _ _ _ zap (pv 0) zad (λ_ _=>rfl)) (@zaa _ _ _ _ _ (pv 1) zaf (by rfl)) (by rfl))) (zmj rfl (zcp (za0 (i:=5) zfv.nd rfl (Or.inl rfl)) (zcp (za0 (i:=6) zfv.nd rfl (Or.inl rfl)) zie))) (@zah _ _ _ (zc1 (u1' hr.units) (pv 2) (pv 5) (pv 6) (by rfl)))) (@zah _ _ _ (@zau _ _ _ _ (@zdj _ _ _ _ (@zaa _ _ _ _ _ (pv 0) (@zaa _ _ _ _ _ zad (@zaa _ _ _ _ _ (pv 2) zaf (by rfl)) (by rfl)) (by rfl)))))); ?_);refine(let W1:TS:=_; have hW1:PSs XX ((zav zf0).drop 1) W1:=(@zab _ _ _ _ _ (zeb PassesOwn.never rfl (zq0 (@zaj _ _ _ _ _ _ _ zap (pv 0) zad (λ_ _=>rfl))) (za0 (i:=3) zfv.nd rfl (Or.inl rfl)) (@zah _ _ _ (zeb PassesOwn.never rfl (zgx (zbu T.zx3 G_l_parts (hr.mono (by decide)) (@zaa _ _ _ _ _ (pv 3) zaf (by rfl)))) (za0 (i:=4) zfv.nd rfl (Or.inl rfl)) (@zah _ _ _ (@zbq _ _ _ _ _ _ _ _ (zjb (zbs zet (by rfl) T.b_isinstance zb4 (@zaa _ _ _ _ _ (pv 4) (@zaa _ _ _ _ _ (zjl (v:=V.ty "str") rfl T.b_str znb rfl) zaf (by rfl)) (by rfl)))) (@zah _ _ _ (zc1 (u1' hr.units) (pv 2) (pv 4) zad (by rfl))) zas))))) hW2); ?_);obtain⟨F,rgs,ar,vals,rfl,hF,har,hlen,hvi,q⟩:=h;refine⟨_,(@zab _ _ _ _ _ (@zax _ _ 2 _ _ _ _ zfv.nd rfl (Or.inl rfl) zew (by rfl) (by first|exact .inl rfl|exact .inr rfl|assumption)) hW1),?_⟩;intro d hd;generalize e:upd H d _=H1;have ⟨s1,e1⟩:=nw e hd;have hfn:=hF.at_.fn;have hrw:=hF.at_.rw_;have hln:=hF.len;have hsm:=hF.small;refine⟨_,rfl,F.fa,_,_,_,rfl,rfl,s1.tup hfn,rfl,F.ra,rfl,⟨_,s1.tup hrw⟩,(let Jv1:Nat->St->Hp->Prop:=λi σ H'=>∃v3 v4:Option V,σ=[some (.ref F.fa),some (.ref ar),some (.ref d),v3,v4,none,none]/\zan H H'/\H' d=some (.dK ((rgs.take i).foldl (λd rg=>(RG.parts rg).foldl zk5 d) [])); zxe (xs:=F.rs.map λr=>V.ref r.r) Jv1 ⟨_,_,rfl,s1,e1⟩ ?_ ?_ ?_)⟩
   . rintro i σ H2 hi ⟨v3,v4,rfl,s2,e2⟩;exact s2.tup hrw
   . rintro i x0 σ H2 hx ⟨v3,v4,rfl,s2,e2⟩;obtain⟨rw_,hr,hrm,rfl⟩:=zj7 hx;have hi:i<rgs.length:=by have:=(List.getElem?_eq_some_iff.mp hr).1; omega
     obtain⟨rg,hrg⟩:∃rg,rgs[i]?=some rg:=⟨_,List.getElem?_eq_getElem hi⟩
     have hm:=List.mem_of_getElem? hrg;have ok:=hF.ok rg hm;have hq:=(hF.row i rw_ rg hr hrg).mono s2;have hk0:=zmd (rgs.take i) [] (λr h=>hF.ok r (qbt h));rw[qax] at hk0;generalize hke:(rgs.take i).foldl (λd rg=>(RG.parts rg).foldl zk5 d) []=k0 at e2 hk0;simp only[qbi] at hk0;have kd:(∃x a,rg=.copy x a)\/(∃x s a b,rg=.op x s a b)\/(∃x g p as,rg=.call x g p as/\as.length<=10)\/∃a,rg=.back a:=by
       rcases hF.kd rg hm with h|h|⟨x,g,p,as,h⟩|h
       . exact .inl h
       . exact .inr (.inl h)
       . exact .inr (.inr (.inl ⟨x,g,p,as,h,(ok.cl x g p as h).2⟩))
       . exact .inr (.inr (.inr h))
     refine⟨_,rfl,rw_.r,rg,rfl,hq,kd,λpl H3 hpl s3 e3=>⟨pl,rfl,⟨_,SqL.of e3⟩,(let Jv2:Nat->St->Hp->Prop:=λj σ H'=>∃v4:Option V,σ=[some (.ref F.fa),some (.ref ar),some (.ref d),some (.ref rw_.r),v4,none,none]/\zan H H'/\H' pl=some (.lst rg.parts)/\H' d=some (.dK ((rg.parts.take j).foldl zk5 k0)); zj6 (xs:=rg.parts) Jv2 ⟨_,rfl,s2.trans s3,e3,s3 _ _ e2⟩ ?_ ?_ ?_)⟩⟩
     . rintro j σ H4 hj ⟨v4,rfl,s4,e4,d4⟩;exact SqL.of e4
     . rintro j x σ H4 hx ⟨v4,rfl,s4,e4,d4⟩;have hstep:(rg.parts.take (j+1)).foldl zk5 k0=zk5 ((rg.parts.take j).foldl zk5 k0) x:=by rw[qbf,hx,qbc]; rfl
       have np:pl≠d:=λz=>by rw[z,d4] at e4; cases e4
       have lk:((rg.parts.take j).foldl zk5 k0).length<1000000:=by have l1:=znc (rg.parts.take j) k0;have l2:=zld ok;rw[qax] at l1;omega
       rcases ok.at_ x (List.mem_of_getElem? hx) with⟨n,rfl,_⟩|⟨z,rfl⟩
       . refine⟨_,rfl,_,"str",_,true,rfl,.str _,rfl,_,rfl,z0a ⟨_,rfl,_,rfl,d,_,rfl,zmc.k (k:=(Sum.inr n:Key)) d4 (zba lk),_,rfl,s4.upd hd,by rw[zag np]; exact e4,?_⟩⟩;rw[zac,hstep];rfl
       . refine⟨_,rfl,_,"str",_,false,rfl,.int _,rfl,_,rfl,z3t ⟨_,rfl,s4,e4,?_⟩⟩;rw[hstep];exact d4
     . rintro σ H4 ⟨v4,rfl,s4,e4,d4⟩;refine⟨_,_,rfl,s4,?_⟩;rw[d4,qbb (qae _),qbf,hrg,qbc,hke];rfl
   . rintro σ H2 ⟨v3,v4,rfl,s2,e2⟩;rw[List.length_map,hln,qbb (qae _)] at e2;have hpr:=hF.at_.pr;have hk0:=zmd rgs [] hF.ok;have hbg:z24 rgs F.ps vals=(F.ps.zip vals).foldl (λd p=>zbd d (Sum.inr p.1:Key) p.2) (rgs.foldl (λd rg=>(RG.parts rg).foldl zk5 d) []):=rfl;generalize rgs.foldl (λd rg=>(RG.parts rg).foldl zk5 d) []=k0 at e2 hk0 hbg;simp only[qbi] at hk0;have hpl:=hF.pl;refine⟨_,rfl,F.fa,_,_,_,rfl,rfl,s2.tup hfn,rfl,_,rfl,F.pa,ar,rfl,⟨_,s2.tup hpr⟩,⟨_,s2.seq har⟩,(let Jv3:Nat->St->Hp->Prop:=λi σ H'=>∃v5 v6:Option V,σ=[some (.ref F.fa),some (.ref ar),some (.ref d),v3,v4,v5,v6]/\zan H H'/\H' d=some (.dK (((F.ps.zip vals).take i).foldl (λd p=>zbd d (Sum.inr p.1:Key) p.2) k0)); zxc (b1:=true) (b2:=false) (xs:=F.ps.map V.str) (ys:=vals) Jv3 ⟨_,_,rfl,s2,e2⟩ ?_ ?_ ?_)⟩
     . rintro i σ H' hi ⟨v5,v6,rfl,s5,e5⟩;exact⟨s5.tup hpr,s5.seq har⟩
     . rintro i x y σ H' b hx hy ⟨v5,v6,rfl,s5,e5⟩ hb;obtain⟨n,hn,hnm,rfl⟩:=zj7 hx;have s6:=zan.new (o:=.tup [.str n,y]) hb;have lz:(((F.ps.zip vals).take i).foldl (λd p=>zbd d (Sum.inr p.1:Key) p.2) k0).length<1000000:=by refine qbw (zfz (λp:Str×V=>((Sum.inr p.1:Key),p.2)) ((F.ps.zip vals).take i) k0) ?_;rw[qax,qcf];omega
       refine⟨b,_,rfl,SqT.of zac,rfl,_,_,rfl,_,_,rfl,rfl,_,rfl,_,rfl,_,rfl,d,_,rfl,zmc.k (k:=(Sum.inr n:Key)) (s6 _ _ e5) (zba lz),_,_,rfl,(s5.trans s6).upd hd,?_⟩;have hz:(F.ps.zip vals)[i]?=some (n,y):=qb7.mpr ⟨hn,hy⟩;rw[zac,qbf,qbc,hz];rfl
     . rintro σ H' ⟨v5,v6,rfl,s5,e5⟩;rw[qbb (by rw[qcf,List.length_map]; exact qae _),<- hbg] at e5;refine⟨_,rfl,_,rfl,le3,λl hl=>q l d _ _ (s5.free hl) hd (λz=>by rw[z,e5] at hl; cases hl) (s5.trans (zan.new hl)) zac (zan.new hl _ _ e5) (zqe hF hvi hlen)⟩
theorem zds:FnScope ["_law_stack","_law_program_here","_law_function","_law_at","_law_now","_law_row_here","_law_number","_law_frame_here","_law_one","_law_other"] ["_law_stack","_law_program_here"] (zai zez):=⟨rfl,rfl,rfl,by decide +kernel,rfl,by decide +kernel,by decide +kernel⟩
theorem zul (T:Txt K mg t):FnOk P w K mg base CX0 3 t.znl t.zrf ["_law_stack","_law_program_here"] (zur K):=by
 have G_l_worth:=zn8 (P:=P) (w:=w) (base:=base) T;have G_l_frame:=zn5 (P:=P) (w:=w) (base:=base) T;refine T.zx1.F.ok zds (λvs H Q E h=>?_) (λcdv A outer s H vs Q E hr h=>?_)
 . obtain⟨sk,pl,ls0,x,rgs,r0,rg,F0,F1,rfl,st,hpl,hF,hF0,hrg,hk,hls,q⟩:=h;rfl
 . skip
   refine(let XX:Cx:=(zkf CX0 P w K mg base ["_law_stack","_law_program_here","_law_function","_law_at","_law_now","_law_row_here","_law_number","_law_frame_here","_law_one","_law_other"] "_law_moved" (zai zez) t.znl cdv A outer s H E).nox; ?_);refine(let W4:TS:=_; have hW4:PSs XX ((zav zez).drop 4) W4:=(@zab _ _ _ _ _ (@zbq _ _ _ _ _ _ _ _ (@zat _ _ _ _ _ _ _ _ zc8 (@zaj _ _ _ _ _ _ _ zap (pv 5) zad (λ_ _=>rfl)) za5 (za1 _)) (@zah _ _ _ (zc1 (u1' hr.units) (pv 4) (@zaj _ _ _ _ _ _ _ zap (pv 5) zad (λ_ _=>rfl)) (zbu T.zj0 G_l_worth (hr.mono (by decide)) (@zaa _ _ _ _ _ (@zaj _ _ _ _ _ _ _ zap (pv 5) zad (λ_ _=>rfl)) (@zaa _ _ _ _ _ (pv 4) zaf (by rfl)) (by rfl))) (by rfl))) (@zab _ _ _ _ _ (@zax _ _ 8 _ _ _ _ zds.nd rfl (Or.inl rfl) (zbu T.zj0 G_l_worth (hr.mono (by decide)) (@zaa _ _ _ _ _ (@zaj _ _ _ _ _ _ _ zap (pv 5) zad (λ_ _=>rfl)) (@zaa _ _ _ _ _ (pv 4) zaf (by rfl)) (by rfl))) (by rfl) (by first|exact .inl rfl|exact .inr rfl|assumption)) (@zab _ _ _ _ _ (@zax _ _ 9 _ _ _ _ zds.nd rfl (Or.inl rfl) (zbu T.zj0 G_l_worth (hr.mono (by decide)) (@zaa _ _ _ _ _ (@zaj _ _ _ _ _ _ _ zap (pv 5) zad (λ_ _=>rfl)) (@zaa _ _ _ _ _ (pv 4) zaf (by rfl)) (by rfl))) (by rfl) (by first|exact .inl rfl|exact .inr rfl|assumption)) (@zah _ _ _ (zc1 (u1' hr.units) (pv 4) (@zaj _ _ _ _ _ _ _ zap (pv 5) zad (λ_ _=>rfl)) (zd9 (u1' hr.units) (z1w (zov za5 (@zaw _ _ _ _ _ _ _ _ zbt (@zaw _ _ _ _ _ _ _ _ zqm (pv 8) (pv 9)) (@zaw _ _ _ _ _ _ _ _ zwv zad zad)) (zov za5 (zb2 zkt (by rfl) T.b_int zql (@zaa _ _ _ _ _ (zmy zxd (pv 8) (pv 9) (za1 _)) zaf (by rfl))) (zov za5 (@zaw _ _ _ _ _ _ _ _ z0e (pv 8) (pv 9)) z1a))) (by rfl) (by rfl) (by simp) (by decide)) (@zaj _ _ _ _ _ _ _ zap (pv 5) zad (λ_ _=>rfl)) (λ_ _=>rfl)) (by rfl)))))) (@zah _ _ _ (zlk (@zaw _ _ _ _ _ _ _ _ zdx (pv 3) zad) (zmu (@zaj _ _ _ _ _ _ _ zak (pv 0) (zjo zfw zad) (λ_ _=>rfl)) zad zhm)))); ?_);refine(let W3:TS:=_; have hW3:PSs XX ((zav zez).drop 3) W3:=(@zab _ _ _ _ _ (@zbq _ _ _ _ _ _ _ _ (@zat _ _ _ _ _ _ _ _ zc8 (@zaj _ _ _ _ _ _ _ zap (pv 5) zad (λ_ _=>rfl)) za5 (za1 _)) (@zab _ _ _ _ _ (@zax _ _ 6 _ _ _ _ zds.nd rfl (Or.inl rfl) (zbu T.zj0 G_l_worth (hr.mono (by decide)) (@zaa _ _ _ _ _ (@zaj _ _ _ _ _ _ _ zap (pv 5) zad (λ_ _=>rfl)) (@zaa _ _ _ _ _ (pv 4) zaf (by rfl)) (by rfl))) (by rfl) (by first|exact .inl rfl|exact .inr rfl|assumption)) (@zab _ _ _ _ _ (@zbl _ _ _ _ (zwi qay qc5 qc6 zu8 (pv 0)) (by rfl)) (@zab _ _ _ _ _ (zeb PassesOwn.never rfl (zgx (@zc0 _ _ _ _ _ _ _ _ _ _ zes (pv 0) (zdd (zjo zfw zad)) zec)) (za0 (i:=7) zds.nd rfl (Or.inl rfl)) (@zab _ _ _ _ _ (zc1 (u1' hr.units) (@zaj _ _ _ _ _ _ _ zak (pv 7) zad (λ_ _=>rfl)) (@zaj _ _ _ _ _ _ _ zap (@zaj _ _ _ _ _ _ _ zap (@zaj _ _ _ _ _ _ _ zap (@zaj _ _ _ _ _ _ _ zak (pv 7) zad (λ_ _=>rfl)) zad (λ_ _=>rfl)) (@zaj _ _ _ _ _ _ _ zak (pv 7) zad (λ_ _=>rfl)) (λ_ _=>rfl)) zad (λ_ _=>rfl)) (pv 6) (by rfl)) (@zah _ _ _ (zlk (@zaw _ _ _ _ _ _ _ _ zdx (@zaj _ _ _ _ _ _ _ zak (pv 7) zad (λ_ _=>rfl)) zad) (zmu (pv 7) zad zhm))))) (@zah _ _ _ zvn)))) zas) hW4); ?_);refine(let W2:TS:=_; have hW2:PSs XX ((zav zez).drop 2) W2:=(@zab _ _ _ _ _ (@zbq _ _ _ _ _ _ _ _ (@zat _ _ _ _ _ _ _ _ zc8 (@zaj _ _ _ _ _ _ _ zap (pv 5) zad (λ_ _=>rfl)) za5 (za1 _)) (@zab _ _ _ _ _ (@zbl _ _ _ _ (zj8 qay qa9 qba zdb (pv 0) (@zaa _ _ _ _ _ (zbu T.zsq G_l_frame (hr.mono (by decide)) (@zaa _ _ _ _ _ (@zaj _ _ _ _ _ _ _ zak (pv 1) zad (λ_ _=>rfl)) (@zaa _ _ _ _ _ (zf2 (N':=["_law_atom_here","_law_now"]) (js:=[none,some 4]) (by kernel_rfl) rfl (zq0 (@zaj _ _ _ _ _ _ _ zap (pv 5) zad (λ_ _=>rfl))) zdo (λ_ _ _ _=>(za0 (i:=0) (show(["_law_atom_here","_law_now"]:List Str).Nodup by decide +kernel) rfl (Or.inl rfl) (.inr rfl))) (λ_ _ _ _=>zfc) (λ_ _ _ _=>(zbu T.zj0 G_l_worth (hr.mono (by decide)) (@zaa _ _ _ _ _ (pv 0) (@zaa _ _ _ _ _ (pv 1) zaf (by rfl)) (by rfl))))) zaf (by rfl)) (by rfl))) zaf (by rfl))) (by rfl)) (@zah _ _ _ zvn)) zas) hW3); ?_);obtain⟨sk,pl,ls0,x,rgs,r0,rg,F0,F1,rfl,st,hpl,hF,hF0,hrg,hk,hls,q⟩:=h;refine⟨_,(@zab _ _ _ _ _ (zlk (@zaj _ _ _ _ _ _ _ zak (pv 0) (zjo zfw zad) (λ_ _=>rfl)) (z5b rfl (zcp (za0 (i:=2) zds.nd rfl (Or.inl rfl)) (zcp (za0 (i:=3) zds.nd rfl (Or.inl rfl)) (zcp (za0 (i:=4) zds.nd rfl (Or.inr rfl)) zie))))) (@zab _ _ _ _ _ (@zax _ _ 5 _ _ _ _ zds.nd rfl (Or.inl rfl) (@zaj _ _ _ _ _ _ _ zap (@zaj _ _ _ _ _ _ _ zap (pv 2) zad (λ_ _=>rfl)) (pv 3) (λ_ _=>rfl)) (by rfl) (by first|exact .inl rfl|exact .inr rfl|assumption)) hW2)),?_⟩;have hxm:x∈ls0++[x]:=zu7;have fx:=st.fr x hxm;have A:=z2q (sk:=sk) (ls0:=ls0) (x:=x);have dl:x.d≠x.l:=λz=>by have:=fx.2; rw[z,fx.1] at this; cases this
   have sd:sk≠x.d:=λz=>by have:=fx.2; rw[<- z,st.e] at this; cases this
   have hil:x.at_<x.F.rs.length:=by rw[hF.len]; exact(List.getElem?_eq_some_iff.mp hrg).1
   obtain⟨r,hr⟩:∃r,x.F.rs[x.at_]?=some r:=⟨_,List.getElem?_eq_getElem hil⟩
   have hq:=hF.row _ _ _ hr hrg;have hat:atI (x.F.rs.map λw=>V.ref w.r) (x.at_:Int)=some (.ref r.r):=zc2 (by rw[List.getElem?_map,hr]; rfl);have fin:∀(H1:Hp) (ks:List (Key×V)),Stk (upd (upd H1 x.d (.dK ks)) x.l (.lst [V.ref x.F.fa,V.int ((x.at_+1:Nat):Int),V.ref x.d])) sk (ls0++[{ x with kvs:=ks,at_:=x.at_+1 }])\/¬ Stk H1 sk (ls0++[x]):=λH1 ks=>by
     by_cases h1:Stk H1 sk (ls0++[x])
     . left;have:=h1.set (i:=ls0.length) (kvs:=ks) (n:=x.at_+1) (zd7 _ _);rw[zwq] at this;exact this
     . exact .inr h1
   refine⟨_,rfl,_,rfl,sk,_,_,_,rfl,rfl,SqL.of st.e,zla _ _,x.l,_,rfl,SqL.of fx.1,rfl,_,_,rfl,_,_,rfl,_,_,rfl,rfl,?_⟩;refine⟨_,rfl,x.F.fa,_,_,_,rfl,rfl,hF.at_.fn,rfl,_,rfl,x.F.ra,_,_,_,rfl,rfl,hF.at_.rw_,hat,?_⟩;cases rg with
   | copy y a =>
     obtain⟨v,hv,q⟩:=q;refine⟨_,rfl,r.r,_,_,_,rfl,rfl,hq.it,at0,rfl,_,rfl,iN ⟨_,rfl,r.r,_,_,_,rfl,rfl,hq.it,at0,rfl,_,rfl,iN ⟨_,rfl,r.r,_,_,_,rfl,rfl,hq.it,at0,rfl,_,rfl,iP ⟨_,rfl,r.r,_,_,_,rfl,rfl,hq.it,rfl,_,rfl,a,_,x.d,x.kvs,rfl,fx.2,hv,_,rfl,_,rfl,r.r,_,_,_,rfl,rfl,hq.it,rfl,x.d,_,rfl,zmc.k (k:=(Sum.inr y:Key)) fx.2 (zba (by omega)),?_⟩⟩⟩⟩;refine⟨_,rfl,_,_,rfl,rfl,_,rfl,_,rfl,sk,_,_,_,rfl,rfl,SqL.of ((zag sd).trans st.e),zla _ _,x.l,_,1,1,rfl,rfl,(zag dl.symm).trans fx.1,rfl,?_⟩;exact q _ (zhp (zhp ziy A.2.2) A.2.1) ((fin H _).resolve_right (λz=>z st))
   | op y s a b =>
     obtain⟨i,j,ea,eb,vi,vj,hs,q⟩:=q;refine⟨_,rfl,r.r,_,_,_,rfl,rfl,hq.it,at0,rfl,_,rfl,iN ⟨_,rfl,r.r,_,_,_,rfl,rfl,hq.it,at0,rfl,_,rfl,iN ⟨_,rfl,r.r,_,_,_,rfl,rfl,hq.it,at0,rfl,_,rfl,iN ⟨_,rfl,r.r,_,_,_,rfl,rfl,hq.it,rfl,_,rfl,a,_,x.d,x.kvs,rfl,fx.2,ea,_,rfl,r.r,_,_,_,rfl,rfl,hq.it,rfl,_,rfl,b,_,x.d,x.kvs,rfl,fx.2,eb,λp hp=>?_⟩⟩⟩⟩;have sp:∀o1 o2,zan H (upd (upd H p o1) p o2):=λo1 o2=>(zan.new hp).upd hp;refine⟨_,rfl,_,rfl,_,_,rfl,rfl,_,_,rfl,rfl,⟨by decide,by decide,by decide⟩,_,_,rfl,rfl,(show(0:Int)<2 ^ Int.toNat 48 by decide),_,rfl,_,rfl,_,_,rfl,rfl,.inr ⟨_,rfl,_,rfl,_,rfl,_,_,rfl,rfl,zac,[((Sum.inr "-":Key),V.int ((i - j)%(2:Int) ^ (48:Int).toNat)),((Sum.inr "<":Key),V.int (if decide (i<j)=true then 1 else 0)),((Sum.inr "&":Key),V.int (Builtin.bitAnd i j))],rfl,(by show 3<=15; decide),?_⟩⟩;have s1:=sp (.dK []) (.dK (zj9 [] [((Sum.inr "-":Key),V.int ((i - j)%(2:Int) ^ (48:Int).toNat)),((Sum.inr "<":Key),V.int (if decide (i<j)=true then 1 else 0)),((Sum.inr "&":Key),V.int (Builtin.bitAnd i j))]));have ep:=zac (H:=upd H p (.dK [])) (a:=p) (o:=.dK (zj9 [] [((Sum.inr "-":Key),V.int ((i - j)%(2:Int) ^ (48:Int).toNat)),((Sum.inr "<":Key),V.int (if decide (i<j)=true then 1 else 0)),((Sum.inr "&":Key),V.int (Builtin.bitAnd i j))]));generalize upd (upd H p (.dK [])) p (.dK (zj9 [] [((Sum.inr "-":Key),V.int ((i - j)%(2:Int) ^ (48:Int).toNat)),((Sum.inr "<":Key),V.int (if decide (i<j)=true then 1 else 0)),((Sum.inr "&":Key),V.int (Builtin.bitAnd i j))]))=H1 at s1 ep ⊢;have st1:=st.mono s1;refine⟨_,rfl,r.r,_,_,_,rfl,rfl,s1.tup hq.it,rfl,p,.int (K21.valOf s i j),rfl,zjn ep (val3 hs),_,rfl,_,rfl,r.r,_,_,_,rfl,rfl,s1.tup hq.it,rfl,x.d,_,rfl,zmc.k (k:=(Sum.inr y:Key)) (s1 _ _ fx.2) (zba (by omega)),?_⟩;refine⟨_,rfl,_,_,rfl,rfl,_,rfl,_,rfl,sk,_,_,_,rfl,rfl,SqL.of ((zag sd).trans st1.e),zla _ _,x.l,_,1,1,rfl,rfl,(zag dl.symm).trans (s1 _ _ fx.1),rfl,?_⟩;exact q _ (zhp (zhp (ziy.trans s1) A.2.2) A.2.1) ((fin H1 _).resolve_right (λz=>z st1))
   | call y g p as =>
     obtain⟨vals,hl,hv,hvi,h10,hF0l,q⟩:=q;have hp:=hq.ar _ _ _ _ rfl;refine⟨_,rfl,r.r,_,_,_,rfl,rfl,hq.it,at0,rfl,_,rfl,iP ⟨_,rfl,.inl ⟨rfl,_,SqL.of st.e⟩,_,rfl,pl,_,_,_,rfl,rfl,hpl,at0,_,rfl,r.r,_,_,_,rfl,rfl,hq.it,rfl,p,rfl,⟨_,hp⟩,λu hu=>zp0 (K:=K) (λi _ y=>∃a,as[i]?=some a/\av x.kvs a=some y) (λ_ _ _ _ _ z=>z) (xs:=as) (by omega) hp hu ?_ ?_⟩⟩
     . rintro i z H2 R' hz s2 ⟨acc,ha⟩ r2;have hi:i<vals.length:=by rw[<- hl]; exact(List.getElem?_eq_some_iff.mp hz).1
       have hvi:=hv i z _ hz (List.getElem?_eq_getElem hi);exact⟨_,rfl,_,rfl,z,_,x.d,x.kvs,rfl,s2 _ _ fx.2,hvi,r2 _ H2 (zan.refl _) ⟨z,hz,hvi⟩⟩
     . intro H3 ys s3 e3 ly ty;have ey:ys=vals:=by
         refine qct λi=>?_;cases e:ys[i]? with
         | none=>rw[qbl (by have:=qb6.mp e; omega)]
         | some y =>
           obtain⟨a,h1,h2⟩:=ty i y e;have hi:i<vals.length:=by rw[<- hl]; exact(List.getElem?_eq_some_iff.mp h1).1
           have:=hv i a _ h1 (List.getElem?_eq_getElem hi);rw[h2] at this;rw[List.getElem?_eq_getElem hi,this]
       subst ey;refine⟨F0,r0,u,ys,rfl,hF0.mono s3,SqL.of e3,hF0l,hvi,λl d H4 kvs hl4 hd4 hne s4 e4 e5 al=>?_⟩;have s34:=s3.trans s4;let X':Lf:={ l:=l,d:=d,F:=F0,at_:=0,kvs:=kvs }
       have st4:=st.push (x:=X') s34 (s3.free hl4) (s3.free hd4) e4 e5;refine⟨sk,_,_,rfl,rfl,s34 _ _ st.e,zba (by rw[List.length_map,List.length_append,qa5]; omega),?_⟩;rw[show(((ls0++[x]).map λx:Lf=>V.ref x.l)++[V.ref l])=((ls0++[x]++[X']).map λx:Lf=>V.ref x.l) by rw[List.map_append (l₁:=ls0++[x])]; rfl];exact q _ X' (zhp (ziy.trans s34) A.1) rfl rfl al (s3.free hl4) (s3.free hd4) st4
   | back a =>
     obtain⟨v,hv,qe,qc⟩:=q;refine⟨_,rfl,r.r,_,_,_,rfl,rfl,hq.it,at0,rfl,_,rfl,iN ⟨_,rfl,r.r,_,_,_,rfl,rfl,hq.it,at0,rfl,_,rfl,iP ⟨_,rfl,r.r,_,_,_,rfl,rfl,hq.it,rfl,_,rfl,a,_,x.d,x.kvs,rfl,fx.2,hv,_,rfl,.inl ⟨rfl,_,SqL.of st.e⟩,sk,_,V.ref x.l,rfl,rfl,st.e,(by simp),?_⟩⟩⟩;rw[show((ls0++[x]).map λx:Lf=>V.ref x.l).dropLast=ls0.map λx:Lf=>V.ref x.l by rw[List.map_append]; exact List.dropLast_concat];have st1:=Stk.pop st;have s1:zan (erO (adL sk (ls0++[x])) H) (upd H sk (.lst (ls0.map λx:Lf=>V.ref x.l))):=zhp ziy A.1;have at1:∀b u,H b=some u->b≠sk->upd H sk (.lst (ls0.map λx:Lf=>V.ref x.l)) b=some u:=λb u hb hn=>by rw[zag hn]; exact hb
     generalize upd H sk (.lst (ls0.map λx:Lf=>V.ref x.l))=H1 at st1 s1 at1 ⊢;refine⟨_,rfl,_,rfl,_,rfl,sk,_,rfl,SqL.of st1.e,λp hp=>?_⟩;have hls0:ls0=[]\/∃ls1 y,ls0=ls1++[y]:=by
       rcases qcg ls0 with h|⟨ls1,y,h⟩
       . exact .inl h
       . rw[qch] at h; exact .inr ⟨ls1,y,h⟩
     rcases hls0 with rfl|⟨ls1,y,rfl⟩
     . rw[show zkp (([]:List Lf).map λx=>V.ref x.l) (some (-1)) none=[] from zys];generalize e:upd H1 p _=H2;have ⟨s2,e2⟩:=nw e hp;exact⟨p,rfl,⟨_,SqL.of e2⟩,zj6 (xs:=[]) (λ_ _ H'=>H'=H2) rfl (λ_ _ _ _ z=>by rw[z]; exact SqL.of e2) (λi x _ _ hx _=>by simp at hx) (λ_ _ z=>by subst z; exact qe rfl _ (s1.trans s2) (st1.mono s2))⟩
     . obtain⟨hyk,rgsy,zn,g,pa,as,fgy,hry,qc⟩:=qc ls1 y rfl;rw[show((ls1++[y]).map λx:Lf=>V.ref x.l)=(ls1.map λx:Lf=>V.ref x.l)++[V.ref y.l] by rw[List.map_append]; rfl] at *;rw[zyn];have hym:y∈ls1++[y]:=zu7;have fy:=st1.fr y hym;have Ay:=zmg (sk:=sk) (ls:=ls1++[y]++[x]) (x:=y) (qa8 _ hym);generalize e:upd H1 p _=H2;have ⟨s2,e2⟩:=nw e hp;have st2:=st1.mono s2;have fy2:=st2.fr y hym;have npl:p≠y.l:=λz=>by rw[z,fy.1] at hp; cases hp
       have npd:p≠y.d:=λz=>by rw[z,fy.2] at hp; cases hp
       have dly:y.d≠y.l:=λz=>by have:=fy.2; rw[z,fy.1] at this; cases this
       have hily:y.at_<y.F.rs.length:=by rw[fgy.len]; exact(List.getElem?_eq_some_iff.mp hry).1
       obtain⟨ry,hrey⟩:∃ry,y.F.rs[y.at_]?=some ry:=⟨_,List.getElem?_eq_getElem hily⟩
       have haty:atI (y.F.rs.map λw=>V.ref w.r) (y.at_:Int)=some (.ref ry.r):=zc2 (by rw[List.getElem?_map,hrey]; rfl);have ntup:∀b its,SqT K H b its->SqT K H2 b its:=λb its hb=>by
         rcases hb with(h|⟨o,h⟩)|h
         . exact .inl (.inl (s2 _ _ (at1 _ _ h (λz=>by rw[z,st.e] at h; cases h))))
         . exact .inl (.inr ⟨o,s2 _ _ (at1 _ _ h (λz=>by rw[z,st.e] at h; cases h))⟩)
         . exact .inr h
       have hqy:=fgy.row _ _ _ hrey hry;refine⟨p,rfl,⟨_,SqL.of e2⟩,zj6 (xs:=[V.ref y.l]) (λk σ H'=>∃v7:Option V,σ=[some (.ref sk),some (.ref pl),some (.ref x.F.fa),some (.int x.at_),some (.ref x.d),some (.ref r.r),some (.int v),v7,none,none]/\SqL K H' p [V.ref y.l]/\(k=0->H'=H2)/\(k=1->zan (erO (adL sk (ls1++[y]++[x])) H) H'/\Stk H' sk (ls1++[{ y with kvs:=zbd y.kvs (Sum.inr zn:Key) (.int v),at_:=y.at_+1 }]))) ⟨_,rfl,SqL.of e2,λ_=>rfl,λz=>by cases z⟩ (λ_ _ _ _ z=>let ⟨_,_,z,_⟩:=z; z) ?_ ?_⟩
       . rintro k u σ H' hu ⟨v7,rfl,_,h0,_⟩;have hk0:k=0:=by have:=(List.getElem?_eq_some_iff.mp hu).1; simp at this; exact this
         subst hk0;cases hu;obtain rfl:=h0 rfl;refine⟨_,rfl,_,rfl,y.l,_,_,_,rfl,rfl,SqL.of fy2.1,rfl,_,rfl,y.l,_,_,_,rfl,rfl,SqL.of fy2.1,at0,y.F.fa,_,_,_,rfl,rfl,ntup _ _ fgy.at_.fn,rfl,_,rfl,y.l,_,_,_,rfl,rfl,SqL.of fy2.1,rfl,y.F.ra,_,_,_,rfl,rfl,ntup _ _ fgy.at_.rw_,haty,ry.r,_,_,_,rfl,rfl,ntup _ _ hqy.it,rfl,y.d,_,rfl,zmc.k (k:=(Sum.inr zn:Key)) fy2.2 (zba (by omega)),?_⟩;have st3:=st2.set (i:=ls1.length) (kvs:=zbd y.kvs (Sum.inr zn:Key) (.int v)) (n:=y.at_+1) (zd7 _ _);rw[zwq] at st3;refine⟨_,rfl,y.l,_,_,_,rfl,rfl,SqL.of ((zag dly.symm).trans fy2.1),rfl,_,_,rfl,rfl,_,rfl,y.l,_,1,1,rfl,rfl,(zag dly.symm).trans fy2.1,rfl,_,rfl,SqL.of ((zag npl).trans ((zag npd).trans e2)),(λz=>by cases z),λ_=>⟨zhp (zhp (s1.trans s2) Ay.2) Ay.1,st3⟩⟩
       . rintro σ H' ⟨v7,rfl,_,_,h1⟩;obtain⟨g1,g2⟩:=h1 rfl;exact qc H' g1 g2
   | _=>exact q.elim
theorem zgj:FnScope ["_law_walker","_law_level","_law_name","_law_number","_law_word","e"] ["_law_walker","_law_level","_law_name","_law_number"] (zai zhk):=⟨rfl,rfl,rfl,by decide +kernel,rfl,by decide +kernel,by decide +kernel⟩
theorem zls (T:Txt K mg t):FnOk P w K mg base CX0 6 t.znn t.zns ["_law_walker","_law_level","_law_name","_law_number"] (zlq K t):=by
 have G_TextWalker_fill:=zee (P:=P) (w:=w) (base:=base) T;refine T.znt.F.ok zgj (λvs H Q E h=>?_) (λcdv A outer s H vs Q E hr h=>?_)
 . obtain⟨Hb,w,fs,oc,sent,cn,z,n,v,fns,rfl,h,hFl,hall,hk,hno,q⟩:=h;rfl
 . obtain⟨Hb,w,fs,oc,sent,cn,z,n,v,fns,rfl,h,hFl,hall,hk,hno,q⟩:=h;refine⟨_,(@zab _ _ _ _ _ (@zax _ _ 4 _ _ _ _ zgj.nd rfl (Or.inl rfl) za5 (by rfl) (by first|exact .inl rfl|exact .inr rfl|assumption)) (@zab _ _ _ _ _ (z4m (j:=5) zgj.nd rfl rfl T.zgt rfl rfl (zzh (z1q (pv 0) T.zae.cl T.zcd.m G_TextWalker_fill (hr.mono (by decide)) T.zcd.b (@zaa _ _ _ _ _ (pv 1) (@zaa _ _ _ _ _ (pv 2) (@zaa _ _ _ _ _ (pv 3) zaf (by rfl)) (by rfl)) (by rfl)))) (λ_=>(@zah _ _ _ (@zax _ _ 4 _ _ _ _ zgj.nd rfl (Or.inl rfl) (@zaw _ _ _ _ _ _ _ _ zgy (@zaw _ _ _ _ _ _ _ _ zgy (zb2 zik (by rfl) T.b_str znb (@zaa _ _ _ _ _ (zb2 zkt (by rfl) T.b_int zql (@zaa _ _ _ _ _ (zbs (show zjr _ (.builtin "isinstance") (z5e K mg) from zo5) (by rfl) T.b_isinstance zb4 (@zaa _ _ _ _ _ (pv 5) (@zaa _ _ _ _ _ (zkq T.zb6.g) zaf (by rfl)) (by rfl))) zaf (by rfl))) zaf (by rfl))) (zb2 zik (by rfl) T.b_str znb (@zaa _ _ _ _ _ (zb2 zkt (by rfl) T.b_int zql (@zaa _ _ _ _ _ (zbs (show zjr _ (.builtin "isinstance") (z5e K mg) from zo5) (by rfl) T.b_isinstance zb4 (@zaa _ _ _ _ _ (pv 5) (@zaa _ _ _ _ _ (zkq T.g_Ended) zaf (by rfl)) (by rfl))) zaf (by rfl))) zaf (by rfl)))) (zb2 zik (by rfl) T.b_str znb (@zaa _ _ _ _ _ (zb2 zkt (by rfl) T.b_int zql (@zaa _ _ _ _ _ (zbs (show zjr _ (.builtin "isinstance") (z5e K mg) from zo5) (by rfl) T.b_isinstance zb4 (@zaa _ _ _ _ _ (pv 5) (@zaa _ _ _ _ _ (zjl (v:=V.ty "ValueError") rfl T.b_ValueError zo6 rfl) zaf (by rfl)) (by rfl))) zaf (by rfl))) zaf (by rfl)))) (by rfl) (by first|exact .inl rfl|exact .inr rfl|assumption))))) (@zah _ _ _ (@zau _ _ _ _ (zmy zc8 (pv 4) za5 (za1 _)))))),?_⟩;refine⟨_,rfl,w.a,_,_,rfl,h.o,rfl,_,rfl,_,rfl,_,rfl,Hb,w,fs,oc,sent,cn,z,n,v,fns,rfl,h,hFl,hall,hk,λhT=>absurd hT hno,λ_ H1 s1=>?_⟩;refine⟨t.zb6,_,rfl,T.zb6,T.e_NoName,λea hea=>?_⟩;generalize e:upd H1 ea _=H2;have ⟨s2,hX⟩:=nw e hea;exact⟨_,rfl,ea,_,_,_,_,_,_,rfl,hX,(λdx z=>by cases z),T.zb6,rfl,T.k_NoName_NoName,.inr ⟨_,rfl,_,rfl,by decide,_,rfl,ea,_,_,_,_,_,_,rfl,hX,(λdx z=>by cases z),T.zb6,rfl,T.k_NoName_Ended,.inr ⟨_,rfl,_,rfl,by decide,_,_,rfl,rfl,(by decide +kernel),_,rfl,ea,_,_,_,_,_,_,rfl,hX,(λdx z=>by cases z),T.zb6,rfl,T.v_NoName,.inr ⟨_,rfl,_,rfl,by decide,_,_,rfl,rfl,(by decide +kernel),_,rfl,rfl,vq (by decide +kernel) (q _ (s1.trans s2))⟩⟩⟩⟩
theorem zhl:FnScope ["_law_walker","_law_stack","_law_level","_law_name","_law_told"] ["_law_walker","_law_stack"] (zai zfu):=⟨rfl,rfl,rfl,by decide +kernel,rfl,by decide +kernel,by decide +kernel⟩
theorem zr6 (T:Txt K mg t):FnOk P w K mg base CX0 6 t.zli t.zoo ["_law_walker","_law_stack"] (znd K t):=by
 have G_Walker_frames:=zl6 (P:=P) (w:=w) (base:=base) T;have G_Walker_told:=zi9 (P:=P) (w:=w) (base:=base) T;refine T.zpp.F.ok zhl (λvs H Q E h=>?_) (λcdv A outer s H vs Q E hr h=>?_)
 . obtain⟨RF,H0,Hb,w,fs,fns,sk,ls,rfl,S,q⟩:=h;rfl
 . skip
   refine(let XX:Cx:=(zkf CX0 P w K mg base ["_law_walker","_law_stack","_law_level","_law_name","_law_told"] "_law_stands" (zai zfu) t.zli cdv A outer s H E).nox; ?_);refine(let W1:TS:=_; have hW1:PSs XX ((zav zfu).drop 1) W1:=(@zab _ _ _ _ _ (zeb PassesOwn.never rfl (zey rfl T.b_range (@zaa _ _ _ _ _ (zbs zbo (by rfl) T.b_len zhv (@zaa _ _ _ _ _ (pv 1) zaf (by rfl))) zaf (by rfl))) (za0 (i:=2) zhl.nd rfl (Or.inl rfl)) (@zah _ _ _ (zyt (zeb PassesOwn.never rfl (z5y (@zaj _ _ _ _ _ _ _ zak (@zaj _ _ _ _ _ _ _ zak (pv 1) (pv 2) (λ_ _=>rfl)) zad (λ_ _=>rfl))) (za0 (i:=3) zhl.nd rfl (Or.inl rfl)) (@zab _ _ _ _ _ (@zax _ _ 4 _ _ _ _ zhl.nd rfl (Or.inl rfl) (za9 (pv 0) T.zae.cl T.zgb.m G_Walker_told (hr.mono (by decide)) T.zgb.b .nil zcu (@zaa _ _ _ _ _ (pv 2) (@zaa _ _ _ _ _ (pv 3) zaf (by rfl)) (by rfl))) (by rfl) (by first|exact .inl rfl|exact .inr rfl|assumption)) (@zah _ _ _ (@zbq _ _ _ _ _ _ _ _ (@PW.pt _ _ _ (zrn (ztb (zjb (zbs zet (by rfl) T.b_isinstance zb4 (@zaa _ _ _ _ _ (pv 4) (@zaa _ _ _ _ _ (zjl (v:=V.ty "int") rfl T.b_int zql rfl) zaf (by rfl)) (by rfl))))) (zrn (zjb (zbs zet (by rfl) T.b_isinstance zb4 (@zaa _ _ _ _ _ (pv 4) (@zaa _ _ _ _ _ (zjl (v:=V.ty "bool") rfl T.b_bool z1c rfl) zaf (by rfl)) (by rfl)))) (ztd (@zat _ _ _ _ _ _ _ _ z2h (pv 4) (zd9 (u1' hr.units) (@zaj _ _ _ _ _ _ _ zak (@zaj _ _ _ _ _ _ _ zak (pv 1) (pv 2) (λ_ _=>rfl)) zad (λ_ _=>rfl)) (pv 3) (λ_ _=>rfl)) (za1 _)))))) (@zah _ _ _ (@zau _ _ _ _ zh9)) zas))))))) (@zah _ _ _ (@zau _ _ _ _ zh9))); ?_);obtain⟨RF,H0,Hb,w,fs,fns,sk,ls,rfl,S,q⟩:=h;refine⟨_,(@zab _ _ _ _ _ (@zbq _ _ _ _ _ _ _ _ (@zat _ _ _ _ _ _ _ _ (z5d hr.units) (zgk (pv 0) T.zae.cl T.zhs.m G_Walker_frames (hr.mono (by decide)) T.zhs.b .nil zcu) (zf2 (N':=["_law_frame_here"]) (js:=[none]) (by kernel_rfl) rfl (zgx (pv 1)) zdo (λ_ _ _ _=>(za0 (i:=0) (show(["_law_frame_here"]:List Str).Nodup by decide +kernel) rfl (Or.inl rfl) (.inr rfl))) (λ_ _ _ _=>zfc) (λ_ _ _ _=>(@zck _ _ _ _ _ (@zaa _ _ _ _ _ (@zaj _ _ _ _ _ _ _ (show IxR _ (z3z K) from zap) (@zaj _ _ _ _ _ _ _ (show IxR _ (z3i K) from zak) (pv 0) zad (λ_ _=>rfl)) zad (λ_ _=>rfl)) (@zaa _ _ _ _ _ (@zaj _ _ _ _ _ _ _ (show IxR _ (z3i K) from zak) (pv 0) zad (λ_ _=>rfl)) zaf (by rfl)) (by rfl))))) (za1 _)) (@zah _ _ _ (@zau _ _ _ _ zh9)) zas) hW1),?_⟩;have h:=S.wa;have few:=S.few;have len:=S.len;have at_i:∀i,i<ls.length->∃f x,fs[i]?=some f/\ls[i]?=some x/\x∈ls:=λi hi=>⟨_,_,List.getElem?_eq_getElem (by omega),List.getElem?_eq_getElem hi,qcn hi⟩
   have skH:=h.b _ _ S.st.e;refine⟨_,rfl,w.a,_,_,rfl,h.o,rfl,Hb,w,fs,.non,[],⟨[],0⟩,rfl,h,by omega,λl H1 tps hl s1 e1 hlen hat=>?_⟩;refine⟨_,rfl,sk,rfl,⟨_,SqL.of (s1 _ _ skH)⟩,λu hu=>zkk (K:=K) (λi Hq v=>∃tp x,ls[i]?=some x/\v=V.ref tp/\Hq tp=some (.tup [.str x.F.name,.int x.at_])) (λi v Ha Hc e z=>let ⟨tp,x,z1,z2,z3⟩:=z; ⟨tp,x,z1,z2,e _ _ z3⟩) (xs:=ls.map λx:Lf=>V.ref x.l) (by rw[List.length_map]; omega) (SqL.of (s1 _ _ skH)) hu ?_ ?_⟩
   . intro i v H2 R hv s2 ⟨acc,hacc⟩ hR;obtain⟨x,hx,hxm,rfl⟩:=zj7 hv;have hi:=(List.getElem?_eq_some_iff.mp hx).1;obtain⟨_,_,_,_,rgs,_,fg,_⟩:=S.tw i _ x (List.getElem?_eq_getElem (by omega)) hx;have s12:=s1.trans s2;have hT:=s12.tup (h.b.tup (S.s0.tup fg.at_.fn));have hL:=s12 _ _ (h.b _ _ (S.st.fr x hxm).1);refine⟨_,rfl,x.l,_,_,_,rfl,rfl,SqL.of hL,at0,x.F.fa,_,_,_,rfl,rfl,hT,at0,_,rfl,x.l,_,_,_,rfl,rfl,SqL.of hL,rfl,le2,λtp htp=>hR _ _ (zan.new htp) ⟨tp,x,hx,rfl,?_⟩⟩;rw[zct (λz=>by rw[z,hacc] at htp; cases htp)];exact zac
   rintro H2 vs s2 e2 lv tv;rw[List.length_map] at lv;have s12:=s1.trans s2;have tw:Bg.Twin K H2 2 (.ref l) (.ref u):=Bg.Twin.lst (SqL.of (s2 _ _ e1)) (SqL.of e2) (Bg.TwinA.at (by rw[List.length_map]; omega) (λi v1 v2 h1 h2=>by
     obtain⟨tp1,g1,_,rfl⟩:=zj7 h1;have hi:i<ls.length:=by have:=(List.getElem?_eq_some_iff.mp g1).1; omega
     obtain⟨f,x,hf,hx,_⟩:=at_i i hi;obtain⟨_,_,a3⟩:=hat i f tp1 hf g1;obtain⟨tp2,x2,z1,rfl,z3⟩:=tv i v2 h2;rw[hx] at z1;cases z1;obtain⟨n1,n2,_,_,rgs,_,fg,_⟩:=S.tw i f x hf hx;have z4:H2 tp2=some (.tup [.str f.fn,.int f.row]):=by rw[n1,n2]; exact zhq _ _ z3
     exact Bg.Twin.tup (SqT.of (s2 _ _ a3)) (SqT.of z4) (Bg.TwinA.of (.cons (.str (by rw[n1]; exact fg.sn)) (.cons .int .nil)))))
   obtain⟨dd,ld,d1,d2⟩:=tw;refine zw9 (by decide) ld d1 d2 ⟨_,rfl,zha qar ?_⟩;refine⟨_,rfl,sk,_,rfl,.inl (SqL.of (s12 _ _ skH)),_,rfl,by rw[List.length_map]; omega,by rw[List.length_map]; omega,(let Jv1:Nat->St->Hp->Prop:=λi σ H'=>∃v2 v3 v4:Option V,σ=[some (.ref w.a),some (.ref sk),v2,v3,v4]/\zan H H'; zko (lo:=0) (n:=((ls.map λx:Lf=>V.ref x.l).length:Int).toNat) Jv1 ⟨_,_,_,rfl,s12⟩ ?_ ?_)⟩
   . rintro i σ H3 hi ⟨v2,v3,v4,rfl,s3⟩;rw[List.length_map,qbe] at hi;obtain⟨f,x,hf,hx,hxm⟩:=at_i i hi;obtain⟨n1,n2,n3,al,_⟩:=S.tw i f x hf hx;have xd:=(S.st.fr x hxm).2;have xl:=(S.st.fr x hxm).1;have h3:=h.grow s3;have g3:=zb5 (H2:=H3) h.b;generalize gr Hb H H3=B3 at h3 g3;have db3:=g3 _ _ xd;have hd3:=h3.b _ _ db3;have hsk:=h3.b _ _ (g3 _ _ S.st.e);have hxl:=h3.b _ _ (g3 _ _ xl);have hat2:atI (ls.map λx:Lf=>V.ref x.l) (0+(i:Int))=some (.ref x.l):=zll (by omega) (by rw[show(0+(i:Int)).toNat=i by omega]; exact hx);refine⟨x.d,x.kvs,hd3,_,rfl,_,rfl,sk,_,_,_,rfl,rfl,SqL.of hsk,hat2,x.l,_,_,_,rfl,rfl,SqL.of hxl,rfl,x.d,x.kvs,rfl,hd3,λo=>?_⟩;have hfz:=h3.put (o':=.frz o (.dK x.kvs)) db3;have no:H0 x.d=none:=S.no x.d (List.mem_cons_of_mem _ (List.mem_append_right _ (List.mem_map.mpr ⟨x,hxm,rfl⟩)));have hFl:F2.FlowsAt K t.zaz (upd B3 x.d (.frz o (.dK x.kvs))) w.fl fns:=S.fl.mono ((S.s0.trans g3).upd no);have nsk:sk≠x.d:=λz=>by rw[z,hd3] at hsk; cases hsk
     have nxl:x.l≠x.d:=λz=>by rw[z,hd3] at hxl; cases hxl
     have hsk4:upd H3 x.d (.frz o (.dK x.kvs)) sk=_:=(zag nsk).trans hsk;have hxl4:upd H3 x.d (.frz o (.dK x.kvs)) x.l=_:=(zag nxl).trans hxl;have fz4:=zac (H:=H3) (a:=x.d) (o:=.frz o (.dK x.kvs));have old:∀b u,H b=some u->b≠x.d->upd H3 x.d (.frz o (.dK x.kvs)) b=some u:=λb u hb hn=>by rw[zag hn]; exact s3 _ _ hb
     generalize upd H3 x.d (.frz o (.dK x.kvs))=H4 at hfz hsk4 hxl4 fz4 old ⊢;generalize upd B3 x.d (.frz o (.dK x.kvs))=B4 at hfz hFl;refine z4f (λj σ H'=>∃v3 v4:Option V,σ=[some (.ref w.a),some (.ref sk),some (.int (0+(i:Int))),v3,v4]/\zan H4 H') ⟨_,_,rfl,zan.refl _⟩ ?_ ?_ ?_
     . rintro j σ H' hj ⟨v3,v4,rfl,s5⟩;exact s5 _ _ fz4
     . rintro j kv σ H' hkv ⟨v3,v4,rfl,s5⟩;obtain⟨n,hn1,hn2⟩:=al.k kv (List.mem_of_getElem? hkv);obtain⟨z,_,hv1,hv2⟩:=al.v n hn2;have h5:=hfz.grow s5;rw[hn1];refine⟨_,rfl,w.a,_,_,rfl,h5.o,rfl,_,rfl,_,rfl,_,w,fs,.non,[],⟨[],0⟩,i,f,n,.int z,fns,x.F,(show [V.ref w.a,V.int (0+(i:Int)),V.str n]=[.ref w.a,.int i,.str n] by rw[qdx]),h5,hf,S.hall,hFl.mono (zb5 hfz.b),n3,n1.symm,hn2,hv1,λH6 s6=>?_⟩;have s56:=s5.trans s6;refine⟨_,rfl,_,"int",_,true,rfl,.int _,rfl,_,rfl,jN ⟨_,rfl,_,"bool",_,false,rfl,.int _,rfl,_,rfl,jN ⟨_,rfl,_,rfl,_,rfl,sk,_,_,_,rfl,rfl,SqL.of (s56 _ _ hsk4),hat2,x.l,_,_,_,rfl,rfl,SqL.of (s56 _ _ hxl4),rfl,_,rfl,x.d,_,rfl,zzw (s56 _ _ fz4) hv2,rfl,_,rfl,zha (by rw[decide_eq_true rfl]; decide) ⟨_,_,rfl,s56⟩⟩⟩⟩
     . rintro σ H' ⟨v3,v4,rfl,s5⟩;refine⟨o,s5 _ _ fz4,_,_,_,rfl,λb u hb=>?_⟩;by_cases z:b=x.d
       . subst z;rw[h.b _ _ xd] at hb;rw[zac];exact hb
       . rw[zag z];exact s5 _ _ (old b u hb z)
   . rintro σ H' ⟨v2,v3,v4,rfl,s3⟩;exact q H' s3
theorem zf3:FnScope ["_law_walker","_law_stack","_law_xs","_law_names_here","_law_level","_law_name","_law_number"] ["_law_walker","_law_stack","_law_xs","_law_names_here"] (zai zeq):=⟨rfl,rfl,rfl,by decide +kernel,rfl,by decide +kernel,by decide +kernel⟩
theorem zrs (T:Txt K mg t):FnOk P w K mg base CX0 7 t.zlh t.zon ["_law_walker","_law_stack","_law_xs","_law_names_here"] (zrt K t):=by
 have G_l_value_by:=zfq (P:=P) (w:=w) (base:=base) T;have G_l_stands:=zr6 (P:=P) (w:=w) (base:=base) T;have G_l_refused:=zls (P:=P) (w:=w) (base:=base) T;have G_TextWalker_fill:=zee (P:=P) (w:=w) (base:=base) T;refine T.zt1.F.ok zf3 (λvs H Q E h=>?_) (λcdv A outer s H vs Q E hr h=>?_)
 . obtain⟨RF,H0,Hb,w,fs,fns,sk,xl,nl,ls,xs,ns,rfl,S,hne,hxl,h4,hx0,hnl,h5,h100,q⟩:=h;rfl
 . skip
   refine(let XX:Cx:=(zkf CX0 P w K mg base ["_law_walker","_law_stack","_law_xs","_law_names_here","_law_level","_law_name","_law_number"] "_law_filled" (zai zeq) t.zlh cdv A outer s H E).nox; ?_);refine(let W5:TS:=_; have hW5:PSs XX ((zav zeq).drop 5) W5:=(@zab _ _ _ _ _ (@zbq _ _ _ _ _ _ _ _ (@zat _ _ _ _ _ _ _ _ zro (za9 (pv 0) T.zae.cl T.zcd.m G_TextWalker_fill (hr.mono (by decide)) T.zcd.b .nil zr0 (@zaa _ _ _ _ _ (pv 4) (@zaa _ _ _ _ _ (pv 5) (@zaa _ _ _ _ _ (pv 6) zaf (by rfl)) (by rfl)) (by rfl))) zh9 (za1 _)) (@zah _ _ _ (@zau _ _ _ _ zh9)) zas) (@zab _ _ _ _ _ (zc1 (u1' hr.units) (@zaj _ _ _ _ _ _ _ zak (@zaj _ _ _ _ _ _ _ zak (pv 1) (pv 4) (λ_ _=>rfl)) zad (λ_ _=>rfl)) (pv 5) (pv 6) (by rfl)) (@zah _ _ _ (@zau _ _ _ _ (zbu T.zpp G_l_stands (hr.mono (by decide)) (@zaa _ _ _ _ _ (pv 0) (@zaa _ _ _ _ _ (pv 1) zaf (by rfl)) (by rfl))))))); ?_);refine(let W4:TS:=_; have hW4:PSs XX ((zav zeq).drop 4) W4:=(@zab _ _ _ _ _ (@zbq _ _ _ _ _ _ _ _ (@PW.pt _ _ _ (zrn (@zat _ _ _ _ _ _ _ _ zxd (pv 4) zad (za1 _)) (zrn (@zat _ _ _ _ _ _ _ _ z41 (pv 4) (zbs zbo (by rfl) T.b_len zhv (@zaa _ _ _ _ _ (pv 1) zaf (by rfl))) (za1 _)) (ztd (zti (zwo (u1' hr.units) (pv 5) (@zaj _ _ _ _ _ _ _ zak (@zaj _ _ _ _ _ _ _ zak (pv 1) (pv 4) (λ_ _=>rfl)) zad (λ_ _=>rfl)))))))) (@zah _ _ _ (@zau _ _ _ _ (z3m (zbu T.znt G_l_refused (hr.mono (by decide)) (@zaa _ _ _ _ _ (pv 0) (@zaa _ _ _ _ _ (pv 4) (@zaa _ _ _ _ _ (pv 5) (@zaa _ _ _ _ _ (pv 6) zaf (by rfl)) (by rfl)) (by rfl)) (by rfl))) (z47 (zbu T.zpp G_l_stands (hr.mono (by decide)) (@zaa _ _ _ _ _ (pv 0) (@zaa _ _ _ _ _ (pv 1) zaf (by rfl)) (by rfl))))))) zas) hW5); ?_);obtain⟨RF,H0,Hb,w,fs,fns,sk,xl,nl,ls,xs,ns,rfl,S,hne,hxl,h4,hx0,hnl,h5,h100,q⟩:=h;refine⟨_,(@zab _ _ _ _ _ (@zax _ _ 4 _ _ _ _ zf3.nd rfl (Or.inl rfl) (@zaw _ _ _ _ _ _ _ _ zbt (@zaj _ _ _ _ _ _ _ zak (pv 2) zad (λ_ _=>rfl)) (zbs zbo (by rfl) T.b_len zhv (@zaa _ _ _ _ _ (pv 1) zaf (by rfl)))) (by rfl) (by first|exact .inl rfl|exact .inr rfl|assumption)) (@zab _ _ _ _ _ (@zax _ _ 5 _ _ _ _ zf3.nd rfl (Or.inl rfl) (@zaj _ _ _ _ _ _ _ zak (pv 3) (@zaw _ _ _ _ _ _ _ _ zbt (@zaj _ _ _ _ _ _ _ zak (pv 2) zad (λ_ _=>rfl)) zad) (λ_ _=>rfl)) (by rfl) (by first|exact .inl rfl|exact .inr rfl|assumption)) (@zab _ _ _ _ _ (@zax _ _ 6 _ _ _ _ zf3.nd rfl (Or.inl rfl) (zbu T.zg9 G_l_value_by (hr.mono (by decide)) (@zaa _ _ _ _ _ (@zaj _ _ _ _ _ _ _ zak (pv 2) zad (λ_ _=>rfl)) zaf (by rfl))) (by rfl) (by first|exact .inl rfl|exact .inr rfl|assumption)) (@zsc _ _ _ _ _ (@zbq _ _ _ _ _ _ _ _ (@zat _ _ _ _ _ _ _ _ zc8 (@zaw _ _ _ _ _ _ _ _ zbt (@zaj _ _ _ _ _ _ _ zak (pv 2) zad (λ_ _=>rfl)) zad) zad (za1 _)) (@zah _ _ _ (@zax _ _ 4 _ _ _ _ zf3.nd rfl (Or.inl rfl) (@zaj _ _ _ _ _ _ _ zak (@zdj _ _ _ _ (@zaa _ _ _ _ _ (zjo zfw zad) (@zaa _ _ _ _ _ (zbs zbo (by rfl) T.b_len zhv (@zaa _ _ _ _ _ (pv 1) zaf (by rfl))) (@zaa _ _ _ _ _ (zjo zfw (zbs zbo (by rfl) T.b_len zhv (@zaa _ _ _ _ _ (pv 1) zaf (by rfl)))) zaf (by rfl)) (by rfl)) (by rfl))) (@zaw _ _ _ _ _ _ _ _ zbt (@zaj _ _ _ _ _ _ _ zak (pv 2) zad (λ_ _=>rfl)) zad) (λ_ _=>rfl)) (by rfl) (by first|exact .inl rfl|exact .inr rfl|assumption))) zas) hW4)))),?_⟩
   match xs,h4 with
   | [a0,a1,a2,a3],_ =>
   have skH:=S.wa.b _ _ S.st.e;have hpos:0<ls.length:=List.length_pos_iff.mpr hne;have hlen:=S.len;have hfew:=S.few;have hl0:(0:Int)<((ls.map λx:Lf=>V.ref x.l).length:Nat):=by rw[List.length_map]; omega
   have b5:=zc9 a1 5 (by decide);have hi5:(a1%5).toNat<ns.length:=by omega
   have hnm:atI (ns.map V.str) (a1%5)=some (.str ns[(a1%5).toNat]):=zll b5.1 (List.getElem?_eq_getElem hi5);generalize ns[(a1%5).toNat]=n at hnm;refine⟨_,rfl,xl,_,_,_,rfl,rfl,hxl,at0,_,rfl,sk,_,rfl,.inl (SqL.of skH),_,_,rfl,rfl,hl0,?_⟩;refine⟨_,rfl,_,rfl,xl,_,_,_,rfl,rfl,hxl,rfl,_,_,rfl,rfl,(show(0:Int)<5 by decide),nl,_,_,_,rfl,rfl,hnl,hnm,?_⟩;refine⟨_,rfl,xl,_,_,_,rfl,rfl,hxl,rfl,a2,rfl,λv hv=>?_⟩;refine⟨λσ' H'=>∃z:Int,σ'=[some (.ref w.a),some (.ref sk),some (.ref xl),some (.ref nl),some (.int z),some (.str n),some (.int v)]/\zan H H',?_,?_⟩
   . refine⟨_,rfl,xl,_,_,_,rfl,rfl,hxl,rfl,_,_,rfl,rfl,(show(0:Int)<3 by decide),rfl,_,rfl,z10 (λ_=>?_) (λ_=>⟨_,rfl,zan.refl _⟩)⟩;refine⟨_,rfl,_,rfl,sk,_,rfl,.inl (SqL.of skH),_,rfl,sk,_,rfl,.inl (SqL.of skH),_,rfl,le3,λl hl=>?_⟩;have s1:=zan.new (o:=.lst [V.int (-1),V.int ((ls.map λx:Lf=>V.ref x.l).length:Nat),V.int (-((ls.map λx:Lf=>V.ref x.l).length:Nat))]) hl;have b3:=zc9 a0 3 (by decide);obtain⟨u,hu,hm⟩:=zmb (xs:=[V.int (-1),V.int ((ls.map λx:Lf=>V.ref x.l).length:Nat),V.int (-((ls.map λx:Lf=>V.ref x.l).length:Nat))]) b3.1 b3.2;obtain⟨z,rfl⟩:∃z,u=V.int z:=by simp only[List.mem_cons,qbk,or_false] at hm;rcases hm with h|h|h <;> exact⟨_,h⟩
     exact⟨_,rfl,xl,_,_,_,rfl,rfl,s1.seq hxl,at0,_,_,rfl,rfl,(show(0:Int)<3 by decide),l,_,_,_,rfl,rfl,SqL.of zac,hu,_,rfl,s1⟩
   rintro σ' H' ⟨z,rfl,s1⟩;have S1:=S.grow s1;have g1:=zb5 (H2:=H') S.wa.b;generalize gr Hb H H'=Hb1 at S1 g1;have sk1:=S1.wa.b _ _ S1.st.e;have no_:¬ zqp fs fns z n->tRet (z28 (zvw (zlq K t) [] E0 (zsd (zz6 0) (zsd (zz6 4) (zsd (zz6 5) (zsd (zz6 6) z5i))))) (zvw (znd K t) [] E0 (zsd (zz6 0) (zsd (zz6 1) z5i)))) { nx:=λ_ H'=>Q .non H',rt:=Q } [some (.ref w.a),some (.ref sk),some (.ref xl),some (.ref nl),some (.int z),some (.str n),some (.int v)] H':=λhT=>by refine⟨_,rfl,_,rfl,_,rfl,_,rfl,Hb1,w,fs,.non,[],⟨[],0⟩,z,n,.int v,fns,rfl,S1.wa,S1.fl.mono S1.s0,S1.hall,S1.few2,hT,λH2 s2=>⟨_,rfl,z0a ?_⟩⟩;have S2:=S1.grow s2;have g2:=zb5 (H2:=H2) S1.wa.b;generalize gr Hb1 H' H2=Hb2 at S2 g2;refine⟨_,rfl,_,rfl,RF,H0,Hb2,w,fs,fns,sk,ls,rfl,S2,λH3 s3=>?_⟩;exact q _ H3 _ _ (((ziy.trans g1).trans g2).trans (zb5 S2.wa.b)) (zum ls) (S2.grow s3)
   by_cases hz0:z<0
   . exact⟨_,rfl,_,_,rfl,rfl,_,rfl,zh8 (decide_eq_true hz0) (z0a (no_ (λ⟨i,_,_,e,_⟩=>by omega)))⟩
   refine⟨_,rfl,_,_,rfl,rfl,_,rfl,zha (by simpa using hz0) ?_⟩;by_cases hz1:((ls.map λx:Lf=>V.ref x.l).length:Int)<=z
   . exact⟨_,rfl,_,rfl,sk,_,rfl,.inl (SqL.of sk1),_,_,rfl,rfl,_,rfl,zh8 (decide_eq_true hz1) (z0a (no_ (λ⟨i,f,_,e,hf,_⟩=>by have:=(List.getElem?_eq_some_iff.mp hf).1;rw[List.length_map] at hz1;omega)))⟩
   refine⟨_,rfl,_,rfl,sk,_,rfl,.inl (SqL.of sk1),_,_,rfl,rfl,_,rfl,zha (by simpa using hz1) ?_⟩;rw[List.length_map] at hz1;obtain⟨i,rfl⟩:∃i:Nat,z=(i:Int):=⟨z.toNat,by omega⟩
   have hi:i<ls.length:=by omega
   obtain⟨f,x,hf,hx⟩:=S1.at hi;have hxm:=List.mem_of_getElem? hx;obtain⟨n1,n2,n3,al,_⟩:=S1.tw i f x hf hx;have hat2:atI (ls.map λx:Lf=>V.ref x.l) (i:Int)=some (.ref x.l):=zc2 (by rw[List.getElem?_map,hx]; rfl);have fx:=S1.st.fr x hxm;refine⟨_,rfl,_,rfl,_,rfl,sk,_,_,_,rfl,rfl,SqL.of sk1,hat2,x.l,_,_,_,rfl,rfl,SqL.of (S1.wa.b _ _ fx.1),rfl,x.d,_,rfl,zm8.k (k:=(Sum.inr n:Key)) (S1.wa.b _ _ fx.2),_,rfl,?_⟩;by_cases hin:n∈F2.nms x.F
   . have hs:=al.has.mpr hin;refine zha (by rw[hs]; decide) ?_;refine⟨_,rfl,w.a,_,_,rfl,S1.wa.o,rfl,_,rfl,_,rfl,_,rfl,Hb1,w,fs,.non,[],⟨[],0⟩,i,n,.int v,fns,rfl,S1.wa,S1.fl.mono S1.s0,S1.hall,S1.few2,λ_ j g Hb2 H2 ej hg s2 h2=>?_,λhT=>absurd ((S1.there hx).mpr hin) hT⟩;have ej:j=i:=by omega
     subst ej;rw[hf] at hg;cases hg;have S3:=S1.put hf hx hin hv s2 h2;have fx2:=(S1.st.mono s2).fr x hxm;have skb:=(S1.st.mono s2).e;have la:=al.l.2;refine⟨_,_,rfl,rfl,_,rfl,jN ⟨_,rfl,_,rfl,_,rfl,sk,_,_,_,rfl,rfl,SqL.of (h2.b _ _ skb),hat2,x.l,_,_,_,rfl,rfl,SqL.of (h2.b _ _ fx2.1),rfl,_,rfl,x.d,_,rfl,zmc.k (k:=(Sum.inr n:Key)) (h2.b _ _ fx2.2) (zba (by omega)),?_⟩⟩;refine⟨_,rfl,_,rfl,RF,H0,_,w,_,fns,sk,_,rfl,S3,λH4 s4=>?_⟩;exact q _ H4 _ _ ((zhp ((ziy.trans g1).trans s2) (zmg hxm).2).trans (zb5 S3.wa.b)) (zwu hx) (S3.grow s4)
   . have hs:(zcx x.kvs (Sum.inr n:Key)).isSome=false:=by
       cases e:(zcx x.kvs (Sum.inr n:Key)).isSome with
       | false=>rfl
       | true=>exact absurd (al.has.mp e) hin
     exact zh8 (by rw[hs]; decide) (no_ (λhT=>hin ((S1.there hx).mp hT)))
theorem zea:FnScope ["_law_names_here","_law_cell","_law_xs","_law_deep_here","_law_call","_law_rows","_law_walker","_law_k","_law_due","_law_level"] ["_law_names_here","_law_cell"] (zai zfr):=⟨rfl,rfl,rfl,by decide +kernel,rfl,by decide +kernel,by decide +kernel⟩
theorem zxk (T:Txt K mg t):FnOk P w K mg base CX0 9 t.zpm t.zt0 ["_law_names_here","_law_cell"] (zxm K t):=by
 have G_l_stream:=zhg (P:=P) (w:=w) (base:=base) T;have G_TextWalker_init:=zgh (P:=P) (w:=w) (base:=base) T;have G_l_value_by:=zfq (P:=P) (w:=w) (base:=base) T;have G_Walker_step:=zjc (P:=P) (w:=w) (base:=base) T;have G_TextWalker_fill:=zee (P:=P) (w:=w) (base:=base) T;have G_Walker_told:=zi9 (P:=P) (w:=w) (base:=base) T;refine T.z0u.F.ok zea (λvs H Q E h=>?_) (λcdv A outer s H vs Q E hr h=>?_)
 . obtain⟨nl,ns,c,rfl,hnl,h7,nok,q⟩:=h;rfl
 . skip
   refine(let XX:Cx:=(zkf CX0 P w K mg base ["_law_names_here","_law_cell","_law_xs","_law_deep_here","_law_call","_law_rows","_law_walker","_law_k","_law_due","_law_level"] "_law_deep" (zai zfr) t.zpm cdv A outer s H E).nox; ?_);refine(let W9:TS:=_; have hW9:PSs XX ((zav zfr).drop 9) W9:=(@zab _ _ _ _ _ (@zbq _ _ _ _ _ _ _ _ (@zat _ _ _ _ _ _ _ _ zro (za9 (pv 6) T.zae.cl T.zcd.m G_TextWalker_fill (hr.mono (by decide)) T.zcd.b .nil zr0 (@zaa _ _ _ _ _ (pv 9) (@zaa _ _ _ _ _ (@zaj _ _ _ _ _ _ _ zak (pv 0) zad (λ_ _=>rfl)) (@zaa _ _ _ _ _ (@zaj _ _ _ _ _ _ _ zak (pv 8) (pv 9) (λ_ _=>rfl)) zaf (by rfl)) (by rfl)) (by rfl))) zh9 (za1 _)) (@zah _ _ _ (@zau _ _ _ _ zh9)) zas) (@zah _ _ _ (@zau _ _ _ _ (zmy (z4d hr.units) (zf2 (N':=["_law_k","_law_walker","_law_names_here"]) (js:=[none,some 6,some 0]) (by kernel_rfl) rfl (zey rfl T.b_range (@zaa _ _ _ _ _ (@zaw _ _ _ _ _ _ _ _ zdx (pv 3) zad) zaf (by rfl))) zdo (λ_ _ _ _=>(za0 (i:=0) (show(["_law_k","_law_walker","_law_names_here"]:List Str).Nodup by decide +kernel) rfl (Or.inl rfl) (.inr rfl))) (λ_ _ _ _=>zfc) (λ_ _ _ _=>(za9 (pv 1) T.zae.cl T.zgb.m G_Walker_told (hr.mono (by decide)) T.zgb.b .nil zcu (@zaa _ _ _ _ _ (pv 0) (@zaa _ _ _ _ _ (@zaj _ _ _ _ _ _ _ (show IxR _ (z3i K) from zak) (pv 2) zad (λ_ _=>rfl)) zaf (by rfl)) (by rfl))))) (pv 8) (za1 _))))); ?_);refine(let W6:TS:=_; have hW6:PSs XX ((zav zfr).drop 6) W6:=(@zab _ _ _ _ _ (@zax _ _ 8 _ _ _ _ zea.nd rfl (Or.inl rfl) (@zaw _ _ _ _ _ _ _ _ zp5 (zf2 (N':=["_law_level","_law_xs"]) (js:=[none,some 2]) (by kernel_rfl) rfl (zey rfl T.b_range (@zaa _ _ _ _ _ (pv 3) zaf (by rfl))) zdo (λ_ _ _ _=>(za0 (i:=0) (show(["_law_level","_law_xs"]:List Str).Nodup by decide +kernel) rfl (Or.inl rfl) (.inr rfl))) (λ_ _ _ _=>zfc) (λ_ _ _ _=>(@zaw _ _ _ _ _ _ _ _ zdx (@zaw _ _ _ _ _ _ _ _ zdx (@zaj _ _ _ _ _ _ _ (show IxR _ (z3i K) from zak) (pv 1) zad (λ_ _=>rfl)) (pv 0)) zad))) (@zdj _ _ _ _ (@zaa _ _ _ _ _ (@zaw _ _ _ _ _ _ _ _ zdx (@zaj _ _ _ _ _ _ _ zak (pv 2) zad (λ_ _=>rfl)) (pv 3)) zaf (by rfl)))) (by rfl) (by first|exact .inl rfl|exact .inr rfl|assumption)) (@zab _ _ _ _ _ (@zax _ _ 9 _ _ _ _ zea.nd rfl (Or.inl rfl) (@zaw _ _ _ _ _ _ _ _ zbt (@zaw _ _ _ _ _ _ _ _ zf5 (@zaj _ _ _ _ _ _ _ zak (pv 2) zad (λ_ _=>rfl)) zad) (@zaw _ _ _ _ _ _ _ _ zdx (pv 3) zad)) (by rfl) (by first|exact .inl rfl|exact .inr rfl|assumption)) (@zab _ _ _ _ _ (zlk (zbu T.zg9 G_l_value_by (hr.mono (by decide)) (@zaa _ _ _ _ _ (@zaj _ _ _ _ _ _ _ zak (pv 2) zad (λ_ _=>rfl)) zaf (by rfl))) (zmu (pv 8) (pv 9) zhm)) hW9))); ?_);refine(let W5:TS:=_; have hW5:PSs XX ((zav zfr).drop 5) W5:=(@zab _ _ _ _ _ (zeb PassesOwn.never rfl (zey rfl T.b_range (@zaa _ _ _ _ _ (@zaw _ _ _ _ _ _ _ _ zmm zad (pv 3)) zaf (by rfl))) (za0 (i:=7) zea.nd rfl (Or.inl rfl)) (@zah _ _ _ (@zbl _ _ _ _ (zgk (pv 6) T.zae.cl T.zga.m G_Walker_step (hr.mono (by decide)) T.zga.b .nil zcu) (by rfl)))) hW6); ?_);refine(let W4:TS:=_; have hW4:PSs XX ((zav zfr).drop 4) W4:=(@zab _ _ _ _ _ (@zax _ _ 6 _ _ _ _ zea.nd rfl (Or.inr rfl) (zzn T.zae T.zf6 G_TextWalker_init (hr.mono (by decide)) (@zaa _ _ _ _ _ (@zdj _ _ _ _ (@zaa _ _ _ _ _ (@zck _ _ _ _ _ (@zaa _ _ _ _ _ (@zaj _ _ _ _ _ _ _ zak (pv 0) zad (λ_ _=>rfl)) (@zaa _ _ _ _ _ zh9 (@zaa _ _ _ _ _ (@zck _ _ _ _ _ (@zaa _ _ _ _ _ (@zaj _ _ _ _ _ _ _ zak (pv 0) zad (λ_ _=>rfl)) zaf (by rfl))) (@zaa _ _ _ _ _ (pv 5) zaf (by rfl)) (by rfl)) (by rfl)) (by rfl))) zaf (by rfl))) (@zaa _ _ _ _ _ (@zdj _ _ _ _ (@zaa _ _ _ _ _ (@zaj _ _ _ _ _ _ _ zak (pv 2) zad (λ_ _=>rfl)) zaf (by rfl))) zaf (by rfl)) (by rfl))) (by rfl) (by first|exact .inl rfl|exact .inr rfl|assumption)) hW5); ?_);obtain⟨nl,ns,c,rfl,hnl,h7,nok,q⟩:=h;refine⟨_,(@zab _ _ _ _ _ (@zax _ _ 2 _ _ _ _ zea.nd rfl (Or.inr rfl) (zbu T.zi2 G_l_stream (hr.mono (by decide)) (@zaa _ _ _ _ _ (pv 1) (@zaa _ _ _ _ _ zad zaf (by rfl)) (by rfl))) (by rfl) (by first|exact .inl rfl|exact .inr rfl|assumption)) (@zab _ _ _ _ _ (@zax _ _ 3 _ _ _ _ zea.nd rfl (Or.inl rfl) (@zaw _ _ _ _ _ _ _ _ zdx zad (@zaw _ _ _ _ _ _ _ _ zbt (@zaj _ _ _ _ _ _ _ zak (pv 2) zad (λ_ _=>rfl)) zad)) (by rfl) (by first|exact .inl rfl|exact .inr rfl|assumption)) (@zab _ _ _ _ _ (@zax _ _ 4 _ _ _ _ zea.nd rfl (Or.inl rfl) (@zck _ _ _ _ _ (@zaa _ _ _ _ _ za5 (@zaa _ _ _ _ _ (@zaj _ _ _ _ _ _ _ zak (pv 0) zad (λ_ _=>rfl)) (@zaa _ _ _ _ _ (@zaj _ _ _ _ _ _ _ zak (pv 0) zad (λ_ _=>rfl)) (@zaa _ _ _ _ _ (@zck _ _ _ _ _ (@zaa _ _ _ _ _ (@zaj _ _ _ _ _ _ _ zak (pv 0) zad (λ_ _=>rfl)) zaf (by rfl))) zaf (by rfl)) (by rfl)) (by rfl)) (by rfl))) (by rfl) (by first|exact .inl rfl|exact .inr rfl|assumption)) (@zab _ _ _ _ _ (@zax _ _ 5 _ _ _ _ zea.nd rfl (Or.inl rfl) (@zck _ _ _ _ _ (@zaa _ _ _ _ _ (@zck _ _ _ _ _ (@zaa _ _ _ _ _ za5 (@zaa _ _ _ _ _ (@zaj _ _ _ _ _ _ _ zak (pv 0) zad (λ_ _=>rfl)) (@zaa _ _ _ _ _ za5 (@zaa _ _ _ _ _ (@zaj _ _ _ _ _ _ _ zak (pv 0) zad (λ_ _=>rfl)) (@zaa _ _ _ _ _ zad zaf (by rfl)) (by rfl)) (by rfl)) (by rfl)) (by rfl))) (@zaa _ _ _ _ _ (pv 4) (@zaa _ _ _ _ _ (@zck _ _ _ _ _ (@zaa _ _ _ _ _ za5 (@zaa _ _ _ _ _ (@zaj _ _ _ _ _ _ _ zak (pv 0) zad (λ_ _=>rfl)) zaf (by rfl)) (by rfl))) zaf (by rfl)) (by rfl)) (by rfl))) (by rfl) (by first|exact .inl rfl|exact .inr rfl|assumption)) hW4)))),?_⟩;have nN:=zs9 nok;obtain⟨n6,h6⟩:∃n6,ns[6]?=some n6:=⟨_,List.getElem?_eq_getElem (by omega)⟩
   obtain⟨n0,h0⟩:∃n0,ns[0]?=some n0:=⟨_,List.getElem?_eq_getElem (by omega)⟩
   obtain⟨n1,h1⟩:∃n1,ns[1]?=some n1:=⟨_,List.getElem?_eq_getElem (by omega)⟩
   have atn:∀(j:Nat) n,ns[j]?=some n->atI (ns.map V.str) (j:Int)=some (.str n):=λj n h=>zc2 (by rw[List.getElem?_map,h]; rfl);refine⟨_,rfl,c,3,rfl,by decide,λxl G7 xs hxl s7 e7 lx nn=>?_⟩
   match xs,lx,e7,nn with
   | [x0,x1,x2],_,e7,nn =>
   have b7:=s7.seq hnl;have S0:=zan.refl G7;have bx1:=nn x1 (by simp);have b9:=zc9 x0 9 (by decide);refine⟨_,rfl,xl,_,_,_,rfl,rfl,SqL.of e7,at0,_,_,rfl,rfl,(show(0:Int)<9 by decide),_,_,rfl,rfl,?_⟩;refine⟨_,rfl,nl,_,_,_,rfl,rfl,b7,atn 1 _ h1,_,rfl,nl,_,_,_,rfl,rfl,b7,atn 6 _ h6,_,rfl,nl,_,_,_,rfl,rfl,b7,atn 0 _ h0,le1,λap hap=>?_⟩;generalize e:upd G7 ap _=X1;have ⟨w1,k1⟩:=nw e hap;have S1:=S0.trans w1;refine⟨le4,λcl hcl=>?_⟩;generalize e:upd X1 cl _=X2;have ⟨w2,k2⟩:=nw e hcl;have S2:=S1.trans w2;have b2:=S2.seq b7;refine⟨_,rfl,nl,_,_,_,rfl,rfl,b2,atn 0 _ h0,_,rfl,nl,_,_,_,rfl,rfl,b2,atn 0 _ h0,le5,λr0 hr0=>?_⟩;generalize e:upd X2 r0 _=X3;have ⟨w3,k3⟩:=nw e hr0;have S3:=S2.trans w3;have b3:=S3.seq b7;refine⟨_,rfl,_,rfl,nl,_,_,_,rfl,rfl,b3,atn 1 _ h1,le2,λbk hbk=>?_⟩;generalize e:upd X3 bk _=X4;have ⟨w4,k4⟩:=nw e hbk;have S4:=S3.trans w4;refine⟨le3,λtr htr=>?_⟩;generalize e:upd X4 tr _=X5;have ⟨w5,k5⟩:=nw e htr;have S5:=S4.trans w5;have b5:=S5.seq b7;refine⟨_,rfl,nl,_,_,_,rfl,rfl,b5,atn 6 _ h6,_,rfl,nl,_,_,_,rfl,rfl,b5,atn 0 _ h0,le1,λqC hqC=>?_⟩;generalize e:upd X5 qC _=X6;have ⟨w6,k6⟩:=nw e hqC;have S6:=S5.trans w6;refine⟨_,rfl,le4,λfa hfa=>?_⟩;generalize e:upd X6 fa _=X7;have ⟨w7,kf7⟩:=nw e hfa;have S7:=S6.trans w7;refine⟨le1,λpl hpl=>?_⟩;generalize e:upd X7 pl _=X8;have ⟨w8,k8⟩:=nw e hpl;have S8:=S7.trans w8;refine⟨_,rfl,xl,_,_,_,rfl,rfl,SqL.of (S8 _ _ e7),rfl,le1,λal hal=>?_⟩;generalize e:upd X8 al _=X9;have ⟨w9,k9⟩:=nw e hal;have S9:=S8.trans w9;have m0:=nN _ (List.mem_of_getElem? h0);have m1:=nN _ (List.mem_of_getElem? h1);have m6:=nN _ (List.mem_of_getElem? h6);have nT:∀s∈[n0,n1],K12.Nm s:=λs hs=>by
     simp only[List.mem_cons,qbk,or_false] at hs;rcases hs with rfl|rfl
     . exact m0
     . exact m1
   have v1:Val 1:=by unfold Val K21.wide; decide
   have T2:=(((((w3.trans w4).trans w5).trans w6).trans w7).trans w8).trans w9;have fg:=z03 (K:=K) (H:=X9) (ns:=[n0,n1]) nT (nk:=n6) (fo:=.bl false) (fa:=fa) (qC:=qC) (tr:=tr) (bk:=bk) (prs:=[n0]) (ps:=[(r0,RG.op n0 "+" (.str n0) (.int 1)),(cl,RG.call n1 n6 ap [.str n0])]) (a:=.str n1) (SqT.of ((w8.trans w9) _ _ kf7)) (SqT.of ((((w6.trans w7).trans w8).trans w9) _ _ k5)) (λp hp=>by
     simp only[List.mem_cons,qbk,or_false] at hp;rcases hp with rfl|rfl
     . refine⟨⟨SqT.of ((((((w4.trans w5).trans w6).trans w7).trans w8).trans w9) _ _ k3),(λ_ _ _ _ z=>by cases z)⟩,.inr (.inl ⟨_,_,_,_,rfl⟩),⟨λv hv=>?_,(λ_ _ _ _ z=>by cases z; decide +kernel),⟨(λ_ _ _ z=>by cases z),(λ_ _ _ z=>by cases z)⟩,(λ_ _ _ _ z=>by cases z)⟩,λv hv=>?_⟩ <;> rcases (show v=.str n0\/v=.int 1 by simpa [RG.parts,RG.gx,RG.as] using hv) with rfl|rfl
       . exact .inl ⟨n0,rfl,m0⟩
       . exact .inr ⟨1,rfl⟩
       . exact .inr ⟨n0,rfl⟩
       . exact .inl ⟨1,rfl,v1⟩
     . exact⟨⟨SqT.of (T2 _ _ k2),λ_ _ _ _ z=>by cases z; exact SqT.of ((w2.trans T2) _ _ k1)⟩,zsu nT (by simp) m6.2 (λv hv=>by rw[List.mem_singleton.mp hv]; exact .inr ⟨n0,rfl,by simp⟩) (by show 1<=10; decide)⟩) (((((w5.trans w6).trans w7).trans w8).trans w9) _ _ k4) (.inr ⟨n1,rfl,by simp⟩) (SqT.of (((w7.trans w8).trans w9) _ _ k6)) (λs hs=>by rw[List.mem_singleton.mp hs]; exact m0) (by show 1<=6; decide) (by show 2<=70; decide) m6.2
   have hname:(gfn n6 (.bl false) fa qC tr [n0] ([(r0,RG.op n0 "+" (.str n0) (.int 1)),(cl,RG.call n1 n6 ap [.str n0])]++[(bk,RG.back (.str n1))] |>.map (·.1)) ([(r0,RG.op n0 "+" (.str n0) (.int 1)),(cl,RG.call n1 n6 ap [.str n0])].map (·.2)++[RG.back (.str n1)])).name=n6:=rfl;have hps:(gfn n6 (.bl false) fa qC tr [n0] ([(r0,RG.op n0 "+" (.str n0) (.int 1)),(cl,RG.call n1 n6 ap [.str n0])]++[(bk,RG.back (.str n1))] |>.map (·.1)) ([(r0,RG.op n0 "+" (.str n0) (.int 1)),(cl,RG.call n1 n6 ap [.str n0])].map (·.2)++[RG.back (.str n1)])).ps=[n0]:=rfl;have hfa':(gfn n6 (.bl false) fa qC tr [n0] ([(r0,RG.op n0 "+" (.str n0) (.int 1)),(cl,RG.call n1 n6 ap [.str n0])]++[(bk,RG.back (.str n1))] |>.map (·.1)) ([(r0,RG.op n0 "+" (.str n0) (.int 1)),(cl,RG.call n1 n6 ap [.str n0])].map (·.2)++[RG.back (.str n1)])).fa=fa:=rfl;generalize gfn n6 (.bl false) fa qC tr [n0] ([(r0,RG.op n0 "+" (.str n0) (.int 1)),(cl,RG.call n1 n6 ap [.str n0])]++[(bk,RG.back (.str n1))] |>.map (·.1)) ([(r0,RG.op n0 "+" (.str n0) (.int 1)),(cl,RG.call n1 n6 ap [.str n0])].map (·.2)++[RG.back (.str n1)])=F at fg hname hps hfa';have en9:=S9.seq b7;have ex9:=S9 _ _ e7;have sH9:=s7.trans S9;have kp9:=w9 _ _ k8;clear T2 w1 w2 w3 w4 w5 w6 w7 w8 k1 k2 k3 k4 k5 k6 kf7 k8 S1 S2 S3 S4 S5 S6 S7 S8 b2 b3 b5 hap hcl hr0 hbk htr hqC hfa hpl hal S9 w9 S0 s7;refine λx dx hx hdx ndx=>?_;have sX:=zqx (o1:=HO.own x) (o2:=HO.ins t.zal dx []) hx hdx;refine⟨x,dx,pl,al,[F],F,[.int x1],rfl,zac,SqL.of (by show _=some (HO.lst [V.ref F.fa]); rw[hfa']; exact sX _ _ kp9),by simp,by simp,(λf hf=>by rw[List.mem_singleton.mp hf]; exact fg.at_.mono sX),by simp,rfl,SqL.of (sX _ _ k9),by simp,Nat.le_trans fg.nl (by decide),by rw[hps]; show 1<=1000; decide,λB0 w f H0 hw sb wa fl fn row kv=>⟨rfl,?_⟩⟩;subst hw;have fgB:=fg.mono (sX.trans sb);have enB:=(sX.trans sb).seq en9;have exB:=(sX.trans sb) _ _ ex9;have sHB:=(sH9.trans sX).trans sb;clear fg en9 ex9 sH9 kp9 k9 hx hdx sX sb;have in0:n0∈F2.nms F:=(fgB.nm n0).mpr (.inl (by rw[hps]; simp));have vx1:∀z:Int,0<=z->z<3000000000->Val z:=λz h1 h2=>by unfold Val K21.wide; exact⟨h1,by omega⟩
   have beg:∀z:Int,Val z->zcx (zj3 F [.int z]) (Sum.inr n0:Key)=some (.int z)/\(zj3 F [.int z]).length<=2000:=λz hz=>by have al:=zqe (vals:=[.int z]) fgB (λv hv=>by rw[List.mem_singleton.mp hv]; exact⟨z,rfl,hz⟩) (by rw[hps]; rfl);refine⟨?_,al.l.1⟩;unfold zj3;rw[hps];show zcx (zbd _ (Sum.inr n0:Key) (.int z)) _=_;rw[zda,if_pos rfl]
   have z1:(1+x0%9)=(((1+x0%9).toNat:Nat):Int):=by omega
   generalize hD:(1+x0%9).toNat=D at z1;have D1:1<=D/\D<=9:=by omega
   refine⟨_,rfl,_,_,rfl,rfl,.inl ⟨by decide,by decide⟩,_,rfl,by omega,by omega,(let Jv1:Nat->St->Hp->Prop:=λi σ H'=>∃(Hb:Hp) (fs:List Fm) (v7:Option V),σ=[some (.ref nl),some (.int c),some (.ref xl),some (.int (1+x0%9)),some (.ref cl),some (.ref tr),some (.ref w.a),v7,none,none]/\WA t Hb H' w fs .non [] ⟨[],0⟩/\zan B0 Hb/\Dp F n0 x1 i fs; zko (lo:=0) (n:=(2 * (1+x0%9)).toNat) Jv1 ⟨B0,[f],_,rfl,wa,zan.refl _,?_⟩ ?_ ?_)⟩
   . refine⟨rfl,λi g hg=>?_⟩;have hi:i=0:=by have:=(List.getElem?_eq_some_iff.mp hg).1; simp at this; exact this
     subst hi;cases hg;have:=beg x1 (vx1 x1 bx1.1 (by omega));rw[kv];refine⟨fn,row,?_,this.2⟩;rw[this.1];unfold dv;rw[if_neg (by omega)];simp
   . rintro j σ H' hj ⟨Hb,fs,v7,rfl,h,sB,dp⟩;have hl:=dp.len;obtain⟨fs0,g,rfl⟩:∃fs0 g,fs=fs0++[g]:=by
       rcases qcg fs with e|⟨fs0,g,e⟩
       . rw[e] at hl; simp at hl
       . rw[qch] at e; exact⟨fs0,g,e⟩
     have hl0:fs0.length=j / 2:=by rw[List.length_append,qa5] at hl; omega
     obtain⟨g1,g2,g3,g4⟩:=dp.at_ _ g (zd7 _ _);have fgb:=fgB.mono sB;by_cases he:j%2=0
     . rw[if_neg (by omega)] at g2;unfold dv at g3;rw[if_neg (by omega)] at g3;obtain⟨r,hr⟩:∃r,F.rs[0]?=some r:=⟨_,List.getElem?_eq_getElem (by rw[fgb.len]; show 0<3; decide)⟩
       have hq:=fgb.row 0 r (RG.op n0 "+" (.str n0) (.int 1)) hr rfl;have way:=(fgb.way 0 (RG.op n0 "+" (.str n0) (.int 1)) rfl (λ_ z=>by cases z)).1;have gv:(RG.op n0 "+" (.str n0) (.int 1)).gives g.kvs ⟨[],0⟩=some (n0,.int (x1+(j / 2:Nat)+1)):=by have e:=zpw (y:=n0) (s:="+") (cn:=⟨[],0⟩) (a:=.str n0) (b:=.int 1) (i:=x1+(j / 2:Nat)) (j:=1) (show av g.kvs (.str n0)=_ from by show zcx g.kvs _=_; rw[g3,hl0]; simp) rfl (by have:K21.wide=281474976710656:=rfl; rw[this]; omega);rw[zv4 (by omega) (by omega)] at e;exact e
       refine⟨_,rfl,w.a,_,_,rfl,h.o,rfl,Hb,w,fs0,g,[],⟨[],0⟩,[F],F,r,RG.op n0 "+" (.str n0) (.int 1),rfl,h,fl.mono sB,by simp,g1.symm,by rw[g2]; exact hr,hq.it,by decide,by omega,1,by rw[g2]; exact way,n0,_,gv,λHb2 H2 s2 h2=>⟨Hb2,_,_,rfl,h2,sB.trans s2,dp.op he⟩⟩
     . rw[if_pos (by omega)] at g2;unfold dv at g3;rw[if_pos (by omega)] at g3;obtain⟨r,hr⟩:∃r,F.rs[1]?=some r:=⟨_,List.getElem?_eq_getElem (by rw[fgb.len]; show 1<3; decide)⟩
       have hq:=fgb.row 1 r (RG.call n1 n6 ap [.str n0]) hr rfl;have bg:=beg (x1+(j / 2:Nat)+1) (vx1 _ (by omega) (by omega));refine⟨_,rfl,w.a,_,_,rfl,h.o,rfl,Hb,w,fs0,g,[],⟨[],0⟩,[F],F,r,RG.call n1 n6 ap [.str n0],rfl,h,fl.mono sB,by simp,g1.symm,by rw[g2]; exact hr,hq.it,by decide,by omega,F,[.int (x1+(j / 2:Nat)+1)],by simp,hname,hq.ar _ _ _ _ rfl,rfl,λi a v ha hv=>?_,by show 1<=100; decide,by omega,Nat.le_trans fgb.nl (by decide),by rw[hps]; show 1<=1000; decide,λHb2 H2 f2 s2 h2 e1 e2 e3=>⟨Hb2,_,_,rfl,h2,sB.trans s2,dp.call (by omega) e1 e2 (by rw[e3]; exact bg.1) (by rw[e3]; exact bg.2)⟩⟩
       match i,ha,hv with
       | 0,ha,hv =>
         cases ha;cases hv;show zcx g.kvs _=_;rw[g3,hl0]
       | i+1,ha,hv=>simp at ha
   rintro σ H1 ⟨B1,fs,v7,rfl,h,sB,dp⟩;have eD:(2 * (1+x0%9)).toNat=2 * D:=by omega
   rw[eD] at dp;have hl:=dp.len;have exH:=h.b _ _ (sB _ _ exB);refine⟨_,rfl,_,rfl,by omega,by omega,λu hu=>zkg (lo:=0) (n:=(1+x0%9).toNat) (λi _ v=>v=.int (x1+(0+(i:Int))+1)) (λ_ _ _ _ _ h=>h) (by omega) hu ?_ ?_⟩
   . intro i H2 R hi s2 _ hR;exact⟨_,rfl,xl,_,_,_,rfl,rfl,SqL.of (s2 _ _ exH),rfl,_,rfl,_,_,rfl,rfl,_,_,rfl,rfl,hR _ H2 (zan.refl _) rfl⟩
   rintro H2 vs S20 e2 lv tv;rw[hD] at lv;refine⟨_,rfl,xl,_,_,_,rfl,rfl,SqL.of (S20 _ _ exH),rfl,_,rfl,_,_,rfl,rfl,le1,λu2 hu2=>?_⟩;generalize e:upd H2 u2 _=X21;have ⟨w21,k21⟩:=nw e hu2;have S21:=S20.trans w21;refine⟨u,u2,_,_,rfl,rfl,w21 _ _ e2,k21,qbq (zba (by rw[lv]; show D+1<1000000; omega)),λdl hdl=>?_⟩;generalize e:upd X21 dl _=X22;have ⟨w22,k22⟩:=nw e hdl;have S22:=S21.trans w22;have lL:(vs++[V.int (x1+(1+x0%9))]).length=D+1:=by rw[List.length_append,lv]; rfl
   have aL:∀i,i<D+1->(vs++[V.int (x1+(1+x0%9))])[i]?=some (.int (dv x1 (2 * D) i)):=λi hi=>by
     rcases qa4 i vs.length with h|h
     . rw[qa3 h];have e:=List.getElem?_eq_getElem h;rw[e,tv i _ e];unfold dv;rw[if_pos (by omega),qdx]
     . have:i=vs.length:=by omega
       rw[this,zd7];unfold dv;rw[if_neg (by omega),z1,lv];simp
   generalize vs++[V.int (x1+(1+x0%9))]=L at k22 w22 lL aL;have bl:=zc9 (x2 / 5) (1+x0%9+1) (by omega);refine⟨_,rfl,xl,_,_,_,rfl,rfl,SqL.of (S22 _ _ exH),rfl,_,_,rfl,rfl,⟨by decide,by decide⟩,_,rfl,_,_,rfl,rfl,_,_,rfl,rfl,(by omega),?_⟩;obtain⟨l,hlz,hlD⟩:∃l:Nat,(x2 / 5%(1+x0%9+1))=(l:Int)/\l<D+1:=⟨(x2 / 5%(1+x0%9+1)).toNat,by omega,by omega⟩
   have hix:ixN L.length (x2 / 5%(1+x0%9+1))=some l:=by unfold ixN;rw[if_pos bl.1,if_pos (by rw[lL]; omega),hlz];rfl
   refine⟨_,rfl,xl,_,_,_,rfl,rfl,SqL.of (S22 _ _ exH),rfl,x2,rfl,λv hv=>⟨_,rfl,_,rfl,dl,_,_,l,rfl,rfl,k22,hix,?_⟩⟩;have hdl1:H1 dl=none:=S21.free hdl;have hdl0:B0 dl=none:=(sB.trans h.b).free hdl1;have h22:=h.grow S22;have g22:=zb5 (H2:=X22) h.b;have dlB:=zn4 (Hb:=B1) hdl1 k22;generalize gr B1 H1 X22=B2 at h22 g22 dlB;have h23:=h22.put (o':=.lst (L.set l (.int v))) dlB;have s23:zan B0 (upd B2 dl (.lst (L.set l (.int v)))):=(sB.trans g22).upd hdl0;have sH23:zan H (upd B2 dl (.lst (L.set l (.int v)))):=((sHB.trans sB).trans g22).upd (sHB.free hdl0);have kd:upd B2 dl (.lst (L.set l (.int v))) dl=some (.lst (L.set l (.int v))):=zac;generalize upd B2 dl (.lst (L.set l (.int v)))=B3 at h23 s23 sH23 kd;generalize upd X22 dl (.lst (L.set l (.int v)))=X23 at h23 ⊢;have fl23:=fl.mono s23;have hlf:l<fs.length:=by omega
   have hat:atI (L.set l (.int v)) (x2 / 5%(1+x0%9+1))=some (.int v):=by unfold atI;rw[qbh,hix];show(L.set l (.int v))[l]?=_;rw[qbv,if_pos rfl,if_pos (by omega)]
   have hall:∀f∈fs,∃G∈[F],G.name=f.fn:=λf hf=>by obtain⟨i,hi⟩:=qaw hf;exact⟨F,by simp,(dp.at_ i f hi).1.symm⟩
   have hk:∀f∈fs,f.kvs.length<1000000:=λf hf=>by obtain⟨i,hi⟩:=qaw hf;have:=(dp.at_ i f hi).2.2.2;omega
   have hfl:=List.getElem?_eq_getElem hlf;have hth:zqp fs [F] (x2 / 5%(1+x0%9+1)) n0:=⟨l,_,F,hlz,hfl,by simp,(dp.at_ l _ hfl).1.symm,in0⟩
   refine⟨_,rfl,w.a,_,_,rfl,h23.o,rfl,_,rfl,_,rfl,nl,_,_,_,rfl,rfl,(h23.b.seq (s23.seq enB)),atn 0 _ h0,_,rfl,_,rfl,dl,_,_,_,rfl,rfl,SqL.of (h23.b _ _ kd),hat,B3,w,fs,.non,[],⟨[],0⟩,_,n0,.int v,[F],rfl,h23,fl23,hall,hk,λ_ j g Hb3 H3 ej hg s3 h3=>?_,λhT=>absurd hth hT⟩;have ej:j=l:=by omega
   subst ej;have fl3:=fl23.mono s3;have nl3:=s3.seq (s23.seq enB);have kd3:=s3 _ _ kd;obtain⟨q1,q2,q3,q4⟩:=dp.at_ j g hg;refine⟨_,_,rfl,rfl,_,rfl,jN ?_⟩;have hlen2:(fs.set j { g with kvs:=zbd g.kvs (Sum.inr n0:Key) (.int v) }).length=D+1:=by rw[qbh]; omega
   have at2:∀i,i<D+1->∃f4,(fs.set j { g with kvs:=zbd g.kvs (Sum.inr n0:Key) (.int v) })[i]?=some f4/\f4.fn=F.name/\zcx f4.kvs (Sum.inr n0:Key)=some (if i=j then V.int v else V.int (dv x1 (2 * D) i)):=λi hi=>by
     by_cases z:i=j
     . subst z;refine⟨{ g with kvs:=zbd g.kvs (Sum.inr n0:Key) (.int v) },by rw[qbv,if_pos rfl,if_pos hlf],q1,?_⟩;rw[if_pos rfl];show zcx (zbd g.kvs (Sum.inr n0:Key) (.int v)) _=_;rw[zda,if_pos rfl]
     . have hfi:=List.getElem?_eq_getElem (l:=fs) (i:=i) (by omega);obtain⟨p1,p2,p3,p4⟩:=dp.at_ i _ hfi;exact⟨_,by rw[qbv,if_neg (λy=>z y.symm)]; exact hfi,p1,by rw[if_neg z]; exact p3⟩
   have hall2:∀f∈fs.set j { g with kvs:=zbd g.kvs (Sum.inr n0:Key) (.int v) },∃G∈[F],G.name=f.fn:=λf hf=>by obtain⟨i,hi⟩:=qaw hf;obtain⟨f4,a1,a2,_⟩:=at2 i (by rw[<- hlen2]; exact(List.getElem?_eq_some_iff.mp hi).1);rw[hi] at a1;cases a1;exact⟨F,by simp,a2.symm⟩
   refine⟨_,rfl,_,_,rfl,rfl,_,rfl,by omega,by omega,λu3 hu3=>zkg (lo:=0) (n:=(1+x0%9+1).toNat) (λi _ y=>y=if i=j then V.int v else V.int (dv x1 (2 * D) i)) (λ_ _ _ _ _ h=>h) (by omega) hu3 ?_ ?_⟩
   . intro i H4 R hi s4 _ hR;have h4:=h3.grow s4;have g4:=zb5 (H2:=H4) h3.b;obtain⟨f4,a1,a2,a3⟩:=at2 i (by omega);exact⟨_,rfl,w.a,_,_,rfl,h4.o,rfl,_,rfl,_,rfl,nl,_,_,_,rfl,rfl,(h4.b.seq (g4.seq nl3)),atn 0 _ h0,_,w,_,.non,[],⟨[],0⟩,i,f4,n0,_,[F],F,(show [V.ref w.a,V.int (0+(i:Int)),V.str n0]=[.ref w.a,.int i,.str n0] by rw[qdx]),h4,a1,hall2,fl3.mono g4,by simp,a2.symm,in0,a3,λH5 s5=>hR _ H5 s5 rfl⟩
   rintro H4 ys s4 e4 ly ty;have ly':ys.length=D+1:=by omega
   have ey:ys=L.set j (.int v):=by
     refine qct λi=>?_;rcases qa4 i (D+1) with hi|hi
     . have e:=List.getElem?_eq_getElem (l:=ys) (i:=i) (by omega);rw[e,ty i _ e,qbv];by_cases z:i=j
       . rw[if_pos z,if_pos z.symm,if_pos (by omega)]
       . rw[if_neg z,if_neg (λy=>z y.symm),aL i hi]
     . rw[qbl (by omega),qbl (by rw[qbh]; omega)]
   subst ey;have ints_:∀y∈L.set j (.int v),∃z,y=V.int z:=λy hy=>by
     obtain⟨i,hi⟩:=qaw hy;have:=ty i y hi;rw[this];by_cases z:i=j
     . rw[if_pos z]; exact⟨_,rfl⟩
     . rw[if_neg z]; exact⟨_,rfl⟩
   obtain⟨dd,ld,d1,d2⟩:Bg.Twin K H4 2 (.ref u3) (.ref dl):=Bg.Twin.lst (SqL.of e4) (SqL.of (s4 _ _ (h3.b _ _ kd3))) (Bg.TwinA.of (Bg.HasA.of λy hy=>by obtain⟨z,rfl⟩:=ints_ y hy;exact .int))
   exact⟨_,rfl,zva (by decide) ld d1 d2 (q H4 (((sH23.trans s3).trans h3.b).trans s4))⟩
theorem zja:FnScope ["_law_script","_law_names_here","_law_program_here","_law_args","_law_walker","_law_stack","_law_last","_law_pick","_law_xs"] ["_law_script"] (zai zo9):=⟨rfl,rfl,rfl,by decide +kernel,rfl,by decide +kernel,by decide +kernel⟩
theorem ok_law (T:Txt K mg t):FnOk P w K mg base CX0 10 t.z2z t.zz4 ["_law_script"] (sp_law K):=by
 have G_l_names:=zu0 (P:=P) (w:=w) (base:=base) T;have G_l_program:=zqs (P:=P) (w:=w) (base:=base) T;have G_TextWalker_init:=zgh (P:=P) (w:=w) (base:=base) T;have G_l_stream:=zhg (P:=P) (w:=w) (base:=base) T;have G_l_cell_at:=zlv (P:=P) (w:=w) (base:=base) T;have G_l_deep:=zxk (P:=P) (w:=w) (base:=base) T;have G_l_value_by:=zfq (P:=P) (w:=w) (base:=base) T;have G_l_frame:=zn5 (P:=P) (w:=w) (base:=base) T;have G_l_worth:=zn8 (P:=P) (w:=w) (base:=base) T;have G_l_moved:=zul (P:=P) (w:=w) (base:=base) T;have G_l_filled:=zrs (P:=P) (w:=w) (base:=base) T;have G_l_refused:=zls (P:=P) (w:=w) (base:=base) T;have G_Walker_step:=zjc (P:=P) (w:=w) (base:=base) T;have G_Walker_ended:=zia (P:=P) (w:=w) (base:=base) T;have G_Walker_answer:=zl4 (P:=P) (w:=w) (base:=base) T;refine T.law.F.ok zja (λvs H Q E h=>?_) (λcdv A outer s H vs Q E hr h=>?_)
 . obtain⟨a,sc,rfl,ha,hn,q⟩:=h;rfl
 . skip
   refine(let XX:Cx:=(zkf CX0 P w K mg base ["_law_script","_law_names_here","_law_program_here","_law_args","_law_walker","_law_stack","_law_last","_law_pick","_law_xs"] "law" (zai zo9) t.z2z cdv A outer s H E).nox; ?_);refine(let W7_3:TS:=_; have hW7_3:PSs XX ((sB ((zav zo9).getD 7 (.Pass ⟨0,0,0,0⟩))).drop 3) W7_3:=(@zab _ _ _ _ _ (@zbl _ _ _ _ (zbu T.zx1 G_l_moved (hr.mono (by decide)) (@zaa _ _ _ _ _ (pv 5) (@zaa _ _ _ _ _ (pv 2) zaf (by rfl)) (by rfl))) (by rfl)) (@zab _ _ _ _ _ (@zbl _ _ _ _ (zgk (pv 4) T.zae.cl T.zga.m G_Walker_step (hr.mono (by decide)) T.zga.b .nil zcu) (by rfl)) (@zah _ _ _ (@zbq _ _ _ _ _ _ _ _ (@zat _ _ _ _ _ _ _ _ (zss hr.units) (pv 5) (@zdj _ _ _ _ zaf) (za1 _)) (@zah _ _ _ zy7) zas)))); ?_);refine(let W7_1:TS:=_; have hW7_1:PSs XX ((sB ((zav zo9).getD 7 (.Pass ⟨0,0,0,0⟩))).drop 1) W7_1:=(@zab _ _ _ _ _ (@zbq _ _ _ _ _ _ _ _ (ztb (zjb (zbu T.zt1 G_l_filled (hr.mono (by decide)) (@zaa _ _ _ _ _ (pv 4) (@zaa _ _ _ _ _ (pv 5) (@zaa _ _ _ _ _ (pv 8) (@zaa _ _ _ _ _ (pv 1) zaf (by rfl)) (by rfl)) (by rfl)) (by rfl))))) (@zah _ _ _ (@zau _ _ _ _ zh9)) zas) (@zab _ _ _ _ _ (@zax _ _ 6 _ _ _ _ zja.nd rfl (Or.inl rfl) (zbu T.zj0 G_l_worth (hr.mono (by decide)) (@zaa _ _ _ _ _ (@zaj _ _ _ _ _ _ _ zap (@zaj _ _ _ _ _ _ _ zap (@zaj _ _ _ _ _ _ _ zap (@zaj _ _ _ _ _ _ _ zak (@zaj _ _ _ _ _ _ _ zak (pv 5) (zjo zfw zad) (λ_ _=>rfl)) zad (λ_ _=>rfl)) zad (λ_ _=>rfl)) (@zaj _ _ _ _ _ _ _ zak (@zaj _ _ _ _ _ _ _ zak (pv 5) (zjo zfw zad) (λ_ _=>rfl)) zad (λ_ _=>rfl)) (λ_ _=>rfl)) zad (λ_ _=>rfl)) (@zaa _ _ _ _ _ (@zaj _ _ _ _ _ _ _ zak (@zaj _ _ _ _ _ _ _ zak (pv 5) (zjo zfw zad) (λ_ _=>rfl)) zad (λ_ _=>rfl)) zaf (by rfl)) (by rfl))) (by rfl) (by first|exact .inl rfl|exact .inr rfl|assumption)) hW7_3)); ?_);refine(let W7:TS:=_; have hW7:PSs XX ((zav zo9).drop 7) W7:=(@zsc _ _ _ _ _ (zeb PassesOwn.never rfl (zgx (zbu T.zi2 G_l_stream (hr.mono (by decide)) (@zaa _ _ _ _ _ (zbu T.zfb G_l_cell_at (hr.mono (by decide)) (@zaa _ _ _ _ _ (pv 0) (@zaa _ _ _ _ _ zad zaf (by rfl)) (by rfl))) (@zaa _ _ _ _ _ zad zaf (by rfl)) (by rfl)))) (za0 (i:=7) zja.nd rfl (Or.inl rfl)) (@zab _ _ _ _ _ (@zax _ _ 8 _ _ _ _ zja.nd rfl (Or.inl rfl) (zbu T.zi2 G_l_stream (hr.mono (by decide)) (@zaa _ _ _ _ _ (pv 7) (@zaa _ _ _ _ _ zad zaf (by rfl)) (by rfl))) (by rfl) (by first|exact .inl rfl|exact .inr rfl|assumption)) hW7_1)) (@zab _ _ _ _ _ (@zbq _ _ _ _ _ _ _ _ (@zat _ _ _ _ _ _ _ _ (zss hr.units) (pv 5) (@zdj _ _ _ _ zaf) (za1 _)) (@zah _ _ _ (@zbq _ _ _ _ _ _ _ _ (@PW.pt _ _ _ (zrn (ztb (zjb (zbu T.znt G_l_refused (hr.mono (by decide)) (@zaa _ _ _ _ _ (pv 4) (@zaa _ _ _ _ _ zad (@zaa _ _ _ _ _ (@zaj _ _ _ _ _ _ _ zak (pv 1) zad (λ_ _=>rfl)) (@zaa _ _ _ _ _ zad zaf (by rfl)) (by rfl)) (by rfl)) (by rfl))))) (zrn (@zat _ _ _ _ _ _ _ _ zro (zgk (pv 4) T.zae.cl T.ze4.m G_Walker_ended (hr.mono (by decide)) T.ze4.b .nil zcu) zh9 (za1 _)) (ztd (@zat _ _ _ _ _ _ _ _ z2h (zgk (pv 4) T.zae.cl T.zhr.m G_Walker_answer (hr.mono (by decide)) T.zhr.b .nil zcu) (pv 6) (za1 _)))))) (@zah _ _ _ (@zau _ _ _ _ zh9)) zas)) zas) (@zah _ _ _ (@zau _ _ _ _ zh9)))); ?_);obtain⟨a,sc,rfl,ha,hn,q⟩:=h;refine⟨_,(@zab _ _ _ _ _ (@zax _ _ 1 _ _ _ _ zja.nd rfl (Or.inl rfl) (zbu T.zx2 G_l_names (hr.mono (by decide)) (@zaa _ _ _ _ _ (zbu T.zfb G_l_cell_at (hr.mono (by decide)) (@zaa _ _ _ _ _ (pv 0) (@zaa _ _ _ _ _ zad zaf (by rfl)) (by rfl))) (@zaa _ _ _ _ _ zad zaf (by rfl)) (by rfl))) (by rfl) (by first|exact .inl rfl|exact .inr rfl|assumption)) (@zab _ _ _ _ _ (@zax _ _ 2 _ _ _ _ zja.nd rfl (Or.inl rfl) (zbu T.zrj G_l_program (hr.mono (by decide)) (@zaa _ _ _ _ _ (pv 0) (@zaa _ _ _ _ _ (pv 1) zaf (by rfl)) (by rfl))) (by rfl) (by first|exact .inl rfl|exact .inr rfl|assumption)) (@zab _ _ _ _ _ (@zbq _ _ _ _ _ _ _ _ (ztb (zjb (zbu T.z0u G_l_deep (hr.mono (by decide)) (@zaa _ _ _ _ _ (pv 1) (@zaa _ _ _ _ _ (zbu T.zfb G_l_cell_at (hr.mono (by decide)) (@zaa _ _ _ _ _ (pv 0) (@zaa _ _ _ _ _ zad zaf (by rfl)) (by rfl))) zaf (by rfl)) (by rfl))))) (@zah _ _ _ (@zau _ _ _ _ zh9)) zas) (@zab _ _ _ _ _ (@zax _ _ 3 _ _ _ _ zja.nd rfl (Or.inl rfl) (@zdj _ _ _ _ (@zaa _ _ _ _ _ (zbu T.zg9 G_l_value_by (hr.mono (by decide)) (@zaa _ _ _ _ _ (@zaw _ _ _ _ _ _ _ _ zbt (zbu T.zfb G_l_cell_at (hr.mono (by decide)) (@zaa _ _ _ _ _ (pv 0) (@zaa _ _ _ _ _ zad zaf (by rfl)) (by rfl))) zad) zaf (by rfl))) zaf (by rfl))) (by rfl) (by first|exact .inl rfl|exact .inr rfl|assumption)) (@zab _ _ _ _ _ (@zax _ _ 4 _ _ _ _ zja.nd rfl (Or.inl rfl) (zzn T.zae T.zf6 G_TextWalker_init (hr.mono (by decide)) (@zaa _ _ _ _ _ (pv 2) (@zaa _ _ _ _ _ (pv 3) zaf (by rfl)) (by rfl))) (by rfl) (by first|exact .inl rfl|exact .inr rfl|assumption)) (@zab _ _ _ _ _ (@zax _ _ 5 _ _ _ _ zja.nd rfl (Or.inl rfl) (@zdj _ _ _ _ (@zaa _ _ _ _ _ (zbu T.zsq G_l_frame (hr.mono (by decide)) (@zaa _ _ _ _ _ (@zaj _ _ _ _ _ _ _ zak (pv 2) (zjo zfw zad) (λ_ _=>rfl)) (@zaa _ _ _ _ _ (pv 3) zaf (by rfl)) (by rfl))) zaf (by rfl))) (by rfl) (by first|exact .inl rfl|exact .inr rfl|assumption)) (@zab _ _ _ _ _ (@zax _ _ 6 _ _ _ _ zja.nd rfl (Or.inl rfl) zad (by rfl) (by first|exact .inl rfl|exact .inr rfl|assumption)) hW7))))))),?_⟩;refine⟨_,rfl,a,sc,0,rfl,ha,hn,by decide,λc0=>⟨c0,7,rfl,by decide,λnl H1 ns hnl s1 e1 n7 nok=>?_⟩⟩;refine⟨_,rfl,_,rfl,a,nl,sc,ns,rfl,s1.seq ha,hn,SqL.of e1,n7,nok,λpl H2 F0 F1 r0 r1 hpl s2 P=>?_⟩;refine⟨_,rfl,_,rfl,a,sc,2,rfl,(s1.trans s2).seq ha,hn,by decide,λc2=>⟨nl,ns,c2,rfl,SqL.of (s2 _ _ e1),n7,nok,λH3 s3=>⟨_,rfl,jN ?_⟩⟩⟩;have a3:=((s1.trans s2).trans s3).seq ha;refine⟨_,rfl,a,sc,1,rfl,a3,hn,by decide,λc1=>⟨_,_,rfl,rfl,(show(0:Int)<2147483647 by decide),_,rfl,λv hv=>⟨le1,λal hal=>?_⟩⟩⟩;generalize e:upd H3 al _=H4;have ⟨s4,k4⟩:=nw e hal;have a4:=s4.seq a3;have n4:=(s3.trans s4) _ _ (s2 _ _ e1);have p4:=(s3.trans s4) _ _ P.e;have g0:=P.f0.mono (s3.trans s4);have g1:=P.f1.mono (s3.trans s4);refine⟨_,rfl,_,rfl,λx dx hx hdx ndx=>?_⟩;have sX:=zqx (o1:=HO.own x) (o2:=HO.ins t.zal dx []) hx hdx;have nne:F0.name≠F1.name:=λz=>by have h5:=P.n0;have h6:=P.n1;rw[z] at h5;have:=(qb9 (List.getElem?_eq_some_iff.mp h5).1 nok.nd).mp (h5.trans h6.symm);omega
   refine⟨x,dx,pl,al,[F0,F1],F1,[.int v],rfl,zac,SqL.of (sX _ _ p4),by simp,by simp,(λf hf=>by
     simp only[List.mem_cons,qbk,or_false] at hf;rcases hf with rfl|rfl
     . exact g0.at_.mono sX
     . exact g1.at_.mono sX),by simp [nne],rfl,SqL.of (sX _ _ k4),by simp,Nat.le_trans g1.nl (by decide),by rw[P.p1]; decide,λB0 w f Hw hw sb wa fl fn row kv=>⟨rfl,?_⟩⟩
   subst hw;have sB:=sX.trans sb;have aB:=sB.seq a4;have nB:=sB _ _ n4;have pB:=sB _ _ p4;have f0B:=g0.mono sB;have f1B:=g1.mono sB;have kB:=sB _ _ k4;have PB:Prg K B0 pl F0 F1 r0 r1 ns:=⟨pB,f0B,f1B,P.n0,P.n1,P.p0,P.p1,P.c0,P.sg,P.l0⟩
   clear g0 g1 a4 n4 p4 k4 sX sb s4 s3 s2 s1 hx hdx a3 e1 hpl hnl hal P sB;have vi:∀u∈[V.int v],∃i,u=.int i/\Val i:=λu hu=>by rw[List.mem_singleton.mp hu]; exact⟨v,rfl,hv⟩
   refine⟨_,rfl,_,rfl,pl,_,_,_,rfl,rfl,SqL.of (wa.b _ _ pB),rfl,_,rfl,F1,r1,al,[.int v],rfl,f1B.mono wa.b,SqL.of (wa.b _ _ kB),by rw[PB.p1]; rfl,vi,λl d H5 kvs hl hd hld s5 e5l e5d alk=>⟨le1,λsk hsk=>?_⟩⟩;have s6:=s5.trans (zan.new (o:=.lst [V.ref l]) hsk);have e6l:=(zan.new (o:=.lst [V.ref l]) hsk) _ _ e5l;have e6d:=(zan.new (o:=.lst [V.ref l]) hsk) _ _ e5d;have e6s:=zac (H:=H5) (a:=sk) (o:=.lst [V.ref l]);have hskw:Hw sk=none:=s5.free hsk;have nls:l≠sk:=λz=>by rw[z,hsk] at e5l; cases e5l
   generalize upd H5 sk (.lst [V.ref l])=H6 at s6 e6l e6d e6s ⊢;refine⟨λσ H'=>∃v6 v7 v8:Option V,σ=[some (.ref a),some (.ref nl),some (.ref pl),some (.ref al),some (.ref w.a),some (.ref sk),v6,v7,v8]/\((∃xs,xs≠[]/\H' sk=some (.lst xs))\/(H' sk=some (.lst [])/\∃Hb z,WA t Hb H' w [] (.int z) [] ⟨[],0⟩/\F2.FlowsAt K t.zaz Hb w.fl [F0,F1]/\SqL K Hb nl (ns.map V.str)/\v6=some (.int z))),?_,?_⟩
   . refine⟨_,rfl,a,sc,0,rfl,s6.seq (wa.b.seq aB),hn,by decide,λc3=>⟨c3,24,rfl,by decide,λzl H7 zs hzl s7 e7 lz nn=>?_⟩⟩;have s67:=s6.trans s7;have hzw:Hw zl=none:=s6.free hzl;have wa7:=wa.grow s67;have b7:=zb5 (H2:=H7) wa.b;have gl:gr B0 Hw H7 l=_:=zn4 hl (s7 _ _ e6l);have gd:gr B0 Hw H7 d=_:=zn4 hd (s7 _ _ e6d);have gs:gr B0 Hw H7 sk=_:=zn4 hskw (s7 _ _ e6s);have gz:gr B0 Hw H7 zl=_:=zn4 hzw e7;generalize gr B0 Hw H7=B7 at wa7 b7 gl gd gs gz;have z0:B0 zl=none:=wa.b.free hzw;have l0:B0 l=none:=wa.b.free hl;have d0:B0 d=none:=wa.b.free hd;have k0:B0 sk=none:=wa.b.free hskw;have nzl:zl≠l:=λz=>by rw[z,e6l] at hzl; cases hzl
     have nzd:zl≠d:=λz=>by rw[z,e6d] at hzl; cases hzl
     have nzs:zl≠sk:=λz=>by rw[z,e6s] at hzl; cases hzl
     have q0:zan B0 (upd B0 zl (.lst (zs.map V.int))):=zan.new z0;have q7:zan (upd B0 zl (.lst (zs.map V.int))) B7:=λb o hb=>by
       by_cases z:b=zl
       . rw[z,zac] at hb; rw[z,gz]; exact hb
       . rw[zag z] at hb; exact b7 _ _ hb
     have qz:=zac (H:=B0) (a:=zl) (o:=.lst (zs.map V.int));have ql:upd B0 zl (.lst (zs.map V.int)) l=none:=by rw[zag nzl.symm]; exact l0
     have qd:upd B0 zl (.lst (zs.map V.int)) d=none:=by rw[zag nzd.symm]; exact d0
     have qs:upd B0 zl (.lst (zs.map V.int)) sk=none:=by rw[zag nzs.symm]; exact k0
     generalize upd B0 zl (.lst (zs.map V.int))=H0 at q0 q7 qz ql qd qs;have P0:Prg K H0 pl F0 F1 r0 r1 ns:=⟨q0 _ _ pB,f0B.mono q0,f1B.mono q0,PB.n0,PB.n1,PB.p0,PB.p1,PB.c0,PB.sg,PB.l0⟩
     have n0:=q0 _ _ nB;have fl0:=fl.mono q0;let RF:RFt:=λF rs=>(F=F0/\rs=r0)\/(F=F1/\rs=r1)
     have S0:Sta K t RF H0 B7 H7 w [f] [F0,F1] sk [⟨l,d,F1,0,kvs⟩]:=by
       refine⟨wa7,fl0,q7,⟨gs,(λy hy=>by rw[List.mem_singleton.mp hy]; exact⟨gl,gd⟩),by simp,by simp,(λy hy=>by rw[List.mem_singleton.mp hy]; exact nls)⟩,λb hb=>?_,rfl,by show 1<=100; decide,λi g y hg hy=>?_⟩
       . unfold adL at hb;simp only[qaz,qcd,List.mem_cons,List.mem_append,qbk,or_false] at hb;rcases hb with rfl|rfl|rfl
         . exact qs
         . exact ql
         . exact qd
       . have hi:i=0:=by have:=(List.getElem?_eq_some_iff.mp hg).1; simp at this; exact this
         subst hi;cases hg;cases hy;exact⟨fn,row,by simp,by rw[kv]; exact alk,r1,.inr ⟨rfl,rfl⟩,P0.f1,P0.l0.2,λz=>by simp at z⟩
     have hRF:∀F rs,RF F rs->rs=r0\/rs=r1:=λF rs h=>h.elim (λz=>.inl z.2) (λz=>.inr z.2);have h00:RF F0 r0:=.inl ⟨rfl,rfl⟩;clear_value RF;refine⟨zl,rfl,⟨_,SqL.of e7⟩,zj6 (xs:=zs.map V.int) (λi σ H'=>∃(v6 v7 v8:Option V) (Hb:Hp) (fs:List Fm) (ls:List Lf),σ=[some (.ref a),some (.ref nl),some (.ref pl),some (.ref al),some (.ref w.a),some (.ref sk),v6,v7,v8]/\Sta K t RF H0 Hb H' w fs [F0,F1] sk ls/\ls≠[]/\fs.length<=i+1) ⟨_,_,_,B7,_,_,rfl,S0,by simp,qae _⟩ ?_ ?_ ?_⟩
     . rintro i σ H' hi ⟨v6,v7,v8,Hb,fs,ls,rfl,S,hne,hlf⟩;exact SqL.of (S.wa.b _ _ (S.s0 _ _ qz))
     . rintro i p σ H' hp ⟨v6,v7,v8,Hb,fs,ls,rfl,S,hne,hlf⟩;obtain⟨z,hz,hzm,rfl⟩:=zj7 hp;have hi24:i<24:=by rw[<- lz]; exact(List.getElem?_eq_some_iff.mp hz).1
       refine⟨_,rfl,z,4,rfl,by decide,λxl H2 xs hxl s2 e2 lx nx=>?_⟩;have S2:=S.grow s2;refine⟨_,rfl,_,rfl,_,rfl,_,rfl,RF,H0,_,w,fs,[F0,F1],sk,xl,nl,ls,xs,ns,rfl,S2,hne,SqL.of e2,lx,(λx hx=>(nx x hx).1),SqL.of (S2.wa.b _ _ (S2.s0 _ _ n0)),by omega,by omega,λHb3 H3 fs3 ls3 sE sh S3=>⟨_,rfl,jN ?_⟩⟩;have l3:=sh.1;have len3:=S3.len;have lenS:=S.len;obtain⟨ls0,x,rfl⟩:∃ls0 x,ls3=ls0++[x]:=by
         rcases qcg ls3 with e|⟨l0,x,e⟩
         . rw[e] at l3; exact absurd (qdd l3.symm) hne
         . rw[qch] at e; exact⟨l0,x,e⟩
       obtain⟨fs0,f3,rfl⟩:∃fs0 f3,fs3=fs0++[f3]:=by
         rcases qcg fs3 with e|⟨l0,x,e⟩
         . rw[e] at len3; simp at len3
         . rw[qch] at e; exact⟨l0,x,e⟩
       have hl03:fs0.length=ls0.length:=by simpa using len3
       have hl04:ls0.length<=23:=by rw[List.length_append,qa5] at l3; omega
       have hl05:ls0.length+1=fs.length:=by rw[List.length_append,qa5] at l3; omega
       obtain⟨m1,m2,m3,al3,rgs,hrf,fg,hlt,_⟩:=S3.tw ls0.length f3 x (by rw[<- hl03]; exact zd7 _ _) (zd7 _ _);obtain⟨rg,hrg⟩:∃rg,rgs[x.at_]?=some rg:=⟨_,List.getElem?_eq_getElem hlt⟩
       obtain⟨r,hr⟩:∃r,x.F.rs[x.at_]?=some r:=⟨_,List.getElem?_eq_getElem (by rw[fg.len]; exact hlt)⟩
       have hq:=fg.row _ _ _ hr hrg;obtain⟨u,zv,hu1,hu2,hu3⟩:=z02 fg (List.mem_of_getElem? hrg) al3;have s03:=S3.s0.trans S3.wa.b;have st3:=S3.st.mono S3.wa.b;have skH:=st3.e;have fx:=st3.fr x zu7;have hat:atI (x.F.rs.map λw=>V.ref w.r) (x.at_:Int)=some (.ref r.r):=zc2 (by rw[List.getElem?_map,hr]; rfl);have lk3:=al3.l;refine⟨_,rfl,_,rfl,sk,_,_,_,rfl,rfl,SqL.of skH,zla _ _,x.l,_,_,_,rfl,rfl,SqL.of fx.1,at0,x.F.fa,_,_,_,rfl,rfl,s03.tup fg.at_.fn,rfl,_,rfl,_,rfl,sk,_,_,_,rfl,rfl,SqL.of skH,zla _ _,x.l,_,_,_,rfl,rfl,SqL.of fx.1,rfl,x.F.ra,_,_,_,rfl,rfl,s03.tup fg.at_.rw_,hat,r.r,_,_,_,rfl,rfl,s03.tup hq.it,zc2 (j:=1) hu1,_,rfl,_,rfl,sk,_,_,_,rfl,rfl,SqL.of skH,zla _ _,x.l,_,_,_,rfl,rfl,SqL.of fx.1,rfl,u,.int zv,x.d,x.kvs,rfl,fx.2,hu2,?_⟩;refine⟨_,rfl,_,rfl,sk,pl,ls0,x,rgs,r0,rg,F0,F1,rfl,st3,SqL.of (s03 _ _ P0.e),fg.mono s03,P0.f0.mono s03,hrg,by omega,by omega,?_⟩;refine zxl S3 P0 (by simp) hRF h00 hrf fg hrg (by omega) (λHb1 H1 wa1 s1 st1=>⟨_,rfl,w.a,_,_,rfl,wa1.o,rfl,Hb1,w,fs0,f3,[],⟨[],0⟩,[F0,F1],x.F,r,rg,rfl,wa1,S3.fl.mono s1,m3,m1.symm,by rw[m2]; exact hr,s1.tup hq.it,by decide,by omega,st1⟩) ?_ ?_
       . intro Hb4 H4 fs4 ls4 S4 hne4 hl4;have S5:∀H5,zan H4 H5->_:=λH5 s5=>S4.grow (H':=H5) s5;refine⟨_,rfl,le0,λe he=>⟨sk,e,_,rfl,rfl,SqL.of ((zan.new he) _ _ (S4.wa.b _ _ S4.st.e)),SqL.of zac,_,rfl,zha (by simpa using hne4) ?_⟩⟩;exact⟨_,_,_,_,_,_,rfl,S4.grow (zan.new he),hne4,by omega⟩
       . intro Hb4 H4 ba bv hb hbv wa4 s4 hsk4;have:bv=.int zv:=by have:=hu3 ba hb;rw[<- this,hu2] at hbv;cases hbv;rfl
         subst this;have skB:=wa4.b _ _ hsk4;refine⟨_,rfl,le0,λe he=>⟨sk,e,_,rfl,rfl,SqL.of ((zan.new he) _ _ skB),SqL.of zac,_,rfl,zh8 (by simp) ?_⟩⟩;exact⟨_,_,_,rfl,.inr ⟨(zan.new he) _ _ skB,_,zv,wa4.grow (zan.new he),(S3.fl.mono s4).mono (zb5 wa4.b),SqL.of (zb5 wa4.b _ _ (s4 _ _ n0)),rfl⟩⟩
     . rintro σ H' ⟨v6,v7,v8,Hb,fs,ls,rfl,S,hne,hlf⟩;exact⟨_,_,_,rfl,.inl ⟨_,by simpa using hne,S.wa.b _ _ S.st.e⟩⟩
   rintro σ H' ⟨v6,v7,v8,rfl,h⟩;rcases h with⟨xs,hxs,hsk1⟩|⟨hsk1,Hb,z,hw,hfl,hnl1,rfl⟩
   . exact⟨_,rfl,le0,λe he=>⟨sk,e,_,rfl,rfl,SqL.of ((zan.new he) _ _ hsk1),SqL.of zac,_,rfl,zha (by simpa using hxs) (q _)⟩⟩
   . refine⟨_,rfl,le0,λe he=>⟨sk,e,_,rfl,rfl,SqL.of ((zan.new he) _ _ hsk1),SqL.of zac,_,rfl,zh8 (by simp) ?_⟩⟩;have h2:=hw.grow (zan.new (o:=.lst []) he);have g2:=zb5 (H2:=upd H' e (.lst [])) hw.b;generalize upd H' e (.lst [])=H2 at h2 g2 ⊢;generalize gr Hb H' H2=Hb2 at h2 g2;obtain⟨n0,hn0⟩:∃n0,ns[0]?=some n0:=⟨_,List.getElem?_eq_getElem (by omega)⟩
     have at0n:atI (ns.map V.str) ((0:Nat):Int)=some (.str n0):=zc2 (by rw[List.getElem?_map,hn0]; rfl);refine⟨_,rfl,_,rfl,nl,_,_,_,rfl,rfl,h2.b.seq (g2.seq hnl1),at0n,Hb2,w,[],.int z,[],⟨[],0⟩,0,n0,.int 3,[F0,F1],rfl,h2,hfl.mono g2,(λf hf=>by cases hf),(λf hf=>by cases hf),(λ⟨i,f,F,_,hf,_⟩=>by simp at hf),λH3 s3=>⟨_,rfl,jN ?_⟩⟩;have h3:=h2.grow s3;refine⟨_,rfl,w.a,_,_,rfl,h3.o,rfl,_,w,[],.int z,[],⟨[],0⟩,rfl,h3,_,_,rfl,rfl,_,rfl,jN ⟨_,rfl,w.a,_,_,rfl,h3.o,rfl,_,w,[],.int z,[],⟨[],0⟩,rfl,h3,_,rfl,rfl,_,rfl,zha (by simp) (q _)⟩⟩
end
end K26
namespace K26
open PySem L2
structure Fv where
 (oc kV dc pm cd ct:Value)
 (od an:Option Addr)
 sl:Array (Option Value)
abbrev Fv.fn (v:Fv) (n q:Str) (s:Stmt):=W.fnOf n q (zde s) (zav s) (zai s) .none v.kV v.dc v.pm v.an v.cd v.ct
def FL (K:W.Frag) (f:Addr) (v:Fv) (n q:Str) (s:Stmt):Prop:=K.lookup f=some ⟨v.oc,v.od,.func (v.fn n q s),v.sl⟩/\W.codeIn K v.cd q=true/\W.keepIn K (.ref f)=true
theorem fl_mk {K:W.Frag} {f:Addr} {n q:Str} {s:Stmt} {oc kV dc pm cd ct:Value} {od an:Option Addr} {sl:Array (Option Value)} (l:K.lookup f=some ⟨oc,od,.func (W.fnOf n q (zde s) (zav s) (zai s) .none kV dc pm an cd ct),sl⟩) (c:W.codeIn K cd q=true) (k:W.keepIn K (.ref f)=true):FL K f ⟨oc,kV,dc,pm,cd,ct,od,an,sl⟩ n q s:=⟨l,c,k⟩
set_option maxHeartbeats 4000000 in
theorem txt_mk {K:W.Frag} {h:Heap} {mg:Str->Option Value} (X:K.In h) (G:h.Ns mainGlobals mg)
   {C_Flows:Addr} (aC_Flows:W.nsIn K mainGlobals "Flows"=some (some (.ref C_Flows))) (pg_Flows:W.plainGet K C_Flows Str.empty=true) (hd_Flows:W.hasDictIn K C_Flows=true) (po_Flows:W.plainOver K C_Flows=true) (sa_Flows:W.findIn K (.ref C_Flows) "__setattr__"=some (some (.builtin "object.__setattr__"))) (mk_Flows:W.makesIn K C_Flows=true) (kc_Flows:W.keepIn K (.ref C_Flows)=true)
   (zd3:W.findIn K (.ref C_Flows) "last"=some none)
   (zb8:W.findIn K (.ref C_Flows) "number_of"=some none)
   (zb7:W.findIn K (.ref C_Flows) "folded_of"=some none)
   (zbr:W.findIn K (.ref C_Flows) "params_of"=some none)
   (zcg:W.findIn K (.ref C_Flows) "rows_of"=some none)
   (zbp:W.findIn K (.ref C_Flows) "names_in"=some none)
   (zch:W.findIn K (.ref C_Flows) "ways_in"=some none)
   {C_Walker:Addr} (aC_Walker:W.nsIn K mainGlobals "Walker"=some (some (.ref C_Walker))) (pg_Walker:W.plainGet K C_Walker Str.empty=true) (hd_Walker:W.hasDictIn K C_Walker=true) (po_Walker:W.plainOver K C_Walker=true) (sa_Walker:W.findIn K (.ref C_Walker) "__setattr__"=some (some (.builtin "object.__setattr__"))) (mk_Walker:W.makesIn K C_Walker=true) (kc_Walker:W.keepIn K (.ref C_Walker)=true)
   {C_TextWalker:Addr} (aC_TextWalker:W.nsIn K mainGlobals "TextWalker"=some (some (.ref C_TextWalker))) (pg_TextWalker:W.plainGet K C_TextWalker Str.empty=true) (hd_TextWalker:W.hasDictIn K C_TextWalker=true) (po_TextWalker:W.plainOver K C_TextWalker=true) (sa_TextWalker:W.findIn K (.ref C_TextWalker) "__setattr__"=some (some (.builtin "object.__setattr__"))) (mk_TextWalker:W.makesIn K C_TextWalker=true) (kc_TextWalker:W.keepIn K (.ref C_TextWalker)=true)
   (zay:W.findIn K (.ref C_TextWalker) "flows"=some none)
   (zao:W.findIn K (.ref C_TextWalker) "stack"=some none)
   (zbc:W.findIn K (.ref C_TextWalker) "outcome"=some none)
   (zbw:W.findIn K (.ref C_TextWalker) "sendings"=some none)
   (zbv:W.findIn K (.ref C_TextWalker) "contents"=some none)
   (zb3:W.findIn K (.ref C_TextWalker) "records"=some none)
   {C_TextFrame:Addr} (aC_TextFrame:W.nsIn K mainGlobals "TextFrame"=some (some (.ref C_TextFrame))) (pg_TextFrame:W.plainGet K C_TextFrame Str.empty=true) (hd_TextFrame:W.hasDictIn K C_TextFrame=true) (po_TextFrame:W.plainOver K C_TextFrame=true) (sa_TextFrame:W.findIn K (.ref C_TextFrame) "__setattr__"=some (some (.builtin "object.__setattr__"))) (mk_TextFrame:W.makesIn K C_TextFrame=true) (kc_TextFrame:W.keepIn K (.ref C_TextFrame)=true)
   (za8:W.findIn K (.ref C_TextFrame) "function"=some none)
   (zbm:W.findIn K (.ref C_TextFrame) "row"=some none)
   (za4:W.findIn K (.ref C_TextFrame) "named"=some none)
   {X_GlassError NN_GlassError:Addr} {nm_GlassError qq_GlassError:Str} {bs_GlassError bm_GlassError:List Value} {sn_GlassError:List Str} {sub_GlassError:List Value} {ab_GlassError:Bool} {col_GlassError:Option Bool} {dd_GlassError:Option Addr} {k0_GlassError k1_GlassError k2_GlassError k3_GlassError k5_GlassError:Option Value}
   (xa_GlassError:W.nsIn K mainGlobals "GlassError"=some (some (.ref X_GlassError))) (xl_GlassError:K.lookup X_GlassError=some (excClassObj nm_GlassError qq_GlassError X_GlassError NN_GlassError bs_GlassError bm_GlassError true sn_GlassError sub_GlassError ab_GlassError col_GlassError dd_GlassError k0_GlassError k1_GlassError k2_GlassError k3_GlassError k5_GlassError "ValueError.__new__")) (xv_GlassError:Ex.veTail bm_GlassError=true) (xk_GlassError:W.keepIn K (.ref X_GlassError)=true) (xs_GlassError:W.findIn K (.ref X_GlassError) "__setattr__"=some (some (.builtin "object.__setattr__"))) (xg_GlassError:W.findIn K (.ref X_GlassError) "__getattribute__"=some (some (.builtin "BaseException.__getattribute__"))) (xt_GlassError:W.findIn K (.ref X_GlassError) "__getattr__"=some none) (xc_GlassError:W.findIn K (.ref X_GlassError) "__class__"=some (some (.builtin "object.__class__")))
   {X_NoName NN_NoName:Addr} {nm_NoName qq_NoName:Str} {bs_NoName bm_NoName:List Value} {sn_NoName:List Str} {sub_NoName:List Value} {ab_NoName:Bool} {col_NoName:Option Bool} {dd_NoName:Option Addr} {k0_NoName k1_NoName k2_NoName k3_NoName k5_NoName:Option Value}
   (xa_NoName:W.nsIn K mainGlobals "NoName"=some (some (.ref X_NoName))) (xl_NoName:K.lookup X_NoName=some (excClassObj nm_NoName qq_NoName X_NoName NN_NoName bs_NoName bm_NoName true sn_NoName sub_NoName ab_NoName col_NoName dd_NoName k0_NoName k1_NoName k2_NoName k3_NoName k5_NoName "ValueError.__new__")) (xv_NoName:Ex.veTail bm_NoName=true) (xk_NoName:W.keepIn K (.ref X_NoName)=true) (xs_NoName:W.findIn K (.ref X_NoName) "__setattr__"=some (some (.builtin "object.__setattr__"))) (xg_NoName:W.findIn K (.ref X_NoName) "__getattribute__"=some (some (.builtin "BaseException.__getattribute__"))) (xt_NoName:W.findIn K (.ref X_NoName) "__getattr__"=some none) (xc_NoName:W.findIn K (.ref X_NoName) "__class__"=some (some (.builtin "object.__class__")))
   (sg0:W.specialIn K (.builtin "object.__class__") "__get__"=some (some (.builtin "getset_descriptor.__get__"))) (tkX0:W.takesIn K (.builtin "object.__class__")=some true)
   {X_Ended:Addr} (xa_Ended:W.nsIn K mainGlobals "Ended"=some (some (.ref X_Ended)))
   (i0_NoName:W.findIn K (.ref X_NoName) "__init__"=some (some (.builtin "ValueError.__init__")))
   (e_NoName:W.mroIn K X_NoName (.ref X_GlassError)=some true)
   (kk_NoName_NoName:W.kitOne K (.ref X_NoName) (.ref X_NoName)=some true)
   (kk_NoName_Ended:W.kitOne K (.ref X_NoName) (.ref X_Ended)=some false)
   (kv_NoName:W.kitOne K (.ref X_NoName) (.type "ValueError")=some true)
   {f0:Addr} {y0:Fv} (a0:W.nsIn K mainGlobals "names_of"=some (some (.ref f0))) (l0:FL K f0 y0 "names_of" "names_of" zi0)
   {f1:Addr} {y1:Fv} (a1:W.nsIn K mainGlobals "reads"=some (some (.ref f1))) (l1:FL K f1 y1 "reads" "reads" zor)
   {f2:Addr} {y2:Fv} (a2:W.nsIn K mainGlobals "gives"=some (some (.ref f2))) (l2:FL K f2 y2 "gives" "gives" zpe)
   {f3:Addr} {y3:Fv} (a3:W.nsIn K mainGlobals "atoms_of"=some (some (.ref f3))) (l3:FL K f3 y3 "atoms_of" "atoms_of" ziz)
   {f4:Addr} {y4:Fv} (a4:W.nsIn K mainGlobals "each_once"=some (some (.ref f4))) (l4:FL K f4 y4 "each_once" "each_once" zho)
   {f5:Addr} {y5:Fv} (a5:W.nsIn K mainGlobals "ways"=some (some (.ref f5))) (l5:FL K f5 y5 "ways" "ways" zm9)
   {f6:Addr} {y6:Fv} (a6:W.nsIn K mainGlobals "begins_of"=some (some (.ref f6))) (l6:FL K f6 y6 "begins_of" "begins_of" zhb)
   {f7:Addr} {y7:Fv} (a7:W.nsIn K mainGlobals "firsts_behind"=some (some (.ref f7))) (l7:FL K f7 y7 "firsts_behind" "firsts_behind" zb9)
   {f8:Addr} {y8:Fv} (a8:W.findIn K (.ref C_Flows) "__init__"=some (some (.ref f8))) (i8:W.isFn K (.ref f8)=true) (l8:FL K f8 y8 "__init__" "Flows.__init__" zdz)
   {f9:Addr} {y9:Fv} (a9:W.nsIn K mainGlobals "value"=some (some (.ref f9))) (l9:FL K f9 y9 "value" "value" zpc)
   (ga10:W.specialIn K (.ref C_Walker) "__getattribute__"=some (some (.builtin "type.__getattribute__"))) (rd10:W.readsIn K C_Walker (.type "type")=true)
   {f10:Addr} {y10:Fv} (a10:W.findIn K (.ref C_Walker) "__init__"=some (some (.ref f10))) (i10:W.isFn K (.ref f10)=true) (l10:FL K f10 y10 "__init__" "Walker.__init__" zfp)
   (fc10:W.findCls K (.ref C_Walker) (.type "type") "__init__"=some (.val (.ref f10)))
   {f11:Addr} {y11:Fv} (a11:W.findIn K (.ref C_TextWalker) "ended"=some (some (.ref f11))) (i11:W.isFn K (.ref f11)=true) (l11:FL K f11 y11 "ended" "Walker.ended" zex)
   {f12:Addr} {y12:Fv} (a12:W.findIn K (.ref C_TextWalker) "answer"=some (some (.ref f12))) (i12:W.isFn K (.ref f12)=true) (l12:FL K f12 y12 "answer" "Walker.answer" zd6)
   {f13:Addr} {y13:Fv} (a13:W.findIn K (.ref C_TextWalker) "sent"=some (some (.ref f13))) (i13:W.isFn K (.ref f13)=true) (l13:FL K f13 y13 "sent" "Walker.sent" zhf)
   {f14:Addr} {y14:Fv} (a14:W.findIn K (.ref C_TextWalker) "field"=some (some (.ref f14))) (i14:W.isFn K (.ref f14)=true) (l14:FL K f14 y14 "field" "Walker.field" zev)
   {f15:Addr} {y15:Fv} (a15:W.findIn K (.ref C_TextWalker) "frames"=some (some (.ref f15))) (i15:W.isFn K (.ref f15)=true) (l15:FL K f15 y15 "frames" "Walker.frames" zd5)
   {f16:Addr} {y16:Fv} (a16:W.findIn K (.ref C_TextWalker) "told"=some (some (.ref f16))) (i16:W.isFn K (.ref f16)=true) (l16:FL K f16 y16 "told" "Walker.told" zft)
   {f17:Addr} {y17:Fv} (a17:W.findIn K (.ref C_TextWalker) "step"=some (some (.ref f17))) (i17:W.isFn K (.ref f17)=true) (l17:FL K f17 y17 "step" "Walker.step" zfo)
   {f18:Addr} {y18:Fv} (a18:W.findIn K (.ref C_TextWalker) "ask_for_level"=some (some (.ref f18))) (i18:W.isFn K (.ref f18)=true) (l18:FL K f18 y18 "ask_for_level" "Walker.ask_for_level" zci)
   {f19:Addr} {y19:Fv} (a19:W.findIn K (.ref C_TextWalker) "ask_for_name"=some (some (.ref f19))) (i19:W.isFn K (.ref f19)=true) (l19:FL K f19 y19 "ask_for_name" "Walker.ask_for_name" zcn)
   {f20:Addr} {y20:Fv} (a20:W.findIn K (.ref C_TextWalker) "names_at"=some (some (.ref f20))) (i20:W.isFn K (.ref f20)=true) (l20:FL K f20 y20 "names_at" "Walker.names_at" zdt)
   {f21:Addr} {y21:Fv} (a21:W.findIn K (.ref C_TextWalker) "send_out"=some (some (.ref f21))) (i21:W.isFn K (.ref f21)=true) (l21:FL K f21 y21 "send_out" "Walker.send_out" zdn)
   {f22:Addr} {y22:Fv} (a22:W.findIn K (.ref C_TextWalker) "put_field"=some (some (.ref f22))) (i22:W.isFn K (.ref f22)=true) (l22:FL K f22 y22 "put_field" "Walker.put_field" zdg)
   {f23:Addr} {y23:Fv} (a23:W.findIn K (.ref C_TextWalker) "make_record"=some (some (.ref f23))) (i23:W.isFn K (.ref f23)=true) (l23:FL K f23 y23 "make_record" "Walker.make_record" zcy)
   {f24:Addr} {y24:Fv} (a24:W.findIn K (.ref C_TextFrame) "__init__"=some (some (.ref f24))) (i24:W.isFn K (.ref f24)=true) (l24:FL K f24 y24 "__init__" "TextFrame.__init__" zdy)
   {f25:Addr} {y25:Fv} (a25:W.findIn K (.ref C_TextFrame) "value_of"=some (some (.ref f25))) (i25:W.isFn K (.ref f25)=true) (l25:FL K f25 y25 "value_of" "TextFrame.value_of" zcw)
   {f26:Addr} {y26:Fv} (a26:W.findIn K (.ref C_TextWalker) "__init__"=some (some (.ref f26))) (i26:W.isFn K (.ref f26)=true) (l26:FL K f26 y26 "__init__" "TextWalker.__init__" zdl)
   {f27:Addr} {y27:Fv} (a27:W.findIn K (.ref C_TextWalker) "chain_of"=some (some (.ref f27))) (i27:W.isFn K (.ref f27)=true) (l27:FL K f27 y27 "chain_of" "TextWalker.chain_of" zco)
   {f28:Addr} {y28:Fv} (a28:W.findIn K (.ref C_TextWalker) "shown_at"=some (some (.ref f28))) (i28:W.isFn K (.ref f28)=true) (l28:FL K f28 y28 "shown_at" "TextWalker.shown_at" zcj)
   {f29:Addr} {y29:Fv} (a29:W.findIn K (.ref C_TextWalker) "tell"=some (some (.ref f29))) (i29:W.isFn K (.ref f29)=true) (l29:FL K f29 y29 "tell" "TextWalker.tell" zdq)
   {f30:Addr} {y30:Fv} (a30:W.findIn K (.ref C_TextWalker) "walk_on"=some (some (.ref f30))) (i30:W.isFn K (.ref f30)=true) (l30:FL K f30 y30 "walk_on" "TextWalker.walk_on" za7)
   {f31:Addr} {y31:Fv} (a31:W.findIn K (.ref C_TextWalker) "begin"=some (some (.ref f31))) (i31:W.isFn K (.ref f31)=true) (l31:FL K f31 y31 "begin" "TextWalker.begin" zbz)
   {f32:Addr} {y32:Fv} (a32:W.findIn K (.ref C_TextWalker) "row_of"=some (some (.ref f32))) (i32:W.isFn K (.ref f32)=true) (l32:FL K f32 y32 "row_of" "TextWalker.row_of" zc6)
   {f33:Addr} {y33:Fv} (a33:W.findIn K (.ref C_TextWalker) "go_on"=some (some (.ref f33))) (i33:W.isFn K (.ref f33)=true) (l33:FL K f33 y33 "go_on" "TextWalker.go_on" zdh)
   {f34:Addr} {y34:Fv} (a34:W.findIn K (.ref C_TextWalker) "go_back"=some (some (.ref f34))) (i34:W.isFn K (.ref f34)=true) (l34:FL K f34 y34 "go_back" "TextWalker.go_back" zcv)
   {f35:Addr} {y35:Fv} (a35:W.findIn K (.ref C_TextWalker) "do_row"=some (some (.ref f35))) (i35:W.isFn K (.ref f35)=true) (l35:FL K f35 y35 "do_row" "TextWalker.do_row" zc7)
   {f36:Addr} {y36:Fv} (a36:W.findIn K (.ref C_TextWalker) "value_given"=some (some (.ref f36))) (i36:W.isFn K (.ref f36)=true) (l36:FL K f36 y36 "value_given" "TextWalker.value_given" zbx)
   {f37:Addr} {y37:Fv} (a37:W.findIn K (.ref C_TextWalker) "fill"=some (some (.ref f37))) (i37:W.isFn K (.ref f37)=true) (l37:FL K f37 y37 "fill" "TextWalker.fill" zdr)
   {f38:Addr} {y38:Fv} (a38:W.nsIn K mainGlobals "_law_cell_at"=some (some (.ref f38))) (l38:FL K f38 y38 "_law_cell_at" "_law_cell_at" zhj)
   {f39:Addr} {y39:Fv} (a39:W.nsIn K mainGlobals "_law_stream"=some (some (.ref f39))) (l39:FL K f39 y39 "_law_stream" "_law_stream" ziv)
   {f40:Addr} {y40:Fv} (a40:W.nsIn K mainGlobals "_law_names"=some (some (.ref f40))) (l40:FL K f40 y40 "_law_names" "_law_names" ze1)
   {f41:Addr} {y41:Fv} (a41:W.nsIn K mainGlobals "_law_value_by"=some (some (.ref f41))) (l41:FL K f41 y41 "_law_value_by" "_law_value_by" zgn)
   {f42:Addr} {y42:Fv} (a42:W.nsIn K mainGlobals "_law_atom"=some (some (.ref f42))) (l42:FL K f42 y42 "_law_atom" "_law_atom" zme)
   {f43:Addr} {y43:Fv} (a43:W.nsIn K mainGlobals "_law_row"=some (some (.ref f43))) (l43:FL K f43 y43 "_law_row" "_law_row" zoz)
   {f44:Addr} {y44:Fv} (a44:W.nsIn K mainGlobals "_law_worth"=some (some (.ref f44))) (l44:FL K f44 y44 "_law_worth" "_law_worth" zkl)
   {f45:Addr} {y45:Fv} (a45:W.nsIn K mainGlobals "_law_program"=some (some (.ref f45))) (l45:FL K f45 y45 "_law_program" "_law_program" zcs)
   {f46:Addr} {y46:Fv} (a46:W.nsIn K mainGlobals "_law_parts"=some (some (.ref f46))) (l46:FL K f46 y46 "_law_parts" "_law_parts" zkh)
   {f47:Addr} {y47:Fv} (a47:W.nsIn K mainGlobals "_law_frame"=some (some (.ref f47))) (l47:FL K f47 y47 "_law_frame" "_law_frame" zf0)
   {f48:Addr} {y48:Fv} (a48:W.nsIn K mainGlobals "_law_moved"=some (some (.ref f48))) (l48:FL K f48 y48 "_law_moved" "_law_moved" zez)
   {f49:Addr} {y49:Fv} (a49:W.nsIn K mainGlobals "_law_refused"=some (some (.ref f49))) (l49:FL K f49 y49 "_law_refused" "_law_refused" zhk)
   {f50:Addr} {y50:Fv} (a50:W.nsIn K mainGlobals "_law_stands"=some (some (.ref f50))) (l50:FL K f50 y50 "_law_stands" "_law_stands" zfu)
   {f51:Addr} {y51:Fv} (a51:W.nsIn K mainGlobals "_law_filled"=some (some (.ref f51))) (l51:FL K f51 y51 "_law_filled" "_law_filled" zeq)
   {f52:Addr} {y52:Fv} (a52:W.nsIn K mainGlobals "_law_deep"=some (some (.ref f52))) (l52:FL K f52 y52 "_law_deep" "_law_deep" zfr)
   {f53:Addr} {y53:Fv} (a53:W.nsIn K mainGlobals "law"=some (some (.ref f53))) (l53:FL K f53 y53 "law" "law" zo9)
   {tk0:Tok} (w0:W.nsIn K mainGlobals "WIDE"=some (some (.int 281474976710656 tk0)))
   {aT0:Addr} {odT0:Option Addr} {itT0:Array Value} {nT0:Nat} {slT0:Array (Option Value)} (q0:W.nsIn K mainGlobals "GIVING_KINDS"=some (some (.ref aT0))) (m0:K.lookup aT0=some ⟨.type "tuple",odT0,.seq itT0 nT0,slT0⟩) (v0:zcq (K12.giving.map V.str) itT0.toList) (s0:itT0.size<=sizeLine)
   {aD0:Addr} (qD0:W.nsIn K mainGlobals "ATOM_PLACES"=some (some (.ref aD0))) (mD0:PyProof.Rows.KTD.tabLook (zo1 K) (λa=>K.lookup a) aD0 K12.tabl=true)
   (z_ValueError:W.nsIn K mainGlobals "ValueError"=some none)
   (z_len:W.nsIn K mainGlobals "len"=some none)
   (z_list:W.nsIn K mainGlobals "list"=some none)
   (z_tuple:W.nsIn K mainGlobals "tuple"=some none)
   (z_isinstance:W.nsIn K mainGlobals "isinstance"=some none)
   (z_range:W.nsIn K mainGlobals "range"=some none)
   (z_enumerate:W.nsIn K mainGlobals "enumerate"=some none)
   (z_dict:W.nsIn K mainGlobals "dict"=some none)
   (z_str:W.nsIn K mainGlobals "str"=some none)
   (z_min:W.nsIn K mainGlobals "min"=some none)
   (z_max:W.nsIn K mainGlobals "max"=some none)
   (z_int:W.nsIn K mainGlobals "int"=some none)
   (z_zip:W.nsIn K mainGlobals "zip"=some none)
   (z_bool:W.nsIn K mainGlobals "bool"=some none)
   : ∃t,Txt K mg t:=by
 refine⟨⟨X_GlassError,X_NoName,X_Ended,C_Flows,C_Walker,C_TextWalker,C_TextFrame,f0,y0.fn "names_of" "names_of" zi0,f1,y1.fn "reads" "reads" zor,f2,y2.fn "gives" "gives" zpe,f3,y3.fn "atoms_of" "atoms_of" ziz,f4,y4.fn "each_once" "each_once" zho,f5,y5.fn "ways" "ways" zm9,f6,y6.fn "begins_of" "begins_of" zhb,f7,y7.fn "firsts_behind" "firsts_behind" zb9,f8,y8.fn "__init__" "Flows.__init__" zdz,f9,y9.fn "value" "value" zpc,f10,y10.fn "__init__" "Walker.__init__" zfp,f11,y11.fn "ended" "Walker.ended" zex,f12,y12.fn "answer" "Walker.answer" zd6,f13,y13.fn "sent" "Walker.sent" zhf,f14,y14.fn "field" "Walker.field" zev,f15,y15.fn "frames" "Walker.frames" zd5,f16,y16.fn "told" "Walker.told" zft,f17,y17.fn "step" "Walker.step" zfo,f18,y18.fn "ask_for_level" "Walker.ask_for_level" zci,f19,y19.fn "ask_for_name" "Walker.ask_for_name" zcn,f20,y20.fn "names_at" "Walker.names_at" zdt,f21,y21.fn "send_out" "Walker.send_out" zdn,f22,y22.fn "put_field" "Walker.put_field" zdg,f23,y23.fn "make_record" "Walker.make_record" zcy,f24,y24.fn "__init__" "TextFrame.__init__" zdy,f25,y25.fn "value_of" "TextFrame.value_of" zcw,f26,y26.fn "__init__" "TextWalker.__init__" zdl,f27,y27.fn "chain_of" "TextWalker.chain_of" zco,f28,y28.fn "shown_at" "TextWalker.shown_at" zcj,f29,y29.fn "tell" "TextWalker.tell" zdq,f30,y30.fn "walk_on" "TextWalker.walk_on" za7,f31,y31.fn "begin" "TextWalker.begin" zbz,f32,y32.fn "row_of" "TextWalker.row_of" zc6,f33,y33.fn "go_on" "TextWalker.go_on" zdh,f34,y34.fn "go_back" "TextWalker.go_back" zcv,f35,y35.fn "do_row" "TextWalker.do_row" zc7,f36,y36.fn "value_given" "TextWalker.value_given" zbx,f37,y37.fn "fill" "TextWalker.fill" zdr,f38,y38.fn "_law_cell_at" "_law_cell_at" zhj,f39,y39.fn "_law_stream" "_law_stream" ziv,f40,y40.fn "_law_names" "_law_names" ze1,f41,y41.fn "_law_value_by" "_law_value_by" zgn,f42,y42.fn "_law_atom" "_law_atom" zme,f43,y43.fn "_law_row" "_law_row" zoz,f44,y44.fn "_law_worth" "_law_worth" zkl,f45,y45.fn "_law_program" "_law_program" zcs,f46,y46.fn "_law_parts" "_law_parts" zkh,f47,y47.fn "_law_frame" "_law_frame" zf0,f48,y48.fn "_law_moved" "_law_moved" zez,f49,y49.fn "_law_refused" "_law_refused" zhk,f50,y50.fn "_law_stands" "_law_stands" zfu,f51,y51.fn "_law_filled" "_law_filled" zeq,f52,y52.fn "_law_deep" "_law_deep" zfr,f53,y53.fn "law" "law" zo9,aT0,aD0⟩,?_⟩;have bl:∀(s:Shared) (u:Value),BindsTo s (y53.fn "law" "law" zo9) ⟨[u],[]⟩ [("_law_script",u)]:=λs u=>.of_eq rfl;exact⟨(zpr X G xa_GlassError xl_GlassError xv_GlassError xk_GlassError xs_GlassError xg_GlassError xt_GlassError xc_GlassError sg0 tkX0),
   (zpr X G xa_NoName xl_NoName xv_NoName xk_NoName xs_NoName xg_NoName xt_NoName xc_NoName sg0 tkX0),
   (W.mg_of X G xa_Ended),
   (i0_NoName),
   (e_NoName),
   (kk_NoName_NoName),
   (kk_NoName_Ended),
   (kv_NoName),
   (zbf X G a0 l0.1 l0.2.1 l0.2.2 λ_ _ _ _ _ _ us hl=>match us,hl with | [_],_=>rfl),
   (zbf X G a1 l1.1 l1.2.1 l1.2.2 λ_ _ _ _ _ _ us hl=>match us,hl with | [_],_=>rfl),
   (zbf X G a2 l2.1 l2.2.1 l2.2.2 λ_ _ _ _ _ _ us hl=>match us,hl with | [_],_=>rfl),
   (zbf X G a3 l3.1 l3.2.1 l3.2.2 λ_ _ _ _ _ _ us hl=>match us,hl with | [_],_=>rfl),
   (zbf X G a4 l4.1 l4.2.1 l4.2.2 λ_ _ _ _ _ _ us hl=>match us,hl with | [_],_=>rfl),
   (zbf X G a5 l5.1 l5.2.1 l5.2.2 λ_ _ _ _ _ _ us hl=>match us,hl with | [_],_=>rfl),
   (zbf X G a6 l6.1 l6.2.1 l6.2.2 λ_ _ _ _ _ _ us hl=>match us,hl with | [_],_=>rfl),
   (zbf X G a7 l7.1 l7.2.1 l7.2.2 λ_ _ _ _ _ _ us hl=>match us,hl with | [_,_],_=>rfl),
   (zo3 mk_Flows kc_Flows a8 i8 l8.1 l8.2.1 l8.2.2 λ_ _ _ _ _ _ us hl=>match us,hl with | [_,_],_=>rfl),
   (zbf X G a9 l9.1 l9.2.1 l9.2.2 λ_ _ _ _ _ _ us hl=>match us,hl with | [_,_,_],_=>rfl),
   (zza ga10 rd10 fc10 l10.1 l10.2.1 l10.2.2 λ_ _ _ _ _ _ us hl=>match us,hl with | [_,_],_=>rfl),
   (zbg a11 i11 l11.1 l11.2.1 l11.2.2 λ_ _ _ _ _ _ us hl=>match us,hl with | [_],_=>rfl),
   (zbg a12 i12 l12.1 l12.2.1 l12.2.2 λ_ _ _ _ _ _ us hl=>match us,hl with | [_],_=>rfl),
   (zbg a13 i13 l13.1 l13.2.1 l13.2.2 λ_ _ _ _ _ _ us hl=>match us,hl with | [_],_=>rfl),
   (zbg a14 i14 l14.1 l14.2.1 l14.2.2 λ_ _ _ _ _ _ us hl=>match us,hl with | [_,_,_],_=>rfl),
   (zbg a15 i15 l15.1 l15.2.1 l15.2.2 λ_ _ _ _ _ _ us hl=>match us,hl with | [_],_=>rfl),
   (zbg a16 i16 l16.1 l16.2.1 l16.2.2 λ_ _ _ _ _ _ us hl=>match us,hl with | [_,_,_],_=>rfl),
   (zbg a17 i17 l17.1 l17.2.1 l17.2.2 λ_ _ _ _ _ _ us hl=>match us,hl with | [_],_=>rfl),
   (zbg a18 i18 l18.1 l18.2.1 l18.2.2 λ_ _ _ _ _ _ us hl=>match us,hl with | [_,_],_=>rfl),
   (zbg a19 i19 l19.1 l19.2.1 l19.2.2 λ_ _ _ _ _ _ us hl=>match us,hl with | [_,_,_],_=>rfl),
   (zbg a20 i20 l20.1 l20.2.1 l20.2.2 λ_ _ _ _ _ _ us hl=>match us,hl with | [_,_],_=>rfl),
   (zbg a21 i21 l21.1 l21.2.1 l21.2.2 λ_ _ _ _ _ _ us hl=>match us,hl with | [_,_],_=>rfl),
   (zbg a22 i22 l22.1 l22.2.1 l22.2.2 λ_ _ _ _ _ _ us hl=>match us,hl with | [_,_,_,_],_=>rfl),
   (zbg a23 i23 l23.1 l23.2.1 l23.2.2 λ_ _ _ _ _ _ us hl=>match us,hl with | [_],_=>rfl),
   (zo3 mk_TextFrame kc_TextFrame a24 i24 l24.1 l24.2.1 l24.2.2 λ_ _ _ _ _ _ us hl=>match us,hl with | [_,_,_],_=>rfl),
   (zbg a25 i25 l25.1 l25.2.1 l25.2.2 λ_ _ _ _ _ _ us hl=>match us,hl with | [_,_],_=>rfl),
   (zo3 mk_TextWalker kc_TextWalker a26 i26 l26.1 l26.2.1 l26.2.2 λ_ _ _ _ _ _ us hl=>match us,hl with | [_,_,_],_=>rfl),
   (zbg a27 i27 l27.1 l27.2.1 l27.2.2 λ_ _ _ _ _ _ us hl=>match us,hl with | [_,_],_=>rfl),
   (zbg a28 i28 l28.1 l28.2.1 l28.2.2 λ_ _ _ _ _ _ us hl=>match us,hl with | [_,_],_=>rfl),
   (zbg a29 i29 l29.1 l29.2.1 l29.2.2 λ_ _ _ _ _ _ us hl=>match us,hl with | [_,_,_],_=>rfl),
   (zbg a30 i30 l30.1 l30.2.1 l30.2.2 λ_ _ _ _ _ _ us hl=>match us,hl with | [_],_=>rfl),
   (zbg a31 i31 l31.1 l31.2.1 l31.2.2 λ_ _ _ _ _ _ us hl=>match us,hl with | [_,_,_],_=>rfl),
   (zbg a32 i32 l32.1 l32.2.1 l32.2.2 λ_ _ _ _ _ _ us hl=>match us,hl with | [_,_],_=>rfl),
   (zbg a33 i33 l33.1 l33.2.1 l33.2.2 λ_ _ _ _ _ _ us hl=>match us,hl with | [_,_,_],_=>rfl),
   (zbg a34 i34 l34.1 l34.2.1 l34.2.2 λ_ _ _ _ _ _ us hl=>match us,hl with | [_,_],_=>rfl),
   (zbg a35 i35 l35.1 l35.2.1 l35.2.2 λ_ _ _ _ _ _ us hl=>match us,hl with | [_,_,_],_=>rfl),
   (zbg a36 i36 l36.1 l36.2.1 l36.2.2 λ_ _ _ _ _ _ us hl=>match us,hl with | [_,_,_],_=>rfl),
   (zbg a37 i37 l37.1 l37.2.1 l37.2.2 λ_ _ _ _ _ _ us hl=>match us,hl with | [_,_,_,_],_=>rfl),
   (zbf X G a38 l38.1 l38.2.1 l38.2.2 λ_ _ _ _ _ _ us hl=>match us,hl with | [_,_],_=>rfl),
   (zbf X G a39 l39.1 l39.2.1 l39.2.2 λ_ _ _ _ _ _ us hl=>match us,hl with | [_,_],_=>rfl),
   (zbf X G a40 l40.1 l40.2.1 l40.2.2 λ_ _ _ _ _ _ us hl=>match us,hl with | [_,_],_=>rfl),
   (zbf X G a41 l41.1 l41.2.1 l41.2.2 λ_ _ _ _ _ _ us hl=>match us,hl with | [_],_=>rfl),
   (zbf X G a42 l42.1 l42.2.1 l42.2.2 λ_ _ _ _ _ _ us hl=>match us,hl with | [_,_],_=>rfl),
   (zbf X G a43 l43.1 l43.2.1 l43.2.2 λ_ _ _ _ _ _ us hl=>match us,hl with | [_,_],_=>rfl),
   (zbf X G a44 l44.1 l44.2.1 l44.2.2 λ_ _ _ _ _ _ us hl=>match us,hl with | [_,_],_=>rfl),
   (zbf X G a45 l45.1 l45.2.1 l45.2.2 λ_ _ _ _ _ _ us hl=>match us,hl with | [_,_],_=>rfl),
   (zbf X G a46 l46.1 l46.2.1 l46.2.2 λ_ _ _ _ _ _ us hl=>match us,hl with | [_],_=>rfl),
   (zbf X G a47 l47.1 l47.2.1 l47.2.2 λ_ _ _ _ _ _ us hl=>match us,hl with | [_,_],_=>rfl),
   (zbf X G a48 l48.1 l48.2.1 l48.2.2 λ_ _ _ _ _ _ us hl=>match us,hl with | [_,_],_=>rfl),
   (zbf X G a49 l49.1 l49.2.1 l49.2.2 λ_ _ _ _ _ _ us hl=>match us,hl with | [_,_,_,_],_=>rfl),
   (zbf X G a50 l50.1 l50.2.1 l50.2.2 λ_ _ _ _ _ _ us hl=>match us,hl with | [_,_],_=>rfl),
   (zbf X G a51 l51.1 l51.2.1 l51.2.2 λ_ _ _ _ _ _ us hl=>match us,hl with | [_,_,_,_],_=>rfl),
   (zbf X G a52 l52.1 l52.2.1 l52.2.2 λ_ _ _ _ _ _ us hl=>match us,hl with | [_,_],_=>rfl),
   (zbf X G a53 l53.1 l53.2.1 l53.2.2 λ_ _ _ _ _ _ us hl=>match us,hl with | [_],_=>rfl),
   ⟨⟨pg_Flows,hd_Flows,po_Flows,sa_Flows⟩,W.mg_of X G aC_Flows⟩,
   ⟨⟨pg_Walker,hd_Walker,po_Walker,sa_Walker⟩,W.mg_of X G aC_Walker⟩,
   ⟨⟨pg_TextWalker,hd_TextWalker,po_TextWalker,sa_TextWalker⟩,W.mg_of X G aC_TextWalker⟩,
   ⟨⟨pg_TextFrame,hd_TextFrame,po_TextFrame,sa_TextFrame⟩,W.mg_of X G aC_TextFrame⟩,
   zd3,
   zb8,
   zb7,
   zbr,
   zcg,
   zbp,
   zch,
   zay,
   zao,
   zbc,
   zbw,
   zbv,
   zb3,
   za8,
   zbm,
   za4,
   ⟨_,W.mg_of X G w0⟩,
   W.mg_of X G q0,
   (λH=>.inr ⟨_,itT0,nT0,m0,rfl,rfl,s0,v0⟩),
   W.mg_of X G qD0,
   zp1 mD0,
   W.mg_none_of X G z_ValueError,
   W.mg_none_of X G z_len,
   W.mg_none_of X G z_list,
   W.mg_none_of X G z_tuple,
   W.mg_none_of X G z_isinstance,
   W.mg_none_of X G z_range,
   W.mg_none_of X G z_enumerate,
   W.mg_none_of X G z_dict,
   W.mg_none_of X G z_str,
   W.mg_none_of X G z_min,
   W.mg_none_of X G z_max,
   W.mg_none_of X G z_int,
   W.mg_none_of X G z_zip,
   W.mg_none_of X G z_bool,
   bl⟩
end K26
open PySem PySem.W PyProof.Rows
set_option maxRecDepth 100000 in
set_option maxHeartbeats 0 in
theorem PySem.Challenge.cw_stopglass_k26_values_set_by_hand_holds : PySem.Challenge.rw_stopglass_k26_values_set_by_hand.Holds := by
 refine Hd.pk.2 ?_
 unfold Hd.pk
 dsimp only
 k_fill
 refine L2.walk_ofK (l:=PySem.Challenge.rw_stopglass_k26_values_set_by_hand) (n:=63) (k:=10) (x:="_law_script") (CX:=L2.CX0) (sp:=K26.sp_law) rfl (by decide) rfl ⟨rfl,by decide,by decide⟩ (λw h Y=>PySem.W.kIn_of Y) ?F ?S ?C
 case F =>
   intro w mg fa h KX G hmg;have T:∃t,K26.Txt (L2.KOf KX) mg t:=by
     dsimp only[L2.KOf]
     refine' K26.txt_mk KX G ?aC_Flows ?pg_Flows ?hd_Flows ?po_Flows ?sa_Flows ?mk_Flows ?kc_Flows ?zd3 ?zb8 ?zb7 ?zbr ?zcg ?zbp ?zch ?aC_Walker ?pg_Walker ?hd_Walker ?po_Walker ?sa_Walker ?mk_Walker ?kc_Walker ?aC_TextWalker ?pg_TextWalker ?hd_TextWalker ?po_TextWalker ?sa_TextWalker ?mk_TextWalker ?kc_TextWalker ?zay ?zao ?zbc ?zbw ?zbv ?zb3 ?aC_TextFrame ?pg_TextFrame ?hd_TextFrame ?po_TextFrame ?sa_TextFrame ?mk_TextFrame ?kc_TextFrame ?za8 ?zbm ?za4 ?xa_GlassError ?xl_GlassError ?xv_GlassError ?xk_GlassError ?xs_GlassError ?xg_GlassError ?xt_GlassError ?xc_GlassError ?xa_NoName ?xl_NoName ?xv_NoName ?xk_NoName ?xs_NoName ?xg_NoName ?xt_NoName ?xc_NoName ?sg0 ?tkX0 ?xa_Ended ?i0_NoName ?e_NoName ?kk_NoName_NoName ?kk_NoName_Ended ?kv_NoName ?a0 ?l0 ?a1 ?l1 ?a2 ?l2 ?a3 ?l3 ?a4 ?l4 ?a5 ?l5 ?a6 ?l6 ?a7 ?l7 ?a8 ?i8 ?l8 ?a9 ?l9 ?ga10 ?rd10 ?a10 ?i10 ?l10 ?fc10 ?a11 ?i11 ?l11 ?a12 ?i12 ?l12 ?a13 ?i13 ?l13 ?a14 ?i14 ?l14 ?a15 ?i15 ?l15 ?a16 ?i16 ?l16 ?a17 ?i17 ?l17 ?a18 ?i18 ?l18 ?a19 ?i19 ?l19 ?a20 ?i20 ?l20 ?a21 ?i21 ?l21 ?a22 ?i22 ?l22 ?a23 ?i23 ?l23 ?a24 ?i24 ?l24 ?a25 ?i25 ?l25 ?a26 ?i26 ?l26 ?a27 ?i27 ?l27 ?a28 ?i28 ?l28 ?a29 ?i29 ?l29 ?a30 ?i30 ?l30 ?a31 ?i31 ?l31 ?a32 ?i32 ?l32 ?a33 ?i33 ?l33 ?a34 ?i34 ?l34 ?a35 ?i35 ?l35 ?a36 ?i36 ?l36 ?a37 ?i37 ?l37 ?a38 ?l38 ?a39 ?l39 ?a40 ?l40 ?a41 ?l41 ?a42 ?l42 ?a43 ?l43 ?a44 ?l44 ?a45 ?l45 ?a46 ?l46 ?a47 ?l47 ?a48 ?l48 ?a49 ?l49 ?a50 ?l50 ?a51 ?l51 ?a52 ?l52 ?a53 ?l53 ?w0 ?q0 ?m0 ?v0 ?s0 ?qD0 ?mD0 ?z_ValueError ?z_len ?z_list ?z_tuple ?z_isinstance ?z_range ?z_enumerate ?z_dict ?z_str ?z_min ?z_max ?z_int ?z_zip ?z_bool
     (case aC_Flows=>k_is)
     (case pg_Flows=>k_is)
     (case hd_Flows=>k_is)
     (case po_Flows=>k_is)
     (case sa_Flows=>k_is)
     (case mk_Flows=>k_is)
     (case kc_Flows=>k_is)
     (case zd3=>k_is)
     (case zb8=>k_is)
     (case zb7=>k_is)
     (case zbr=>k_is)
     (case zcg=>k_is)
     (case zbp=>k_is)
     (case zch=>k_is)
     (case aC_Walker=>k_is)
     (case pg_Walker=>k_is)
     (case hd_Walker=>k_is)
     (case po_Walker=>k_is)
     (case sa_Walker=>k_is)
     (case mk_Walker=>k_is)
     (case kc_Walker=>k_is)
     (case aC_TextWalker=>k_is)
     (case pg_TextWalker=>k_is)
     (case hd_TextWalker=>k_is)
     (case po_TextWalker=>k_is)
     (case sa_TextWalker=>k_is)
     (case mk_TextWalker=>k_is)
     (case kc_TextWalker=>k_is)
     (case zay=>k_is)
     (case zao=>k_is)
     (case zbc=>k_is)
     (case zbw=>k_is)
     (case zbv=>k_is)
     (case zb3=>k_is)
     (case aC_TextFrame=>k_is)
     (case pg_TextFrame=>k_is)
     (case hd_TextFrame=>k_is)
     (case po_TextFrame=>k_is)
     (case sa_TextFrame=>k_is)
     (case mk_TextFrame=>k_is)
     (case kc_TextFrame=>k_is)
     (case za8=>k_is)
     (case zbm=>k_is)
     (case za4=>k_is)
     (case xa_GlassError=>k_is)
     (case xl_GlassError=>k_is)
     (case xv_GlassError=>first|k_is|kernel_rfl)
     (case xk_GlassError=>k_is)
     (case xs_GlassError=>k_is)
     (case xg_GlassError=>k_is)
     (case xt_GlassError=>k_is)
     (case xc_GlassError=>k_is)
     (case xa_NoName=>k_is)
     (case xl_NoName=>k_is)
     (case xv_NoName=>first|k_is|kernel_rfl)
     (case xk_NoName=>k_is)
     (case xs_NoName=>k_is)
     (case xg_NoName=>k_is)
     (case xt_NoName=>k_is)
     (case xc_NoName=>k_is)
     (case sg0=>first|k_is|kernel_rfl)
     (case tkX0=>first|k_is|kernel_rfl)
     (case xa_Ended=>k_is)
     (case i0_NoName=>first|k_is|kernel_rfl)
     (case e_NoName=>first|k_is|kernel_rfl)
     (case kk_NoName_NoName=>first|k_is|kernel_rfl)
     (case kk_NoName_Ended=>first|k_is|kernel_rfl)
     (case kv_NoName=>first|k_is|kernel_rfl)
     (case a0=>k_is)
     (case l0=>apply K26.fl_mk <;> k_is)
     (case a1=>k_is)
     (case l1=>apply K26.fl_mk <;> k_is)
     (case a2=>k_is)
     (case l2=>apply K26.fl_mk <;> k_is)
     (case a3=>k_is)
     (case l3=>apply K26.fl_mk <;> k_is)
     (case a4=>k_is)
     (case l4=>apply K26.fl_mk <;> k_is)
     (case a5=>k_is)
     (case l5=>apply K26.fl_mk <;> k_is)
     (case a6=>k_is)
     (case l6=>apply K26.fl_mk <;> k_is)
     (case a7=>k_is)
     (case l7=>apply K26.fl_mk <;> k_is)
     (case a8=>k_is)
     (case i8=>k_is)
     (case l8=>apply K26.fl_mk <;> k_is)
     (case a9=>k_is)
     (case l9=>apply K26.fl_mk <;> k_is)
     (case ga10=>first|k_is|kernel_rfl)
     (case rd10=>first|k_is|kernel_rfl)
     (case a10=>k_is)
     (case i10=>k_is)
     (case l10=>apply K26.fl_mk <;> k_is)
     (case fc10=>first|k_is|kernel_rfl)
     (case a11=>k_is)
     (case i11=>k_is)
     (case l11=>apply K26.fl_mk <;> k_is)
     (case a12=>k_is)
     (case i12=>k_is)
     (case l12=>apply K26.fl_mk <;> k_is)
     (case a13=>k_is)
     (case i13=>k_is)
     (case l13=>apply K26.fl_mk <;> k_is)
     (case a14=>k_is)
     (case i14=>k_is)
     (case l14=>apply K26.fl_mk <;> k_is)
     (case a15=>k_is)
     (case i15=>k_is)
     (case l15=>apply K26.fl_mk <;> k_is)
     (case a16=>k_is)
     (case i16=>k_is)
     (case l16=>apply K26.fl_mk <;> k_is)
     (case a17=>k_is)
     (case i17=>k_is)
     (case l17=>apply K26.fl_mk <;> k_is)
     (case a18=>k_is)
     (case i18=>k_is)
     (case l18=>apply K26.fl_mk <;> k_is)
     (case a19=>k_is)
     (case i19=>k_is)
     (case l19=>apply K26.fl_mk <;> k_is)
     (case a20=>k_is)
     (case i20=>k_is)
     (case l20=>apply K26.fl_mk <;> k_is)
     (case a21=>k_is)
     (case i21=>k_is)
     (case l21=>apply K26.fl_mk <;> k_is)
     (case a22=>k_is)
     (case i22=>k_is)
     (case l22=>apply K26.fl_mk <;> k_is)
     (case a23=>k_is)
     (case i23=>k_is)
     (case l23=>apply K26.fl_mk <;> k_is)
     (case a24=>k_is)
     (case i24=>k_is)
     (case l24=>apply K26.fl_mk <;> k_is)
     (case a25=>k_is)
     (case i25=>k_is)
     (case l25=>apply K26.fl_mk <;> k_is)
     (case a26=>k_is)
     (case i26=>k_is)
     (case l26=>apply K26.fl_mk <;> k_is)
     (case a27=>k_is)
     (case i27=>k_is)
     (case l27=>apply K26.fl_mk <;> k_is)
     (case a28=>k_is)
     (case i28=>k_is)
     (case l28=>apply K26.fl_mk <;> k_is)
     (case a29=>k_is)
     (case i29=>k_is)
     (case l29=>apply K26.fl_mk <;> k_is)
     (case a30=>k_is)
     (case i30=>k_is)
     (case l30=>apply K26.fl_mk <;> k_is)
     (case a31=>k_is)
     (case i31=>k_is)
     (case l31=>apply K26.fl_mk <;> k_is)
     (case a32=>k_is)
     (case i32=>k_is)
     (case l32=>apply K26.fl_mk <;> k_is)
     (case a33=>k_is)
     (case i33=>k_is)
     (case l33=>apply K26.fl_mk <;> k_is)
     (case a34=>k_is)
     (case i34=>k_is)
     (case l34=>apply K26.fl_mk <;> k_is)
     (case a35=>k_is)
     (case i35=>k_is)
     (case l35=>apply K26.fl_mk <;> k_is)
     (case a36=>k_is)
     (case i36=>k_is)
     (case l36=>apply K26.fl_mk <;> k_is)
     (case a37=>k_is)
     (case i37=>k_is)
     (case l37=>apply K26.fl_mk <;> k_is)
     (case a38=>k_is)
     (case l38=>apply K26.fl_mk <;> k_is)
     (case a39=>k_is)
     (case l39=>apply K26.fl_mk <;> k_is)
     (case a40=>k_is)
     (case l40=>apply K26.fl_mk <;> k_is)
     (case a41=>k_is)
     (case l41=>apply K26.fl_mk <;> k_is)
     (case a42=>k_is)
     (case l42=>apply K26.fl_mk <;> k_is)
     (case a43=>k_is)
     (case l43=>apply K26.fl_mk <;> k_is)
     (case a44=>k_is)
     (case l44=>apply K26.fl_mk <;> k_is)
     (case a45=>k_is)
     (case l45=>apply K26.fl_mk <;> k_is)
     (case a46=>k_is)
     (case l46=>apply K26.fl_mk <;> k_is)
     (case a47=>k_is)
     (case l47=>apply K26.fl_mk <;> k_is)
     (case a48=>k_is)
     (case l48=>apply K26.fl_mk <;> k_is)
     (case a49=>k_is)
     (case l49=>apply K26.fl_mk <;> k_is)
     (case a50=>k_is)
     (case l50=>apply K26.fl_mk <;> k_is)
     (case a51=>k_is)
     (case l51=>apply K26.fl_mk <;> k_is)
     (case a52=>k_is)
     (case l52=>apply K26.fl_mk <;> k_is)
     (case a53=>k_is)
     (case l53=>apply K26.fl_mk <;> k_is)
     (case w0=>k_is)
     (case q0=>k_is)
     (case m0=>k_is)
     (case v0=>(repeat (first|exact .nil|refine .cons ⟨_,rfl⟩ ?_)))
     (case s0=>decide)
     (case qD0=>k_is)
     (case mD0=>kernel_rfl)
     (case z_ValueError=>k_is)
     (case z_len=>k_is)
     (case z_list=>k_is)
     (case z_tuple=>k_is)
     (case z_isinstance=>k_is)
     (case z_range=>k_is)
     (case z_enumerate=>k_is)
     (case z_dict=>k_is)
     (case z_str=>k_is)
     (case z_min=>k_is)
     (case z_max=>k_is)
     (case z_int=>k_is)
     (case z_zip=>k_is)
     (case z_bool=>k_is)
   obtain⟨t,T⟩:=T;have e0:=hmg.symm.trans T.law.g;cases e0;exact⟨t.zz4,T.bl,λbase kb nb=>K26.ok_law T⟩
 case S=>exact λK H a ns hl hO hS=>⟨a,ns,rfl,hS,hl,λ_=>rfl⟩
 case C=>exact λ_ _ _ _ z=>z
