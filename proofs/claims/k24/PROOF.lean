import PyProof.Rows.All
import Wide.All
import OpenK.AllK
import Wide.FinOn
import Lean
import PyProof.EqAt
import PyProof.EqKinds
import PyProof.TupleCall
import KE.KDictLaws
import KE.KDictOf
import KE.KEqDict
import KE.BitLaws
import PyProof.ZipIter
import PyProof.Rows.ZipGen
import PyProof.Rows.StrSplitAre
import PyProof.ExcInit
import PyProof.ExcBaseAll.ValueError
import PyProof.PassesOwn
import PyProof.StationsW
import PyProof.InstStoreFacts
import PyProof.ExcAttrAll.ValueError
import PyProof.NsDelKeeps
import KE.KListMore
import PyProof.P3Eq
import PyProof.Rows.TupDisplay
import PyProof.StrLawsReplace
import PyProof.StrCalls6
import PyProof.Rows.StrStrike
import KE.IntTextText
import PySem.Challenge.RW_stopglass_k24_calls_and_backs
set_option Elab.async false
set_option linter.all false
set_option maxRecDepth 100000
section
namespace Hd
open PySem PySem.W PyProof.Rows
lay_quick PySem.W.topFrom
noncomputable abbrev TQ := PySem.W.Fast.tw370005188180407882 PySem.W.Fast.tw14364793385576792824
noncomputable abbrev OQ := PySem.W.Fast.tw4187177175401517315
noncomputable abbrev tp : Program := PySem.Challenge.pw_stopglass_k24_calls_and_backs
abbrev lo : List Str := [PySem.Str.ofString "ATOM_PLACES"]
def keeps : PySem.Stmt → Bool
 | .Assign [.Name x _] _ _ => !decide (x = "__name__")
 | _ => true
def viewOf (p : Program) : Program := { p with main := { p.main with body := p.main.body.filter keeps } }
abbrev Xf : Program → Shared → Bool := (fun p s => xlAt (viewOf p) [] s && recOk (RowW.records (OpenRow.toRowW (OpenLaw.row PySem.Challenge.rw_stopglass_k24_calls_and_backs))) s)
noncomputable def S0 (w : World) (os : OsState) : Shared := ⟨boot_heap w.params, Array.mk [], boot_drawn, boot_toks, os⟩
theorem ws : PySem.Challenge.rw_stopglass_k24_calls_and_backs.wellSaid = true := by kernel_rfl
section
local macro_rules | `(tactic| o_head $H) => `(tactic| (case Hk => exact $H))
noncomputable def hk : (H : Hook) ×' ((∀ P : Prop, P) → PySem.Challenge.rw_stopglass_k24_calls_and_backs.Holds) := by
 refine ⟨?Hk, fun h => ?m⟩
 rotate_left
 w_on; refine holds_law ws fun said => ?_; k_head; exact h _
end
theorem opt3 {σ α β γ : Type} {x : Option σ} {f : σ → α × β} {g : σ → γ} {a : α × β} {c : γ} (h1 : x.map (fun s => (f s).1) = some a.1) (h2 : x.map (fun s => (f s).2) = some a.2) (h3 : x.map g = some c) : x.map (fun s => (f s, g s)) = some (a, c) := by
 cases x with
 | none => cases h1
 | some s =>
  have e1 : (f s).1 = a.1 := Option.some.inj h1
  have e2 : (f s).2 = a.2 := Option.some.inj h2
  have e3 : g s = c := Option.some.inj h3
  show some (f s, g s) = some (a, c)
  rw [show f s = a from Prod.ext e1 e2, e3]
theorem r0a : ∀ (w : World) (os : OsState), (TQ tp (w.withFollow "special-get-raises" false) 20000 (S0 (w.withFollow "special-get-raises" false) os)).map (fun s => (OQ (viewOf tp) lo (importedModules tp.main.body) (Xf tp) true s).1) = some (openGood (viewOf tp) lo).1 := by
 intro w os; kernel_rfl
theorem r0b : ∀ (w : World) (os : OsState), (TQ tp (w.withFollow "special-get-raises" false) 20000 (S0 (w.withFollow "special-get-raises" false) os)).map (fun s => (OQ (viewOf tp) lo (importedModules tp.main.body) (Xf tp) true s).2) = some (openGood (viewOf tp) lo).2 := by
 intro w os; kernel_rfl
theorem r0c : ∀ (w : World) (os : OsState), (TQ tp (w.withFollow "special-get-raises" false) 20000 (S0 (w.withFollow "special-get-raises" false) os)).map (fun s => Hook.obs hk.1 s) = some (Hook.val hk.1 (w.withFollow "special-get-raises" false)) := by
 intro w os; kernel_rfl
theorem r0 : ∀ (w : World) (os : OsState), (TQ tp (w.withFollow "special-get-raises" false) 20000 (S0 (w.withFollow "special-get-raises" false) os)).map (fun s => (OQ (viewOf tp) lo (importedModules tp.main.body) (Xf tp) true s, Hook.obs hk.1 s)) = some (openGood (viewOf tp) lo, Hook.val hk.1 (w.withFollow "special-get-raises" false)) := fun w os => opt3 (r0a w os) (r0b w os) (r0c w os)
theorem r1a : ∀ (w : World) (os : OsState), (TQ tp (w.withFollow "special-get-raises" true) 20000 (S0 (w.withFollow "special-get-raises" true) os)).map (fun s => (OQ (viewOf tp) lo (importedModules tp.main.body) (Xf tp) true s).1) = some (openGood (viewOf tp) lo).1 := by
 intro w os; kernel_rfl
theorem r1b : ∀ (w : World) (os : OsState), (TQ tp (w.withFollow "special-get-raises" true) 20000 (S0 (w.withFollow "special-get-raises" true) os)).map (fun s => (OQ (viewOf tp) lo (importedModules tp.main.body) (Xf tp) true s).2) = some (openGood (viewOf tp) lo).2 := by
 intro w os; kernel_rfl
theorem r1c : ∀ (w : World) (os : OsState), (TQ tp (w.withFollow "special-get-raises" true) 20000 (S0 (w.withFollow "special-get-raises" true) os)).map (fun s => Hook.obs hk.1 s) = some (Hook.val hk.1 (w.withFollow "special-get-raises" true)) := by
 intro w os; kernel_rfl
theorem r1 : ∀ (w : World) (os : OsState), (TQ tp (w.withFollow "special-get-raises" true) 20000 (S0 (w.withFollow "special-get-raises" true) os)).map (fun s => (OQ (viewOf tp) lo (importedModules tp.main.body) (Xf tp) true s, Hook.obs hk.1 s)) = some (openGood (viewOf tp) lo, Hook.val hk.1 (w.withFollow "special-get-raises" true)) := fun w os => opt3 (r1a w os) (r1b w os) (r1c w os)
theorem left_twin {p p' : Program} {F : Program → Program} {X : Program → Shared → Bool} {loose : List Str} {α : Type} {Yf : Shared → α} {Ya : World → α} {N : Nat} {g0 : Bool} (row : String) (ep : p = p') (e : opening p = plainProg p.main.scope.names) (hN : Nat.ble 600 N = true) (f : ∀ s, fenceModules? p s = some s)
  (h0 : ∀ (w : World) (os : OsState), (TQ p' (w.withFollow row false) N (S0 (w.withFollow row false) os)).map (fun s => (OQ (F p') loose (importedModules p'.main.body) (X p') g0 s, Yf s)) = some (openGood (F p') loose, Ya (w.withFollow row false)))
  (h1 : ∀ (w : World) (os : OsState), (TQ p' (w.withFollow row true) N (S0 (w.withFollow row true) os)).map (fun s => (OQ (F p') loose (importedModules p'.main.body) (X p') g0 s, Yf s)) = some (openGood (F p') loose, Ya (w.withFollow row true))) : LeftO p (F p) loose (X p) Yf Ya N g0 := fun w => by
 subst ep
 have key : ∀ b, (openEnds treeTable p (w.withFollow row b) N).map (fun s => (openSeen (F p) loose (importedModules p.main.body) (X p) g0 s, Yf s)) = some (openGood (F p) loose, Ya (w.withFollow row b)) := by
  intro b
  obtain ⟨s, hs, hv⟩ := Option.map_eq_some_iff.mp (boot_open e hN f (w.withFollow row b))
  have es : s = S0 (w.withFollow row b) s.os := by
   cases s
   simp only [Prod.mk.injEq] at hv
   obtain ⟨a1, a2, a3, a4⟩ := hv
   subst a1 a2 a3 a4
   rfl
  unfold openEnds
  rw [hs, es, PySem.W.Fast.te370005188180407882, PySem.W.Fast.te14364793385576792824, PySem.W.Fast.te4187177175401517315]
  cases b
  . exact h0 w s.os
  . exact h1 w s.os
 have e0 := World.withFollow_self w row
 have := key (w.params.followText row)
 rwa [e0] at this
theorem left : LeftO PySem.Challenge.pw_stopglass_k24_calls_and_backs (viewOf PySem.Challenge.pw_stopglass_k24_calls_and_backs) lo (Xf PySem.Challenge.pw_stopglass_k24_calls_and_backs) (Hook.obs hk.1) (Hook.val hk.1) 20000 true :=
 left_twin (p := PySem.Challenge.pw_stopglass_k24_calls_and_backs) (p' := tp) (F := viewOf) (X := Xf) (loose := lo) (Yf := Hook.obs hk.1) (Ya := Hook.val hk.1) (N := 20000) (g0 := true) "special-get-raises" rfl (by kernel_rfl) (by decide) (fun s => by kernel_rfl) r0 r1
theorem left_of {H : Hook} (e : H = hk.1) : LeftO PySem.Challenge.pw_stopglass_k24_calls_and_backs (viewOf PySem.Challenge.pw_stopglass_k24_calls_and_backs) lo (Xf PySem.Challenge.pw_stopglass_k24_calls_and_backs) (Hook.obs H) (Hook.val H) 20000 true := by subst e; exact left
local macro_rules | `(tactic| o_head $H) => `(tactic| (
 refine holds_open (q := viewOf PySem.Challenge.pw_stopglass_k24_calls_and_backs) (loose := lo) (Xt := Xf PySem.Challenge.pw_stopglass_k24_calls_and_backs) (XP := XL (viewOf PySem.Challenge.pw_stopglass_k24_calls_and_backs) []) (Yf := Hook.obs $H) (Ya := Hook.val $H) (YP := Hook.says $H) (N := 20000) ?hl (Hook.of $H) (Hook.keeps $H) (fun s e => xl_of s (Bool.and_eq_true_iff.mp e).1) XL.keeps (by rfl) (by rfl) (by rfl) (fun s e => recFacts_of (Bool.and_eq_true_iff.mp e).2) (by rfl) (by assumption) (by decide +kernel) ⟨rfl, rfl, rfl, rfl, rfl, by decide +kernel⟩ ?hw ?hc
 (case hl => exact left_of (H := $H) (by kernel_rfl))))
set_option maxHeartbeats 0 in
noncomputable def pk : (G : Prop) ×' (G → PySem.Challenge.rw_stopglass_k24_calls_and_backs.Holds) := by
 refine' ⟨_, fun h => _⟩
 rotate_left
 w_on; refine holds_law ws fun said => ?_; k_head; (case hw => w_witness2)
 exact h
end Hd
end
abbrev qae:=@Nat.le_refl
abbrev qam:=@Bool.false_ne_true
abbrev qao:=@PySem.Heap.get?_push_size
abbrev qat:=@PySem.F.plainAttrs_list
abbrev qax:=@List.getElem?_of_mem
abbrev qay:=@List.length_take
abbrev qaz:=@PySem.F.slot_list_append
abbrev qa0:=@PySem.F.type_list_append
abbrev qa1:=@List.length_singleton
abbrev qa2:=@List.map_cons
abbrev qa3:=@Bool.and_eq_true
abbrev qa4:=@Nat.zero_le
abbrev qa5:=@Nat.ne_of_lt
abbrev qa6:=@List.foldl_cons
abbrev qa7:=@Nat.lt_or_ge
abbrev qa8:=@List.length_cons
abbrev qa9:=@Int.toNat_natCast
abbrev qba:=@List.foldl_append
abbrev qbb:=@List.getElem?_eq_none
abbrev qbc:=@List.append_nil
abbrev qbd:=@List.getElem?_append_left
abbrev qbe:=@List.mem_append_left
abbrev qbf:=@Nat.lt_irrefl
abbrev qbg:=@List.take_add_one
abbrev qbh:=@List.take_of_length_le
abbrev qbi:=@List.not_mem_nil
abbrev qbj:=@List.eq_nil_or_concat
abbrev qbk:=@List.concat_eq_append
abbrev qbl:=@PyProof.Rows.slot_tuple_getitem
abbrev qbm:=@List.getElem?_append_right
abbrev qbn:=@PySem.Heap.get?_update_other
abbrev qbo:=@List.nodup_append
abbrev qbp:=@List.getElem?_take_of_lt
abbrev qbq:=@PyProof.Rows.callWith_type1
abbrev qbr:=@List.length_drop
abbrev qbs:=@List.take_length
abbrev qbt:=@List.map_map
abbrev qbu:=@List.getD_eq_getElem?_getD
abbrev qbv:=@Int.toNat_of_nonneg
abbrev qbw:=@Nat.lt_of_le_of_lt
abbrev qbx:=@PySem.Heap.size_push
abbrev qby:=@Int.eq_ofNat_of_zero_le
abbrev qbz:=@Bool.eq_iff_iff
abbrev qb0:=@List.replicate_succ
abbrev qb1:=@Nat.le_of_lt
abbrev qb2:=@PySem.F.excBase_ValueError
abbrev qb3:=@List.lookup_cons
abbrev qb4:=@PySem.Heap.get?_update_self
abbrev qb5:=@List.getElem?_eq_none_iff
abbrev qb6:=@List.getElem?_zip_eq_some
abbrev qb7:=@List.length_nil
abbrev qb8:=@List.mem_of_mem_take
abbrev qb9:=@List.getElem?_inj
abbrev qca:=@Nat.lt_succ_self
abbrev qcb:=@List.getElem_mem
abbrev qcc:=@List.any_eq_true
abbrev qcd:=@Nat.ne_of_gt
abbrev qce:=@Bool.false_eq_true
abbrev qcf:=@List.length_zip
abbrev qcg:=@PySem.F.slot_tuple_iterator_next
abbrev qch:=@Array.getElem?_eq_some_iff
abbrev qci:=@List.flatten_cons
abbrev qcj:=@List.ext_getElem?
abbrev qck:=@List.getElem?_set_ne
abbrev qcl:=@Nat.le_succ
abbrev qcm:=@List.map_nil
abbrev qcn:=@Option.bind_some
abbrev qco:=@List.find?_cons
abbrev qcp:=@Nat.min_eq_left
abbrev qcq:=@List.getElem?_set_self
abbrev qcr:=@List.drop_eq_nil_of_le
abbrev qcs:=@List.append_assoc
abbrev qct:=@PySem.Heap.get?_none_of_le
abbrev qcu:=@List.mem_of_mem_drop
abbrev qcv:=@List.of_mem_zip
abbrev qcw:=@List.length_set
abbrev qcx:=@Nat.not_lt_zero
abbrev qcy:=@Option.isSome_iff_exists
abbrev qcz:=@PySem.F.slot_list_getattribute
abbrev qc0:=@PySem.F.plainAttrs_dict
abbrev qc1:=@List.length_eq_zero_iff
abbrev qc2:=@Option.map_eq_some_iff
abbrev qc3:=@PyProof.Rows.bitOr_and
abbrev qc4:=@List.any_cons
abbrev qc5:=@List.mem_flatMap
abbrev qc6:=@PySem.F.slot_dict_get
abbrev qc7:=@PySem.F.slot_list_pop
abbrev qc8:=@PySem.F.type_list_pop
abbrev qc9:=@List.nodup_cons
abbrev qda:=@List.forIn_cons
abbrev qdb:=@Option.map_some
abbrev qdc:=@PySem.F.slot_zip_next
abbrev qdd:=@PySem.F.slot_dict_itemiterator_iter
abbrev qde:=@List.eq_nil_of_length_eq_zero
abbrev qdf:=@List.filterMap_cons
abbrev qdg:=@Array.length_toList
abbrev qdh:=@List.mem_range
abbrev qdi:=@List.drop_zero
abbrev qdj:=@PySem.F.args_tuple_iterator_next_1
abbrev qdk:=@PySem.F.slot_dict_setdefault
abbrev qdl:=@List.mem_filterMap
abbrev qdm:=@PySem.F.entry_tuple_iterator_next
abbrev qdn:=@Int.emod_lt_of_pos
abbrev qdo:=@PySem.F.attrBase_ValueError
abbrev qdp:=@List.zip_cons_cons
abbrev qdq:=@Int.fdiv_eq_ediv_of_nonneg
abbrev qdr:=@Nat.mod_two_eq_zero_or_one
abbrev qds:=@List.take_sublist
abbrev qdt:=@Option.isSome_map
abbrev qdu:=@List.flatMap_cons
abbrev qdv:=@List.length_range
abbrev qdw:=@List.all_eq_true
abbrev qdx:=@PySem.F.slot_list_extend
abbrev qdy:=@PySem.F.type_list_extend
abbrev qdz:=@Int.zero_add
abbrev qd0:=@PySem.F.args_dict_get_3
abbrev qd1:=@PySem.F.slot_dict_items
abbrev qd2:=@Int.emod_nonneg
abbrev qd3:=@List.nodup_nil
abbrev qd4:=@List.forIn_nil
abbrev qd5:=@Bool.or_false
local macro_rules | `(tactic| walk_at "s") => `(tactic| exact ⟨rfl, rfl, rfl, by decide +kernel, rfl, by decide +kernel, by decide +kernel⟩)
namespace K11
end K11
namespace L2
open PySem PySem.Spec PyProof.Rows
abbrev Key:=Sum Int Str
def zsr:Key->Value->Bool
 | .inl k,v=>Value.isInt k v
 | .inr x,v=>Value.isStrOf x v
def keyH (w:World):Key->Int
 | .inl k=>hashInt k
 | .inr x=>hashStr w x
theorem zc0:∀{k:Key} {v:Value},zsr k v=true->(∃i t,k=Sum.inl i/\v=Value.int i t)\/(∃x t,k=Sum.inr x/\v=Value.str x t)
 | .inl i,v,h=>by obtain⟨t,e⟩:=Value.isInt_shape (k:=i) (v:=v) h;exact .inl ⟨i,t,rfl,e⟩
 | .inr x,v,h=>by obtain⟨t,e⟩:=Value.isStrOf_shape (x:=x) (v:=v) h;exact .inr ⟨x,t,rfl,e⟩
theorem zx6 (i:Int) (t:Tok):zsr (.inl i) (.int i t)=true:=by simp [zsr,Value.isInt]
theorem zw3 (x:Str) (t:Tok):zsr (.inr x) (.str x t)=true:=by simp [zsr,Value.isStrOf]
theorem z3l (a b:Int):decide ((Sum.inl a:Key)=Sum.inl b)=(a==b):=by
 by_cases e:a=b
 . subst e; simp
 . have h:¬ (Sum.inl a:Key)=Sum.inl b:=λq=>e (Sum.inl.inj q);rw[decide_eq_false h];exact(beq_eq_false_iff_ne.mpr e).symm
theorem z4v (a b:Str):decide ((Sum.inr a:Key)=Sum.inr b)=decide (a=b):=by
 by_cases e:a=b
 . subst e; simp
 . have h:¬ (Sum.inr a:Key)=Sum.inr b:=λq=>e (Sum.inr.inj q);rw[decide_eq_false h,decide_eq_false e]
theorem z3r (a:Int) (b:Str):decide ((Sum.inl a:Key)=Sum.inr b)=false:=decide_eq_false (λq=>nomatch q)
theorem z5f (a:Str) (b:Int):decide ((Sum.inr a:Key)=Sum.inl b)=false:=decide_eq_false (λq=>nomatch q)
def zbo (prog:Program) (w:World):PySem.KeyKind prog w Key where
 is:=zsr
 hash:=keyH w
 inj:=λv a b ha hb=>by
   rcases zc0 ha with⟨i,t,rfl,rfl⟩|⟨x,t,rfl,rfl⟩
   . rcases zc0 hb with⟨j,u,rfl,e⟩|⟨y,u,rfl,e⟩
     . injection e with e1 _; rw[e1]
     . exact nomatch e
   . rcases zc0 hb with⟨j,u,rfl,e⟩|⟨y,u,rfl,e⟩
     . exact nomatch e
     . injection e with e1 _; rw[e1]
 byValue:=λk v h=>by rcases zc0 h with⟨i,t,rfl,rfl⟩|⟨x,t,rfl,rfl⟩ <;> rfl
 pyHash:=λhv h=>by
   rcases zc0 hv with⟨i,t,rfl,rfl⟩|⟨x,t,rfl,rfl⟩
   . exact wpAny_pyHash_int h
   . exact wpAny_pyHash_str h
 eqBool:=λhu hv h=>by
   rcases zc0 hu with⟨i,t,rfl,rfl⟩|⟨x,t,rfl,rfl⟩
   . rcases zc0 hv with⟨j,u,rfl,rfl⟩|⟨y,u,rfl,rfl⟩
     . rw[z3l] at h; exact wpAny_eqBool_int h
     . rw[z3r] at h; exact SeqAt.EqAt.int_str i t y u _ _ _ _ h
   . rcases zc0 hv with⟨j,u,rfl,rfl⟩|⟨y,u,rfl,rfl⟩
     . rw[z5f] at h; exact SeqAt.EqAt.str_int x t j u _ _ _ _ h
     . rw[z4v] at h; exact wpAny_eqBool_str h
 «strs»:=λk x t v h=>by
   rcases zc0 h with⟨i,u,rfl,e⟩|⟨y,u,rfl,e⟩
   . exact nomatch e
   . injection e with e1 _
     subst e1;cases v <;> rfl
theorem zs5 (prog:Program) (w:World) (i:Int) (t:Tok):(zbo prog w).is (.inl i) (.int i t)=true:=zx6 i t
theorem zs0 (prog:Program) (w:World) (x:Str) (t:Tok):(zbo prog w).is (.inr x) (.str x t)=true:=zw3 x t
inductive V where
 | non|bl (b:Bool)|int (i:Int)|str (x:Str)|byt (b:Array UInt8)|flt (b:UInt64)|ref (a:Addr)|ty (n:String)
 deriving DecidableEq
def zdg:V->Value->Prop
 | .non,u=>u=Value.none
 | .bl b,u=>u=Value.bool b
 | .int i,u=>∃t,u=Value.int i t
 | .str x,u=>∃t,u=Value.str x t
 | .byt b,u=>∃t,u=Value.bytes b t
 | .flt b,u=>∃t,u=Value.float b t
 | .ref a,u=>u=Value.ref a
 | .ty n,u=>u=Value.type n
abbrev zcw:List V->List Value->Prop:=Paired zdg
theorem zcw.length {xs:List V} {us:List Value} (r:zcw xs us):xs.length=us.length:=Paired.length r
theorem zcw.get:∀{xs:List V} {us:List Value} {i:Nat} {x:V},zcw xs us->xs[i]?=some x->∃u,us[i]?=some u/\zdg x u
 | _,_,_,_,.nil,e=>by simp at e
 | _,_,0,_,.cons r _,e=>by simp at e; subst e; exact⟨_,rfl,r⟩
 | _,_,i+1,x,.cons _ t,e=>by obtain⟨u,h1,h2⟩:=zcw.get (i:=i) (x:=x) t (by simpa using e);exact⟨u,by simpa using h1,h2⟩
theorem zcw.set {x:V} {u:Value} (r:zdg x u):∀{xs:List V} {us:List Value} (i:Nat),zcw xs us->zcw (xs.set i x) (us.set i u)
 | _,_,_,.nil=>.nil
 | _,_,0,.cons _ t=>.cons r t
 | _,_,i+1,.cons q t=>.cons q (zcw.set r i t)
theorem zcw.append:∀{xs ys:List V} {us ws:List Value},zcw xs us->zcw ys ws->zcw (xs++ys) (us++ws)
 | _,_,_,_,.nil,s=>s
 | _,_,_,_,.cons r t,s=>.cons r (zcw.append t s)
theorem zcw.take:∀{xs:List V} {us:List Value} (n:Nat),zcw xs us->zcw (xs.take n) (us.take n)
 | _,_,0,_=>.nil
 | _,_,_+1,.nil=>.nil
 | _,_,n+1,.cons r t=>.cons r (zcw.take n t)
theorem zcw.drop:∀{xs:List V} {us:List Value} (n:Nat),zcw xs us->zcw (xs.drop n) (us.drop n)
 | _,_,0,r=>r
 | _,_,_+1,.nil=>.nil
 | _,_,n+1,.cons _ t=>zcw.drop n t
theorem zcw.none_of:∀{xs:List V} {us:List Value} {i:Nat},zcw xs us->xs[i]?=none->us[i]?=none:=λ{xs us i} r e=>by have h1:=r.length;have h2:xs.length<=i:=qb5.mp e;exact qb5.mpr (by omega)
def zp6:Option V->Option Value->Prop
 | some v,some u=>zdg v u
 | none,none=>True
 | _,_=>False
def KV {κ:Type}:List (κ×V)->List (κ×Value)->Prop:=Paired λ(p:κ×V) (q:κ×Value)=>p.1=q.1/\zdg p.2 q.2
def kV:Key->V
 | .inl i=>.int i
 | .inr x=>.str x
inductive HO where
 | lst (xs:List V)
 | tup (xs:List V)
 | dK (kvs:List (Key×V))|dT (kvs:List (List Key×V))
 | set (S:Int->Bool) (n:Nat)
 | ins (C dx:Addr) (fs:List (Str×V))
 | own (x:Addr)
 | xd (fs:List (Str×V))
 | met (f x:Addr)
 | rng (lo hi:Int)
 | frz (o:Obj) (u:HO)
 | tbl (ps:Array Value)
 | ext (φ:Heap->Prop)
abbrev Hp:=Addr->Option HO
def upd (H:Hp) (a:Addr) (o:HO):Hp:=λb=>if b=a then some o else H b
theorem zab {H:Hp} {a:Addr} {o:HO}:upd H a o a=some o:=by unfold upd; rw[if_pos rfl]
theorem zag {H:Hp} {a b:Addr} {o:HO} (h:b≠a):upd H a o b=H b:=by unfold upd; rw[if_neg h]
theorem znq {H:Hp} {a:Addr} {o u:HO}:upd (upd H a o) a u=upd H a u:=by funext b; unfold upd; split <;> rfl
theorem zsa {H:Hp} {a b:Addr} {o u:HO} (h:H a=some o) (h':H b=some u) (d:o≠u):a≠b:=by intro e; subst e; rw[h] at h'; exact d (Option.some.inj h')
theorem za3 {H:Hp} {a b:Addr} {o:HO} (h:H a=some o) (h':H b=none):a≠b:=by intro e; subst e; rw[h] at h'; cases h'
section
variable (P:Program) (w:World)
def zdu (H:Hp) (h:Heap) (a:Addr):HO->Prop
 | .lst xs=>xs.length<=sizeLine/\∃(its:List Value) (n:Nat),zcw xs its/\h.get? a=some { cls:=.type "list",data:=.seq its.toArray n }
 | .tup xs=>xs.length<=sizeLine/\∃its:List Value,zcw xs its/\IsTup h a its.toArray
 | .dK kvs=>kvs.length<=sizeLine/\(a==sysModules)=false/\∃vs,KV kvs vs/\h.DictOf (zbo P w) a vs
 | .dT kvs=>kvs.length<=sizeLine/\(a==sysModules)=false/\∃xs:List (List Key×Addr×Value),
     Paired (λ(p:List Key×V) (q:List Key×Addr×Value)=>p.1=q.1/\H q.2.1=some (.tup (p.1.map kV))/\zdg p.2 q.2.2) kvs xs /\
     ∃o es ep,h.get? a=some o/\o.ExactDict/\o.data=.dict es ep/\es.toList=xs.map (entryOfKey (tupleKind (zbo P w)))/\(xs.map (·.1)).Nodup
 | .set S n=>h.SetOf (intKind P w) a S n
 | .ins C dx fs=>H dx=some (.own a)/\fs.length<=1000/\dx≠a/\h.get? a=some (PySem.W.instObj C dx) /\
     ∃mA,h.Ns1 dx mA/\(∀f,zp6 (fs.lookup f) (mA f))/\PySem.Within mA (fs.map (·.1))
 | .own _=>∃o,h.get? a=some o
 | .xd fs=>∃mA,h.Ns1 a mA/\∀f,zp6 (fs.lookup f) (mA f)
 | .rng lo hi=>∃t u v,h.get? a=some { cls:=.type "range",data:=.fields #[.int lo t,.int hi u,.int 1 v] }
 | .frz o u=>h.get? a=some o/\zdu H h a u
 | .tbl ps=>h.get? a=some { cls:=.none,data:=.fields ps }
 | .met f x=>h.get? a=some (PySem.W.methodObj (.ref f) (.ref x))
 | .ext φ=>φ h/\(∃o,h.get? a=some o)/\∀h1 h2:Heap,φ h1->(∀o,h1.get? a=some o->h2.get? a=some o)->φ h2
def HOk (H:Hp) (h:Heap):Prop:=∀a o,H a=some o->zdu P w H h a o
end
section
variable {P:Program} {w:World} {H H':Hp} {h h':Heap} {a:Addr} {o:HO}
theorem zdu.lt (x:zdu P w H h a o):a<h.objs.size:=by
 cases o with
 | lst xs=>obtain⟨_,_,_,_,e⟩:=x; exact Heap.lt_size e
 | tup xs=>obtain⟨_,_,_,p⟩:=x; exact p.lt
 | dK kvs=>obtain⟨_,_,_,_,o,_,_,e,_⟩:=x; exact Heap.lt_size e
 | dT kvs=>obtain⟨_,_,_,_,o,_,_,e,_⟩:=x; exact Heap.lt_size e
 | set S n=>obtain⟨o,_,_,_,e,_⟩:=x; exact Heap.lt_size e
 | ins C dx fs=>obtain⟨_,_,_,e,_⟩:=x; exact Heap.lt_size e
 | own y=>obtain⟨_,e⟩:=x; exact Heap.lt_size e
 | xd fs=>obtain⟨_,⟨_,_,_,e,_⟩,_⟩:=x; exact Heap.lt_size e
 | rng lo hi=>obtain⟨_,_,_,e⟩:=x; exact Heap.lt_size e
 | frz ob u=>obtain⟨e,_⟩:=x; exact Heap.lt_size e
 | tbl ps=>exact Heap.lt_size (show h.get? a=some _ from x)
 | met f y=>exact Heap.lt_size (show h.get? a=some _ from x)
 | ext φ=>obtain⟨_,⟨_,e⟩,_⟩:=x; exact Heap.lt_size e
theorem Paired.mapP {α β:Type} {F G:α->β->Prop}:∀{l₁:List α} {l₂:List β},Paired F l₁ l₂->(∀a b,F a b->G a b)->Paired G l₁ l₂
 | _,_,.nil,_=>.nil
 | _,_,.cons r t,f=>.cons (f _ _ r) (Paired.mapP t f)
theorem zdu.stay (x:zdu P w H h a o) (k:∀b u,(b=a\/H b=some (.own a))->h.get? b=some u->h'.get? b=some u)
   (ho:∀b,H b=some (.own a)->H' b=some (.own a)) (ht:∀b xs,H b=some (.tup xs)->H' b=some (.tup xs)):zdu P w H' h' a o:=by
 induction o with
 | lst xs=>obtain⟨z,its,n,r,e⟩:=x; exact⟨z,its,n,r,k _ _ (.inl rfl) e⟩
 | tup xs=>obtain⟨z,its,r,ob,e,c⟩:=x; exact⟨z,its,r,ob,k _ _ (.inl rfl) e,c⟩
 | dK kvs=>obtain⟨z,y,vs,r,ob,es,ep,e,c⟩:=x; exact⟨z,y,vs,r,ob,es,ep,k _ _ (.inl rfl) e,c⟩
 | dT kvs =>
   obtain⟨z,y,xs,r,ob,es,ep,e,c⟩:=x;exact⟨z,y,xs,Paired.mapP r λp q z=>⟨z.1,ht _ _ z.2.1,z.2.2⟩,ob,es,ep,k _ _ (.inl rfl) e,c⟩
 | set S n=>obtain⟨ob,es,ep,t,e,c⟩:=x; exact⟨ob,es,ep,t,k _ _ (.inl rfl) e,c⟩
 | ins C dx fs =>
   obtain⟨d,z,ne,e,mA,⟨od,es,ep,e2,c⟩,r⟩:=x;exact⟨ho _ d,z,ne,k _ _ (.inl rfl) e,mA,⟨od,es,ep,k _ _ (.inr d) e2,c⟩,r⟩
 | own y=>obtain⟨ob,e⟩:=x; exact⟨ob,k _ _ (.inl rfl) e⟩
 | xd fs=>obtain⟨mA,⟨od,es,ep,e,c⟩,r⟩:=x; exact⟨mA,⟨od,es,ep,k _ _ (.inl rfl) e,c⟩,r⟩
 | rng lo hi=>obtain⟨t,u,v,e⟩:=x; exact⟨t,u,v,k _ _ (.inl rfl) e⟩
 | frz ob u ih=>obtain⟨e,q⟩:=x; exact⟨k _ _ (.inl rfl) e,ih q⟩
 | tbl ps =>
   have e:h.get? a=some { cls:=.none,data:=.fields ps }:=x;show h'.get? a=some { cls:=.none,data:=.fields ps };exact k a _ (.inl rfl) e
 | met f y =>
   have e:h.get? a=some (PySem.W.methodObj (.ref f) (.ref y)):=x;show h'.get? a=some (PySem.W.methodObj (.ref f) (.ref y));exact k a _ (.inl rfl) e
 | ext φ=>obtain⟨p,⟨o,e⟩,st⟩:=x; exact⟨st _ _ p λo q=>k _ _ (.inl rfl) q,⟨o,k _ _ (.inl rfl) e⟩,st⟩
theorem HOk.lt (x:HOk P w H h) (e:H a=some o):a<h.objs.size:=(x a o e).lt
theorem HOk.fresh (x:HOk P w H h) (e:h.objs.size<=a):H a=none:=by
 cases q:H a with
 | none=>rfl
 | some u=>exact absurd (Nat.lt_of_lt_of_le (x.lt q) e) (qbf _)
theorem HOk.kept (x:HOk P w H h) (k:∀b u,h.get? b=some u->h'.get? b=some u):HOk P w H h':=λa o e =>
 (x a o e).stay (λb u _ q=>k b u q) (λ_ q=>q) λ_ _ q=>q
theorem HOk.laid (x:HOk P w H h) (k:∀b u,h.get? b=some u->h'.get? b=some u) (hp:h.objs.size<=a) (new:zdu P w (upd H a o) h' a o):HOk P w (upd H a o) h':=λb u e=>by
 have hn:=x.fresh hp;by_cases hb:b=a
 . subst hb; rw[zab] at e; cases e; exact new
 . rw[zag hb] at e;exact(x b u e).stay (λc v _ q=>k c v q) (λc q=>by rw[zag (za3 q hn)]; exact q) λc xs q=>by rw[zag (za3 q hn)]; exact q
end
def Rd (H:Hp) (a:Addr) (u:HO):Prop:=H a=some u\/∃o,H a=some (.frz o u)
theorem Rd.ok {P:Program} {w:World} {H:Hp} {h:Heap} {a:Addr} {u:HO} (r:Rd H a u) (x:HOk P w H h):zdu P w H h a u:=by
 rcases r with r|⟨o,r⟩
 . exact x a u r
 . obtain⟨_,q⟩:=x a _ r;exact q
def Mut:Option HO->Prop
 | some (.lst _)=>True
 | some (.dK _)=>True
 | some (.dT _)=>True
 | some (.set _ _)=>True
 | some (.ins _ _ _)=>True
 | some (.ext _)=>True
 | _=>False
section
variable {P:Program} {w:World} {H:Hp} {h h':Heap} {x e:Addr} {o':HO}
theorem HOk.write (ok:HOk P w H h) (mu:Mut (H x)) (he:e=x\/H e=some (.own x)) (k:∀b u,b≠e->h.get? b=some u->h'.get? b=some u) (heo:∃u,h'.get? e=some u)
   (new:zdu P w (upd H x o') h' x o'):HOk P w (upd H x o') h':=λb u q=>by
 have nown:∀c y,H c=some (.own y)->c≠x:=λc y r z=>by subst z; rw[r] at mu; exact mu
 have ntup:∀c xs,H c=some (.tup xs)->c≠x:=λc xs r z=>by subst z; rw[r] at mu; exact mu
 by_cases hb:b=x
 . subst hb; rw[zab] at q; cases q; exact new
 . rw[zag hb] at q;by_cases hbe:b=e
   . have q':H b=some (.own x):=by
       rcases he with z|z
       . exact absurd (hbe.trans z) hb
       . rw[hbe]; exact z
     rw[q] at q'; cases q';obtain⟨v,hv⟩:=heo;exact⟨v,by rw[hbe]; exact hv⟩
   . refine(ok b u q).stay (λc v hc r=>k c v ?_ r) (λc r=>by rw[zag (nown c b r)]; exact r) λc xs r=>by rw[zag (ntup c xs r)]; exact r
     rcases hc with rfl|hc
     . exact hbe
     . rintro rfl;rcases he with z|z
       . exact nown c b hc z
       . rw[hc] at z; cases z; exact hb rfl
end
structure Un (fs ex:List Addr) (H H':Hp) (h h':Heap):Prop where
 keep:∀b o,h.get? b=some o->H b=none->b ∉ fs->b ∉ ex->h'.get? b=some o
 slot:∀b o,h.get? b=some o->H b=none->b∈fs->b ∉ ex->∃sl,h'.get? b=some { o with slots:=sl }
 free:∀b o,h.get? b=some o->H b=none->b ∉ ex->H' b=none
 there:∀b o,h.get? b=some o->b ∉ ex->∃o',h'.get? b=some o'
 tups:∀b xs,H b=some (.tup xs)->H' b=some (.tup xs)
 frzs:∀b o u,H b=some (.frz o u)->H' b=some (.frz o u)
 tbls:∀b ps,H b=some (.tbl ps)->∃more,H' b=some (.tbl (ps++more))
section
variable {fs fs' ex ex':List Addr} {H H1 H2:Hp} {h h1 h2 h':Heap} {a x e:Addr} {o:HO}
theorem Un.any (u:Un fs ex H H1 h h1) {b:Addr} {ob:Obj} (q:h.get? b=some ob) (n:H b=none) (hx:b ∉ ex):∃sl,h1.get? b=some { ob with slots:=sl }:=by
 by_cases hb:b∈fs
 . exact u.slot b ob q n hb hx
 . exact⟨ob.slots,u.keep b ob q n hb hx⟩
theorem Un.kept (k:∀b u,h.get? b=some u->h'.get? b=some u):Un fs ex H H h h' :=
 ⟨λb ob q _ _ _=>k b ob q,λb ob q _ _ _=>⟨ob.slots,k b ob q⟩,λ_ _ _ n _=>n,λb ob q _=>⟨ob,k b ob q⟩,λ_ _ q=>q,λ_ _ _ q=>q,λ_ ps q=>⟨#[],by rw[q]; simp⟩⟩
theorem Un.refl:Un fs ex H H h h:=Un.kept λ_ _ q=>q
theorem Un.laid (k:∀b u,h.get? b=some u->h'.get? b=some u) (hp:h.objs.size<=a) (hn:H a=none):Un fs ex H (upd H a o) h h' where
 keep:=λb u q _ _ _=>k b u q
 slot:=λb u q _ _ _=>⟨u.slots,k b u q⟩
 free:=λb u q n _=>by rw[zag (qa5 (Nat.lt_of_lt_of_le (Heap.lt_size q) hp))]; exact n
 there:=λb u q _=>⟨u,k b u q⟩
 tups:=λb xs q=>by rw[zag (za3 q hn)]; exact q
 frzs:=λb u xs q=>by rw[zag (za3 q hn)]; exact q
 tbls:=λb ps q=>⟨#[],by rw[zag (za3 q hn),q]; simp⟩
theorem Un.write (mu:Mut (H x)) (he:e=x\/H e=some (.own x)) (k:∀b u,b≠e->h.get? b=some u->h'.get? b=some u) (heo:∃u,h'.get? e=some u):Un fs ex H (upd H x o) h h':=by
 have hx:∀b,H b=none->b≠x:=λb n z=>by subst z; rw[n] at mu; exact mu
 have hb:∀b,H b=none->b≠e:=λb n z=>by
   subst z;rcases he with r|r
   . exact hx b n r
   . rw[n] at r; cases r
 have hm:∀b u,H b=some u->¬ Mut (some u)->b≠x:=λb u q nm z=>by subst z; rw[q] at mu; exact nm mu
 refine⟨λb u q n _ _=>k b u (hb b n) q,λb u q n _ _=>⟨u.slots,k b u (hb b n) q⟩,λb u q n _=>by rw[zag (hx b n)]; exact n,λb u q _=>?_,
   λb xs q=>by rw[zag (hm b _ q λz=>z)]; exact q,λb u xs q=>by rw[zag (hm b _ q λz=>z)]; exact q,λb ps q=>⟨#[],by rw[zag (hm b _ q λz=>z),q]; simp⟩⟩
 by_cases hbe:b=e
 . subst hbe; exact heo
 . exact⟨u,k b u hbe q⟩
end
def trk (h:Heap) (H:Hp):List Addr:=(List.range h.objs.size).filter λa=>(H a).isSome
def zz7 (h:Heap) (H:Hp):Heap:=PySem.W.hideAll h (trk h H)
theorem zv7 (h:Heap) (H:Hp):(zz7 h H).objs.size=h.objs.size:=PySem.W.hideAll_size _ _
theorem z0j {h:Heap} {H:Hp} {b:Addr} {o:Obj} (e:h.get? b=some o) (n:H b=none):(zz7 h H).get? b=some o :=
 PySem.W.hideAll_get _ e λhm=>by have q:(H b).isSome=true:=(List.mem_filter.mp hm).2;rw[n] at q; simp at q
theorem z24 {h:Heap} {H:Hp} {b:Addr} {o:Obj} (e:(zz7 h H).get? b=some o):h.get? b=some o/\H b=none:=by
 have e':h.get? b=some o:=PySem.W.of_hideAll (trk h H) e;refine⟨e',?_⟩;cases q:H b with
 | none=>rfl
 | some x =>
   have hm:b∈trk h H:=List.mem_filter.mpr ⟨qdh.mpr (Heap.lt_size e'),by simp [q]⟩;have z:(zz7 h H).get? b=none:=PySem.W.hideAll_none (trk h H) hm;rw[z] at e; cases e
structure Mod (K:W.Frag) (mg:Str->Option Value) (base:Heap):Prop where
 kin:K.In base
 glob:base.Ns mainGlobals mg
 blt:∃mb,base.Ns builtinsNs mb/\∀x:Str,x≠"__name__"->mb x=bootBuiltins x
 nolimit:base.NoLimit
structure Cx where
 prog:Program
 w:World
 K:W.Frag
 mg:Str->Option Value
 base:Heap
 A:Around
 N:List Str
 s₀:Shared
 H₀:Hp
 env:Env
 outer:List Env
 stack:List Env
 ex:List Addr
 fn:Str->Bool
 calm:Bool
 pn:List (Addr×Obj)
 xe:Value->Shared->Prop
def frs (l:List Env):List Addr:=l.filterMap (·.frame)
abbrev Cx.fs (X:Cx):List Addr:=frs X.outer
def Vis (sc:Scope) (x:Str):Prop:=sc.names.lookup x=some .local\/sc.names.lookup x=some .cell\/sc.names.lookup x=some .free
def Loc (sc:Scope) (x:Str):Prop:=sc.names.lookup x=some .local\/sc.names.lookup x=some .cell
def Look (env:Env) (h:Heap) (m:Str->Option Value) (x:Str) (u:Value):Prop :=
 (env.kindOf x=some .local/\m x=some u)\/((env.kindOf x=some .cell\/env.kindOf x=some .free)/\∃c,env.cells.lookup x=some c/\h.IsCell c (some u))
structure Cx.Ok (X:Cx):Prop where
 mod:Mod X.K X.mg X.base
 kind:X.env.scope.kind=.function
 glob:X.env.globals=mainGlobals
 blt:X.env.builtins=builtinsNs
 above:X.s₀.heap.objs.size<=X.env.locals
 inj:∀x y c,X.env.cells.lookup x=some c->X.env.cells.lookup y=some c->x=y
 has:∀x,(X.env.kindOf x=some .cell\/X.env.kindOf x=some .free)->∃c,X.env.cells.lookup x=some c
 cab:∀x c,X.fn x=true->X.env.cells.lookup x=some c->X.s₀.heap.objs.size<=c
 hd:X.calm=true->X.A.handled=none
 frames:X.A.frames=some X.stack
 stk:X.stack=X.outer\/(X.stack=X.env :: X.outer/\X.env.frame=some X.env.locals)
 exf:∀b∈X.ex,b≠X.env.locals/\∀x c,X.env.cells.lookup x=some c->c≠b
 bs:∀b o,X.base.get? b=some o->X.s₀.heap.get? b=some o/\X.H₀ b=none
 bsz:X.base.objs.size<=X.s₀.heap.objs.size
 noex:∀b o,X.base.get? b=some o->b ∉ X.ex
 exfs:∀b∈X.ex,b ∉ X.fs
 funs:X.s₀.heap.FunFrames X.base X.outer
 frf:∀b∈X.fs,X.H₀ b=none
structure Inv (X:Cx) (pins:List (Addr×Obj)) (σ:List (Option V)) (H:Hp) (s:Shared):Prop where
 ok:X.Ok
 os:s.os=X.s₀.os
 bare:AllBare s.gens
 base:Un X.fs X.ex X.H₀ H X.s₀.heap s.heap
 loc:∃m,s.heap.Ns X.env.locals m/\∀(i:Nat) (x:Str) (v:V),X.N[i]?=some x->σ[i]?=some (some v)->Vis X.env.scope x->∃u,zdg v u/\Look X.env s.heap m x u
 cell:∀x c,X.env.cells.lookup x=some c->∃v,s.heap.IsCell c v
 free:H X.env.locals=none
 freeC:∀x c,X.env.cells.lookup x=some c->H c=none
 pin:∀p∈X.pn++pins,s.heap.get? p.1=some p.2/\H p.1=none/\p.1≠X.env.locals/\p.1 ∉ X.fs/\∀v,p.2.data≠.cell v
 hok:HOk X.prog X.w H s.heap
 len:σ.length=X.N.length
section
variable {X:Cx} {pins:List (Addr×Obj)} {σ:List (Option V)} {H H':Hp} {s:Shared} {h':Heap}
theorem Cx.Ok.nofr (ok:X.Ok) {b:Addr} {o:Obj} (e:X.base.get? b=some o):b ∉ X.fs:=λhb=>by have:=(ok.funs.mem hb).1;rw[e] at this; cases this
theorem Inv.bs (I:Inv X pins σ H s):∀b o,X.base.get? b=some o->s.heap.get? b=some o/\H b=none:=λb o e =>
 ⟨I.base.keep b o (I.ok.bs b o e).1 (I.ok.bs b o e).2 (I.ok.nofr e) (I.ok.noex b o e),I.base.free b o (I.ok.bs b o e).1 (I.ok.bs b o e).2 (I.ok.noex b o e)⟩
theorem Inv.bk (I:Inv X pins σ H s):∀b o,X.base.get? b=some o->s.heap.get? b=some o:=λb o e=>(I.bs b o e).1
theorem Inv.mod (I:Inv X pins σ H s):Mod X.K X.mg X.base:=I.ok.mod
theorem Inv.kIn (I:Inv X pins σ H s):X.K.In s.heap:=I.ok.mod.kin.keeps I.bk
theorem Inv.fr (I:Inv X pins σ H s):∃m,Fr X.base X.env.locals s.heap m :=
 let ⟨m,hn,_⟩:=I.loc
 ⟨m,hn,I.bk,Nat.le_trans I.ok.bsz I.ok.above⟩
theorem Inv.lt (I:Inv X pins σ H s):X.env.locals<s.heap.objs.size:=let ⟨_,hn,_⟩:=I.loc; hn.lt
theorem Inv.sz (I:Inv X pins σ H s):X.s₀.heap.objs.size<=s.heap.objs.size:=Nat.le_trans I.ok.above (qb1 I.lt)
theorem Inv.nofs (I:Inv X pins σ H s) {a:Addr} (h:s.heap.objs.size<=a):a ∉ X.fs:=λhb=>by obtain⟨_,o,ho,_⟩:=I.ok.funs.mem hb;exact absurd (Nat.lt_of_lt_of_le (Heap.lt_size ho) (Nat.le_trans I.sz h)) (qbf _)
theorem Inv.cne (I:Inv X pins σ H s):∀x c,X.env.cells.lookup x=some c->c≠X.env.locals:=λx c e z=>by obtain⟨v,o,ho,hd⟩:=I.cell x c e;obtain⟨m,⟨o',es,ep,ho',hd',_⟩,_⟩:=I.loc;rw[z,ho'] at ho; cases ho; rw[hd'] at hd; cases hd
theorem Inv.funs (I:Inv X pins σ H s):s.heap.FunFrames X.base X.outer:=by
 have all:∀(l:List Env),(∀b∈frs l,b∈X.fs)->X.s₀.heap.FunFrames X.base l->s.heap.FunFrames X.base l:=by
   intro l
   induction l with
   | nil=>intro _ _; trivial
   | cons env r ih =>
     intro hs hl;obtain⟨hk,⟨L,o,hf,hn,ho,hd⟩,hr⟩:=hl;have hL:L∈X.fs:=hs L (by unfold frs; rw[qdf,hf]; exact List.mem_cons_self);obtain⟨sl,e⟩:=I.base.slot L o ho (I.ok.frf L hL) hL λz=>I.ok.exfs L z hL;exact⟨hk,⟨L,_,hf,hn,e,hd⟩,ih (λb hb=>hs b (by unfold frs; rw[qdf,hf]; exact List.mem_cons_of_mem _ hb)) hr⟩
 exact all X.outer (λ_ hb=>hb) I.ok.funs
theorem Inv.stack (I:Inv X pins σ H s):s.heap.FunFrames X.base X.stack:=by
 rcases I.ok.stk with e|⟨e,hf⟩
 . rw[e]; exact I.funs
 . rw[e];obtain⟨m,hn,_⟩:=I.loc;refine .cons (by rw[I.ok.kind]; decide) hf hn ?_ I.funs;exact qct (Nat.le_trans I.ok.bsz I.ok.above)
theorem Inv.stkSub (I:Inv X pins σ H s):∀b∈frs X.stack,b∈X.env.locals :: X.fs:=λb hb=>by
 rcases I.ok.stk with e|⟨e,hf⟩
 . rw[e] at hb; exact List.mem_cons_of_mem _ hb
 . rw[e] at hb;unfold frs at hb;rw[qdf,hf] at hb;exact hb
theorem Inv.stkFree (I:Inv X pins σ H s):∀b∈frs X.stack,H b=none:=λb hb=>by
 rcases List.mem_cons.mp (I.stkSub b hb) with e|hb
 . rw[e]; exact I.free
 . obtain⟨_,o,ho,_⟩:=I.ok.funs.mem hb;exact I.base.free b o ho (I.ok.frf b hb) λz=>I.ok.exfs b z hb
theorem Inv.step {g':Array GenState} {t':Nat} {d':Drawn} {ch:List Addr} (I:Inv X pins σ H s)
   (hch:∀b∈ch,(b∈X.ex\/X.s₀.heap.objs.size<=b)/\b≠X.env.locals/\(∀x c,X.env.cells.lookup x=some c->c≠b)/\∀p∈X.pn++pins,p.1≠b)
   (keep:∀b o,b≠X.env.locals->b ∉ X.fs->b ∉ ch->s.heap.get? b=some o->H b=none->h'.get? b=some o)
   (slot:∀b o,b≠X.env.locals->b∈X.fs->b ∉ ch->s.heap.get? b=some o->H b=none->∃sl,h'.get? b=some { o with slots:=sl }) (free:∀b o,b ∉ ch->s.heap.get? b=some o->H b=none->H' b=none)
   (there:∀b o,b ∉ ch->s.heap.get? b=some o->∃o',h'.get? b=some o')
   (tups:∀b xs,H b=some (.tup xs)->H' b=some (.tup xs)) (frzs:∀b o u,H b=some (.frz o u)->H' b=some (.frz o u)) (tbls:∀b ps,H b=some (.tbl ps)->∃more,H' b=some (.tbl (ps++more)))
   (ns:∀m,s.heap.Ns X.env.locals m->h'.Ns X.env.locals m) (hok:HOk X.prog X.w H' h') (hg:AllBare g') :
   Inv X pins σ H' { s with heap:=h',gens:=g',drawn:=d',toks:=t' }:=by
 have neL:∀b o,X.s₀.heap.get? b=some o->b≠X.env.locals:=λb o e=>qa5 (Nat.lt_of_lt_of_le (Heap.lt_size e) I.ok.above);have neC:∀b o,X.s₀.heap.get? b=some o->b ∉ X.ex->b ∉ ch:=λb o e hx hb=>by
   rcases (hch b hb).1 with z|z
   . exact hx z
   . exact absurd (Nat.lt_of_lt_of_le (Heap.lt_size e) z) (qbf _)
 have cellK:∀x c,X.env.cells.lookup x=some c->∀v,s.heap.IsCell c v->h'.IsCell c v:=λx c e v ⟨o,ho,hd⟩=>by
   have nch:c ∉ ch:=λz=>(hch c z).2.2.1 x c e rfl;by_cases hc:c∈X.fs
   . obtain⟨sl,q⟩:=slot c o (I.cne x c e) hc nch ho (I.freeC x c e);exact⟨_,q,hd⟩
   . exact⟨o,keep c o (I.cne x c e) hc nch ho (I.freeC x c e),hd⟩
 refine⟨I.ok,I.os,hg,⟨λb o e n hb hx=>?_,λb o e n hb hx=>?_,λb o e n hx=>?_,λb o e hx=>?_,λb xs e=>tups b xs (I.base.tups b xs e),λb o xs e=>frzs b o xs (I.base.frzs b o xs e),λb ps e=>?_⟩,?_,λx c e=>?_,?_,λx c e=>?_,λp hp=>?_,hok,I.len⟩
 . exact keep b o (neL b o e) hb (neC b o e hx) (I.base.keep b o e n hb hx) (I.base.free b o e n hx)
 . obtain⟨sl,e1⟩:=I.base.slot b o e n hb hx;obtain⟨sl',e2⟩:=slot b _ (neL b o e) hb (neC b o e hx) e1 (I.base.free b o e n hx);exact⟨sl',e2⟩
 . obtain⟨o',e1⟩:=I.base.there b o e hx;exact free b o' (neC b o e hx) e1 (I.base.free b o e n hx)
 . obtain⟨o',e1⟩:=I.base.there b o e hx;exact there b o' (neC b o e hx) e1
 . obtain⟨m1,e1⟩:=I.base.tbls b ps e;obtain⟨m2,e2⟩:=tbls b _ e1;exact⟨m1++m2,by rw[e2,Array.append_assoc]⟩
 . obtain⟨m,hn,hl⟩:=I.loc;refine⟨m,ns m hn,λi x v e1 e2 e3=>?_⟩;obtain⟨u,r,l⟩:=hl i x v e1 e2 e3;refine⟨u,r,?_⟩;rcases l with l|⟨k,c,e,z⟩
   . exact .inl l
   . exact .inr ⟨k,c,e,cellK x c e _ z⟩
 . obtain⟨v,z⟩:=I.cell x c e;exact⟨v,cellK x c e v z⟩
 . obtain⟨m,⟨o,_,_,ho,_⟩,_⟩:=I.loc;exact free _ o (λz=>(hch _ z).2.1 rfl) ho I.free
 . obtain⟨v,o,ho,hd⟩:=I.cell x c e;exact free c o (λz=>(hch c z).2.2.1 x c e rfl) ho (I.freeC x c e)
 . obtain⟨e,n,ne,nf,d⟩:=I.pin p hp;have nch:p.1 ∉ ch:=λz=>(hch p.1 z).2.2.2 p hp rfl;exact⟨keep p.1 p.2 ne nf nch e n,free p.1 p.2 nch e n,ne,nf,d⟩
theorem Inv.un {t':Nat} (I:Inv X pins σ H s) (u:Un X.fs [] H H' s.heap h') (hok:HOk X.prog X.w H' h'):Inv X pins σ H' { s with heap:=h',toks:=t' }:=by
 obtain⟨m,⟨o,es,ep,ho,r⟩,_⟩:=id I.loc;obtain⟨sl,hL⟩:=u.any ho I.free (by simp);exact I.step (g':=s.gens) (d':=s.drawn) (ch:=[]) (λ_ z=>nomatch z) (λb o _ hb _ e n=>u.keep b o e n hb (by simp)) (λb o _ hb _ e n=>u.slot b o e n hb (by simp)) (λb o _ e n=>u.free b o e n (by simp)) (λb o _ e=>u.there b o e (by simp)) u.tups u.frzs u.tbls (λm' hm=>by obtain⟨o',es',ep',ho',r'⟩:=hm;rw[ho] at ho'; cases ho';exact⟨_,es',ep',hL,r'⟩) hok I.bare
theorem Inv.call {g':Array GenState} {t':Nat} {d':Drawn} {ch:List Addr} (I:Inv X pins σ H s) (u:Un (frs X.stack) ch H H' s.heap h') (hok:HOk X.prog X.w H' h') (hg:AllBare g')
   (hch:∀b∈ch,(b∈X.ex\/X.s₀.heap.objs.size<=b)/\b≠X.env.locals/\(∀x c,X.env.cells.lookup x=some c->c≠b)/\∀p∈X.pn++pins,p.1≠b) :
   Inv X pins σ H' { s with heap:=h',gens:=g',drawn:=d',toks:=t' }:=by
 obtain⟨m,⟨o,es,ep,ho,r⟩,_⟩:=id I.loc;obtain⟨sl,hL⟩:=u.any ho I.free λz=>(hch _ z).2.1 rfl;exact I.step (ch:=ch) hch (λb o hL hb hc e n=>u.keep b o e n (λz=>(List.mem_cons.mp (I.stkSub b z)).elim hL hb) hc) (λb o _ _ hc e n=>u.any e n hc) (λb o hc e n=>u.free b o e n hc) (λb o hc e=>u.there b o e hc) u.tups u.frzs u.tbls (λm' hm=>by obtain⟨o',es',ep',ho',r'⟩:=hm;rw[ho] at ho'; cases ho';exact⟨_,es',ep',hL,r'⟩) hok hg
theorem Inv.turned {t':Nat} {it:Addr} (I:Inv X pins σ H s) (k:∀b o,b≠it->s.heap.get? b=some o->h'.get? b=some o) (hn:H it=none) (hL:it≠X.env.locals)
   (h1:it∈X.ex\/X.s₀.heap.objs.size<=it) (h2:∀x c,X.env.cells.lookup x=some c->c≠it) (h3:∀p∈X.pn++pins,p.1≠it):Inv X pins σ H { s with heap:=h',toks:=t' }:=by
 have nit:∀b u,H b=some u->b≠it:=λb u e z=>by rw[z,hn] at e; cases e
 refine I.step (g':=s.gens) (d':=s.drawn) (ch:=[it]) (λb hb=>?_) (λb o _ _ hc e _=>k b o (λz=>hc (by simp [z])) e) (λb o _ _ hc e _=>⟨o.slots,k b o (λz=>hc (by simp [z])) e⟩) (λ_ _ _ _ n=>n)
   (λb o hc e=>⟨o,k b o (λz=>hc (by simp [z])) e⟩) (λ_ _ e=>e) (λ_ _ _ e=>e) (λb ps e=>⟨#[],by rw[e]; simp⟩) (λm hm=>?_) (λb u e=>?_) I.bare
 . have e:b=it:=by simpa using hb
   subst e;exact⟨h1,hL,h2,h3⟩
 . obtain⟨o,es,ep,ho,r⟩:=hm;exact⟨o,es,ep,k _ o (Ne.symm hL) ho,r⟩
 . refine(I.hok b u e).stay (λc v hc q=>k c v ?_ q) (λ_ q=>q) λ_ _ q=>q;rcases hc with z|z
   . rw[z]; exact nit b u e
   . exact nit c _ z
theorem Inv.tok (I:Inv X pins σ H s) (t:Nat):Inv X pins σ H { s with toks:=t }:=I.un (h':=s.heap) (t':=t) Un.refl I.hok
theorem Inv.kept {t':Nat} (I:Inv X pins σ H s) (k:∀b u,s.heap.get? b=some u->h'.get? b=some u):Inv X pins σ H { s with heap:=h',toks:=t' }:=I.un (Un.kept k) (I.hok.kept k)
theorem Inv.laid {a:Addr} {o:HO} {t':Nat} (I:Inv X pins σ H s) (k:∀b u,s.heap.get? b=some u->h'.get? b=some u) (hp:s.heap.objs.size<=a) (new:zdu X.prog X.w (upd H a o) h' a o) :
   Inv X pins σ (upd H a o) { s with heap:=h',toks:=t' }:=I.un (Un.laid k hp (I.hok.fresh hp)) (I.hok.laid k hp new)
theorem Inv.write {x e:Addr} {o:HO} {t':Nat} (I:Inv X pins σ H s) (mu:Mut (H x)) (he:e=x\/H e=some (.own x)) (k:∀b u,b≠e->s.heap.get? b=some u->h'.get? b=some u) (heo:∃u,h'.get? e=some u)
   (new:zdu X.prog X.w (upd H x o) h' x o):Inv X pins σ (upd H x o) { s with heap:=h',toks:=t' }:=I.un (Un.write mu he k heo) (I.hok.write mu he k heo new)
theorem Inv.weak {σ':List (Option V)} (I:Inv X pins σ H s) (hl:σ'.length=σ.length) (w:∀(i:Nat) v,σ'[i]?=some (some v)->σ[i]?=some (some v)):Inv X pins σ' H s :=
 ⟨I.ok,I.os,I.bare,I.base,let ⟨m,hn,hl'⟩:=I.loc; ⟨m,hn,λi x v e1 e2 e3=>hl' i x v e1 (w i v e2) e3⟩,I.cell,I.free,I.freeC,I.pin,I.hok,hl.trans I.len⟩
theorem Inv.pins_of {pins':List (Addr×Obj)} (I:Inv X pins σ H s) (h:∀p∈pins',s.heap.get? p.1=some p.2/\H p.1=none/\p.1≠X.env.locals/\p.1 ∉ X.fs/\∀v,p.2.data≠.cell v):Inv X pins' σ H s :=
 ⟨I.ok,I.os,I.bare,I.base,I.loc,I.cell,I.free,I.freeC,λp hp=>(List.mem_append.mp hp).elim (λz=>I.pin p (qbe _ z)) (h p),I.hok,I.len⟩
theorem zpx {N:List Str} (hN:N.Nodup) {i j:Nat} {x:Str} (a:N[i]?=some x) (b:N[j]?=some x):i=j:=by obtain⟨h1,e1⟩:=List.getElem?_eq_some_iff.mp a;obtain⟨h2,e2⟩:=List.getElem?_eq_some_iff.mp b;exact(List.getElem_inj hN).mp (e1.trans e2.symm)
theorem zqr {M:Model} {A:Around} {E:Value->Shared->Prop} {i:Nat} {x:Str} {v:V} {u:Value} {Q:Unit->Shared->Prop} (I:Inv X pins σ H s) (hN:X.N.Nodup) (hi:X.N[i]?=some x) (hx:Loc X.env.scope x) (r:zdg v u)
   (h:∀s',Inv X pins (σ.set i (some v)) H s'->(∃a,Heap.SameBut a s.heap s'.heap/\(a=X.env.locals\/X.env.cells.lookup x=some a))->Q () s') (hf:X.fn x=true\/X.env.scope.names.lookup x=some .local:=by first|exact .inl rfl|exact .inr rfl|assumption):wpAny M A (storeName X.env x u) Q E s:=by
 obtain⟨m,hn,hl⟩:=id I.loc;have hcls:(X.env.scope.kind==.class || (X.env.scope.kind==.module&&X.env.locals != X.env.globals))=false:=by rw[I.ok.kind]; rfl
 have hiσ:i<σ.length:=by rw[I.len]; exact(List.getElem?_eq_some_iff.mp hi).1
 have cne:=I.cne;have tracked:∀{a:Addr} {h':Heap},(∃o,s.heap.get? a=some o/\H a=none)->Heap.SameBut a s.heap h'->HOk X.prog X.w H h':=λ{a h'} ha hs b ob e=>by
   obtain⟨_,_,hfree⟩:=ha;refine(I.hok b ob e).stay (λc w' hc q=>(hs.2 c ?_).trans q) (λ_ q=>q) λ_ _ q=>q;rintro rfl;rcases hc with rfl|hc
   . rw[hfree] at e; cases e
   . rw[hfree] at hc; cases hc
 rcases hx with hk|hk
 . refine wpAny_storeName_local hk hn (λh' hn' hs=>?_) hcls;obtain⟨oL,_,_,hoL,_⟩:=id hn;refine h _ ⟨I.ok,I.os,I.bare,⟨λb o e n hb hx=>?_,λb o e n hb hx=>?_,I.base.free,λb o e hx=>?_,I.base.tups,I.base.frzs,I.base.tbls⟩,⟨_,hn',λj y v' e1 e2 e3=>?_⟩,λy c e=>?_,I.free,I.freeC,λp hp=>?_,tracked ⟨oL,hoL,I.free⟩ hs,by simpa using I.len⟩ ⟨_,hs,.inl rfl⟩
   . exact(hs.2 b (qa5 (Nat.lt_of_lt_of_le (Heap.lt_size e) I.ok.above))).trans (I.base.keep b o e n hb hx)
   . obtain⟨sl,e1⟩:=I.base.slot b o e n hb hx;exact⟨sl,(hs.2 b (qa5 (Nat.lt_of_lt_of_le (Heap.lt_size e) I.ok.above))).trans e1⟩
   . obtain⟨o',e1⟩:=I.base.there b o e hx;exact⟨o',(hs.2 b (qa5 (Nat.lt_of_lt_of_le (Heap.lt_size e) I.ok.above))).trans e1⟩
   . by_cases hj:j=i
     . subst hj;rw[hi] at e1; cases e1;rw[qcq hiσ] at e2;cases e2;exact⟨u,r,.inl ⟨hk,by simp⟩⟩
     . rw[qck (Ne.symm hj)] at e2;obtain⟨u',r',q⟩:=hl j y v' e1 e2 e3;refine⟨u',r',?_⟩;rcases q with⟨k,e⟩|⟨k,c,e,z⟩
       . refine .inl ⟨k,?_⟩;have:y≠x:=λe=>hj (zpx hN e1 (e ▸ hi));simp [this,e]
       . exact .inr ⟨k,c,e,z.sameBut hs (cne y c e)⟩
   . obtain⟨w',z⟩:=I.cell y c e;exact⟨w',z.sameBut hs (cne y c e)⟩
   . obtain⟨e,n,ne,nf,d⟩:=I.pin p hp;exact⟨(hs.2 p.1 ne).trans e,n,ne,nf,d⟩
 . have hfn:X.fn x=true:=by
     rcases hf with z|z
     . exact z
     . rw[z] at hk; cases hk
   obtain⟨c,hc⟩:=I.ok.has x (.inl hk);obtain⟨w',z⟩:=I.cell x c hc;refine wpAny_storeName_cell I.ok.kind hk hc z (λh' hc' hs=>?_);obtain⟨oc,hoc,hocd⟩:=id z;refine h { s with heap:=h' } ⟨I.ok,I.os,I.bare,⟨λb o e n hb hx=>?_,λb o e n hb hx=>?_,I.base.free,λb o e hx=>?_,I.base.tups,I.base.frzs,I.base.tbls⟩,⟨m,hn.sameBut hs (Ne.symm (cne x c hc)),λj y v' e1 e2 e3=>?_⟩,λy c' e=>?_,I.free,I.freeC,λp hp=>?_,tracked ⟨oc,hoc,I.freeC x c hc⟩ hs,by simpa using I.len⟩ ⟨c,hs,.inr hc⟩
   . exact(hs.2 b (qa5 (Nat.lt_of_lt_of_le (Heap.lt_size e) (I.ok.cab x c hfn hc)))).trans (I.base.keep b o e n hb hx)
   . obtain⟨sl,e1⟩:=I.base.slot b o e n hb hx;exact⟨sl,(hs.2 b (qa5 (Nat.lt_of_lt_of_le (Heap.lt_size e) (I.ok.cab x c hfn hc)))).trans e1⟩
   . obtain⟨o',e1⟩:=I.base.there b o e hx;exact⟨o',(hs.2 b (qa5 (Nat.lt_of_lt_of_le (Heap.lt_size e) (I.ok.cab x c hfn hc)))).trans e1⟩
   . by_cases hj:j=i
     . subst hj;rw[hi] at e1; cases e1;rw[qcq hiσ] at e2;cases e2;exact⟨u,r,.inr ⟨.inl hk,c,hc,hc'⟩⟩
     . rw[qck (Ne.symm hj)] at e2;obtain⟨u',r',q⟩:=hl j y v' e1 e2 e3;refine⟨u',r',?_⟩;rcases q with q|⟨k,c',e,z'⟩
       . exact .inl q
       . refine .inr ⟨k,c',e,z'.sameBut hs ?_⟩;rintro rfl;exact hj (zpx hN e1 (I.ok.inj _ _ _ e hc ▸ hi))
   . by_cases hcc:c'=c
     . subst hcc; exact⟨_,hc'⟩
     . obtain⟨w2,z2⟩:=I.cell y c' e;exact⟨w2,z2.sameBut hs hcc⟩
   . obtain⟨e,n,ne,nf,d⟩:=I.pin p hp;refine⟨(hs.2 p.1 ?_).trans e,n,ne,nf,d⟩;intro q;rw[q,hoc] at e;have q':oc=p.2:=Option.some.inj e;exact d w' (by rw[<- q']; exact hocd)
theorem zpl {M:Model} {A:Around} {E:Value->Shared->Prop} {i:Nat} {x:Str} {v:V} {u:Value} {Q:Unit->Shared->Prop} (I:Inv X pins σ H s) (hN:X.N.Nodup) (hi:X.N[i]?=some x) (hx:Loc X.env.scope x) (r:zdg v u)
   (h:∀s',Inv X pins (σ.set i (some v)) H s'->Q () s') (hf:X.fn x=true\/X.env.scope.names.lookup x=some .local:=by first|exact .inl rfl|exact .inr rfl|assumption):wpAny M A (storeName X.env x u) Q E s :=
 zqr I hN hi hx r (λs' I' _=>h s' I') hf
theorem Inv.call' {s':Shared} {ch:List Addr} (I:Inv X pins σ H s) (ho:s'.os=s.os) (u:Un (frs X.stack) ch H H' s.heap s'.heap) (hok:HOk X.prog X.w H' s'.heap) (hg:AllBare s'.gens)
   (hch:∀b∈ch,(b∈X.ex\/X.s₀.heap.objs.size<=b)/\b≠X.env.locals/\(∀x c,X.env.cells.lookup x=some c->c≠b)/\∀p∈X.pn++pins,p.1≠b):Inv X pins σ H' s':=by
 obtain⟨h',g',d',t',o'⟩:=s';have e:o'=s.os:=ho;subst e;exact I.call (g':=g') (t':=t') (d':=d') u hok hg hch
end
abbrev XK:=Value->Option Addr->Hp->Prop
abbrev St:=List (Option V)
abbrev VK:=V->Hp->Prop
abbrev TE:=St->Hp->VK->Prop
abbrev TT:=St->Hp->(Bool->Hp->Prop)->Prop
abbrev TA:=St->Hp->(List V->Hp->Prop)->Prop
structure zkb where
 nx:St->Hp->Prop
 rt:VK
 bk:St->Hp->Prop:=λ_ _=>False
 ct:St->Hp->Prop:=λ_ _=>False
abbrev TS:=zkb->St->Hp->Prop
def EP (X:Cx) (pins:List (Addr×Obj)) (σ:St) (Q:VK) (u:Value) (s':Shared):Prop:=∃v H',Inv X pins σ H' s'/\zdg v u/\Q v H'
def TP (X:Cx) (pins:List (Addr×Obj)) (σ:St) (Q:Bool->Hp->Prop) (b:Bool) (s':Shared):Prop:=∃H',Inv X pins σ H' s'/\Q b H'
def AP (X:Cx) (pins:List (Addr×Obj)) (σ:St) (Q:List V->Hp->Prop) (us:List Value) (s':Shared):Prop:=∃vs H',Inv X pins σ H' s'/\zcw vs us/\Q vs H'
def SP (X:Cx) (pins:List (Addr×Obj)) (D:zkb) (f:Flow) (s':Shared):Prop :=
 match f with
 | .next=>∃σ' H',Inv X pins σ' H' s'/\D.nx σ' H'
 | .brk=>∃σ' H',Inv X pins σ' H' s'/\D.bk σ' H'
 | .cont=>∃σ' H',Inv X pins σ' H' s'/\D.ct σ' H'
 | .ret u=>∃v σ' H',Inv X pins σ' H' s'/\zdg v u/\D.rt v H'
def PE (X:Cx) (e:Expr) (t:TE):Prop :=
 ∀(pins:List (Addr×Obj)) (s:Shared) (σ:St) (H:Hp) (Q:VK),Inv X pins σ H s->t σ H Q->wpAny (model X.prog X.w) X.A (eval e X.env) (EP X pins σ Q) X.xe s
def PT (X:Cx) (e:Expr) (t:TT):Prop :=
 ∀(pins:List (Addr×Obj)) (s:Shared) (σ:St) (H:Hp) (Q:Bool->Hp->Prop),Inv X pins σ H s->t σ H Q->wpAny (model X.prog X.w) X.A (isTrue e X.env (eval e X.env)) (TP X pins σ Q) X.xe s
def PW (X:Cx) (e:Expr) (t:TT):Prop :=
 ∀(whole:Sem Value) (pins:List (Addr×Obj)) (s:Shared) (σ:St) (H:Hp) (Q:Bool->Hp->Prop),Inv X pins σ H s->t σ H Q->wpAny (model X.prog X.w) X.A (isTrue e X.env whole) (TP X pins σ Q) X.xe s
theorem PW.pt {X:Cx} {e:Expr} {t:TT} (h:PW X e t):PT X e t:=h _
def PA (X:Cx) (es:List Expr) (t:TA):Prop :=
 ∀(pos:Pos) (pins:List (Addr×Obj)) (s:Shared) (σ:St) (H:Hp) (Q:List V->Hp->Prop),Inv X pins σ H s->t σ H Q->wpAny (model X.prog X.w) X.A (spliced (backTo pos (starEach es X.env))) (AP X pins σ Q) X.xe s
def PS (X:Cx) (st:Stmt) (t:TS):Prop :=
 ∀(pins:List (Addr×Obj)) (s:Shared) (σ:St) (H:Hp) (D:zkb),Inv X pins σ H s->t D σ H->wpAny (model X.prog X.w) X.A (exec st X.env) (SP X pins D) X.xe s
def PSs (X:Cx) (st:List Stmt) (t:TS):Prop :=
 ∀(pins:List (Addr×Obj)) (s:Shared) (σ:St) (H:Hp) (D:zkb),Inv X pins σ H s->t D σ H->wpAny (model X.prog X.w) X.A (execs st X.env) (SP X pins D) X.xe s
theorem thn {α:Type} {t:Sem α} {Q Q':α->Shared->Prop} {M:Model} {A:Around} {E:Value->Shared->Prop} {s:Shared} (h:wpAny M A t Q E s) (hQ:∀a s,Q a s->Q' a s):wpAny M A t Q' E s:=wpAny_mono h hQ λ_ _ x=>x
section
variable {X:Cx}
def tVar (i:Nat):TE:=λσ H Q=>∃v,σ[i]?=some (some v)/\Q v H
def tC (v:V):TE:=λ_ H Q=>Q v H
theorem z4x {i:Nat} {x:Str} {pos:Pos} (hN:X.N[i]?=some x) (hv:Vis X.env.scope x) (hd:(x==("__debug__":Str))=false:=by decide) (hcd:(x==("__classdict__":Str))=false:=by decide):PE X (.Name x pos) (tVar i):=by
 intro pins s σ H Q I h;obtain⟨v,e,h⟩:=h;obtain⟨m,hn,hl⟩:=I.loc;obtain⟨u,r,l⟩:=hl i x v hN e hv;have fin:EP X pins σ Q u s:=⟨v,H,I,r,h⟩
 rcases l with⟨hk,hm⟩|⟨hk,c,hc,hcell⟩
 . exact wpAny_Name (wpAny_loadName_local I.ok.kind hk hn hm fin) hd
 . rcases hk with hk|hk
   . exact wpAny_Name (wpAny_loadName_cell I.ok.kind hk hc hcell fin) hd
   . exact wpAny_Name (wpAny_loadName_free I.ok.kind hk hc hcell fin hcd) hd
theorem zad {i j pos}:PE X (.Constant (.int i) j pos) (tC (.int i)):=λ_ _ _ H _ I h=>wpAny_Constant_int ⟨.int i,H,I.tok _,⟨_,rfl⟩,h⟩
theorem zj4 {b j pos}:PE X (.Constant (.bool b) j pos) (tC (.bl b)):=λ_ _ _ H _ I h=>Constant_bool ⟨.bl b,H,I,rfl,h⟩
theorem zhc {j pos}:PE X (.Constant .none j pos) (tC .non):=λ_ _ _ H _ I h=>Constant_none ⟨.non,H,I,rfl,h⟩
theorem zaz {x j pos}:PE X (.Constant (.str x) j pos) (tC (.str x)):=λ_ _ _ H _ I h=>Calls.Constant_str ⟨.str x,H,I.tok _,⟨_,rfl⟩,h⟩
def Gl (X:Cx) (x:Str):Prop:=X.env.kindOf x=some .globalImplicit
theorem zm7 {E:Value->Shared->Prop} {pins:List (Addr×Obj)} {s:Shared} {σ:St} {H:Hp} {x:Str} {u:Value} {pos:Pos} {Q:Value->Shared->Prop} (I:Inv X pins σ H s) (hg:Gl X x) (hm:X.mg x=some u) (h:Q u s)
   (hd:(x==("__debug__":Str))=false:=by decide):wpAny (model X.prog X.w) X.A (eval (.Name x pos) X.env) Q E s :=
 Calls.Name_function_global I.ok.kind hg (Calls.loadGlobal_global (by rw[I.ok.glob]; exact I.mod.glob.keeps I.bk) hm h) hd
theorem zl2 {E:Value->Shared->Prop} {pins:List (Addr×Obj)} {s:Shared} {σ:St} {H:Hp} {x:Str} {u:Value} {pos:Pos} {Q:Value->Shared->Prop} (I:Inv X pins σ H s) (hg:Gl X x) (hm:X.mg x=none) (hv:bootBuiltins x=some u) (h:Q u s)
   (hn:x≠"__name__":=by decide) (hd:(x==("__debug__":Str))=false:=by decide):wpAny (model X.prog X.w) X.A (eval (.Name x pos) X.env) Q E s:=by
 obtain⟨mb,h1,h2⟩:=I.mod.blt;exact Calls.Name_function_global I.ok.kind hg (Calls.loadGlobal_builtin (by rw[I.ok.glob]; exact I.mod.glob.keeps I.bk) hm (by rw[I.ok.blt]; exact h1.keeps I.bk) ((h2 x hn).trans hv) h) hd
theorem zsi {x:Str} {v:V} {u:Value} {pos:Pos} (hg:Gl X x) (hm:X.mg x=some u) (r:zdg v u) (hd:(x==("__debug__":Str))=false:=by decide):PE X (.Name x pos) (tC v) :=
 λ_ _ _ H _ I h=>zm7 I hg hm ⟨v,H,I,r,h⟩ hd
theorem zhy {x:Str} {v:V} {u:Value} {pos:Pos} (hg:Gl X x) (hm:X.mg x=none) (hv:bootBuiltins x=some u) (r:zdg v u) (hn:x≠"__name__":=by decide) (hd:(x==("__debug__":Str))=false:=by decide):PE X (.Name x pos) (tC v) :=
 λ_ _ _ H _ I h=>zl2 I hg hm hv ⟨v,H,I,r,h⟩ hn hd
variable {a b:Expr} {ta tb:TE} {pos:Pos}
def PC (X:Cx) (op:CmpOp) (a b:Expr) (t:TE):Prop :=
 ∀(pins:List (Addr×Obj)) (s:Shared) (σ:St) (H:Hp) (Q:VK),Inv X pins σ H s->t σ H Q ->
   wpAny (model X.prog X.w) X.A (eval a X.env) (λv s₁=>wpAny (model X.prog X.w) X.A (eval b X.env) (λu s₂=>wpAny (model X.prog X.w) X.A (compareOp op v u) (EP X pins σ Q) X.xe s₂) X.xe s₁) X.xe s
theorem zui (b:Expr) {op:CmpOp} (h:op≠.In) (h2:op≠.NotIn):behindInMarks op b=false:=by
 have e1:(op==CmpOp.In)=false:=by cases op <;> first|rfl|exact absurd rfl h
 have e2:(op==CmpOp.NotIn)=false:=by cases op <;> first|rfl|exact absurd rfl h2
 cases b <;> simp [behindInMarks,e1,e2]
def tIsN (ta:TE):TE:=λσ H Q=>ta σ H λx H1=>Q (.bl (decide (x=.non))) H1
def z6c (ta:TE):TE:=λσ H Q=>ta σ H λx H1=>Q (.bl (!decide (x=.non))) H1
theorem zdg.none_iff {x:V} {v:Value} (r:zdg x v):(v==Value.none)=decide (x=.non):=by
 cases x with
 | non=>cases r; rfl
 | bl _=>cases r; rfl
 | int _=>obtain⟨t,rfl⟩:=r; rfl
 | str _=>obtain⟨t,rfl⟩:=r; rfl
 | byt _=>obtain⟨t,rfl⟩:=r; rfl
 | flt _=>obtain⟨t,rfl⟩:=r; rfl
 | ref _=>cases r; rfl
 | ty _=>cases r; rfl
theorem z08 {j pos'} (ha:PE X a ta):PC X .Is a (.Constant .none j pos') (tIsN ta):=by intro pins s σ H Q I h;refine thn (ha pins s σ H _ I h) λv s1 ⟨x,H1,I1,r1,q1⟩=>?_;exact Constant_none (is_none_gen ⟨.bl _,H1,I1,by rw[r1.none_iff]; rfl,q1⟩)
theorem zsm {j pos'} (ha:PE X a ta):PC X .IsNot a (.Constant .none j pos') (z6c ta):=by intro pins s σ H Q I h;refine thn (ha pins s σ H _ I h) λv s1 ⟨x,H1,I1,r1,q1⟩=>?_;exact Constant_none (isnot_none_gen ⟨.bl _,H1,I1,by rw[r1.none_iff]; rfl,q1⟩)
def tB (t:TE):TT:=λσ H Q=>t σ H λx H1=>∃c,x=.bl c/\Q c H1
theorem z31 {op:CmpOp} {t:TE} (h:PC X op a b t) (h1:behindInMarks op b=false:=by first|exact zui _ (by decide) (by decide)|rfl):PE X (.Compare a [op] [b] pos) t:=λpins s σ H Q I hw=>wpAny_Compare1 (h pins s σ H Q I hw) h1
theorem zoz {op:CmpOp} {t:TE} (h:PC X op a b t) (h1:behindInMarks op b=false:=by first|exact zui _ (by decide) (by decide)|rfl):PT X (.Compare a [op] [b] pos) (tB t):=by intro pins s σ H Q I hw;refine wpAny_isTrue_Compare1 (thn (h pins s σ H _ I hw) λv s1 h1=>thn h1 λu s2 h2=>thn h2 λc s3 ⟨x,H1,I1,r1,q1⟩=>?_) h1;obtain⟨d,rfl,q⟩:=q1;cases r1;exact wpAny_truthy_bool ⟨H1,I1,q⟩
theorem zf9 {e:Expr} {t:TE} (h:PE X e t) (he:∀whole,isTrue e X.env whole=(do let v <- whole; standAt e.pos; holding [v] (truthy v)):=by intro _; rfl):PT X e (tB t):=by intro pins s σ H Q I hw;refine isTrue_plain (thn (h pins s σ H _ I hw) λv s1 ⟨x,H1,I1,r1,q1⟩=>?_) (he _);obtain⟨d,rfl,q⟩:=q1;cases r1;exact wpAny_truthy_bool ⟨H1,I1,q⟩
variable {tA tB':TT} {rest:List Expr}
def tAnd (t u:TT):TT:=λσ H Q=>t σ H λc H1=>if c=true then u σ H1 Q else Q false H1
def tOr (t u:TT):TT:=λσ H Q=>t σ H λc H1=>if c=true then Q true H1 else u σ H1 Q
def tNot (t:TT):TT:=λσ H Q=>t σ H λc H1=>Q (!c) H1
theorem zvw (ha:PT X a tA):PW X (.BoolOp .And [a] pos) tA:=by
 intro wh pins s σ H Q I h;refine isTrue_and (thn (ha pins s σ H Q I h) λc s1 e=>?_);cases c with
 | true=>exact isTrue_and_nil e
 | false=>exact e
theorem zmy (ha:PT X a tA):PW X (.BoolOp .Or [a] pos) tA:=by
 intro wh pins s σ H Q I h;refine isTrue_or (thn (ha pins s σ H Q I h) λc s1 e=>?_);cases c with
 | false=>exact isTrue_or_nil e
 | true=>exact e
theorem z0u (ha:PT X a tA) (hb:PW X (.BoolOp .And (b :: rest) pos) tB'):PW X (.BoolOp .And (a :: b :: rest) pos) (tAnd tA tB'):=by
 intro wh pins s σ H Q I h;refine isTrue_and (thn (ha pins s σ H _ I h) λc s1 ⟨H1,I1,q1⟩=>?_);cases c with
 | true=>exact hb wh pins s1 σ H1 Q I1 q1
 | false=>exact⟨H1,I1,q1⟩
theorem zob (ha:PT X a tA) (hb:PW X (.BoolOp .Or (b :: rest) pos) tB'):PW X (.BoolOp .Or (a :: b :: rest) pos) (tOr tA tB'):=by
 intro wh pins s σ H Q I h;refine isTrue_or (thn (ha pins s σ H _ I h) λc s1 ⟨H1,I1,q1⟩=>?_);cases c with
 | true=>exact⟨H1,I1,q1⟩
 | false=>exact hb wh pins s1 σ H1 Q I1 q1
theorem zjt (ha:PT X a tA):PT X (.UnaryOp .Not a pos) (tNot tA):=by intro pins s σ H Q I h;exact isTrue_not (ha pins s σ H (λc H1=>Q (!c) H1) I h)
def z5u (ta tb:TE):TE:=λσ H Q=>ta σ H λx H1=>∃c,x=.bl c/\if c=true then tb σ H1 Q else Q (.bl false) H1
def tOrV (ta tb:TE):TE:=λσ H Q=>ta σ H λx H1=>∃c,x=.bl c/\if c=true then Q (.bl true) H1 else tb σ H1 Q
def z6r (ta:TE):TE:=λσ H Q=>ta σ H λx H1=>∃c,x=.bl c/\Q (.bl (!c)) H1
theorem zt5 {op} {t:TE} (h:PE X a t):PE X (.BoolOp op [a] pos) t:=λpins s σ H Q I hw=>BoolOp_one (h pins s σ H Q I hw)
theorem zv2 (ha:PE X a ta) (hb:PE X (.BoolOp .And (b :: rest) pos) tb):PE X (.BoolOp .And (a :: b :: rest) pos) (z5u ta tb):=by
 intro pins s σ H Q I h;refine BoolOp_and (thn (ha pins s σ H _ I h) λv s1 ⟨x,H1,I1,r1,q1⟩=>?_);obtain⟨c,rfl,q1⟩:=q1;cases r1;refine wpAny_truthy_bool ?_;cases c with
 | true=>exact hb pins s1 σ H1 Q I1 q1
 | false=>exact⟨.bl false,H1,I1,rfl,q1⟩
theorem z6a (ha:PE X a ta) (hb:PE X (.BoolOp .Or (b :: rest) pos) tb):PE X (.BoolOp .Or (a :: b :: rest) pos) (tOrV ta tb):=by
 intro pins s σ H Q I h;refine BoolOp_or (thn (ha pins s σ H _ I h) λv s1 ⟨x,H1,I1,r1,q1⟩=>?_);obtain⟨c,rfl,q1⟩:=q1;cases r1;refine wpAny_truthy_bool ?_;cases c with
 | false=>exact hb pins s1 σ H1 Q I1 q1
 | true=>exact⟨.bl true,H1,I1,rfl,q1⟩
theorem z3u (ha:PE X a ta):PE X (.UnaryOp .Not a pos) (z6r ta):=by intro pins s σ H Q I h;refine UnaryOp_ (thn (ha pins s σ H _ I h) λv s1 ⟨x,H1,I1,r1,q1⟩=>?_);obtain⟨c,rfl,q1⟩:=q1;cases r1;exact not_of (wpAny_truthy_bool ⟨.bl (!c),H1,I1,rfl,q1⟩)
def tIf (t:TT) (ta tb:TE):TE:=λσ H Q=>t σ H λc H1=>if c=true then ta σ H1 Q else tb σ H1 Q
theorem zjh {c:Expr} (hc:PT X c tA) (ha:PE X a ta) (hb:PE X b tb):PE X (.IfExp c a b pos) (tIf tA ta tb):=by
 intro pins s σ H Q I h;refine wpAny_IfExp (thn (hc pins s σ H _ I h) λd s1 ⟨H1,I1,q1⟩=>?_);cases d with
 | true=>exact ha pins s1 σ H1 Q I1 q1
 | false=>exact hb pins s1 σ H1 Q I1 q1
end
def SqL (K:W.Frag) (H:Hp) (a:Addr) (xs:List V):Prop :=
 Rd H a (.lst xs) \/
   ∃(o:Obj) (its:Array Value) (n:Nat),K.lookup a=some o/\o.cls=.type "list"/\o.dict=none/\o.data=.seq its n/\its.size<=sizeLine/\zcw xs its.toList
def SqT (K:W.Frag) (H:Hp) (a:Addr) (xs:List V):Prop :=
 Rd H a (.tup xs) \/
   ∃(o:Obj) (its:Array Value) (n:Nat),K.lookup a=some o/\o.cls=.type "tuple"/\o.data=.seq its n/\its.size<=sizeLine/\zcw xs its.toList
def absV:Value->Option V
 | .none=>some .non
 | .bool b=>some (.bl b)
 | .int i _=>some (.int i)
 | .str x _=>some (.str x)
 | .bytes b _=>some (.byt b)
 | .float b _=>some (.flt b)
 | .ref a=>some (.ref a)
 | .type n=>some (.ty n)
 | _=>none
theorem zdg.abs {x:V} {u:Value} (r:zdg x u):absV u=some x:=by
 cases x with
 | non=>cases r; rfl
 | bl _=>cases r; rfl
 | int _=>obtain⟨t,rfl⟩:=r; rfl
 | str _=>obtain⟨t,rfl⟩:=r; rfl
 | byt _=>obtain⟨t,rfl⟩:=r; rfl
 | flt _=>obtain⟨t,rfl⟩:=r; rfl
 | ref _=>cases r; rfl
 | ty _=>cases r; rfl
theorem zdg.inj {x y:V} {u:Value} (r:zdg x u) (q:zdg y u):x=y:=Option.some.inj (r.abs.symm.trans q.abs)
theorem zcw.inj:∀{xs ys:List V} {us:List Value},zcw xs us->zcw ys us->xs=ys
 | _,_,_,.nil,.nil=>rfl
 | _,_,_,.cons r t,.cons r' t'=>by rw[r.inj r',zcw.inj t t']
section
variable {X:Cx} {pins:List (Addr×Obj)} {σ:St} {H:Hp} {s:Shared} {a:Addr} {xs ys:List V}
theorem SqL.of {K:W.Frag} (h:H a=some (.lst xs)):SqL K H a xs:=.inl (.inl h)
theorem SqT.of {K:W.Frag} (h:H a=some (.tup xs)):SqT K H a xs:=.inl (.inl h)
theorem Inv.list (I:Inv X pins σ H s) (h:SqL X.K H a xs):∃its:List Value,zcw xs its/\PlainL s.heap a its.toArray/\xs.length<=sizeLine:=by
 rcases h with h|⟨o,its,n,hk,hc,hd,hs,hz,r⟩
 . obtain⟨z,its,n,r,e⟩:=h.ok I.hok;exact⟨its,r,⟨_,n,e,rfl,rfl,rfl⟩,z⟩
 . refine⟨its.toList,r,⟨o,n,I.kIn a o hk,hc,hd,by simpa using hs⟩,?_⟩;have e:=r.length;simp only[qdg] at e;omega
theorem Inv.tuple (I:Inv X pins σ H s) (h:SqT X.K H a xs):∃its:List Value,zcw xs its/\IsTup s.heap a its.toArray/\xs.length<=sizeLine:=by
 rcases h with h|⟨o,its,n,hk,hc,hs,hz,r⟩
 . obtain⟨z,its,r,p⟩:=h.ok I.hok;exact⟨its,r,p,z⟩
 . refine⟨its.toList,r,⟨o,I.kIn a o hk,hc,n,by simpa using hs⟩,?_⟩;have e:=r.length;simp only[qdg] at e;omega
theorem Inv.list_inj (I:Inv X pins σ H s) (h:SqL X.K H a xs) (h':SqL X.K H a ys):xs=ys:=by
 obtain⟨its,r,⟨o,n,e,_,_,d⟩,_⟩:=I.list h;obtain⟨its',r',⟨o',n',e',_,_,d'⟩,_⟩:=I.list h';rw[e] at e'; cases e';rw[d] at d';injection d' with d1 _
 have:its=its':=by simpa using congrArg Array.toList d1
 subst this;exact r.inj r'
theorem Inv.tuple_inj (I:Inv X pins σ H s) (h:SqT X.K H a xs) (h':SqT X.K H a ys):xs=ys:=by
 obtain⟨its,r,⟨o,e,_,n,d⟩,_⟩:=I.tuple h;obtain⟨its',r',⟨o',e',_,n',d'⟩,_⟩:=I.tuple h';rw[e] at e'; cases e';rw[d] at d';injection d' with d1 _
 have:its=its':=by simpa using congrArg Array.toList d1
 subst this;exact r.inj r'
end
abbrev Cx.wish (X:Cx) (E:Value->Shared->Prop):Cx:={ X with xe:=E }
abbrev Cx.nox (X:Cx):Cx:=X.wish λ_ _=>False
theorem Cx.Ok.wish {X:Cx} (ok:X.Ok) (E:Value->Shared->Prop):(X.wish E).Ok :=
 ⟨ok.mod,ok.kind,ok.glob,ok.blt,ok.above,ok.inj,ok.has,ok.cab,ok.hd,ok.frames,ok.stk,ok.exf,ok.bs,ok.bsz,ok.noex,ok.exfs,ok.funs,ok.frf⟩
theorem Cx.Ok.unwish {X:Cx} {E:Value->Shared->Prop} (ok:(X.wish E).Ok):X.Ok :=
 ⟨ok.mod,ok.kind,ok.glob,ok.blt,ok.above,ok.inj,ok.has,ok.cab,ok.hd,ok.frames,ok.stk,ok.exf,ok.bs,ok.bsz,ok.noex,ok.exfs,ok.funs,ok.frf⟩
section
variable {X:Cx} {pins:List (Addr×Obj)} {σ:St} {H:Hp} {s:Shared} {E:Value->Shared->Prop}
theorem Inv.wish (I:Inv X pins σ H s) (E:Value->Shared->Prop):Inv (X.wish E) pins σ H s:=⟨I.ok.wish E,I.os,I.bare,I.base,I.loc,I.cell,I.free,I.freeC,I.pin,I.hok,I.len⟩
theorem Inv.unwish (I:Inv (X.wish E) pins σ H s):Inv X pins σ H s:=⟨I.ok.unwish,I.os,I.bare,I.base,I.loc,I.cell,I.free,I.freeC,I.pin,I.hok,I.len⟩
theorem SP.unwish {D:zkb} {f:Flow} {s':Shared} (h:SP (X.wish E) pins D f s'):SP X pins D f s':=by
 cases f with
 | next=>obtain⟨σ',H',I,q⟩:=h; exact⟨σ',H',I.unwish,q⟩
 | brk=>obtain⟨σ',H',I,q⟩:=h; exact⟨σ',H',I.unwish,q⟩
 | cont=>obtain⟨σ',H',I,q⟩:=h; exact⟨σ',H',I.unwish,q⟩
 | ret u=>obtain⟨v,σ',H',I,r,q⟩:=h; exact⟨v,σ',H',I.unwish,r,q⟩
theorem PSs.nox {st:List Stmt} {t:TS} (h:PSs X.nox st t):PSs X st t:=λpins s σ H D I hw =>
 wpAny_mono (h pins s σ H D (I.wish _) hw) (λ_ _ q=>q.unwish) λ_ _ z=>False.elim z
end
section
variable {X:Cx} {st:Stmt} {rest:List Stmt} {t u:TS} {e:Expr} {te:TE} {pos:Pos}
def z6m:TS:=λD σ H=>D.nx σ H
def tSeq (t u:TS):TS:=λD σ H=>t { D with nx:=u D } σ H
theorem zan:PSs X [] z6m:=λ_ _ σ H _ I h=>wpAny_execs_nil ⟨σ,H,I,h⟩
theorem zac (h1:PS X st t) (h2:PSs X rest u):PSs X (st :: rest) (tSeq t u):=by
 intro pins s σ H D I h;refine wpAny_execs_cons (thn (h1 pins s σ H { D with nx:=u D } I h) λf s1 q=>?_);cases f with
 | next =>
   obtain⟨σ',H',I',q⟩:=q;exact h2 pins s1 σ' H' D I' q
 | ret v=>exact q
 | brk=>exact q
 | cont=>exact q
theorem zah (h1:PS X st t):PSs X [st] t:=by
 intro pins s σ H D I h;refine wpAny_execs_cons (thn (h1 pins s σ H D I h) λf s1 q=>?_);cases f with
 | next=>exact wpAny_execs_nil q
 | ret v=>exact q
 | brk=>exact q
 | cont=>exact q
def z4f:TS:=λD σ H=>D.bk σ H
theorem zyz:PS X (.Break pos) z4f:=λ_ _ σ H _ I h=>wpAny_Break ⟨σ,H,I,h⟩
theorem Inv.quiet {pins:List (Addr×Obj)} {σ:St} {H:Hp} {s:Shared} (I:Inv X pins σ H s):interactive X.env=false:=by simp [interactive,I.ok.kind]
def z6o (te:TE):TS:=λD σ H=>te σ H λ_ H1=>D.nx σ H1
theorem zbp (he:PE X e te) (hs:swapsWith e none pos.line X.env=pure false:=by rfl):PS X (.Expr e pos) (z6o te):=by intro pins s σ H D I h;exact wpAny_Expr_any (thn (he pins s σ H _ I h) λv s1 ⟨x,H1,I1,r1,q1⟩=>⟨σ,H1,I1,q1⟩) I.quiet hs
def tRet (te:TE):TS:=λD σ H=>te σ H D.rt
theorem zas (he:PE X e te):PS X (.Return (some e) pos) (tRet te):=by intro pins s σ H D I h;exact wpAny_Return_some (thn (he pins s σ H _ I h) λv s1 ⟨x,H1,I1,r1,q1⟩=>⟨x,σ,H1,I1,r1,q1⟩)
def tIfS (c:TT) (t u:TS):TS:=λD σ H=>c σ H λb H1=>if b=true then t D σ H1 else u D σ H1
theorem zbd {c:Expr} {a b:List Stmt} {tc:TT} (hc:PT X c tc) (ha:PSs X a t) (hb:PSs X b u):PS X (.If c a b pos) (tIfS tc t u):=by
 intro pins s σ H D I h;refine wpAny_If (thn (hc pins s σ H _ I h) λd s1 ⟨H1,I1,q1⟩=>?_);cases d with
 | true=>exact ha pins s1 σ H1 D I1 q1
 | false=>exact hb pins s1 σ H1 D I1 q1
end
abbrev TG:=V->St->Hp->(St->Hp->Prop)->Prop
abbrev TGs:=List V->St->Hp->(St->Hp->Prop)->Prop
def PG (X:Cx) (target:Expr) (t:TG):Prop :=
 ∀(pins:List (Addr×Obj)) (s:Shared) (σ:St) (H:Hp) (v:V) (u:Value) (Q:St->Hp->Prop),Inv X pins σ H s->zdg v u->t v σ H Q ->
   wpAny (model X.prog X.w) X.A (assign target X.env u) (λ_ s'=>∃σ' H',Inv X pins σ' H' s'/\Q σ' H') X.xe s
def PGs (X:Cx) (ts:List Expr) (t:TGs):Prop :=
 ∀(pins:List (Addr×Obj)) (s:Shared) (σ:St) (H:Hp) (vs:List V) (us:List Value) (Q:St->Hp->Prop),Inv X pins σ H s->zcw vs us->t vs σ H Q ->
   wpAny (model X.prog X.w) X.A (assignInOrder ((assignEach ts X.env).map (·.2)) us) (λ_ s'=>∃σ' H',Inv X pins σ' H' s'/\Q σ' H') X.xe s
abbrev z59:=V->V->V->Hp->(Hp->Prop)->Prop
def PSet (X:Cx) (t:z59):Prop :=
 ∀(pins:List (Addr×Obj)) (s:Shared) (σ:St) (H:Hp) (o i v:V) (ov iv u:Value) (Q:Hp->Prop),Inv X pins σ H s->zdg o ov->zdg i iv->zdg v u->t o i v H Q ->
   wpAny (model X.prog X.w) X.A (setItem ov iv u) (λ_ s'=>∃H',Inv X pins σ H' s'/\Q H') X.xe s
section
variable {X:Cx} {pos:Pos}
def zql (i:Nat):TG:=λv σ H Q=>Q (σ.set i (some v)) H
theorem za0 {i:Nat} {x:Str} (hN:X.N.Nodup) (hi:X.N[i]?=some x) (hx:Loc X.env.scope x) (hf:X.fn x=true\/X.env.scope.names.lookup x=some .local:=by first|exact .inl rfl|exact .inr rfl|assumption):PG X (.Name x pos) (zql i):=by intro pins s σ H v u Q I r h;exact wpAny_assign_Name (zpl I hN hi hx r (λs' I'=>⟨_,H,I',h⟩) hf)
def gNil:TGs:=λvs σ H Q=>vs=[]/\Q σ H
def z5v (t:TG) (u:TGs):TGs:=λvs σ H Q=>∃v r,vs=v :: r/\t v σ H λσ' H'=>u r σ' H' Q
theorem zh2:PGs X [] gNil:=by intro pins s σ H vs us Q I r h;obtain⟨e,h⟩:=h;subst e;cases r;exact assignInOrder_nil ⟨σ,H,I,h⟩
theorem zb8 {e:Expr} {es:List Expr} {t:TG} {u:TGs} (h1:PG X e t) (h2:PGs X es u)
   (hs:(assignEach (e :: es) X.env).map (·.2)=assign e X.env :: (assignEach es X.env).map (·.2):=by rfl):PGs X (e :: es) (z5v t u):=by
 intro pins s σ H vs us Q I r h;obtain⟨v,vr,e1,h⟩:=h;subst e1;cases r with
 | cons r rr =>
   rw[hs];refine assignInOrder_cons (thn (h1 pins s σ H _ _ _ I r h) λ_ s1 ⟨σ1,H1,I1,q1⟩=>?_);exact h2 pins s1 σ1 H1 _ _ Q I1 rr q1
def gTup (K:W.Frag) (n:Nat) (t:TGs):TG:=λv σ H Q=>∃a xs,v=.ref a/\SqT K H a xs/\xs.length=n/\t xs σ H Q
theorem zmd {es:List Expr} {k:Nat} {t:TGs} {n:Nat} (hc:X.calm=true) (h:PGs X es t)
   (hn:(assignEach es X.env).length=n:=by rfl) (hst:(assignEach es X.env).findIdx? (·.1)=none:=by rfl):PG X (.Tuple es k pos) (gTup X.K n t):=by
 intro pins s σ H v u Q I r hw;obtain⟨a,xs,e1,hq,hl,hw⟩:=hw;subst e1;cases r;obtain⟨its,rv,ht,hz⟩:=I.tuple hq;refine assign_Tuple_tuple (I.ok.hd hc) ht (by simp [hn,<- hl,rv.length]) hst λh' hx=>?_;have I1:Inv X pins σ H { s with heap:=h' }:=I.kept (t':=s.toks) λb o e=>hx b o (qa5 (Heap.lt_size e)) e;exact h pins _ σ H xs _ Q I1 (by simpa using rv) hw
def gSub (to ti:TE) (t:z59):TG:=λv σ H Q=>to σ H λo H1=>ti σ H1 λi H2=>t o i v H2 λH3=>Q σ H3
theorem zns {o i:Expr} {to ti:TE} {t:z59} (ho:PE X o to) (hi:PE X i ti) (hs:PSet X t)
   (ha:∀v,assign (.Subscript o i pos) X.env v=(do
     let ov <- holding [v] (eval o X.env)
     let iv <- holding [v,ov] (eval i X.env)
     standAt pos
     holding [v,ov,iv] (setItem ov iv v)
     release [v,ov,iv] []):=by intro _; rfl):PG X (.Subscript o i pos) (gSub to ti t):=by
 intro pins s σ H v u Q I r h;rw[ha];refine wpAny_bind (wpAny_holding (thn (ho pins s σ H _ I h) λov s1 ⟨x,H1,I1,r1,q1⟩=>?_));refine wpAny_bind (wpAny_holding (thn (hi pins s1 σ H1 _ I1 q1) λiv s2 ⟨y,H2,I2,r2,q2⟩=>?_));refine wpAny_bind (wpAny_standAt (wpAny_bind (wpAny_holding (thn (hs pins s2 σ H2 x y v ov iv u _ I2 r1 r2 r q2) λ_ s3 ⟨H3,I3,q3⟩=>?_))));exact wpAny_release ⟨σ,H3,I3,q3⟩
def z6f (te:TE) (g:TG):TS:=λD σ H=>te σ H λx H1=>g x σ H1 D.nx
theorem zly {tg e:Expr} {te:TE} {g:TG} (he:PE X e te) (hg:PG X tg g) (hs:swapsWithSole [tg] e pos.line X.env=pure false:=by rfl) (hw:swappedStores [tg] e X.env=pure none:=by rfl)
   (h1:(assignEach [tg] X.env).map (·.2)=[assign tg X.env]:=by rfl):PS X (.Assign [tg] e pos) (z6f te g):=by
 intro pins s σ H D I h;refine wpAny_Assign_stores (thn (he pins s σ H _ I h) λv s1 ⟨x,H1,I1,r1,q1⟩=>?_) hs hw;rw[h1];exact thn (hg pins s1 σ H1 x v _ I1 r1 q1) λ_ s2 q=>q
theorem zay {i:Nat} {x:Str} {e:Expr} {te:TE} {pos':Pos} (hN:X.N.Nodup) (hi:X.N[i]?=some x) (hx:Loc X.env.scope x) (he:PE X e te) (hs:swapsWith e (some (.Name x pos')) pos.line X.env=pure false:=by rfl) (hf:X.fn x=true\/X.env.scope.names.lookup x=some .local:=by first|exact .inl rfl|exact .inr rfl|assumption) :
   PS X (.Assign [.Name x pos'] e pos) (z6f te (zql i)):=by
 intro pins s σ H D I h;refine wpAny_Assign_Name (thn (he pins s σ H _ I h) λv s1 ⟨y,H1,I1,r1,q1⟩=>?_) hs;exact zpl I1 hN hi hx r1 (λs2 I2=>⟨_,H1,I2,q1⟩) hf
end
structure It where
 go:Nat->Hp->Prop
 yld:Nat->Hp->V->Hp->Prop
 stop:Nat->Hp->Prop
def zxq (X:Cx) (pins:List (Addr×Obj)) (H:Hp) (b:Addr):Prop :=
 H b=none/\b≠X.env.locals/\b ∉ X.fs/\(b∈X.ex\/X.s₀.heap.objs.size<=b)/\(∀x c,X.env.cells.lookup x=some c->c≠b)/\∀p∈X.pn++pins,p.1≠b
theorem Inv.fpOk {X:Cx} {pins:List (Addr×Obj)} {σ:St} {H H':Hp} {s:Shared} {b:Addr} (I:Inv X pins σ H s) (hb:s.heap.objs.size<=b) (hn:H' b=none):zxq X pins H' b:=by
 refine⟨hn,qcd (Nat.lt_of_lt_of_le I.lt hb),I.nofs hb,.inr (Nat.le_trans I.sz hb),λx c e z=>?_,λp hp z=>?_⟩
 . obtain⟨v,q⟩:=I.cell x c e;exact absurd (Nat.lt_of_lt_of_le q.lt (by rw[z]; exact hb)) (qbf _)
 . exact absurd (Nat.lt_of_lt_of_le (Heap.lt_size (I.pin p hp).1) (by rw[z]; exact hb)) (qbf _)
structure Turn (P:Program) (w:World) (K:W.Frag) (tg:Expr) (J:It) (fp:List Addr) (it:Addr) (tn:Nat->Heap->Prop):Prop where
 mem:it∈fp
 obj:∀i h,tn i h->∀b∈fp,∃o,h.get? b=some o/\∀v,o.data≠.cell v
 keep:∀i h h',tn i h->(∀b∈fp,∀o,h.get? b=some o->h'.get? b=some o)->tn i h'
 item:∀(X:Cx),X.prog=P->X.w=w->X.K=K->X.calm=true->∀(i:Nat) (pins:List (Addr×Obj)) (s:Shared) (σ:St) (H:Hp) (E:Value->Shared->Prop),Inv X pins σ H s->(∀b∈fp,zxq X pins H b)->tn i s.heap->J.go i H ->
   wpAny (model P w) X.A (pyNext (.ref it)) (λr s1=>∃u,r=some u /\
     wpAny (model P w) X.A (letOwnedTupleGo tg (.ref it) u) (λ_ s2=>∃x H',Inv X pins σ H' s2/\zdg x u/\J.yld i H x H'/\tn (i+1) s2.heap/\∀b∈fp,H' b=none) E s1) E s
 done:∀(X:Cx),X.prog=P->X.w=w->X.K=K->X.calm=true->∀(i:Nat) (pins:List (Addr×Obj)) (s:Shared) (σ:St) (H:Hp) (E:Value->Shared->Prop),Inv X pins σ H s->(∀b∈fp,zxq X pins H b)->tn i s.heap->J.stop i H ->
   wpAny (model P w) X.A (pyNext (.ref it)) (λr s1=>r=none/\Inv X pins σ H s1) E s
 self:∀(A:Around) (i:Nat) (s:Shared) (Q:Value->Shared->Prop) (E:Value->Shared->Prop),tn i s.heap->Q (.ref it) s->wpAny (model P w) A (pyIter (.ref it)) Q E s
abbrev TI:=St->Hp->(It->Hp->Prop)->Prop
def PIE (X:Cx) (pins:List (Addr×Obj)) (σ:St) (tg:Expr) (R:It->Hp->Prop) (itv:Value) (s2:Shared):Prop :=
 ∃(it:Addr) (fp:List Addr) (tn:Nat->Heap->Prop) (J:It) (H':Hp),itv=.ref it/\Inv X pins σ H' s2/\Turn X.prog X.w X.K tg J fp it tn/\tn 0 s2.heap/\(∀b∈fp,zxq X pins H' b)/\R J H'
def PI (X:Cx) (tg iter:Expr) (wi:TI):Prop :=
 ∀(pins:List (Addr×Obj)) (s:Shared) (σ:St) (H:Hp) (R:It->Hp->Prop),Inv X pins σ H s->wi σ H R ->
   wpAny (model X.prog X.w) X.A (eval iter X.env) (λv s1=>wpAny (model X.prog X.w) X.A (pyIter v) (PIE X pins σ tg R) X.xe s1) X.xe s
theorem zzc {M:Model} {A:Around} {E:Value->Shared->Prop} {s:Shared} {tg:Expr} {it:Addr} {u:Value} {o:Obj} {n:String} {vs:Array Value} {Q:Unit->Shared->Prop} (ho:s.heap.get? it=some o) (hc:o.cls=.type n) (hd:o.data=.fields vs)
   (hn:["enumerate","zip","dict_itemiterator","dict_reverseitemiterator","odict_iterator","itertools.zip_longest","itertools.pairwise"].contains n=false) (hQ:Q () s):wpAny M A (letOwnedTupleGo tg (.ref it) u) Q E s:=by
 unfold letOwnedTupleGo;cases tg <;> first
   | exact wpAny_pure hQ
   | (cases u <;> first
       | exact wpAny_pure hQ
       | (refine wpAny_bind (wpAny_load ho ?_)
          rw[hc,hd];show wpAny M A (if(["enumerate","zip","dict_itemiterator","dict_reverseitemiterator","odict_iterator","itertools.zip_longest","itertools.pairwise"].contains n&&vs[0]?==some (rawInt _))=true then _ else _) Q E s;rw[if_neg (by intro h; rw[hn,Bool.false_and] at h; cases h)];exact wpAny_pure hQ))
def Itl (K:W.Frag) (a:Addr):It :=
 ⟨λi H=>∃xs x,SqL K H a xs/\xs[i]?=some x,λi H x H'=>H'=H/\∀xs,SqL K H a xs->xs[i]?=some x,λi H=>∃xs,SqL K H a xs/\xs.length<=i⟩
def Itt (K:W.Frag) (a:Addr):It :=
 ⟨λi H=>∃xs x,SqT K H a xs/\xs[i]?=some x,λi H x H'=>H'=H/\∀xs,SqT K H a xs->xs[i]?=some x,λi H=>∃xs,SqT K H a xs/\xs.length<=i⟩
def Itr (lo:Int) (n:Nat):It:=⟨λi _=>i<n,λi H x H'=>H'=H/\x=.int (lo+i),λi _=>n<=i⟩
theorem zwd {P:Program} {w:World} {K:W.Frag} {tg:Expr} (a it:Addr):Turn P w K tg (Itl K a) [it] it (λi h=>h.IsListIter it a i) where
 mem:=by simp
 obj:=λi h st b hb=>by
   have e:b=it:=by simpa using hb
   subst e;obtain⟨o,e,c,d⟩:=st;exact⟨o,e,λv z=>by rw[d] at z; cases z⟩
 keep:=λi h h' st k=>st.at λo e=>k it (by simp) o e
 item:=by intro X hP hw hK hc i pins s σ H E I hf st hg;subst hP hw hK;obtain⟨xs,x,hq,hx⟩:=hg;obtain⟨its,rv,p,hz⟩:=I.list hq;obtain⟨u,hu,ru⟩:=rv.get hx;obtain⟨f0,f1,f2,f3,f4,f5⟩:=hf it (by simp);refine wpAny_pyNext_list_item st p.isList (x:=u) (by simpa using hu) λh' st' sb=>?_;have I1:Inv X pins σ H { s with heap:=h' }:=I.turned (t':=s.toks) (λb o hb e=>(sb.2 b hb).trans e) f0 f1 f3 f4 f5;obtain⟨o,e,c,d⟩:=id st';exact⟨u,rfl,zzc (s:={ s with heap:=h' }) e c d (by decide) ⟨x,H,I1,ru,⟨rfl,λys hy=>by rw[I.list_inj hy hq]; exact hx⟩,st',λb hb=>(hf b hb).1⟩⟩
 done:=by intro X hP hw hK hc i pins s σ H E I hf st hg;subst hP hw hK;obtain⟨xs,hq,hx⟩:=hg;obtain⟨its,rv,p,hz⟩:=I.list hq;obtain⟨f0,f1,f2,f3,f4,f5⟩:=hf it (by simp);have hl:=rv.length;exact wpAny_pyNext_list_end (I.ok.hd hc) st p.isList (by simp; omega) λh' eb=>⟨rfl,I.turned (t':=s.toks) (λb o hb e=>eb b o hb e) f0 f1 f3 f4 f5⟩
 self:=λ_ _ _ _ _ st h=>wpAny_pyIter_listiter st h
theorem zut {P:Program} {w:World} {K:W.Frag} {tg:Expr} (a it:Addr):Turn P w K tg (Itt K a) [it] it (λi h=>h.IsTupleIter it a i) where
 mem:=by simp
 obj:=λi h st b hb=>by
   have e:b=it:=by simpa using hb
   subst e;obtain⟨o,e,c,d⟩:=st;exact⟨o,e,λv z=>by rw[d] at z; cases z⟩
 keep:=λi h h' st k=>st.at λo e=>k it (by simp) o e
 item:=by intro X hP hw hK hc i pins s σ H E I hf st hg;subst hP hw hK;obtain⟨xs,x,hq,hx⟩:=hg;obtain⟨its,rv,p,hz⟩:=I.tuple hq;obtain⟨u,hu,ru⟩:=rv.get hx;obtain⟨f0,f1,f2,f3,f4,f5⟩:=hf it (by simp);refine wpAny_pyNext_tuple_item st (show s.heap.IsTuple a its.toArray from p) (x:=u) (by simpa using hu) λh' st' sb=>?_;have I1:Inv X pins σ H { s with heap:=h' }:=I.turned (t':=s.toks) (λb o hb e=>(sb.2 b hb).trans e) f0 f1 f3 f4 f5;obtain⟨o,e,c,d⟩:=id st';exact⟨u,rfl,zzc (s:={ s with heap:=h' }) e c d (by decide) ⟨x,H,I1,ru,⟨rfl,λys hy=>by rw[I.tuple_inj hy hq]; exact hx⟩,st',λb hb=>(hf b hb).1⟩⟩
 done:=by intro X hP hw hK hc i pins s σ H E I hf st hg;subst hP hw hK;obtain⟨xs,hq,hx⟩:=hg;obtain⟨its,rv,p,hz⟩:=I.tuple hq;obtain⟨f0,f1,f2,f3,f4,f5⟩:=hf it (by simp);have hl:=rv.length;exact wpAny_pyNext_tuple_end (I.ok.hd hc) st (show s.heap.IsTuple a its.toArray from p) (by simp; omega) λh' eb=>⟨rfl,I.turned (t':=s.toks) (λb o hb e=>eb b o hb e) f0 f1 f3 f4 f5⟩
 self:=λ_ _ _ _ _ st h=>wpAny_pyIter_tupleiter st h
theorem zuq {P:Program} {w:World} {K:W.Frag} {tg:Expr} (it:Addr) (lo:Int) (n:Nat):Turn P w K tg (Itr lo n) [it] it (λi h=>IsRangeIter h it (lo+(i:Nat) * 1) ((n:Int) - (i:Nat)) 1) where
 mem:=by simp
 obj:=λi h st b hb=>by
   have e:b=it:=by simpa using hb
   subst e;exact⟨_,st,λv z=>by have z':Data.fields _=Data.cell v:=z;cases z'⟩
 keep:=λi h h' st k=>k it (by simp) _ st
 item:=by intro X hP hw hK hc i pins s σ H E I hf st hg;subst hP hw hK;obtain⟨f0,f1,f2,f3,f4,f5⟩:=hf it (by simp);have W:=Walks.range (prog:=X.prog) (w:=X.w) (I.ok.hd hc) it lo 1 n;refine W.item i s _ _ hg st λv h' tk hv st' kk=>?_;obtain⟨t,rfl⟩:=hv;have I1:Inv X pins σ H { s with heap:=h',toks:=tk }:=I.turned (λb o hb e=>kk b o (by simpa using hb) e) f0 f1 f3 f4 f5;refine⟨_,rfl,zzc (s:={ s with heap:=h',toks:=tk }) (n:="range_iterator") st' rfl rfl (by decide) ⟨.int (lo+i),H,I1,⟨t,?_⟩,⟨rfl,rfl⟩,st',λb hb=>(hf b hb).1⟩⟩;rw[Int.mul_one]
 done:=by intro X hP hw hK hc i pins s σ H E I hf st hg;subst hP hw hK;obtain⟨f0,f1,f2,f3,f4,f5⟩:=hf it (by simp);exact wpAny_pyNext_range_end (I.ok.hd hc) st (by have:n<=i:=hg; omega) λh' eb=>⟨rfl,I.turned (t':=s.toks) (λb o hb e=>eb b o hb e) f0 f1 f3 f4 f5⟩
 self:=λ_ _ _ _ _ st h=>wpAny_pyIter_rangeiter st h
section
variable {X:Cx} {tg:Expr}
def z6v (K:W.Frag) (tl:TE):TI:=λσ H R=>tl σ H λx H1=>∃a,x=.ref a/\(∃xs,SqL K H1 a xs)/\R (Itl K a) H1
def iTup (K:W.Frag) (tl:TE):TI:=λσ H R=>tl σ H λx H1=>∃a,x=.ref a/\(∃xs,SqT K H1 a xs)/\R (Itt K a) H1
theorem zgc {l:Expr} {tl:TE} (hl:PE X l tl):PI X tg l (z6v X.K tl):=by
 intro pins s σ H R I h;refine thn (hl pins s σ H _ I h) λv s1 ⟨x,H1,I1,r1,q1⟩=>?_;obtain⟨a,e,⟨xs,hq⟩,q⟩:=q1;subst e;cases r1;obtain⟨its,rv,p,hz⟩:=I1.list hq;refine wpAny_pyIter_list p.isList ?_;refine⟨s1.heap.objs.size,[s1.heap.objs.size],_,_,H1,rfl,I1.kept (t':=s1.toks) λb o e=>Heap.get?_push_of_some _ e,zwd a _,⟨_,qao _ rfl,rfl,rfl⟩,λb hb=>?_,q⟩;have e:b=s1.heap.objs.size:=by simpa using hb
 subst e;exact I1.fpOk (qae _) (I1.hok.fresh (qae _))
theorem zqy {l:Expr} {tl:TE} (hl:PE X l tl):PI X tg l (iTup X.K tl):=by
 intro pins s σ H R I h;refine thn (hl pins s σ H _ I h) λv s1 ⟨x,H1,I1,r1,q1⟩=>?_;obtain⟨a,e,⟨xs,hq⟩,q⟩:=q1;subst e;cases r1;obtain⟨its,rv,p,hz⟩:=I1.tuple hq;refine wpAny_pyIter_tuple (show s1.heap.IsTuple a its.toArray from p) ?_;refine⟨s1.heap.objs.size,[s1.heap.objs.size],_,_,H1,rfl,I1.kept (t':=s1.toks) λb o e=>Heap.get?_push_of_some _ e,zut a _,⟨_,qao _ rfl,rfl,rfl⟩,λb hb=>?_,q⟩;have e:b=s1.heap.objs.size:=by simpa using hb
 subst e;exact I1.fpOk (qae _) (I1.hok.fresh (qae _))
theorem zzk {pins:List (Addr×Obj)} {σ:St} {H:Hp} {s:Shared} {R:It->Hp->Prop} {E:Value->Shared->Prop} {lo hi:Int} {t u v:Tok} {tk:Nat} (I:Inv X pins σ H s) (h1:-(2 ^ 62)<=lo) (h2:lo<2 ^ 62) (h3:-(2 ^ 62)<=hi) (h4:hi<2 ^ 62)
   (q:R (Itr lo (hi - lo).toNat) H):wpAny (model X.prog X.w) X.A (pyIter (.ref s.heap.objs.size)) (PIE X pins σ tg R) E { s with heap:=s.heap.push { cls:=.type "range",data:=.fields #[.int lo t,.int hi u,.int 1 v] },toks:=tk }:=by
 refine wpAny_pyIter_range (IsRange.new ..) (small_one h1 h2 h3 h4) ?_;have I1:Inv X pins σ H { s with heap:=s.heap.push { cls:=.type "range",data:=.fields #[.int lo t,.int hi u,.int 1 v] },toks:=tk }:=I.kept λb o e=>Heap.get?_push_of_some _ e;refine⟨(s.heap.push { cls:=.type "range",data:=.fields #[.int lo t,.int hi u,.int 1 v] }).objs.size,[(s.heap.push { cls:=.type "range",data:=.fields #[.int lo t,.int hi u,.int 1 v] }).objs.size],_,_,H,rfl,
   I1.kept (t':=tk) λb o e=>Heap.get?_push_of_some _ e,zuq _ lo (hi - lo).toNat,?_,λb hb=>?_,q⟩
 . have e1:lo+((0:Nat):Int) * 1=lo:=by simp
   have e2:(((hi - lo).toNat:Nat):Int) - ((0:Nat):Int)=Builtin.Range.rangeSize lo hi 1:=by rw[rangeSize_one]; split <;> omega
   show IsRangeIter _ _ (lo+((0:Nat):Int) * 1) ((((hi - lo).toNat:Nat):Int) - ((0:Nat):Int)) 1;rw[e1,e2];exact qao _ rfl
 . have e:b=(s.heap.push { cls:=.type "range",data:=.fields #[.int lo t,.int hi u,.int 1 v] }).objs.size:=by simpa using hb
   subst e;exact I1.fpOk (qae _) (I1.hok.fresh (qae _))
def z6q (ta:TA):TI:=λσ H R=>ta σ H λvs H1=>∃j:Int,vs=[.int j]/\-(2 ^ 62)<=j/\j<2 ^ 62/\R (Itr 0 j.toNat) H1
theorem zfe {a:Expr} {ta:TA} {p pos:Pos} (hg:Gl X "range") (hm:X.mg "range"=none) (ha:PA X [a] ta) (hs:starEach [a] X.env=[(false,eval a X.env)]:=by rfl):PI X tg (.Call (.Name "range" p) [a] [] pos) (z6q ta):=by
 intro pins s σ H R I h;refine Call_ (zl2 I hg hm boot_range (qbq (thn (ha pos pins s σ H _ I h) λus s1 ⟨vs,H1,I1,r1,q1⟩=>?_) hs rfl));obtain⟨j,e,q1,q2,q⟩:=q1;subst e;cases r1 with
 | cons r rr =>
   cases rr;obtain⟨t,rfl⟩:=r;exact call_range_1 (zzk I1 (by omega) (by omega) q1 q2 (by simpa using q))
def tFor (wi:TI) (g:TG) (tb:TS):TS:=λD σ H=>wi σ H λJ H1=>∃W:Nat->Nat->St->Hp->Prop,(∃m,W 0 m σ H1)/\∀i m σ H,W i m σ H ->
 (J.stop i H/\D.nx σ H)\/(J.go i H/\∃N:St->Hp->Prop,(∀σ' H',N σ' H'->∃m',m'<m/\W (i+1) m' σ' H')/\∀x H',J.yld i H x H'->g x σ H' λσ2 H2=>tb { D with nx:=N,ct:=N,bk:=D.nx } σ2 H2)
def zq4 (fp:List Addr) (h:Heap):List (Addr×Obj):=fp.filterMap λb=>(h.get? b).map λo=>(b,o)
theorem zja {fp:List Addr} {h:Heap} {b:Addr} {o:Obj} (hb:b∈fp) (e:h.get? b=some o):(b,o)∈zq4 fp h:=qdl.mpr ⟨b,hb,by rw[e]; rfl⟩
theorem zw9 {fp:List Addr} {h:Heap} {p:Addr×Obj} (hp:p∈zq4 fp h):p.1∈fp/\h.get? p.1=some p.2:=by
 obtain⟨b,hb,e⟩:=qdl.mp hp;cases q:h.get? b with
 | none=>rw[q] at e; cases e
 | some o =>
   rw[q] at e;have e':(b,o)=p:=Option.some.inj e;subst e';exact⟨hb,q⟩
theorem Inv.pinned {pins:List (Addr×Obj)} {σ:St} {H:Hp} {s:Shared} {fp:List Addr} (I:Inv X pins σ H s) (hf:∀b∈fp,zxq X pins H b) (ho:∀b∈fp,∃o,s.heap.get? b=some o/\∀v,o.data≠.cell v):Inv X (pins++zq4 fp s.heap) σ H s :=
 I.pins_of λp hp=>(List.mem_append.mp hp).elim (λz=>I.pin p (List.mem_append_right _ z)) λz=>by obtain⟨hb,e⟩:=zw9 z;obtain⟨f0,f1,f2,_⟩:=hf p.1 hb;obtain⟨o,e',d⟩:=ho p.1 hb;rw[e] at e'; cases e';exact⟨e,f0,f1,f2,d⟩
theorem Inv.unpinned {pins pl:List (Addr×Obj)} {σ:St} {H:Hp} {s:Shared} (I:Inv X (pins++pl) σ H s):Inv X pins σ H s:=I.pins_of λp hp=>I.pin p (List.mem_append_right _ (qbe _ hp))
theorem zea {iter:Expr} {body:List Stmt} {wi:TI} {g:TG} {tb:TS} {pos:Pos} (hp:PassesOwn (model X.prog X.w) X.A X.env X.xe) (hc:X.calm=true) (hi:PI X tg iter wi) (hg:PG X tg g) (hb:PSs X body tb)
   (hs:∀x,foldedSetIterable iter X.env x=pure x:=by intro _; rfl):PS X (.For tg iter body [] pos) (tFor wi g tb):=by
 intro pins s σ H D I h;refine wpAny_For (thn (hi pins s σ H _ I h) λv s1 h1=>thn h1 λitv s2 h2=>?_) hs;obtain⟨it,fp,tn,J,H2,e,I2,T,st2,f2,W,⟨m0,w0⟩,turn⟩:=h2;subst e
 -- what stays true of the iterator's objects through the loop
 have stat:∀{H':Hp},(∀b∈fp,H' b=none)->∀b∈fp,zxq X pins H' b:=λhn b hb=>⟨hn b hb,(f2 b hb).2⟩
 refine codeAny_forLoop_any (λn s'=>∃i σ' H',Inv X pins σ' H' s'/\tn i s'.heap/\(∀b∈fp,H' b=none)/\W i n σ' H') ?_ m0 ⟨0,σ,H2,I2,st2,λb hb=>(f2 b hb).1,w0⟩;rintro n s3 ⟨i,σ3,H3,I3,st3,fr3,w3⟩;rcases turn i n σ3 H3 w3 with⟨stop,qn⟩|⟨go,N,hN,step⟩
 . refine wpAny_passesOwn hp (thn (T.done X rfl rfl rfl hc i pins s3 σ3 H3 X.xe I3 (stat fr3) st3 stop) λr s4 ⟨hr,I4⟩=>?_);subst hr;exact wpAny_execs_nil ⟨σ3,H3,I4,qn⟩
 . refine wpAny_passesOwn hp (thn (T.item X rfl rfl rfl hc i pins s3 σ3 H3 X.xe I3 (stat fr3) st3 go) λr s4 ⟨u,hr,h4⟩=>?_);subst hr;refine wpAny_passesOwn hp (thn h4 λ_ s5 ⟨x,H5,I5,r5,y5,st5,fr5⟩=>?_);have I5':=I5.pinned (stat fr5) (T.obj _ _ st5);refine wpAny_passesOwn hp (thn (hg _ s5 σ3 H5 x u _ I5' r5 (step x H5 y5)) λ_ s6 ⟨σ6,H6,I6,q6⟩=>?_);refine wpAny_passesOwn hp (thn (hb _ s6 σ6 H6 _ I6 q6) λf s7 q7=>?_);have again:∀{σ7:St} {H7:Hp},Inv X (pins++zq4 fp s5.heap) σ7 H7 s7->N σ7 H7->∃m,m<n/\∃i σ' H',Inv X pins σ' H' s7/\tn i s7.heap/\(∀b∈fp,H' b=none)/\W i m σ' H':=λ{σ7 H7} I7 n7=>by obtain⟨m',hm,w7⟩:=hN σ7 H7 n7;refine⟨m',hm,i+1,σ7,H7,I7.unpinned,T.keep _ _ _ st5 λb hb o e=>(I7.pin (b,o) (List.mem_append_right _ (List.mem_append_right _ (zja hb e)))).1,λb hb=>?_,w7⟩;obtain⟨o,e,d⟩:=T.obj _ _ st5 b hb;exact(I7.pin (b,o) (List.mem_append_right _ (List.mem_append_right _ (zja hb e)))).2.1
   cases f with
   | next=>obtain⟨σ7,H7,I7,n7⟩:=q7; exact again I7 n7
   | cont=>obtain⟨σ7,H7,I7,n7⟩:=q7; exact again I7 n7
   | brk=>obtain⟨σ7,H7,I7,q7⟩:=q7; exact⟨σ7,H7,I7.unpinned,q7⟩
   | ret v=>obtain⟨x7,σ7,H7,I7,r7,q7⟩:=q7; exact⟨x7,σ7,H7,I7.unpinned,r7,q7⟩
end
theorem zk5 {K:W.Frag} {a:Addr} {xs:List V} {g:TG} {tb:TS} {D:zkb} {σ:St} {H:Hp} (Pv:Nat->St->Hp->Prop) (h0:Pv 0 σ H) (hl:∀i σ H,i<=xs.length->Pv i σ H->SqL K H a xs)
   (hs:∀i x σ H,xs[i]?=some x->Pv i σ H->g x σ H λσ2 H2=>tb { D with nx:=Pv (i+1),ct:=Pv (i+1),bk:=D.nx } σ2 H2) (hd:∀σ H,Pv xs.length σ H->D.nx σ H) :
   ∃W:Nat->Nat->St->Hp->Prop,(∃m,W 0 m σ H)/\∀i m σ H,W i m σ H ->
     ((Itl K a).stop i H/\D.nx σ H)\/((Itl K a).go i H/\∃N:St->Hp->Prop,(∀σ' H',N σ' H'->∃m',m'<m/\W (i+1) m' σ' H')/\∀x H',(Itl K a).yld i H x H'->g x σ H' λσ2 H2=>tb { D with nx:=N,ct:=N,bk:=D.nx } σ2 H2):=by
 refine⟨λi m σ H=>m=xs.length - i/\i<=xs.length/\Pv i σ H,⟨xs.length,by simp,qa4 _,h0⟩,?_⟩;rintro i m σ H ⟨rfl,hi,p⟩;have q:=hl i σ H hi p;by_cases hlt:i<xs.length
 . refine .inr ⟨⟨xs,xs[i],q,by simp [hlt]⟩,Pv (i+1),λσ' H' p'=>⟨xs.length - (i+1),by omega,rfl,hlt,p'⟩,λx H' y=>?_⟩;obtain⟨e,y⟩:=y;subst e;exact hs i x σ _ (y xs q) p
 . have e:i=xs.length:=by omega
   subst e;exact .inl ⟨⟨xs,q,qae _⟩,hd σ H p⟩
theorem zwn {K:W.Frag} {a:Addr} {xs:List V} {g:TG} {tb:TS} {D:zkb} {σ:St} {H:Hp} (Pv:Nat->St->Hp->Prop) (h0:Pv 0 σ H) (hl:∀i σ H,i<=xs.length->Pv i σ H->SqT K H a xs)
   (hs:∀i x σ H,xs[i]?=some x->Pv i σ H->g x σ H λσ2 H2=>tb { D with nx:=Pv (i+1),ct:=Pv (i+1),bk:=D.nx } σ2 H2) (hd:∀σ H,Pv xs.length σ H->D.nx σ H) :
   ∃W:Nat->Nat->St->Hp->Prop,(∃m,W 0 m σ H)/\∀i m σ H,W i m σ H ->
     ((Itt K a).stop i H/\D.nx σ H)\/((Itt K a).go i H/\∃N:St->Hp->Prop,(∀σ' H',N σ' H'->∃m',m'<m/\W (i+1) m' σ' H')/\∀x H',(Itt K a).yld i H x H'->g x σ H' λσ2 H2=>tb { D with nx:=N,ct:=N,bk:=D.nx } σ2 H2):=by
 refine⟨λi m σ H=>m=xs.length - i/\i<=xs.length/\Pv i σ H,⟨xs.length,by simp,qa4 _,h0⟩,?_⟩;rintro i m σ H ⟨rfl,hi,p⟩;have q:=hl i σ H hi p;by_cases hlt:i<xs.length
 . refine .inr ⟨⟨xs,xs[i],q,by simp [hlt]⟩,Pv (i+1),λσ' H' p'=>⟨xs.length - (i+1),by omega,rfl,hlt,p'⟩,λx H' y=>?_⟩;obtain⟨e,y⟩:=y;subst e;exact hs i x σ _ (y xs q) p
 . have e:i=xs.length:=by omega
   subst e;exact .inl ⟨⟨xs,q,qae _⟩,hd σ H p⟩
theorem zix {lo:Int} {n:Nat} {g:TG} {tb:TS} {D:zkb} {σ:St} {H:Hp} (Pv:Nat->St->Hp->Prop) (h0:Pv 0 σ H)
   (hs:∀i σ H,i<n->Pv i σ H->g (.int (lo+i)) σ H λσ2 H2=>tb { D with nx:=Pv (i+1),ct:=Pv (i+1),bk:=D.nx } σ2 H2) (hd:∀σ H,Pv n σ H->D.nx σ H) :
   ∃W:Nat->Nat->St->Hp->Prop,(∃m,W 0 m σ H)/\∀i m σ H,W i m σ H ->
     ((Itr lo n).stop i H/\D.nx σ H)\/((Itr lo n).go i H/\∃N:St->Hp->Prop,(∀σ' H',N σ' H'->∃m',m'<m/\W (i+1) m' σ' H')/\∀x H',(Itr lo n).yld i H x H'->g x σ H' λσ2 H2=>tb { D with nx:=N,ct:=N,bk:=D.nx } σ2 H2):=by
 refine⟨λi m σ H=>m=n - i/\i<=n/\Pv i σ H,⟨n,by simp,qa4 _,h0⟩,?_⟩;rintro i m σ H ⟨rfl,hi,p⟩;by_cases hlt:i<n
 . refine .inr ⟨hlt,Pv (i+1),λσ' H' p'=>⟨n - (i+1),by omega,rfl,hlt,p'⟩,λx H' y=>?_⟩;obtain⟨e,y⟩:=y;subst e y;exact hs i σ _ hlt p
 . have e:i=n:=by omega
   subst e;exact .inl ⟨qae _,hd σ H p⟩
abbrev R2:=V->V->Hp->VK->Prop
def OpR (X:Cx) (f:Value->Value->Sem Value) (r:R2):Prop :=
 ∀(pins:List (Addr×Obj)) (s:Shared) (σ:St) (H:Hp) (x y:V) (v u:Value) (Q:VK),Inv X pins σ H s->zdg x v->zdg y u->r x y H Q ->
   wpAny (model X.prog X.w) X.A (f v u) (EP X pins σ Q) X.xe s
def UnR (X:Cx) (f:Value->Sem Value) (r:V->Hp->VK->Prop):Prop :=
 ∀(pins:List (Addr×Obj)) (s:Shared) (σ:St) (H:Hp) (x:V) (v:Value) (Q:VK),Inv X pins σ H s->zdg x v->r x H Q ->
   wpAny (model X.prog X.w) X.A (f v) (EP X pins σ Q) X.xe s
def zha (X:Cx) (f:Value) (r:List V->Hp->VK->Prop):Prop :=
 ∀(pins:List (Addr×Obj)) (s:Shared) (σ:St) (H:Hp) (xs:List V) (us:List Value) (Q:VK),Inv X pins σ H s->zcw xs us->r xs H Q ->
   wpAny (model X.prog X.w) X.A (call f us) (EP X pins σ Q) X.xe s
def TruR (X:Cx) (r:V->Hp->(Bool->Hp->Prop)->Prop):Prop :=
 ∀(pins:List (Addr×Obj)) (s:Shared) (σ:St) (H:Hp) (x:V) (v:Value) (Q:Bool->Hp->Prop),Inv X pins σ H s->zdg x v->r x H Q ->
   wpAny (model X.prog X.w) X.A (truthy v) (TP X pins σ Q) X.xe s
def tOp (r:R2) (ta tb:TE):TE:=λσ H Q=>ta σ H λx H1=>tb σ H1 λy H2=>r x y H2 Q
def tUn (r:V->Hp->VK->Prop) (ta:TE):TE:=λσ H Q=>ta σ H λx H1=>r x H1 Q
def rI (C:Int->Int->Prop) (g:Int->Int->V):R2:=λx y H Q=>∃i j,x=.int i/\y=.int j/\C i j/\Q (g i j) H
def rI0 (g:Int->Int->V):R2:=λx y H Q=>∃i j,x=.int i/\y=.int j/\Q (g i j) H
def rU (g:Int->V):V->Hp->VK->Prop:=λx H Q=>∃i,x=.int i/\Q (g i) H
section
variable {X:Cx} {a b c:Expr} {ta tb tc:TE} {pos:Pos}
theorem z6s (ha:PE X a ta) (hb:PE X b tb) {pins:List (Addr×Obj)} {s:Shared} {σ:St} {H:Hp} {R:V->V->Hp->Prop} (I:Inv X pins σ H s)
   (h:ta σ H λx H1=>tb σ H1 λy H2=>R x y H2) {Q:Value->Shared->Prop} {f:Value->Value->Sem Value}
   (hf:∀v u s2 x y H2,Inv X pins σ H2 s2->zdg x v->zdg y u->R x y H2->wpAny (model X.prog X.w) X.A (f v u) Q X.xe s2) :
   wpAny (model X.prog X.w) X.A (eval a X.env) (λv s₁=>wpAny (model X.prog X.w) X.A (eval b X.env) (λu s₂=>wpAny (model X.prog X.w) X.A (f v u) Q X.xe s₂) X.xe s₁) X.xe s:=by
 refine thn (ha pins s σ H _ I h) λv s1 ⟨x,H1,I1,r1,q1⟩=>?_;refine thn (hb pins s1 σ H1 _ I1 q1) λu s2 ⟨y,H2,I2,r2,q2⟩=>?_;exact hf v u s2 x y H2 I2 r1 r2 q2
theorem zao {op:Operator} {r:R2} (ho:OpR X (binaryOp op) r) (ha:PE X a ta) (hb:PE X b tb):PE X (.BinOp a op b pos) (tOp r ta tb):=by intro pins s σ H Q I h;exact wpAny_BinOp (z6s ha hb I h λv u s2 x y H2 I2 rx ry q=>ho pins s2 σ H2 x y v u Q I2 rx ry q)
theorem ziq {op:UnaryOp} {r:V->Hp->VK->Prop} (ho:UnR X (unaryOp op) r) (ha:PE X a ta):PE X (.UnaryOp op a pos) (tUn r ta):=by intro pins s σ H Q I h;exact UnaryOp_ (thn (ha pins s σ H _ I h) λv s1 ⟨x,H1,I1,r1,q1⟩=>ho pins s1 σ H1 x v Q I1 r1 q1)
theorem opI {f:Value->Value->Sem Value} {C:Int->Int->Prop} {g:Int->Int->Int}
   (rule:∀(i j:Int) (t u:Tok) (s:Shared) (Q:Value->Shared->Prop) (E:Value->Shared->Prop),C i j->Q (.int (g i j) s.toks) { s with toks:=s.toks+1 }->wpAny (model X.prog X.w) X.A (f (.int i t) (.int j u)) Q E s) :
   OpR X f (rI C λi j=>.int (g i j)):=by
 intro pins s σ H x y v u Q I rx ry h;obtain⟨i,j,rfl,rfl,hc,q⟩:=h;obtain⟨t,rfl⟩:=rx;obtain⟨t',rfl⟩:=ry;exact rule i j t t' s _ _ hc ⟨.int (g i j),H,I.tok _,⟨_,rfl⟩,q⟩
theorem z32 {f:Value->Value->Sem Value} {g:Int->Int->Int}
   (rule:∀(i j:Int) (t u:Tok) (s:Shared) (Q:Value->Shared->Prop) (E:Value->Shared->Prop),Q (.int (g i j) s.toks) { s with toks:=s.toks+1 }->wpAny (model X.prog X.w) X.A (f (.int i t) (.int j u)) Q E s) :
   OpR X f (rI0 λi j=>.int (g i j)):=by
 intro pins s σ H x y v u Q I rx ry h;obtain⟨i,j,rfl,rfl,q⟩:=h;obtain⟨t,rfl⟩:=rx;obtain⟨t',rfl⟩:=ry;exact rule i j t t' s _ _ ⟨.int (g i j),H,I.tok _,⟨_,rfl⟩,q⟩
theorem z6n {f:Value->Value->Sem Value} {g:Int->Int->Bool}
   (rule:∀(i j:Int) (t u:Tok) (s:Shared) (Q:Value->Shared->Prop) (E:Value->Shared->Prop),Q (.bool (g i j)) s->wpAny (model X.prog X.w) X.A (f (.int i t) (.int j u)) Q E s) :
   OpR X f (rI0 λi j=>.bl (g i j)):=by
 intro pins s σ H x y v u Q I rx ry h;obtain⟨i,j,rfl,rfl,q⟩:=h;obtain⟨t,rfl⟩:=rx;obtain⟨t',rfl⟩:=ry;exact rule i j t t' s _ _ ⟨.bl (g i j),H,I,rfl,q⟩
def z5q (i j:Int):Prop:=0<j/\j<1073741824
def CPow (i j:Int):Prop:=0<=j/\j<=1000000/\i.natAbs<2 ^ 64
def z56 (i j:Int):Prop:=(-(2 ^ 64)<i/\i<2 ^ 64)\/(-(2 ^ 64)<j/\j<2 ^ 64)
theorem z56.ok {i j:Int} (h:z56 i j):IntMulOk i j:=by
 rcases h with⟨h1,h2⟩|⟨h1,h2⟩
 . exact .of_left (intBits_le_64 h1 h2)
 . exact .of_right (intBits_le_64 h1 h2)
theorem zcv:OpR X (binaryOp .Add) (rI0 λi j=>.int (i+j)):=z32 λ_ _ _ _ _ _ _ q=>add_int q
theorem zh6:OpR X (binaryOp .Sub) (rI0 λi j=>.int (i - j)):=z32 λ_ _ _ _ _ _ _ q=>sub_int q
theorem zjw:OpR X (binaryOp .Mult) (rI z56 λi j=>.int (i * j)):=opI λ_ _ _ _ _ _ _ hc q=>mul_int q hc.ok
theorem zc6:OpR X (binaryOp .FloorDiv) (rI z5q λi j=>.int (i / j)):=opI λi j _ _ _ _ _ hc q=>by have h1:(0:Int)<j:=hc.1;have h2:j<1073741824:=hc.2;exact floordiv_int (by omega) (by rw[qdq i (by omega)]; exact q) (.inl (PyProof.noPylong_small (by omega)))
theorem za5:OpR X (binaryOp .Mod) (rI (λ_ j=>0<j) λi j=>.int (i%j)):=opI λi j _ _ _ _ _ hc q=>by have h1:(0:Int)<j:=hc;exact mod_int' (by omega) (by rw[Int.fmod_eq_emod_of_nonneg i (by omega)]; exact q)
theorem zrl:OpR X (binaryOp .Pow) (rI CPow λi j=>.int (i ^ j.toNat)):=opI λ_ _ _ _ _ _ _ hc q=>pow_int_small hc.1 hc.2.1 hc.2.2 q
theorem z37:OpR X (binaryOp .BitAnd) (rI0 λi j=>.int (Builtin.bitAnd i j)):=z32 λ_ _ _ _ _ _ _ q=>and_int q
theorem z54:OpR X (binaryOp .BitOr) (rI0 λi j=>.int (Builtin.bitOr i j)):=z32 λ_ _ _ _ _ _ _ q=>or_int q
theorem z5h:OpR X (binaryOp .BitXor) (rI0 λi j=>.int (Builtin.bitXor i j)):=z32 λ_ _ _ _ _ _ _ q=>xor_int q
theorem unI {f:Value->Sem Value} {g:Int->Int}
   (rule:∀(i:Int) (t:Tok) (s:Shared) (Q:Value->Shared->Prop) (E:Value->Shared->Prop),Q (.int (g i) s.toks) { s with toks:=s.toks+1 }->wpAny (model X.prog X.w) X.A (f (.int i t)) Q E s) :
   UnR X f (rU λi=>.int (g i)):=by
 intro pins s σ H x v Q I rx h;obtain⟨i,rfl,q⟩:=h;obtain⟨t,rfl⟩:=rx;exact rule i t s _ _ ⟨.int (g i),H,I.tok _,⟨_,rfl⟩,q⟩
theorem zfd:UnR X (unaryOp .USub) (rU λi=>.int (-i)):=unI λ_ _ _ _ _ q=>neg_int q
end
def scal:V->V->Bool
 | .non,.non=>true | .non,.int _=>true | .int _,.non=>true | .non,.bl _=>true | .bl _,.non=>true | .non,.str _=>true | .str _,.non=>true
 | .int _,.int _=>true | .bl _,.bl _=>true | .str _,.str _=>true | .byt _,.byt _=>true
 | .int _,.str _=>true | .str _,.int _=>true | .bl _,.str _=>true | .str _,.bl _=>true
 | _,_=>false
def rEq:R2:=λx y H Q=>scal x y=true/\Q (.bl (decide (x=y))) H
def rNe:R2:=λx y H Q=>scal x y=true/\Q (.bl (!decide (x=y))) H
theorem zx4 {i j:Int}:decide (V.int i=V.int j)=(i==j):=by rw[qbz];simp
theorem z1a {i j:Bool}:decide (V.bl i=V.bl j)=(i==j):=by rw[qbz];simp
theorem zw0 {i j:Str}:decide (V.str i=V.str j)=(i==j):=by rw[qbz];simp
theorem zwz {i j:Array UInt8}:decide (V.byt i=V.byt j)=(i.toList==j.toList):=by rw[qbz];cases i;cases j;simp
section
variable {X:Cx} {a b c:Expr} {ta tb tc:TE} {pos:Pos}
theorem zca {pins:List (Addr×Obj)} {σ:St} {H:Hp} {s:Shared} {Q:VK} {k k':Bool} (I:Inv X pins σ H s) (q:Q (.bl k) H) (e:k=k'):EP X pins σ Q (.bool k') s:=by subst e;exact⟨.bl k,H,I,rfl,q⟩
theorem zcp:OpR X (compareOp .Eq) rEq:=by
 intro pins s σ H x y v u Q I rx ry h;obtain⟨hs,q⟩:=h;cases x with
 | non =>
   cases rx;cases y with
   | non=>cases ry; exact PySem.EqNone.eq_none_none (zca I q (by simp))
   | bl j=>cases ry; exact PySem.EqNone.eq_none_bool (zca I q (by simp))
   | int j=>obtain⟨t',rfl⟩:=ry; exact PySem.EqNone.eq_none_int (zca I q (by simp))
   | str j=>obtain⟨t',rfl⟩:=ry; exact PySem.EqNone.eq_none_str (zca I q (by simp))
   | _=>exact absurd (show false=true from hs) qam
 | bl i =>
   cases rx;cases y with
   | non=>cases ry; exact PySem.EqNone.eq_bool_none (zca I q (by simp))
   | bl j=>cases ry; exact eq_bool (zca I q z1a)
   | str j=>obtain⟨t',rfl⟩:=ry; exact PySem.EqMixed.eq_bool_str (zca I q (by simp))
   | _=>exact absurd (show false=true from hs) qam
 | int i =>
   obtain⟨t,rfl⟩:=rx;cases y with
   | non=>cases ry; exact PySem.EqNone.eq_int_none (zca I q (by simp))
   | int j=>obtain⟨t',rfl⟩:=ry; exact eq_int (zca I q zx4)
   | str j=>obtain⟨t',rfl⟩:=ry; exact PySem.EqMixed.eq_int_str (zca I q (by simp))
   | _=>exact absurd (show false=true from hs) qam
 | str i =>
   obtain⟨t,rfl⟩:=rx;cases y with
   | non=>cases ry; exact PySem.EqNone.eq_str_none (zca I q (by simp))
   | bl j=>cases ry; exact PySem.EqMixed.eq_str_bool (zca I q (by simp))
   | int j=>obtain⟨t',rfl⟩:=ry; exact PySem.EqMixed.eq_str_int (zca I q (by simp))
   | str j=>obtain⟨t',rfl⟩:=ry; exact eq_str (zca I q zw0)
   | _=>exact absurd (show false=true from hs) qam
 | byt i =>
   obtain⟨t,rfl⟩:=rx;cases y with
   | byt j=>obtain⟨t',rfl⟩:=ry; exact PySem.W.eq_bytes (zca I q zwz)
   | _=>exact absurd (show false=true from hs) qam
 | _=>cases y <;> exact absurd (show false=true from hs) qam
theorem zwl:OpR X (compareOp .NotEq) rNe:=by
 intro pins s σ H x y v u Q I rx ry h;obtain⟨hs,q⟩:=h;cases x with
 | non =>
   cases rx;cases y with
   | non=>cases ry; exact PySem.EqNone.ne_none_none (zca I q (by simp))
   | bl j=>cases ry; exact PySem.EqNone.ne_none_bool (zca I q (by simp))
   | int j=>obtain⟨t',rfl⟩:=ry; exact PySem.EqNone.ne_none_int (zca I q (by simp))
   | str j=>obtain⟨t',rfl⟩:=ry; exact PySem.EqNone.ne_none_str (zca I q (by simp))
   | _=>exact absurd (show false=true from hs) qam
 | bl i =>
   cases rx;cases y with
   | non=>cases ry; exact PySem.EqNone.ne_bool_none (zca I q (by simp))
   | bl j=>cases ry; exact ne_bool (zca I q (congrArg not z1a))
   | str j=>obtain⟨t',rfl⟩:=ry; exact PySem.EqMixed.ne_bool_str (zca I q (by simp))
   | _=>exact absurd (show false=true from hs) qam
 | int i =>
   obtain⟨t,rfl⟩:=rx;cases y with
   | non=>cases ry; exact PySem.EqNone.ne_int_none (zca I q (by simp))
   | int j=>obtain⟨t',rfl⟩:=ry; exact ne_int (zca I q (congrArg not zx4))
   | str j=>obtain⟨t',rfl⟩:=ry; exact PySem.EqMixed.ne_int_str (zca I q (by simp))
   | _=>exact absurd (show false=true from hs) qam
 | str i =>
   obtain⟨t,rfl⟩:=rx;cases y with
   | non=>cases ry; exact PySem.EqNone.ne_str_none (zca I q (by simp))
   | bl j=>cases ry; exact PySem.EqMixed.ne_str_bool (zca I q (by simp))
   | int j=>obtain⟨t',rfl⟩:=ry; exact PySem.EqMixed.ne_str_int (zca I q (by simp))
   | str j=>obtain⟨t',rfl⟩:=ry; exact ne_str (zca I q (congrArg not zw0))
   | _=>exact absurd (show false=true from hs) qam
 | byt i =>
   obtain⟨t,rfl⟩:=rx;cases y with
   | byt j=>obtain⟨t',rfl⟩:=ry; exact PySem.W.ne_bytes (zca I q (congrArg not zwz))
   | _=>exact absurd (show false=true from hs) qam
 | _=>cases y <;> exact absurd (show false=true from hs) qam
theorem zsq:OpR X (compareOp .Lt) (rI0 λi j=>.bl (decide (i<j))):=z6n λ_ _ _ _ _ _ _ q=>lt_int q
theorem z26:OpR X (compareOp .Gt) (rI0 λi j=>.bl (decide (j<i))):=z6n λ_ _ _ _ _ _ _ q=>gt_int q
theorem z52:OpR X (compareOp .GtE) (rI0 λi j=>.bl (decide (j<=i))):=z6n λ_ _ _ _ _ _ _ q=>ge_int q
theorem zax (b:Expr) {op:CmpOp} (h:op≠.In:=by decide) (h2:op≠.NotIn:=by decide):behindInMarks op b=false:=by
 have e1:(op==CmpOp.In)=false:=by cases op <;> first|rfl|exact absurd rfl h
 have e2:(op==CmpOp.NotIn)=false:=by cases op <;> first|rfl|exact absurd rfl h2
 cases b <;> simp [behindInMarks,e1,e2]
theorem zg7 {op:CmpOp} {r:R2} (ho:OpR X (compareOp op) r) (ha:PE X a ta) (hb:PE X b tb) (hm:behindInMarks op b=false):PE X (.Compare a [op] [b] pos) (tOp r ta tb):=by intro pins s σ H Q I h;exact wpAny_Compare1 (z6s ha hb I h λv u s2 x y H2 I2 rx ry q=>ho pins s2 σ H2 x y v u Q I2 rx ry q) hm
def z6b (t:TE):TT:=λσ H Q=>t σ H λx H'=>∃k,x=.bl k/\Q k H'
theorem zar {op:CmpOp} {r:R2} (ho:OpR X (compareOp op) r) (ha:PE X a ta) (hb:PE X b tb) (hm:behindInMarks op b=false):PT X (.Compare a [op] [b] pos) (z6b (tOp r ta tb)):=by
 intro pins s σ H Q I h;refine wpAny_isTrue_Compare1 (thn (ha pins s σ H _ I h) λv s1 ⟨x,H1,I1,r1,q1⟩=>thn (hb pins s1 σ H1 _ I1 q1) λu s2 ⟨y,H2,I2,r2,q2⟩ =>
   thn (ho pins s2 σ H2 x y v u _ I2 r1 r2 q2) λc s3 ⟨z,H3,I3,r3,k,e,q3⟩=>?_) hm
 subst e;cases r3;exact wpAny_truthy_bool ⟨H3,I3,q3⟩
def z6i (K:W.Frag) (x:V) (H:Hp) (k:Bool):Prop :=
 match x with
 | .non=>k=false
 | .bl b=>k=b
 | .int i=>k=(i != 0)
 | .str y=>y.length<=sizeLine/\k=((y.length:Int) != 0)
 | .byt y=>y.size<=sizeLine/\k=((y.size:Int) != 0)
 | .ref p=>(∃xs,SqL K H p xs/\k=!xs.isEmpty)\/(∃xs,SqT K H p xs/\k=!xs.isEmpty)\/∃kvs,H p=some (.dK kvs)/\k=!kvs.isEmpty
 | _=>False
theorem zus {κ:Type} {kvs:List (κ×V)} {vs:List (κ×Value)} (r:KV kvs vs):(!vs.isEmpty)=!kvs.isEmpty:=by cases r <;> rfl
theorem zox {xs:List V} {its:List Value} (r:zcw xs its):(!its.toArray.isEmpty)=!xs.isEmpty:=by cases r <;> simp
theorem zoy:(sizeLine:Nat)<2 ^ 63:=by rw[sizeLine_eq]; decide
theorem z5a:TruR X (λx H Q=>∃k,z6i X.K x H k/\Q k H):=by
 intro pins s σ H x v Q I rx h;obtain⟨k,e,q⟩:=h;have hl:=zoy;have hs:sizeLine=16777216:=sizeLine_eq;cases x with
 | non =>
   cases rx;have e':k=false:=e;subst e';exact truthy_none ⟨H,I,q⟩
 | bl b =>
   cases rx;have e':k=b:=e;subst e';exact wpAny_truthy_bool ⟨H,I,q⟩
 | int i =>
   obtain⟨t,rfl⟩:=rx;have e':k=(i != 0):=e;subst e';exact PySem.P.truthy_int ⟨H,I,q⟩
 | str y =>
   obtain⟨t,rfl⟩:=rx;obtain⟨hy,e'⟩:y.length<=sizeLine/\k=((y.length:Int) != 0):=e;subst e';exact PySem.P.truthy_str (by omega) ⟨H,I.tok _,q⟩
 | byt y =>
   obtain⟨t,rfl⟩:=rx;obtain⟨hy,e'⟩:y.size<=sizeLine/\k=((y.size:Int) != 0):=e;subst e';exact PySem.W.truthy_bytes (by omega) ⟨H,I.tok _,q⟩
 | ref p =>
   cases rx;have e':(∃xs,SqL X.K H p xs/\k=!xs.isEmpty)\/(∃xs,SqT X.K H p xs/\k=!xs.isEmpty)\/∃kvs,H p=some (.dK kvs)/\k=!kvs.isEmpty:=e;rcases e' with⟨xs,hx,e'⟩|⟨xs,hx,e'⟩|⟨kvs,hx,e'⟩
   . subst e';obtain⟨its,r,pl,hz⟩:=I.list hx;have hlen:=r.length;exact wpAny_truthy_list pl.isList (by simp only[List.size_toArray]; omega) ⟨H,I.tok _,by rw[zox r]; exact q⟩
   . subst e';obtain⟨its,r,pl,hz⟩:=I.tuple hx;have hlen:=r.length;exact truthy_tuple pl (by simp only[List.size_toArray]; omega) ⟨H,I.tok _,by rw[zox r]; exact q⟩
   . subst e';obtain⟨hz,hS,vs,r,m⟩:kvs.length<=sizeLine/\(p==sysModules)=false/\∃vs,KV kvs vs/\s.heap.DictOf (zbo X.prog X.w) p vs:=I.hok p _ hx;have hlen:kvs.length=vs.length:=Paired.length r;exact wpAny_truthy_dict hS m (by omega) ⟨H,I.tok _,by rw[zus r]; exact q⟩
 | _=>exact(show False from e).elim
theorem zyv (ha:PE X a ta) (he:∀whole,isTrue a X.env whole=(do let v <- whole; standAt a.pos; holding [v] (truthy v))) :
   PT X a (λσ H Q=>ta σ H λx H'=>∃k,z6i X.K x H' k/\Q k H'):=by
 intro pins s σ H Q I h;exact isTrue_plain (thn (ha pins s σ H _ I h) λv s1 ⟨x,H1,I1,r1,q1⟩=>z5a pins s1 σ H1 x v Q I1 r1 q1) (he _)
theorem ze3:OpR X (binaryOp .Add) (λx y H Q=>∃i j,x=.str i/\y=.str j/\i.length+j.length<=sizeLine/\Q (.str (i++j)) H):=by intro pins s σ H x y v u Q I rx ry h;obtain⟨i,j,rfl,rfl,hz,q⟩:=h;obtain⟨t,rfl⟩:=rx;obtain⟨t',rfl⟩:=ry;exact add_str (λt' tk=>⟨.str (i++j),H,I.tok _,⟨_,rfl⟩,q⟩) hz
theorem zp1 {x:V} {us:List Value} (r:zcw [x] us):∃u,us=[u]/\zdg x u:=by
 cases r with
 | cons r1 r2=>cases r2; exact⟨_,rfl,r1⟩
theorem z1h {x y:V} {us:List Value} (r:zcw [x,y] us):∃u w',us=[u,w']/\zdg x u/\zdg y w':=by
 cases r with
 | cons r1 r2 =>
   cases r2 with
   | cons r3 r4=>cases r4; exact⟨_,_,rfl,r1,r3⟩
theorem zwy (hc:X.calm=true):zha X (.builtin "max") (λxs H Q=>∃i j,xs=[.int i,.int j]/\Q (.int (if j > i then j else i)) H):=by
 intro pins s σ H xs us Q I r h;obtain⟨i,j,rfl,q⟩:=h;obtain⟨u,w',rfl,⟨t,rfl⟩,⟨t',rfl⟩⟩:=z1h r;refine max_two_ints (I.ok.hd hc) λh' tk k=>⟨_,H,I.kept k,?_,q⟩
 by_cases hj:j > i
 . rw[if_pos hj,if_pos hj]; exact⟨_,rfl⟩
 . rw[if_neg hj,if_neg hj]; exact⟨_,rfl⟩
theorem zgb:zha X (.type "int") (λxs H Q=>(∃i,xs=[.int i]/\Q (.int i) H)\/∃k,xs=[.bl k]/\Q (.int (if k then 1 else 0)) H):=by
 intro pins s σ H xs us Q I r h;rcases h with⟨i,rfl,q⟩|⟨k,rfl,q⟩
 . obtain⟨u,rfl,t,rfl⟩:=zp1 r;exact call_int_int ⟨.int i,H,I,⟨_,rfl⟩,q⟩
 . obtain⟨u,rfl,r1⟩:=zp1 r;cases r1;exact call_int_bool ⟨.int (if k then 1 else 0),H,I.tok _,⟨_,rfl⟩,q⟩
theorem zed:zha X (.type "str") (λxs H Q=>∃i,xs=[.int i]/\i.natAbs.log2<1920/\Q (.str (toString i)) H):=by intro pins s σ H xs us Q I r h;obtain⟨i,rfl,hz,q⟩:=h;obtain⟨u,rfl,t,rfl⟩:=zp1 r;exact PySem.P.str_of_int hz ⟨.str _,H,I.tok _,⟨_,rfl⟩,q⟩
end
structure ObjM (h:Heap) (x dx C:Addr) (mA:Str->Option Value):Prop where
 obj:h.get? x=some (PySem.W.instObj C dx)
 ns:h.Ns1 dx mA
 ne:dx≠x
theorem zw6 {h:Heap} {dx:Addr} {mA:Str->Option Value} (n:h.Ns1 dx mA):∃od,h.get? dx=some od/\∀name,PySem.W.lookIn name od=some (mA name):=by
 obtain⟨o,es,ep,ho,hd,hk,_,hm⟩:=n;refine⟨o,ho,λname=>?_⟩;have e:=hm name;unfold nsFind findBy at e;rw[<- Array.find?_toList] at e;unfold PySem.W.lookIn;rw[hd];dsimp only;split
 . rename_i y q
   rw[q] at e;exact congrArg some e
 . rename_i q
   rw[q] at e;have a:es.toList.any (·.refKey)=false:=by rw[List.any_eq_false];intro y hy;obtain⟨z,t,hkey⟩:=hk y (Array.mem_toList_iff.mp hy);simp [DictEntry.refKey,hkey]
   have a':¬ es.toList.any (·.refKey)=true:=by rw[a]; exact qam
   rw[if_neg a'];exact congrArg some e
theorem ObjM.look {h:Heap} {x dx C:Addr} {mA:Str->Option Value} (I:ObjM h x dx C mA):∃od,PySem.W.InstAt h x (PySem.W.instObj C dx) C (some od)/\∀name,PySem.W.lookIn name od=some (mA name) :=
 let ⟨od,ho,hl⟩:=zw6 I.ns
 ⟨od,⟨I.obj,rfl,rfl,ho⟩,hl⟩
section
variable {prog:Program} {w:World} {A:Around} {E:Value->Shared->Prop} {s:Shared} {K:W.Frag} {x dx C f:Addr} {mA:Str->Option Value} {name:Str} {v:Value}
theorem z2l {expr:Bool} {Q:Value->Shared->Prop} (X:K.In s.heap) (I:ObjM s.heap x dx C mA) (hg:PySem.W.plainGet K C name=true) (hh:PySem.W.hasDictIn K C=true)
   (ha:PySem.W.findIn K (.ref C) name=some none) (hv:mA name=some v) (hv':PySem.W.handedIn v=true) (h:Q v { s with toks:=s.toks+1 }) :
   wpAny (model prog w) A (getAttr (.ref x) name expr) Q E s:=by
 obtain⟨od,J,hl⟩:=I.look;exact PySem.W.get_value X J (PySem.W.plainGet_of hg).1 (PySem.W.findObj_own hh ha rfl (by rw[hl,hv])) hv' h
theorem zzd {pl:Sem Bool} {Q:Value×List Value->Shared->Prop} (X:K.In s.heap) (I:ObjM s.heap x dx C mA) (hg:PySem.W.plainGet K C name=true)
   (hf:PySem.W.findIn K (.ref C) name=some (some (.ref f))) (ht:PySem.W.isFn K (.ref f)=true) (hv:mA name=none) (h:Q (.ref f,[.ref x]) s) :
   wpAny (model prog w) A (getMethod (.ref x) name pl) Q E s:=by
 obtain⟨od,J,hl⟩:=I.look;exact PySem.W.method_fn X J (PySem.W.plainGet_of hg).1 (PySem.W.plainGet_of hg).2 hf (beq_iff_eq.mp ht) (by show(PySem.W.lookIn name od).map (·.isSome)=some false; rw[hl,hv]; rfl) h
theorem z16 {ns:List Str} {Q:Unit->Shared->Prop} (X:K.In s.heap) (I:ObjM s.heap x dx C mA)
   (hs:PySem.W.findIn K (.ref C) "__setattr__"=some (some (.builtin "object.__setattr__"))) (hp:PySem.W.plainOver K C=true) (ht:PySem.W.takerIn K C name=some none) (hh:PySem.W.hasDictIn K C=true)
   (hw:PySem.Within mA ns) (hsz:ns.length<=sizeLine)
   (h:∀h',ObjM h' x dx C (λy=>if y=name then some v else mA y)->Heap.SameBut dx s.heap h'->Q () { s with heap:=h',toks:=s.toks+2 }) :
   wpAny (model prog w) A (setAttr (.ref x) name v) Q E s:=by
 obtain⟨od,J,hl⟩:=I.look;refine PySem.W.set_plain X J hs (PySem.W.osa_open (s:={ s with toks:=s.toks+1 }) (r:=none) X J hp ht λb=>?_);obtain⟨cd,hc,hd'⟩:=PySem.W.any_some hh;have hx:s.heap.get? x=some ⟨.ref C,some dx,.plain,#[]⟩:=I.obj;refine wpAny_bind (wpAny_pure (wpAny_bind (wpAny_bind (wpAny_loadPart hx (wpAny_bind (PySem.W.Looks.here (s:={ s with toks:=s.toks+1 }) (PySem.W.looks_clsIn X hc) ?_))))));rw[hd'];refine wpAny_pure (a:=some dx) (wpAny_bind (wpAny_pure (wpAny_bind ?_)));refine wpAny_nsSet1 (s:={ s with toks:=s.toks+1 }) I.ns λh' hn2 hs2=>?_;obtain⟨oD,esD,epD,hoD,hdD,hcD⟩:=hn2.count (PySem.Within.cons name v hw);refine wpAny_bind (wpAny_lookBehind hoD (by rw[hdD]; exact pastItsLine_dict (Nat.le_trans hcD (by rw[qa8]; omega))) ?_);exact wpAny_pure (h _ ⟨(hs2.2 _ (Ne.symm I.ne)).trans I.obj,hn2,I.ne⟩ hs2)
theorem zzt {R:Result->Shared->Prop} {vs:List Value} {kw:List (Str×Value)} (X:K.In s.heap) (hm:PySem.W.makesIn K C=true)
   (hi:PySem.W.findIn K (.ref C) "__init__"=some (some (.ref f))) (hf:PySem.W.typeIn K (.ref f)=some (.type "function"))
   (h:codeAny (model prog w) (A.under (.builtin "type.__call__" ⟨.ref C :: vs,kw⟩)) (.call (.ref f) ⟨.ref (s.heap.objs.size+1) :: vs,kw⟩) (PySem.W.InitBack (s.heap.objs.size+1) R)
     { s with heap:=(s.heap.push PySem.W.emptyDict).push (PySem.W.instObj C s.heap.objs.size) }) :
   codeAny (model prog w) A (.call (.ref C) ⟨vs,kw⟩) R s:=by
 obtain⟨hh,g,d,t,os⟩:=s;exact PySem.W.make_core (PySem.W.makes_of X hm) (PySem.W.looks_findIn X hi) (λself=>PySem.W.bind_fn X self hf) (.inl rfl) h
end
def zk4 (f:Str) (v:V):List (Str×V)->List (Str×V)
 | []=>[(f,v)]
 | (g,x) :: r=>if g=f then(g,v) :: r else(g,x) :: zk4 f v r
theorem zau (f g:Str) (v:V):∀fs:List (Str×V),(zk4 f v fs).lookup g=if g=f then some v else fs.lookup g
 | []=>by
   show List.lookup g [(f,v)]=_;by_cases h:g=f
   . have hb:(g==f)=true:=beq_iff_eq.mpr h;simp only[List.lookup,hb,if_pos h]
   . have hb:(g==f)=false:=beq_eq_false_iff_ne.mpr h;simp only[List.lookup,hb,if_neg h]
 | (k,x) :: r=>by
   have ih:=zau f g v r;rw[show zk4 f v ((k,x) :: r)=(if k=f then(k,v) :: r else(k,x) :: zk4 f v r) from rfl];by_cases hk:k=f
   . rw[if_pos hk];by_cases h:g=k
     . have hb:(g==k)=true:=beq_iff_eq.mpr h;simp only[List.lookup,hb,if_pos (h.trans hk)]
     . have hb:(g==k)=false:=beq_eq_false_iff_ne.mpr h;simp only[List.lookup,hb,if_neg (λe:g=f=>h (e.trans hk.symm))]
   . rw[if_neg hk];by_cases h:g=k
     . have hb:(g==k)=true:=beq_iff_eq.mpr h;simp only[List.lookup,hb,if_neg (λe:g=f=>hk (h.symm.trans e))]
     . have hb:(g==k)=false:=beq_eq_false_iff_ne.mpr h;simp only[List.lookup,hb];exact ih
theorem znl (f:Str) (v:V):∀fs:List (Str×V),f∈(zk4 f v fs).map (·.1)/\∀g,g∈fs.map (·.1)->g∈(zk4 f v fs).map (·.1)
 | []=>⟨by simp [zk4],λg h=>by simp at h⟩
 | (k,x) :: r=>by
   obtain⟨i1,i2⟩:=znl f v r;rw[show zk4 f v ((k,x) :: r)=(if k=f then(k,v) :: r else(k,x) :: zk4 f v r) from rfl];by_cases hk:k=f
   . rw[if_pos hk];subst hk;exact⟨by simp,λg h=>by simpa using h⟩
   . rw[if_neg hk];refine⟨?_,λg h=>?_⟩
     . rw[qa2];exact List.mem_cons_of_mem _ i1
     . rw[qa2] at h ⊢;rcases List.mem_cons.mp h with e|e
       . exact List.mem_cons.mpr (.inl e)
       . exact List.mem_cons_of_mem _ (i2 g e)
theorem ze2 (f:Str) (v:V):∀fs:List (Str×V),(zk4 f v fs).length<=fs.length+1
 | []=>by simp [zk4]
 | (k,x) :: r=>by
   have ih:=ze2 f v r;rw[show zk4 f v ((k,x) :: r)=(if k=f then(k,v) :: r else(k,x) :: zk4 f v r) from rfl];by_cases hk:k=f
   . rw[if_pos hk,qa8,qa8]; omega
   . rw[if_neg hk,qa8,qa8]; omega
theorem zp6.some_of {v:V} {o:Option Value} (r:zp6 (some v) o):∃u,o=some u/\zdg v u:=by
 cases o with
 | none=>exact(show False from r).elim
 | some u=>exact⟨u,rfl,r⟩
theorem zp6.none_of {o:Option Value} (r:zp6 none o):o=none:=by
 cases o with
 | none=>rfl
 | some u=>exact(show False from r).elim
theorem zwh {v:V} {u:Value} (r:zdg v u):PySem.W.handedIn u=true:=by
 cases v with
 | non=>cases (show u=Value.none from r); rfl
 | bl b=>cases (show u=Value.bool b from r); rfl
 | int i=>obtain⟨t,e⟩:=(show ∃t,u=Value.int i t from r); cases e; rfl
 | str x=>obtain⟨t,e⟩:=(show ∃t,u=Value.str x t from r); cases e; rfl
 | byt b=>obtain⟨t,e⟩:=(show ∃t,u=Value.bytes b t from r); cases e; rfl
 | flt b=>obtain⟨t,e⟩:=(show ∃t,u=Value.float b t from r); cases e; rfl
 | ref a=>cases (show u=Value.ref a from r); rfl
 | ty n=>cases (show u=Value.type n from r); rfl
section
variable {P:Program} {w:World} {H H':Hp} {h h':Heap} {a C dx:Addr} {fs fs':List (Str×V)}
theorem zpq (hok:HOk P w H h) (e:H a=some (.ins C dx fs)):∃mA,ObjM h a dx C mA/\(∀f,zp6 (fs.lookup f) (mA f))/\PySem.Within mA (fs.map (·.1))/\fs.length<=1000/\H dx=some (.own a):=by
 obtain⟨d,z,ne,ob,mA,n,r,q⟩:=(show zdu P w H h a (.ins C dx fs) from hok a _ e)
 exact⟨mA,⟨ob,n,ne⟩,r,q,z,d⟩
end
structure Cls (K:W.Frag) (C:Addr):Prop where
 pg:PySem.W.plainGet K C Str.empty=true
 hd:PySem.W.hasDictIn K C=true
 po:PySem.W.plainOver K C=true
 sa:PySem.W.findIn K (.ref C) "__setattr__"=some (some (.builtin "object.__setattr__"))
theorem Cls.get {K:W.Frag} {C:Addr} (c:Cls K C) (f:Str):PySem.W.plainGet K C f=true:=c.pg
def zd0 (K:W.Frag) (C:Addr) (f:Str):Prop:=PySem.W.findIn K (.ref C) f=some none
theorem zd0.taker {K:W.Frag} {C:Addr} {f:Str} (n:zd0 K C f):PySem.W.takerIn K C f=some none:=by unfold PySem.W.takerIn;rw[show PySem.W.findIn K (.ref C) f=some none from n];rfl
structure Meth (K:W.Frag) (C:Addr) (m:Str) (f:Addr):Prop where
 at_:PySem.W.findIn K (.ref C) m=some (some (.ref f))
 fn:PySem.W.isFn K (.ref f)=true
 kp:PySem.W.keepIn K (.ref f)=true
section
variable {X:Cx} {pins:List (Addr×Obj)} {σ:St} {H:Hp} {s:Shared} {a C dx:Addr} {fs:List (Str×V)} {f:Str} {v:V} {A:Around} {E:Value->Shared->Prop}
theorem zva {b:Bool} {Q:Value->Shared->Prop} (I:Inv X pins σ H s) (e:H a=some (.ins C dx fs)) (c:Cls X.K C) (n:zd0 X.K C f) (l:fs.lookup f=some v)
   (h:∀u s',Inv X pins σ H s'->zdg v u->Q u s'):wpAny (model X.prog X.w) A (getAttr (.ref a) f b) Q E s:=by
 obtain⟨mA,O,r,_,_,_⟩:=zpq I.hok e;obtain⟨u,hu,ru⟩:=zp6.some_of (v:=v) (o:=mA f) (by rw[<- l]; exact r f);exact z2l I.kIn O (c.get f) c.hd n hu (zwh ru) (h u _ (I.tok _) ru)
theorem zjg {m:Str} {g:Addr} {pl:Sem Bool} {Q:Value×List Value->Shared->Prop} (I:Inv X pins σ H s) (e:H a=some (.ins C dx fs)) (c:Cls X.K C) (k:Meth X.K C m g) (l:fs.lookup m=none)
   (h:Q (.ref g,[.ref a]) s):wpAny (model X.prog X.w) A (getMethod (.ref a) m pl) Q E s:=by
 obtain⟨mA,O,r,_,_,_⟩:=zpq I.hok e;have hn:mA m=none:=zp6.none_of (by rw[<- l]; exact r m);exact zzd I.kIn O (c.get m) k.at_ k.fn hn h
theorem zvh {y:V} {u:Value} {Q:Unit->Shared->Prop} (I:Inv X pins σ H s) (e:H a=some (.ins C dx fs)) (c:Cls X.K C) (n:zd0 X.K C f) (hl:fs.length<1000) (ry:zdg y u)
   (h:∀s',Inv X pins σ (upd H a (.ins C dx (zk4 f y fs))) s'->Q () s'):wpAny (model X.prog X.w) A (setAttr (.ref a) f u) Q E s:=by
 obtain⟨mA,O,r,wi,_,ho⟩:=zpq I.hok e;have hz:(fs.map (·.1)).length<=sizeLine:=by rw[List.length_map,sizeLine_eq]; omega
 refine z16 I.kIn O c.sa c.po n.taker c.hd wi hz λh' O' sb=>h _ ?_;have hd:∃o,h'.get? dx=some o:=let ⟨o,_,_,e',_⟩:=O'.ns; ⟨o,e'⟩
 refine I.write (x:=a) (e:=dx) (by rw[e]; exact True.intro) (.inr ho) (λb q hb z=>(sb.2 b hb).trans z) hd ?_;refine⟨by rw[zag O.ne]; exact ho,?_,O.ne,O'.obj,_,O'.ns,λg=>?_,λg hg=>?_⟩
 . have:=ze2 f y fs; omega
 . show zp6 ((zk4 f y fs).lookup g) (if g=f then some u else mA g);rw[zau];by_cases q:g=f
   . rw[if_pos q,if_pos q]; exact ry
   . rw[if_neg q,if_neg q]; exact r g
 . by_cases q:g=f
   . rw[q]; exact(znl f y fs).1
   . refine(znl f y fs).2 g (wi g λz=>hg ?_);show(if g=f then some u else mA g)=none;rw[if_neg q]; exact z
theorem Inv.made (I:Inv X pins σ H s):Inv X pins σ (upd (upd H s.heap.objs.size (.own (s.heap.objs.size+1))) (s.heap.objs.size+1) (.ins C s.heap.objs.size []))
   { s with heap:=(s.heap.push PySem.W.emptyDict).push (PySem.W.instObj C s.heap.objs.size) }:=by
 have e1:(s.heap.push PySem.W.emptyDict).get? s.heap.objs.size=some PySem.W.emptyDict:=qao s.heap rfl;have e2:((s.heap.push PySem.W.emptyDict).push (PySem.W.instObj C s.heap.objs.size)).get? (s.heap.objs.size+1)=some (PySem.W.instObj C s.heap.objs.size):=by have:=qao (s.heap.push PySem.W.emptyDict) (o:=PySem.W.instObj C s.heap.objs.size) rfl;rwa [qbx] at this
 have e3:(s.heap.push PySem.W.emptyDict).Ns s.heap.objs.size (λ_=>none):=⟨PySem.W.emptyDict,#[],_,e1,rfl,(λe he=>absurd he (by simp)),λ_=>rfl⟩
 have I1:=I.laid (a:=s.heap.objs.size) (o:=.own (s.heap.objs.size+1)) (h':=s.heap.push PySem.W.emptyDict) (t':=s.toks) (λb u q=>Heap.get?_push_of_some _ q) (qae _) ⟨_,e1⟩;refine I1.laid (a:=s.heap.objs.size+1) (o:=.ins C s.heap.objs.size []) (t':=s.toks) (λb u q=>Heap.get?_push_of_some _ q) (Nat.le_of_eq (qbx _ _)) ?_;have ne:s.heap.objs.size≠s.heap.objs.size+1:=qa5 (qca _);refine⟨by rw[zag ne,zab],qa4 _,ne,e2,λ_=>none,(Heap.Ns1.of_empty e3).at λo q=>Heap.get?_push_of_some _ q,λ_=>True.intro,λy hy=>absurd rfl hy⟩
theorem z11 {prog:Program} {w:World} {env:Env} {e:Expr} {f:Str} {pos:Pos} {s:Shared} {Q:Value->Shared->Prop} (hb:attributeBase e f env (eval e env)=eval e env)
   (h:wpAny (model prog w) A (eval e env) (λo s₁=>wpAny (model prog w) A (getAttr o f true) Q E s₁) E s):wpAny (model prog w) A (eval (.Attribute e f pos) env) Q E s :=
 Attribute_any_ h (by rw[arm_eval_Attribute,hb])
end
def tFld (K:W.Frag) (ta:TE) (f:Str):TE:=λσ H Q=>ta σ H λx H1=>∃a C dx fs v,x=.ref a/\H1 a=some (.ins C dx fs)/\Cls K C/\zd0 K C f/\fs.lookup f=some v/\Q v H1
def sFld (K:W.Frag) (ta tv:TE) (f:Str):TS:=λD σ H=>tv σ H λy H1=>ta σ H1 λx H2=>∃a C dx fs,x=.ref a/\H2 a=some (.ins C dx fs)/\Cls K C/\zd0 K C f/\fs.length<1000 /\
 D.nx σ (upd H2 a (.ins C dx (zk4 f y fs)))
section
variable {X:Cx} {o e value:Expr} {f:Str} {pos pos' tpos:Pos} {ta tv:TE}
theorem zbk (he:PE X e ta) (hb:attributeBase e f X.env (eval e X.env)=eval e X.env):PE X (.Attribute e f pos) (tFld X.K ta f):=by intro pins s σ H Q I h;refine z11 hb (thn (he pins s σ H _ I h) λu s1 ⟨x,H1,I1,rx,a,C,dx,fs,v,ex,ea,c,n,l,q⟩=>?_);subst ex;obtain rfl:u=Value.ref a:=rx;exact zva I1 ea c n l λu' s2 I2 ru=>⟨v,H1,I2,ru,q⟩
theorem zet (ha:PE X o ta) (hv:PE X value tv) (hs:swapsWith value (some (.Attribute o f pos')) pos.line X.env=pure false):PS X (.Assign [.Attribute o f pos'] value pos) (sFld X.K ta tv f):=by intro pins s σ H D I h;refine plainObj_wpAny_Assign_Attribute (thn (hv pins s σ H _ I h) λu s1 ⟨y,H1,I1,ry,q⟩=>thn (ha pins s1 σ H1 _ I1 q) λov s2 ⟨x,H2,I2,rx,a,C,dx,fs,ex,ea,c,n,l,q2⟩=>?_) hs;subst ex;obtain rfl:ov=Value.ref a:=rx;exact zvh I2 ea c n l ry λs3 I3=>⟨σ,_,I3,q2⟩
end
section
variable {X:Cx} {pins:List (Addr×Obj)} {σ:St} {H:Hp} {s:Shared} {A:Around} {E:Value->Shared->Prop} {Q:Value->Shared->Prop} {c:Value} {b:Bool}
inductive TyOf (K:W.Frag) (H:Hp):V->Value->Prop where
 | non:TyOf K H .non (.type "NoneType")
 | bl (x:Bool):TyOf K H (.bl x) (.type "bool")
 | int (i:Int):TyOf K H (.int i) (.type "int")
 | str (x:Str):TyOf K H (.str x) (.type "str")
 | flt (x:UInt64):TyOf K H (.flt x) (.type "float")
 | lst {a:Addr} {xs:List V} (e:H a=some (.lst xs)):TyOf K H (.ref a) (.type "list")
 | frz {a:Addr} {o:Obj} {xs:List V} (e:H a=some (.frz o (.lst xs))):TyOf K H (.ref a) (.type "list")
 | tup {a:Addr} {xs:List V} (e:H a=some (.tup xs)):TyOf K H (.ref a) (.type "tuple")
 | dK {a:Addr} {kvs:List (Key×V)} (e:H a=some (.dK kvs)):TyOf K H (.ref a) (.type "dict")
 | dT {a:Addr} {kvs:List (List Key×V)} (e:H a=some (.dT kvs)):TyOf K H (.ref a) (.type "dict")
 | ins {a C dx:Addr} {fs:List (Str×V)} (e:H a=some (.ins C dx fs)) (cl:Cls K C) (ha:PySem.W.findIn K (.ref C) "__class__"=some (some (.builtin "object.__class__")))
     (hn:PySem.W.specialIn K (.builtin "object.__class__") "__get__"=some (some (.builtin "getset_descriptor.__get__"))) (htk:PySem.W.takesIn K (.builtin "object.__class__")=some true)
     (hm:PySem.W.mroIn K C (.type "object")=some true):TyOf K H (.ref a) (.ref C)
theorem zw1 {x:V} {u t:Value} (I:Inv X pins σ H s) (rx:zdg x u) (ty:TyOf X.K H x t) (e:PySem.W.kitOne X.K t c=some b) (h:∀tk,Q (.bool b) { s with toks:=tk }) :
   wpAny (model X.prog X.w) A (call (.builtin "isinstance") [u,c]) Q E s:=by
 cases ty with
 | non=>cases (show u=Value.none from rx); exact PySem.W.kia_one PySem.W.kitx_none I.kIn True.intro e (λz=>nomatch z) h
 | bl y=>cases (show u=Value.bool y from rx); exact PySem.W.kia_one PySem.W.kitx_bool I.kIn True.intro e (λz=>nomatch z) h
 | int i=>obtain⟨t,q⟩:=(show ∃t,u=Value.int i t from rx); cases q; exact PySem.W.kia_one PySem.W.kitx_int I.kIn True.intro e (λz=>nomatch z) h
 | str y=>obtain⟨t,q⟩:=(show ∃t,u=Value.str y t from rx); cases q; exact PySem.W.kia_one PySem.W.kitx_str I.kIn True.intro e (λz=>nomatch z) h
 | flt y=>obtain⟨t,q⟩:=(show ∃t,u=Value.float y t from rx); cases q; exact PySem.W.kia_one PySem.W.kitx_float I.kIn True.intro e (λz=>nomatch z) h
 | @lst a xs ea =>
   cases (show u=Value.ref a from rx);obtain⟨_,_,n,_,h1⟩:=(show zdu X.prog X.w H s.heap a (.lst xs) from I.hok a _ ea)
   exact PySem.W.kia_one PySem.W.kitx_list I.kIn ⟨_,h1,rfl⟩ e (λz=>nomatch z) h
 | @frz a ob xs ea =>
   cases (show u=Value.ref a from rx);obtain⟨_,_,_,n,_,h1⟩:=(show zdu X.prog X.w H s.heap a (.frz ob (.lst xs)) from I.hok a _ ea)
   exact PySem.W.kia_one PySem.W.kitx_list I.kIn ⟨_,h1,rfl⟩ e (λz=>nomatch z) h
 | @tup a xs ea =>
   cases (show u=Value.ref a from rx);obtain⟨_,_,_,p⟩:=(show zdu X.prog X.w H s.heap a (.tup xs) from I.hok a _ ea)
   obtain⟨o,h1,h2,_⟩:=p;exact PySem.W.kia_one PySem.W.kitx_tuple I.kIn ⟨o,h1,h2⟩ e (λz=>nomatch z) h
 | @dK a kvs ea =>
   cases (show u=Value.ref a from rx);obtain⟨_,_,vs,_,p⟩:=(show zdu X.prog X.w H s.heap a (.dK kvs) from I.hok a _ ea)
   obtain⟨o,es,ep,h1,h2,_⟩:=p;exact PySem.W.kia_one PySem.W.kitx_dict I.kIn ⟨o,h1,h2.1⟩ e (λz=>nomatch z) h
 | @dT a kvs ea =>
   cases (show u=Value.ref a from rx);obtain⟨_,_,xs,_,o,es,ep,h1,h2,_⟩:=(show zdu X.prog X.w H s.heap a (.dT kvs) from I.hok a _ ea)
   exact PySem.W.kia_one PySem.W.kitx_dict I.kIn ⟨o,h1,h2.1⟩ e (λz=>nomatch z) h
 | @ins a C dx fs ea cl ha hn htk hm =>
   cases (show u=Value.ref a from rx);obtain⟨mA,O,_⟩:=zpq I.hok ea;obtain⟨od,J,_⟩:=O.look;exact PySem.W.kia_one (PySem.W.kitx_own (cl.get _) cl.hd ha hn htk hm) I.kIn J e (λz=>nomatch z) h
end
structure Room (k:Nat) (A:Around):Prop where
 hd:A.handled=none
 dp:A.depth+3 * k+5<recursionLimit
 un:A.units+16 * k+200<cLine
theorem Room.mono {j k:Nat} {A:Around} (r:Room k A) (h:j<=k):Room j A:=⟨r.hd,by have:=r.dp; omega,by have:=r.un; omega⟩
theorem Room.deeper {k:Nat} {A:Around} (r:Room (k+1) A) (env:Env):Room k (A.deeper env) :=
 ⟨r.hd,by have:=r.dp; show A.depth+1+3 * k+5<_; omega,by have:=r.un; show A.units+3+16 * k+200<_; omega⟩
theorem zvl {A:Around} {C:Addr} {us:List Value} {kw:List (Str×Value)}:(A.under (.builtin "type.__call__" ⟨.ref C :: us,kw⟩)).depth=A.depth+1:=by
 first|rfl|simp [Around.under,Code.weight,Code.isCreation,Code.isGuard,Code.isCaller,Code.frames,Code.isFrame,guardIds]
theorem zuw {A:Around} {C:Addr} {us:List Value} {kw:List (Str×Value)}:(A.under (.builtin "type.__call__" ⟨.ref C :: us,kw⟩)).units=A.units+1:=by
 first|rfl|simp [Around.under,Code.cUnits,Code.frames,Code.isFrame]
theorem Room.make {k:Nat} {A:Around} (r:Room (k+1) A) (C:Addr) (us:List Value) (kw:List (Str×Value)):Room k (A.under (.builtin "type.__call__" ⟨.ref C :: us,kw⟩)) :=
 ⟨r.hd,by have:=r.dp; rw[zvl]; omega,by have:=r.un; rw[zuw]; omega⟩
theorem Room.depth {k:Nat} {A:Around} (r:Room k A):A.depth<recursionLimit:=by have:=r.dp; omega
theorem Room.units {k:Nat} {A:Around} (r:Room k A):A.units+64<cLine:=by have:=r.un; omega
def z6e:TA:=λ_ H Q=>Q [] H
def z6x (ta:TE) (tr:TA):TA:=λσ H Q=>ta σ H λx H1=>tr σ H1 λxs H2=>Q (x :: xs) H2
section
variable {X:Cx} {e:Expr} {es:List Expr} {te:TE} {t:TA} {pos:Pos}
theorem zaf:PA X [] z6e:=λ_ _ _ _ H Q I h=>Calls.spliced_nil ⟨[],H,I,.nil,h⟩
theorem zaa (ha:PE X e te) (hr:PA X es t) (hs:starEach (e :: es) X.env=(false,eval e X.env) :: starEach es X.env:=by rfl):PA X (e :: es) (z6x te t):=by intro pos pins s σ H Q I h;rw[hs];show wpAny _ _ (spliced ((false,eval e X.env) :: backTo pos (starEach es X.env))) _ _ s;refine Calls.spliced_cons (thn (ha pins s σ H _ I h) λu s1 ⟨x,H1,I1,r1,q1⟩=>?_);exact thn (hr pos pins s1 σ H1 _ I1 q1) λus s2 ⟨xs,H2,I2,r2,q2⟩=>⟨x :: xs,H2,I2,.cons r1 r2,q2⟩
def tTup (t:TA):TE:=λσ H Q=>t σ H λxs H1=>xs.length<=sizeLine/\∀p,H1 p=none->Q (.ref p) (upd H1 p (.tup xs))
def tLst (t:TA):TE:=λσ H Q=>t σ H λxs H1=>xs.length<=sizeLine/\∀p,H1 p=none->Q (.ref p) (upd H1 p (.lst xs))
theorem zcc {x1} (h:PA X es t):PE X (.Tuple es x1 pos) (tTup t):=by intro pins s σ H Q I hq;refine wpAny_Tuple_spliced (thn (h pos pins s σ H _ I hq) λus s1 ⟨xs,H1,I1,r,z,q⟩=>⟨by rw[<- r.length]; exact z,?_⟩);have hf:H1 s1.heap.objs.size=none:=I1.hok.fresh (qae _);refine⟨.ref s1.heap.objs.size,upd H1 s1.heap.objs.size (.tup xs),I1.laid (t':=s1.toks) (λb u e=>Heap.get?_push_of_some _ e) (qae _) ?_,rfl,q _ hf⟩;exact⟨z,us,r,⟨_,qao _ rfl,rfl,_,rfl⟩⟩
theorem zc1 (h:PA X es t):PE X (.List es pos) (tLst t):=by intro pins s σ H Q I hq;refine wpAny_List_spliced (thn (h pos pins s σ H _ I hq) λus s1 ⟨xs,H1,I1,r,z,q⟩=>⟨by rw[<- r.length]; exact z,?_⟩);have hf:H1 s1.heap.objs.size=none:=I1.hok.fresh (qae _);refine⟨.ref s1.heap.objs.size,upd H1 s1.heap.objs.size (.lst xs),I1.laid (t':=s1.toks) (λb u e=>Heap.get?_push_of_some _ e) (qae _) ?_,rfl,q _ hf⟩;exact⟨z,us,0,r,qao _ rfl⟩
end
abbrev Sp:=List V->Hp->VK->XK->Prop
abbrev CXT:=List Env->Hp->Shared->XK->Value->Shared->Prop
structure Env0 (P:Program) (w:World) (K:W.Frag) (mg:Str->Option Value) (base:Heap) (A:Around) (outer:List Env) (s:Shared) (H:Hp):Prop where
 frames:A.frames=some outer
 mod:Mod K mg base
 bs:∀b o,base.get? b=some o->s.heap.get? b=some o/\H b=none
 bsz:base.objs.size<=s.heap.objs.size
 funs:s.heap.FunFrames base outer
 frf:∀b∈frs outer,H b=none
 hok:HOk P w H s.heap
 bare:AllBare s.gens
def CE (outer:List Env) (P:Program) (w:World) (H:Hp) (s:Shared) (Q:VK) (u:Value) (s':Shared):Prop :=
 ∃v H',s'.os=s.os/\AllBare s'.gens/\Un (frs outer) [] H H' s.heap s'.heap/\HOk P w H' s'.heap/\zdg v u/\Q v H'
def CR (CX:CXT) (outer:List Env) (P:Program) (w:World) (H:Hp) (s:Shared) (Q:VK) (E:XK) (r:Result) (s':Shared):Prop :=
 match r with
 | .ok (.ret u)=>CE outer P w H s Q u s'
 | .ok _=>False
 | .error e=>CX outer H s E e s'
structure FnOk (P:Program) (w:World) (K:W.Frag) (mg:Str->Option Value) (base:Heap) (CX:CXT) (k:Nat) (f:Addr) (fd:FuncData) (ps:List Str) (sp:Sp):Prop where
 len:∀vs H Q E,sp vs H Q E->vs.length=ps.length
 run:∀(A:Around) (outer:List Env) (s:Shared) (H:Hp) (args:Args) (us:List Value) (vs:List V) (Q:VK) (E:XK),Room k A->Env0 P w K mg base A outer s H->BindsTo s fd args (ps.zip us)->zcw vs us->sp vs H Q E ->
   codeAny (model P w) A (.call (.ref f) args) (CR CX outer P w H s Q E) s
theorem Env0.make {P:Program} {w:World} {K:W.Frag} {mg:Str->Option Value} {base:Heap} {A:Around} {outer:List Env} {s:Shared} {H:Hp} (e:Env0 P w K mg base A outer s H) (C:Addr) (us:List Value) (kw:List (Str×Value)) :
   Env0 P w K mg base (A.under (.builtin "type.__call__" ⟨.ref C :: us,kw⟩)) outer s H:=⟨by first|exact e.frames|(simpa [Around.under,Code.envs,Code.isFrame,pushEnvs] using e.frames),e.mod,e.bs,e.bsz,e.funs,e.frf,e.hok,e.bare⟩
section
variable {X:Cx} {pins:List (Addr×Obj)} {σ:St} {H:Hp} {s s':Shared}
theorem Inv.env0 (I:Inv X pins σ H s):Env0 X.prog X.w X.K X.mg X.base X.A X.stack s H :=
 ⟨I.ok.frames,I.ok.mod,I.bs,Nat.le_trans I.ok.bsz I.sz,I.stack,I.stkFree,I.hok,I.bare⟩
theorem Inv.after {Q:VK} {u:Value} (I:Inv X pins σ H s) (h:CE X.stack X.prog X.w H s Q u s'):EP X pins σ Q u s':=by obtain⟨v,H',os,bare,un,hok,r,q⟩:=h;obtain⟨hh,g,d,t,os'⟩:=s';obtain rfl:os'=s.os:=os;exact⟨v,H',I.call (h':=hh) (g':=g) (d':=d) (t':=t) (ch:=[]) un hok bare (λb z=>absurd z (by simp)),r,q⟩
end
def z2d (sp:Sp) (dvs:List V) (E:XK) (t:TA):TE:=λσ H Q=>t σ H λvs H1=>sp (vs++dvs) H1 Q E
def z0k (C:Addr) (m:Str) (sp:Sp) (dvs:List V) (E:XK) (ta:TE) (t:TA):TE:=λσ H Q=>ta σ H λx H1=>∃a dx fs,x=.ref a/\H1 a=some (.ins C dx fs)/\fs.lookup m=none /\
 t σ H1 λvs H2=>sp (x :: (vs++dvs)) H2 Q E
def z3m (C:Addr) (sp:Sp) (dvs:List V) (E:XK) (t:TA):TE:=λσ H Q=>t σ H λvs H1=>∀x dx,H1 x=none->H1 dx=none->dx≠x ->
 sp (.ref x :: (vs++dvs)) (upd (upd H1 dx (.own x)) x (.ins C dx [])) (λv H2=>v=.non/\Q (.ref x) H2) E
def zjm (K:W.Frag) (fd:FuncData) (ps:List Str) (ds:List Value):Prop :=
 ∀(s:Shared) (us:List Value),K.In s.heap->(us++ds).length=ps.length->BindsTo s fd ⟨us,[]⟩ (ps.zip (us++ds))
theorem zjm.all {K:W.Frag} {fd:FuncData} {ps:List Str} (h:∀us:List Value,us.length=ps.length->bindArgs fd ⟨us,[]⟩=pure (ps.zip us)):zjm K fd ps []:=λs us _ hl=>by rw[qbc] at hl ⊢;exact .of_eq (h us hl)
def zjy (CX:CXT) (X:Cx) (E:XK):Prop:=∀(pins:List (Addr×Obj)) (σ:St) (H:Hp) (s:Shared) (e:Value) (s':Shared),Inv X pins σ H s->CX X.stack H s E e s'->X.xe e s'
section
variable {X:Cx} {CX:CXT} {k:Nat} {f C:Addr} {fd:FuncData} {ps:List Str} {sp:Sp} {dvs:List V} {ds:List Value} {E:XK} {x m:Str} {p pos apos:Pos} {e o:Expr} {es:List Expr} {ta:TE} {t:TA}
theorem ztj {pins:List (Addr×Obj)} {σ:St} {H:Hp} {s:Shared} {Q:VK} {us:List Value} {vs:List V} (F:FnOk X.prog X.w X.K X.mg X.base CX k f fd ps sp) (hr:Room k X.A) (hb:zjm X.K fd ps ds) (hd:zcw dvs ds) (hx:zjy CX X E)
   (I:Inv X pins σ H s) (r:zcw vs us) (h:sp (vs++dvs) H Q E):wpAny (model X.prog X.w) X.A (call (.ref f) us) (EP X pins σ Q) X.xe s:=by
 have r2:zcw (vs++dvs) (us++ds):=r.append hd;have hl:(us++ds).length=ps.length:=by rw[<- r2.length]; exact F.len _ _ _ _ h
 refine wpAny_call (codeAny_mono (F.run X.A X.stack s H ⟨us,[]⟩ (us++ds) (vs++dvs) Q E hr I.env0 (hb s us I.kIn hl) r2 h) λr s' hq=>?_);cases r with
 | error e=>exact hx pins σ H s e s' I hq
 | ok fl =>
   cases fl with
   | ret u=>exact I.after hq
   | next=>exact False.elim hq
   | brk=>exact False.elim hq
   | cont=>exact False.elim hq
theorem z22 (F:FnOk X.prog X.w X.K X.mg X.base CX k f fd ps sp) (hr:Room k X.A) (hg:Gl X x) (hm:X.mg x=some (.ref f)) (hk:PySem.W.keepIn X.K (.ref f)=true) (hb:zjm X.K fd ps ds) (hd:zcw dvs ds) (hx:zjy CX X E)
   (ha:PA X (e :: es) t) (hdb:(x==("__debug__":Str))=false:=by decide) (he:starEach (e :: es) X.env=(false,eval e X.env) :: starEach es X.env:=by rfl) (hpl:(backTo pos (starEach es X.env)).any (·.1)=false:=by rfl) :
   PE X (.Call (.Name x p) (e :: es) [] pos) (z2d sp dvs E t):=by
 intro pins s σ H Q I h;refine wpAny_Call_Name_kw (zm7 I hg hm ?_ hdb);refine PySem.W.callWith_K (h₀:=X.base) I.ok.mod.kin hk (thn (ha pos pins s σ H _ I h) λus s1 ⟨vs,H1,I1,r,q⟩=>⟨I1.kIn,?_⟩) he hpl;exact ztj F hr hb hd hx I1 r q
theorem zbb {pl:Sem Bool} (he:PE X o ta) (c:Cls X.K C) (hm:Meth X.K C m f) (F:FnOk X.prog X.w X.K X.mg X.base CX k f fd ps sp) (hr:Room k X.A) (hb:zjm X.K fd ps ds) (hd:zcw dvs ds) (hx:zjy CX X E) (ha:PA X (e :: es) t)
   (hst:starEach (e :: es) X.env=(false,eval e X.env) :: starEach es X.env:=by rfl) (hpl:(backTo pos (starEach es X.env)).any (·.1)=false:=by rfl)
   (ht:eval (.Call (.Attribute o m apos) (e :: es) [] pos) X.env=(do
     let ov <- eval o X.env
     standAt apos.atName
     let (f,first) <- holding [ov] (getMethod ov m pl)
     callWith pos f first (backTo pos (starEach (e :: es) X.env)) (backToKw pos (keywordEach [] X.env))):=by rfl) :
   PE X (.Call (.Attribute o m apos) (e :: es) [] pos) (z0k C m sp dvs E ta t):=by
 intro pins s σ H Q I h;refine PySem.W.methodCall_KW (pl:=pl) (thn (he pins s σ H _ I h) λu s1 ⟨x,H1,I1,rx,a,dx,fs,ex,ea,l,q⟩=>?_) ht;subst ex;obtain rfl:u=Value.ref a:=rx;refine zjg I1 ea c hm l ?_;refine PySem.W.callWith_K (first:=[.ref a]) (h₀:=X.base) I.ok.mod.kin hm.kp (thn (ha pos pins s1 σ H1 _ I1 q) λus s2 ⟨vs,H2,I2,r,q2⟩=>⟨I2.kIn,?_⟩) hst hpl;exact ztj (us:=.ref a :: us) (vs:=.ref a :: vs) F hr hb hd hx I2 (.cons rfl r) q2
theorem zdb {pl:Sem Bool} (he:PE X o ta) (c:Cls X.K C) (hm:Meth X.K C m f) (F:FnOk X.prog X.w X.K X.mg X.base CX k f fd ps sp) (hr:Room k X.A) (hb:zjm X.K fd ps ds) (hd:zcw dvs ds) (hx:zjy CX X E)
   (ht:eval (.Call (.Attribute o m apos) [] [] pos) X.env=(do
     let ov <- eval o X.env
     standAt apos.atName
     let (f,first) <- holding [ov] (getMethod ov m pl)
     callWith pos f first (backTo pos (starEach [] X.env)) (backToKw pos (keywordEach [] X.env))):=by rfl) :
   PE X (.Call (.Attribute o m apos) [] [] pos) (z0k C m sp dvs E ta z6e):=by
 intro pins s σ H Q I h;refine PySem.W.methodCall_KW (pl:=pl) (thn (he pins s σ H _ I h) λu s1 ⟨x,H1,I1,rx,a,dx,fs,ex,ea,l,q⟩=>?_) ht;subst ex;obtain rfl:u=Value.ref a:=rx;refine zjg I1 ea c hm l ?_;exact PySem.W.callWith_K0 (first:=[.ref a]) I1.kIn hm.kp (ztj (us:=[.ref a]) (vs:=[.ref a]) F hr hb hd hx I1 (.cons rfl .nil) q)
structure Mk (K:W.Frag) (C f:Addr):Prop where
 makes:PySem.W.makesIn K C=true
 init:PySem.W.findIn K (.ref C) "__init__"=some (some (.ref f))
 fn:PySem.W.isFn K (.ref f)=true
 kp:PySem.W.keepIn K (.ref C)=true
theorem z0c {pins:List (Addr×Obj)} {σ:St} {H:Hp} {s:Shared} {Q:VK} {us:List Value} {vs:List V} (M:Mk X.K C f) (F:FnOk X.prog X.w X.K X.mg X.base CX k f fd ps sp) (hr:Room (k+1) X.A) (hb:zjm X.K fd ps ds) (hd:zcw dvs ds)
   (hx:zjy CX X E) (I:Inv X pins σ H s) (r:zcw vs us)
   (h:∀x dx,H x=none->H dx=none->dx≠x->sp (.ref x :: (vs++dvs)) (upd (upd H dx (.own x)) x (.ins C dx [])) (λv H2=>v=.non/\Q (.ref x) H2) E) :
   wpAny (model X.prog X.w) X.A (call (.ref C) us) (EP X pins σ Q) X.xe s:=by
 have hq:=h (s.heap.objs.size+1) s.heap.objs.size (I.hok.fresh (qcl _)) (I.hok.fresh (qae _)) (qa5 (qca _));have I2:=Inv.made (C:=C) I;have r2:zcw (V.ref (s.heap.objs.size+1) :: (vs++dvs)) (Value.ref (s.heap.objs.size+1) :: (us++ds)):=.cons rfl (r.append hd);have hl:(Value.ref (s.heap.objs.size+1) :: us++ds).length=ps.length:=by have e:=r2.length;rw[F.len _ _ _ _ hq] at e;exact e.symm
 refine wpAny_call (zzt (f:=f) I.kIn M.makes M.init (beq_iff_eq.mp M.fn) (codeAny_mono (F.run _ X.stack _ _ ⟨Value.ref (s.heap.objs.size+1) :: us,[]⟩ (Value.ref (s.heap.objs.size+1) :: (us++ds)) _ _ E (hr.make C us [])
   (I2.env0.make C us []) (hb _ (Value.ref (s.heap.objs.size+1) :: us) I2.kIn hl) r2 hq) λr s' hq'=>?_))
 cases r with
 | error e=>exact hx pins σ _ _ e s' I2 hq'
 | ok fl =>
   cases fl with
   | ret u =>
     obtain⟨v,H',I3,rv,ev,q3⟩:=I2.after hq';subst ev;exact⟨rv,⟨V.ref (s.heap.objs.size+1),H',I3,rfl,q3⟩⟩
   | next=>exact False.elim hq'
   | brk=>exact False.elim hq'
   | cont=>exact False.elim hq'
theorem z27 (M:Mk X.K C f) (F:FnOk X.prog X.w X.K X.mg X.base CX k f fd ps sp) (hr:Room (k+1) X.A) (hg:Gl X x) (hm:X.mg x=some (.ref C)) (hb:zjm X.K fd ps ds) (hd:zcw dvs ds) (hx:zjy CX X E)
   (ha:PA X (e :: es) t) (hdb:(x==("__debug__":Str))=false:=by decide) (he:starEach (e :: es) X.env=(false,eval e X.env) :: starEach es X.env:=by rfl) (hpl:(backTo pos (starEach es X.env)).any (·.1)=false:=by rfl) :
   PE X (.Call (.Name x p) (e :: es) [] pos) (z3m C sp dvs E t):=by
 intro pins s σ H Q I h;refine wpAny_Call_Name_kw (zm7 I hg hm ?_ hdb);refine PySem.W.callWith_K (h₀:=X.base) I.ok.mod.kin M.kp (thn (ha pos pins s σ H _ I h) λus s1 ⟨vs,H1,I1,r,q⟩=>⟨I1.kIn,?_⟩) he hpl;exact z0c M F hr hb hd hx I1 r q
end
structure FnScope (N P:List Str) (sc:Scope):Prop where
 kind:sc.kind=.function
 co:sc.isCoroutine=false
 gen:sc.isGenerator=false
 nd:N.Nodup
 pre:N.take P.length=P
 par:∀x∈P,sc.names.lookup x=some .local\/sc.names.lookup x=some .cell
 nofree:∀y∈sc.names,y.2≠.free
theorem zqh {kindOf:Str->Option NameKind} {x:Str}:∀{binds:List (Str×Value)} {m:Str->Option Value},(∀v,(x,v) ∉ binds)->bindL kindOf binds m x=m x
 | [],_,_=>rfl
 | (n,v) :: r,m,h=>by
   unfold bindL;rw[zqh λw hw=>h w (List.mem_cons_of_mem _ hw)];split
   . have:x≠n:=by rintro rfl; exact h v List.mem_cons_self
     simp [this]
   . rfl
theorem zqu {kindOf:Str->Option NameKind} {x:Str}:∀{binds:List (Str×Value)} {m:Str->Option Value},(∀v,(x,v) ∉ binds)->bindC kindOf binds m x=m x
 | [],_,_=>rfl
 | (n,v) :: r,m,h=>by
   unfold bindC;rw[zqu λw hw=>h w (List.mem_cons_of_mem _ hw)];split
   . rfl
   . have:x≠n:=by rintro rfl; exact h v List.mem_cons_self
     simp [this]
theorem zqw {kindOf:Str->Option NameKind} {x:Str} {v:Value}:∀{P:List Str} {vs:List Value} {i:Nat} {m:Str->Option Value},P.Nodup->P[i]?=some x->vs[i]?=some v->kindOf x=some .local ->
   bindL kindOf (P.zip vs) m x=some v
 | [],_,_,_,_,h,_,_=>by simp at h
 | _ :: _,[],_,_,_,_,h,_=>by simp at h
 | p :: P,w :: vs,0,m,nd,h1,h2,hk=>by simp at h1 h2; subst h1; subst h2;show bindL kindOf ((p,w) :: P.zip vs) m p=_;unfold bindL;rw[zqh λv hv=>(qc9.mp nd).1 (qcv hv).1,if_pos hk];simp
 | p :: P,w :: vs,i+1,m,nd,h1,h2,hk=>by show bindL kindOf ((p,w) :: P.zip vs) m x=_;unfold bindL;exact zqw (i:=i) (qc9.mp nd).2 (by simpa using h1) (by simpa using h2) hk
theorem zrj {kindOf:Str->Option NameKind} {x:Str} {v:Value}:∀{P:List Str} {vs:List Value} {i:Nat} {m:Str->Option Value},P.Nodup->P[i]?=some x->vs[i]?=some v->kindOf x≠some .local ->
   bindC kindOf (P.zip vs) m x=some v
 | [],_,_,_,_,h,_,_=>by simp at h
 | _ :: _,[],_,_,_,_,h,_=>by simp at h
 | p :: P,w :: vs,0,m,nd,h1,h2,hk=>by simp at h1 h2; subst h1; subst h2;show bindC kindOf ((p,w) :: P.zip vs) m p=_;unfold bindC;rw[zqu λv hv=>(qc9.mp nd).1 (qcv hv).1,if_neg hk];simp
 | p :: P,w :: vs,i+1,m,nd,h1,h2,hk=>by show bindC kindOf ((p,w) :: P.zip vs) m x=_;unfold bindC;exact zrj (i:=i) (qc9.mp nd).2 (by simpa using h1) (by simpa using h2) hk
def zp0 (N:List Str) (vs:List V):St:=vs.map some++List.replicate (N.length - vs.length) none
def zkk (CX:CXT) (P:Program) (w:World) (K:W.Frag) (mg:Str->Option Value) (base:Heap) (N:List Str) (qual:Str) (scope:Scope) (f:Addr) (cd:Value) (A:Around) (outer:List Env) (s:Shared) (H:Hp) (E:XK):Cx where
 prog:=P
 w:=w
 K:=K
 mg:=mg
 base:=base
 A:=A.deeper (envOfC qual scope s.heap.objs.size f cd)
 N:=N
 s₀:=s
 H₀:=H
 env:=envOfC qual scope s.heap.objs.size f cd
 outer:=outer
 stack:=envOfC qual scope s.heap.objs.size f cd :: outer
 ex:=[]
 calm:=true
 fn:=λ_=>true
 pn:=[]
 xe:=λe s'=>wpAny (model P w) (A.deeper (envOfC qual scope s.heap.objs.size f cd)) (leaving (envOfC qual scope s.heap.objs.size f cd) e) (λ_ s''=>CX outer H s E e s'') (λe' s''=>CX outer H s E e' s'') s'
theorem zuj {sc:Scope} {n:Nat} {x:Str} (h:sc.names.lookup x=some .cell):∃c,(cellsFrom n sc.names []).lookup x=some c:=by have q:=PySem.W.cellsFrom_some sc.names n [] (.inl h);exact qcy.mp q
theorem zx0 {CX:CXT} {P:Program} {w:World} {K:W.Frag} {mg:Str->Option Value} {base:Heap} {N ps:List Str} {qual:Str} {scope:Scope} {f:Addr} {cd:Value} {A:Around} {outer:List Env} {s s1:Shared} {H:Hp} {E:XK} {us:List Value} {vs:List V}
   (S:FnScope N ps scope) (hd:A.handled=none) (e0:Env0 P w K mg base A outer s H) (hl:vs.length=ps.length) (r:zcw vs us)
   (x:InCallC s s.heap.objs.size (bindL (envOfC qual scope s.heap.objs.size f cd).kindOf (ps.zip us) λ_=>none) (cellsFrom (s.heap.objs.size+1) scope.names []) (bindC (envOfC qual scope s.heap.objs.size f cd).kindOf (ps.zip us) λ_=>none) s1) :
   Inv (zkk CX P w K mg base N qual scope f cd A outer s H E) [] (zp0 N vs) H s1:=by
 have hpl:ps.length<=N.length:=by have:=congrArg List.length S.pre; rw[qay] at this; omega
 obtain⟨h1,tk,rfl,hk⟩:=x.done;have noA:∀b:Addr,b ∉ (zkk CX P w K mg base N qual scope f cd A outer s H E).ex:=λb z=>absurd (show b∈([]:List Addr) from z) (by simp);refine⟨⟨e0.mod,S.kind,rfl,rfl,qae _,λy z c h1 h2=>?_,λy hy=>?_,λy c _ h=>?_,λ_=>hd,Around.frames_deeper e0.frames,.inr ⟨rfl,rfl⟩,λb z=>absurd z (noA b),e0.bs,e0.bsz,λb _ _=>noA b,λb z=>absurd z (noA b),e0.funs,e0.frf⟩,
   rfl,e0.bare,Un.kept hk,⟨_,x.toInCall.ns,λi y v h1 h2 h3=>?_⟩,λy c h=>⟨_,x.cell y c h⟩,e0.hok.fresh (qae _),λy c h=>?_,λp hp=>absurd (show p∈([]:List (Addr×Obj)) from hp) (by simp),e0.hok.kept hk,?_⟩
 . exact name_of_addr x.apart (PySem.mem_of_lookup h1) (PySem.mem_of_lookup h2)
 . have hy:scope.names.lookup y=some .cell\/scope.names.lookup y=some .free:=hy;rcases hy with hy|hy
   . exact zuj hy
   . exact absurd rfl (S.nofree _ (PySem.mem_of_lookup hy))
 . exact qb1 (x.above y c (PySem.mem_of_lookup h))
 . have hi:i<vs.length:=by
     unfold zp0 at h2;by_cases hi:i<vs.length
     . exact hi
     . rw[qbm (by simpa using hi)] at h2;rw[List.getElem?_replicate] at h2;split at h2 <;> cases h2
   have ha:vs[i]?=some v:=by
     unfold zp0 at h2;rw[qbd (by simpa using hi),List.getElem?_map] at h2;cases e:vs[i]? with
     | none=>rw[e] at h2; cases h2
     | some a=>rw[e] at h2; cases h2; rfl
   obtain⟨u,hu,rv⟩:=r.get ha;have hp:ps[i]?=some y:=by rw[<- S.pre,qbp (by omega)]; exact h1
   have ndP:ps.Nodup:=by rw[<- S.pre]; exact S.nd.sublist (qds _ _)
   refine⟨u,rv,?_⟩;rcases S.par y (List.mem_of_getElem? hp) with k|k
   . exact .inl ⟨k,zqw ndP hp hu k⟩
   . obtain⟨c,e⟩:=zuj (n:=s.heap.objs.size+1) k;refine .inr ⟨.inl k,c,e,?_⟩;have q:=x.cell y c e;rw[zrj ndP hp hu (by show scope.names.lookup y≠_; rw[k]; decide)] at q;exact q
 . exact e0.hok.fresh (qb1 (x.above y c (PySem.mem_of_lookup h)))
 . unfold zp0;show _=N.length;rw[List.length_append,List.length_map,List.length_replicate];omega
theorem z4r {CX:CXT} {P:Program} {w:World} {K:W.Frag} {mg:Str->Option Value} {base:Heap} {k:Nat} {f:Addr} {name qual:Str} {params:Arguments} {body:List Stmt} {scope:Scope} {dV kV doc pm cdv ct oc:Value} {an od:Option Addr}
   {osl:Array (Option Value)} {N ps:List Str} {sp:Sp} (lk:K.lookup f=some ⟨oc,od,.func (PySem.W.fnOf name qual params body scope dV kV doc pm an cdv ct),osl⟩) (hcd:PySem.W.codeIn K cdv qual=true) (S:FnScope N ps scope)
   (len:∀vs H Q E,sp vs H Q E->vs.length=ps.length)
   (hbody:∀(A:Around) (outer:List Env) (s:Shared) (H:Hp) (vs:List V) (Q:VK) (E:XK),Room k (A.deeper (envOfC qual scope s.heap.objs.size f cdv))->sp vs H Q E ->
     ∃t,PSs (zkk CX P w K mg base N qual scope f cdv A outer s H E) body t/\t { nx:=λ_ H'=>Q .non H',rt:=Q } (zp0 N vs) H) :
   FnOk P w K mg base CX (k+1) f (PySem.W.fnOf name qual params body scope dV kV doc pm an cdv ct) ps sp:=by
 refine⟨len,λA outer s H args us vs Q E hr e0 hb r hsp=>?_⟩;have hl:=len _ _ _ _ hsp;have KX:K.In s.heap:=e0.mod.kin.keeps λb o e=>(e0.bs b o e).1;have lim:s.heap.NoLimit:=e0.mod.nolimit.keeps λb o e=>(e0.bs b o e).1;have hkind:∀y∈ps.zip us,scope.names.lookup y.1=some .local\/(scope.names.lookup y.1=some .cell/\((cellsFrom (s.heap.objs.size+1) scope.names []).lookup y.1).isSome=true):=λ⟨n,v⟩ hy=>by
   rcases S.par n (qcv hy).1 with q|q
   . exact .inl q
   . exact .inr ⟨q,PySem.W.cellsFrom_some _ _ _ (.inl q)⟩
 refine codeAny_call_function hr.depth (KX _ _ lk) rfl S.co S.gen rfl (PySem.W.codeRec_of KX hcd) (hb _ _ _ _ ?_);refine wpAny_newFunctionEnv_cells S.kind hkind λenv he s1 x=>?_;subst he;refine⟨lim.keeps x.toInCall.keep,codeAny_func ?_⟩;obtain⟨t,ht,hq⟩:=hbody A outer s H vs Q E (hr.deeper _) hsp;have I:Inv (zkk CX P w K mg base N qual scope f cdv A outer s H E) [] (zp0 N vs) H s1:=zx0 S hr.hd e0 hl r x;refine wpAny_mono (ht [] s1 (zp0 N vs) H _ I hq) (λfl s' hs=>?_) λe s' hs=>hs;have fin:∀{σ':St} {H':Hp} {v:V} {u:Value},Inv (zkk CX P w K mg base N qual scope f cdv A outer s H E) [] σ' H' s'->zdg v u->Q v H'->CE outer P w H s Q u s' :=
   λ{σ' H' v u} J rv q=>⟨v,H',J.os,J.bare,J.base,J.hok,rv,q⟩
 cases fl with
 | ret u =>
   obtain⟨v,σ',H',J,rv,q⟩:=hs;exact fin J rv q
 | next =>
   obtain⟨σ',H',J,q⟩:=hs;exact fin (v:=V.non) (u:=Value.none) J rfl q
 | brk =>
   obtain⟨_,_,_,q⟩:=hs;exact False.elim q
 | cont =>
   obtain⟨_,_,_,q⟩:=hs;exact False.elim q
section
variable {X:Cx} {x:Str} {p pos:Pos} {e:Expr} {es:List Expr} {t:TA} {id T:String} {r:List V->Hp->VK->Prop}
def tCB (r:List V->Hp->VK->Prop) (t:TA):TE:=λσ H Q=>t σ H λvs H1=>r vs H1 Q
theorem zbm (hc:zha X (.builtin id) r) (hg:Gl X x) (hm:X.mg x=none) (hv:bootBuiltins x=some (.builtin id)) (ha:PA X (e :: es) t) (hn:x≠"__name__":=by decide) (hdb:(x==("__debug__":Str))=false:=by decide)
   (he:starEach (e :: es) X.env=(false,eval e X.env) :: starEach es X.env:=by rfl) (hpl:(backTo pos (starEach es X.env)).any (·.1)=false:=by rfl):PE X (.Call (.Name x p) (e :: es) [] pos) (tCB r t):=by
 intro pins s σ H Q I h;refine wpAny_Call_Name_kw (zl2 I hg hm hv ?_ hn hdb);exact PyProof.Rows.callWith_builtin1 (thn (ha pos pins s σ H _ I h) λus s1 ⟨vs,H1,I1,r1,q1⟩=>hc pins s1 σ H1 vs us Q I1 r1 q1) he hpl
theorem za6 (hc:zha X (.type T) r) (hg:Gl X x) (hm:X.mg x=none) (hv:bootBuiltins x=some (.type T)) (ha:PA X (e :: es) t) (hn:x≠"__name__":=by decide) (hdb:(x==("__debug__":Str))=false:=by decide)
   (he:starEach (e :: es) X.env=(false,eval e X.env) :: starEach es X.env:=by rfl) (hpl:(backTo pos (starEach es X.env)).any (·.1)=false:=by rfl):PE X (.Call (.Name x p) (e :: es) [] pos) (tCB r t):=by
 intro pins s σ H Q I h;refine wpAny_Call_Name_kw (zl2 I hg hm hv ?_ hn hdb);exact qbq (thn (ha pos pins s σ H _ I h) λus s1 ⟨vs,H1,I1,r1,q1⟩=>hc pins s1 σ H1 vs us Q I1 r1 q1) he hpl
end
end L2
namespace HT
open PySem PyProof.Rows
section
variable {prog:Program} {w:World} {A:Around} {E:Value->Shared->Prop} {s:Shared}
def sIx (n d:Nat):Option Int->Nat
 | none=>d
 | some v=>if v<0 then(v+(n:Int)).toNat else min v.toNat n
theorem sIx_none (n d:Nat):sIx n d none=d:=rfl
theorem sIx_nat (n d k:Nat):sIx n d (some (k:Int))=min k n:=by show(if(k:Int)<0 then((k:Int)+(n:Int)).toNat else min (k:Int).toNat n)=min k n;rw[if_neg (by omega),qa9]
theorem z4g (n d:Nat) (hd:d<=n) (o:Option Int):sIx n d o<=n:=by
 cases o with
 | none=>exact hd
 | some v =>
   show(if v<0 then(v+(n:Int)).toNat else min v.toNat n)<=n;by_cases hv:v<0
   . rw[if_pos hv]; omega
   . rw[if_neg hv]; exact Nat.min_le_right _ _
theorem zxb (v:Int) (n d:Nat):(if v<0 then max (v+(n:Int)) 0 else min v (n:Int))=((sIx n d (some v):Nat):Int):=by
 show(if v<0 then max (v+(n:Int)) 0 else min v (n:Int))=(((if v<0 then(v+(n:Int)).toNat else min v.toNat n):Nat):Int);by_cases hv:v<0
 . simp only[if_pos hv]; omega
 . simp only[if_neg hv]; omega
theorem zvq (lo hi:Option Int) (n:Nat):Builtin.Slice.sliceAdjust lo hi 1 (n:Int)=(((sIx n 0 lo:Nat):Int),((sIx n n hi:Nat):Int)):=by
 have h1:¬ ((1:Int)<0):=by omega
 unfold Builtin.Slice.sliceAdjust;simp only[h1,if_false];refine Prod.ext ?_ ?_
 . cases lo with
   | none=>rfl
   | some v=>exact zxb v n 0
 . cases hi with
   | none=>rfl
   | some v=>exact zxb v n n
theorem zu0 (i j:Nat):Builtin.Slice.slicePlaces (i:Int) (j:Int) 1=j - i:=by
 unfold Builtin.Slice.slicePlaces;have h1:(1:Int) > 0:=by omega
 simp only[h1,if_true,Int.ediv_one];split <;> omega
theorem zou {v:Value} {o:Option Int} {Q:Option Int->Shared->Prop} (p:IsPart v o) (h:Q o s):wpAny (model prog w) A (Builtin.Slice.slicePartIndex v) Q E s:=by
 cases p with
 | none=>exact slicePart_none h
 | int i t=>exact slicePart_int h
theorem zh5 {sl:Addr} {vl vu:Value} {lo hi:Option Int} {n:Nat} {Q:Int×Int×Nat->Shared->Prop} (hs:s.heap.IsSliceOf sl vl vu .none) (pl:IsPart vl lo) (pu:IsPart vu hi)
   (h:Q (((sIx n 0 lo:Nat):Int),1,sIx n n hi - sIx n 0 lo) s):wpAny (model prog w) A (Builtin.Slice.sliceApplied (.ref sl) (pure (n:Int))) Q E s:=by
 obtain⟨os,hos,hcs,hds⟩:=id hs;unfold Builtin.Slice.sliceApplied Builtin.Slice.sliceFields;refine wpAny_bind (wpAny_bind (wpAny_field hos hds (x:=vl) rfl (wpAny_bind (wpAny_field hos hds (x:=vu) rfl (wpAny_bind (wpAny_field hos hds (x:=.none) rfl (wpAny_pure ?_)))))));refine wpAny_bind (slicePart_none ?_);show wpAny _ _ (if((1:Int)==0)=true then _ else _) _ _ s;rw[if_neg (by decide)];refine wpAny_bind (zou pl (wpAny_bind (zou pu (wpAny_bind (wpAny_pure ?_)))));show wpAny _ _ (match Builtin.Slice.sliceAdjust lo hi 1 (n:Int) with|(lo,hi)=>pure (lo,(1:Int),Builtin.Slice.slicePlaces lo hi 1)) _ _ s;rw[zvq lo hi n];show wpAny _ _ (pure (((sIx n 0 lo:Nat):Int),(1:Int),Builtin.Slice.slicePlaces ((sIx n 0 lo:Nat):Int) ((sIx n n hi:Nat):Int) 1)) _ _ s;rw[zu0];exact wpAny_pure h
theorem z0e (xs:Array Value) (i k:Nat):((List.range k).filterMap λ(m:Nat)=>xs[((i:Int)+(m:Int) * 1).toNat]?).toArray=((xs.toList.drop i).take k).toArray:=by
 have e:(λ(m:Nat)=>xs[((i:Int)+(m:Int) * 1).toNat]?)=λm=>xs[i+m]?:=by
   funext m;have:((i:Int)+(m:Int) * 1).toNat=i+m:=by omega
   rw[this]
 rw[e];have:=pick_run xs i k;rw[List.filterMap_map] at this;have e2:((λx=>xs[x]?) ∘ λx=>i+x)=λm=>xs[i+m]?:=rfl;rw[e2] at this;rw[this]
theorem getItem_tuple_cut {t sl:Addr} {items:Array Value} {vl vu:Value} {lo hi:Option Int} {Q:Value->Shared->Prop} (ht:IsTup s.heap t items) (hs:s.heap.IsSliceOf sl vl vu .none) (pl:IsPart vl lo) (pu:IsPart vu hi)
   (hw:¬ (sIx items.size 0 lo=0/\sIx items.size items.size hi=items.size))
   (h:Q (.ref s.heap.objs.size) { s with heap:=s.heap.push { cls:=.type "tuple",data:=.seq ((items.toList.drop (sIx items.size 0 lo)).take (sIx items.size items.size hi - sIx items.size 0 lo)).toArray } })
   (hsz:items.size<=sizeLine):wpAny (model prog w) A (getItem (.ref t) (.ref sl)) Q E s:=by
 have htake:sizeOk (.seq ((items.toList.drop (sIx items.size 0 lo)).take (sIx items.size items.size hi - sIx items.size 0 lo)).toArray):=by show((items.toList.drop (sIx items.size 0 lo)).take (sIx items.size items.size hi - sIx items.size 0 lo)).toArray.size<=sizeLine;rw[List.size_toArray,qay,qbr,qdg];omega
 have hj:sIx items.size items.size hi<=items.size:=z4g _ _ (qae _) hi;obtain⟨os,hos,hcs,hds⟩:=id hs;have hTs:s.TypeIs (.ref sl) "slice":=⟨os,hos,hcs⟩
 unfold getItem
 try with_reducible refine wpAny_holding ?_
 first|refine wpAny_bind (wpAny_pure ?_)|skip
 refine wpAny_bind (wpAny_sequenceKey ht.typeIs (by decide) ?_);refine wpAny_bind (wpAny_callSpecial?_slot (name:=Str.ofString "__getitem__") ht.typeIs qbl
   (wpAny_call_entry qbl ht.typeIs entry_tuple_getitem ?_ (args_tuple_getitem _ _)))
 show wpAny _ _ (Builtin.Tuple.tupleItemsOf (.ref t) >>= _) _ _ s;refine wpAny_bind (tupleItemsOf_ ht ?_);refine wpAny_bind (wpAny_typeOf hTs ?_);rw[if_pos (by decide)];refine wpAny_bind (zh5 hs pl pu ?_);have hno:¬ ((((sIx items.size 0 lo:Nat):Int)==0&&(1:Int)==1&&(sIx items.size items.size hi - sIx items.size 0 lo)==items.size)=true):=by intro q;rw[qa3,qa3] at q;have q1:((sIx items.size 0 lo:Nat):Int)=0:=eq_of_beq q.1.1;have q2:sIx items.size items.size hi - sIx items.size 0 lo=items.size:=eq_of_beq q.2;exact hw ⟨by omega,by omega⟩
 show wpAny _ _ (if(((sIx items.size 0 lo:Nat):Int)==0&&(1:Int)==1&&(sIx items.size items.size hi - sIx items.size 0 lo)==items.size)=true then _ else _) _ _ s;rw[if_neg hno,z0e]
 first
   | exact wpAny_bind (m:=Builtin.Tuple.tupleExact _) (wpAny_newObj_type (wpAny_pure ⟨_,rfl,wpAny_pure h⟩) htake)
   | exact wpAny_bind (m:=Builtin.Tuple.tupleExact _) (wpAny_newObj_type (wpAny_bind (wpAny_pure (wpAny_pure ⟨_,rfl,wpAny_pure h⟩))) htake)
   | exact wpAny_bind (wpAny_bind (m:=Builtin.Tuple.tupleExact _) (wpAny_newObj_type (wpAny_pure (wpAny_pure ⟨_,rfl,wpAny_pure h⟩)) htake))
   | exact wpAny_bind (wpAny_bind (m:=Builtin.Tuple.tupleExact _) (wpAny_newObj_type (wpAny_pure ⟨_,rfl,wpAny_pure h⟩) htake))
end
end HT
namespace L2
open PySem PySem.Spec PyProof.Rows
abbrev TO:=St->Hp->(Option Int->Hp->Prop)->Prop
def PO (X:Cx) (e:Option Expr) (t:TO):Prop :=
 ∀(pins:List (Addr×Obj)) (s:Shared) (σ:St) (H:Hp) (Q:Option Int->Hp->Prop),Inv X pins σ H s->t σ H Q ->
   wpAny (model X.prog X.w) X.A (evalPart e X.env) (λu s'=>∃o H',Inv X pins σ H' s'/\IsPart u o/\Q o H') X.xe s
def z1z:TO:=λ_ H Q=>Q none H
def z6l (t:TE):TO:=λσ H Q=>t σ H λx H1=>∃i,x=.int i/\Q (some i) H1
section
variable {X:Cx} {e:Expr} {te:TE} {lo hi:Option Expr} {tl th:TO} {pos p2:Pos}
theorem ze0:PO X none z1z:=by intro pins s σ H Q I h;rw[evalPart_none];exact wpAny_pure ⟨none,H,I,.none,h⟩
theorem zcz (h:PE X e te):PO X (some e) (z6l te):=by intro pins s σ H Q I hw;rw[evalPart_some];refine thn (h pins s σ H _ I hw) λu s1 ⟨x,H1,I1,r1,q1⟩=>?_;obtain⟨i,rfl,q⟩:=q1;obtain⟨t,rfl⟩:=r1;exact⟨some i,H1,I1,.int i t,q⟩
def SlR (X:Cx) (r:V->Option Int->Option Int->Hp->VK->Prop):Prop :=
 ∀(pins:List (Addr×Obj)) (s:Shared) (σ:St) (H:Hp) (x:V) (v vl vu:Value) (lo hi:Option Int) (sl:Addr) (Q:VK),Inv X pins σ H s->zdg x v->s.heap.IsSliceOf sl vl vu .none->IsPart vl lo->IsPart vu hi->r x lo hi H Q ->
   ∃T id,typeLookup (.type T) "__getitem__"=pure (some (.builtin id))/\s.TypeIs v T/\wpAny (model X.prog X.w) X.A (getItem v (.ref sl)) (EP X pins σ Q) X.xe s
theorem SlR.or {r r':V->Option Int->Option Int->Hp->VK->Prop} (h:SlR X r) (h':SlR X r'):SlR X (λx lo hi H Q=>r x lo hi H Q\/r' x lo hi H Q):=by
 intro pins s σ H x v vl vu lo hi sl Q I rx hs pl pu q;rcases q with q|q
 . exact h pins s σ H x v vl vu lo hi sl Q I rx hs pl pu q
 . exact h' pins s σ H x v vl vu lo hi sl Q I rx hs pl pu q
def tSl (r:V->Option Int->Option Int->Hp->VK->Prop) (te:TE) (tl th:TO):TE:=λσ H Q=>te σ H λx H1=>tl σ H1 λl H2=>th σ H2 λu H3=>r x l u H3 Q
theorem zct {r:V->Option Int->Option Int->Hp->VK->Prop} (hr:SlR X r) (he:PE X e te) (hl:PO X lo tl) (hu:PO X hi th):PE X (.Subscript e (.Slice lo hi none p2) pos) (tSl r te tl th):=by intro pins s σ H Q I h;refine Subscript_ (thn (he pins s σ H _ I h) λv s1 ⟨x,H1,I1,r1,q1⟩=>?_);refine wpAny_Slice (thn (hl pins s1 σ H1 _ I1 q1) λvl s2 ⟨l,H2,I2,pl,q2⟩=>thn (hu pins s2 σ H2 _ I2 q2) λvu s3 ⟨u,H3,I3,pu,q3⟩=>?_);rw[evalPart_none];refine wpAny_pure ?_;have I4:Inv X pins σ H3 { s3 with heap:=s3.heap.push { cls:=.type "slice",data:=.fields #[vl,vu,.none] } }:=I3.kept (t':=s3.toks) λb ob q=>Heap.get?_push_of_some _ q;obtain⟨T,id,hT,ht,hg⟩:=hr pins { s3 with heap:=s3.heap.push { cls:=.type "slice",data:=.fields #[vl,vu,.none] } } σ H3 x v vl vu l u s3.heap.objs.size Q I4 r1 (Heap.IsSliceOf.new ..) pl pu q3;show wpAny (model X.prog X.w) X.A (subscriptTail e (.Slice lo hi none p2) v (.ref s3.heap.objs.size)) (EP X pins σ Q) X.xe { s3 with heap:=s3.heap.push { cls:=.type "slice",data:=.fields #[vl,vu,.none] } };exact tail_any (ops:=[.ref s3.heap.objs.size,v]) ht hT hg (by with_unfolding_all rfl)
def zjr (xs:List V) (lo hi:Option Int):List V:=(xs.drop (HT.sIx xs.length 0 lo)).take (HT.sIx xs.length xs.length hi - HT.sIx xs.length 0 lo)
theorem znh (xs:List V) (lo hi:Option Int):(zjr xs lo hi).length<=xs.length:=by unfold zjr;rw[qay,qbr];omega
def rSlT (K:W.Frag):V->Option Int->Option Int->Hp->VK->Prop:=λx lo hi H Q=>∃a xs,x=.ref a/\SqT K H a xs /\
 ¬ (HT.sIx xs.length 0 lo=0/\HT.sIx xs.length xs.length hi=xs.length)/\∀p,H p=none->Q (.ref p) (upd H p (.tup (zjr xs lo hi)))
theorem z5i:SlR X (rSlT X.K):=by
 intro pins s σ H x v vl vu lo hi sl Q I rx hs pl pu h;obtain⟨a,xs,rfl,hx,hw,q⟩:=h;cases rx;obtain⟨its,r,ht,hz⟩:=I.tuple hx;have hlen:its.toArray.size=xs.length:=by rw[List.size_toArray]; exact r.length.symm
 refine⟨"tuple",_,qbl.lookup,ht.typeIs,?_⟩;refine HT.getItem_tuple_cut ht hs pl pu (by rw[hlen]; exact hw) ?_ (by rw[hlen]; exact hz);rw[hlen];refine⟨.ref s.heap.objs.size,_,I.laid (t':=s.toks) (o:=.tup (zjr xs lo hi)) (λb ob q=>Heap.get?_push_of_some _ q) (qae _) ?_,rfl,q _ (I.hok.fresh (qae _))⟩;exact⟨Nat.le_trans (znh xs lo hi) hz,_,(r.drop (HT.sIx xs.length 0 lo)).take (HT.sIx xs.length xs.length hi - HT.sIx xs.length 0 lo),IsTup.new _ _⟩
theorem zcw.nil_iff {xs:List V} {us:List Value} (r:zcw xs us):us=[] <-> xs=[]:=by
 cases r with
 | nil=>simp
 | cons _ _=>simp
end
def ixN (n:Nat) (i:Int):Option Nat:=if 0<=i then(if i<n then some i.toNat else none) else if -(n:Int)<=i then some (i+n).toNat else none
def atI {α:Type} (xs:List α) (i:Int):Option α:=(ixN xs.length i).bind λj=>xs[j]?
theorem zvx {n:Nat} {i:Int} {j:Nat} (h:ixN n i=some j):seqIndex? i n=some j/\j<n/\-(n:Int)<=i/\i<n:=by
 unfold ixN at h;by_cases h0:0<=i
 . rw[if_pos h0] at h;by_cases h1:i<n
   . rw[if_pos h1] at h;have e:i.toNat=j:=Option.some.inj h;exact⟨by rw[seqIndex_of h0 h1,e],by omega,by omega,h1⟩
   . rw[if_neg h1] at h; cases h
 . rw[if_neg h0] at h;by_cases h1:-(n:Int)<=i
   . rw[if_pos h1] at h;have e:(i+n).toNat=j:=Option.some.inj h;exact⟨by rw[seqIndex_neg (by omega) h1,e],by omega,h1,by omega⟩
   . rw[if_neg h1] at h; cases h
theorem zsc {α:Type} {xs:List α} {i:Int} {v:α} (h:atI xs i=some v):∃j,seqIndex? i xs.length=some j/\xs[j]?=some v/\j<xs.length/\-(xs.length:Int)<=i/\i<xs.length:=by
 unfold atI at h;cases e:ixN xs.length i with
 | none=>rw[e] at h; cases h
 | some j =>
   rw[e] at h;obtain⟨h1,h2,h3,h4⟩:=zvx e;exact⟨j,h1,h,h2,h3,h4⟩
theorem zc7 {α:Type} {xs:List α} {j:Nat} {v:α} (h:xs[j]?=some v):atI xs (j:Int)=some v:=by
 have hj:j<xs.length:=(List.getElem?_eq_some_iff.mp h).1;have e:ixN xs.length (j:Int)=some j:=by unfold ixN;rw[if_pos (by omega),if_pos (by omega)]; simp
 unfold atI; rw[e]; exact h
theorem zmo {α:Type} (xs:List α) (v:α):atI (xs++[v]) (-1)=some v:=by
 have hl:(xs++[v]).length=xs.length+1:=by simp
 have e:ixN (xs++[v]).length (-1)=some xs.length:=by unfold ixN;rw[hl,if_neg (by decide),if_pos (by omega)];congr 1;omega
 unfold atI;rw[e];show(xs++[v])[xs.length]?=some v;simp
def z2s (b:Expr):Prop:=∀o i,subscripted b false o i=operate [o,i] (getItem o i)
def IxR (X:Cx) (r:R2):Prop :=
 ∀(value slice:Expr) (pins:List (Addr×Obj)) (s:Shared) (σ:St) (H:Hp) (x y:V) (v u:Value) (Q:VK),Inv X pins σ H s->zdg x v->zdg y u->r x y H Q ->
   subscripted slice false v u=operate [v,u] (getItem v u)->wpAny (model X.prog X.w) X.A (subscriptTail value slice v u) (EP X pins σ Q) X.xe s
def MtR (X:Cx) (id:String) (r:V->List V->Hp->VK->Prop):Prop :=
 ∀(pins:List (Addr×Obj)) (s:Shared) (σ:St) (H:Hp) (x:V) (xs:List V) (v:Value) (us:List Value) (Q:VK),Inv X pins σ H s->zdg x v->zcw xs us->r x xs H Q ->
   wpAny (model X.prog X.w) X.A (call (.builtin id) (v :: us)) (EP X pins σ Q) X.xe s
section
variable {X:Cx} {a b:Expr} {ta tb:TE} {pos:Pos}
theorem zal {r:R2} (hr:IxR X r) (ha:PE X a ta) (hb:PE X b tb) (hs:z2s b):PE X (.Subscript a b pos) (tOp r ta tb):=by intro pins s σ H Q I h;exact Subscript_ (z6s ha hb I h λv u s2 x y H2 I2 rx ry q=>hr a b pins s2 σ H2 x y v u Q I2 rx ry q (hs _ _))
def z5r (K:W.Frag):R2:=λx y H Q=>∃p xs i v,x=.ref p/\y=.int i/\SqL K H p xs/\atI xs i=some v/\Q v H
def z4t (K:W.Frag):R2:=λx y H Q=>∃p xs i v,x=.ref p/\y=.int i/\SqT K H p xs/\atI xs i=some v/\Q v H
def rIxS:R2:=λx y H Q=>∃z i c,x=.str z/\y=.int i/\z.length<=sizeLine/\atI z.cps.toList i=some c/\Q (.str ⟨#[c]⟩) H
theorem zap:IxR X (z5r X.K):=by
 intro value slice pins s σ H x y v u Q I rx ry h hs;obtain⟨p,xs,i,z,rfl,rfl,hq,he,q⟩:=h;cases rx;obtain⟨t,rfl⟩:=ry;obtain⟨its,r,pl,hz⟩:=I.list hq;obtain⟨j,h1,h2,h3,h4,h5⟩:=zsc he;obtain⟨w,ew,rw'⟩:=r.get h2;have hl:=r.length;have hn:=zoy;have fin:EP X pins σ Q w s:=⟨z,H,I,rw',q⟩
 by_cases h0:0<=i
 . have hj:i.toNat=j:=by rw[seqIndex_of h0 h5] at h1;exact Option.some.inj h1
   exact item_listR pl.isList h0 (by omega) (by rw[hj]; simpa using ew) fin hs
 . have hj:(i+(its.toArray.size:Int)).toNat=j:=by rw[seqIndex_neg (by omega) h4] at h1;rw[List.size_toArray,<- hl];exact Option.some.inj h1
   exact subscriptTail_builtinR (x:=w) pl.isList.typeIs slot_list_getitem.lookup
     (wpAny_getItem_list_neg (Q:=λr s'=>r=w/\EP X pins σ Q r s') pl.isList (by omega) (by rw[List.size_toArray] <;> omega) (by omega) (by rw[hj]; simpa using ew) ⟨rfl,fin⟩) hs
theorem zaq:IxR X (z4t X.K):=by
 intro value slice pins s σ H x y v u Q I rx ry h hs;obtain⟨p,xs,i,z,rfl,rfl,hq,he,q⟩:=h;cases rx;obtain⟨t,rfl⟩:=ry;obtain⟨its,r,pl,hz⟩:=I.tuple hq;obtain⟨j,h1,h2,h3,h4,h5⟩:=zsc he;obtain⟨w,ew,rw'⟩:=r.get h2;have hl:=r.length;have hn:=zoy;have fin:EP X pins σ Q w s:=⟨z,H,I,rw',q⟩
 exact subscriptTail_builtinR (x:=w) pl.typeIs slot_tuple_getitem.lookup
   (getItem_tuple (j:=j) (Q:=λr s'=>r=w/\EP X pins σ Q r s') pl (by omega) (by omega) (by rw[List.size_toArray,<- hl]; exact h1) (by simpa using ew) ⟨rfl,fin⟩) hs
theorem zvu:IxR X rIxS:=by
 intro value slice pins s σ H x y v u Q I rx ry h hs;obtain⟨z,i,c,rfl,rfl,hz,he,q⟩:=h;obtain⟨t,rfl⟩:=rx;obtain⟨t',rfl⟩:=ry;obtain⟨j,h1,h2,h3,h4,h5⟩:=zsc he;have hl:z.cps.toList.length=z.length:=by simp [Str.length]
 rw[hl] at h1 h4 h5;have hn:=zoy;exact tail_any (typeIs_str s z t) slot_str_getitem.lookup (getItem_str (c:=c) (by have e1:decide (i < -(2 ^ 63:Int))=false:=decide_eq_false (by omega);have e2:decide (i>=2 ^ 63)=false:=decide_eq_false (by omega);rw[e1,e2,qd5]) (by rw[h1]; simpa using h2) ⟨.str ⟨#[c]⟩,H,I.tok _,⟨_,rfl⟩,q⟩) hs
theorem zuy (its:List Value) (n j:Nat) (u:Value):Obj.mapSeq (·.setIfInBounds j u) { cls:=.type "list",data:=.seq its.toArray n }={ cls:=.type "list",data:=.seq (its.set j u).toArray n }:=by simp [Obj.mapSeq]
theorem Inv.lst {pins:List (Addr×Obj)} {σ:St} {H:Hp} {s:Shared} {p:Addr} {xs:List V} (I:Inv X pins σ H s) (h:H p=some (.lst xs)) :
   ∃(its:List Value) (n:Nat),zcw xs its/\s.heap.get? p=some { cls:=.type "list",data:=.seq its.toArray n }/\xs.length<=sizeLine:=by
 obtain⟨z,its,n,r,e⟩:=I.hok p _ h;exact⟨its,n,r,e,z⟩
theorem Inv.lstUpd {pins:List (Addr×Obj)} {σ:St} {H:Hp} {s:Shared} {p:Addr} {xs ys:List V} {its its':List Value} {n n':Nat} {f:Obj->Obj} (I:Inv X pins σ H s) (h:H p=some (.lst xs))
   (ho:s.heap.get? p=some { cls:=.type "list",data:=.seq its.toArray n }) (hf:f { cls:=.type "list",data:=.seq its.toArray n }={ cls:=.type "list",data:=.seq its'.toArray n' }) (r:zcw ys its') (hz:ys.length<=sizeLine) (t:Nat) :
   Inv X pins σ (upd H p (.lst ys)) { s with heap:=s.heap.update p f,toks:=t }:=by
 have e:(s.heap.update p f).get? p=some { cls:=.type "list",data:=.seq its'.toArray n' }:=by rw[qb4 f ho (by rw[hf] <;> rfl),hf]
 refine I.write (x:=p) (e:=p) (by rw[h]; trivial) (.inl rfl) (λb u hb q=>(qbn _ _ (Ne.symm hb)).trans q) ⟨_,e⟩ ?_;exact⟨hz,its',n',r,e⟩
def z55:V->V->V->Hp->(Hp->Prop)->Prop:=λo i v H Q=>∃p xs k j,o=.ref p/\i=.int k/\H p=some (.lst xs)/\ixN xs.length k=some j/\Q (upd H p (.lst (xs.set j v)))
theorem zhs:PSet X z55:=by
 intro pins s σ H o i v ov iv u Q I ro ri rv h;obtain⟨p,xs,k,j,rfl,rfl,hp,hj,q⟩:=h;cases ro;obtain⟨t,rfl⟩:=ri;obtain⟨its,n,r,ho,hz⟩:=I.lst hp;obtain⟨h1,h2,h3,h4⟩:=zvx hj;have hl:=r.length;have hn:=zoy;have I':Inv X pins σ (upd H p (.lst (xs.set j v))) { s with heap:=s.heap.update p (Obj.mapSeq (·.setIfInBounds j u)) } :=
   I.lstUpd hp ho (zuy its n j u) (r.set rv j) (by rw[qcw]; exact hz) s.toks
 by_cases h0:0<=k
 . have hk:k.toNat=j:=by rw[seqIndex_of h0 h4] at h1;exact Option.some.inj h1
   exact PySem.W.ki_setAt ho h0 (by omega) (by rw[List.size_toArray,<- hl]; exact h4) (by rw[hk]; exact⟨_,I',q⟩)
 . have hk:(k+(its.toArray.size:Int)).toNat=j:=by rw[seqIndex_neg (by omega) h3] at h1;rw[List.size_toArray,<- hl];exact Option.some.inj h1
   exact PySem.W.ki_setBack ho (by omega) (by rw[List.size_toArray,<- hl]; exact h3) (by omega) (by rw[hk]; exact⟨_,I',q⟩)
theorem zrt (lo hi:Option Int) (n:Nat):(sliceBounds lo hi none n).1=((HT.sIx n 0 lo:Nat):Int)/\(sliceBounds lo hi none n).2.1=((HT.sIx n n hi:Nat):Int)/\(sliceBounds lo hi none n).2.2=1:=by
 refine⟨?_,?_,rfl⟩
 . cases lo with
   | none=>simp [sliceBounds,HT.sIx]
   | some i =>
     simp only[sliceBounds,HT.sIx,Option.getD_none,show(1:Int) > 0 by decide,if_true];by_cases h:i<0
     . simp only[h,if_true] <;> omega
     . simp only[h,if_false] <;> omega
 . cases hi with
   | none=>simp [sliceBounds,HT.sIx]
   | some i =>
     simp only[sliceBounds,HT.sIx,Option.getD_none,show(1:Int) > 0 by decide,if_true];by_cases h:i<0
     . simp only[h,if_true] <;> omega
     . simp only[h,if_false] <;> omega
theorem zpm (its:List Value) (lo hi:Option Int):slicePick its.toArray lo hi none=((its.drop (HT.sIx its.length 0 lo)).take (HT.sIx its.length its.length hi - HT.sIx its.length 0 lo)).toArray:=by obtain⟨h1,h2,h3⟩:=zrt lo hi its.toArray.size;unfold slicePick;rw[h1,h2,h3];simp only[sliceRange_one,pick_run,List.size_toArray] <;> rfl
def rSlL (K:W.Frag):V->Option Int->Option Int->Hp->VK->Prop:=λx lo hi H Q=>∃a xs,x=.ref a/\SqL K H a xs/\∀p,H p=none->Q (.ref p) (upd H p (.lst (zjr xs lo hi)))
theorem zem:SlR X (rSlL X.K):=by intro pins s σ H x v vl vu lo hi sl Q I rx hs pl pu h;obtain⟨a,xs,rfl,hx,q⟩:=h;cases rx;obtain⟨its,r,ht,hz⟩:=I.list hx;have hlen:=r.length;refine⟨"list",_,slot_list_getitem.lookup,ht.isList.typeIs,?_⟩;refine wpAny_getItem_list_slice ht.isList hs pl pu .none (by simp) ?_ (by rw[List.size_toArray] <;> omega);rw[zpm,<- hlen];refine⟨.ref s.heap.objs.size,_,I.laid (t':=s.toks) (o:=.lst (zjr xs lo hi)) (λb ob q=>Heap.get?_push_of_some _ q) (qae _) ?_,rfl,q _ (I.hok.fresh (qae _))⟩;exact⟨Nat.le_trans (znh xs lo hi) hz,_,0,(r.drop (HT.sIx xs.length 0 lo)).take (HT.sIx xs.length xs.length hi - HT.sIx xs.length 0 lo),qao _ rfl⟩
def zoh:V->Bool
 | .non=>true
 | .bl _=>true
 | .int _=>true
 | .str _=>true
 | _=>false
def eqV:V->V->Bool
 | .non,.non=>true
 | .bl a,.bl b=>a==b
 | .bl a,.int b=>(if a then 1 else 0)==b
 | .int a,.bl b=>a==(if b then 1 else 0)
 | .int a,.int b=>a==b
 | .str a,.str b=>a==b
 | _,_=>false
theorem z4q {A:Around} {s:Shared} {y x:V} {u v:Value} (ry:zdg y u) (rx:zdg x v) (fy:zoh y=true) (fx:zoh x=true):SeqAt.EqAt A s u v (eqV y x):=by
 cases y with
 | non =>
   cases ry;cases x with
   | non=>cases rx; exact SeqAt.EqAt.same _
   | bl b=>cases rx; exact SeqAt.EqAt.none_bool b
   | int b=>obtain⟨t,rfl⟩:=rx; exact SeqAt.EqAt.none_int b t
   | str b=>obtain⟨t,rfl⟩:=rx; exact SeqAt.EqAt.none_str b t
   | _=>exact absurd (show false=true from fx) qam
 | bl a =>
   cases ry;cases x with
   | non=>cases rx; exact SeqAt.EqAt.bool_none a
   | bl b=>cases rx; exact SeqAt.EqAt.bool_bool a b
   | int b=>obtain⟨t,rfl⟩:=rx; exact SeqAt.EqAt.bool_int a b t
   | str b=>obtain⟨t,rfl⟩:=rx; exact SeqAt.EqAt.bool_str a b t
   | _=>exact absurd (show false=true from fx) qam
 | int a =>
   obtain⟨t',rfl⟩:=ry;cases x with
   | non=>cases rx; exact SeqAt.EqAt.int_none a t'
   | bl b=>cases rx; exact SeqAt.EqAt.int_bool a t' b
   | int b=>obtain⟨t,rfl⟩:=rx; exact SeqAt.EqAt.int_int a t' b t
   | str b=>obtain⟨t,rfl⟩:=rx; exact SeqAt.EqAt.int_str a t' b t
   | _=>exact absurd (show false=true from fx) qam
 | str a =>
   obtain⟨t',rfl⟩:=ry;cases x with
   | non=>cases rx; exact SeqAt.EqAt.str_none a t'
   | bl b=>cases rx; exact SeqAt.EqAt.str_bool a t' b
   | int b=>obtain⟨t,rfl⟩:=rx; exact SeqAt.EqAt.str_int a t' b t
   | str b=>obtain⟨t,rfl⟩:=rx; exact SeqAt.EqAt.str_str a t' b t
   | _=>exact absurd (show false=true from fx) qam
 | _=>exact absurd (show false=true from fy) qam
def eqU (x:V) (u:Value):Bool:=match u with
 | .none=>eqV .non x
 | .bool b=>eqV (.bl b) x
 | .int i _=>eqV (.int i) x
 | .str z _=>eqV (.str z) x
 | _=>false
theorem z0p {x y:V} {u:Value} (r:zdg y u) (f:zoh y=true):eqU x u=eqV y x:=by
 cases y with
 | non=>cases r; rfl
 | bl b=>cases r; rfl
 | int i=>obtain⟨t,rfl⟩:=r; rfl
 | str z=>obtain⟨t,rfl⟩:=r; rfl
 | _=>exact absurd (show false=true from f) qam
theorem zm4 {x:V}:∀{xs:List V} {us:List Value},zcw xs us->xs.all zoh=true->us.any (eqU x)=xs.any λy=>eqV y x
 | _,_,.nil,_=>rfl
 | y :: xs,u :: us,.cons r t,f=>by rw[List.all_cons,qa3] at f;rw[qc4,qc4,z0p r f.1,zm4 t f.2]
theorem zko {A:Around} {s:Shared} {x:V} {v:Value} (rx:zdg x v) (fx:zoh x=true):∀{xs:List V} {us:List Value},zcw xs us->xs.all zoh=true->∀u∈us,SeqAt.EqAt A s u v (eqU x u)
 | _,_,.nil,_=>λu hu=>by cases hu
 | y :: xs,u :: us,.cons r t,f=>λu' hu=>by
   rw[List.all_cons,qa3] at f;rcases List.mem_cons.mp hu with rfl|hu
   . rw[z0p r f.1]; exact z4q r rx f.1 fx
   . exact zko rx fx t f.2 u' hu
def inV (x:V) (xs:List V):Bool:=xs.any λy=>eqV y x
def rIn (K:W.Frag) (neg:Bool):R2:=λx y H Q=>∃p xs,y=.ref p/\(SqL K H p xs\/SqT K H p xs)/\zoh x=true/\xs.all zoh=true/\Q (.bl (if neg then !inV x xs else inV x xs)) H
theorem ziu:OpR X (compareOp .In) (rIn X.K false):=by
 intro pins s σ H x y v u Q I rx ry h;obtain⟨p,xs,rfl,hq,fx,fs,q⟩:=h;cases ry;rcases hq with hq|hq
 . obtain⟨its,r,pl,hz⟩:=I.list hq;refine SeqAt.in_listAt (eqU x) pl.isList (λw hw=>zko rx fx r fs w (by simpa using hw)) ⟨.bl _,H,I,rfl,?_⟩;rw[show its.toArray.any (eqU x)=its.any (eqU x) by simp,zm4 r fs];exact q
 . obtain⟨its,r,pl,hz⟩:=I.tuple hq;refine SeqAt.in_tupleAt (eqU x) pl (λw hw=>zko rx fx r fs w (by simpa using hw)) ⟨.bl _,H,I,rfl,?_⟩;rw[show its.toArray.any (eqU x)=its.any (eqU x) by simp,zm4 r fs];exact q
theorem zrn:OpR X (compareOp .NotIn) (rIn X.K true):=by
 intro pins s σ H x y v u Q I rx ry h;obtain⟨p,xs,rfl,hq,fx,fs,q⟩:=h;cases ry;rcases hq with hq|hq
 . obtain⟨its,r,pl,hz⟩:=I.list hq;refine SeqAt.notIn_listAt (eqU x) pl.isList (λw hw=>zko rx fx r fs w (by simpa using hw)) ⟨.bl _,H,I,rfl,?_⟩;rw[show its.toArray.any (eqU x)=its.any (eqU x) by simp,zm4 r fs];exact q
 . obtain⟨its,r,pl,hz⟩:=I.tuple hq;refine SeqAt.notIn_tupleAt (eqU x) pl (λw hw=>zko rx fx r fs w (by simpa using hw)) ⟨.bl _,H,I,rfl,?_⟩;rw[show its.toArray.any (eqU x)=its.any (eqU x) by simp,zm4 r fs];exact q
theorem zcb:zha X (.builtin "len") (λxs H Q=>∃p ys,xs=[.ref p]/\(SqL X.K H p ys\/SqT X.K H p ys)/\Q (.int ys.length) H):=by
 intro pins s σ H xs us Q I r h;obtain⟨p,ys,rfl,hq,q⟩:=h;obtain⟨u,rfl,rx⟩:=zp1 r;cases rx;have hn:=zoy;rcases hq with hq|hq
 . obtain⟨its,r',pl,hz⟩:=I.list hq;have hlen:=r'.length;exact Calls.call_len_list pl.isList (by simp only[List.size_toArray] <;> omega) ⟨.int ys.length,H,I.tok _,⟨s.toks+1,by rw[List.size_toArray,hlen]⟩,q⟩
 . obtain⟨its,r',pl,hz⟩:=I.tuple hq;have hlen:=r'.length;exact len_tuple pl (by simp only[List.size_toArray] <;> omega) ⟨.int ys.length,H,I.tok _,⟨s.toks+1,by rw[List.size_toArray,hlen]⟩,q⟩
theorem zfb:zha X (.type "list") (λxs H Q=>∃p ys,xs=[.ref p]/\(SqL X.K H p ys\/SqT X.K H p ys)/\∀l,H l=none->Q (.ref l) (upd H l (.lst ys))):=by
 intro pins s σ H xs us Q I r h;obtain⟨p,ys,rfl,hq,q⟩:=h;obtain⟨u,rfl,rx⟩:=zp1 r;cases rx;have fin:∀(its:List Value),zcw ys its->ys.length<=sizeLine->∀(h':Heap) (c':Nat),(∀b o',s.heap.get? b=some o'->h'.get? b=some o') ->
     h'.get? s.heap.objs.size=some { cls:=.type "list",dict:=none,data:=.seq its.toArray c',slots:=#[] }->EP X pins σ Q (.ref s.heap.objs.size) { s with heap:=h' }:=λits r' hz h' c' kp e =>
   ⟨.ref s.heap.objs.size,_,I.laid (t':=s.toks) kp (qae _) (show zdu X.prog X.w _ h' _ (.lst ys) from⟨hz,its,c',r',e⟩),rfl,q _ (I.hok.fresh (qae _))⟩
 rcases hq with hq|hq
 . obtain⟨its,r',pl,hz⟩:=I.list hq;have hlen:=r'.length;obtain⟨o,ho,hc,n,hd⟩:=pl.isList;exact call_list_seq p (.inl rfl) ho hc hd (λh' c' kp e=>fin its r' hz h' c' kp e) (by simp only[List.size_toArray] <;> omega)
 . obtain⟨its,r',pl,hz⟩:=I.tuple hq;have hlen:=r'.length;obtain⟨o,ho,hc,n,hd⟩:=pl;exact call_list_seq p (.inr rfl) ho hc hd (λh' c' kp e=>fin its r' hz h' c' kp e) (by simp only[List.size_toArray] <;> omega)
theorem zf2:zha X (.type "tuple") (λxs H Q=>∃p ys,xs=[.ref p]/\((SqL X.K H p ys/\∀l,H l=none->Q (.ref l) (upd H l (.tup ys)))\/(SqT X.K H p ys/\Q (.ref p) H))):=by
 intro pins s σ H xs us Q I r h;obtain⟨p,ys,rfl,h⟩:=h;obtain⟨u,rfl,rx⟩:=zp1 r;cases rx;rcases h with⟨hq,q⟩|⟨hq,q⟩
 . obtain⟨its,r',pl,hz⟩:=I.list hq;have hlen:=r'.length;refine call_tuple_list pl.isList (λh' kp=>?_) (by simp only[List.size_toArray] <;> omega);have I1:Inv X pins σ H { s with heap:=h' }:=I.kept (t':=s.toks) kp;have I2:Inv X pins σ (upd H h'.objs.size (.tup ys)) { s with heap:=h'.push { cls:=.type "tuple",data:=.seq its.toArray } } :=
     I1.laid (t':=s.toks) (λb o e=>Heap.get?_push_of_some _ e) (qae _) (show zdu X.prog X.w _ _ _ (.tup ys) from⟨hz,its,r',IsTup.new _ _⟩)
   exact⟨.ref h'.objs.size,_,I2,rfl,q _ (I1.hok.fresh (qae _))⟩
 . obtain⟨its,r',pl,hz⟩:=I.tuple hq;exact call_tuple_same pl ⟨.ref p,H,I,rfl,q⟩
def tyV (K:W.Frag) (T:String) (x:V) (H:Hp):Prop:=match x with
 | .str _=>T="str"
 | .int _=>T="int"
 | .ref p=>(T="list"/\∃xs,SqL K H p xs)\/(T="tuple"/\∃o,K.lookup p=some o/\o.cls=.type "tuple"/\o.dict=none) \/
     (T="dict"/\((∃kvs,H p=some (.dK kvs))\/∃kvs,H p=some (.dT kvs)))\/(T="set"/\∃S n,H p=some (.set S n))
 | _=>False
theorem z01 {pins:List (Addr×Obj)} {σ:St} {H:Hp} {s:Shared} {T:String} {x:V} {v:Value} (I:Inv X pins σ H s) (r:zdg x v) (ty:tyV X.K T x H) :
   s.TypeIs v T/\∀a,v=.ref a->∃ob,s.heap.get? a=some ob/\ob.dict=none:=by
 cases x with
 | str z =>
   obtain⟨t,rfl⟩:=r;cases (show T="str" from ty);exact⟨typeIs_str s z t,λ_ e=>nomatch e⟩
 | int i =>
   obtain⟨t,rfl⟩:=r;cases (show T="int" from ty);exact⟨typeIs_int s i t,λ_ e=>nomatch e⟩
 | ref p =>
   cases r;rcases ty with⟨rfl,xs,hq⟩|⟨rfl,o,hk,hc,hd⟩|⟨rfl,hk⟩|⟨rfl,S,n,hk⟩
   . obtain⟨its,_,pl,_⟩:=I.list hq;refine⟨pl.isList.typeIs,λa e=>?_⟩;cases e;obtain⟨o,n,e,c,hd,_⟩:=pl;exact⟨o,e,hd⟩
   . refine⟨⟨o,I.kIn p o hk,hc⟩,λa e=>?_⟩;cases e;exact⟨o,I.kIn _ o hk,hd⟩
   . have z:∃o,s.heap.get? p=some o/\o.ExactDict:=by
       rcases hk with⟨kvs,hk⟩|⟨kvs,hk⟩
       . obtain⟨_,_,_,_,o,_,_,e,ex,_⟩:=I.hok p _ hk;exact⟨o,e,ex⟩
       . obtain⟨_,_,_,_,o,_,_,e,ex,_⟩:=I.hok p _ hk;exact⟨o,e,ex⟩
     obtain⟨o,e,ex⟩:=z;refine⟨⟨o,e,ex.1⟩,λa e2=>?_⟩;cases e2;exact⟨o,e,ex.2.1⟩
   . obtain⟨o,_,_,_,e,ex,_⟩:=I.hok p _ hk;refine⟨⟨o,e,ex.1⟩,λa e2=>?_⟩;cases e2;exact⟨o,e,ex.2.1⟩
 | _=>exact False.elim ty
def tBM0 (K:W.Frag) (T:String) (r:V->List V->Hp->VK->Prop) (to:TE):TE:=λσ H Q=>to σ H λx H1=>tyV K T x H1/\r x [] H1 Q
def tBM (K:W.Frag) (T:String) (r:V->List V->Hp->VK->Prop) (to:TE) (t:TA):TE:=λσ H Q=>to σ H λx H1=>tyV K T x H1/\t σ H1 λxs H2=>r x xs H2 Q
variable {o e:Expr} {es:List Expr} {to:TE} {t:TA} {name:Str} {apos cpos:Pos} {T id:String} {r:V->List V->Hp->VK->Prop}
theorem zv8 (pa:PlainAttrs T) (slot:Slot T name id) (hty:typeOf (.builtin id)=pure (.type "method_descriptor")) (hm:MtR X id r) (ho:PE X o to)
   (hbase:attributeBase o name X.env (eval o X.env)=eval o X.env:=by rfl) (hline:(apos.endLine==cpos.line)=true:=by rfl):PE X (.Call (.Attribute o name apos) [] [] cpos) (tBM0 X.K T r to):=by
 intro pins s σ H Q I h;refine wpAny_Call_method0_late hbase hline (thn (ho pins s σ H _ I h) λv s1 ⟨x,H1,I1,r1,ty,q1⟩=>?_);obtain⟨h1,h2⟩:=z01 I1 r1 ty;exact⟨T,id,pa,slot,hty,h1,h2,Calls.callWith_builtin rfl (PySem.evalArgs_none (hm pins s1 σ H1 x [] v [] Q I1 r1 .nil q1))⟩
theorem zhm (pa:PlainAttrs T) (slot:Slot T name id) (hty:typeOf (.builtin id)=pure (.type "method_descriptor")) (hm:MtR X id r) (ho:PE X o to) (ha:PA X (e :: es) t)
   (hbase:attributeBase o name X.env (eval o X.env)=eval o X.env:=by rfl)
   (hfew:((backTo cpos (starEach (e :: es) X.env)).all (λx=>!x.1)&&(backToKw cpos (keywordEach [] X.env)).all (λx=>x.1.isSome)
     && decide ((e :: es).length+([]:List Keyword).length+(if([]:List Keyword).isEmpty then 0 else 1)<30))=true:=by rfl)
   (hline:(apos.endLine==cpos.line)=true:=by rfl) (hs:starEach (e :: es) X.env=(false,eval e X.env) :: starEach es X.env:=by rfl) (hplain:(backTo cpos (starEach es X.env)).any (·.1)=false:=by rfl) :
   PE X (.Call (.Attribute o name apos) (e :: es) [] cpos) (tBM X.K T r to t):=by
 intro pins s σ H Q I h;refine wpAny_Call_method_late hbase hfew hline rfl (thn (ho pins s σ H _ I h) λv s1 ⟨x,H1,I1,r1,ty,q1⟩=>?_);obtain⟨h1,h2⟩:=z01 I1 r1 ty;refine⟨T,id,pa,slot,hty,h1,h2,?_⟩;have hA:=ha cpos pins s1 σ H1 _ I1 q1;rw[hs] at hA ⊢;refine Calls.callWith_builtin (by show(false || (backTo cpos (starEach es X.env)).any (·.1))=false; rw[hplain] <;> rfl) (Calls.evalArgs_plain ?_);exact thn hA λus s2 ⟨vs,H2,I2,r2,q2⟩=>hm pins s2 σ H2 x vs v us Q I2 r1 r2 q2
end
def MtM (X:Cx) (id:String) (r:V->List V->Hp->VK->Prop):Prop :=
 ∀(pins:List (Addr×Obj)) (s:Shared) (σ:St) (H:Hp) (x:V) (xs:List V) (v:Value) (us:List Value) (Q:VK),Inv X pins σ H s->zdg x v->zcw xs us->r x xs H Q ->
   wpAny (model X.prog X.w) X.A (call (.builtin id) (v :: us)) (EP X pins σ Q) X.xe s
theorem zcw.one:∀{x:V} {us:List Value},zcw [x] us->∃u,us=[u]/\zdg x u
 | _,_,.cons r .nil=>⟨_,rfl,r⟩
theorem zcw.zero:∀{us:List Value},zcw [] us->us=[]
 | _,.nil=>rfl
theorem zcw.dropLast {xs:List V} {us:List Value} (h:zcw xs us):zcw xs.dropLast us.dropLast:=by
 induction h with
 | nil=>exact .nil
 | cons r t ih =>
   cases t with
   | nil=>exact .nil
   | cons q t'=>exact .cons r ih
theorem zcw.rep {xs:List V} {us:List Value} (h:zcw xs us):∀k:Nat,zcw (List.replicate k xs).flatten (List.replicate k us).flatten
 | 0=>.nil
 | k+1=>by rw[qb0,qb0,qci,qci];exact zcw.append h (zcw.rep h k)
theorem zuz {α:Type} (l:List α):l.eraseIdx (l.length - 1)=l.dropLast:=by
 induction l with
 | nil=>rfl
 | cons a r ih =>
   cases r with
   | nil=>rfl
   | cons b r =>
     have e:(a :: b :: r).length - 1=((b :: r).length - 1)+1:=by have h1:(a :: b :: r).length=r.length+2:=rfl;have h2:(b :: r).length=r.length+1:=rfl;omega
     rw[e,List.eraseIdx_cons_succ,ih]
     all_goals rfl
theorem zq1 (its:List Value):∀(k:Nat) (acc:List Value),
   List.foldl (λx1 x2=>x1++x2) acc.toArray (List.replicate k its.toArray)=(acc++(List.replicate k its).flatten).toArray
 | 0,acc=>by simp
 | k+1,acc=>by
   have e:acc.toArray++its.toArray=(acc++its).toArray:=by simp
   have e2:(acc++its)++(List.replicate k its).flatten=acc++(List.replicate (k+1) its).flatten:=by rw[qb0,qci,qcs]
   rw[<- e2,<- zq1 its k (acc++its),<- e,qb0,qa6]
section
variable {X:Cx} {pins:List (Addr×Obj)} {σ:St} {H:Hp} {s:Shared} {l b:Addr} {xs ys zs:List V}
theorem Inv.lset {its its':List Value} {n:Nat} {f:Array Value->Array Value} {t':Nat} (I:Inv X pins σ H s) (hH:H l=some (.lst xs))
   (e:s.heap.get? l=some { cls:=.type "list",data:=.seq its.toArray n }) (hf:f its.toArray=its'.toArray) (hv:zcw ys its') (hz:ys.length<=sizeLine) :
   Inv X pins σ (upd H l (.lst ys)) { s with heap:=s.heap.update l (Obj.mapSeq f),toks:=t' }:=by
 have q:=PySem.IsL.update e f;rw[hf] at q;refine I.write (x:=l) (e:=l) (by rw[hH]; exact trivial) (.inl rfl) (λb' u hb hu=>(qbn s.heap (Obj.mapSeq f) (Ne.symm hb)).trans hu) ⟨_,q⟩ ?_;exact⟨hz,its',_,hv,q⟩
theorem Inv.lnew {its:List Value} {t':Nat} (I:Inv X pins σ H s) (hv:zcw ys its) (hz:ys.length<=sizeLine) :
   Inv X pins σ (upd H s.heap.objs.size (.lst ys)) { s with heap:=s.heap.push { cls:=.type "list",data:=.seq its.toArray },toks:=t' } :=
 I.laid (λ_ _ q=>Heap.get?_push_of_some _ q) (qae _) ⟨hz,its,0,hv,qao _ rfl⟩
theorem Inv.fresh (I:Inv X pins σ H s):H s.heap.objs.size=none:=I.hok.fresh (qae _)
theorem Inv.lstM (I:Inv X pins σ H s) (hH:H l=some (.lst xs)):xs.length<=sizeLine/\∃(its:List Value) (n:Nat),zcw xs its/\xs.length=its.length/\s.heap.get? l=some { cls:=.type "list",data:=.seq its.toArray n }:=by obtain⟨z,its,n,r,e⟩:=I.hok l _ hH;exact⟨z,its,n,r,r.length,e⟩
theorem zts {n:Nat} (h:n<=sizeLine):Builtin.List.listTooLong n=false:=by unfold Builtin.List.listTooLong;exact decide_eq_false (by omega)
end
section
variable {X:Cx}
def z1r:V->List V->Hp->VK->Prop:=λx vs H Q=>∃l xs y,x=.ref l/\vs=[y]/\H l=some (.lst xs)/\xs.length<sizeLine/\Q .non (upd H l (.lst (xs++[y])))
theorem zb0:MtM X "list.append" z1r:=by intro pins s σ H x vs v us Q I rx rv h;obtain⟨l,xs,y,rfl,rfl,hH,hz,q⟩:=h;cases rx;obtain⟨u,rfl,ru⟩:=rv.one;obtain⟨z,its,n,r,hl,e⟩:=I.lstM hH;refine call_meets F.slot_list_append ⟨_,e,rfl⟩ F.entry_list_append (F.args_list_append_2 _ _) (PySem.list_append l its.toArray n u (by rw[List.size_toArray]; omega)) ⟨e,?_⟩;refine⟨.non,_,I.lset (its':=its++[u]) hH e (by simp) (r.append (.cons ru .nil)) ?_,rfl,q⟩;rw[List.length_append,qa1];omega
def z2y:V->List V->Hp->VK->Prop:=λx vs H Q=>∃l b xs zs,x=.ref l/\vs=[.ref b]/\H l=some (.lst xs)/\H b=some (.lst zs)/\xs.length+zs.length<=sizeLine/\Q .non (upd H l (.lst (xs++zs)))
theorem zre:MtM X "list.extend" z2y:=by
 intro pins s σ H x vs v us Q I rx rv h;obtain⟨l,b,xs,zs,rfl,rfl,hH,hB,hz,q⟩:=h;cases rx;obtain⟨u,rfl,ru⟩:=rv.one;cases ru;obtain⟨z,its,n,r,hl,e⟩:=I.lstM hH;obtain⟨z2,its2,n2,r2,hl2,e2⟩:=I.lstM hB;have hsz:its.toArray.size+its2.toArray.size<=sizeLine:=by rw[List.size_toArray,List.size_toArray]; omega
 have hlong:¬ (!its.toArray.isEmpty&&Builtin.List.listTooLong (its.toArray.size+its2.toArray.size))=true:=by rw[zts hsz,Bool.and_false];exact qam
 refine call_meets F.slot_list_extend ⟨_,e,rfl⟩ F.entry_list_extend (F.args_list_extend_2 _ _)
   (AutoSeq1.list_extend_list_list_0 l its.toArray n b its2.toArray n2 hlong (by rw[List.size_toArray]; omega) (by omega)) ⟨e,e2,?_⟩
 refine⟨.non,_,I.lset (its':=its++its2) hH e (by simp) (r.append r2) ?_,rfl,q⟩;rw[List.length_append];omega
def rPop:V->List V->Hp->VK->Prop:=λx vs H Q=>∃l xs y,x=.ref l/\vs=[]/\H l=some (.lst xs)/\xs[xs.length - 1]?=some y/\Q y (upd H l (.lst xs.dropLast))
theorem zwt:MtM X "list.pop" rPop:=by
 intro pins s σ H x vs v us Q I rx rv h;obtain⟨l,xs,y,rfl,rfl,hH,hy,q⟩:=h;cases rx;have hus:=rv.zero;subst hus;obtain⟨z,its,n,r,hl,e⟩:=I.lstM hH;obtain⟨u,hu,ru⟩:=r.get hy;have hy':its.toArray[its.toArray.size - 1]?=some u:=by show its.toArray[its.length - 1]?=some u;rw[<- Array.getElem?_toList,<- hl];exact hu
 refine call_meets F.slot_list_pop ⟨_,e,rfl⟩ F.entry_list_pop (F.args_list_pop_1 _) (MeetsSeq.list_pop_last l its.toArray n u hy' (by rw[List.size_toArray]; omega)) ⟨e,?_⟩;refine⟨y,_,I.lset (its':=its.dropLast) hH e ?_ r.dropLast ?_,ru,q⟩
 . show its.toArray.eraseIdxIfInBounds (its.toArray.size - 1)=its.dropLast.toArray;rw[List.size_toArray,List.eraseIdxIfInBounds_toArray,zuz]
 . rw[List.length_dropLast];omega
def rCat:R2:=λx y H Q=>∃l b xs zs,x=.ref l/\y=.ref b/\H l=some (.lst xs)/\H b=some (.lst zs)/\xs.length+zs.length<=sizeLine/\∀p,H p=none->Q (.ref p) (upd H p (.lst (xs++zs)))
theorem z0s:OpR X (binaryOp .Add) rCat:=by
 intro pins s σ H x y v u Q I rx ry h;obtain⟨l,b,xs,zs,rfl,rfl,hH,hB,hz,q⟩:=h;cases rx;cases ry;obtain⟨z,its,n,r,hl,e⟩:=I.lstM hH;obtain⟨z2,its2,n2,r2,hl2,e2⟩:=I.lstM hB;refine PySem.P.add_list e e2 ?_ (by rw[List.size_toArray,List.size_toArray]; omega);have ea:its.toArray++its2.toArray=(its++its2).toArray:=by simp
 rw[ea];exact⟨.ref _,_,I.lnew (t':=s.toks) (r.append r2) (by rw[List.length_append]; omega),rfl,q _ I.fresh⟩
def rRep:R2:=λx y H Q=>∃l k xs,x=.ref l/\y=.int k/\H l=some (.lst xs)/\-(2 ^ 63)<=k/\k<2 ^ 63/\xs.length * k.toNat<=sizeLine /\
 ∀p,H p=none->Q (.ref p) (upd H p (.lst (List.replicate k.toNat xs).flatten))
theorem zww {α:Type} (xs:List α) (k:Nat):(List.replicate k xs).flatten.length=k * xs.length:=by
 induction k with
 | zero=>simp
 | succ k ih=>rw[qb0,qci,List.length_append,ih,Nat.succ_mul,Nat.add_comm]
theorem z3o:OpR X (binaryOp .Mult) rRep:=by
 intro pins s σ H x y v u Q I rx ry h;obtain⟨l,k,xs,rfl,rfl,hH,h1,h2,hz,q⟩:=h;cases rx;obtain⟨t,rfl⟩:=ry;obtain⟨z,its,n,r,hl,e⟩:=I.lstM hH;have hlen:its.toArray.size * k.toNat<=sizeLine:=by rw[List.size_toArray,<- hl]; exact hz
 have hcap:¬ its.toArray.size * k.toNat > (2 ^ 63 - 1) / 8:=by
   have:(sizeLine:Nat)<=(2 ^ 63 - 1) / 8:=by decide
   omega
 have hfit:¬ (!Builtin.List.listFitsIndex k)=true:=by rw[fitsIndex_both h1 h2];exact qam
 have hlong:¬ Builtin.List.listTooLong (its.toArray.size * k.toNat)=true:=by rw[zts hlen];exact qam
 have hnew:List.foldl (λx1 x2=>x1++x2) #[] (List.replicate (if its.toArray.isEmpty=true then 0 else k.toNat) its.toArray)=(List.replicate k.toNat its).flatten.toArray:=by
   have f0:∀m:Nat,List.foldl (λx1 x2=>x1++x2) #[] (List.replicate m its.toArray)=(List.replicate m its).flatten.toArray:=λm=>by have:=zq1 its m [];rw[List.nil_append] at this;exact this
   rw[f0];cases its with
   | nil=>simp
   | cons a r'=>rw[if_neg (by simp)]
 refine wpAny_binaryOp_repeat_ref (T:="list") (U:="int") (by decide) ⟨_,e,rfl⟩ (λs'=>typeIs_int s' k t) noFill_list_mul F.fills_int_mul F.slot_int_rmul repeat_list F.slot_int_index.lookup
   (call_meets F.slot_int_rmul (typeIs_int s k t) F.entry_int_rmul (F.args_int_rmul_2 _ _) (int___rmul___int_list k t l its.toArray n)
     ⟨e,rfl,⟨_,e,rfl⟩,call_meets F.slot_list_mul ⟨_,e,rfl⟩ F.entry_list_mul (F.args_list_mul_2 _ _) (AutoListH.list___mul___list_int_3 l its.toArray n k t hfit hcap hlong) ⟨e,?_⟩⟩)
 rw[hnew];exact⟨.ref _,_,I.lnew (t':=s.toks) (r.rep k.toNat) (by rw[zww,Nat.mul_comm]; exact hz),rfl,q _ I.fresh⟩
end
end L2
namespace Att
open PySem PySem.W PySem.Calls PyProof.Rows
theorem zmz {P:Params} {h:Heap}:∀(ns:List Int) (vs:List Value),WellAll P h vs (ns.map WData.int)->IntsAre vs ns:=by
 intro ns
 induction ns with
 | nil =>
   intro vs w;rw[qcm] at w;cases w;exact .nil
 | cons n ns ih =>
   intro vs w;rw[qa2] at w;cases w with
   | cons a b =>
     cases a;exact .cons _ _ (ih _ b)
theorem zwj {l:OpenLaw} {n:Nat} (hn:l.most=some n) {P:Params} {h:Heap} {args:List WData} {vals:List Value}
   (hpre:l.row.toRowW.claim.pre args=true) (hwl:WellAll P h vals args) :
   ∃a vs ns,vals=[Value.ref a]/\args=[WData.list (ns.map WData.int)]/\h.get? a=some { cls:=.type "list",data:=.seq vs.toArray }/\IntsAre vs ns/\ns.length<=n:=by
 have hsh:WShape.hasAll [] args [.list .int]=true:=(pre_splitW hpre).1;have hc:l.pre.holds [] { args:=args }=true:=(pre_splitW hpre).2;obtain⟨d,r,rfl,h1,h2⟩:=hasAllW_cons hsh;obtain rfl:=hasAllW_nil h2;obtain⟨xs,rfl,h3⟩:=hasW_list h1;obtain⟨ns,rfl⟩:=items_int h3;have hlen:ns.length<=n:=by
   unfold OpenLaw.pre at hc;have h4:(WTm.not (.lt (.lit (.int (n:Int))) (.len (.arg 0)))).holds [] { args:=[.list (ns.map .int)] }=true:=by have h4:=(holds_andW hc).1;rw[hn] at h4;exact h4
   have h5:=condW_of h4 (w_not (w_lt w_lit (w_len_list (w_arg rfl))));rw[List.length_map] at h5;refine Nat.le_of_not_lt λq=>?_;have q':(n:Int)<((ns.length:Nat):Int):=by omega
   first
     | (rw[decide_eq_true q'] at h5; exact absurd h5 (by decide))
     | (simp at h5; omega)
 cases hwl with
 | cons w1 w2 =>
   cases w2;cases w1 with
   | list ho hall=>exact⟨_,_,ns,rfl,rfl,ho,zmz ns _ hall,hlen⟩
theorem zwg (l:OpenLaw) (args:List WData):l.row.toRowW.claim.post args (.bool true) args=true :=
 postW_of (r:=l.row.toRowW) (X:=(true==true))
   (show WShape.has [] (.bool true) .bool=true by first|rfl|decide|simp [WShape.has,WShape.arms,WShape.armsAll])
   (show(WTm.eq .res (.lit (.bool true))).value [] { args:=args,res:=some (.bool true),after:=args }=some (.bool (true==true)) from w_eq_bool (w_res rfl) w_lit) rfl
theorem attach_call {l:OpenLaw} {n:Nat} {q:Program} {loose:List Str} {XP:(Str->Option Value)->Heap->Prop} {YP:World->Heap->Prop} {d:DefRec}
   (hn:l.most=some n) (hdf:d.params.defaults=[])
   (call:∀(w:World) (s₀ s₁:Shared) (mg mb:Str->Option Value) (fa:Addr) (o:Obj) (pm cd doc:Value) (a:Addr) (vs:List Value) (ns:List Int),
     Ground q loose [] XP w s₀ mg mb s₁.heap->YP w s₁.heap ->
     s₁.heap.get? fa=some o->o.data=.func (docDef d.name d.params d.body d.scope pm cd doc)->s₁.heap.CodeRec cd d.name->mg d.name=some (.ref fa) ->
     s₁.heap.get? a=some { cls:=.type "list",data:=.seq vs.toArray }->IntsAre vs ns->ns.length<=n->s₁.gens=#[] ->
     codeAny (model l.prog w) callerA (.call (.ref fa) ⟨[.ref a],[]⟩) (λr s'=>r=.ok (.ret (.bool true))/\OldK s₁.heap s'.heap/\s'.os=s₁.os/\AllBare s'.gens) s₁) :
   WalkO q loose XP YP l.row.toRowW d [] (λf vs=>PySem.call f vs):=by
 intro w s₀ s₁ mg mb G Y fa o pm cd doc dV kV ho hd hcd hD hmg hg args vals as hpre hlay hrd hwl hlo;obtain rfl:dV=.none:=Dflts.none hD hdf;obtain rfl:kV=.none:=Dflts.noKw hD;obtain⟨a,vs,ns,rfl,rfl,hobj,hints,hlen⟩:=zwj hn hpre hwl;refine enter_call (codeAny_mono (call w s₀ s₁ mg mb fa o pm cd doc a vs ns G Y ho (fd_plain hd) hcd hmg hobj hints hlen hg) λr s' hq=>?_);obtain⟨rfl,h2,h3,h4⟩:=hq;exact⟨.inl ⟨.bool true,.bool true,[],rfl,λ_=>rfl,.bool true,zwg l _,λ_=>⟨List.Pairwise.nil,λ_ hm=>(nomatch hm)⟩⟩,h2,h3,h4⟩
end Att
namespace L2
open PySem PySem.Spec PyProof.Rows
theorem zq5:∀{vs:List Value} {ns:List Int},IntsAre vs ns->zcw (ns.map V.int) vs
 | _,_,.nil=>.nil
 | _,_,.cons n t h=>.cons ⟨t,rfl⟩ (zq5 h)
def z5p (H:Hp):Prop:=∀b,H b=none\/∃o xs,H b=some (.frz o (.lst xs))
theorem z0l {P:Program} {w:World} {K:W.Frag} {mg mb:Str->Option Value} {CX:CXT} {k:Nat} {fa a:Addr} {fd:FuncData} {x:Str} {sp:Sp} {s₁:Shared} {vs:List Value} {ns:List Int}
   (KX:K.In s₁.heap) (hns:s₁.heap.Ns mainGlobals mg) (hb:s₁.heap.Ns builtinsNs mb) (hbb:∀x:Str,x≠"__name__"->mb x=bootBuiltins x) (hlim:s₁.heap.NoLimit) (hg:s₁.gens=#[])
   (ha:s₁.heap.get? a=some { cls:=.type "list",data:=.seq vs.toArray }) (hi:IntsAre vs ns) (hl:ns.length<=sizeLine) (hr:Room k callerA)
   (F:∀base:Heap,K.In base->base.Ns mainGlobals mg->FnOk P w K mg base CX k fa fd [x] sp) (hbind:∀(s:Shared) (u:Value),BindsTo s fd ⟨[u],[]⟩ [(x,u)])
   (hsp:∀H:Hp,z5p H->SqL K H a (ns.map V.int)->sp [.ref a] H (λv _=>v=.bl true) λ_ _ _=>False)
   (hCX:∀H e s',CX [] H s₁ (λ_ _ _=>False) e s'->False) :
   codeAny (model P w) callerA (.call (.ref fa) ⟨[.ref a],[]⟩) (λr s'=>r=.ok (.ret (.bool true))/\OldK s₁.heap s'.heap/\s'.os=s₁.os/\AllBare s'.gens) s₁:=by
 have rv:=zq5 hi;have lenV:=hi.length
 -- from an abstract heap in which nothing but the script may be tracked
 have core:∀H:Hp,z5p H->SqL K H a (ns.map V.int)->HOk P w H s₁.heap->(∀b,H b≠none->b=a)->(H a≠none->K.lookup a=none) ->
     codeAny (model P w) callerA (.call (.ref fa) ⟨[.ref a],[]⟩) (λr s'=>r=.ok (.ret (.bool true))/\OldK s₁.heap s'.heap/\s'.os=s₁.os/\AllBare s'.gens) s₁:=by
   intro H hO hS hok hA hK;have base_of:∀{b:Addr} {o:Obj},s₁.heap.get? b=some o->H b=none->(zz7 s₁.heap H).get? b=some o:=λe n=>z0j e n;have noA:∀{b:Addr} {o:Obj} {es:Array DictEntry} {ep:Nat},s₁.heap.get? b=some o->o.data=.dict es ep->H b=none:=λ{b o es ep} e d=>by
     cases q:H b with
     | none=>rfl
     | some u =>
       have e':b=a:=hA b (by rw[q]; simp);subst e';rw[ha] at e; cases e;have d':Data.seq vs.toArray _=Data.dict es ep:=d;cases d'
   have nsK:∀{b:Addr} {m:Str->Option Value},s₁.heap.Ns b m->(zz7 s₁.heap H).Ns b m:=λ{b m} ⟨o,es,ep,e,d,r⟩=>⟨o,es,ep,base_of e (noA e d),d,r⟩
   have hKb:K.In (zz7 s₁.heap H):=λb o e=>base_of (KX b o e) (by
     cases q:H b with
     | none=>rfl
     | some u =>
       have e':b=a:=hA b (by rw[q]; simp);subst e';rw[hK (by rw[q]; simp)] at e; cases e)
   have hM:Mod K mg (zz7 s₁.heap H):=⟨hKb,nsK hns,⟨mb,nsK hb,hbb⟩,let ⟨mc,h1,h2⟩:=hlim; ⟨mc,nsK h1,h2⟩⟩
   have e0:Env0 P w K mg (zz7 s₁.heap H) callerA [] s₁ H:=⟨rfl,hM,λb o e=>z24 e,Nat.le_of_eq (zv7 _ _),trivial,λb hb=>absurd (show b∈([]:List Addr) from hb) (by simp),hok,.of_eq hg⟩
   refine codeAny_mono ((F _ hKb (nsK hns)).run callerA [] s₁ H ⟨[.ref a],[]⟩ [.ref a] [.ref a] _ _ hr e0 (hbind s₁ (.ref a)) (.cons rfl .nil) (hsp H hO hS)) λr s' h=>?_;cases r with
   | error e=>exact(hCX H e s' h).elim
   | ok fl =>
     cases fl with
     | next=>exact False.elim h
     | brk=>exact False.elim h
     | cont=>exact False.elim h
     | ret u =>
       obtain⟨v,H',os,bare,un,hok',r',q⟩:=h;have q':v=.bl true:=q;subst q';obtain rfl:u=Value.bool true:=r';refine⟨rfl,OldK.of_keep λb o e=>?_,os,bare⟩;cases q:H b with
       | none=>exact un.keep b o e q (by intro z; exact absurd (show b∈([]:List Addr) from z) (by simp)) (by simp)
       | some u =>
         rcases hO b with z|⟨ob,xs,z⟩
         . rw[q] at z; cases z
         . have z2:=un.frzs b ob _ z;obtain⟨e1,_⟩:=hok b _ z;obtain⟨e2,_⟩:=hok' b _ z2;rw[e] at e1; cases e1;exact e2
 cases hk:K.lookup a with
 | some o =>
   -- the script is one of the module's own objects
   have e:=KX a o hk;rw[ha] at e;cases e;refine core (λ_=>none) (λ_=>.inl rfl) (.inr ⟨_,vs.toArray,_,hk,rfl,rfl,rfl,by rw[List.size_toArray,lenV]; exact hl,by simpa using rv⟩) (λb u z=>by have z':(none:Option HO)=some u:=z; cases z') (λb z=>absurd rfl z) λz=>absurd rfl z
 | none =>
   refine core (λb=>if b=a then some (.frz { cls:=.type "list",data:=.seq vs.toArray } (.lst (ns.map V.int))) else none) (λb=>?_) (.inl (.inr ⟨{ cls:=.type "list",data:=.seq vs.toArray },if_pos rfl⟩)) (λb u z=>?_) (λb z=>?_) λ_=>hk
   . by_cases hb:b=a
     . exact .inr ⟨_,_,if_pos hb⟩
     . exact .inl (if_neg hb)
   . by_cases hb:b=a
     . have z':=(if_pos hb).symm.trans z;cases z';subst hb;exact⟨ha,by rw[List.length_map]; exact hl,vs,_,rv,ha⟩
     . have z':=(if_neg hb).symm.trans z;cases z'
   . by_cases hb:b=a
     . exact hb
     . exact absurd (if_neg hb) z
abbrev KOf {K:W.Frag} {h:Heap} (_:K.In h):W.Frag:=K
theorem z2j {l:PySem.W.OpenLaw} {n k:Nat} {q:Program} {loose:List Str} {XP:(Str->Option Value)->Heap->Prop} {YP:World->Heap->Prop} {d:DefRec} {K:Params->W.Frag} {CX:World->CXT} {sp:World->Sp} {x:Str}
   (hn:l.most=some n) (hn2:n<=sizeLine) (hdf:d.params.defaults=[]) (hr:Room k callerA)
   (hY:∀(w:World) (h:Heap),YP w h->(K w.params).In h)
   (F:∀(w:World) (mg:Str->Option Value) (fa:Addr) (h:Heap),(K w.params).In h->h.Ns mainGlobals mg->mg d.name=some (.ref fa) ->
     ∃fd:FuncData,(∀(s:Shared) (u:Value),BindsTo s fd ⟨[u],[]⟩ [(x,u)]) /\
       ∀base:Heap,(K w.params).In base->base.Ns mainGlobals mg->FnOk l.prog w (K w.params) mg base (CX w) k fa fd [x] (sp w))
   (hsp:∀(w:World) (H:Hp) (a:Addr) (ns:List Int),ns.length<=n->z5p H->SqL (K w.params) H a (ns.map V.int)->sp w [.ref a] H (λv _=>v=.bl true) λ_ _ _=>False)
   (hCX:∀(w:World) (H:Hp) (s:Shared) (e:Value) (s':Shared),CX w [] H s (λ_ _ _=>False) e s'->False) :
   PySem.W.WalkO q loose XP YP l.row.toRowW d [] (λf vs=>PySem.call f vs):=by
 refine Att.attach_call hn hdf λw s₀ s₁ mg mb fa o pm cd doc a vs ns G Y ho hd hcd hmg hobj hints hlen hg=>?_;have KX:=hY w _ Y;obtain⟨fd,hb,hF⟩:=F w mg fa _ KX G.T.g hmg;exact z0l KX G.T.g G.T.b G.T.builtins G.T.nolimit hg hobj hints (Nat.le_trans hlen hn2) hr hF hb (λH hO hS=>hsp w H a ns hlen hO hS) λH e s'=>hCX w H s₁ e s'
theorem walk_ofK {l:PySem.W.OpenLaw} {n k:Nat} {q:Program} {loose:List Str} {XP:(Str->Option Value)->Heap->Prop} {YP:World->Heap->Prop} {d:DefRec} {K:Params->W.Frag} {CX:CXT} {sp:W.Frag->Sp} {x:Str}
   (hn:l.most=some n) (hn2:n<=sizeLine) (hdf:d.params.defaults=[]) (hr:Room k callerA)
   (hY:∀(w:World) (h:Heap),YP w h->(K w.params).In h)
   (F:∀(w:World) (mg:Str->Option Value) (fa:Addr) (h:Heap),(K w.params).In h->h.Ns mainGlobals mg->mg d.name=some (.ref fa) ->
     ∃fd:FuncData,(∀(s:Shared) (u:Value),BindsTo s fd ⟨[u],[]⟩ [(x,u)]) /\
       ∀base:Heap,(K w.params).In base->base.Ns mainGlobals mg->FnOk l.prog w (K w.params) mg base CX k fa fd [x] (sp (K w.params)))
   (hsp:∀(K:W.Frag) (H:Hp) (a:Addr) (ns:List Int),ns.length<=n->z5p H->SqL K H a (ns.map V.int)->sp K [.ref a] H (λv _=>v=.bl true) λ_ _ _=>False)
   (hCX:∀(H:Hp) (s:Shared) (e:Value) (s':Shared),CX [] H s (λ_ _ _=>False) e s'->False) :
   PySem.W.WalkO q loose XP YP l.row.toRowW d [] (λf vs=>PySem.call f vs) :=
 z2j (K:=K) (CX:=λ_=>CX) (sp:=λw=>sp (K w.params)) hn hn2 hdf hr hY F (λw H a ns h1 h2 h3=>hsp (K w.params) H a ns h1 h2 h3) λ_ H s e s'=>hCX H s e s'
def zbu (s:Stmt) (j:Nat):Stmt:=match s with
 | .ClassDef _ _ _ body _ _ _ _ _ _ _=>body.getD j (.Pass ⟨0,0,0,0⟩)
 | _=>.Pass ⟨0,0,0,0⟩
def zdi (s:Stmt):Arguments:=match s with
 | .FunctionDef _ a _ _ _ _ _ _ _ _=>a
 | _=>{ posonlyargs:=[],args:=[],vararg:=none,kwonlyargs:=[],kw_defaults:=[],kwarg:=none,defaults:=[] }
def zaw (s:Stmt):List Stmt:=match s with
 | .FunctionDef _ _ b _ _ _ _ _ _ _=>b
 | _=>[]
def zai (s:Stmt):Scope:=match s with
 | .FunctionDef _ _ _ _ _ _ sc _ _ _=>sc
 | _=>{ kind:=.function,names:=[],isGenerator:=false,isCoroutine:=false }
abbrev CX0:CXT:=λ_ _ _ _ _ _=>False
abbrev E0:XK:=λ_ _ _=>False
theorem zcq {X:Cx}:zjy CX0 X E0:=λ_ _ _ _ _ _ _ h=>h.elim
structure Fun (K:W.Frag) (x qual:Str) (st:Stmt) (f:Addr) (fd:FuncData):Prop where
 ex:∃(oc:Value) (od:Option Addr) (kV doc pm:Value) (an:Option Addr) (cdv ct:Value) (osl:Array (Option Value)),
   fd=PySem.W.fnOf x qual (zdi st) (zaw st) (zai st) .none kV doc pm an cdv ct/\K.lookup f=some ⟨oc,od,.func fd,osl⟩/\PySem.W.codeIn K cdv qual=true
 kp:PySem.W.keepIn K (.ref f)=true
section
variable {P:Program} {w:World} {K:W.Frag} {mg:Str->Option Value} {base:Heap}
theorem Fun.ok {x qual:Str} {st:Stmt} {f:Addr} {fd:FuncData} {N ps:List Str} {k:Nat} {sp:Sp} (F:Fun K x qual st f fd) (S:FnScope N ps (zai st)) (len:∀vs H Q E,sp vs H Q E->vs.length=ps.length)
   (hbody:∀(cdv:Value) (A:Around) (outer:List Env) (s:Shared) (H:Hp) (vs:List V) (Q:VK) (E:XK),Room k (A.deeper (envOfC qual (zai st) s.heap.objs.size f cdv))->sp vs H Q E ->
     ∃t,PSs (zkk CX0 P w K mg base N qual (zai st) f cdv A outer s H E).nox (zaw st) t/\t { nx:=λ_ H'=>Q .non H',rt:=Q } (zp0 N vs) H):FnOk P w K mg base CX0 (k+1) f fd ps sp:=by
 obtain⟨oc,od,kV,doc,pm,an,cdv,ct,osl,rfl,lk,hcd⟩:=F.ex;refine z4r lk hcd S len λA outer s H vs Q E hr hsp=>?_;obtain⟨t,h,q⟩:=hbody cdv A outer s H vs Q E hr hsp;exact⟨t,h.nox,q⟩
theorem Fun.binds {x qual:Str} {st:Stmt} {f:Addr} {fd:FuncData} {ps:List Str} (F:Fun K x qual st f fd)
   (h:∀(kV doc pm:Value) (an:Option Addr) (cdv ct:Value) (us:List Value),us.length=ps.length->bindArgs (PySem.W.fnOf x qual (zdi st) (zaw st) (zai st) .none kV doc pm an cdv ct) ⟨us,[]⟩=pure (ps.zip us)):zjm K fd ps []:=by
 obtain⟨oc,od,kV,doc,pm,an,cdv,ct,osl,rfl,lk,hcd⟩:=F.ex;exact .all (h kV doc pm an cdv ct)
theorem zlz {x qual:Str} {st:Stmt} {f:Addr} {oc:Value} {od an:Option Addr} {osl:Array (Option Value)} {kV doc pm cdv ct:Value} (l:K.lookup f=some ⟨oc,od,.func (PySem.W.fnOf x qual (zdi st) (zaw st) (zai st) .none kV doc pm an cdv ct),osl⟩)
   (c:PySem.W.codeIn K cdv qual=true) (k:PySem.W.keepIn K (.ref f)=true):Fun K x qual st f (PySem.W.fnOf x qual (zdi st) (zaw st) (zai st) .none kV doc pm an cdv ct):=⟨⟨oc,od,kV,doc,pm,an,cdv,ct,osl,rfl,l,c⟩,k⟩
end
theorem zx2 {n:Nat} (h:n<=1000):n<sizeLine:=qbw h (by decide)
section
variable {X:Cx}
theorem pv (i:Nat) {x:Str} {pos:Pos} (hN:X.N[i]?=some x:=by rfl) (hv:Vis X.env.scope x:=by first|exact Or.inl rfl|exact Or.inr (Or.inl rfl)|exact Or.inr (Or.inr rfl)) (hd:(x==("__debug__":Str))=false:=by decide)
   (hcd:(x==("__classdict__":Str))=false:=by decide):PE X (.Name x pos) (tVar i):=z4x hN hv hd hcd
end
theorem z3h {A B:Prop} (h:B):if false=true then A else B:=by rw[if_neg qam];exact h
theorem z3i {A B:Prop} (h:A):if true=true then A else B:=by rw[if_pos rfl];exact h
theorem zvt {c A B:Prop} [Decidable c] (h1:c->A) (h2:¬ c->B):if c then A else B:=by
 by_cases h:c
 . rw[if_pos h];exact h1 h
 . rw[if_neg h];exact h2 h
def zaj (H H':Hp):Prop:=∀b o,H b=some o->H' b=some o
theorem zaj.refl (H:Hp):zaj H H:=λ_ _ h=>h
theorem zaj.trans {H H1 H2:Hp} (a:zaj H H1) (b:zaj H1 H2):zaj H H2:=λc o h=>b c o (a c o h)
theorem zaj.free {H H':Hp} (e:zaj H H') {l:Addr} (h:H' l=Option.none):H l=Option.none:=by
 cases q:H l with
 | none=>rfl
 | some o =>
   rw[e l o q] at h;cases h
theorem zaj.seq {K:W.Frag} {H H':Hp} {a:Addr} {xs:List V} (e:zaj H H') (h:SqL K H a xs):SqL K H' a xs:=by
 rcases h with(h|⟨o,h⟩)|h
 . exact .inl (.inl (e _ _ h))
 . exact .inl (.inr ⟨o,e _ _ h⟩)
 . exact .inr h
end L2
set_option maxHeartbeats 4000000
namespace L2
open PySem PySem.Spec PyProof.Rows
def zka:List (Str×NameKind)->List (Str×Addr)->List (Str×Addr)->List (Str×Addr)
 | [],_,acc=>acc
 | (n,k) :: r,cells,acc=>if k==.free then zka r cells ((n,(cells.lookup n).getD 0) :: acc) else zka r cells acc
theorem zqi {env:Env}:∀(names:List (Str×NameKind)) (acc:List (Str×Addr)),(∀y∈names,y.2=.free->∃c,env.cells.lookup y.1=some c) ->
   (forIn names acc λx r=>(match x with|(name,kind)=>if(kind==NameKind.free)=true then do let a <- cellOf env name; pure (ForInStep.yield ((name,a) :: r)) else pure (ForInStep.yield r):Sem (ForInStep (List (Str×Addr)))))=(pure (zka names env.cells acc):Sem (List (Str×Addr)))
 | [],acc,_=>rfl
 | (n,k) :: r,acc,h=>by
   have ih:=λacc=>zqi (env:=env) r acc λy hy=>h y (List.mem_cons_of_mem _ hy);rw[qda];unfold zka;cases hk:(k==NameKind.free) with
   | true =>
     obtain⟨c,hc⟩:=h (n,k) List.mem_cons_self (by simpa using hk);have hc:env.cells.lookup n=some c:=hc;have e:cellOf env n=pure c:=by unfold cellOf; rw[hc]
     simp only[hk,if_true,e,pure_bind,hc,Option.getD_some];exact ih _
   | false =>
     simp only[hk,qce,if_false,pure_bind];exact ih _
theorem zza {scope:Scope} {env:Env} (h:∀y∈scope.names,y.2=.free->∃c,env.cells.lookup y.1=some c):closureFor scope env=pure (zka scope.names env.cells []):=by
 have e:=zqi (env:=env) scope.names [] h;unfold closureFor
 first
   | (rw[e]; rfl)
   | (simp only[e]; rfl)
   | exact(congrArg (λt=>t >>= λr=>pure r) e)
theorem zno {cells:List (Str×Addr)}:∀(names:List (Str×NameKind)) (acc:List (Str×Addr)),(∀y∈names,y.2=.free->∃c,cells.lookup y.1=some c)->(∀x c,acc.lookup x=some c->cells.lookup x=some c) ->
   ∀x c,(zka names cells acc).lookup x=some c->cells.lookup x=some c
 | [],acc,_,h2=>h2
 | (n,k) :: r,acc,h,h2=>by
   unfold zka;cases hk:(k==NameKind.free) with
   | true =>
     rw[if_pos rfl];refine zno r _ (λy hy=>h y (List.mem_cons_of_mem _ hy)) λx c e=>?_;obtain⟨c',hc⟩:=h (n,k) List.mem_cons_self (by simpa using hk);have hc:cells.lookup n=some c':=hc;rw[qb3] at e;cases hx:x==n with
     | true =>
       have hx':x=n:=by simpa using hx
       rw[hx] at e;rw[hx',hc];simpa [hc] using e
     | false =>
       rw[hx] at e;exact h2 x c e
   | false =>
     rw[if_neg (by simp)];exact zno r _ (λy hy=>h y (List.mem_cons_of_mem _ hy)) h2
theorem znp {cells:List (Str×Addr)} {x:Str}:∀(names:List (Str×NameKind)) (acc:List (Str×Addr)),(acc.lookup x).isSome=true->((zka names cells acc).lookup x).isSome=true
 | [],_,h=>h
 | (n,k) :: r,acc,h=>by
   unfold zka;split
   . refine znp r _ ?_;rw[qb3];cases x==n <;> simp [h]
   . exact znp r _ h
theorem znt {cells:List (Str×Addr)} {x:Str}:∀(names:List (Str×NameKind)) (acc:List (Str×Addr)),(x,NameKind.free)∈names->((zka names cells acc).lookup x).isSome=true
 | (n,k) :: r,acc,h=>by
   unfold zka;rcases List.mem_cons.mp h with e|e
   . cases e;rw[if_pos (by rfl)];exact znp r _ (by rw[qb3]; simp)
   . split
     . exact znt r _ e
     . exact znt r _ e
def zew (X:Cx) (N':List Str) (scope:Scope) (C:Addr) (s:Shared) (H:Hp) (fp:List Addr):Cx :=
 { X with N:=N',s₀:=s,H₀:=H,env:=compEnvC scope (zka scope.names X.env.cells []) C X.env,outer:=X.stack,stack:=X.stack,ex:=fp,fn:=λ_=>false,pn:=[],xe:=λ_ _=>False }
def cap (js:List (Option Nat)) (σ:St):St:=js.map λo=>o.bind λj=>(σ[j]?).join
def zq2 (scope osc:Scope) (N' N:List Str) (js:List (Option Nat)):Bool :=
 (scope.kind==.function)&&(scope.names.all λy=>y.2 != .cell&&(if y.2==.local then scope.names.lookup y.1==some .local else true) &&
   (if y.2==.free then osc.names.lookup y.1==some .cell || osc.names.lookup y.1==some .free else true)) &&
 js.length==N'.length&&((js.zip N').all λq=>match q.1 with
   | none=>true
   | some j=>N[j]?==some q.2&&(osc.names.lookup q.2==some .cell || osc.names.lookup q.2==some .free)&&scope.names.lookup q.2==some .free)
structure CompOk (scope osc:Scope) (N' N:List Str) (js:List (Option Nat)):Prop where
 kind:scope.kind=.function
 nocell:∀y∈scope.names,y.2≠.cell
 names:∀y∈scope.names,y.2=.local->scope.names.lookup y.1=some .local
 free:∀y∈scope.names,y.2=.free->osc.names.lookup y.1=some .cell\/osc.names.lookup y.1=some .free
 len:js.length=N'.length
 slots:∀(i j:Nat) (x:Str),js[i]?=some (some j)->N'[i]?=some x->N[j]?=some x/\(osc.names.lookup x=some .cell\/osc.names.lookup x=some .free)/\scope.names.lookup x=some .free
theorem zxl {scope osc:Scope} {N' N:List Str} {js:List (Option Nat)} (h:zq2 scope osc N' N js=true):CompOk scope osc N' N js:=by
 unfold zq2 at h;rw[qa3,qa3,qa3,qdw,qdw] at h;obtain⟨⟨⟨h1,h2⟩,h3⟩,h4⟩:=h;refine⟨by cases hk:scope.kind <;> first|rfl|(rw[hk] at h1; cases h1),λy hy e=>?_,λy hy e=>?_,λy hy e=>?_,by simpa using h3,λi j x e1 e2=>?_⟩
 . have q:=h2 y hy;rw[e] at q;simp at q
 . have q:=h2 y hy;rw[qa3,qa3] at q;have q2:=q.1.2;rw[e] at q2;simpa using q2
 . have q:=h2 y hy;rw[qa3,qa3] at q;have q2:=q.2;rw[e] at q2;simpa using q2
 . have hm:(some j,x)∈js.zip N':=by refine List.mem_of_getElem? (i:=i) ?_;rw[qb6];exact⟨e1,e2⟩
   have q:=h4 _ hm;simp only[qa3,Bool.or_eq_true,beq_iff_eq] at q;exact⟨q.1.1,q.1.2,q.2⟩
theorem zjx {env:Env}:∀(names:List (Str×NameKind)) (x:Str),names.lookup x=some .free ->
   ((names.map λ(n,k)=>if(k==NameKind.free&&env.scope.kind==.function&&env.kindOf n==some .cell) then(n,NameKind.cell) else(n,k)).lookup x=some .cell \/
     (names.map λ(n,k)=>if(k==NameKind.free&&env.scope.kind==.function&&env.kindOf n==some .cell) then(n,NameKind.cell) else(n,k)).lookup x=some .free)
 | [],x,h=>by simp at h
 | (n,k) :: r,x,h=>by
   have ih:=zjx (env:=env) r x;rw[qa2];rw[qb3] at h;by_cases hb:(k==NameKind.free&&env.scope.kind==.function&&env.kindOf n==some .cell)=true
   . have e1:(if(k==NameKind.free&&env.scope.kind==.function&&env.kindOf n==some .cell)=true then(n,NameKind.cell) else(n,k))=(n,NameKind.cell):=if_pos hb;simp only[e1,qb3];cases hx:x==n with
     | true=>exact .inl rfl
     | false =>
       rw[hx] at h;exact ih h
   . have e1:(if(k==NameKind.free&&env.scope.kind==.function&&env.kindOf n==some .cell)=true then(n,NameKind.cell) else(n,k))=(n,k):=if_neg hb;simp only[e1,qb3];cases hx:x==n with
     | true =>
       rw[hx] at h;exact .inr h
     | false =>
       rw[hx] at h;exact ih h
theorem zl6 {scope:Scope} {env:Env}:∀(names:List (Str×NameKind)) (x:Str),(∀y∈names,y.2≠.cell) ->
   ((names.map λ(n,k)=>if(k==NameKind.free&&env.scope.kind==.function&&env.kindOf n==some .cell) then(n,NameKind.cell) else(n,k)).lookup x=some .cell \/
     (names.map λ(n,k)=>if(k==NameKind.free&&env.scope.kind==.function&&env.kindOf n==some .cell) then(n,NameKind.cell) else(n,k)).lookup x=some .free)->(x,NameKind.free)∈names
 | [],x,_,h=>by simp at h
 | (n,k) :: r,x,hc,h=>by
   have ih:=zl6 (scope:=scope) (env:=env) r x λy hy=>hc y (List.mem_cons_of_mem _ hy);rw[qa2] at h;by_cases hb:(k==NameKind.free&&env.scope.kind==.function&&env.kindOf n==some .cell)=true
   . have hkf:k=.free:=by rw[qa3,qa3] at hb;simpa using hb.1.1
     have e1:(if(k==NameKind.free&&env.scope.kind==.function&&env.kindOf n==some .cell)=true then(n,NameKind.cell) else(n,k))=(n,NameKind.cell):=if_pos hb;simp only[e1,qb3] at h;cases hx:x==n with
     | true =>
       have hx':x=n:=by simpa using hx
       rw[hx',hkf];exact List.mem_cons_self
     | false =>
       rw[hx] at h;exact List.mem_cons_of_mem _ (ih h)
   . have e1:(if(k==NameKind.free&&env.scope.kind==.function&&env.kindOf n==some .cell)=true then(n,NameKind.cell) else(n,k))=(n,k):=if_neg hb;simp only[e1,qb3] at h;cases hx:x==n with
     | true =>
       have hx':x=n:=by simpa using hx
       rw[hx] at h;rcases h with h|h
       . exact absurd (Option.some.inj h) (hc (n,k) List.mem_cons_self)
       . have hkf:k=.free:=Option.some.inj h;rw[hx',hkf];exact List.mem_cons_self
     | false =>
       rw[hx] at h;exact List.mem_cons_of_mem _ (ih h)
theorem Un.sameBut {fs ex:List Addr} {H H':Hp} {h h1 h2:Heap} {C:Addr} (u:Un fs ex H H' h h1) (hs:Heap.SameBut C h1 h2) (hC:h.objs.size<=C):Un fs ex H H' h h2:=by
 have ne:∀b o,h.get? b=some o->b≠C:=λb o e=>qa5 (Nat.lt_of_lt_of_le (Heap.lt_size e) hC);refine⟨λb o e n hb hx=>(hs.2 b (ne b o e)).trans (u.keep b o e n hb hx),λb o e n hb hx=>?_,u.free,λb o e hx=>?_,u.tups,u.frzs,u.tbls⟩
 . obtain⟨sl,q⟩:=u.slot b o e n hb hx;exact⟨sl,(hs.2 b (ne b o e)).trans q⟩
 . obtain⟨o',q⟩:=u.there b o e hx;exact⟨o',(hs.2 b (ne b o e)).trans q⟩
theorem z3f {α:Type} {t:Sem α} {Q Q':α->Shared->Prop} {M:Model} {A:Around} {E:Value->Shared->Prop} {s:Shared} (h:wpAny M A t Q (λ_ _=>False) s) (hQ:∀a s,Q a s->Q' a s):wpAny M A t Q' E s:=wpAny_mono h hQ λ_ _ f=>f.elim
theorem zvy {prog:Program} {w:World} {A:Around} {R:Result->Shared->Prop} {s:Shared} {elt target iter:Expr} {ifs:List Expr} {scope:Scope} {pos:Pos} {it acc:Value} {env:Env} (I:Nat->Shared->Prop)
   (turn:∀n s,I n s->wpAny (model prog w) A (pyNext it) (λr s₁=>match r with
     | none=>R (.ok .next) s₁
     | some v=>wpAny (model prog w) A (letOwnedTupleGo target it v) (λ_ s₂=>wpAny (model prog w) A (assign target env v) (λ_ s₃ =>
         wpAny (model prog w) A (forIn ifs true λc r=>if r=true then do let ok <- isTrue c env (eval c env); pure (ForInStep.yield ok) else pure (ForInStep.yield r)) (λok s₄ =>
           if ok=true then wpAny (model prog w) A (eval elt env) (λx s₅ =>
             wpAny (model prog w) A (call (.builtin "list.append") [acc,x]) (λ_ s₆=>∃m,m<n/\I m s₆) (λ_ _=>False) s₅) (λ_ _=>False) s₄
           else ∃m,m<n/\I m s₄) (λ_ _=>False) s₃) (λ_ _=>False) s₂) (λ_ _=>False) s₁) (λ_ _=>False) s)
   (n:Nat) (h:I n s):codeAny (model prog w) A (.compLoop (.ListComp elt [⟨target,iter,ifs,0⟩] scope pos) 0 it acc env) R s:=by
 refine codeAny_loop rfl I (λn s hI=>?_) n h;show wpAny _ A ((compTurn (.ListComp elt [⟨target,iter,ifs,0⟩] scope pos) 0 it acc env).onRaise (λx=>do noteFrame x env; theTreesLotGoes x)) _ _ s;refine wpAny_noted ?_;rw[compTurn_list];refine wpAny_bind (wpAny_standAt (wpAny_bind (z3f (turn n s hI) λr s₁ h₁=>?_)));cases r with
 | none=>exact wpAny_pure h₁
 | some v =>
   refine wpAny_bind (z3f h₁ λ_ s₂ h₂=>wpAny_bind (z3f h₂ λ_ s₃ h₃=>wpAny_bind (z3f h₃ λok s₄ h₄=>?_)));cases ok with
   | false=>exact wpAny_pure ⟨rfl,h₄⟩
   | true =>
     exact wpAny_bind (wpAny_bind (z3f h₄ λx s₅ h₅=>wpAny_bind (z3f h₅ λ_ s₆ h₆=>wpAny_pure (wpAny_pure ⟨rfl,h₆⟩))))
def PIf (X:Cx) (ifs:List Expr) (t:TT):Prop :=
 ∀(pins:List (Addr×Obj)) (s:Shared) (σ:St) (H:Hp) (Q:Bool->Hp->Prop),Inv X pins σ H s->t σ H Q ->
   wpAny (model X.prog X.w) X.A (forIn ifs true λc r=>if r=true then do let ok <- isTrue c X.env (eval c X.env); pure (ForInStep.yield ok) else pure (ForInStep.yield r)) (TP X pins σ Q) X.xe s
def tYes:TT:=λ_ H Q=>Q true H
theorem zfm {X:Cx}:PIf X [] tYes:=λ_ _ _ H _ I h=>wpAny_tests_nil ⟨H,I,h⟩
theorem z18 {X:Cx} {c:Expr} {t:TT} (h:PT X c t):PIf X [c] t:=λpins s σ H Q I hq=>wpAny_tests_one (h pins s σ H Q I hq)
def z5o (js:List (Option Nat)) (g:TG):Prop:=∀(x:V) (σ:St) (H:Hp) (Q:St->Hp->Prop),σ.length=js.length->g x σ H Q->g x σ H λσ' H'=>Q σ' H'/\σ'.length=js.length/\∀(i j:Nat),js[i]?=some (some j)->σ'[i]?=σ[i]?
theorem zdz {js:List (Option Nat)} {i:Nat} (h:js[i]?=some none:=by rfl):z5o js (zql i):=λx σ H Q hl q=>⟨q,by rw[qcw]; exact hl,λk j e=>by rw[qck];intro z;subst z;rw[h] at e;cases e⟩
def zqk (J:It) (g:TG) (tif:TT) (te:TE) (js:List (Option Nat)) (σ:St) (Q:VK) (p:Addr) (H1:Hp):Prop :=
 ∃W:Nat->Nat->List V->Hp->Prop,(∃m,W 0 m [] (upd H1 p (.lst [])))/\∀i m acc H2,W i m acc H2->H2 p=some (.lst acc) /\
   ((J.stop i H2/\Q (.ref p) H2)\/(J.go i H2/\acc.length<sizeLine/\∃N:List V->Hp->Prop,(∀acc' H',N acc' H'->∃m',m'<m/\W (i+1) m' acc' H') /\
     ∀x H',J.yld i H2 x H'->g x (cap js σ) H' λσ2 H3=>tif σ2 H3 λc H4 =>
       if c=true then te σ2 H4 λy H5=>H5 p=some (.lst acc)/\N (acc++[y]) (upd H5 p (.lst (acc++[y]))) else N acc H4))
def z2r (wi:TI) (g:TG) (tif:TT) (te:TE) (js:List (Option Nat)):TE:=λσ H Q=>wi σ H λJ H1=>∀p,H1 p=none->zqk J g tif te js σ Q p H1
theorem zqx {X:Cx} {use:Option (Value->Sem Unit)} {Q':Value->Shared->Prop} {Q:VK} {pins:List (Addr×Obj)} {s:Shared} {σ:St} {H:Hp} {elt target iter:Expr} {ifs:List Expr} {scope:Scope} {pos:Pos} {wi:TI} {g:TG} {tif:TT} {te:TE} {N':List Str} {js:List (Option Nat)} (hok:zq2 scope X.env.scope N' X.N js=true) (hc:X.calm=true)
   (hi:PI X target iter wi) (ho:z5o js g) (hg:∀C s H fp,PG (zew X N' scope C s H fp) target g) (hif:∀C s H fp,PIf (zew X N' scope C s H fp) ifs tif) (he:∀C s H fp,PE (zew X N' scope C s H fp) elt te)
   (hs:∀x,foldedSetIterable iter X.env x=pure x) (I:Inv X pins σ H s) (h:z2r wi g tif te js σ H Q)
   (hfin:∀(s2:Shared) (H2:Hp) (fp:List Addr) (C:Addr),Inv X pins σ H2 s2->(∀b∈fp,zxq X pins H2 b)->s2.heap.objs.size<=C->∀(σ':St) (H':Hp) (s':Shared),Inv (zew X N' scope C s2 H2 fp) [] σ' H' s'->Q (.ref s2.heap.objs.size) H' ->
     compPost (model X.prog X.w) X.A X.xe use Q' (.ref s2.heap.objs.size) C (.ok .next) s') :
   wpAny (model X.prog X.w) X.A (comprehension (.ListComp elt [⟨target,iter,ifs,0⟩] scope pos) scope X.env (firstIterPos [⟨target,iter,ifs,0⟩] pos) (newList []) false (eval iter X.env) use) Q' X.xe s:=by
 have O:=zxl hok;have hfr:∀y∈scope.names,y.2=.free->∃c,X.env.cells.lookup y.1=some c:=λy hy e=>I.ok.has y.1 (O.free y hy e);refine wpAny_comprehension_free (use:=use) rfl hs (zza hfr) O.kind O.names (thn (hi pins s σ H _ I h) λv s1 h1=>thn h1 λitv s2 h2=>?_);obtain⟨it,fp,tn,J,H2,e,I2,T,st2,f2,hq⟩:=h2;subst e;have hf0:H2 s2.heap.objs.size=none:=I2.hok.fresh (qae _);obtain⟨W,⟨m0,w0⟩,turn⟩:=hq _ hf0;refine wpAny_newObj_type (wpAny_newFunctionEnv O.nocell (by intro y hy; simp at hy) (λh₁ hns₁ hsb₁=>?_) O.kind);dsimp only at hns₁ hsb₁ ⊢;generalize hH2:s2.heap.push { cls:=.type "list",dict:=none,data:=.seq ([]:List Value).toArray }=B at hns₁ hsb₁ ⊢;have hC:B.objs.size=s2.heap.objs.size+1:=by rw[<- hH2,qbx]
 have hCle:s2.heap.objs.size<=B.objs.size:=by rw[hC]; exact qcl _
 have old:∀b o,s2.heap.get? b=some o->h₁.get? b=some o:=λb o e=>hsb₁.extBut b o (by rw[hC]; exact qa5 (Nat.lt_succ_of_lt (Heap.lt_size e))) (Heap.get?_push_of_some _ (hH2 ▸ Heap.get?_push_of_some _ e));have hDC:s2.heap.objs.size≠B.objs.size:=by rw[hC]; exact qa5 (qca _)
 have hacc:h₁.get? s2.heap.objs.size=some { cls:=.type "list",dict:=none,data:=.seq ([]:List Value).toArray }:=hsb₁.extBut _ _ hDC (Heap.get?_push_of_some _ (hH2 ▸ qao _ rfl));have fpO:∀b∈fp,b<s2.heap.objs.size:=λb hb=>by obtain⟨o,e,_⟩:=T.obj 0 _ st2 b hb;exact Heap.lt_size e
 have sub:∀x c,(zka scope.names X.env.cells []).lookup x=some c->X.env.cells.lookup x=some c:=zno scope.names [] hfr (λx c e=>by cases e);have hasC:∀x,((relabel scope X.env).names.lookup x=some .cell\/(relabel scope X.env).names.lookup x=some .free)->∃c,(zka scope.names X.env.cells []).lookup x=some c:=λx hx =>
   qcy.mp (znt scope.names [] (zl6 (scope:=scope) (env:=X.env) scope.names x O.nocell hx))
 -- the block's context at its begin
 have IY:∀t,Inv (zew X N' scope B.objs.size s2 H2 fp) [] (cap js σ) (upd H2 s2.heap.objs.size (.lst [])) { s2 with heap:=h₁,toks:=t }:=by
   intro t;refine⟨⟨I2.ok.mod,O.kind,I2.ok.glob,I2.ok.blt,hCle,λx y c h1 h2=>I2.ok.inj x y c (sub x c h1) (sub y c h2),λx hx=>hasC x hx,λx c h=>(by cases h),I2.ok.hd,I2.ok.frames,.inl rfl,λb hb=>⟨qa5 (Nat.lt_of_lt_of_le (fpO b hb) hCle),λx c e=>(f2 b hb).2.2.2.2.1 x c (sub x c e)⟩,
     I2.bs,Nat.le_trans I2.ok.bsz I2.sz,λb o e hb=>?_,λb hb z=>?_,I2.stack,I2.stkFree⟩,rfl,I2.bare,Un.laid old (qae _) hf0,⟨_,hns₁,λi x v e1 e2 e3=>?_⟩,λx c e=>?_,?_,λx c e=>?_,λp hp=>absurd (show p∈([]:List (Addr×Obj)) from hp) (by simp),?_,?_⟩
   . rcases (f2 b hb).2.2.2.1 with z|z
     . exact I2.ok.noex b o e z
     . exact absurd (Nat.lt_of_lt_of_le (Nat.lt_of_lt_of_le (Heap.lt_size e) I2.ok.bsz) z) (qbf _)
   . rcases List.mem_cons.mp (I2.stkSub b z) with q|q
     . exact(f2 b hb).2.1 q
     . exact(f2 b hb).2.2.1 q
   . have e1:N'[i]?=some x:=e1;unfold cap at e2;rw[List.getElem?_map] at e2;cases q:js[i]? with
     | none=>rw[q] at e2; cases e2
     | some o =>
       rw[q] at e2;cases o with
       | none=>cases e2
       | some j =>
         have e2:(σ[j]?).join=some v:=by simpa using e2
         have e2':σ[j]?=some (some v):=by
           cases z:σ[j]? with
           | none=>rw[z] at e2; cases e2
           | some a=>rw[z] at e2; cases a with
             | none=>cases e2
             | some a=>cases e2; rfl
         obtain⟨hN,hk,hsf⟩:=O.slots i j x q e1;obtain⟨m,hn,hl⟩:=I2.loc;obtain⟨u,r,l⟩:=hl j x v hN e2' (.inr hk);refine⟨u,r,?_⟩;have hkX:X.env.kindOf x=some .cell\/X.env.kindOf x=some .free:=hk;rcases l with⟨k,_⟩|⟨k,c,hc',hcell⟩
         . rcases hkX with z|z
           . rw[k] at z; cases z
           . rw[k] at z; cases z
         . have hky:(relabel scope X.env).names.lookup x=some .cell\/(relabel scope X.env).names.lookup x=some .free:=zjx (env:=X.env) scope.names x hsf;obtain⟨c2,hc2⟩:=hasC x hky;have:c2=c:=by have:=sub x c2 hc2;rw[hc'] at this;exact(Option.some.inj this).symm
           subst this;obtain⟨ob,ho,hd⟩:=hcell;exact .inr ⟨hky,c2,hc2,ob,old _ _ ho,hd⟩
   . obtain⟨v,ob,ho,hd⟩:=I2.cell x c (sub x c e);exact⟨v,ob,old _ _ ho,hd⟩
   . show upd H2 s2.heap.objs.size (.lst []) B.objs.size=none;rw[zag (Ne.symm hDC)];exact I2.hok.fresh hCle
   . obtain⟨v,ob,ho,hd⟩:=I2.cell x c (sub x c e);rw[zag (qa5 (Heap.lt_size ho))];exact I2.freeC x c (sub x c e)
   . exact I2.hok.laid old (qae _) ⟨qa4 _,[],0,.nil,hacc⟩
   . unfold cap;rw[List.length_map];exact O.len
 have hcl:(cap js σ).length=js.length:=by unfold cap; rw[List.length_map]
 have fin:∀{σ':St} {H':Hp} {s':Shared},Inv (zew X N' scope B.objs.size s2 H2 fp) [] σ' H' s'->Q (.ref s2.heap.objs.size) H'->compPost (model X.prog X.w) X.A X.xe use Q' (.ref s2.heap.objs.size) B.objs.size (.ok .next) s' :=
   λ{σ' H' s'} J q=>hfin s2 H2 fp B.objs.size I2 f2 hCle σ' H' s' J q
 have loop:∀t,codeAny (model X.prog X.w) X.A (.compLoop (.ListComp elt [⟨target,iter,ifs,0⟩] scope pos) 0 (.ref it) (.ref s2.heap.objs.size) (compEnvC scope (zka scope.names X.env.cells []) B.objs.size X.env))
     (compPost (model X.prog X.w) X.A X.xe use Q' (.ref s2.heap.objs.size) B.objs.size) { s2 with heap:=h₁,toks:=t }:=by
   intro t;have stat:∀{H':Hp},(∀b∈fp,H' b=none)->∀b∈fp,zxq (zew X N' scope B.objs.size s2 H2 fp) [] H' b:=λhn b hb =>
     ⟨hn b hb,qa5 (Nat.lt_of_lt_of_le (fpO b hb) hCle),(IY t).ok.exfs b hb,.inl hb,λx c e=>((IY t).ok.exf b hb).2 x c e,λp hp=>absurd (show p∈([]:List (Addr×Obj)) from hp) (by simp)⟩
   refine zvy (λn s'=>∃i acc H',Inv (zew X N' scope B.objs.size s2 H2 fp) [] (cap js σ) H' s'/\tn i s'.heap/\(∀b∈fp,H' b=none)/\W i n acc H') ?_ m0
     ⟨0,[],_,IY t,T.keep 0 _ _ st2 (λb _ o e=>old b o e),λb hb=>by rw[zag (qa5 (fpO b hb))]; exact(f2 b hb).1,w0⟩
   rintro n s3 ⟨i,acc,H3,I3,st3,fr3,w3⟩;obtain⟨hD,turn⟩:=turn i n acc H3 w3;rcases turn with⟨stop,qn⟩|⟨go,hlen,N,hN,step⟩
   . refine thn (T.done (zew X N' scope B.objs.size s2 H2 fp) rfl rfl rfl hc i [] s3 (cap js σ) H3 (λ_ _=>False) I3 (stat fr3) st3 stop) λr s4 ⟨hr,I4⟩=>?_;subst hr;exact fin I4 qn
   . refine thn (T.item (zew X N' scope B.objs.size s2 H2 fp) rfl rfl rfl hc i [] s3 (cap js σ) H3 (λ_ _=>False) I3 (stat fr3) st3 go) λr s4 ⟨u,hr,h4⟩=>?_;subst hr;refine thn h4 λ_ s5 ⟨x,H5,I5,r5,y5,st5,fr5⟩=>?_;have I5':=I5.pinned (stat fr5) (T.obj _ _ st5);refine thn (hg _ _ _ _ _ s5 (cap js σ) H5 x u _ I5' r5 (ho x (cap js σ) H5 _ hcl (step x H5 y5))) λ_ s6 ⟨σ6,H6,I6,q6,hl6,hk6⟩=>?_;refine thn (hif _ _ _ _ _ s6 σ6 H6 _ I6 q6) λok s7 ⟨H7,I7,q7⟩=>?_;have again:∀{H8:Hp} {acc8:List V} {s8:Shared},Inv (zew X N' scope B.objs.size s2 H2 fp) ([]++zq4 fp s5.heap) σ6 H8 s8->N acc8 H8 ->
         ∃m,m<n/\∃i acc H',Inv (zew X N' scope B.objs.size s2 H2 fp) [] (cap js σ) H' s8/\tn i s8.heap/\(∀b∈fp,H' b=none)/\W i m acc H':=by
       intro H8 acc8 s8 I8 n8;obtain⟨m',hm,w8⟩:=hN acc8 H8 n8;refine⟨m',hm,i+1,acc8,H8,?_,T.keep _ _ _ st5 λb hb o e=>(I8.pin (b,o) (List.mem_append_right _ (List.mem_append_right _ (zja hb e)))).1,λb hb=>?_,w8⟩
       . refine Inv.weak I8.unpinned (by rw[hl6,hcl]) λk v e=>?_;have e':=e;unfold cap at e;rw[List.getElem?_map] at e;cases q:js[k]? with
         | none=>rw[q] at e; cases e
         | some o =>
           cases o with
           | none=>rw[q] at e; cases e
           | some j=>rw[hk6 k j q]; exact e'
       . obtain⟨o,e,d⟩:=T.obj _ _ st5 b hb;exact(I8.pin (b,o) (List.mem_append_right _ (List.mem_append_right _ (zja hb e)))).2.1
     cases ok with
     | false=>exact again I7 q7
     | true =>
       refine thn (he _ _ _ _ _ s7 σ6 H7 _ I7 q7) λy s8 ⟨yv,H8,I8,r8,hD8,q8⟩=>?_;refine thn (zb0 _ s8 σ6 H8 (.ref s2.heap.objs.size) [yv] (.ref s2.heap.objs.size) [y] (λ_ H9=>N (acc++[yv]) H9) I8 rfl (.cons r8 .nil) ⟨_,acc,yv,rfl,rfl,hD8,hlen,q8⟩) λ_ s9 ⟨_,H9,I9,_,q9⟩=>?_;exact again I9 q9
 exact codeAny_compStart_list (loop _) (T.self X.A 0 _ _ _ (T.keep 0 _ _ st2 (λb _ o e=>old b o e)) (loop _))
theorem zh0 {X:Cx} {elt target iter:Expr} {ifs:List Expr} {scope:Scope} {pos:Pos} {wi:TI} {g:TG} {tif:TT} {te:TE} {N':List Str} {js:List (Option Nat)} (hok:zq2 scope X.env.scope N' X.N js=true) (hc:X.calm=true)
   (hi:PI X target iter wi) (ho:z5o js g) (hg:∀C s H fp,PG (zew X N' scope C s H fp) target g) (hif:∀C s H fp,PIf (zew X N' scope C s H fp) ifs tif) (he:∀C s H fp,PE (zew X N' scope C s H fp) elt te)
   (hs:∀x,foldedSetIterable iter X.env x=pure x:=by intro _; rfl):PE X (.ListComp elt [⟨target,iter,ifs,0⟩] scope pos) (z2r wi g tif te js):=by
 intro pins s σ H Q I h;rw[eval_ListComp];refine zqx (use:=none) hok hc hi ho hg hif he hs I h λs2 H2 fp C I2 f2 hCle σ' H' s' J q=>?_;obtain⟨m,hn,_⟩:=J.loc;refine⟨m,hn,λh' hs'=>⟨.ref s2.heap.objs.size,H',?_,rfl,q⟩⟩;refine I2.call' (s':={ s' with heap:=h' }) (ch:=fp) J.os (J.base.sameBut hs' hCle) (λb ob e=>?_) J.bare λb hb=>⟨(f2 b hb).2.2.2.1,(f2 b hb).2.1,(f2 b hb).2.2.2.2.1,(f2 b hb).2.2.2.2.2⟩
 refine(J.hok b ob e).stay (λc w' hc q=>(hs'.2 c ?_).trans q) (λ_ q=>q) λ_ _ q=>q;have hfree:H' C=none:=J.free;intro hcC;rw[hcC] at hc;rcases hc with z|z
 . rw[<- z,hfree] at e; cases e
 . rw[hfree] at z; cases z
theorem zpv {X:Cx} {i:Nat} {y:Str} {elt target iter:Expr} {ifs:List Expr} {scope:Scope} {pos py spos:Pos} {wi:TI} {g:TG} {tif:TT} {te:TE} {N':List Str} {js:List (Option Nat)} (hN:X.N.Nodup) (hi':X.N[i]?=some y) (hx:Loc X.env.scope y)
   (hok:zq2 scope X.env.scope N' X.N js=true) (hc:X.calm=true)
   (hi:PI X target iter wi) (ho:z5o js g) (hg:∀C s H fp,PG (zew X N' scope C s H fp) target g) (hif:∀C s H fp,PIf (zew X N' scope C s H fp) ifs tif) (he:∀C s H fp,PE (zew X N' scope C s H fp) elt te)
   (hsw:swapsWith (.ListComp elt [⟨target,iter,ifs,0⟩] scope pos) (some (.Name y py)) spos.line X.env=pure true)
   (hs:∀x,foldedSetIterable iter X.env x=pure x:=by intro _; rfl) (hf:X.fn y=true\/X.env.scope.names.lookup y=some .local:=by first|exact .inl rfl|exact .inr rfl|assumption) :
   PS X (.Assign [.Name y py] (.ListComp elt [⟨target,iter,ifs,0⟩] scope pos) spos) (z6f (z2r wi g tif te js) (zql i)):=by
 intro pins s σ H D I h;rw[exec_Assign_Name_used _ _ _ _ hsw];refine wpAny_bind (wpAny_standAt (wpAny_bind ?_));show wpAny _ X.A (do let _ <- comprehension (.ListComp elt [⟨target,iter,ifs,0⟩] scope pos) scope X.env _ (newList []) false (eval iter X.env) (some (assign (.Name y py) X.env))) _ _ s;refine wpAny_bind (thn (zqx (use:=some (assign (.Name y py) X.env)) (Q':=λ_ s'=>SP X pins D .next s') hok hc hi ho hg hif he hs I h λs2 H2 fp C I2 f2 hCle σ' H' s' J q=>?_) λ_ s' q=>?_)
 . obtain⟨m,hn,_⟩:=J.loc;have I3:Inv X pins σ H' s':=I2.call' (ch:=fp) J.os J.base J.hok J.bare λb hb=>⟨(f2 b hb).2.2.2.1,(f2 b hb).2.1,(f2 b hb).2.2.2.2.1,(f2 b hb).2.2.2.2.2⟩
   have hCL:C≠X.env.locals:=λz=>absurd (Nat.lt_of_lt_of_le I2.lt hCle) (by rw[z]; exact qbf _);have hCc:∀x c,X.env.cells.lookup x=some c->c≠C:=λx c e z=>by obtain⟨v,ob,ho,_⟩:=I2.cell x c e;exact absurd (Nat.lt_of_lt_of_le (Heap.lt_size ho) hCle) (by rw[z]; exact qbf _)
   have hCp:∀p∈X.pn++pins,p.1≠C:=λp hp z=>by have e:=(I2.pin p hp).1;exact absurd (Nat.lt_of_lt_of_le (Heap.lt_size e) hCle) (by rw[z]; exact qbf _)
   show wpAny _ X.A (assign (.Name y py) X.env (.ref s2.heap.objs.size)) _ _ s';refine wpAny_assign_Name (zqr I3 hN hi' hx (v:=.ref s2.heap.objs.size) rfl (λs'' I4 ⟨a,hsb,ha⟩=>?_) hf);have hna:C≠a:=by
     rcases ha with z|z
     . rw[z]; exact hCL
     . exact(hCc _ _ z).symm
   refine⟨m,hn.sameBut hsb hna,λh' hs'=>⟨_,H',?_,q⟩⟩;exact I4.turned (t':=s''.toks) (h':=h') (it:=C) (λb o hb e=>(hs'.2 b hb).trans e) J.free hCL (.inr (Nat.le_trans I2.sz hCle)) hCc hCp
 . exact wpAny_pure (wpAny_pure q)
section
variable {g:TG} {tif:TT} {te:TE} {js:List (Option Nat)} {σ:St} {H:Hp} {Q:VK}
def z14 (g:TG) (tif:TT) (te:TE) (σ:St) (p:Addr) (acc:List V) (N:List V->Hp->Prop) (x:V) (H:Hp):Prop :=
 g x σ H λσ2 H3=>tif σ2 H3 λc H4=>if c=true then te σ2 H4 λy H5=>H5 p=some (.lst acc)/\N (acc++[y]) (upd H5 p (.lst (acc++[y]))) else N acc H4
theorem zvg {lo:Int} {n:Nat} {p:Addr} (hn:n<=1000000) (Pv:Nat->List V->Hp->Prop) (h0:Pv 0 [] (upd H p (.lst [])))
   (hl:∀i acc H2,i<=n->Pv i acc H2->H2 p=some (.lst acc)/\acc.length<=i)
   (hs:∀i acc H2,i<n->Pv i acc H2->z14 g tif te (cap js σ) p acc (Pv (i+1)) (.int (lo+i)) H2) (hd:∀acc H2,Pv n acc H2->Q (.ref p) H2) :
   zqk (Itr lo n) g tif te js σ Q p H:=by
 refine⟨λi m acc H=>m=n - i/\i<=n/\Pv i acc H,⟨n,by simp,qa4 _,h0⟩,?_⟩;rintro i m acc H2 ⟨rfl,hi,q⟩;obtain⟨q1,q2⟩:=hl i acc H2 hi q;refine⟨q1,?_⟩;by_cases hlt:i<n
 . refine .inr ⟨hlt,?_,Pv (i+1),λacc' H' p'=>⟨n - (i+1),by omega,rfl,hlt,p'⟩,λx H' y=>?_⟩
   . have:(1000000:Nat)<sizeLine:=by decide
     omega
   . obtain⟨e,y⟩:=y;subst e y;exact hs i acc _ hlt q
 . have e:i=n:=by omega
   subst e;exact .inl ⟨qae _,hd acc H2 q⟩
theorem znf {K:W.Frag} {a:Addr} {xs:List V} {p:Addr} (hn:xs.length<=1000000) (Pv:Nat->List V->Hp->Prop) (h0:Pv 0 [] (upd H p (.lst [])))
   (hl:∀i acc H2,i<=xs.length->Pv i acc H2->H2 p=some (.lst acc)/\acc.length<=i/\SqL K H2 a xs)
   (hs:∀i x acc H2,xs[i]?=some x->Pv i acc H2->z14 g tif te (cap js σ) p acc (Pv (i+1)) x H2) (hd:∀acc H2,Pv xs.length acc H2->Q (.ref p) H2) :
   zqk (Itl K a) g tif te js σ Q p H:=by
 refine⟨λi m acc H=>m=xs.length - i/\i<=xs.length/\Pv i acc H,⟨xs.length,by simp,qa4 _,h0⟩,?_⟩;rintro i m acc H2 ⟨rfl,hi,q⟩;obtain⟨q1,q2,q3⟩:=hl i acc H2 hi q;refine⟨q1,?_⟩;by_cases hlt:i<xs.length
 . refine .inr ⟨⟨xs,xs[i],q3,by simp [hlt]⟩,?_,Pv (i+1),λacc' H' p'=>⟨xs.length - (i+1),by omega,rfl,hlt,p'⟩,λx H' y=>?_⟩
   . have:(1000000:Nat)<sizeLine:=by decide
     omega
   . obtain⟨e,y⟩:=y;subst e;exact hs i x acc _ (y xs q3) q
 . have e:i=xs.length:=by omega
   subst e;exact .inl ⟨⟨xs,q3,qae _⟩,hd acc H2 q⟩
theorem ztn {K:W.Frag} {a:Addr} {xs:List V} {p:Addr} (hn:xs.length<=1000000) (Pv:Nat->List V->Hp->Prop) (h0:Pv 0 [] (upd H p (.lst [])))
   (hl:∀i acc H2,i<=xs.length->Pv i acc H2->H2 p=some (.lst acc)/\acc.length<=i/\SqT K H2 a xs)
   (hs:∀i x acc H2,xs[i]?=some x->Pv i acc H2->z14 g tif te (cap js σ) p acc (Pv (i+1)) x H2) (hd:∀acc H2,Pv xs.length acc H2->Q (.ref p) H2) :
   zqk (Itt K a) g tif te js σ Q p H:=by
 refine⟨λi m acc H=>m=xs.length - i/\i<=xs.length/\Pv i acc H,⟨xs.length,by simp,qa4 _,h0⟩,?_⟩;rintro i m acc H2 ⟨rfl,hi,q⟩;obtain⟨q1,q2,q3⟩:=hl i acc H2 hi q;refine⟨q1,?_⟩;by_cases hlt:i<xs.length
 . refine .inr ⟨⟨xs,xs[i],q3,by simp [hlt]⟩,?_,Pv (i+1),λacc' H' p'=>⟨xs.length - (i+1),by omega,rfl,hlt,p'⟩,λx H' y=>?_⟩
   . have:(1000000:Nat)<sizeLine:=by decide
     omega
   . obtain⟨e,y⟩:=y;subst e;exact hs i x acc _ (y xs q3) q
 . have e:i=xs.length:=by omega
   subst e;exact .inl ⟨⟨xs,q3,qae _⟩,hd acc H2 q⟩
end
section
variable {X:Cx}
theorem zu3 {h:Heap} {sl:Addr} {vl vu:Value} {lo hi:Option Int} (hs:h.IsSliceOf sl vl vu .none) (pl:IsPart vl lo) (pu:IsPart vu hi):∃l u:Option (Int×Tok),l.map (·.1)=lo/\u.map (·.1)=hi/\h.IsSlice sl l u none:=by
 obtain⟨o,ho,hc,hd⟩:=hs;cases pl with
 | none =>
   cases pu with
   | none=>exact⟨none,none,rfl,rfl,o,ho,hc,hd⟩
   | int j t=>exact⟨none,some (j,t),rfl,rfl,o,ho,hc,hd⟩
 | int i t =>
   cases pu with
   | none=>exact⟨some (i,t),none,rfl,rfl,o,ho,hc,hd⟩
   | int j t'=>exact⟨some (i,t),some (j,t'),rfl,rfl,o,ho,hc,hd⟩
def rSlS:V->Option Int->Option Int->Hp->VK->Prop:=λx lo hi H Q=>∃z,x=.str z/\z.length<=sizeLine/\Q (.str (Txt.slice z lo hi)) H
theorem z1c:SlR X rSlS:=by
 intro pins s σ H x v vl vu lo hi sl Q I rx hs pl pu h;obtain⟨z,rfl,hz,q⟩:=h;obtain⟨t,rfl⟩:=rx;obtain⟨l,u,rfl,rfl,hsl⟩:=zu3 hs pl pu;refine⟨"str",_,F.slot_str_getitem.lookup,typeIs_str _ _ _,wpAny_getItem_str_slice (l:=l) (u:=u) (st:=none) hsl rfl
   (post_val_or_str ⟨Nat.le_trans (Txt.slice_le z _ _) hz,λt' k=>⟨.str (Txt.slice z (l.map (·.1)) (u.map (·.1))),H,I.tok _,⟨_,rfl⟩,q⟩⟩)⟩
theorem z1q {ys:List Str}:∀{us:List Value},zcw (ys.map V.str) us->StrsAre us ys:=by
 induction ys with
 | nil=>intro us h; cases h; exact .nil
 | cons y r ih =>
   intro us h;cases h with
   | cons r1 h =>
     obtain⟨t,rfl⟩:=r1;exact .cons y t (ih h)
def z5w (K:W.Frag):V->List V->Hp->VK->Prop:=λx xs H Q=>∃sep p ys,x=.str sep/\xs=[.ref p]/\SqL K H p (ys.map V.str)/\(ys.map (·.length)).sum+ys.length * sep.length<=16777216/\Q (.str (Txt.join sep ys)) H
theorem z2x:MtR X "str.join" (z5w X.K):=by intro pins s σ H x xs v us Q I rx r h;obtain⟨sep,p,ys,rfl,rfl,hp,hl,q⟩:=h;obtain⟨t,rfl⟩:=rx;obtain⟨u,rfl,ru⟩:=zp1 r;cases (show u=Value.ref p from ru);obtain⟨its,rv,pl,hz⟩:=I.list hp;exact join_list pl.isList (by simpa using z1q rv) hl λt' k=>⟨.str (Txt.join sep ys),H,I.tok _,⟨_,rfl⟩,q⟩
theorem zd7:zha X (.builtin "isinstance") (λxs H Q=>∃x c t b,xs=[x,.ty c]/\TyOf X.K H x t/\PySem.W.kitOne X.K t (.type c)=some b/\Q (.bl b) H):=by intro pins s σ H xs us Q I r h;obtain⟨x,c,t,b,rfl,ty,hk,q⟩:=h;obtain⟨u,w',rfl,rx,rc⟩:=z1h r;cases (show w'=Value.type c from rc);exact zw1 I rx ty hk λtk=>⟨.bl b,H,I.tok _,rfl,q⟩
end
def z4n:Expr->Option V
 | .Constant (.str x) _ _=>some (.str x)
 | .Constant (.int i) _ _=>some (.int i)
 | .Constant (.bool b) _ _=>some (.bl b)
 | .Constant .none _ _=>some .non
 | _=>none
def zrp:List Expr->Option (List V)
 | []=>some []
 | e :: r=>match z4n e,zrp r with
   | some v,some vs=>some (v :: vs)
   | _,_=>none
theorem z4o {X:Cx} {e:Expr} {v:V} (h:z4n e=some v):PE X e (tC v):=by
 unfold z4n at h;split at h
 . cases h; exact zaz
 . cases h; exact zad
 . cases h; exact zj4
 . cases h; exact zhc
 . cases h
theorem zzw {X:Cx} {e:Expr} {es:List Expr} {v:V} (h:z4n e=some v):starEach (e :: es) X.env=(false,eval e X.env) :: starEach es X.env:=by unfold z4n at h;split at h <;> first|rfl|cases h
theorem zs4 {X:Cx}:∀{es:List Expr} {vs:List V},zrp es=some vs->PA X es (λ_ H Q=>Q vs H)
 | [],vs,h=>by cases h;exact zaf
 | e :: r,vs,h=>by
   unfold zrp at h;split at h
   . rename_i v vs' h1 h2
     cases h;exact zaa (z4o h1) (zs4 h2) (zzw h1)
   . cases h
theorem zaj.tup {K:W.Frag} {H H':Hp} {a:Addr} {xs:List V} (e:zaj H H') (h:SqT K H a xs):SqT K H' a xs:=by
 rcases h with(h|⟨o,h⟩)|h
 . exact .inl (.inl (e _ _ h))
 . exact .inl (.inr ⟨o,e _ _ h⟩)
 . exact .inr h
theorem zaj.new {H:Hp} {p:Addr} {o:HO} (h:H p=none):zaj H (upd H p o):=λb u e=>by rw[zag (za3 e h)];exact e
theorem zaj.upd {H H':Hp} {p:Addr} {o:HO} (e:zaj H H') (h:H p=none):zaj H (upd H' p o):=λb u q=>by rw[zag (za3 q h)];exact e b u q
structure DefOk (K:W.Frag) (mg:Str->Option Value) (name:Str) (st:Stmt) (ps:List Str) (f:Addr) (fd:FuncData):Prop where
 F:Fun K name name st f fd
 g:mg name=some (.ref f)
 b:zjm K fd ps []
section
variable {X:Cx} {k:Nat} {f:Addr} {fd:FuncData} {ps:List Str} {sp:Sp} {x:Str} {st:Stmt} {p pos:Pos} {e:Expr} {es:List Expr} {t:TA}
theorem zbv (D:DefOk X.K X.mg x st ps f fd) (G:FnOk X.prog X.w X.K X.mg X.base CX0 k f fd ps sp) (hr:Room k X.A) (ha:PA X (e :: es) t) (hg:Gl X x:=by rfl)
   (hdb:(x==("__debug__":Str))=false:=by decide) (he:starEach (e :: es) X.env=(false,eval e X.env) :: starEach es X.env:=by rfl) (hpl:(backTo pos (starEach es X.env)).any (·.1)=false:=by rfl) :
   PE X (.Call (.Name x p) (e :: es) [] pos) (z2d sp [] E0 t):=z22 G hr hg D.g D.F.kp D.b .nil zcq ha hdb he hpl
theorem zsb {z:Int} (h:∃t,X.mg x=some (.int z t)) (hg:Gl X x:=by rfl) (hd:(x==("__debug__":Str))=false:=by decide):PE X (.Name x pos) (tC (.int z)):=by obtain⟨t,h⟩:=h;exact zsi hg h ⟨t,rfl⟩ hd
theorem zhb {a:Addr} (h:X.mg x=some (.ref a)) (hg:Gl X x:=by rfl) (hd:(x==("__debug__":Str))=false:=by decide):PE X (.Name x pos) (tC (.ref a)):=zsi hg h rfl hd
end
theorem zbf {K:W.Frag} {mg:Str->Option Value} {h:Heap} {name:Str} {st:Stmt} {ps:List Str} {f:Addr} {oc:Value} {od an:Option Addr} {osl:Array (Option Value)} {kV doc pm cdv ct:Value} (X:K.In h) (G:h.Ns mainGlobals mg)
   (a:PySem.W.nsIn K mainGlobals name=some (some (.ref f))) (l:K.lookup f=some ⟨oc,od,.func (PySem.W.fnOf name name (zdi st) (zaw st) (zai st) .none kV doc pm an cdv ct),osl⟩) (c:PySem.W.codeIn K cdv name=true) (k:PySem.W.keepIn K (.ref f)=true)
   (b:∀(kV doc pm:Value) (an:Option Addr) (cdv ct:Value) (us:List Value),us.length=ps.length->bindArgs (PySem.W.fnOf name name (zdi st) (zaw st) (zai st) .none kV doc pm an cdv ct) ⟨us,[]⟩=pure (ps.zip us)) :
   DefOk K mg name st ps f (PySem.W.fnOf name name (zdi st) (zaw st) (zai st) .none kV doc pm an cdv ct) :=
 ⟨zlz l c k,PySem.W.mg_of X G a,(zlz l c k).binds b⟩
theorem zmr {α:Type} {xs:List α} {i:Int} (h0:0<=i) (h1:i<xs.length):∃v,atI xs i=some v/\v∈xs:=by
 have hi:i.toNat<xs.length:=by omega
 refine⟨xs[i.toNat],?_,qcb hi⟩;have:=zc7 (xs:=xs) (j:=i.toNat) (v:=xs[i.toNat]) (by simp [hi]);have e:((i.toNat:Nat):Int)=i:=by omega
 rwa [e] at this
theorem z2e {ns:List Int} {i:Int} (h0:0<=i) (h1:i<ns.length):∃z,atI (ns.map V.int) i=some (.int z):=by obtain⟨v,e,hv⟩:=zmr (xs:=ns.map V.int) h0 (by rw[List.length_map]; exact h1);obtain⟨z,_,rfl⟩:=List.mem_map.mp hv;exact⟨z,e⟩
theorem zb2 {p:Prop} [Decidable p] (h:decide p=true):p:=of_decide_eq_true h
theorem zhl {c A B:Prop} [Decidable c] (hc:c) (h:A):if c then A else B:=by rw[if_pos hc];exact h
theorem zf7 {c A B:Prop} [Decidable c] (hc:¬ c) (h:B):if c then A else B:=by rw[if_neg hc];exact h
end L2
namespace L2
open PySem
theorem zjs:bootBuiltins "len"=some (.builtin "len"):=by decide +kernel
theorem zbe:bootBuiltins "isinstance"=some (.builtin "isinstance"):=by decide +kernel
theorem z38:bootBuiltins "max"=some (.builtin "max"):=by decide +kernel
theorem zju:bootBuiltins "str"=some (.type "str"):=by decide +kernel
theorem zl3:bootBuiltins "int"=some (.type "int"):=by decide +kernel
theorem z19:bootBuiltins "bool"=some (.type "bool"):=by decide +kernel
theorem zj9:bootBuiltins "list"=some (.type "list"):=by decide +kernel
theorem zmu:bootBuiltins "tuple"=some (.type "tuple"):=by decide +kernel
theorem zvz:bootBuiltins "dict"=some (.type "dict"):=by decide +kernel
theorem zq8:bootBuiltins "enumerate"=some (.type "enumerate"):=by decide +kernel
theorem z4c:bootBuiltins "zip"=some (.type "zip"):=by decide +kernel
theorem z4y {b:Bool} (h:b=false):¬ b=true:=by rw[h]; decide
end L2
namespace L2
open PySem PySem.Spec PyProof.Rows
mutual
def zho (K:W.Frag) (H:Hp):PyData->V->Prop
 | .none,v=>v=.non
 | .bool b,v=>v=.bl b
 | .int i,v=>v=.int i
 | .str x,v=>v=.str x
 | .list ds,v=>∃a xs,v=.ref a/\SqL K H a xs/\zdp K H ds xs
 | .tuple ds,v=>∃a xs,v=.ref a/\SqT K H a xs/\zdp K H ds xs
 | .dict _,_=>False
def zdp (K:W.Frag) (H:Hp):List PyData->List V->Prop
 | [],xs=>xs=[]
 | d :: ds,xs=>∃x r,xs=x :: r/\zho K H d x/\zdp K H ds r
end
section
variable {X:Cx} {pins:List (Addr×Obj)} {σ:St} {H:Hp} {s:Shared}
mutual
theorem zkl (I:Inv X pins σ H s):∀(d:PyData) (v:V) (u:Value),zho X.K H d v->zdg v u->∃as,Reads s.heap u d as
 | .none,v,u,h,r=>by unfold zho at h;subst h;cases (show u=Value.none from r);exact⟨_,.none⟩
 | .bool b,v,u,h,r=>by unfold zho at h;subst h;cases (show u=Value.bool b from r);exact⟨_,.bool b⟩
 | .int i,v,u,h,r=>by
   unfold zho at h;subst h;obtain⟨t,rfl⟩:=(show ∃t,u=Value.int i t from r)
   exact⟨_,.int i t⟩
 | .str x,v,u,h,r=>by
   unfold zho at h;subst h;obtain⟨t,rfl⟩:=(show ∃t,u=Value.str x t from r)
   exact⟨_,.str x t⟩
 | .list ds,v,u,h,r=>by unfold zho at h;obtain⟨a,xs,rfl,hq,hd⟩:=h;cases (show u=Value.ref a from r);obtain⟨its,rv,⟨o,n,ho,hc,_,hdt⟩,_⟩:=I.list hq;obtain⟨as,ra⟩:=zke I ds xs its hd rv;exact⟨_,.list ho hc hdt (by simpa using ra)⟩
 | .tuple ds,v,u,h,r=>by unfold zho at h;obtain⟨a,xs,rfl,hq,hd⟩:=h;cases (show u=Value.ref a from r);obtain⟨its,rv,⟨o,ho,hc,n,hdt⟩,_⟩:=I.tuple hq;obtain⟨as,ra⟩:=zke I ds xs its hd rv;exact⟨_,.tuple ho hc hdt (by simpa using ra)⟩
 | .dict _,v,u,h,r=>by unfold zho at h;exact h.elim
theorem zke (I:Inv X pins σ H s):∀(ds:List PyData) (xs:List V) (us:List Value),zdp X.K H ds xs->zcw xs us->∃as,ReadsAll s.heap us ds as
 | [],xs,us,h,r=>by unfold zdp at h;subst h;cases r;exact⟨_,.nil⟩
 | d :: ds,xs,us,h,r=>by
   unfold zdp at h;obtain⟨x,rest,rfl,hd,hds⟩:=h;cases r with
   | cons r1 r2 =>
     obtain⟨as,ra⟩:=zkl I d _ _ hd r1;obtain⟨bs,rb⟩:=zke I ds _ _ hds r2;exact⟨_,.cons ra rb⟩
end
end
def rEqD (K:W.Frag):R2:=λx y H Q=>∃d e,zho K H d x/\zho K H e y/\SeqAt.shaped d=true/\SeqAt.shaped e=true/\Q (.bl (PyData.eqv d e)) H
def rNeD (K:W.Frag):R2:=λx y H Q=>∃d e,zho K H d x/\zho K H e y/\SeqAt.shaped d=true/\SeqAt.shaped e=true/\Q (.bl (!PyData.eqv d e)) H
theorem z4m {X:Cx} (hu:X.A.units+64<cLine):OpR X (compareOp .Eq) (rEqD X.K):=by intro pins s σ H x y v u Q I rx ry h;obtain⟨d,e,hd,he,sd,se,q⟩:=h;obtain⟨as,ra⟩:=zkl I d x v hd rx;obtain⟨bs,rb⟩:=zkl I e y u he ry;exact SeqAt.compareEq_shaped ra rb sd se hu ⟨.bl _,H,I,rfl,q⟩
theorem ztm {X:Cx} (hu:X.A.units+64<cLine):OpR X (compareOp .NotEq) (rNeD X.K):=by intro pins s σ H x y v u Q I rx ry h;obtain⟨d,e,hd,he,sd,se,q⟩:=h;obtain⟨as,ra⟩:=zkl I d x v hd rx;obtain⟨bs,rb⟩:=zkl I e y u he ry;exact SeqAt.compareNe_shaped ra rb sd se hu ⟨.bl _,H,I,rfl,q⟩
section
variable {prog:Program} {w:World} {A:Around} {E:Value->Shared->Prop}
theorem zra {it t:Addr} {items:Array Value} (hne:t≠it):∀(n i:Nat) (s:Shared) (Q:List Value->Shared->Prop),s.heap.IsListIter it t i->s.heap.IsList t items->i+n<=items.size ->
   (∀h',h'.IsListIter it t (i+n)->Heap.SameBut it s.heap h'->Q ((items.toList.drop i).take n) { s with heap:=h' })->wpAny (model prog w) A (draw (.ref it) n) Q E s
 | 0,i,s,Q,hit,_,_,hQ=>by show wpAny _ _ (pure []) Q E s;exact wpAny_pure (by simpa using hQ s.heap hit (Heap.SameBut.refl ..))
 | n+1,i,s,Q,hit,ht,hle,hQ=>by
   have hlt:i<items.size:=by omega
   show wpAny _ _ (pyNext (.ref it) >>= _) Q E s;refine wpAny_bind (wpAny_pyNext_list_item hit ht (x:=items[i]) (by simp [hlt]) λh₁ hit₁ hs₁=>?_);refine wpAny_bind (wpAny_holding (zra hne n (i+1) _ _ hit₁ (ht.extBut hs₁.extBut hne) (by omega) λh₂ hit₂ hs₂=>wpAny_pure ?_));have hd:items.toList.drop i=items[i] :: items.toList.drop (i+1):=by simp [List.drop_eq_getElem_cons,hlt]
   have:=hQ h₂ (by rw[show i+(n+1)=i+1+n by omega]; exact hit₂) (hs₁.trans hs₂);rw[hd,List.take_succ_cons] at this;exact this
theorem zmn {s:Shared} {t:Addr} {items:Array Value} {Q:List Value->Shared->Prop} (hh:A.handled=none) (ht:s.heap.IsList t items)
   (hQ:∀h',Heap.ExtBut s.heap.objs.size s.heap h'->Q items.toList { s with heap:=h' }):wpAny (model prog w) A (unpackItems (.ref t) items.size none) Q E s:=by
 have hlt:t≠s.heap.objs.size:=by obtain⟨o,ho,_⟩:=ht; exact qa5 (Heap.lt_size ho)
 unfold unpackItems;refine wpAny_bind ?_;unfold notIterableAtAll;refine wpAny_bind (wpAny_specialOf ht.typeIs slot_list_iter.lookup ?_);refine wpAny_pure ?_;simp only[qce,if_false];refine wpAny_bind (wpAny_holding (wpAny_pyIter_list ht ?_));refine wpAny_bind (wpAny_holding (zra hlt items.size 0 _ _ ⟨_,qao _ rfl,rfl,rfl⟩ (ht.push _) (by omega) λh₁ hit₁ hs₁=>?_));have hall:List.take items.size (List.drop 0 items.toList)=items.toList:=by rw[qdi]; exact qbh (by simp)
 rw[hall];rw[if_neg (by simp)];have ht₁:h₁.IsList t items:=(ht.push _).extBut hs₁.extBut hlt;refine wpAny_bind (wpAny_holding (wpAny_pyNext_list_end hh hit₁ ht₁ (by simp) λh₂ he₂=>?_));simp only[Option.isSome_none,qce,if_false];refine wpAny_pure (hQ h₂ λb o hb e=>he₂ b o hb (hs₁.extBut b o hb (Heap.get?_push_of_some _ e)))
end
def gLst (K:W.Frag) (n:Nat) (t:TGs):TG:=λv σ H Q=>∃a xs,v=.ref a/\SqL K H a xs/\xs.length=n/\t xs σ H Q
theorem z35 {X:Cx} {pos:Pos} {es:List Expr} {k:Nat} {t:TGs} {n:Nat} (hc:X.calm=true) (h:PGs X es t)
   (hn:(assignEach es X.env).length=n:=by rfl) (hst:(assignEach es X.env).findIdx? (·.1)=none:=by rfl):PG X (.Tuple es k pos) (gLst X.K n t):=by
 intro pins s σ H v u Q I r hw;obtain⟨a,xs,e1,hq,hl,hw⟩:=hw;subst e1;cases r;obtain⟨its,rv,ht,hz⟩:=I.list hq;have hlen:=rv.length;rw[assign_Tuple];refine wpAny_bind (wpAny_standAt ?_);unfold unpack;rw[hst,hn,<- hl,hlen,show its.length=its.toArray.size by simp];refine wpAny_bind (wpAny_holding (zmn (I.ok.hd hc) ht.isList λh' hx=>?_));have I1:Inv X pins σ H { s with heap:=h' }:=I.kept (t':=s.toks) λb o e=>hx b o (qa5 (Heap.lt_size e)) e;exact h pins _ σ H xs _ Q I1 (by simpa using rv) hw
theorem zzp {X:Cx}:OpR X (binaryOp .FloorDiv) (rI (λ_ j=>0<j/\j<2 ^ 64) λi j=>.int (i / j)):=opI λi j _ _ _ _ _ hc q=>by
 have h1:(0:Int)<j:=hc.1;have h2:j<2 ^ 64:=hc.2;refine floordiv_int (by omega) (by rw[qdq i (by omega)]; exact q) (.inl (PyProof.noPylong_of_log2 ?_));have h0:j.natAbs≠0:=by omega
 refine Nat.lt_trans (m:=64) ((Nat.log2_lt h0).mpr ?_) (by decide);have:(2:Int) ^ 64=((2 ^ 64:Nat):Int):=by decide
 omega
section
variable {κ:Type} [DecidableEq κ]
def zc9 (kvs:List (κ×V)) (k:κ):Option V:=(kvs.find? λkv=>decide (kv.1=k)).map (·.2)
def zbx (kvs:List (κ×V)) (k:κ) (v:V):List (κ×V) :=
 if(kvs.any λkv=>decide (kv.1=k))=true then kvs.map (λkv=>if kv.1=k then(kv.1,v) else kv) else kvs++[(k,v)]
theorem zej {p:κ×V} {r:List (κ×V)} {k:κ} (e:p.1=k):zc9 (p :: r) k=some p.2:=by simp [zc9,qco,e]
theorem zek {p:κ×V} {r:List (κ×V)} {k:κ} (e:¬ p.1=k):zc9 (p :: r) k=zc9 r k:=by simp [zc9,qco,e]
theorem zgr (k:κ):∀kvs:List (κ×V),(kvs.any λkv=>decide (kv.1=k))=(zc9 kvs k).isSome
 | []=>rfl
 | p :: r=>by
   rw[qc4];by_cases e:p.1=k
   . simp only[zej e,decide_eq_true e,Bool.true_or,Option.isSome_some]
   . rw[zek e,decide_eq_false e,Bool.false_or]; exact zgr k r
theorem zt2 (k j:κ) (y:V):∀kvs:List (κ×V),zc9 (kvs.map λkv=>if kv.1=k then(kv.1,y) else kv) j=(zc9 kvs j).map λx=>if j=k then y else x
 | []=>rfl
 | p :: r=>by
   have ih:=zt2 k j y r;rw[qa2];by_cases h:p.1=k
   . rw[if_pos h];by_cases e:p.1=j
     . rw[zej (p:=(p.1,y)) e,zej e,qdb,if_pos (e.symm.trans h)]
     . rw[zek (p:=(p.1,y)) e,zek e,ih]
   . rw[if_neg h];by_cases e:p.1=j
     . rw[zej (p:=p) e,zej e,qdb,if_neg (λz=>h (e.trans z))]
     . rw[zek (p:=p) e,zek e,ih]
theorem zqd (k j:κ) (y:V):∀kvs:List (κ×V),zc9 kvs k=none->zc9 (kvs++[(k,y)]) j=if j=k then some y else zc9 kvs j
 | [],_=>by
   by_cases e:k=j
   . rw[if_pos e.symm]; exact zej (p:=(k,y)) e
   . rw[if_neg (λz=>e z.symm)]; exact zek (p:=(k,y)) e
 | p :: r,hn=>by
   rw[List.cons_append];have hk:¬ p.1=k:=λz=>by rw[zej z] at hn; cases hn
   rw[zek hk] at hn;have ih:=zqd k j y r hn;by_cases e:p.1=j
   . rw[zej e,zej e,if_neg (λz=>hk (e.trans z))]
   . rw[zek e,zek e,ih]
theorem zdm (kvs:List (κ×V)) (k j:κ) (y:V):zc9 (zbx kvs k y) j=if j=k then some y else zc9 kvs j:=by
 unfold zbx;by_cases a:(kvs.any λkv=>decide (kv.1=k))=true
 . rw[if_pos a,zt2];rw[zgr] at a;by_cases e:j=k
   . obtain⟨x,hx⟩:=qcy.mp a;rw[if_pos e,e,hx,qdb,if_pos rfl]
   . rw[if_neg e];cases zc9 kvs j with
     | none=>rfl
     | some x=>rw[qdb,if_neg e]
 . rw[if_neg a];refine zqd k j y kvs ?_;rw[zgr] at a;cases q:zc9 kvs k with
   | none=>rfl
   | some x=>rw[q] at a; exact(a rfl).elim
theorem zbq (kvs:List (κ×V)) (k:κ) (v:V):(zbx kvs k v).length<=kvs.length+1:=by
 unfold zbx;split
 . rw[List.length_map]; omega
 . rw[List.length_append,qa8,qb7]; omega
theorem zuf {kvs:List (κ×V)} {k:κ} (v:V) (h:zc9 kvs k=none):zbx kvs k v=kvs++[(k,v)]:=by unfold zbx;rw[zgr,h];exact if_neg (by decide)
theorem zp6.isSome_eq {o:Option V} {u:Option Value} (r:zp6 o u):o.isSome=u.isSome:=by
 cases o with
 | none=>cases u with
   | none=>rfl
   | some _=>exact(show False from r).elim
 | some _=>cases u with
   | none=>exact(show False from r).elim
   | some _=>rfl
theorem zp6.getD {o:Option V} {u:Option Value} {d:V} {d':Value} (r:zp6 o u) (rd:zdg d d'):zdg (o.getD d) (u.getD d'):=by
 cases o with
 | none=>cases u with
   | none=>exact rd
   | some _=>exact(show False from r).elim
 | some _=>cases u with
   | none=>exact(show False from r).elim
   | some _=>exact r
theorem KV.val {kvs:List (κ×V)} {vs:List (κ×Value)} (r:KV kvs vs) (k:κ):zp6 (zc9 kvs k) (valueAt vs k):=by
 unfold KV at r
 induction r with
 | nil=>exact True.intro
 | @cons p q ps qs h t ih =>
   obtain⟨h1,h2⟩:=h;by_cases e:p.1=k
   . have e':q.1=k:=h1.symm.trans e;have b:valueAt (q :: qs) k=some q.2:=by simp [valueAt,qco,e']
     rw[zej e,b]; exact h2
   . have e':¬ q.1=k:=λz=>e (h1.trans z);have b:valueAt (q :: qs) k=valueAt qs k:=by simp [valueAt,qco,e']
     rw[zek e,b]; exact ih
theorem KV.any {kvs:List (κ×V)} {vs:List (κ×Value)} (r:KV kvs vs) (k:κ):(kvs.any λkv=>decide (kv.1=k))=vs.any λkv=>decide (kv.1=k):=by
 unfold KV at r
 induction r with
 | nil=>rfl
 | cons h t ih=>rw[qc4,qc4,ih,h.1]
theorem KV.repl {kvs:List (κ×V)} {vs:List (κ×Value)} (r:KV kvs vs) (k:κ) {y:V} {u:Value} (ry:zdg y u) :
   KV (kvs.map λkv=>if kv.1=k then(kv.1,y) else kv) (vs.map λkv=>if kv.1=k then(kv.1,u) else kv):=by
 unfold KV at r ⊢
 induction r with
 | nil=>exact .nil
 | @cons p q ps qs h t ih =>
   rw[qa2,qa2];refine .cons ?_ ih;obtain⟨h1,h2⟩:=h;by_cases e:p.1=k
   . rw[if_pos e,if_pos (h1.symm.trans e)]; exact⟨h1,ry⟩
   . rw[if_neg e,if_neg (λz=>e (h1.trans z))]; exact⟨h1,h2⟩
theorem KV.put {kvs:List (κ×V)} {vs:List (κ×Value)} (r:KV kvs vs) (k:κ) {y:V} {u:Value} (ry:zdg y u):KV (zbx kvs k y) (stored vs k u):=by
 unfold zbx stored;rw[r.any k];by_cases e:(vs.any λkv=>decide (kv.1=k))=true
 . rw[if_pos e,if_pos e]; exact r.repl k ry
 . rw[if_neg e,if_neg e]; exact Paired.snoc r ⟨rfl,ry⟩
theorem KV.length {kvs:List (κ×V)} {vs:List (κ×Value)} (r:KV kvs vs):kvs.length=vs.length:=Paired.length r
end
theorem zqp {P:Program} {w:World} {k:Key} {u:Value} (r:zdg (kV k) u):(zbo P w).is k u=true:=by
 cases k with
 | inl i=>obtain⟨t,e⟩:=(show ∃t,u=Value.int i t from r); subst e; exact zs5 P w i t
 | inr x=>obtain⟨t,e⟩:=(show ∃t,u=Value.str x t from r); subst e; exact zs0 P w x t
theorem zqo {P:Program} {w:World}:∀{ks:List Key} {us:List Value},zcw (ks.map kV) us->ItemsAre (zbo P w) ks us
 | [],_,r=>by rw[qcm] at r; cases r; exact .nil
 | k :: ks,_,r=>by
   rw[qa2] at r;cases r with
   | cons h t=>exact .cons (zqp h) (zqo t)
abbrev KT (H:Hp):List (List Key×V)->List (List Key×Addr×Value)->Prop:=Paired λp q=>p.1=q.1/\H q.2.1=some (.tup (p.1.map kV))/\zdg p.2 q.2.2
theorem KT.val {H:Hp} {kvs:List (List Key×V)} {xs:List (List Key×Addr×Value)} (r:KT H kvs xs) (k:List Key):zp6 (zc9 kvs k) ((atKey xs k).map (·.2)):=by
 induction r with
 | nil=>exact True.intro
 | @cons p q ps qs h t ih =>
   obtain⟨h1,_,h2⟩:=h;by_cases e:p.1=k
   . have e':q.1=k:=h1.symm.trans e;have b:atKey (q :: qs) k=some q.2:=by simp [atKey,qco,e']
     rw[zej e,b]; exact h2
   . have e':¬ q.1=k:=λz=>e (h1.trans z);have b:atKey (q :: qs) k=atKey qs k:=by simp [atKey,qco,e']
     rw[zek e,b]; exact ih
theorem KT.repl {H:Hp} {kvs:List (List Key×V)} {xs:List (List Key×Addr×Value)} (r:KT H kvs xs) (k:List Key) {y:V} {u:Value} (ry:zdg y u) :
   KT H (kvs.map λkv=>if kv.1=k then(kv.1,y) else kv) (xs.map (putAt k u)):=by
 induction r with
 | nil=>exact .nil
 | @cons p q ps qs h t ih =>
   rw[qa2,qa2];refine .cons ?_ ih;obtain⟨h1,h2,h3⟩:=h;unfold putAt;by_cases e:p.1=k
   . rw[if_pos e,if_pos (h1.symm.trans e)]; exact⟨h1,h2,ry⟩
   . rw[if_neg e,if_neg (λz=>e (h1.trans z))]; exact⟨h1,h2,h3⟩
theorem KT.put {H:Hp} {kvs:List (List Key×V)} {xs:List (List Key×Addr×Value)} (r:KT H kvs xs) (k:List Key) {b:Addr} {y:V} {u:Value} (hb:H b=some (.tup (k.map kV))) (ry:zdg y u) :
   KT H (zbx kvs k y) (storedH xs k b u):=by
 have e:(kvs.any λkv=>decide (kv.1=k))=(atKey xs k).isSome:=by rw[zgr,(r.val k).isSome_eq,qdt]
 unfold zbx storedH;rw[e];by_cases q:(atKey xs k).isSome=true
 . rw[if_pos q,if_pos q]; exact r.repl k ry
 . rw[if_neg q,if_neg q]; exact Paired.snoc r ⟨rfl,hb,ry⟩
theorem KT.keeps {H H':Hp} {kvs:List (List Key×V)} {xs:List (List Key×Addr×Value)} (r:KT H kvs xs) (ht:∀b ys,H b=some (.tup ys)->H' b=some (.tup ys)):KT H' kvs xs :=
 Paired.mapP r λ_ _ z=>⟨z.1,ht _ _ z.2.1,z.2.2⟩
section
variable {P:Program} {w:World} {H:Hp} {h:Heap} {a:Addr}
theorem z5d {u:HO} (ok:HOk P w H h) (e:Rd H a u):zdu P w H h a u:=e.ok ok
theorem zta {kvs:List (Key×V)} (ok:HOk P w H h) (e:Rd H a (.dK kvs)):kvs.length<=sizeLine/\(a==sysModules)=false/\∃vs,KV kvs vs/\h.DictOf (zbo P w) a vs :=
 show zdu P w H h a (.dK kvs) from z5d ok e
theorem zz9 {kvs:List (Key×V)} (ok:HOk P w H h) (e:H a=some (.dK kvs)):kvs.length<=sizeLine/\(a==sysModules)=false/\∃vs,KV kvs vs/\h.DictOf (zbo P w) a vs:=zta ok (.inl e)
theorem zop {ks:List Key} (ok:HOk P w H h) (e:H a=some (.tup (ks.map kV))):(tupleKind (zbo P w)).is h ks a:=by
 obtain⟨_,its,r,o,h1,h2,n,h3⟩:=(show zdu P w H h a (.tup (ks.map kV)) from ok a _ e)
 exact⟨o,its.toArray,n,h1,h2,h3,by simpa using zqo r⟩
theorem zsu {kvs:List (List Key×V)} (ok:HOk P w H h) (e:Rd H a (.dT kvs)):kvs.length<=sizeLine/\(a==sysModules)=false /\
   ∃xs,KT H kvs xs/\h.DictOfH (tupleKind (zbo P w)) a xs:=by
 obtain⟨z,y,xs,r,o,es,ep,h1,h2,h3,h4,h5⟩:=(show zdu P w H h a (.dT kvs) from z5d ok e)
 refine⟨z,y,xs,r,o,es,ep,h1,h2,h3,h4,λx hx=>?_,h5⟩;have all:∀{l:List (List Key×V)} {m:List (List Key×Addr×Value)},KT H l m->∀x∈m,(tupleKind (zbo P w)).is h x.1 x.2.1:=by
   intro l m q
   induction q with
   | nil=>intro x hx; exact nomatch hx
   | @cons p q ps qs hq t ih =>
     intro x hx;rcases List.mem_cons.mp hx with e|hx
     . subst e;exact zop ok (by rw[<- hq.1]; exact hq.2.1)
     . exact ih x hx
 exact all r x hx
theorem z6j {kvs:List (List Key×V)} (ok:HOk P w H h) (e:H a=some (.dT kvs)):kvs.length<=sizeLine/\(a==sysModules)=false /\
   ∃xs,KT H kvs xs/\h.DictOfH (tupleKind (zbo P w)) a xs:=zsu ok (.inl e)
end
def zok (H:Hp) (a:Addr) (y:V) (r:Option V):Prop :=
 (∃kvs k,Rd H a (.dK kvs)/\y=kV k/\r=zc9 kvs k)\/∃kvs k b,Rd H a (.dT kvs)/\y=.ref b/\H b=some (.tup (k.map kV))/\r=zc9 kvs k
def zn9 (H:Hp) (a:Addr) (y v:V) (H':Hp):Prop :=
 (∃kvs k,H a=some (.dK kvs)/\y=kV k/\kvs.length<sizeLine/\H'=upd H a (.dK (zbx kvs k v))) \/
 ∃kvs k b,H a=some (.dT kvs)/\y=.ref b/\H b=some (.tup (k.map kV))/\kvs.length<sizeLine/\H'=upd H a (.dT (zbx kvs k v))
theorem zok.k {H:Hp} {a:Addr} {kvs:List (Key×V)} {k:Key} (e:H a=some (.dK kvs)):zok H a (kV k) (zc9 kvs k):=.inl ⟨kvs,k,.inl e,rfl,rfl⟩
theorem zn9.k {H:Hp} {a:Addr} {kvs:List (Key×V)} {k:Key} {v:V} (e:H a=some (.dK kvs)) (hl:kvs.length<sizeLine):zn9 H a (kV k) v (upd H a (.dK (zbx kvs k v))):=.inl ⟨kvs,k,e,rfl,hl,rfl⟩
section
variable {X:Cx} {pins:List (Addr×Obj)} {σ:St} {H:Hp} {s:Shared} {a:Addr} {y v:V} {u r:Value} {o:Option V} {A:Around} {E:Value->Shared->Prop}
theorem Inv.big (I:Inv X pins σ H s):sysModules<s.heap.objs.size:=by have h:mainGlobals<s.heap.objs.size:=(I.mod.glob.keeps I.bk).lt;exact Nat.lt_trans (by decide) h
theorem zwe {Q:Value->Shared->Prop} (hu:A.units+1<cLine) (I:Inv X pins σ H s) (g:zok H a y (some v)) (ry:zdg y u) (h:∀w' s',Inv X pins σ H s'->zdg v w'->Q w' s') :
   wpAny (model X.prog X.w) A (getItem (.ref a) u) Q E s:=by
 rcases g with⟨kvs,k,e,ey,l⟩|⟨kvs,k,b,e,ey,eb,l⟩
 . subst ey;obtain⟨z,hd,vs,rel,dd⟩:=zta I.hok e;obtain⟨w',hw,rw'⟩:=zp6.some_of (v:=v) (o:=valueAt vs k) (by rw[l]; exact rel.val k);exact wpAny_getItem_of (zqp ry) dd.mapOf hw (h w' _ (I.tok _) rw')
 . subst ey;cases (show u=Value.ref b from ry);obtain⟨z,hd,xs,rel,dd⟩:=zsu I.hok e;obtain⟨w',hw,rw'⟩:=zp6.some_of (v:=v) (o:=(atKey xs k).map (·.2)) (by rw[l]; exact rel.val k);obtain⟨p,hp,hp2⟩:=qc2.mp hw;refine wpAny_getItem_heap (tupleKind_room_in1 hu) (zop I.hok eb) dd hp ?_;rw[hp2];exact h w' _ (I.tok _) rw'
theorem d_in {Q:Value->Shared->Prop} (hu:A.units+1<cLine) (I:Inv X pins σ H s) (g:zok H a y o) (ry:zdg y u) (h:∀s',Inv X pins σ H s'->Q (.bool o.isSome) s') :
   wpAny (model X.prog X.w) A (compareOp .In u (.ref a)) Q E s:=by
 rcases g with⟨kvs,k,e,ey,l⟩|⟨kvs,k,b,e,ey,eb,l⟩
 . subst ey;obtain⟨z,hd,vs,rel,dd⟩:=zta I.hok e;refine wpAny_in_of (zqp ry) hd dd.mapOf ?_;rw[<- (rel.val k).isSome_eq,<- l];exact h _ (I.tok _)
 . subst ey;cases (show u=Value.ref b from ry);obtain⟨z,hd,xs,rel,dd⟩:=zsu I.hok e;refine wpAny_in_heap (tupleKind_room_in1 hu) (zop I.hok eb) hd dd ?_;have q:=(rel.val k).isSome_eq;rw[qdt] at q;rw[<- q,<- l];exact h _ (I.tok _)
theorem z1t {Q:Value->Shared->Prop} (hu:A.units+1<cLine) (I:Inv X pins σ H s) (g:zok H a y o) (ry:zdg y u) (h:∀s',Inv X pins σ H s'->Q (.bool (!o.isSome)) s') :
   wpAny (model X.prog X.w) A (compareOp .NotIn u (.ref a)) Q E s:=by
 rcases g with⟨kvs,k,e,ey,l⟩|⟨kvs,k,b,e,ey,eb,l⟩
 . subst ey;obtain⟨z,hd,vs,rel,dd⟩:=zta I.hok e;refine wpAny_notIn_of (zqp ry) hd dd.mapOf ?_;rw[<- (rel.val k).isSome_eq,<- l];exact h _ (I.tok _)
 . subst ey;cases (show u=Value.ref b from ry);obtain⟨z,hd,xs,rel,dd⟩:=zsu I.hok e;refine wpAny_notIn_heap (tupleKind_room_in1 hu) (zop I.hok eb) hd dd ?_;have q:=(rel.val k).isSome_eq;rw[qdt] at q;rw[<- q,<- l];exact h _ (I.tok _)
theorem zpo {h':Heap} {t':Nat} {ob:HO} (I:Inv X pins σ H s) (mu:Mut (H a)) (hs:Heap.SameBut a s.heap h') (he:∃q,h'.get? a=some q) (new:zdu X.prog X.w (upd H a ob) h' a ob) :
   Inv X pins σ (upd H a ob) { s with heap:=h',toks:=t' } :=
 I.write (x:=a) (e:=a) mu (.inl rfl) (λb q hb z=>(hs.2 b hb).trans z) he new
theorem zw8 {P:Program} {w:World} {H':Hp} {h':Heap} {kvs:List (Key×V)} {vs:List (Key×Value)} (z:kvs.length<=sizeLine) (hd:(a==sysModules)=false) (rel:KV kvs vs) (dd:h'.DictOf (zbo P w) a vs) :
   zdu P w H' h' a (.dK kvs):=⟨z,hd,vs,rel,dd⟩
theorem zv6 {H':Hp} {Q:Unit->Shared->Prop} (hu:A.units+1<cLine) (I:Inv X pins σ H s) (g:zn9 H a y v H') (ry:zdg y u) (rv:zdg v r) (h:∀s',Inv X pins σ H' s'->Q () s') :
   wpAny (model X.prog X.w) A (setItem (.ref a) u r) Q E s:=by
 rcases g with⟨kvs,k,e,ey,l,eH⟩|⟨kvs,k,b,e,ey,eb,l,eH⟩
 . subst ey eH;obtain⟨z,hd,vs,rel,dd⟩:=zz9 I.hok e;have hz:vs.length<=sizeLine:=by rw[<- rel.length]; exact z
   have hl:(zbx kvs k v).length<=sizeLine:=by have:=zbq kvs k v; omega
   refine wpAny_setItem_pairs (hsz:=hz) (zqp ry) dd λh' dd' hs=>h _ ?_;have he:∃q,h'.get? a=some q:=let ⟨q,_,_,hq,_⟩:=dd'; ⟨q,hq⟩
   exact zpo I (by rw[e]; exact True.intro) hs he (zw8 hl hd (rel.put k rv) dd')
 . subst ey eH;cases (show u=Value.ref b from ry);obtain⟨z,hd,xs,rel,dd⟩:=z6j I.hok e;have hz:xs.length<=sizeLine:=by rw[<- Paired.length rel]; exact z
   have hl:(zbx kvs k v).length<=sizeLine:=by have:=zbq kvs k v; omega
   refine wpAny_setItem_heap (hsz:=hz) (tupleKind_room_in1 hu) (zop I.hok eb) dd λh' dd' hs=>h _ ?_;obtain⟨q,es,ep,hq,h2,h3,h4,_,h5⟩:=dd';refine zpo I (by rw[e]; exact True.intro) hs ⟨q,hq⟩ ⟨hl,hd,_,(rel.put k eb rv).keeps λc ys ec=>?_,q,es,ep,hq,h2,h3,h4,h5⟩;rw[zag (zsa ec e (λz=>nomatch z))];exact ec
end
def NoSl (i:Expr):Prop:=∀ov iv,subscripted i false ov iv=operate [ov,iv] (getItem ov iv)
theorem z2z {prog:Program} {w:World} {A:Around} {E:Value->Shared->Prop} {s:Shared} {env:Env} {value slice:Expr} {pos:Pos} {T id:String} {Q:Value->Shared->Prop}
   (hl:typeLookup (.type T) "__getitem__"=pure (some (.builtin id))) (hs:NoSl slice)
   (h:wpAny (model prog w) A (eval value env) (λo s₁=>wpAny (model prog w) A (eval slice env) (λi s₂=>s₂.TypeIs o T/\wpAny (model prog w) A (getItem o i) Q E s₂) E s₁) E s) :
   wpAny (model prog w) A (eval (.Subscript value slice pos) env) Q E s:=by
 refine Subscript_ (wpAny_mono h (λo s₁ h₁=>wpAny_mono h₁ (λi s₂ h₂=>?_) λ_ _ x=>x) λ_ _ x=>x);obtain⟨hT,h₂⟩:=h₂;unfold subscriptTail;refine wpAny_bind ?_;rw[getitemInPython_of_ne hT.not_modules];refine wpAny_bind (wpAny_specialOf hT hl ?_);have fin:wpAny (model prog w) A (subscripted slice false o i) (λr s₃=>wpAny (model prog w) A (letTemporaryGo value o r >>= λ_=>pure r) Q E s₃) E s₂:=by rw[hs o i];exact wpAny_operating (wpAny_mono h₂ (λr s₃ h₃=>wpAny_bind (wpAny_letTemporaryGo (wpAny_pure h₃))) λ_ _ x=>x)
 first
   | exact wpAny_pure (wpAny_bind fin)
   | exact wpAny_bind (wpAny_pure (wpAny_bind fin))
   | exact wpAny_bind fin
theorem zs7 {X:Cx} {pins:List (Addr×Obj)} {σ:St} {H:Hp} {s:Shared} {a:Addr} {y:V} {o:Option V} (I:Inv X pins σ H s) (g:zok H a y o):s.TypeIs (.ref a) "dict":=by
 rcases g with⟨kvs,k,e,_,_⟩|⟨kvs,k,b,e,_,_,_⟩
 . obtain⟨_,_,vs,_,dd⟩:=zta I.hok e;exact dd.typeIs
 . obtain⟨_,_,xs,_,dd⟩:=zsu I.hok e;exact dd.typeIs
def z50 (td ty:TE):TE:=λσ H Q=>td σ H λx H1=>ty σ H1 λy H2=>∃a v,x=.ref a/\zok H2 a y (some v)/\Q v H2
def tDIn (ty td:TE):TE:=λσ H Q=>ty σ H λy H1=>td σ H1 λx H2=>∃a o,x=.ref a/\zok H2 a y o/\Q (.bl o.isSome) H2
def z2o (ty td:TE):TE:=λσ H Q=>ty σ H λy H1=>td σ H1 λx H2=>∃a o,x=.ref a/\zok H2 a y o/\Q (.bl (!o.isSome)) H2
def z6h (td ty tv:TE):TS:=λD σ H=>tv σ H λv H1=>td σ H1 λx H2=>ty σ H2 λy H3=>∃a H4,x=.ref a/\zn9 H3 a y v H4/\D.nx σ H4
section
variable {X:Cx} {o i e value:Expr} {pos pos' tpos:Pos} {td ty tv:TE}
theorem ze1 (hu:X.A.units+1<cLine) (ho:PE X o td) (hi:PE X i ty) (hs:NoSl i):PE X (.Subscript o i pos) (z50 td ty):=by intro pins s σ H Q I h;refine z2z PySem.F.slot_dict_getitem.lookup hs (thn (ho pins s σ H _ I h) λu s1 ⟨x,H1,I1,rx,q1⟩=>thn (hi pins s1 σ H1 _ I1 q1) λiv s2 ⟨y,H2,I2,ry,a,v,ex,g,q2⟩=>?_);subst ex;obtain rfl:u=Value.ref a:=rx;exact⟨zs7 I2 g,zwe hu I2 g ry λw' s3 I3 rw'=>⟨v,H2,I3,rw',q2⟩⟩
theorem z4i (hu:X.A.units+1<cLine) (hi:PE X i ty) (ho:PE X o td):PC X .In i o (tDIn ty td):=by intro pins s σ H Q I h;refine thn (hi pins s σ H _ I h) λiv s1 ⟨y,H1,I1,ry,q1⟩=>thn (ho pins s1 σ H1 _ I1 q1) λu s2 ⟨x,H2,I2,rx,a,ov,ex,g,q2⟩=>?_;subst ex;obtain rfl:u=Value.ref a:=rx;exact d_in hu I2 g ry λs3 I3=>⟨.bl ov.isSome,H2,I3,rfl,q2⟩
theorem zwu (hu:X.A.units+1<cLine) (hi:PE X i ty) (ho:PE X o td):PC X .NotIn i o (z2o ty td):=by intro pins s σ H Q I h;refine thn (hi pins s σ H _ I h) λiv s1 ⟨y,H1,I1,ry,q1⟩=>thn (ho pins s1 σ H1 _ I1 q1) λu s2 ⟨x,H2,I2,rx,a,ov,ex,g,q2⟩=>?_;subst ex;obtain rfl:u=Value.ref a:=rx;exact z1t hu I2 g ry λs3 I3=>⟨.bl (!ov.isSome),H2,I3,rfl,q2⟩
theorem zdj (hu:X.A.units+1<cLine) (ho:PE X o td) (hi:PE X i ty) (hv:PE X value tv) (hs:swapsWith value (some (.Subscript o i pos')) pos.line X.env=pure false) :
   PS X (.Assign [.Subscript o i pos'] value pos) (z6h td ty tv):=by
 intro pins s σ H D I h;refine wpAny_Assign_Subscript (thn (hv pins s σ H _ I h) λr s1 ⟨v,H1,I1,rv,q1⟩=>thn (ho pins s1 σ H1 _ I1 q1) λu s2 ⟨x,H2,I2,rx,q2⟩=>thn (hi pins s2 σ H2 _ I2 q2) λiv s3 ⟨y,H3,I3,ry,a,H4,ex,g,q3⟩=>?_) hs;subst ex;obtain rfl:u=Value.ref a:=rx;exact zv6 hu I3 g ry rv λs4 I4=>⟨σ,H4,I4,q3⟩
end
theorem zt8 {P:Program} {w:World} {H:Hp} (h:Heap) (hb:sysModules<h.objs.size):zdu P w H (h.push { cls:=.type "dict",data:=.dict #[] }) h.objs.size (.dK []) :=
 ⟨qa4 _,beq_eq_false_iff_ne.mpr (Ne.symm (qa5 hb)),[],.nil,Heap.DictOf.new h⟩
theorem z0g {P:Program} {w:World} {H:Hp} (h:Heap) (hb:sysModules<h.objs.size):zdu P w H (h.push { cls:=.type "dict",data:=.dict #[] }) h.objs.size (.dT []) :=
 ⟨qa4 _,beq_eq_false_iff_ne.mpr (Ne.symm (qa5 hb)),[],.nil,_,#[],0,qao _ rfl,⟨rfl,rfl,rfl⟩,rfl,rfl,qd3⟩
def z42:TE:=λ_ H Q=>∀p,H p=none->Q (.ref p) (upd H p (.dK []))
def z30:TE:=λ_ H Q=>∀p,H p=none->Q (.ref p) (upd H p (.dT []))
section
variable {X:Cx} {pos:Pos}
theorem ze6:PE X (.Dict [] [] pos) z42:=λpins s σ H Q I h =>
 wpAny_Dict_empty ⟨.ref s.heap.objs.size,_,I.laid (a:=s.heap.objs.size) (o:=.dK []) (t':=s.toks) (λ_ _ q=>Heap.get?_push_of_some _ q) (qae _) (zt8 s.heap I.big),rfl,h _ (I.hok.fresh (qae _))⟩
theorem zz1:PE X (.Dict [] [] pos) z30:=λpins s σ H Q I h =>
 wpAny_Dict_empty ⟨.ref s.heap.objs.size,_,I.laid (a:=s.heap.objs.size) (o:=.dT []) (t':=s.toks) (λ_ _ q=>Heap.get?_push_of_some _ q) (qae _) (z0g s.heap I.big),rfl,h _ (I.hok.fresh (qae _))⟩
end
structure M2 (X:Cx) (o:Expr) (m:Str) (apos:Pos) (e f:Expr) (cpos:Pos):Prop where
 base:attributeBase o m X.env (eval o X.env)=eval o X.env
 few:((backTo cpos (starEach [e,f] X.env)).all (λx=>!x.1)&&(backToKw cpos (keywordEach [] X.env)).all (λx=>x.1.isSome)
   && decide (([e,f]:List Expr).length+([]:List Keyword).length+(if([]:List Keyword).isEmpty then 0 else 1)<30))=true
 line:(apos.endLine==cpos.line)=true
 trees:backTo cpos (starEach [e,f] X.env)=[(false,eval e X.env),(false,eval f X.env)]
def IsD (H:Hp) (a:Addr):Prop:=(∃kvs,Rd H a (.dK kvs))\/∃kvs,Rd H a (.dT kvs)
theorem z05 {X:Cx} {pins:List (Addr×Obj)} {σ:St} {H:Hp} {s:Shared} {a:Addr} (I:Inv X pins σ H s) (d:IsD H a) :
   s.TypeIs (.ref a) "dict"/\(∀b,Value.ref a=.ref b->∃ob,s.heap.get? b=some ob/\ob.dict=none)/\(a==sysModules)=false:=by
 rcases d with⟨kvs,e⟩|⟨kvs,e⟩
 . obtain⟨_,hd,vs,_,dd⟩:=zta I.hok e;refine⟨dd.typeIs,λb q=>?_,hd⟩;cases q;obtain⟨ob,_,_,h1,h2,_⟩:=dd;exact⟨ob,h1,h2.2.1⟩
 . obtain⟨_,hd,xs,_,dd⟩:=zsu I.hok e;refine⟨dd.typeIs,λb q=>?_,hd⟩;cases q;obtain⟨ob,_,_,h1,h2,_⟩:=dd;exact⟨ob,h1,h2.2.1⟩
section
variable {X:Cx} {pins:List (Addr×Obj)} {σ:St} {H:Hp} {s:Shared} {a:Addr} {y d:V} {u r:Value} {o:Option V} {A:Around} {E:Value->Shared->Prop}
theorem z3p {Q:Value->Shared->Prop} (hu:A.units+1<cLine) (I:Inv X pins σ H s) (g:zok H a y o) (ry:zdg y u) (rd:zdg d r) (h:∀w' s',Inv X pins σ H s'->zdg (o.getD d) w'->Q w' s') :
   wpAny (model X.prog X.w) A (call (.builtin "dict.get") [.ref a,u,r]) Q E s:=by
 rcases g with⟨kvs,k,e,ey,l⟩|⟨kvs,k,b,e,ey,eb,l⟩
 . subst ey;obtain⟨z,hd,vs,rel,dd⟩:=zta I.hok e;refine call_meetsIn qc6 dd.typeIs PySem.F.entry_dict_get (qd0 _ _ _) (meets_dict_get_default (zbo X.prog X.w) a (zqp ry) hd r) ⟨_,dd.mapOf,h _ _ (I.tok _) ?_⟩;rw[l];exact(rel.val k).getD rd
 . subst ey;cases (show u=Value.ref b from ry);obtain⟨z,hd,xs,rel,dd⟩:=zsu I.hok e;refine call_meetsIn qc6 dd.typeIs PySem.F.entry_dict_get (qd0 _ _ _) (meetsH_dict_get_default (tupleKind (zbo X.prog X.w)) a b hd r) ⟨tupleKind_room_in1 hu,k,xs,zop I.hok eb,dd,h _ _ (I.tok _) ?_⟩;rw[l];exact(rel.val k).getD rd
end
def z3k (td ty tx:TE):TE:=λσ H Q=>td σ H λx H1=>∃a,x=.ref a/\IsD H1 a/\ty σ H1 λy H2=>tx σ H2 λz H3=>∃o,zok H3 a y o/\Q (o.getD z) H3
section
variable {X:Cx} {o e f:Expr} {apos cpos:Pos} {td ty tx:TE}
theorem z0a (hu:X.A.units+1<cLine) (ho:PE X o td) (he:PE X e ty) (hf:PE X f tx) (m:M2 X o "get" apos e f cpos):PE X (.Call (.Attribute o "get" apos) [e,f] [] cpos) (z3k td ty tx):=by
 intro pins s σ H Q I h;refine wpAny_Call_method m.base m.few m.line qc0 qc6 PySem.F.type_dict_get (thn (ho pins s σ H _ I h) λu s1 ⟨x,H1,I1,rx,a,ex,d,q1⟩=>?_);subst ex;obtain rfl:u=Value.ref a:=rx;obtain⟨t1,t2,_⟩:=z05 I1 d;refine⟨t1,t2,?_⟩;rw[m.trees];refine Calls.callWith_builtin rfl (Calls.evalArgs_plain (Calls.spliced_cons (thn (he pins s1 σ H1 _ I1 q1) λiv s2 ⟨y,H2,I2,ry,q2⟩ =>
   Calls.spliced_cons (thn (hf pins s2 σ H2 _ I2 q2) λfv s3 ⟨z,H3,I3,rz,ov,g,q3⟩=>Calls.spliced_nil ?_))))
 exact z3p hu I3 g ry rz λw' s4 I4 rw'=>⟨_,H3,I4,rw',q3⟩
end
end L2
namespace PySem
theorem zq0:typeLookup (.type "list") "keys"=pure none:=by rw[typeLookup_type,builtinLookup_eq_fast]; kernel_rfl
theorem zk0:entryFor table "dict.update.loop"=some Builtin.«dict.update.loop»:=entryFor_of_tree (by kernel_rfl)
theorem zf3:plainId "dict.update.loop"=true:=by decide +kernel
theorem zxz {prog:Program} {w:World} {A:Around} {E:Value->Shared->Prop} {s:Shared} {a:Addr} {o:Obj} {xs:Array Value} {k:Nat} {Q:Option Value->Shared->Prop}
   (hx:s.heap.get? a=some o) (hc:o.cls=.type "list") (hdat:o.data=.seq xs k) (hd:o.dict=none) (hA:A.handled=none)
   (h:∀h' tk,(∀b ob,s.heap.get? b=some ob->h'.get? b=some ob)->Q none { s with heap:=h',toks:=tk }) :
   wpAny (model prog w) A (getAttr? (.ref a) "keys") Q E s:=by
 obtain⟨c,dct,dat,sl⟩:=o;simp only at hc hdat hd;subst hc hdat hd;obtain⟨hp,g,d,tk,os⟩:=s;have hT:∀tk',(⟨hp,g,d,tk',os⟩:Shared).TypeIs (.ref a) "list":=λ_=>⟨_,hx,rfl⟩
 have f1:=sub_AttributeError;have f3:=qcz.lookup;have f4:=qcz.bind (.ref a);have f5:=am_list_getattr_none;unfold getAttr? getAttrBy? getAttrBy
 repeat (any_goals (first|assumption|exact hT _|((with_reducible show wpAny _ _ (call (Value.builtin "list.__getattribute__") _ _) _ _ _); refine call_meets qcz (hT _) am_entry_list_getattribute (F.args_list_getattribute_2 _ _) (meets_getattribute_miss_list a xs k sl "keys" _ zq0 (by decide +kernel) (by decide +kernel)) ⟨hx,hA,λh' tk' e hx'=>?_⟩)|wp_step))
 obtain⟨t',u',he⟩:=hx'.there
 try (show wpAny _ _ (getattributeRaised _ _ _ _ _ _ _) _ _ _)
 try unfold getattributeRaised
 repeat (any_goals (first|assumption|wp_step))
 all_goals (first|exact h _ _ hx'.keeps|trace_state)
end PySem
namespace L2
open PySem PySem.Spec PyProof.Rows
section
variable {X:Cx} {pins:List (Addr×Obj)} {σ:St} {H:Hp}
theorem zit {α β:Type} {F:α->β->Prop}:∀{l:List α} {m:List β},Paired F l m->∀{i:Nat} (h1:i<l.length) (h2:i<m.length),F l[i] m[i]
 | _,_,.cons h _,0,_,_=>h
 | _,_,.cons _ t,i+1,h1,h2=>by have:=zit t (i:=i) (by simpa using h1) (by simpa using h2);simpa using this
theorem zwq {A:Around} {R:Result->Shared->Prop} {p D it:Addr} {ps:List Addr} {kvs:List (Key×V)} (hA:A.handled=none) (hpD:p≠D) (hS:SqL X.K H p (ps.map V.ref)) (hps:Paired (λa (kv:Key×V)=>SqT X.K H a [kV kv.1,kv.2]) ps kvs)
   (hD:H D=none) (hz:kvs.length<=100000) (hit0:it≠D)
   (hR:∀s',Inv X pins σ (upd H D (.dK (kvs.foldl (λacc kv=>zbx acc kv.1 kv.2) []))) s'->R (.ok (.ret .none)) s') :
   ∀(k i:Nat) (t:Tok) (s:Shared),kvs.length - i=k->i<=kvs.length->Inv X pins σ (upd H D (.dK ((kvs.take i).foldl (λacc kv=>zbx acc kv.1 kv.2) []))) s->s.heap.IsListIter it p i ->
     (∀H',H' it=none->zxq X pins H' it)->H it=none->codeAny (model X.prog X.w) A (.builtin "dict.update.loop" ⟨[.ref D,.ref it,.int (i:Nat) t,.none],[]⟩) R s:=by
 have sameD:∀o,zaj H (upd H D o):=λo=>zaj.new hD;have hlen:ps.length=kvs.length:=hps.length;have flen:∀(l:List (Key×V)) (acc:List (Key×V)),(l.foldl (λacc kv=>zbx acc kv.1 kv.2) acc).length<=acc.length+l.length:=by
   intro l
   induction l with
   | nil=>intro acc; simp
   | cons x r ih =>
     intro acc;rw[qa6];have h1:=ih (zbx acc x.1 x.2);have h2:=zbq acc x.1 x.2;simp only[qa8];omega
 have big:(100000:Nat)<sizeLine:=by decide
 intro k
 induction k with
 | zero =>
   intro i t s hk hi I hit hfp hHit;have e:i=kvs.length:=by omega
   subst e;rw[qbs] at I;obtain⟨its,rv,pl,hz'⟩:=I.list ((sameD _).seq hS);obtain⟨f0,f1,f2,f3,f4,f5⟩:=hfp (upd H D (.dK (kvs.foldl (λacc kv=>zbx acc kv.1 kv.2) []))) (by rw[zag hit0]; exact hHit);refine codeAny_builtin zk0 ?_;rw[Around.under_plainId zf3 _];show wpAny _ A.in1 (pyNext (.ref it) >>= _) _ _ s;have hl:=rv.length;rw[List.length_map] at hl;refine wpAny_bind (wpAny_pyNext_list_end hA hit pl.isList (by simp; omega) λh' eb=>?_);have I1:Inv X pins σ (upd H D (.dK (kvs.foldl (λacc kv=>zbx acc kv.1 kv.2) []))) { s with heap:=h' }:=I.turned (t':=s.toks) (λb o hb e=>eb b o hb e) f0 f1 f3 f4 f5;show wpAny _ _ (Builtin.Dict.addKeywords D [] >>= _) _ _ _;exact wpAny_bind (wpAny_pure (wpAny_pure (hR _ I1)))
 | succ k ih =>
   intro i t s hk hi I hit hfp hHit;have hlt:i<kvs.length:=by omega
   obtain⟨its,rv,pl,hz'⟩:=I.list ((sameD _).seq hS);have hpi:(ps.map V.ref)[i]?=some (.ref (ps[i]'(by omega))):=by simp [show i<ps.length by omega]
   obtain⟨u,hu,ru⟩:=rv.get hpi;cases (show u=Value.ref _ from ru);obtain⟨f0,f1,f2,f3,f4,f5⟩:=hfp (upd H D (.dK ((kvs.take i).foldl (λacc kv=>zbx acc kv.1 kv.2) []))) (by rw[zag hit0]; exact hHit);refine codeAny_builtin zk0 ?_;rw[Around.under_plainId zf3 _];show wpAny _ A.in1 (pyNext (.ref it) >>= _) _ _ s;refine wpAny_bind (wpAny_pyNext_list_item hit pl.isList (x:=.ref ps[i]) (by simpa using hu) λh' hit' sb=>?_);have I1:Inv X pins σ (upd H D (.dK ((kvs.take i).foldl (λacc kv=>zbx acc kv.1 kv.2) []))) { s with heap:=h' }:=I.turned (t':=s.toks) (λb o hb e=>(sb.2 b hb).trans e) f0 f1 f3 f4 f5;have hpair:SqT X.K H ps[i] [kV (kvs[i]).1,(kvs[i]).2]:=zit hps (by omega) hlt;obtain⟨its2,rv2,⟨o2,ho2,hc2,n2,hd2⟩,_⟩:=I1.tuple ((sameD _).tup hpair);cases rv2 with
   | cons r1 rr =>
     cases rr with
     | cons r2 rr =>
       cases rr
       rename_i ku vu
       refine wpAny_bind (wpAny_holding (wpAny_bind (wpAny_tryCatch ?_)));show wpAny _ _ (Builtin.Dict.pairItems (.ref ps[i])) _ _ _;unfold Builtin.Dict.pairItems;refine wpAny_bind (wpAny_typeOf (T:="tuple") ⟨o2,ho2,hc2⟩ ?_);rw[if_pos (by decide)];refine wpAny_bind ?_;show wpAny _ _ (load ps[i] >>= _) _ _ _;refine wpAny_bind (wpAny_load ho2 ?_);rw[hd2];refine wpAny_pure (wpAny_pure ?_);show wpAny _ _ (holding [ku,vu] (dictSet D ku vu)) _ _ _;refine wpAny_holding ?_;obtain⟨z,hd,vs,rel,dd⟩:=zz9 I1.hok zab;have hl1:=flen (kvs.take i) [];have hl2:(kvs.take i).length<=kvs.length:=by rw[qay]; omega
       simp only[qb7,Nat.zero_add] at hl1;have hzv:vs.length<=sizeLine:=by rw[<- rel.length]; exact z
       refine wpAny_dictSet_pairs (hsz:=hzv) (zqp r1) dd λh2 dd2 hs2=>?_;have he:∃q,h2.get? D=some q:=let ⟨q,_,_,hq,_⟩:=dd2; ⟨q,hq⟩
       have hl3:(zbx ((kvs.take i).foldl (λacc kv=>zbx acc kv.1 kv.2) []) (kvs[i]).1 (kvs[i]).2).length<=sizeLine:=by have:=zbq ((kvs.take i).foldl (λacc kv=>zbx acc kv.1 kv.2) []) (kvs[i]).1 (kvs[i]).2;omega
       have I2:=zpo (t':=({ s with heap:=h' }:Shared).toks+1) I1 (by rw[zab]; exact True.intro) hs2 he (zw8 hl3 hd (rel.put (kvs[i]).1 r2) dd2);rw[znq] at I2;have e3:(kvs.take (i+1)).foldl (λacc kv=>zbx acc kv.1 kv.2) []=zbx ((kvs.take i).foldl (λacc kv=>zbx acc kv.1 kv.2) []) (kvs[i]).1 (kvs[i]).2:=by rw[qbg,qba];simp [hlt]
       rw[<- e3] at I2;have hit2:h2.IsListIter it p (i+1):=by obtain⟨oi,hoi,ri⟩:=hit';exact⟨oi,(hs2.2 it hit0).trans hoi,ri⟩
       refine wpAny_pure ⟨plainId_quiet zf3 _,?_⟩;have:=ih (i+1) 0 _ (by omega) (by omega) I2 hit2 hfp hHit;exact this
end
section
variable {X:Cx}
def z15 (K:W.Frag):List V->Hp->VK->Prop:=λxs H Q=>∃(p:Addr) (ps:List Addr) (kvs:List (Key×V)),xs=[.ref p]/\SqL K H p (ps.map V.ref)/\Paired (λa (kv:Key×V)=>SqT K H a [kV kv.1,kv.2]) ps kvs/\kvs.length<=100000 /\
 ∀d,H d=none->Q (.ref d) (upd H d (.dK (kvs.foldl (λacc kv=>zbx acc kv.1 kv.2) [])))
theorem zl9 (hc:X.calm=true):zha X (.type "dict") (z15 X.K):=by
 intro pins s σ H xs us Q I r h;obtain⟨p,ps,kvs,rfl,hS,hps,hz,q⟩:=h;obtain⟨u,rfl,ru⟩:=zp1 r;cases (show u=Value.ref p from ru);have hA:=I.ok.hd hc;have hD:H s.heap.objs.size=none:=I.hok.fresh (qae _);obtain⟨its,rv,pl,_⟩:=I.list hS;have hplt:p<s.heap.objs.size:=pl.lt;have I0:Inv X pins σ (upd H s.heap.objs.size (.dK [])) { s with heap:=s.heap.push { cls:=.type "dict",data:=.dict #[] } } :=
   I.laid (a:=s.heap.objs.size) (o:=.dK []) (t':=s.toks) (λ_ _ q=>Heap.get?_push_of_some _ q) (qae _) (zt8 s.heap I.big)
 refine callType_codes (Q₁:=λobj s₁=>obj=.ref s.heap.objs.size/\s₁={ s with heap:=s.heap.push { cls:=.type "dict",data:=.dict #[] } }) PySem.F.kt_called_dict (PySem.F.kt_typeCall_dict_1 _) PySem.F.entry_dict_init (kt_code_dict_new _ ⟨rfl,rfl⟩) ?_;rintro obj s₁ ⟨rfl,rfl⟩;have hnew:(s.heap.push { cls:=.type "dict",data:=.dict #[] }).DictOf (zbo X.prog X.w) s.heap.objs.size []:=Heap.DictOf.new s.heap;refine⟨hnew.typeIs,PySem.F.args_dict_init_2 _ _,?_⟩;unfold Builtin.«dict.__init__»;refine wpAny_bind ?_;unfold Builtin.Dict.selfAndRest;refine wpAny_bind (wpAny_notOrdered_dict hnew.typeIs ?_);show wpAny _ _ (pure (s.heap.objs.size,[Value.ref p])) _ _ _;refine wpAny_pure ?_;show wpAny _ _ (Builtin.Dict.updateFrom "dict.__init__" s.heap.objs.size (.ref p) [] .none) _ _ _;unfold Builtin.Dict.updateFrom;obtain⟨o,n,ho,hcl,hdi,hda⟩:=pl;have ho1:(s.heap.push { cls:=.type "dict",data:=.dict #[] }).get? p=some o:=Heap.get?_push_of_some _ ho;refine wpAny_bind (wpAny_typeOf (T:="list") ⟨o,ho1,hcl⟩ ?_);rw[if_pos (by decide)];refine wpAny_bind (zxz (s:={ s with heap:=s.heap.push { cls:=.type "dict",data:=.dict #[] } }) ho1 hcl hda hdi hA λh' tk hk=>?_);have I1:Inv X pins σ (upd H s.heap.objs.size (.dK [])) { s with heap:=h',toks:=tk }:=I0.kept hk;rw[if_pos (by rfl)];refine wpAny_bind (wpAny_rule ?_);have ho2:h'.get? p=some o:=hk _ _ ho1;refine wpAny_bind (wpAny_pyIter_list (s:={ s with heap:=h',toks:=tk }) (items:=its.toArray) ⟨o,ho2,hcl,n,hda⟩ ?_);have I2:Inv X pins σ (upd H s.heap.objs.size (.dK [])) { s with heap:=h'.push { cls:=.type "list_iterator",data:=.fields #[.ref p,.int 0 0] },toks:=tk }:=I1.kept (t':=tk) λb o e=>Heap.get?_push_of_some _ e;have hsz:s.heap.objs.size<h'.objs.size:=by have e:(s.heap.push { cls:=.type "dict",data:=.dict #[] }).get? s.heap.objs.size=some { cls:=.type "dict",data:=.dict #[] }:=qao _ rfl;exact Heap.lt_size (hk _ _ e)
 have hit0:h'.objs.size≠s.heap.objs.size:=qcd hsz;have hHit:H h'.objs.size=none:=I.hok.fresh (qb1 hsz);refine wpAny_pure ⟨plainId_quiet zf3 _,?_⟩;refine zwq (A:=X.A.in1) (it:=h'.objs.size) hA (qa5 hplt) hS hps hD hz hit0 (λs' J=>⟨rfl,.ref s.heap.objs.size,_,J,rfl,q _ hD⟩) kvs.length 0 0 _ (by omega) (qa4 _) (by simpa using I2) ⟨_,qao _ rfl,rfl,rfl⟩ (λH' hn=>I1.fpOk (qae _) hn) hHit
theorem zxg:∀(xs:List V) (us:List Value),xs.length=us.length->(∀(i:Nat) (x:V) (u:Value),xs[i]?=some x->us[i]?=some u->zdg x u)->zcw xs us
 | [],[],_,_=>.nil
 | [],_ :: _,h,_=>by simp at h
 | _ :: _,[],h,_=>by simp at h
 | x :: xs,u :: us,h,k=>.cons (k 0 x u rfl rfl) (zxg xs us (by simpa using h) λi y v e1 e2=>k (i+1) y v (by simpa using e1) (by simpa using e2))
theorem zxc {P:Program} {w:World} {k:Key} {v:Value} (h:(zbo P w).is k v=true):zdg (kV k) v:=by
 rcases zc0 (show zsr k v=true from h) with⟨i,t,rfl,rfl⟩|⟨x,t,rfl,rfl⟩
 . exact⟨t,rfl⟩
 . exact⟨t,rfl⟩
theorem zxs {P:Program} {w:World} {kvs:List (Key×V)} {vs:List (Key×Value)} {acc:Array Value} (rel:KV kvs vs) (h:ItemsOf (λi v=>∃k x,vs[i]?=some (k,x)/\(zbo P w).is k v=true) acc vs.length) :
   zcw (kvs.map λkv=>kV kv.1) acc.toList:=by
 have hl:=rel.length;have el:acc.toList.length=acc.size:=by simp
 have hlen:(kvs.map λkv=>kV kv.1).length=acc.toList.length:=by rw[List.length_map,el,h.1]; exact hl
 refine zxg _ _ hlen λi x u e1 e2=>?_;obtain⟨k,y,e3,e4⟩:=h.2 i u (by simpa using e2);rw[List.getElem?_map] at e1;cases e5:kvs[i]? with
 | none=>rw[e5] at e1; cases e1
 | some kv =>
   rw[e5] at e1;have e1:kV kv.1=x:=by simpa using e1
   have e6:kv.1=k:=by
     have h1:i<kvs.length:=(List.getElem?_eq_some_iff.mp e5).1;have h2:i<vs.length:=by omega
     have e7:=zit rel h1 h2;have e8:kvs[i]=kv:=by have:=List.getElem?_eq_some_iff.mp e5; exact this.2
     have e9:vs[i]=(k,y):=by have:=List.getElem?_eq_some_iff.mp e3; exact this.2
     rw[e8,e9] at e7;exact e7.1
   rw[<- e1,e6];exact zxc e4
theorem zrc (hc:X.calm=true):zha X (.type "list") (λxs H Q=>∃d kvs,xs=[.ref d]/\H d=some (.dK kvs)/\∀l,H l=none->Q (.ref l) (upd H l (.lst (kvs.map λkv=>kV kv.1)))):=by intro pins s σ H xs us Q I r h;obtain⟨d,kvs,rfl,hd,q⟩:=h;obtain⟨u,rfl,ru⟩:=zp1 r;cases (show u=Value.ref d from ru);obtain⟨z,lo,vs,rel,dd⟩:=zz9 I.hok hd;have hlen:=rel.length;obtain⟨ep,dat⟩:∃ep,s.heap.DictAt (zbo X.prog X.w) d vs ep:=dd.dictAt;refine PySem.W.kdl_call (PySem.W.kdl_dict (knd:=zbo X.prog X.w) (kvs:=vs) (ep:=ep) lo) (I.ok.hd hc) dat (by rw[<- hlen]; exact z) λh' tk acc' c' hk hS hit=>?_;have hv:zcw (kvs.map λkv=>kV kv.1) acc'.toList:=zxs rel hit;refine⟨.ref s.heap.objs.size,_,I.laid (a:=s.heap.objs.size) (o:=.lst (kvs.map λkv=>kV kv.1)) hk (qae _) ⟨by rw[List.length_map]; exact z,acc'.toList,c',hv,by simpa using hS⟩,rfl,q _ (I.hok.fresh (qae _))⟩
end
end L2
namespace L2
open PySem PySem.Spec PyProof.Rows PySem.W
section
variable {prog:Program} {w:World} {A:Around} {E:Value->Shared->Prop} {s:Shared} {δ:Type} {R:δ->Value->Prop} {a:Addr} {D:List (Str×δ)} {k:Str} {tk:Tok} {d:δ}
theorem zo0 (T:KTD.TabOf R s.heap a D):s.TypeIs (.ref a) "dict":=let ⟨_,o,_,_,ho,hc,_⟩:=T; ⟨o,ho,hc.1⟩
theorem zs8 {Q:Value->Shared->Prop} (T:KTD.TabOf R s.heap a D) (hd:KTD.datumAt k D=some d) (h:∀v,R d v->Q v { s with toks:=s.toks+1 }) :
   wpAny (model prog w) A (getItem (.ref a) (.str k tk)) Q E s:=by
 have ty:=zo0 T;obtain⟨_,o,es,ep,ho,hc,hdt,hr⟩:=T;unfold getItem
 try with_reducible refine wpAny_holding ?_
 refine wpAny_bind (wpAny_sequenceKey ty (by decide) ?_);refine wpAny_bind (wpAny_callSpecial?_slot (name:=Str.ofString "__getitem__") ty slot_dict_getitem
   (wpAny_call_entry slot_dict_getitem ty entry_dict_getitem ?_ (args_dict_getitem _ _)))
 show wpAny _ _ (dictGet a (.str k tk) >>= _) _ _ s;refine wpAny_bind ?_;unfold dictGet
 try with_reducible refine wpAny_holding ?_
 refine wpAny_bind (wpAny_pyHash_str (wpAny_bind (KTD.kt_dictFind_strs (s:={ s with toks:=s.toks+1 }) ho hdt (by obtain⟨l⟩:=es; simpa using hr.exact) ?_)));have hq:∃v,findBy (λk v=>v.isStr k) es k=some v/\R d v:=by
   have hf:findBy (λk v=>v.isStr k) es k=(es.toList.find? λe=>e.key.isStr k).map (·.val):=by obtain⟨l⟩:=es;simp [findBy]
   rw[hf];exact hr.find_some hd
 obtain⟨v,hv,hR⟩:=hq;rw[findBy_of_findIdx?] at hv;cases hi:es.findIdx? λe=>e.key.isStr k with
 | none=>rw[hi] at hv; cases hv
 | some i =>
   rw[hi] at hv;have hv:es[i]?.map (·.val)=some v:=hv;refine wpAny_bind (wpAny_dictEntries (s:={ s with toks:=s.toks+1 }) ho hdt (wpAny_pure ?_));show wpAny _ _ _ _ _ _;rw[hv];exact wpAny_pure ⟨v,rfl,wpAny_pure (h v hR)⟩
end
def z5z (K:W.Frag) (d:Addr) (rows:List (Str×List V)):Prop :=
 ∃(o:Obj) (es:Array DictEntry) (ep:Nat),K.lookup d=some o/\(d==sysModules)=false/\o.ExactDict/\o.data=.dict es ep/\KTD.Rows (λ(xs:List V) v=>∃a,v=.ref a/\∀H:Hp,SqT K H a xs) es.toList rows
def z5g (K:W.Frag):R2:=λx y H Q=>∃d rows k xs,x=.ref d/\y=.str k/\z5z K d rows/\KTD.datumAt k rows=some xs/\∀a,SqT K H a xs->Q (.ref a) H
theorem z4s {X:Cx}:IxR X (z5g X.K):=by
 intro value slice pins s σ H x y v u Q I rx ry h hs;obtain⟨d,rows,k,xs,rfl,rfl,⟨o,es,ep,ho,lo,hc,hd,hr⟩,hk,q⟩:=h;cases (show v=Value.ref d from rx);obtain⟨t,rfl⟩:=(show ∃t,u=Value.str k t from ry)
 have T:KTD.TabOf (λ(xs:List V) v=>∃a,v=.ref a/\∀H:Hp,SqT X.K H a xs) s.heap d rows:=⟨lo,o,es,ep,I.kIn d o ho,hc,hd,hr⟩
 refine tail_any (zo0 T) slot_dict_getitem.lookup (zs8 T hk λv hv=>?_) hs;obtain⟨a,rfl,hsq⟩:=hv;exact⟨.ref a,H,I.tok _,rfl,q a (hsq H)⟩
end L2
namespace L2
open PySem PySem.Spec PyProof.Rows
def zsy:V->Value->Bool
 | .non,.none=>true
 | .bl b,.bool c=>b==c
 | .int i,.int j _=>i==j
 | .str x,.str y _=>x==y
 | _,_=>false
theorem zsn:∀{x:V} {v:Value},zsy x v=true->zdg x v:=by
 intro x v h;unfold zsy at h;split at h
 . rfl
 . obtain rfl:=beq_iff_eq.mp h; rfl
 . obtain rfl:=beq_iff_eq.mp h; exact⟨_,rfl⟩
 . obtain rfl:=beq_iff_eq.mp h; exact⟨_,rfl⟩
 . cases h
def zjd:List V->List Value->Bool
 | [],[]=>true
 | x :: xs,v :: vs=>zsy x v&&zjd xs vs
 | _,_=>false
theorem zmb:∀{xs:List V} {vs:List Value},zjd xs vs=true->zcw xs vs
 | [],[],_=>.nil
 | x :: xs,v :: vs,h=>by simp only[zjd,qa3] at h;exact .cons (zsn h.1) (zmb h.2)
 | [],_ :: _,h=>by simp [zjd] at h
 | _ :: _,[],h=>by simp [zjd] at h
def zpu (K:W.Frag) (xs:List V) (v:Value):Bool:=match v with
 | .ref a=>match K.lookup a with
   | some o=>o.cls==.type "tuple"&&(match o.data with | .seq its _=>decide (its.size<=sizeLine)&&zjd xs its.toList|_=>false)
   | none=>false
 | _=>false
theorem ztc {K:W.Frag} (xs:List V) (v:Value) (h:zpu K xs v=true):∃a,v=.ref a/\∀H:Hp,SqT K H a xs:=by
 unfold zpu at h;split at h
 . rename_i a
   split at h
   . rename_i o ho
     rw[qa3] at h;obtain⟨h1,h2⟩:=h;split at h2
     . rename_i its n hd
       rw[qa3] at h2;exact⟨a,rfl,λH=>.inr ⟨o,its,n,ho,beq_iff_eq.mp h1,hd,of_decide_eq_true h2.1,zmb h2.2⟩⟩
     . cases h2
   . cases h
 . cases h
theorem zqc {K:W.Frag} {d:Addr} {rows:List (Str×List V)} (h:KTD.tabLook (zpu K) (λa=>K.lookup a) d rows=true):z5z K d rows:=by
 simp only[KTD.tabLook,qa3] at h;obtain⟨h0,hl⟩:=h;split at hl
 . rename_i o ho
   simp only[qa3] at hl;obtain⟨⟨⟨e1,e2⟩,e3⟩,e4⟩:=hl;split at e4
   . rename_i es ep hd
     exact⟨o,es,ep,ho,by simpa using h0,⟨beq_iff_eq.mp e1,by simpa using e2,by simpa using e3⟩,hd,KTD.rows_of_look ztc e4⟩
   . cases e4
 . cases hl
end L2
namespace L2
open PySem
def z0y:Expr->Option (List V)
 | .List es _=>zrp es
 | _=>none
def z03:Expr->Option (List V)
 | .Tuple es _ _=>zrp es
 | _=>none
theorem z1u {X:Cx} {e:Expr} {vs:List V} (h:z0y e=some vs):PE X e (tLst λ_ H Q=>Q vs H):=by
 unfold z0y at h;split at h
 . exact zc1 (zs4 h)
 . cases h
theorem zw7 {X:Cx} {e:Expr} {vs:List V} (h:z03 e=some vs):PE X e (tTup λ_ H Q=>Q vs H):=by
 unfold z03 at h;split at h
 . exact zcc (zs4 h)
 . cases h
end L2
namespace L2
open PySem PySem.Spec PyProof.Rows
section
variable {prog:Program} {w:World} {A:Around} {E:Value->Shared->Prop} {s:Shared}
theorem gx_nextOf_tup {it t:Addr} {i:Nat} {items:Array Value} {x:Value} {Q:Value->Shared->Prop} (hit:s.heap.IsTupleIter it t i) (ht:s.heap.IsTuple t items) (hx:items[i]?=some x)
   (hQ:∀h',h'.IsTupleIter it t (i+1)->Heap.SameBut it s.heap h'->Q x { s with heap:=h' }):wpAny (model prog w) A (Builtin.SmallTypes.nextOf (.ref it)) Q E s:=by
 obtain⟨⟨o,ho,hc,hd⟩,⟨ol,hol,_,nl,hdl⟩⟩:=(⟨id hit,ht⟩:_/\_)
 unfold Builtin.SmallTypes.nextOf; refine wpAny_bind (wpAny_callSpecial?_slot (name:=Str.ofString "__next__") hit.typeIs qcg (wpAny_call_entry qcg hit.typeIs qdm ?_ (qdj _)));show wpAny (model prog w) _ (field (.ref it) 0 >>= _) _ _ s; refine wpAny_bind (wpAny_field ho hd (x:=.ref t) rfl ?_);show wpAny (model prog w) _ (if(Value.ref t==Value.none)=true then _ else _) _ _ s; rw[if_neg (by exact qam)];show wpAny (model prog w) _ (field (.ref it) 1 >>= _) _ _ s; refine wpAny_bind (wpAny_field ho hd (x:=.int i 0) rfl ?_);show wpAny (model prog w) _ (seqItems? (.ref t) >>= _) _ _ s; refine wpAny_bind (wpAny_seqItems hol hdl ?_); simp only[qa9,hx];refine wpAny_bind (wpAny_setField ho hd (by simp) (wpAny_pure ⟨x,rfl,wpAny_pure (hQ _ ⟨_,qb4 _ ho (Obj.isFreed_of_fields (Obj.data_mapFields hd _)),(Obj.cls_mapFields ..).trans hc,by rw[Obj.data_mapFields hd]; simp [rawInt]⟩ (Heap.SameBut.update ..))⟩))
theorem gx_nextOf_tup_end {it t:Addr} {i:Nat} {items:Array Value} {Q:Value->Shared->Prop} (hh:A.handled=none) (hit:s.heap.IsTupleIter it t i) (ht:s.heap.IsTuple t items) (hx:items[i]?=none)
   (hE:∀h' e,Heap.ExtBut it s.heap h'->(∃o,h'.get? e=some o/\o.cls=.type "StopIteration")->E (.ref e) { s with heap:=h' }):wpAny (model prog w) A (Builtin.SmallTypes.nextOf (.ref it)) Q E s:=by
 obtain⟨⟨o,ho,hc,hd⟩,⟨ol,hol,_,nl,hdl⟩⟩:=(⟨id hit,ht⟩:_/\_)
 unfold Builtin.SmallTypes.nextOf; refine wpAny_bind (wpAny_callSpecial?_slot (name:=Str.ofString "__next__") hit.typeIs qcg (wpAny_call_entry qcg hit.typeIs qdm ?_ (qdj _)));show wpAny (model prog w) _ (field (.ref it) 0 >>= _) _ _ s; refine wpAny_bind (wpAny_field ho hd (x:=.ref t) rfl ?_);show wpAny (model prog w) _ (if(Value.ref t==Value.none)=true then _ else _) _ _ s; rw[if_neg (by exact qam)];show wpAny (model prog w) _ (field (.ref it) 1 >>= _) _ _ s; refine wpAny_bind (wpAny_field ho hd (x:=.int i 0) rfl ?_);show wpAny (model prog w) _ (seqItems? (.ref t) >>= _) _ _ s; refine wpAny_bind (wpAny_seqItems hol hdl ?_); simp only[qa9,hx];refine wpAny_bind (wpAny_rule (wpAny_bind (wpAny_setField ho hd (by simp) ?_))); show wpAny (model prog w) _ (newExc (.type "StopIteration") [] >>= _) _ _ _;refine wpAny_bind ?_; simp only[newExc,newTuple]; refine wpAny_bind (wpAny_newObj_type ?_ (by size_fits));refine wpAny_bind (m:=firstArgMember _ _) (wpAny_of_eq (a:=Value.none) (by first|rfl|(simp only[firstArgMember]; rfl)) (wpAny_newObj_type ?_ (by size_fits)));simp only[raiseNew]; refine wpAny_bind (wpAny_handled ?_); first|rw[show A.in1.handled=none from hh] | rw[hh]
 refine wpAny_bind (wpAny_pure (wpAny_throw (hE _ _ (((Heap.SameBut.update ..).extBut.push _).push _) ⟨_,qao _ rfl,rfl⟩)))
end
theorem zl4 {prog:Program} {w:World} {A:Around} (hh:A.handled=none) (it t:Addr) (hne:t≠it) (items:Array Value) :
   Draws prog w A it [it,t] items.size (λi v=>items[i]?=some v) (λi h=>h.IsTupleIter it t i/\h.IsTuple t items) where
 live:=λ_ _ ⟨⟨o,ho,_⟩,_⟩=>⟨o,ho⟩
 frame:=λ_ _ _ ⟨⟨o,ho,r⟩,⟨o2,ho2,r2⟩⟩ hk=>⟨⟨o,hk it (by simp) o ho,r⟩,⟨o2,hk t (by simp) o2 ho2,r2⟩⟩
 item:=λi s Q E hi ⟨s1,s2⟩ hQ=>gx_nextOf_tup s1 s2 (x:=items[i]) (by simp [hi]) λh' hit' hs'=>hQ _ h' s.toks (by simp [hi]) ⟨hit',s2.extBut hs'.extBut hne⟩ hs'
 done:=λs Q E ⟨s1,s2⟩ hE=>gx_nextOf_tup_end hh s1 s2 (by simp) hE
section
variable {X:Cx} {pins:List (Addr×Obj)} {σ:St} {H:Hp} {s:Shared} {h':Heap}
theorem Inv.turnedL {t':Nat} {ch:List Addr} (I:Inv X pins σ H s) (k:∀b o,b ∉ ch->s.heap.get? b=some o->h'.get? b=some o) (hf:∀b∈ch,zxq X pins H b):Inv X pins σ H { s with heap:=h',toks:=t' }:=by
 have nit:∀b u,H b=some u->b ∉ ch:=λb u e z=>by rw[(hf b z).1] at e; cases e
 refine I.step (g':=s.gens) (d':=s.drawn) (ch:=ch) (λb hb=>⟨(hf b hb).2.2.2.1,(hf b hb).2.1,(hf b hb).2.2.2.2.1,(hf b hb).2.2.2.2.2⟩) (λb o _ _ hc e _=>k b o hc e) (λb o _ _ hc e _=>⟨o.slots,k b o hc e⟩) (λ_ _ _ _ n=>n) (λb o hc e=>⟨o,k b o hc e⟩) (λ_ _ e=>e) (λ_ _ _ e=>e) (λb ps e=>⟨#[],by rw[e]; simp⟩) (λm hm=>?_) (λb u e=>?_) I.bare
 . obtain⟨o,es,ep,ho,r⟩:=hm;exact⟨o,es,ep,k _ _ (λz=>(hf _ z).2.1 rfl) ho,r⟩
 . have key:∀c,c=b\/H c=some (.own b)->c ∉ ch:=λc hc=>by
     rcases hc with z|z
     . subst z; exact nit _ u e
     . exact nit c _ z
   exact(I.hok b u e).stay (λc v hc q=>k c v (key c hc) q) (λ_ q=>q) λ_ _ q=>q
theorem Inv.turnLaid {t':Nat} {ch:List Addr} {a:Addr} {o:HO} (I:Inv X pins σ H s) (k:∀b o,b ∉ ch->s.heap.get? b=some o->h'.get? b=some o) (hf:∀b∈ch,zxq X pins H b) (hp:s.heap.objs.size<=a) (new:zdu X.prog X.w (upd H a o) h' a o) :
   Inv X pins σ (upd H a o) { s with heap:=h',toks:=t' }:=by
 have nit:∀b u,H b=some u->b ∉ ch:=λb u e z=>by rw[(hf b z).1] at e; cases e
 have hn:H a=none:=I.hok.fresh hp;refine I.step (g':=s.gens) (d':=s.drawn) (ch:=ch) (λb hb=>⟨(hf b hb).2.2.2.1,(hf b hb).2.1,(hf b hb).2.2.2.2.1,(hf b hb).2.2.2.2.2⟩) (λb o _ _ hc e _=>k b o hc e) (λb o _ _ hc e _=>⟨o.slots,k b o hc e⟩) (λb u _ q n=>by rw[zag (λz=>by subst z; exact absurd (Nat.lt_of_lt_of_le (Heap.lt_size q) hp) (qbf _))]; exact n) (λb o hc e=>⟨o,k b o hc e⟩) (λb xs q=>by rw[zag (za3 q hn)]; exact q) (λb u xs q=>by rw[zag (za3 q hn)]; exact q) (λb ps q=>⟨#[],by rw[zag (za3 q hn),q]; simp⟩) (λm hm=>?_) (λb u e=>?_) I.bare
 . obtain⟨o,es,ep,ho,r⟩:=hm;exact⟨o,es,ep,k _ _ (λz=>(hf _ z).2.1 rfl) ho,r⟩
 . by_cases hb:b=a
   . subst hb;rw[zab] at e;cases e;exact new
   . rw[zag hb] at e;have key:∀c,c=b\/H c=some (.own b)->c ∉ ch:=λc hc=>by
       rcases hc with z|z
       . subst z; exact nit _ u e
       . exact nit c _ z
     exact(I.hok b u e).stay (λc v hc q=>k c v (key c hc) q) (λc q=>(zag (za3 q hn)).trans q) λc xs q=>(zag (za3 q hn)).trans q
end
theorem zlp (l:Addr) (items:Array Value) (n:Nat) (dct:Option Addr) (sl:Array (Option Value)) :
   Meets (Builtin.«enumerate.__new__» ⟨[.type "enumerate",.ref l],[]⟩) (λ_ R s=>s.heap.get? l=some { cls:=.type "tuple",dict:=dct,data:=.seq items n,slots:=sl } /\
     R (.ok (.ret (.ref (s.heap.push { cls:=.type "tuple_iterator",data:=.fields #[.ref l,.int 0 0] }).objs.size)))
       { s with heap:=(s.heap.push { cls:=.type "tuple_iterator",data:=.fields #[.ref l,.int 0 0] }).push { cls:=.type "enumerate",data:=.fields #[.none,.bool false,.ref s.heap.objs.size,rawInt 0,.none,.none] } }) :=
 .of_wp λprog w A R s h=>by
   obtain⟨h0,g0,d0,t0,o0⟩:=s;obtain⟨hl,h⟩:=h;have hsub:=sub_enumerate;have hL:Heap.IsTuple (Shared.heap ⟨h0,g0,d0,t0,o0⟩) l items:=⟨_,hl,rfl,n,rfl⟩
   wp_walk using AutoSeq1.wpAny_loadPart' hl
   refine wpAny_stack_any λst=>wpAny_pure ?_;split
   . rename_i c _ _ _ _ _
     cases (c==Value.type "enumerate") <;> (wp_walk using AutoSeq1.wpAny_loadPart' hl,wpAny_pyIter_tuple hL; exact⟨_,rfl,h⟩)
   . wp_walk using AutoSeq1.wpAny_loadPart' hl,wpAny_pyIter_tuple hL; exact⟨_,rfl,h⟩
theorem zml {prog:Program} {w:World} {A:Around} {E:Value->Shared->Prop} {s:Shared} {l:Addr} {items:Array Value} {Q:Value->Shared->Prop} (hL:s.heap.IsTuple l items)
   (h:∀h',IsEnum h' (s.heap.objs.size+1) s.heap.objs.size 0 .none->h'.IsTupleIter s.heap.objs.size l 0->(∀b o,s.heap.get? b=some o->h'.get? b=some o)->Q (.ref (s.heap.objs.size+1)) { s with heap:=h' }) :
   wpAny (model prog w) A (call (.type "enumerate") [.ref l]) Q E s:=by
 obtain⟨⟨c,dct,dt,sl⟩,hl,hc,n,hd⟩:=hL;cases (show c=.type "tuple" from hc); cases (show dt=.seq items n from hd);refine callType_new F.called_enumerate (by decide) (F.typeCall_enumerate_1 _) (F.newCall_enumerate_1 _) (λobj=>F.args_object_init_2 obj _) F.entry_enumerate_new (zlp l items n dct sl) ⟨hl,?_⟩;have hz:(s.heap.push { cls:=.type "tuple_iterator",data:=.fields #[.ref l,.int 0 0] }).objs.size=s.heap.objs.size+1:=qbx ..;have he:IsEnum ((s.heap.push { cls:=.type "tuple_iterator",data:=.fields #[.ref l,.int 0 0] }).push { cls:=.type "enumerate",data:=.fields #[.none,.bool false,.ref s.heap.objs.size,rawInt 0,.none,.none] }) (s.heap.objs.size+1) s.heap.objs.size 0 .none:=by have e:=qao (s.heap.push { cls:=.type "tuple_iterator",data:=.fields #[.ref l,.int 0 0] }) (o:={ cls:=.type "enumerate",data:=.fields #[.none,.bool false,.ref s.heap.objs.size,rawInt 0,.none,.none] }) rfl;rw[hz] at e;exact e
 show _/\_;rw[hz];exact⟨⟨_,he,rfl⟩,h _ he ⟨_,Heap.get?_push_of_some _ (qao _ rfl),rfl,rfl⟩ λb o x=>Heap.get?_push_of_some _ (Heap.get?_push_of_some _ x)⟩
def Ite (K:W.Frag) (a:Addr):It :=
 ⟨λi H=>∃xs x,SqT K H a xs/\xs[i]?=some x,λi H y H'=>∃b,y=.ref b/\H b=none/\∀xs x,SqT K H a xs->xs[i]?=some x->H'=upd H b (.tup [.int i,x]),λi H=>∃xs,SqT K H a xs/\xs.length=i⟩
theorem zxw {P:Program} {w:World} {K:W.Frag} {elts:List Expr} {k:Nat} {pos:Pos} (a e it:Addr) (hne:e≠it):Turn P w K (.Tuple elts k pos) (Ite K a) [e,it] e (λi h=>(∃old,IsEnum h e it i old)/\h.IsTupleIter it a i) where
 mem:=by simp
 obj:=λi h st b hb=>by
   obtain⟨⟨old,he⟩,⟨o,ho,hc,hd⟩⟩:=st;rcases List.mem_cons.mp hb with z|z
   . subst z;exact⟨_,he,λv z=>by cases (show Data.fields _=Data.cell v from z)⟩
   . have z:b=it:=by simpa using z
     subst z;exact⟨o,ho,λv z=>by rw[hd] at z; cases z⟩
 keep:=λi h h' st kk=>by obtain⟨⟨old,he⟩,⟨o,ho,r⟩⟩:=st;exact⟨⟨old,kk e (by simp) _ he⟩,⟨o,kk it (by simp) o ho,r⟩⟩
 item:=by
   intro X hP hw hK hc i pins s σ H E I hf st hg;subst hP hw hK;obtain⟨⟨old,he⟩,hit⟩:=st;obtain⟨xs,x,hq,hx⟩:=hg;obtain⟨its,rv,p,hz⟩:=I.tuple hq;have pt:s.heap.IsTuple a its.toArray:=p;obtain⟨u,hu,ru⟩:=rv.get hx;have hia:a≠it:=λz=>by
     subst z;obtain⟨o1,h1,c1,_⟩:=hit;obtain⟨o2,h2,c2,_⟩:=pt;rw[h1] at h2;cases h2;rw[c1] at c2;injection c2 with c2
     exact absurd c2 (by decide)
   have hea:e ∉ [it,a]:=λz=>by
     rcases List.mem_cons.mp z with z|z
     . exact hne z
     . have z:e=a:=by simpa using z
       subst z;obtain⟨o2,h2,c2,_⟩:=pt;rw[he] at h2;cases h2;injection (show Value.type "enumerate"=Value.type "tuple" from c2) with c2
       exact absurd c2 (by decide)
   have hlt:i<its.toArray.size:=by have:=(List.getElem?_eq_some_iff.mp hu).1;simpa using this
   refine wpAny_pyNext_enum_itemD (zl4 (A:=X.A.in1) (I.ok.hd hc) it a hia its.toArray) he ⟨hit,pt⟩ hlt hne hea λy h' tk hy hout hst hT hsz hk=>?_;refine⟨_,rfl,wpAny_letOwnedTupleGo_enum hout λh2 he2 hs2=>?_⟩;have hs2:Heap.SameBut e h' h2:=hs2;have hyu:y=u:=by
     have hy:its.toArray[i]?=some y:=hy;have:its[i]?=some y:=by simpa using hy
     rw[hu] at this;exact(Option.some.inj this).symm
   subst hyu;have helt:e<s.heap.objs.size:=Heap.lt_size he;have hfr:H s.heap.objs.size=none:=I.hok.fresh (qae _);have hnS:s.heap.objs.size≠e:=qcd helt;have hT2:h2.get? s.heap.objs.size=some { cls:=.type "tuple",data:=.seq #[.int i tk,y] }:=(hs2.2 _ hnS).trans hT;refine⟨.ref s.heap.objs.size,upd H s.heap.objs.size (.tup [.int i,x]),I.turnLaid (t':=tk+1) (ch:=[e,it]) (λb o hb q=>?_) hf (qae _) ?_,rfl,⟨s.heap.objs.size,rfl,hfr,λxs' x' hq' hx'=>?_⟩,⟨⟨y,by exact_mod_cast he2⟩,?_⟩,λb hb=>?_⟩
   . have h1:b≠e:=λz=>hb (by simp [z]);have h3:b≠it:=λz=>hb (by simp [z]);exact(hs2.2 b h1).trans (hk b o h1 h3 q)
   . exact⟨by show 2<=sizeLine; decide,[.int i tk,y],.cons ⟨tk,rfl⟩ (.cons ru .nil),⟨_,hT2,rfl,_,rfl⟩⟩
   . have:=I.tuple_inj hq' hq;subst this;rw[hx] at hx';cases hx';rfl
   . obtain⟨⟨o,ho,r⟩,_⟩:=hst;exact⟨o,(hs2.2 it hne.symm).trans ho,r⟩
   . have hb0:=(hf b hb).1;rw[zag]
     . exact hb0
     . intro z;subst z;obtain⟨o,ho,_⟩:=hit;rcases List.mem_cons.mp hb with z|z
       . exact hnS z
       . have z:s.heap.objs.size=it:=by simpa using z
         exact absurd (Heap.lt_size ho) (by rw[<- z]; exact qbf _)
 done:=by
   intro X hP hw hK hc i pins s σ H E I hf st hg;subst hP hw hK;obtain⟨⟨old,he⟩,hit⟩:=st;obtain⟨xs,hq,hx⟩:=hg;obtain⟨its,rv,p,hz⟩:=I.tuple hq;have pt:s.heap.IsTuple a its.toArray:=p;have hl:=rv.length;have hia:a≠it:=λz=>by
     subst z;obtain⟨o1,h1,c1,_⟩:=hit;obtain⟨o2,h2,c2,_⟩:=pt;rw[h1] at h2;cases h2;rw[c1] at c2;injection c2 with c2
     exact absurd c2 (by decide)
   have hi:i=its.toArray.size:=by simp; omega
   refine wpAny_pyNext_enum_endD (zl4 (A:=X.A.in1) (I.ok.hd hc) it a hia its.toArray) he (by rw[<- hi]; exact⟨hit,pt⟩) λh' eb=>⟨rfl,?_⟩
   exact I.turnedL (t':=s.toks) (ch:=[e,it]) (λb o hb q=>eb b o (λz=>hb (by simp [z])) q) hf
 self:=λ_ _ _ _ _ st h=>by obtain⟨⟨old,he⟩,_⟩:=st;exact wpAny_pyIter_enum he h
section
variable {X:Cx}
theorem zri:bootBuiltins "enumerate"=some (.type "enumerate"):=zq8
def z3n (K:W.Frag) (ta:TA):TI:=λσ H R=>ta σ H λvs H1=>∃a,vs=[.ref a]/\(∃xs,SqT K H1 a xs)/\R (Ite K a) H1
theorem ztx {a:Expr} {ta:TA} {p pos tpos:Pos} {elts:List Expr} {k:Nat} (hg:Gl X "enumerate") (hm:X.mg "enumerate"=none) (ha:PA X [a] ta) (hs:starEach [a] X.env=[(false,eval a X.env)]:=by rfl):PI X (.Tuple elts k tpos) (.Call (.Name "enumerate" p) [a] [] pos) (z3n X.K ta):=by
 intro pins s σ H R I h;refine Call_ (zl2 I hg hm zri (qbq (thn (ha pos pins s σ H _ I h) λus s1 ⟨vs,H1,I1,r1,q1⟩=>?_) hs rfl));obtain⟨a,e,⟨xs,hq⟩,q⟩:=q1;subst e;cases r1 with
 | cons r rr =>
   cases rr;cases r;obtain⟨its,rv,p,hz⟩:=I1.tuple hq;refine zml (show s1.heap.IsTuple a its.toArray from p) λh' he hit hk=>?_;refine wpAny_pyIter_enum he ?_;refine⟨s1.heap.objs.size+1,[s1.heap.objs.size+1,s1.heap.objs.size],_,_,H1,rfl,I1.kept (t':=s1.toks) hk,zxw a (s1.heap.objs.size+1) s1.heap.objs.size (Nat.succ_ne_self _),⟨⟨.none,he⟩,hit⟩,λb hb=>?_,q⟩;rcases List.mem_cons.mp hb with z|z
   . subst z;exact I1.fpOk (qcl _) (I1.hok.fresh (qcl _))
   . have z:b=s1.heap.objs.size:=by simpa using z
     subst z;exact I1.fpOk (qae _) (I1.hok.fresh (qae _))
theorem zrs {K:W.Frag} {a:Addr} {xs:List V} {g:TG} {tb:TS} {D:zkb} {σ:St} {H:Hp} (Pv:Nat->St->Hp->Prop) (h0:Pv 0 σ H) (hl:∀i σ H,i<=xs.length->Pv i σ H->SqT K H a xs)
   (hs:∀i x σ H b,xs[i]?=some x->Pv i σ H->H b=none->g (.ref b) σ (upd H b (.tup [.int i,x])) λσ2 H2=>tb { D with nx:=Pv (i+1),ct:=Pv (i+1),bk:=D.nx } σ2 H2) (hd:∀σ H,Pv xs.length σ H->D.nx σ H) :
   ∃W:Nat->Nat->St->Hp->Prop,(∃m,W 0 m σ H)/\∀i m σ H,W i m σ H->((Ite K a).stop i H/\D.nx σ H)\/((Ite K a).go i H/\∃N:St->Hp->Prop,(∀σ' H',N σ' H'->∃m',m'<m/\W (i+1) m' σ' H')/\∀x H',(Ite K a).yld i H x H'->g x σ H' λσ2 H2=>tb { D with nx:=N,ct:=N,bk:=D.nx } σ2 H2):=by
 refine⟨λi m σ H=>m=xs.length - i/\i<=xs.length/\Pv i σ H,⟨xs.length,by simp,qa4 _,h0⟩,?_⟩;rintro i m σ H ⟨rfl,hi,p⟩;have q:=hl i σ H hi p;by_cases hlt:i<xs.length
 . refine .inr ⟨⟨xs,xs[i],q,by simp [hlt]⟩,Pv (i+1),λσ' H' p'=>⟨xs.length - (i+1),by omega,rfl,hlt,p'⟩,λx H' y=>?_⟩;obtain⟨b,rfl,hb,y⟩:=y;rw[y xs xs[i] q (by simp [hlt])];exact hs i xs[i] σ H b (by simp [hlt]) p hb
 . have e:i=xs.length:=by omega
   subst e;exact .inl ⟨⟨xs,q,rfl⟩,hd σ H p⟩
end
section
variable {X:Cx} {pins:List (Addr×Obj)} {σ:St} {H:Hp} {s:Shared}
theorem Inv.freeze {d:Addr} {kvs:List (Key×V)} (I:Inv X pins σ H s) (e:H d=some (.dK kvs)):∃o,s.heap.get? d=some o/\Inv X pins σ (upd H d (.frz o (.dK kvs))) s:=by
 obtain⟨z,hd,vs,rel,⟨o,es,ep,ho,r⟩⟩:=I.hok d _ e;refine⟨o,ho,?_⟩;have nd:∀b u,H b=some u->u≠.dK kvs->b≠d:=λb u q n z=>by subst z;rw[e] at q;cases q;exact n rfl
 refine I.step (g':=s.gens) (t':=s.toks) (d':=s.drawn) (h':=s.heap) (ch:=[]) (λ_ z=>nomatch z) (λb o _ _ _ q _=>q) (λb o _ _ _ q _=>⟨o.slots,q⟩) (λb o _ _ n=>?_) (λb o _ q=>⟨o,q⟩) (λb xs q=>?_) (λb o u q=>?_) (λb ps q=>⟨#[],?_⟩) (λm hm=>hm) (λb u q=>?_) I.bare
 . rw[zag (λz=>by subst z; rw[e] at n; cases n)];exact n
 . rw[zag (nd b _ q (by intro z; cases z))];exact q
 . rw[zag (nd b _ q (by intro z; cases z))];exact q
 . rw[zag (nd b _ q (by intro z; cases z)),q];simp
 . have own:∀c b,H c=some (.own b)->(upd H d (.frz o (.dK kvs))) c=some (.own b):=λc b q=>(zag (nd c _ q (by intro z; cases z))).trans q;have tup:∀c xs,H c=some (.tup xs)->(upd H d (.frz o (.dK kvs))) c=some (.tup xs):=λc xs q=>(zag (nd c _ q (by intro z; cases z))).trans q;by_cases hb:b=d
   . subst hb;rw[zab] at q;cases q;exact⟨ho,(I.hok _ _ e).stay (λ_ _ _ q=>q) (λc q=>own c _ q) tup⟩
   . rw[zag hb] at q;exact(I.hok b u q).stay (λ_ _ _ q=>q) (λc q=>own c _ q) tup
end
theorem zoj:entryFor table "dict_itemiterator.__iter__"=some Builtin.«dict_keyiterator.__iter__»:=entryFor_alias (id':="dict_keyiterator.__iter__") (by kernel_rfl) (by first|rfl|decide +kernel|(unfold String.splitOn; simp +decide [String.splitOnAux])) (by decide +kernel) (by kernel_rfl)
def Itd (o:Obj) (d:Addr) (kvs:List (Key×V)):It :=
 ⟨λi H=>H d=some (.frz o (.dK kvs))/\i<kvs.length,λi H y H'=>∃b,y=.ref b/\H b=none/\∀kv,kvs[i]?=some kv->H'=upd H b (.tup [kV kv.1,kv.2]),λi H=>H d=some (.frz o (.dK kvs))/\i=kvs.length⟩
theorem zot {X:Cx} {pins:List (Addr×Obj)} {σ:St} {H:Hp} {s:Shared} {o:Obj} {d:Addr} {kvs:List (Key×V)} (I:Inv X pins σ H s) (e:H d=some (.frz o (.dK kvs))) {es0:Array DictEntry} {ep:Nat} (hep:o.data=.dict es0 ep) :
   ∃vs,KV kvs vs/\s.heap.DictAt (zbo X.prog X.w) d vs ep:=by
 obtain⟨h1,z,hd,vs,rel,⟨o',es,ep',ho,hx,hdat,r⟩⟩:=I.hok d _ e;rw[h1] at ho;cases ho;rw[hep] at hdat;cases hdat;exact⟨vs,rel,o,es0,h1,hx,hep,r⟩
theorem zu2 {P:Program} {w:World} {K:W.Frag} {elts:List Expr} {k:Nat} {pos:Pos} (o:Obj) (d it:Addr) (kvs:List (Key×V)) (es0:Array DictEntry) (ep:Nat) (hep:o.data=.dict es0 ep) :
   Turn P w K (.Tuple elts k pos) (Itd o d kvs) [it] it (λi h=>∃ok ov,IsItemIter h it d i kvs.length ep ok ov) where
 mem:=by simp
 obj:=λi h st b hb=>by
   obtain⟨ok,ov,he⟩:=st;have z:b=it:=by simpa using hb
   subst z;exact⟨_,he,λv z=>by cases (show Data.fields _=Data.cell v from z)⟩
 keep:=λi h h' st kk=>by obtain⟨ok,ov,he⟩:=st;exact⟨ok,ov,kk it (by simp) _ he⟩
 item:=by
   intro X hP hw hK hc i pins s σ H E I hf st hg;subst hP hw hK;obtain⟨ok,ov,he⟩:=st;obtain⟨hfz,hi⟩:=hg;obtain⟨vs,rel,hD⟩:=zot I hfz hep;have hlen:kvs.length=vs.length:=KV.length rel;have hi':i<vs.length:=by omega
   have rk:kvs[i].1=vs[i].1/\zdg kvs[i].2 vs[i].2:=zit rel hi hi';refine wpAny_pyNext_items_item (knd:=zbo X.prog X.w) (k:=vs[i].1) (v:=vs[i].2) (kvs:=vs) (by rw[<- hlen]; exact he) hD (by simp [hi']) λkey h' hkey hout hT hsz hk=>?_;refine⟨_,rfl,wpAny_letOwnedTupleGo_items hout λh2 he2 hs2=>?_⟩;have hs2:Heap.SameBut it h' h2:=hs2;have hilt:it<s.heap.objs.size:=Heap.lt_size he;have hnS:s.heap.objs.size≠it:=qcd hilt;have hfr:H s.heap.objs.size=none:=I.hok.fresh (qae _);have hT2:h2.get? s.heap.objs.size=some { cls:=.type "tuple",data:=.seq #[key,vs[i].2] }:=(hs2.2 _ hnS).trans hT;refine⟨.ref s.heap.objs.size,upd H s.heap.objs.size (.tup [kV kvs[i].1,kvs[i].2]),I.turnLaid (t':=s.toks) (ch:=[it]) (λb o hb q=>?_) hf (qae _) ?_,rfl,⟨s.heap.objs.size,rfl,hfr,λkv hkv=>?_⟩,⟨_,_,by rw[hlen]; exact he2⟩,λb hb=>?_⟩
   . have h1:b≠it:=λz=>hb (by simp [z]);exact(hs2.2 b h1).trans (hk b o h1 q)
   . exact⟨by show 2<=sizeLine; decide,[key,vs[i].2],.cons (by rw[rk.1]; exact zxc hkey) (.cons rk.2 .nil),⟨_,hT2,rfl,_,rfl⟩⟩
   . have:kvs[i]=kv:=by simpa [hi] using hkv
     rw[<- this]
   . have z:b=it:=by simpa using hb
     subst z;rw[zag hnS.symm];exact(hf _ hb).1
 done:=by
   intro X hP hw hK hc i pins s σ H E I hf st hg;subst hP hw hK;obtain⟨ok,ov,he⟩:=st;obtain⟨hfz,hi⟩:=hg;obtain⟨vs,rel,hD⟩:=zot I hfz hep;have hlen:kvs.length=vs.length:=KV.length rel;refine wpAny_pyNext_items_end (knd:=zbo X.prog X.w) (kvs:=vs) (I.ok.hd hc) (by rw[<- hlen]; exact he) hD (by simp; omega) λh' eb=>⟨rfl,?_⟩
   exact I.turnedL (t':=s.toks) (ch:=[it]) (λb o hb q=>eb b o (λz=>hb (by simp [z])) q) hf
 self:=λA i s Q E st h=>by
   obtain⟨ok,ov,he⟩:=st;have hT:s.TypeIs (.ref it) "dict_itemiterator":=⟨_,he,rfl⟩
   exact wpAny_pyIter_slot hT qdd (wpAny_call_entry qdd hT zoj (show wpAny _ _ (ret (.ref it)) _ _ s from wpAny_pure ⟨_,rfl,"dict_itemiterator",_,hT,F.slot_dict_itemiterator_next.lookup,h⟩) (F.args_dict_itemiterator_iter_1 _))
section
variable {X:Cx}
def z5j (td:TE):TI:=λσ H R=>td σ H λx H1=>∃d kvs,x=.ref d/\((H1 d=some (.dK kvs)/\∀o,R (Itd o d kvs) (upd H1 d (.frz o (.dK kvs))))\/∃o,H1 d=some (.frz o (.dK kvs))/\R (Itd o d kvs) H1)
theorem zti {l:Expr} {td:TE} {apos cpos tpos:Pos} {elts:List Expr} {k:Nat} (hl:PE X l td) (hbase:attributeBase l "items" X.env (eval l X.env)=eval l X.env:=by rfl) (hline:(apos.endLine==cpos.line)=true:=by rfl) :
   PI X (.Tuple elts k tpos) (.Call (.Attribute l "items" apos) [] [] cpos) (z5j td):=by
 intro pins s σ H R I h;refine wpAny_Call_method0_late hbase hline (thn (hl pins s σ H _ I h) λv s1 ⟨x,H1,I1,r1,q1⟩=>?_);obtain⟨d,kvs,rfl,q1⟩:=q1;cases r1;have key:∃o H2,Inv X pins σ H2 s1/\H2 d=some (.frz o (.dK kvs))/\R (Itd o d kvs) H2:=by
   rcases q1 with⟨e,q⟩|⟨o,e,q⟩
   . obtain⟨o,ho,I2⟩:=I1.freeze e;exact⟨o,_,I2,zab,q o⟩
   . exact⟨o,H1,I1,e,q⟩
 obtain⟨o,H2,I2,e2,q⟩:=key;obtain⟨ho,z,hd,vs,rel,dd⟩:=I2.hok d _ e2;obtain⟨o',es,ep,ho',hx,hdat,r⟩:=id dd;rw[ho] at ho';cases ho';refine⟨"dict","dict.items",qc0,qd1,PySem.F.type_dict_items,dd.typeIs,λb q=>?_,Calls.callWith_builtin rfl (PySem.evalArgs_none ?_)⟩
 . cases q;exact⟨o,ho,hx.2.1⟩
 refine call_meetsIn qd1 dd.typeIs PySem.F.entry_dict_items (PySem.F.args_dict_items_1 _) (meets_dict_items (zbo X.prog X.w) d hd) ⟨⟨vs,dd⟩,?_⟩;have I3:Inv X pins σ H2 { s1 with heap:=s1.heap.push { cls:=.type "dict_items",data:=.fields #[.ref d] } }:=I2.kept (t':=s1.toks) λb o e=>Heap.get?_push_of_some _ e;obtain⟨vs3,rel3,hD3⟩:=zot I3 e2 hdat;refine wpAny_pyIter_items (knd:=zbo X.prog X.w) (kvs:=vs3) (ep:=ep) ⟨_,qao _ rfl,rfl,rfl⟩ hD3 ?_;have hlen:kvs.length=vs3.length:=KV.length rel3;rw[<- hlen];generalize hh3:s1.heap.push { cls:=.type "dict_items",data:=.fields #[.ref d] }=h3 at I3 ⊢;refine⟨h3.objs.size,[h3.objs.size],_,_,H2,rfl,I3.kept (t':=s1.toks) λb o e=>Heap.get?_push_of_some _ e,zu2 o d h3.objs.size kvs es ep hdat,⟨_,_,qao _ rfl⟩,λb hb=>?_,q⟩;have z:b=h3.objs.size:=by simpa using hb
 subst z;exact I3.fpOk (qae _) (I3.hok.fresh (qae _))
theorem zru {o:Obj} {d:Addr} {kvs:List (Key×V)} {g:TG} {tb:TS} {D:zkb} {σ:St} {H:Hp} (Pv:Nat->St->Hp->Prop) (h0:Pv 0 σ H) (hl:∀i σ H,i<=kvs.length->Pv i σ H->H d=some (.frz o (.dK kvs)))
   (hs:∀i kv σ H b,kvs[i]?=some kv->Pv i σ H->H b=none->g (.ref b) σ (upd H b (.tup [kV kv.1,kv.2])) λσ2 H2=>tb { D with nx:=Pv (i+1),ct:=Pv (i+1),bk:=D.nx } σ2 H2) (hd:∀σ H,Pv kvs.length σ H->D.nx σ H) :
   ∃W:Nat->Nat->St->Hp->Prop,(∃m,W 0 m σ H)/\∀i m σ H,W i m σ H->((Itd o d kvs).stop i H/\D.nx σ H)\/((Itd o d kvs).go i H/\∃N:St->Hp->Prop,(∀σ' H',N σ' H'->∃m',m'<m/\W (i+1) m' σ' H')/\∀x H',(Itd o d kvs).yld i H x H'->g x σ H' λσ2 H2=>tb { D with nx:=N,ct:=N,bk:=D.nx } σ2 H2):=by
 refine⟨λi m σ H=>m=kvs.length - i/\i<=kvs.length/\Pv i σ H,⟨kvs.length,by simp,qa4 _,h0⟩,?_⟩;rintro i m σ H ⟨rfl,hi,p⟩;have q:=hl i σ H hi p;by_cases hlt:i<kvs.length
 . refine .inr ⟨⟨q,hlt⟩,Pv (i+1),λσ' H' p'=>⟨kvs.length - (i+1),by omega,rfl,hlt,p'⟩,λx H' y=>?_⟩;obtain⟨b,rfl,hb,y⟩:=y;rw[y kvs[i] (by simp [hlt])];exact hs i kvs[i] σ H b (by simp [hlt]) p hb
 . have e:i=kvs.length:=by omega
   subst e;exact .inl ⟨⟨q,rfl⟩,hd σ H p⟩
end
section
variable {X:Cx} {o e f:Expr} {apos cpos:Pos} {td ty tx:TE}
def z3j (td ty tx:TE):TE:=λσ H Q=>td σ H λx H1=>∃a,x=.ref a/\IsD H1 a/\ty σ H1 λy H2=>tx σ H2 λz H3=>∃kvs k,H3 a=some (.dK kvs)/\y=kV k/\kvs.length<sizeLine /\
 (∀v,zc9 kvs k=some v->Q v H3)/\(zc9 kvs k=none->Q z (upd H3 a (.dK (zbx kvs k z))))
theorem zy5 (ho:PE X o td) (he:PE X e ty) (hf:PE X f tx) (m:M2 X o "setdefault" apos e f cpos):PE X (.Call (.Attribute o "setdefault" apos) [e,f] [] cpos) (z3j td ty tx):=by
 intro pins s σ H Q I h;refine wpAny_Call_method m.base m.few m.line qc0 qdk PySem.F.type_dict_setdefault (thn (ho pins s σ H _ I h) λu s1 ⟨x,H1,I1,rx,a,ex,d,q1⟩=>?_);subst ex;obtain rfl:u=Value.ref a:=rx;obtain⟨t1,t2,_⟩:=z05 I1 d;refine⟨t1,t2,?_⟩;rw[m.trees];refine Calls.callWith_builtin rfl (Calls.evalArgs_plain (Calls.spliced_cons (thn (he pins s1 σ H1 _ I1 q1) λiv s2 ⟨y,H2,I2,ry,q2⟩=>Calls.spliced_cons (thn (hf pins s2 σ H2 _ I2 q2) λfv s3 ⟨z,H3,I3,rz,kvs,k,ea,ey,hl,q3,q4⟩=>Calls.spliced_nil ?_))));subst ey;obtain⟨hz,hd,vs,rel,dd⟩:=zz9 I3.hok ea;refine call_meetsIn qdk dd.typeIs PySem.F.entry_dict_setdefault (PySem.F.args_dict_setdefault_3 _ _ _) (kt_meets_setdefault (zbo X.prog X.w) a (zqp ry) hd fv) ⟨vs,dd,by rw[<- rel.length]; exact hz,λv hv=>?_,λhn h' dd' hs=>?_⟩
 . have rv:=rel.val k;rw[hv] at rv;cases l:zc9 kvs k with
   | none=>rw[l] at rv; exact absurd rv (by intro z; cases z)
   | some v' =>
     rw[l] at rv;exact⟨v',H3,I3.tok _,rv,q3 v' l⟩
 . have rv:=rel.val k;rw[hn] at rv;have l:zc9 kvs k=none:=by
     cases l:zc9 kvs k with
     | none=>rfl
     | some v'=>rw[l] at rv; exact absurd rv (by intro z; cases z)
   have hex:∃q,h'.get? a=some q:=let ⟨q,_,_,hq,_⟩:=dd'; ⟨q,hq⟩
   have hlp:(zbx kvs k z).length<=sizeLine:=by have:=zbq kvs k z; omega
   exact⟨z,_,zpo I3 (by rw[ea]; exact True.intro) hs hex (zw8 hlp hd (rel.put k rz) dd'),rz,q4 l⟩
end
def Itn (hi:Int) (n:Nat):It:=⟨λi _=>i<n,λi H x H'=>H'=H/\x=.int (hi - i),λi _=>n<=i⟩
theorem zwr {P:Program} {w:World} {K:W.Frag} {tg:Expr} (it:Addr) (hi:Int) (n:Nat):Turn P w K tg (Itn hi n) [it] it (λi h=>IsRangeIter h it (hi+(i:Nat) * (-1)) ((n:Int) - (i:Nat)) (-1)) where
 mem:=by simp
 obj:=λi h st b hb=>by
   have e:b=it:=by simpa using hb
   subst e;exact⟨_,st,λv z=>by cases (show Data.fields _=Data.cell v from z)⟩
 keep:=λi h h' st k=>k it (by simp) _ st
 item:=by
   intro X hP hw hK hc i pins s σ H E I hf st hg;subst hP hw hK;refine(Walks.range (prog:=X.prog) (w:=X.w) (I.ok.hd hc) it hi (-1) n).item i s _ _ hg st λv h' tk hv st' kk=>?_;obtain⟨t,rfl⟩:=hv;have I1:Inv X pins σ H { s with heap:=h',toks:=tk }:=I.turnedL (ch:=[it]) (λb o hb e=>kk b o hb e) hf;have e:hi+(i:Int) * (-1)=hi - (i:Int):=by omega
   exact⟨_,rfl,zzc (s:={ s with heap:=h',toks:=tk }) (n:="range_iterator") st' rfl rfl (by decide) ⟨.int (hi - i),H,I1,⟨t,by rw[e]⟩,⟨rfl,rfl⟩,st',λb hb=>(hf b hb).1⟩⟩
 done:=by intro X hP hw hK hc i pins s σ H E I hf st hg;subst hP hw hK;exact wpAny_pyNext_range_end (I.ok.hd hc) st (by have:n<=i:=hg; omega) λh' eb=>⟨rfl,I.turnedL (t':=s.toks) (ch:=[it]) (λb o hb e=>eb b o (λz=>hb (by simp [z])) e) hf⟩
 self:=λ_ _ _ _ _ st h=>wpAny_pyIter_rangeiter st h
theorem zjv (a b:Int):Builtin.Range.rangeSize a b (-1)=if b<a then a - b else 0:=by
 unfold Builtin.Range.rangeSize;rw[if_neg (by decide)];have:(-(-1):Int)=1:=by decide
 rw[this];rw[Int.ediv_one];by_cases h:b<a
 . rw[if_pos h,if_pos h]; omega
 . rw[if_neg h,if_neg h]
theorem zvm {a b:Int} (ha:-(2 ^ 60)<=a) (ha':a<2 ^ 60) (hb:-(2 ^ 60)<=b) (hb':b<2 ^ 60):Builtin.Range.small a b (-1)=true:=by
 unfold Builtin.Range.small;rw[zjv];simp only[Builtin.Range.rangeFitsLong,qa3,Bool.or_eq_true,decide_eq_true_eq,beq_iff_eq,show ¬ ((-1:Int) > 0) by decide,if_false];by_cases h:b<a
 . simp only[if_pos h]; omega
 . simp only[if_neg h]; omega
section
variable {X:Cx} {tg:Expr}
def z57 (ta:TA):TI:=λσ H R=>ta σ H λvs H1=>∃i j:Int,vs=[.int i,.int j,.int (-1)]/\(-(2 ^ 60)<=i/\i<2 ^ 60/\-(2 ^ 60)<=j/\j<2 ^ 60)/\R (Itn i (i - j).toNat) H1
theorem z1f {a b c:Expr} {ta:TA} {p pos:Pos} (hg:Gl X "range") (hm:X.mg "range"=none) (ha:PA X [a,b,c] ta) (hs:starEach [a,b,c] X.env=(false,eval a X.env) :: starEach [b,c] X.env:=by rfl) (hs2:(backTo pos (starEach [b,c] X.env)).any (·.1)=false:=by rfl) :
   PI X tg (.Call (.Name "range" p) [a,b,c] [] pos) (z57 ta):=by
 intro pins s σ H R I h;refine Call_ (zl2 I hg hm boot_range (qbq (thn (ha pos pins s σ H _ I h) λus s1 ⟨vs,H1,I1,r1,q1⟩=>?_) hs hs2));obtain⟨i,j,e,⟨q1,q2,q3,q4⟩,q⟩:=q1;subst e;cases r1 with
 | cons r rr =>
   cases rr with
   | cons r' rr =>
     cases rr with
     | cons r'' rr =>
       cases rr;obtain⟨t,rfl⟩:=r;obtain⟨t',rfl⟩:=r';obtain⟨t'',rfl⟩:=r'';refine call_range_3 (by decide) ?_ (.inl (PyProof.noPylong_small (by omega)));refine wpAny_pyIter_range (IsRange.new ..) (zvm q1 q2 q3 q4) ?_;have I2:Inv X pins σ H1 { s1 with heap:=s1.heap.push { cls:=.type "range",data:=.fields #[.int i t,.int j t',.int (-1) t''] },toks:=s1.toks }:=I1.kept λb o e=>Heap.get?_push_of_some _ e;refine⟨_,[(s1.heap.push { cls:=.type "range",data:=.fields #[.int i t,.int j t',.int (-1) t''] }).objs.size],_,_,H1,rfl,I2.kept (t':=s1.toks) λb o e=>Heap.get?_push_of_some _ e,zwr _ i (i - j).toNat,?_,λb hb=>?_,q⟩
       . have e1:i+((0:Nat):Int) * (-1)=i:=by omega
         have e2:(((i - j).toNat:Nat):Int) - ((0:Nat):Int)=Builtin.Range.rangeSize i j (-1):=by rw[zjv]; split <;> omega
         show IsRangeIter _ _ (i+((0:Nat):Int) * (-1)) ((((i - j).toNat:Nat):Int) - ((0:Nat):Int)) (-1);rw[e1,e2];exact qao _ rfl
       . have e:b=(s1.heap.push { cls:=.type "range",data:=.fields #[.int i t,.int j t',.int (-1) t''] }).objs.size:=by simpa using hb
         subst e;exact I2.fpOk (qae _) (I2.hok.fresh (qae _))
theorem zzo {hi:Int} {n:Nat} {g:TG} {tb:TS} {D:zkb} {σ:St} {H:Hp} (Pv:Nat->St->Hp->Prop) (h0:Pv 0 σ H) (hs:∀i σ H,i<n->Pv i σ H->g (.int (hi - i)) σ H λσ2 H2=>tb { D with nx:=Pv (i+1),ct:=Pv (i+1),bk:=D.nx } σ2 H2) (hd:∀σ H,Pv n σ H->D.nx σ H) :
   ∃W:Nat->Nat->St->Hp->Prop,(∃m,W 0 m σ H)/\∀i m σ H,W i m σ H->((Itn hi n).stop i H/\D.nx σ H)\/((Itn hi n).go i H/\∃N:St->Hp->Prop,(∀σ' H',N σ' H'->∃m',m'<m/\W (i+1) m' σ' H')/\∀x H',(Itn hi n).yld i H x H'->g x σ H' λσ2 H2=>tb { D with nx:=N,ct:=N,bk:=D.nx } σ2 H2):=by
 refine⟨λi m σ H=>m=n - i/\i<=n/\Pv i σ H,⟨n,by simp,qa4 _,h0⟩,?_⟩;rintro i m σ H ⟨rfl,hi',p⟩;by_cases hlt:i<n
 . refine .inr ⟨hlt,Pv (i+1),λσ' H' p'=>⟨n - (i+1),by omega,rfl,hlt,p'⟩,λx H' y=>?_⟩;obtain⟨e,y⟩:=y;subst e y;exact hs i σ _ hlt p
 . have e:i=n:=by omega
   subst e;exact .inl ⟨qae _,hd σ H p⟩
end
theorem zpg {X:Cx} {st:Stmt} {rest:List Stmt} {t u:TS} (h1:PS X st t) (h2:PSs X rest u):PSs X (st :: rest) (λD σ H=>∃M:St->Hp->Prop,t { D with nx:=M } σ H/\∀σ' H',M σ' H'->u D σ' H'):=by
 intro pins s σ H D I h;obtain⟨M,h,hm⟩:=h;refine wpAny_execs_cons (thn (h1 pins s σ H { D with nx:=M } I h) λf s1 q=>?_);cases f with
 | next =>
   obtain⟨σ',H',I',q⟩:=q;exact h2 pins s1 σ' H' D I' (hm _ _ q)
 | ret v=>exact q
 | brk=>exact q
 | cont=>exact q
def z36 (K:W.Frag):R2:=λx y H Q=>∃a b xs,x=.ref a/\y=.ref b/\SqL K H a xs/\SqL K H b []/\Q (.bl (decide (xs=[]))) H
theorem zuh {X:Cx} (hu:X.A.units+64<cLine):OpR X (compareOp .Eq) (z36 X.K):=by
 intro pins s σ H x y v u Q I rx ry h;obtain⟨a,b,xs,rfl,rfl,hA,hB,q⟩:=h;cases rx;cases ry;obtain⟨its,r1,p1,_⟩:=I.list hA;obtain⟨its2,r2,p2,_⟩:=I.list hB;have e2:its2=[]:=r2.nil_iff.mpr rfl;subst e2;by_cases hx:xs=[]
 . have e1:its=[]:=r1.nil_iff.mpr hx;subst e1;refine SeqAt.eq_listAt (e:=λ_=>true) p1.isList p2.isList rfl (by omega) (λi h=>absurd h (qcx i)) ?_;rw[decide_eq_true hx] at q;exact⟨.bl true,H,I,rfl,q⟩
 . have hne:(its.toArray.size != ([]:List Value).toArray.size)=true:=by
     have:its≠[]:=λz=>hx (r1.nil_iff.mp z);cases its with
     | nil=>exact absurd rfl this
     | cons a b=>rfl
   refine SeqAt.eq_list_lengthsAt p1.isList p2.isList hne (by omega) ?_;rw[decide_eq_false hx] at q;exact⟨.bl false,H,I,rfl,q⟩
theorem z3w {X:Cx}:OpR X (compareOp .Is) (λx y H Q=>∃a b,x=.bl a/\y=.bl b/\Q (.bl (decide (a=b))) H):=by intro pins s σ H x y v u Q I rx ry h;obtain⟨a,b,rfl,rfl,q⟩:=h;cases rx;cases ry;exact wpAny_is_plain rfl (zca I q (by cases a <;> cases b <;> rfl))
def Lay (n:Nat) (d:PyData):Prop:=PyData.canLay0 d=true/\PyData.depth d<=n
theorem Lay.int {n:Nat} (i:Int):Lay n (.int i):=⟨by unfold PyData.canLay0; rfl,by unfold PyData.depth; exact qa4 _⟩
theorem Lay.none {n:Nat}:Lay n .none:=⟨by unfold PyData.canLay0; rfl,by unfold PyData.depth; exact qa4 _⟩
theorem Lay.str {n:Nat} {x:Str} (h:PyData.strOk x=true):Lay n (.str x):=⟨by unfold PyData.canLay0; exact h,by unfold PyData.depth; exact qa4 _⟩
theorem z6k {n:Nat}:∀{ds:List PyData},(∀d∈ds,Lay n d)->PyData.canLayAll0 ds=true/\PyData.depthAll ds<=n
 | [],_=>⟨by unfold PyData.canLayAll0; rfl,by unfold PyData.depthAll; exact qa4 _⟩
 | d :: ds,h=>by
   have h1:=h d List.mem_cons_self;have h2:=z6k (λx hx=>h x (List.mem_cons_of_mem _ hx));constructor
   . unfold PyData.canLayAll0; rw[h1.1,h2.1]; rfl
   . unfold PyData.depthAll; exact Nat.max_le.mpr ⟨h1.2,h2.2⟩
theorem Lay.list {n:Nat} {ds:List PyData} (h:∀d∈ds,Lay n d):Lay (n+1) (.list ds):=by have h2:=z6k h;exact⟨by unfold PyData.canLay0; exact h2.1,by unfold PyData.depth; have:=h2.2; omega⟩
theorem Lay.tuple {n:Nat} {ds:List PyData} (h:∀d∈ds,Lay n d):Lay (n+1) (.tuple ds):=by have h2:=z6k h;exact⟨by unfold PyData.canLay0; exact h2.1,by unfold PyData.depth; have:=h2.2; omega⟩
theorem Lay.shaped {n:Nat} {d:PyData} (h:Lay n d) (hn:n<=64):SeqAt.shaped d=true:=by unfold SeqAt.shaped;rw[h.1,decide_eq_true (Nat.le_trans h.2 hn)];rfl
theorem Lay.refl {n:Nat} {d:PyData} (h:Lay n d):PyData.eqv d d=true:=SeqAt.eqv_refl d h.1
theorem zp9 {K:W.Frag} {x y:V} {H:Hp} {Q:VK} {d:PyData} {n:Nat} (hn:n<=64) (l:Lay n d) (hx:zho K H d x) (hy:zho K H d y) (q:Q (.bl true) H):rEqD K x y H Q :=
 ⟨d,d,hx,hy,l.shaped hn,l.shaped hn,by rw[l.refl]; exact q⟩
theorem zg8 {K:W.Frag} {x y:V} {H:Hp} {Q:VK} {d:PyData} {n:Nat} (hn:n<=64) (l:Lay n d) (hx:zho K H d x) (hy:zho K H d y) (q:Q (.bl false) H):rNeD K x y H Q :=
 ⟨d,d,hx,hy,l.shaped hn,l.shaped hn,by rw[l.refl]; exact q⟩
mutual
theorem zho.mono {K:W.Frag} {H H':Hp} (e:zaj H H'):∀(d:PyData) (v:V),zho K H d v->zho K H' d v
 | .none,v,h=>by unfold zho at h ⊢; exact h
 | .bool b,v,h=>by unfold zho at h ⊢; exact h
 | .int i,v,h=>by unfold zho at h ⊢; exact h
 | .str x,v,h=>by unfold zho at h ⊢; exact h
 | .list ds,v,h=>by unfold zho at h ⊢;obtain⟨a,xs,rfl,hq,hd⟩:=h;exact⟨a,xs,rfl,e.seq hq,zdp.mono e ds xs hd⟩
 | .tuple ds,v,h=>by unfold zho at h ⊢;obtain⟨a,xs,rfl,hq,hd⟩:=h;exact⟨a,xs,rfl,e.tup hq,zdp.mono e ds xs hd⟩
 | .dict _,v,h=>by unfold zho at h; exact h.elim
theorem zdp.mono {K:W.Frag} {H H':Hp} (e:zaj H H'):∀(ds:List PyData) (xs:List V),zdp K H ds xs->zdp K H' ds xs
 | [],xs,h=>by unfold zdp at h ⊢; exact h
 | d :: ds,xs,h=>by unfold zdp at h ⊢;obtain⟨x,r,rfl,hd,hds⟩:=h;exact⟨x,r,rfl,zho.mono e d x hd,zdp.mono e ds r hds⟩
end
def ers (l:Addr) (H:Hp):Hp:=λb=>if b=l then none else H b
theorem zcu {l b:Addr} {H:Hp} (h:b≠l):ers l H b=H b:=by unfold ers; rw[if_neg h]
theorem zgt {l:Addr} {H:Hp}:zaj (ers l H) H:=λb o h=>by
 unfold ers at h;split at h
 . cases h
 . exact h
theorem zaj.ers {l:Addr} {H H':Hp} (e:zaj H H'):zaj (ers l H) (ers l H'):=λb o h=>by
 unfold L2.ers at h ⊢;split at h
 . cases h
 . rename_i hb
   rw[if_neg hb];exact e b o h
end L2
namespace Gx
open PySem L2
theorem le0:0<=sizeLine:=by decide
theorem le1:1<=sizeLine:=by decide
theorem le2:2<=sizeLine:=by decide
theorem le3:3<=sizeLine:=by decide
theorem le4:4<=sizeLine:=by decide
theorem le5:5<=sizeLine:=by decide
theorem at0 {x:V} {r:List V}:atI (x :: r) 0=some x:=by unfold atI ixN;rw[if_pos (by decide),if_pos (by simp)];rfl
theorem vq {Q:VK} {H:Hp} {x y:V} (h:x=y) (q:Q y H):Q x H:=by subst h; exact q
theorem zbz (z n:Int) (h:0<n):0<=z%n/\z%n<n:=⟨qd2 _ (by omega),qdn _ h⟩
theorem ziy {α:Type} {es:List α} {f:α->V} {i:Nat} {x:V} (h:(es.map f)[i]?=some x):∃e,es[i]?=some e/\e∈es/\x=f e:=by
 rw[List.getElem?_map] at h;cases he:es[i]? with
 | none=>rw[he] at h; cases h
 | some e=>rw[he] at h; cases h; exact⟨e,rfl,List.mem_of_getElem? he,rfl⟩
end Gx
namespace L2
open PySem PySem.Spec PyProof.Rows
def tTru (K:W.Frag) (ta:TE):TT:=λσ H Q=>ta σ H λx H'=>∃k,z6i K x H' k/\Q k H'
theorem z47 {X:Cx} {K:W.Frag} {a:Expr} {ta:TE} (hK:X.K=K) (ha:PE X a ta) (he:∀whole,isTrue a X.env whole=(do let v <- whole; standAt a.pos; holding [v] (truthy v))):PT X a (tTru K ta):=by subst hK;exact zyv ha he
end L2
namespace Gx
open PySem L2
def tx (l:List Nat):Str:=⟨l.toArray⟩
theorem zkp (l:List Nat):(tx l).cps.toList=l:=by unfold tx; simp
theorem zk8 (l:List Nat):(tx l).length=l.length:=by unfold tx Str.length; simp
theorem z5e (a b:List Nat):tx a++tx b=tx (a++b):=by show(⟨_++_⟩:Str)=_;unfold tx;simp
theorem z4z {a b:List Nat} (h:tx a=tx b):a=b:=by rw[<- zkp a,h,zkp]
theorem zy1 {l:List Nat} {i j:Int} (h0:0<=i) (h1:i<=j) (h2:j<=l.length):Txt.slice (tx l) (some i) (some j)=tx ((l.drop i.toNat).take (j - i).toNat):=by have:=PyProof.Rows.slice_closes (x:=tx l) (i:=i) (j:=j) ⟨h0,h1,by rw[zkp]; exact h2⟩;rw[beq_iff_eq,zkp] at this;exact this
theorem zv3 (y:Str) (ys:List Str):PySem.Txt.join "" (y :: ys)=y++PySem.Txt.join "" ys:=by
 show PySem.Builtin.Str.glued ("":Str) (y :: ys)=y++PySem.Builtin.Str.glued ("":Str) ys;rw[PySem.StrLaws.glued_eq_join,PySem.StrLaws.glued_eq_join];cases ys with
 | nil =>
   show y=y++Str.empty;cases y;show _=(⟨_++#[]⟩:Str);simp
 | cons z zs =>
   show y++""++Str.join "" (z :: zs)=_;have:y++("":Str)=y:=by cases y;show(⟨_++#[]⟩:Str)=_;simp
   rw[this]
theorem zwf:∀(ls:List (List Nat)),PySem.Txt.join "" (ls.map tx)=tx ls.flatten
 | []=>by show PySem.Builtin.Str.glued ("":Str) []=_;rw[PySem.StrLaws.glued_eq_join];rfl
 | l :: ls=>by rw[qa2,zv3,zwf ls,z5e,qci]
end Gx
namespace L2
open PySem PySem.Spec PyProof.Rows
def ItE (K:W.Frag) (a:Addr):It :=
 ⟨λi H=>∃xs x,SqL K H a xs/\xs[i]?=some x,λi H y H'=>∃b,y=.ref b/\H b=none/\∀xs x,SqL K H a xs->xs[i]?=some x->H'=upd H b (.tup [.int i,x]),λi H=>∃xs,SqL K H a xs/\xs.length=i⟩
theorem zuv {P:Program} {w:World} {K:W.Frag} {elts:List Expr} {k:Nat} {pos:Pos} (a e it:Addr) (hne:e≠it):Turn P w K (.Tuple elts k pos) (ItE K a) [e,it] e (λi h=>(∃old,IsEnum h e it i old)/\h.IsListIter it a i) where
 mem:=by simp
 obj:=λi h st b hb=>by
   obtain⟨⟨old,he⟩,⟨o,ho,hc,hd⟩⟩:=st;rcases List.mem_cons.mp hb with z|z
   . subst z;exact⟨_,he,λv z=>by cases (show Data.fields _=Data.cell v from z)⟩
   . have z:b=it:=by simpa using z
     subst z;exact⟨o,ho,λv z=>by rw[hd] at z; cases z⟩
 keep:=λi h h' st kk=>by obtain⟨⟨old,he⟩,⟨o,ho,r⟩⟩:=st;exact⟨⟨old,kk e (by simp) _ he⟩,⟨o,kk it (by simp) o ho,r⟩⟩
 item:=by
   intro X hP hw hK hc i pins s σ H E I hf st hg;subst hP hw hK;obtain⟨⟨old,he⟩,hit⟩:=st;obtain⟨xs,x,hq,hx⟩:=hg;obtain⟨its,rv,p,hz⟩:=I.list hq;have pt:s.heap.IsList a its.toArray:=p.isList;obtain⟨u,hu,ru⟩:=rv.get hx;have hia:a≠it:=λz=>by
     subst z;obtain⟨o1,h1,c1,_⟩:=hit;obtain⟨o2,h2,c2,_⟩:=pt;rw[h1] at h2;cases h2;rw[c1] at c2;injection c2 with c2
     exact absurd c2 (by decide)
   have hea:e ∉ [it,a]:=λz=>by
     rcases List.mem_cons.mp z with z|z
     . exact hne z
     . have z:e=a:=by simpa using z
       subst z;obtain⟨o2,h2,c2,_⟩:=pt;rw[he] at h2;cases h2;injection (show Value.type "enumerate"=Value.type "list" from c2) with c2
       exact absurd c2 (by decide)
   have hlt:i<its.toArray.size:=by have:=(List.getElem?_eq_some_iff.mp hu).1;simpa using this
   refine wpAny_pyNext_enum_itemD (Draws.list (A:=X.A.in1) (I.ok.hd hc) it a hia its.toArray) he ⟨hit,pt⟩ hlt hne hea λy h' tk hy hout hst hT hsz hk=>?_;refine⟨_,rfl,wpAny_letOwnedTupleGo_enum hout λh2 he2 hs2=>?_⟩;have hs2:Heap.SameBut e h' h2:=hs2;have hyu:y=u:=by
     have hy:its.toArray[i]?=some y:=hy;have:its[i]?=some y:=by simpa using hy
     rw[hu] at this;exact(Option.some.inj this).symm
   subst hyu;have helt:e<s.heap.objs.size:=Heap.lt_size he;have hfr:H s.heap.objs.size=none:=I.hok.fresh (qae _);have hnS:s.heap.objs.size≠e:=qcd helt;have hT2:h2.get? s.heap.objs.size=some { cls:=.type "tuple",data:=.seq #[.int i tk,y] }:=(hs2.2 _ hnS).trans hT;refine⟨.ref s.heap.objs.size,upd H s.heap.objs.size (.tup [.int i,x]),I.turnLaid (t':=tk+1) (ch:=[e,it]) (λb o hb q=>?_) hf (qae _) ?_,rfl,⟨s.heap.objs.size,rfl,hfr,λxs' x' hq' hx'=>?_⟩,⟨⟨y,by exact_mod_cast he2⟩,?_⟩,λb hb=>?_⟩
   . have h1:b≠e:=λz=>hb (by simp [z]);have h3:b≠it:=λz=>hb (by simp [z]);exact(hs2.2 b h1).trans (hk b o h1 h3 q)
   . exact⟨by show 2<=sizeLine; decide,[.int i tk,y],.cons ⟨tk,rfl⟩ (.cons ru .nil),⟨_,hT2,rfl,_,rfl⟩⟩
   . have:=I.list_inj hq' hq;subst this;rw[hx] at hx';cases hx';rfl
   . obtain⟨⟨o,ho,r⟩,_⟩:=hst;exact⟨o,(hs2.2 it hne.symm).trans ho,r⟩
   . have hb0:=(hf b hb).1;rw[zag]
     . exact hb0
     . intro z;subst z;obtain⟨o,ho,_⟩:=hit;rcases List.mem_cons.mp hb with z|z
       . exact hnS z
       . have z:s.heap.objs.size=it:=by simpa using z
         exact absurd (Heap.lt_size ho) (by rw[<- z]; exact qbf _)
 done:=by
   intro X hP hw hK hc i pins s σ H E I hf st hg;subst hP hw hK;obtain⟨⟨old,he⟩,hit⟩:=st;obtain⟨xs,hq,hx⟩:=hg;obtain⟨its,rv,p,hz⟩:=I.list hq;have pt:s.heap.IsList a its.toArray:=p.isList;have hl:=rv.length;have hia:a≠it:=λz=>by
     subst z;obtain⟨o1,h1,c1,_⟩:=hit;obtain⟨o2,h2,c2,_⟩:=pt;rw[h1] at h2;cases h2;rw[c1] at c2;injection c2 with c2
     exact absurd c2 (by decide)
   have hi:i=its.toArray.size:=by simp; omega
   refine wpAny_pyNext_enum_endD (Draws.list (A:=X.A.in1) (I.ok.hd hc) it a hia its.toArray) he (by rw[<- hi]; exact⟨hit,pt⟩) λh' eb=>⟨rfl,?_⟩
   exact I.turnedL (t':=s.toks) (ch:=[e,it]) (λb o hb q=>eb b o (λz=>hb (by simp [z])) q) hf
 self:=λ_ _ _ _ _ st h=>by obtain⟨⟨old,he⟩,_⟩:=st;exact wpAny_pyIter_enum he h
section
variable {X:Cx}
def z34 (K:W.Frag) (ta:TA):TI:=λσ H R=>ta σ H λvs H1=>∃a,vs=[.ref a]/\(∃xs,SqL K H1 a xs)/\R (ItE K a) H1
theorem zz0 {a:Expr} {ta:TA} {p pos tpos:Pos} {elts:List Expr} {k:Nat} (hg:Gl X "enumerate") (hm:X.mg "enumerate"=none) (ha:PA X [a] ta) (hs:starEach [a] X.env=[(false,eval a X.env)]:=by rfl):PI X (.Tuple elts k tpos) (.Call (.Name "enumerate" p) [a] [] pos) (z34 X.K ta):=by
 intro pins s σ H R I h;refine Call_ (zl2 I hg hm zri (qbq (thn (ha pos pins s σ H _ I h) λus s1 ⟨vs,H1,I1,r1,q1⟩=>?_) hs rfl));obtain⟨a,e,⟨xs,hq⟩,q⟩:=q1;subst e;cases r1 with
 | cons r rr =>
   cases rr;cases r;obtain⟨its,rv,p,hz⟩:=I1.list hq;refine call_enumerate_list p.isList λh' he hit _ hk=>?_;refine wpAny_pyIter_enum he ?_;refine⟨s1.heap.objs.size+1,[s1.heap.objs.size+1,s1.heap.objs.size],_,_,H1,rfl,I1.kept (t':=s1.toks) hk,zuv a (s1.heap.objs.size+1) s1.heap.objs.size (Nat.succ_ne_self _),⟨⟨.none,he⟩,hit⟩,λb hb=>?_,q⟩;rcases List.mem_cons.mp hb with z|z
   . subst z;exact I1.fpOk (qcl _) (I1.hok.fresh (qcl _))
   . have z:b=s1.heap.objs.size:=by simpa using z
     subst z;exact I1.fpOk (qae _) (I1.hok.fresh (qae _))
theorem zwc {K:W.Frag} {a:Addr} {xs:List V} {g:TG} {tb:TS} {D:zkb} {σ:St} {H:Hp} (Pv:Nat->St->Hp->Prop) (h0:Pv 0 σ H) (hl:∀i σ H,i<=xs.length->Pv i σ H->SqL K H a xs)
   (hs:∀i x σ H b,xs[i]?=some x->Pv i σ H->H b=none->g (.ref b) σ (upd H b (.tup [.int i,x])) λσ2 H2=>tb { D with nx:=Pv (i+1),ct:=Pv (i+1),bk:=D.nx } σ2 H2) (hd:∀σ H,Pv xs.length σ H->D.nx σ H) :
   ∃W:Nat->Nat->St->Hp->Prop,(∃m,W 0 m σ H)/\∀i m σ H,W i m σ H->((ItE K a).stop i H/\D.nx σ H)\/((ItE K a).go i H/\∃N:St->Hp->Prop,(∀σ' H',N σ' H'->∃m',m'<m/\W (i+1) m' σ' H')/\∀x H',(ItE K a).yld i H x H'->g x σ H' λσ2 H2=>tb { D with nx:=N,ct:=N,bk:=D.nx } σ2 H2):=by
 refine⟨λi m σ H=>m=xs.length - i/\i<=xs.length/\Pv i σ H,⟨xs.length,by simp,qa4 _,h0⟩,?_⟩;rintro i m σ H ⟨rfl,hi,p⟩;have q:=hl i σ H hi p;by_cases hlt:i<xs.length
 . refine .inr ⟨⟨xs,xs[i],q,by simp [hlt]⟩,Pv (i+1),λσ' H' p'=>⟨xs.length - (i+1),by omega,rfl,hlt,p'⟩,λx H' y=>?_⟩;obtain⟨b,rfl,hb,y⟩:=y;rw[y xs xs[i] q (by simp [hlt])];exact hs i xs[i] σ H b (by simp [hlt]) p hb
 . have e:i=xs.length:=by omega
   subst e;exact .inl ⟨⟨xs,q,rfl⟩,hd σ H p⟩
end
end L2
namespace PySem
open Sem (wp)
def ItB (b:Bool) (h:Heap) (it l:Addr) (k:Nat):Prop:=match b with|true=>h.IsTupleIter it l k|false=>h.IsListIter it l k
def SqB (b:Bool) (h:Heap) (l:Addr) (xs:Array Value):Prop:=match b with|true=>h.IsTuple l xs|false=>h.IsList l xs
theorem ItB.at {b:Bool} {h h':Heap} {it l:Addr} {k:Nat} (p:ItB b h it l k) (e:∀o,h.get? it=some o->h'.get? it=some o):ItB b h' it l k:=by cases b <;> (obtain⟨o,ho,r⟩:=p; exact⟨o,e o ho,r⟩)
theorem SqB.at {b:Bool} {h h':Heap} {l:Addr} {xs:Array Value} (p:SqB b h l xs) (e:∀o,h.get? l=some o->h'.get? l=some o):SqB b h' l xs:=by cases b <;> (obtain⟨o,ho,r⟩:=p; exact⟨o,e o ho,r⟩)
theorem ItB.extBut {b:Bool} {h h':Heap} {it l c:Addr} {k:Nat} (p:ItB b h it l k) (e:Heap.ExtBut c h h') (n:it≠c):ItB b h' it l k:=p.at λo ho=>e _ _ n ho
theorem SqB.extBut {b:Bool} {h h':Heap} {l c:Addr} {xs:Array Value} (p:SqB b h l xs) (e:Heap.ExtBut c h h') (n:l≠c):SqB b h' l xs:=p.at λo ho=>e _ _ n ho
theorem ItB.lt {b:Bool} {h:Heap} {it l:Addr} {k:Nat} (p:ItB b h it l k):it<h.objs.size:=by cases b <;> (obtain⟨o,ho,r⟩:=p; exact Heap.lt_size ho)
section
variable {prog:Program} {w:World} {A:Around} {E:Value->Shared->Prop} {s:Shared}
theorem zll {b:Bool} {it l:Addr} {i:Nat} {items:Array Value} {x:Value} {Q:Value->Shared->Prop} (p:ItB b s.heap it l i) (q:SqB b s.heap l items) (hx:items[i]?=some x)
   (hQ:∀h',ItB b h' it l (i+1)->Heap.SameBut it s.heap h'->Q x { s with heap:=h' }):wpAny (model prog w) A (Builtin.SmallTypes.nextOf (.ref it)) Q E s:=by
 cases b with
 | true=>exact L2.gx_nextOf_tup p q hx hQ
 | false=>exact wpAny_nextOf_list_item p q hx hQ
theorem zq7 {b:Bool} {it l:Addr} {i:Nat} {items:Array Value} {Q:Value->Shared->Prop} (hh:A.handled=none) (p:ItB b s.heap it l i) (q:SqB b s.heap l items) (hx:items[i]?=none)
   (hE:∀h' e,Heap.ExtBut it s.heap h'->(∃o,h'.get? e=some o/\o.cls=.type "StopIteration")->E (.ref e) { s with heap:=h' }):wpAny (model prog w) A (Builtin.SmallTypes.nextOf (.ref it)) Q E s:=by
 cases b with
 | true=>exact L2.gx_nextOf_tup_end hh p q hx hE
 | false=>exact wpAny_nextOf_list_end hh p q hx hE
theorem zqf {b1 b2:Bool} {z TI TO i1 i2 l1 l2:Addr} {k1 k2:Nat} {xs ys:Array Value} {x y a b:Value} {Q:Value->Shared->Prop} (D:ZipApart z TI TO i1 i2 l1 l2)
   (zZ:IsZip s.heap z TI TO .none) (zI:IsPair s.heap TI (.ref i1) (.ref i2)) (zO:IsPair s.heap TO a b)
   (p1:ItB b1 s.heap i1 l1 k1) (p2:ItB b2 s.heap i2 l2 k2) (q1:SqB b1 s.heap l1 xs) (q2:SqB b2 s.heap l2 ys) (hx:xs[k1]?=some x) (hy:ys[k2]?=some y)
   (hQ:∀h',IsZip h' z TI TO (rawInt s.heap.objs.size)->IsPair h' TO x y->ItB b1 h' i1 l1 (k1+1)->ItB b2 h' i2 l2 (k2+1)->IsPair h' s.heap.objs.size x y->h'.objs.size=s.heap.objs.size+1 ->
     (∀c o,c≠z->c≠TO->c≠i1->c≠i2->s.heap.get? c=some o->h'.get? c=some o)->Q (.ref s.heap.objs.size) { s with heap:=h' }) :
   wpAny (model prog w) A (Builtin.«zip.__next__» ⟨[.ref z],[]⟩) (λfin s'=>∃v,fin=.done (.ret v)/\Q v s') E s:=by
 show wpAny _ _ (field (.ref z) 2 >>= _) _ _ _; refine wpAny_bind (wpAny_field zZ rfl (x:=.bool false) rfl ?_); show wpAny _ _ (field (.ref z) 3 >>= _) _ _ _; refine wpAny_bind (wpAny_field zZ rfl (x:=.ref TI) rfl ?_); refine wpAny_bind (wpAny_seqItems zI rfl ?_); show wpAny _ _ (Builtin.SmallTypes.ownedTupleIsFree (.ref z) >>= _) _ _ _; refine wpAny_bind ?_; unfold Builtin.SmallTypes.ownedTupleIsFree; refine wpAny_bind (wpAny_field zZ rfl (x:=.none) rfl (wpAny_pure ?_)); simp only[if_true]; refine wpAny_bind (wpAny_rule ?_); refine wpAny_bind (wpAny_field zZ rfl (x:=.ref TO) rfl ?_);refine wpAny_bind (wpAny_setField_rec zZ (by simp) λh₁ zZ₁ hs₁=>?_); replace zZ₁:IsZip h₁ z TI TO .ellipsis:=zZ₁; refine wpAny_bind ?_; simp only[List.zipIdx_cons,List.zipIdx_nil,qda,qd4];refine wpAny_bind (wpAny_bind (wpAny_onRaise ?_)); show wpAny _ _ (Builtin.SmallTypes.nextOf (.ref i1) >>= _) _ _ _; refine wpAny_bind (zll (p1.extBut hs₁.extBut D.i1z) (q1.extBut hs₁.extBut D.l1z) hx λh₂ h1₂ hs₂=>wpAny_pure ?_); have hTO₂:IsPair h₂ TO a b:=hs₂.extBut _ _ D.TOi1 (hs₁.extBut _ _ D.TOz zO); refine wpAny_bind (wpAny_seqItems hTO₂ rfl ?_); refine wpAny_bind (wpAny_updateSeq_pair hTO₂ λh₃ hTO₃ hs₃=>?_); replace hTO₃:IsPair h₃ TO x b:=hTO₃; refine wpAny_bind (wpAny_letGo (wpAny_pure ?_))
 refine wpAny_bind (wpAny_bind (wpAny_onRaise ?_)); show wpAny _ _ (Builtin.SmallTypes.nextOf (.ref i2) >>= _) _ _ _; refine wpAny_bind (zll (((p2.extBut hs₁.extBut D.i2z).extBut hs₂.extBut D.i12.symm).extBut hs₃.extBut D.TOi2.symm)
   (((q2.extBut hs₁.extBut D.l2z).extBut hs₂.extBut D.l2i1).extBut hs₃.extBut D.l2TO) hy λh₄ h2₄ hs₄=>wpAny_pure ?_)
 have hTO₄:IsPair h₄ TO x b:=hs₄.extBut _ _ D.TOi2 hTO₃; refine wpAny_bind (wpAny_seqItems hTO₄ rfl ?_); refine wpAny_bind (wpAny_updateSeq_pair hTO₄ λh₅ hTO₅ hs₅=>?_); replace hTO₅:IsPair h₅ TO x y:=hTO₅; refine wpAny_bind (wpAny_letGo (wpAny_pure (wpAny_pure ?_)));refine wpAny_bind (wpAny_seqItems hTO₅ rfl ?_); refine wpAny_bind (wpAny_newTuple ?_); have hsz:h₅.objs.size=s.heap.objs.size:=(by rw[hs₅.1,hs₄.1,hs₃.1,hs₂.1,hs₁.1]); have hz₅:IsZip h₅ z TI TO .ellipsis:=hs₅.extBut _ _ D.TOz.symm (hs₄.extBut _ _ D.i2z.symm (hs₃.extBut _ _ D.TOz.symm (hs₂.extBut _ _ D.i1z.symm zZ₁))); have hk₅:∀c o,c≠z->c≠TO->c≠i1->c≠i2->s.heap.get? c=some o->h₅.get? c=some o:=λc o c1 c2 c3 c4 e =>
   hs₅.extBut _ _ c2 (hs₄.extBut _ _ c4 (hs₃.extBut _ _ c2 (hs₂.extBut _ _ c3 (hs₁.extBut _ _ c1 e))))
 have h1₅:ItB b1 h₅ i1 l1 (k1+1):=((h1₂.extBut hs₃.extBut D.TOi1.symm).extBut hs₄.extBut D.i12).extBut hs₅.extBut D.TOi1.symm; have h2₅:ItB b2 h₅ i2 l2 (k2+1):=h2₄.extBut hs₅.extBut D.TOi2.symm; have hzlt:z<h₅.objs.size:=Heap.lt_size hz₅; have hTOlt:TO<h₅.objs.size:=Heap.lt_size hTO₅; have hi1lt:i1<h₅.objs.size:=ItB.lt h1₅; have hi2lt:i2<h₅.objs.size:=ItB.lt h2₅; show wpAny _ _ (Builtin.SmallTypes.ownedTupleHandOut (.ref z) (.ref h₅.objs.size) >>= _) _ _ _; refine wpAny_bind ?_; unfold Builtin.SmallTypes.ownedTupleHandOut; have hz₆:IsZip (h₅.push { cls:=.type "tuple",data:=.seq #[x,y] }) z TI TO .ellipsis:=Heap.get?_push_of_some _ hz₅
 refine wpAny_bind (wpAny_setField_rec hz₆ (by simp) λh₇ hz₇ hs₇=>?_); replace hz₇:IsZip h₇ z TI TO (rawInt h₅.objs.size):=hz₇; refine wpAny_setField_rec hz₇ (by simp) λh₈ hz₈ hs₈=>?_; replace hz₈:IsZip h₈ z TI TO (rawInt h₅.objs.size):=hz₈; have up:∀c o,c≠z->h₅.get? c=some o->h₈.get? c=some o:=λc o c1 e=>hs₈.extBut _ _ c1 (hs₇.extBut _ _ c1 (Heap.get?_push_of_some _ e)); have hT₈:IsPair h₈ h₅.objs.size x y:=hs₈.extBut _ _ (qcd hzlt) (hs₇.extBut _ _ (qcd hzlt) (qao _ rfl)); have hz8:h₈.objs.size=h₅.objs.size+1:=(by rw[hs₈.1,hs₇.1,qbx])
 rw[hsz] at hz₈ hT₈ hz8;refine wpAny_pure ⟨_,rfl,?_⟩; show Q (.ref h₅.objs.size) _;rw[hsz];exact hQ h₈ hz₈ (up _ _ D.TOz hTO₅) (h1₅.at λo e=>up _ o D.i1z e) (h2₅.at λo e=>up _ o D.i2z e) hT₈ hz8 λc o c1 c2 c3 c4 e=>up c o c1 (hk₅ c o c1 c2 c3 c4 e)
theorem zse {b1 b2:Bool} {z TI TO i1 i2 l1 l2:Addr} {k1 k2:Nat} {xs ys:Array Value} {a b:Value} {Q:Fin->Shared->Prop} (hh:A.handled=none) (D:ZipApart z TI TO i1 i2 l1 l2)
   (zZ:IsZip s.heap z TI TO .none) (zI:IsPair s.heap TI (.ref i1) (.ref i2)) (zO:IsPair s.heap TO a b)
   (p1:ItB b1 s.heap i1 l1 k1) (p2:ItB b2 s.heap i2 l2 k2) (q1:SqB b1 s.heap l1 xs) (q2:SqB b2 s.heap l2 ys) (hend:xs[k1]?=none\/ys[k2]?=none)
   (hE:∀h' e,(∀c o,c≠z->c≠TO->c≠i1->c≠i2->s.heap.get? c=some o->h'.get? c=some o)->(∃o,h'.get? e=some o/\o.cls=.type "StopIteration")->E (.ref e) { s with heap:=h' }) :
   wpAny (model prog w) A (Builtin.«zip.__next__» ⟨[.ref z],[]⟩) Q E s:=by
 show wpAny _ _ (field (.ref z) 2 >>= _) _ _ _; refine wpAny_bind (wpAny_field zZ rfl (x:=.bool false) rfl ?_); show wpAny _ _ (field (.ref z) 3 >>= _) _ _ _; refine wpAny_bind (wpAny_field zZ rfl (x:=.ref TI) rfl ?_); refine wpAny_bind (wpAny_seqItems zI rfl ?_); show wpAny _ _ (Builtin.SmallTypes.ownedTupleIsFree (.ref z) >>= _) _ _ _; refine wpAny_bind ?_; unfold Builtin.SmallTypes.ownedTupleIsFree; refine wpAny_bind (wpAny_field zZ rfl (x:=.none) rfl (wpAny_pure ?_)); simp only[if_true]; refine wpAny_bind (wpAny_rule ?_); refine wpAny_bind (wpAny_field zZ rfl (x:=.ref TO) rfl ?_);refine wpAny_bind (wpAny_setField_rec zZ (by simp) λh₁ zZ₁ hs₁=>?_); replace zZ₁:IsZip h₁ z TI TO .ellipsis:=zZ₁; refine wpAny_bind ?_; simp only[List.zipIdx_cons,List.zipIdx_nil,qda,qd4]; refine wpAny_bind (wpAny_bind (wpAny_onRaise ?_)); show wpAny _ _ (Builtin.SmallTypes.nextOf (.ref i1) >>= _) _ _ _;cases hx:xs[k1]? with
 | none =>
   refine wpAny_bind (zq7 hh (p1.extBut hs₁.extBut D.i1z) (q1.extBut hs₁.extBut D.l1z) hx λh₂ e hs₂ he=>?_); obtain⟨oe,hoe,hce⟩:=he; have hz₂:IsZip h₂ z TI TO .ellipsis:=hs₂ _ _ D.i1z.symm zZ₁; have hez:e≠z:=(λx=>by subst x; rw[hz₂] at hoe; cases hoe; simp at hce); refine wpAny_setField_rec hz₂ (by simp) λh₃ _ hs₃=>hE h₃ e (λc o c1 _ c3 _ x=>hs₃.extBut _ _ c1 (hs₂ _ _ c3 (hs₁.extBut _ _ c1 x))) ⟨oe,hs₃.extBut _ _ hez hoe,hce⟩
 | some x =>
   have hy:ys[k2]?=none:=(by rcases hend with h|h; rw[hx] at h; cases h; exact h); refine wpAny_bind (zll (p1.extBut hs₁.extBut D.i1z) (q1.extBut hs₁.extBut D.l1z) hx λh₂ h1₂ hs₂=>wpAny_pure ?_); have hTO₂:IsPair h₂ TO a b:=hs₂.extBut _ _ D.TOi1 (hs₁.extBut _ _ D.TOz zO); refine wpAny_bind (wpAny_seqItems hTO₂ rfl ?_); refine wpAny_bind (wpAny_updateSeq_pair hTO₂ λh₃ hTO₃ hs₃=>?_); refine wpAny_bind (wpAny_letGo (wpAny_pure ?_)); refine wpAny_bind (wpAny_bind (wpAny_onRaise ?_)); show wpAny _ _ (Builtin.SmallTypes.nextOf (.ref i2) >>= _) _ _ _; refine wpAny_bind (zq7 hh (((p2.extBut hs₁.extBut D.i2z).extBut hs₂.extBut D.i12.symm).extBut hs₃.extBut D.TOi2.symm)
     (((q2.extBut hs₁.extBut D.l2z).extBut hs₂.extBut D.l2i1).extBut hs₃.extBut D.l2TO) hy λh₄ e hs₄ he=>?_)
   obtain⟨oe,hoe,hce⟩:=he; have hz₄:IsZip h₄ z TI TO .ellipsis:=hs₄ _ _ D.i2z.symm (hs₃.extBut _ _ D.TOz.symm (hs₂.extBut _ _ D.i1z.symm zZ₁)); have hez:e≠z:=(λx=>by subst x; rw[hz₄] at hoe; cases hoe; simp at hce); refine wpAny_setField_rec hz₄ (by simp) λh₅ _ hs₅=>hE h₅ e (λc o c1 c2 c3 c4 x=>hs₅.extBut _ _ c1 (hs₄ _ _ c4 (hs₃.extBut _ _ c2 (hs₂.extBut _ _ c3 (hs₁.extBut _ _ c1 x))))) ⟨oe,hs₅.extBut _ _ hez hoe,hce⟩
theorem zq3 {b1 b2:Bool} {z TI TO i1 i2 l1 l2:Addr} {k1 k2:Nat} {xs ys:Array Value} {x y a b:Value} {Q:Option Value->Shared->Prop} (D:ZipApart z TI TO i1 i2 l1 l2)
   (zZ:IsZip s.heap z TI TO .none) (zI:IsPair s.heap TI (.ref i1) (.ref i2)) (zO:IsPair s.heap TO a b)
   (p1:ItB b1 s.heap i1 l1 k1) (p2:ItB b2 s.heap i2 l2 k2) (q1:SqB b1 s.heap l1 xs) (q2:SqB b2 s.heap l2 ys) (hx:xs[k1]?=some x) (hy:ys[k2]?=some y)
   (hQ:∀h',IsZip h' z TI TO (rawInt s.heap.objs.size)->IsPair h' TO x y->ItB b1 h' i1 l1 (k1+1)->ItB b2 h' i2 l2 (k2+1)->IsPair h' s.heap.objs.size x y->h'.objs.size=s.heap.objs.size+1 ->
     (∀c o,c≠z->c≠TO->c≠i1->c≠i2->s.heap.get? c=some o->h'.get? c=some o)->Q (some (.ref s.heap.objs.size)) { s with heap:=h' }) :
   wpAny (model prog w) A (pyNext (.ref z)) Q E s:=by
 have hT:s.TypeIs (.ref z) "zip":=⟨_,zZ,rfl⟩; unfold pyNext;exact wpAny_bind (wpAny_attempt (wpAny_callSpecial?_slot (name:=Str.ofString "__next__") hT qdc
   (wpAny_call_entry qdc hT F.entry_zip_next
     (zqf D zZ zI zO p1 p2 q1 q2 hx hy λh' a1 a2 a3 a4 a5 a6 a7=>wpAny_pure (hQ h' a1 a2 a3 a4 a5 a6 a7)) (F.args_zip_next_1 _))))
theorem zsv {b1 b2:Bool} {z TI TO i1 i2 l1 l2:Addr} {k1 k2:Nat} {xs ys:Array Value} {a b:Value} {Q:Option Value->Shared->Prop} (hh:A.handled=none) (D:ZipApart z TI TO i1 i2 l1 l2)
   (zZ:IsZip s.heap z TI TO .none) (zI:IsPair s.heap TI (.ref i1) (.ref i2)) (zO:IsPair s.heap TO a b)
   (p1:ItB b1 s.heap i1 l1 k1) (p2:ItB b2 s.heap i2 l2 k2) (q1:SqB b1 s.heap l1 xs) (q2:SqB b2 s.heap l2 ys) (hend:xs[k1]?=none\/ys[k2]?=none)
   (hQ:∀h',(∀c o,c≠z->c≠TO->c≠i1->c≠i2->s.heap.get? c=some o->h'.get? c=some o)->Q none { s with heap:=h' }):wpAny (model prog w) A (pyNext (.ref z)) Q E s:=by
 have hT:s.TypeIs (.ref z) "zip":=⟨_,zZ,rfl⟩; unfold pyNext; refine wpAny_bind (wpAny_attempt (wpAny_callSpecial?_slot (name:=Str.ofString "__next__") hT qdc
   (wpAny_call_entry qdc hT F.entry_zip_next (zse hh D zZ zI zO p1 p2 q1 q2 hend λh' e hk he=>?_) (F.args_zip_next_1 _))))
 obtain⟨o,ho,hc⟩:=he; refine wpAny_bind (wpAny_isInstance (T:="StopIteration") (b:=true) ⟨o,ho,hc⟩ isSubtype_stop ?_);exact wpAny_pure (hQ _ hk)
end
def itO (b:Bool) (l:Addr):Obj:={ cls:=.type (match b with|true=>"tuple_iterator" | false=>"list_iterator"),data:=.fields #[.ref l,.int 0 0] }
theorem zux (b1 b2:Bool) (l1 l2:Addr) (xs ys:Array Value) :
   Meets (Builtin.«zip.__new__» ⟨[.type "zip",.ref l1,.ref l2],[]⟩) (λ_ R s=>SqB b1 s.heap l1 xs/\SqB b2 s.heap l2 ys /\
     R (.ok (.ret (.ref ((((s.heap.push (itO b1 l1)).push (itO b2 l2)).push { cls:=.type "tuple",data:=.seq #[.ref s.heap.objs.size,.ref (s.heap.push (itO b1 l1)).objs.size] }).push { cls:=.type "tuple",data:=.seq #[.none,.none] }).objs.size)))
       { s with heap:=(((((s.heap.push (itO b1 l1)).push (itO b2 l2)).push { cls:=.type "tuple",data:=.seq #[.ref s.heap.objs.size,.ref (s.heap.push (itO b1 l1)).objs.size] }).push { cls:=.type "tuple",data:=.seq #[.none,.none] }).push
         { cls:=.type "zip",data:=.fields #[.none,.bool false,.bool false,.ref ((s.heap.push (itO b1 l1)).push (itO b2 l2)).objs.size,.ref (((s.heap.push (itO b1 l1)).push (itO b2 l2)).push { cls:=.type "tuple",data:=.seq #[.ref s.heap.objs.size,.ref (s.heap.push (itO b1 l1)).objs.size] }).objs.size] }) }) :=
 .of_wp λprog w A R s h=>by
   obtain⟨hp,g,d,tk,os⟩:=s; obtain⟨q1,q2,h⟩:=h;have hsub:=sub_zip;have q2':SqB b2 (hp.push (itO b1 l1)) l2 ys:=q2.at λo e=>Heap.get?_push_of_some _ e;cases b1 with
   | true =>
     have hL1:Heap.IsTuple (Shared.heap ⟨hp,g,d,tk,os⟩) l1 xs:=q1;cases b2 with
     | true =>
       have hL2:Heap.IsTuple (Shared.heap ⟨hp.push { cls:=.type "tuple_iterator",data:=.fields #[.ref l1,.int 0 0] },g,d,tk,os⟩) l2 ys:=q2'
       wp_walk using wpAny_pyIter_tuple hL1,wpAny_pyIter_tuple hL2; exact⟨_,rfl,h⟩
     | false =>
       have hL2:Heap.IsList (Shared.heap ⟨hp.push { cls:=.type "tuple_iterator",data:=.fields #[.ref l1,.int 0 0] },g,d,tk,os⟩) l2 ys:=q2'
       wp_walk using wpAny_pyIter_tuple hL1,wpAny_pyIter_list hL2; exact⟨_,rfl,h⟩
   | false =>
     have hL1:Heap.IsList (Shared.heap ⟨hp,g,d,tk,os⟩) l1 xs:=q1;cases b2 with
     | true =>
       have hL2:Heap.IsTuple (Shared.heap ⟨hp.push { cls:=.type "list_iterator",data:=.fields #[.ref l1,.int 0 0] },g,d,tk,os⟩) l2 ys:=q2'
       wp_walk using wpAny_pyIter_list hL1,wpAny_pyIter_tuple hL2; exact⟨_,rfl,h⟩
     | false =>
       have hL2:Heap.IsList (Shared.heap ⟨hp.push { cls:=.type "list_iterator",data:=.fields #[.ref l1,.int 0 0] },g,d,tk,os⟩) l2 ys:=q2'
       wp_walk using wpAny_pyIter_list hL1,wpAny_pyIter_list hL2; exact⟨_,rfl,h⟩
section
variable {prog:Program} {w:World} {A:Around} {E:Value->Shared->Prop} {s:Shared}
theorem z02 {b:Bool} {h:Heap} {it l:Addr} (e:h.get? it=some (itO b l)):ItB b h it l 0:=by cases b <;> exact⟨_,e,rfl,rfl⟩
theorem zsl {b1 b2:Bool} {l1 l2:Addr} {xs ys:Array Value} {Q:Value->Shared->Prop} (q1:SqB b1 s.heap l1 xs) (q2:SqB b2 s.heap l2 ys)
   (h:∀h' (n:Nat),n=s.heap.objs.size->IsZip h' (n+4) (n+2) (n+3) .none->IsPair h' (n+2) (.ref n) (.ref (n+1))->IsPair h' (n+3) .none .none->ItB b1 h' n l1 0->ItB b2 h' (n+1) l2 0 ->
     (∀c o,s.heap.get? c=some o->h'.get? c=some o)->Q (.ref (n+4)) { s with heap:=h' }) :
   wpAny (model prog w) A (call (.type "zip") [.ref l1,.ref l2]) Q E s:=by
 refine callType_new F.called_zip (by decide) (F.typeCall_zip_2 _ _) (F.newCall_zip_2 _ _) (λobj=>F.args_object_init_3 obj _ _) F.entry_zip_new (zux b1 b2 l1 l2 xs ys) ⟨q1,q2,?_⟩;generalize ho1:itO b1 l1=o1;generalize ho2:itO b2 l2=o2;have z1:(s.heap.push o1).objs.size=s.heap.objs.size+1:=qbx ..;have z2:((s.heap.push o1).push o2).objs.size=s.heap.objs.size+2:=by rw[qbx,z1]
 rw[z1,z2];generalize hT1:({ cls:=.type "tuple",data:=.seq #[.ref s.heap.objs.size,.ref (s.heap.objs.size+1)] }:Obj)=t1;generalize hT2:({ cls:=.type "tuple",data:=.seq #[.none,.none] }:Obj)=t2;have z3:(((s.heap.push o1).push o2).push t1).objs.size=s.heap.objs.size+3:=by rw[qbx,z2]
 have z4:((((s.heap.push o1).push o2).push t1).push t2).objs.size=s.heap.objs.size+4:=by rw[qbx,z3]
 rw[z3,z4];generalize hZ:({ cls:=.type "zip",data:=.fields #[.none,.bool false,.bool false,.ref (s.heap.objs.size+2),.ref (s.heap.objs.size+3)] }:Obj)=tz;have g5:=qao ((((s.heap.push o1).push o2).push t1).push t2) (o:=tz) (by rw[<- hZ]; rfl);have g4:=Heap.get?_push_of_some tz (qao (((s.heap.push o1).push o2).push t1) (o:=t2) (by rw[<- hT2]; rfl));have g3:=Heap.get?_push_of_some tz (Heap.get?_push_of_some t2 (qao ((s.heap.push o1).push o2) (o:=t1) (by rw[<- hT1]; rfl)));have g2:=Heap.get?_push_of_some tz (Heap.get?_push_of_some t2 (Heap.get?_push_of_some t1 (qao (s.heap.push o1) (o:=o2) (by rw[<- ho2]; rfl))));have g1:=Heap.get?_push_of_some tz (Heap.get?_push_of_some t2 (Heap.get?_push_of_some t1 (Heap.get?_push_of_some o2 (qao s.heap (o:=o1) (by rw[<- ho1]; rfl)))));rw[z4] at g5;rw[z3] at g4;rw[z2] at g3;rw[z1] at g2;subst hZ hT1 hT2 ho1 ho2;exact⟨⟨_,g5,rfl⟩,h _ s.heap.objs.size rfl g5 g3 g4 (z02 g1) (z02 g2) λc o x =>
   Heap.get?_push_of_some _ (Heap.get?_push_of_some _ (Heap.get?_push_of_some _ (Heap.get?_push_of_some _ (Heap.get?_push_of_some _ x))))⟩
end
end PySem
namespace L2
open PySem PySem.Spec PyProof.Rows
def SqV (b:Bool) (K:W.Frag) (H:Hp) (l:Addr) (xs:List V):Prop:=match b with|true=>SqT K H l xs|false=>SqL K H l xs
theorem Inv.sqv {X:Cx} {pins:List (Addr×Obj)} {σ:St} {H:Hp} {s:Shared} {b:Bool} {l:Addr} {xs:List V} (I:Inv X pins σ H s) (h:SqV b X.K H l xs):∃its:List Value,zcw xs its/\SqB b s.heap l its.toArray:=by
 cases b with
 | true=>obtain⟨its,r,p,_⟩:=I.tuple h; exact⟨its,r,p⟩
 | false=>obtain⟨its,r,p,_⟩:=I.list h; exact⟨its,r,p.isList⟩
theorem Inv.sqv_inj {X:Cx} {pins:List (Addr×Obj)} {σ:St} {H:Hp} {s:Shared} {b:Bool} {l:Addr} {xs ys:List V} (I:Inv X pins σ H s) (h:SqV b X.K H l xs) (h':SqV b X.K H l ys):xs=ys:=by
 cases b with
 | true=>exact I.tuple_inj h h'
 | false=>exact I.list_inj h h'
theorem SqB.lt {b:Bool} {h:Heap} {l:Addr} {xs:Array Value} (p:SqB b h l xs):l<h.objs.size:=by cases b <;> (obtain⟨o,ho,r⟩:=p; exact Heap.lt_size ho)
def Itz (K:W.Frag) (b1 b2:Bool) (l1 l2:Addr):It :=
 ⟨λi H=>∃xs ys x y,SqV b1 K H l1 xs/\SqV b2 K H l2 ys/\xs[i]?=some x/\ys[i]?=some y,
  λi H v H'=>∃b,v=.ref b/\H b=none/\∀xs ys x y,SqV b1 K H l1 xs->SqV b2 K H l2 ys->xs[i]?=some x->ys[i]?=some y->H'=upd H b (.tup [x,y]),
  λi H=>∃xs ys,SqV b1 K H l1 xs/\SqV b2 K H l2 ys/\(xs[i]?=none\/ys[i]?=none)⟩
theorem z0b {P:Program} {w:World} {K:W.Frag} {elts:List Expr} {k:Nat} {pos:Pos} (b1 b2:Bool) (z TI TO i1 i2 l1 l2:Addr) (D:ZipApart z TI TO i1 i2 l1 l2) :
   Turn P w K (.Tuple elts k pos) (Itz K b1 b2 l1 l2) [z,TI,TO,i1,i2] z (λi h=>IsZip h z TI TO .none/\IsPair h TI (.ref i1) (.ref i2)/\(∃a b,IsPair h TO a b)/\ItB b1 h i1 l1 i/\ItB b2 h i2 l2 i) where
 mem:=by simp
 obj:=λi h st b hb=>by
   obtain⟨hz,hTI,⟨a,c,hTO⟩,h1,h2⟩:=st;simp only[List.mem_cons,qbi,or_false] at hb;rcases hb with rfl|rfl|rfl|rfl|rfl
   . exact⟨_,hz,λv z=>by cases (show Data.fields _=Data.cell v from z)⟩
   . exact⟨_,hTI,λv z=>by cases (show Data.seq _ _=Data.cell v from z)⟩
   . exact⟨_,hTO,λv z=>by cases (show Data.seq _ _=Data.cell v from z)⟩
   . cases b1 <;> (obtain⟨o,ho,hc,hd⟩:=h1; exact⟨o,ho,λv z=>by rw[hd] at z; cases z⟩)
   . cases b2 <;> (obtain⟨o,ho,hc,hd⟩:=h2; exact⟨o,ho,λv z=>by rw[hd] at z; cases z⟩)
 keep:=λi h h' st kk=>by obtain⟨hz,hTI,⟨a,c,hTO⟩,h1,h2⟩:=st;exact⟨kk _ (by simp) _ hz,kk _ (by simp) _ hTI,⟨a,c,kk _ (by simp) _ hTO⟩,h1.at λo e=>kk _ (by simp) o e,h2.at λo e=>kk _ (by simp) o e⟩
 item:=by
   intro X hP hw hK hc i pins s σ H E I hf st hg;subst hP hw hK;obtain⟨hz,hTI,⟨oa,ob,hTO⟩,h1,h2⟩:=st;obtain⟨xs,ys,x,y,e1,e2,hx,hy⟩:=hg;obtain⟨is1,r1,p1⟩:=I.sqv e1;obtain⟨is2,r2,p2⟩:=I.sqv e2;obtain⟨u,hu,ru⟩:=r1.get hx;obtain⟨v,hv,rv⟩:=r2.get hy;refine zq3 D hz hTI hTO h1 h2 p1 p2 (by simpa using hu) (by simpa using hv) λh' a1 a2 a3 a4 a5 a6 hk=>?_;refine⟨_,rfl,wpAny_letOwnedTupleGo_zip a1 λh3 hz3 hs3=>?_⟩;have hs3:Heap.SameBut z h' h3:=hs3;have hzlt:z<s.heap.objs.size:=Heap.lt_size hz;have hfr:H s.heap.objs.size=none:=I.hok.fresh (qae _);have hnS:s.heap.objs.size≠z:=qcd hzlt;have hT3:IsPair h3 s.heap.objs.size u v:=(hs3.2 _ hnS).trans a5;refine⟨.ref s.heap.objs.size,upd H s.heap.objs.size (.tup [x,y]),I.turnLaid (t':=s.toks) (ch:=[z,TI,TO,i1,i2]) (λb o hb q=>?_) hf (qae _) ?_,rfl,⟨s.heap.objs.size,rfl,hfr,λxs' ys' x' y' q1 q2 hx' hy'=>?_⟩,⟨hz3,?_,⟨u,v,?_⟩,?_,?_⟩,λb hb=>?_⟩
   . have n1:b≠z:=λzz=>hb (by simp [zz]);have n3:b≠TO:=λzz=>hb (by simp [zz]);have n4:b≠i1:=λzz=>hb (by simp [zz]);have n5:b≠i2:=λzz=>hb (by simp [zz]);exact(hs3.2 b n1).trans (hk b o n1 n3 n4 n5 q)
   . exact⟨by show 2<=sizeLine; decide,[u,v],.cons ru (.cons rv .nil),⟨_,hT3,rfl,_,rfl⟩⟩
   . have t1:=I.sqv_inj q1 e1;have t2:=I.sqv_inj q2 e2;subst t1 t2;rw[hx] at hx';rw[hy] at hy';cases hx';cases hy';rfl
   . exact(hs3.2 _ D.TIz).trans (hk _ _ D.TIz D.TITO D.TIi1 D.TIi2 hTI)
   . exact(hs3.2 _ D.TOz).trans a2
   . exact a3.at λo e=>(hs3.2 _ D.i1z).trans e
   . exact a4.at λo e=>(hs3.2 _ D.i2z).trans e
   . have hb0:=(hf b hb).1;rw[zag]
     . exact hb0
     . intro zz;subst zz;simp only[List.mem_cons,qbi,or_false] at hb;rcases hb with e|e|e|e|e
       . exact hnS e
       . exact absurd (Heap.lt_size hTI) (by rw[<- e]; exact qbf _)
       . exact absurd (Heap.lt_size hTO) (by rw[<- e]; exact qbf _)
       . exact absurd h1.lt (by rw[<- e]; exact qbf _)
       . exact absurd h2.lt (by rw[<- e]; exact qbf _)
 done:=by
   intro X hP hw hK hc i pins s σ H E I hf st hg;subst hP hw hK;obtain⟨hz,hTI,⟨oa,ob,hTO⟩,h1,h2⟩:=st;obtain⟨xs,ys,e1,e2,hend⟩:=hg;obtain⟨is1,r1,p1⟩:=I.sqv e1;obtain⟨is2,r2,p2⟩:=I.sqv e2;refine zsv (I.ok.hd hc) D hz hTI hTO h1 h2 p1 p2 ?_ λh' hk=>⟨rfl,?_⟩
   . rcases hend with h|h
     . left; have:=r1.none_of h; simpa using this
     . right; have:=r2.none_of h; simpa using this
   . exact I.turnedL (t':=s.toks) (ch:=[z,TI,TO,i1,i2]) (λb o hb q=>hk b o (λzz=>hb (by simp [zz])) (λzz=>hb (by simp [zz])) (λzz=>hb (by simp [zz])) (λzz=>hb (by simp [zz])) q) hf
 self:=λ_ _ _ _ _ st h=>wpAny_pyIter_zip st.1 h
section
variable {X:Cx}
def iZip (b1 b2:Bool) (K:W.Frag) (ta:TA):TI:=λσ H R=>ta σ H λvs H1=>∃l1 l2,vs=[.ref l1,.ref l2]/\(∃xs,SqV b1 K H1 l1 xs)/\(∃ys,SqV b2 K H1 l2 ys)/\R (Itz K b1 b2 l1 l2) H1
theorem z0t (b1 b2:Bool) {a b:Expr} {ta:TA} {p pos tpos:Pos} {elts:List Expr} {k:Nat} (hg:Gl X "zip") (hm:X.mg "zip"=none) (ha:PA X [a,b] ta) (hs:starEach [a,b] X.env=(false,eval a X.env) :: starEach [b] X.env:=by rfl) (hs2:(backTo pos (starEach [b] X.env)).any (·.1)=false:=by rfl) :
   PI X (.Tuple elts k tpos) (.Call (.Name "zip" p) [a,b] [] pos) (iZip b1 b2 X.K ta):=by
 intro pins s σ H R I h;refine Call_ (zl2 I hg hm z4c (qbq (thn (ha pos pins s σ H _ I h) λus s1 ⟨vs,H1,I1,r1,q1⟩=>?_) hs hs2));obtain⟨l1,l2,e,⟨xs,hx⟩,⟨ys,hy⟩,q⟩:=q1;subst e;cases r1 with
 | cons r rr =>
   cases rr with
   | cons r' rr =>
     cases rr;cases r;cases r';obtain⟨is1,v1,p1⟩:=I1.sqv hx;obtain⟨is2,v2,p2⟩:=I1.sqv hy;refine zsl p1 p2 λh' n hn hz hTI hTO h1 h2 hk=>?_;subst hn;refine wpAny_pyIter_zip hz ?_;refine⟨s1.heap.objs.size+4,[s1.heap.objs.size+4,s1.heap.objs.size+2,s1.heap.objs.size+3,s1.heap.objs.size,s1.heap.objs.size+1],_,_,H1,rfl,I1.kept (t':=s1.toks) hk,z0b b1 b2 _ _ _ _ _ l1 l2 (zipApart_new (SqB.lt p1) (SqB.lt p2)),⟨hz,hTI,⟨_,_,hTO⟩,h1,h2⟩,λb hb=>?_,q⟩;have hb':s1.heap.objs.size<=b:=by simp only[List.mem_cons,qbi,or_false] at hb;rcases hb with e|e|e|e|e <;> rw[e] <;> first|exact qae _|exact Nat.le_add_right _ _
     exact I1.fpOk hb' (I1.hok.fresh hb')
theorem zx9 {b1 b2:Bool} {K:W.Frag} {l1 l2:Addr} {xs ys:List V} {g:TG} {tb:TS} {D:zkb} {σ:St} {H:Hp} (Pv:Nat->St->Hp->Prop) (h0:Pv 0 σ H) (hl:∀i σ H,i<=min xs.length ys.length->Pv i σ H->SqV b1 K H l1 xs/\SqV b2 K H l2 ys)
   (hs:∀i x y σ H b,xs[i]?=some x->ys[i]?=some y->Pv i σ H->H b=none->g (.ref b) σ (upd H b (.tup [x,y])) λσ2 H2=>tb { D with nx:=Pv (i+1),ct:=Pv (i+1),bk:=D.nx } σ2 H2) (hd:∀σ H,Pv (min xs.length ys.length) σ H->D.nx σ H) :
   ∃W:Nat->Nat->St->Hp->Prop,(∃m,W 0 m σ H)/\∀i m σ H,W i m σ H->((Itz K b1 b2 l1 l2).stop i H/\D.nx σ H)\/((Itz K b1 b2 l1 l2).go i H/\∃N:St->Hp->Prop,(∀σ' H',N σ' H'->∃m',m'<m/\W (i+1) m' σ' H')/\∀x H',(Itz K b1 b2 l1 l2).yld i H x H'->g x σ H' λσ2 H2=>tb { D with nx:=N,ct:=N,bk:=D.nx } σ2 H2):=by
 refine⟨λi m σ H=>m=min xs.length ys.length - i/\i<=min xs.length ys.length/\Pv i σ H,⟨min xs.length ys.length,by simp,qa4 _,h0⟩,?_⟩;rintro i m σ H ⟨rfl,hi,p⟩;obtain⟨q1,q2⟩:=hl i σ H hi p;by_cases hlt:i<min xs.length ys.length
 . have l1':i<xs.length:=by omega
   have l2':i<ys.length:=by omega
   refine .inr ⟨⟨xs,ys,xs[i],ys[i],q1,q2,by simp [l1'],by simp [l2']⟩,Pv (i+1),λσ' H' p'=>⟨min xs.length ys.length - (i+1),by omega,rfl,hlt,p'⟩,λx H' y=>?_⟩;obtain⟨b,rfl,hb,y⟩:=y;rw[y xs ys xs[i] ys[i] q1 q2 (by simp [l1']) (by simp [l2'])];exact hs i xs[i] ys[i] σ H b (by simp [l1']) (by simp [l2']) p hb
 . have e:i=min xs.length ys.length:=by omega
   subst e;refine .inl ⟨⟨xs,ys,q1,q2,?_⟩,hd σ H p⟩;rcases Nat.le_total xs.length ys.length with h|h
   . left; rw[qcp h]; exact qbb (qae _)
   . right; rw[Nat.min_eq_right h]; exact qbb (qae _)
end
structure ClsOk (K:W.Frag) (mg:Str->Option Value) (name:Str) (C:Addr):Prop where
 cl:Cls K C
 g:mg name=some (.ref C)
structure MetOk (K:W.Frag) (C:Addr) (m qual:Str) (st:Stmt) (ps:List Str) (f:Addr) (fd:FuncData):Prop where
 F:Fun K m qual st f fd
 b:zjm K fd ps []
 m:Meth K C m f
structure IniOk (K:W.Frag) (C:Addr) (qual:Str) (st:Stmt) (ps:List Str) (f:Addr) (fd:FuncData):Prop where
 F:Fun K "__init__" qual st f fd
 b:zjm K fd ps []
 M:Mk K C f
section
variable {X:Cx} {k:Nat} {C f:Addr} {fd:FuncData} {ps:List Str} {sp:Sp} {x m qual:Str} {st:Stmt} {p pos apos:Pos} {o e:Expr} {es:List Expr} {ta:TE} {t:TA}
theorem zzb (Cc:ClsOk X.K X.mg x C) (D:IniOk X.K C qual st ps f fd) (G:FnOk X.prog X.w X.K X.mg X.base CX0 k f fd ps sp) (hr:Room (k+1) X.A) (ha:PA X (e :: es) t) (hg:Gl X x:=by rfl)
   (hdb:(x==("__debug__":Str))=false:=by decide) (he:starEach (e :: es) X.env=(false,eval e X.env) :: starEach es X.env:=by rfl) (hpl:(backTo pos (starEach es X.env)).any (·.1)=false:=by rfl) :
   PE X (.Call (.Name x p) (e :: es) [] pos) (z3m C sp [] E0 t):=z27 D.M G hr hg Cc.g D.b .nil zcq ha hdb he hpl
theorem zbn {K:W.Frag} {C:Addr} {m qual:Str} {st:Stmt} {ps:List Str} {f:Addr} {oc:Value} {od an:Option Addr} {osl:Array (Option Value)} {kV doc pm cdv ct:Value}
   (a:PySem.W.findIn K (.ref C) m=some (some (.ref f))) (i:PySem.W.isFn K (.ref f)=true) (l:K.lookup f=some ⟨oc,od,.func (PySem.W.fnOf m qual (zdi st) (zaw st) (zai st) .none kV doc pm an cdv ct),osl⟩) (c:PySem.W.codeIn K cdv qual=true) (k:PySem.W.keepIn K (.ref f)=true)
   (b:∀(kV doc pm:Value) (an:Option Addr) (cdv ct:Value) (us:List Value),us.length=ps.length->bindArgs (PySem.W.fnOf m qual (zdi st) (zaw st) (zai st) .none kV doc pm an cdv ct) ⟨us,[]⟩=pure (ps.zip us)) :
   MetOk K C m qual st ps f (PySem.W.fnOf m qual (zdi st) (zaw st) (zai st) .none kV doc pm an cdv ct) :=
 ⟨zlz l c k,(zlz l c k).binds b,⟨a,i,k⟩⟩
theorem zpj {K:W.Frag} {C:Addr} {qual:Str} {st:Stmt} {ps:List Str} {f:Addr} {oc:Value} {od an:Option Addr} {osl:Array (Option Value)} {kV doc pm cdv ct:Value}
   (mk:PySem.W.makesIn K C=true) (kc:PySem.W.keepIn K (.ref C)=true) (a:PySem.W.findIn K (.ref C) "__init__"=some (some (.ref f))) (i:PySem.W.isFn K (.ref f)=true) (l:K.lookup f=some ⟨oc,od,.func (PySem.W.fnOf "__init__" qual (zdi st) (zaw st) (zai st) .none kV doc pm an cdv ct),osl⟩) (c:PySem.W.codeIn K cdv qual=true) (k:PySem.W.keepIn K (.ref f)=true)
   (b:∀(kV doc pm:Value) (an:Option Addr) (cdv ct:Value) (us:List Value),us.length=ps.length->bindArgs (PySem.W.fnOf "__init__" qual (zdi st) (zaw st) (zai st) .none kV doc pm an cdv ct) ⟨us,[]⟩=pure (ps.zip us)) :
   IniOk K C qual st ps f (PySem.W.fnOf "__init__" qual (zdi st) (zaw st) (zai st) .none kV doc pm an cdv ct) :=
 ⟨zlz l c k,(zlz l c k).binds b,⟨mk,a,i,kc⟩⟩
end
theorem u1' {A:Around} (h:A.units+64<cLine):A.units+1<cLine:=by omega
section
variable {prog:Program} {w:World} {A:Around} {E:Value->Shared->Prop} {s:Shared}
open HT in
theorem zlm {t sl:Addr} {items:Array Value} {vl vu:Value} {lo hi:Option Int} {Q:Value->Shared->Prop} (ht:IsTup s.heap t items) (hs:s.heap.IsSliceOf sl vl vu .none) (pl:IsPart vl lo) (pu:IsPart vu hi)
   (hw:sIx items.size 0 lo=0/\sIx items.size items.size hi=items.size) (h:Q (.ref t) s):wpAny (model prog w) A (getItem (.ref t) (.ref sl)) Q E s:=by
 obtain⟨os,hos,hcs,hds⟩:=id hs;have tS:s.TypeIs (.ref sl) "slice":=⟨os,hos,hcs⟩
 unfold getItem; try with_reducible refine wpAny_holding ?_
 first|refine wpAny_bind (wpAny_pure ?_)|skip
 refine wpAny_bind (wpAny_sequenceKey ht.typeIs (by decide) ?_); refine wpAny_bind (wpAny_callSpecial?_slot (name:=Str.ofString "__getitem__") ht.typeIs qbl (wpAny_call_entry qbl ht.typeIs entry_tuple_getitem ?_ (args_tuple_getitem _ _)));show wpAny _ _ (Builtin.Tuple.tupleItemsOf (.ref t) >>= _) _ _ s; refine wpAny_bind (tupleItemsOf_ ht ?_); refine wpAny_bind (wpAny_typeOf tS ?_); rw[if_pos (by decide)]; refine wpAny_bind (zh5 hs pl pu ?_);have yes:(((sIx items.size 0 lo:Nat):Int)==0&&(1:Int)==1&&(sIx items.size items.size hi - sIx items.size 0 lo)==items.size)=true:=by rw[hw.1,hw.2];simp
 show wpAny _ _ (if(((sIx items.size 0 lo:Nat):Int)==0&&(1:Int)==1&&(sIx items.size items.size hi - sIx items.size 0 lo)==items.size)=true then _ else _) _ _ s; rw[if_pos yes];show wpAny _ _ (Builtin.Tuple.tupleIsExact (.ref t) >>= _) _ _ s;unfold Builtin.Tuple.tupleIsExact;refine wpAny_bind (wpAny_bind (wpAny_typeOf ht.typeIs (wpAny_pure ?_)));rw[if_pos (by decide)];exact wpAny_bind (wpAny_rule (wpAny_bind (wpAny_pure (wpAny_pure ⟨_,rfl,wpAny_pure h⟩))))
end
def rSlW (K:W.Frag):V->Option Int->Option Int->Hp->VK->Prop:=λx lo hi H Q=>∃a xs,x=.ref a/\SqT K H a xs /\
 (HT.sIx xs.length 0 lo=0/\HT.sIx xs.length xs.length hi=xs.length)/\Q (.ref a) H
theorem z2g {X:Cx}:SlR X (rSlW X.K):=by
 intro pins s σ H x v vl vu lo hi sl Q I rx hs pl pu h;obtain⟨a,xs,rfl,hx,hw,q⟩:=h;cases rx;obtain⟨its,r,ht,hz⟩:=I.tuple hx;have hlen:its.toArray.size=xs.length:=by rw[List.size_toArray]; exact r.length.symm
 refine⟨"tuple",_,qbl.lookup,ht.typeIs,zlm ht hs pl pu (by rw[hlen]; exact hw) ⟨.ref a,H,I,rfl,q⟩⟩
def rSlA (K:W.Frag):V->Option Int->Option Int->Hp->VK->Prop:=λx lo hi H Q=>rSlT K x lo hi H Q\/rSlW K x lo hi H Q
theorem z21 {X:Cx}:SlR X (rSlA X.K):=z5i.or z2g
theorem zsz {K:W.Frag} {H:Hp} {Q:VK} {a:Addr} {xs:List V} {lo hi:Option Int} (h:SqT K H a xs) (q:∀p H',zaj H H'->SqT K H' p (zjr xs lo hi)->Q (.ref p) H'):rSlA K (.ref a) lo hi H Q:=by
 by_cases hw:HT.sIx xs.length 0 lo=0/\HT.sIx xs.length xs.length hi=xs.length
 . refine .inr ⟨a,xs,rfl,h,hw,q a H (zaj.refl _) ?_⟩;have:zjr xs lo hi=xs:=by unfold zjr;rw[hw.1,hw.2,qdi,Nat.sub_zero,qbs]
   rw[this];exact h
 . exact .inl ⟨a,xs,rfl,h,hw,λp hp=>q p _ (zaj.new hp) (SqT.of zab)⟩
end L2
namespace K12
open PySem L2
def step (acc:List Str) (s:Str):List Str:=if s∈acc then acc else acc++[s]
def onceL (ss:List Str):List Str:=ss.foldl step []
def strsOf (as:List V):List Str:=as.filterMap λv=>match v with | .str s=>some s|_=>none
theorem strsOf_append (a b:List V):strsOf (a++b)=strsOf a++strsOf b:=List.filterMap_append ..
theorem zvr (i:Int):strsOf [.int i]=[]:=rfl
theorem strsOf_map (ss:List Str):strsOf (ss.map V.str)=ss:=by
 induction ss with
 | nil=>rfl
 | cons s r ih=>rw[qa2]; show s :: strsOf (r.map V.str)=_; rw[ih]
theorem zzm (acc:List Str) (s:Str):∀x∈acc,x∈step acc s:=λx hx=>by
 unfold step;split
 . exact hx
 . exact qbe _ hx
theorem zy8 (acc:List Str) (s:Str):s∈step acc s:=by
 unfold step;split
 . assumption
 . exact List.mem_append_right _ (by simp)
theorem ztt:∀(ss acc:List Str),∀x∈acc,x∈ss.foldl step acc
 | [],acc,x,hx=>hx
 | s :: ss,acc,x,hx=>ztt ss _ x (zzm acc s x hx)
theorem fold_has:∀(ss acc:List Str),∀x∈ss,x∈ss.foldl step acc
 | s :: ss,acc,x,hx=>by
   rcases List.mem_cons.mp hx with e|e
   . subst e;exact ztt ss _ _ (zy8 acc _)
   . exact fold_has ss _ x e
theorem zqj:∀(B:List Str) (acc C:List Str),(B.foldl step C).foldl step acc=B.foldl step (C.foldl step acc)
 | [],acc,C=>rfl
 | s :: B,acc,C=>by
   rw[qa6,zqj B acc (step C s),qa6];congr 1;unfold step;by_cases h:s∈C
   . rw[if_pos h];have h2:s∈C.foldl step acc:=fold_has C acc s h;have h2':s∈List.foldl (λacc s=>if s∈acc then acc else acc++[s]) acc C:=h2;rw[if_pos h2']
   . rw[if_neg h,qba];rfl
theorem zxo (A B C:List Str):onceL (A++onceL B++C)=onceL (A++B++C):=by unfold onceL;rw[qba,qba,qba,qba];have e:=zqj B (A.foldl step []) [];rw[e];rfl
theorem onceL_sub (ss:List Str):∀x∈onceL ss,x∈ss:=by
 have key:∀(ss acc:List Str),∀x∈ss.foldl step acc,x∈acc\/x∈ss:=by
   intro ss
   induction ss with
   | nil=>intro acc x hx; exact .inl hx
   | cons s ss ih =>
     intro acc x hx;rcases ih _ x hx with h|h
     . unfold step at h;split at h
       . exact .inl h
       . rcases List.mem_append.mp h with h|h
         . exact .inl h
         . have:x=s:=by simpa using h
           exact .inr (by rw[this]; exact List.mem_cons_self)
     . exact .inr (List.mem_cons_of_mem _ h)
 intro x hx;rcases key ss [] x hx with h|h
 . cases h
 . exact h
theorem zy4 (acc:List Str) (s:Str):(step acc s).length<=acc.length+1:=by
 unfold step;split
 . omega
 . simp
theorem onceL_len (ss:List Str):(onceL ss).length<=ss.length:=by
 have key:∀(ss acc:List Str),(ss.foldl step acc).length<=acc.length+ss.length:=by
   intro ss
   induction ss with
   | nil=>intro acc; simp
   | cons s ss ih =>
     intro acc;have h1:=ih (step acc s);have h2:=zy4 acc s;rw[qa6];simp only[qa8];omega
 have:=key ss [];unfold onceL;simpa using this
def tru (ss:List Str):List (Key×V):=ss.map λs=>(Sum.inr s,V.bl true)
theorem z1k (acc:List Str) (s:Str):zbx (tru acc) (Sum.inr s) (.bl true)=tru (step acc s):=by
 unfold zbx step;have e:((tru acc).any λkv=>decide (kv.1=(Sum.inr s:Key)))=decide (s∈acc):=by
   unfold tru;rw[List.any_map];rw[qbz,qcc];simp only[Function.comp,decide_eq_true_eq];constructor
   . rintro ⟨x,hx,h⟩;have:x=s:=Sum.inr.inj h;rw[<- this];exact hx
   . intro h;exact⟨s,h,rfl⟩
 rw[e];by_cases h:s∈acc
 . rw[decide_eq_true h,if_pos rfl,if_pos h];unfold tru;rw[qbt];apply List.map_congr_left;intro x _;show(if(Sum.inr x:Key)=Sum.inr s then((Sum.inr x:Key),V.bl true) else(Sum.inr x,V.bl true))=_;split <;> rfl
 . rw[decide_eq_false h,if_neg (by decide),if_neg h];unfold tru;rw[List.map_append];rfl
theorem ztz:∀(ss acc:List Str),(tru ss).foldl (λacc kv=>zbx acc kv.1 kv.2) (tru acc)=tru (ss.foldl step acc)
 | [],acc=>rfl
 | s :: ss,acc=>by show(tru ss).foldl _ (zbx (tru acc) (Sum.inr s) (.bl true))=_;rw[z1k];exact ztz ss (step acc s)
theorem zzj (ss:List Str):(tru ss).foldl (λacc kv=>zbx acc kv.1 kv.2) []=tru (onceL ss):=ztz ss []
theorem zyx (ss:List Str):((tru ss).map λkv=>kV kv.1)=ss.map V.str:=by unfold tru;rw[qbt];rfl
theorem z3b {K:W.Frag} {H:Hp} {a q:Addr} {xs l l':List V} (h:SqT K H a xs) (hq:H q=some (.lst l)):SqT K (upd H q (.lst l')) a xs:=by
 rcases h with(h|⟨o,h⟩)|h
 . exact .inl (.inl (by rw[zag (zsa h hq (by intro z; cases z))]; exact h))
 . exact .inl (.inr ⟨o,by rw[zag (zsa h hq (by intro z; cases z))]; exact h⟩)
 . exact .inr h
def Nm (s:Str):Prop:=s.length<=1000/\PyData.strOk s=true
end K12
namespace K12
open PySem L2 PySem.W PyProof.Rows
inductive RowS (K:W.Frag) (H:Hp):List V->Option Str->List V->Prop
 | copy (x:Str) (a:V):RowS K H [.str "copy",.str x,a] (some x) [a]
 | op (x s:Str) (a b:V):RowS K H [.str "op",.str x,.str s,a,b] (some x) [a,b]
 | new (x:Str):RowS K H [.str "new",.str x] (some x) []
 | get (x:Str) (a:V) (f:Str):RowS K H [.str "get",.str x,a,.str f] (some x) [a]
 | put (a:V) (f:Str) (b:V):RowS K H [.str "put",a,.str f,b] none [a,b]
 | call (x f:Str) (p:Addr) (as:List V):SqT K H p as->RowS K H [.str "call",.str x,.str f,.ref p] (some x) as
 | out (a:V):RowS K H [.str "out",a] none [a]
 | back (a:V):RowS K H [.str "back",a] none [a]
 | ifs (a:V):RowS K H [.str "if",a] none [a]
 | whl (a:V):RowS K H [.str "while",a] none [a]
 | els:RowS K H [.str "else"] none []
 | fin:RowS K H [.str "end"] none []
theorem RowS.mono {K:W.Frag} {H H':Hp} {xs:List V} {g:Option Str} {as:List V} (h:RowS K H xs g as) (e:zaj H H'):RowS K H' xs g as:=by
 cases h with
 | call x f p as hp=>exact .call x f p as (e.tup hp)
 | copy x a=>exact .copy x a
 | op x s a b=>exact .op x s a b
 | new x=>exact .new x
 | get x a f=>exact .get x a f
 | put a f b=>exact .put a f b
 | out a=>exact .out a
 | back a=>exact .back a
 | ifs a=>exact .ifs a
 | whl a=>exact .whl a
 | els=>exact .els
 | fin=>exact .fin
def tabl:List (Str×List V):=[("copy",[.int 2]),("op",[.int 3,.int 4]),("new",[]),("get",[.int 2]),("put",[.int 1,.int 3]),("out",[.int 1]),("back",[.int 1]),("if",[.int 1]),("while",[.int 1]),("else",[]),("end",[])]
def giving:List Str:=["copy","op","new","get","call"]
theorem zup {K:W.Frag} {H:Hp} {xs:List V} {g:Option Str} {as:List V} (h:RowS K H xs g as):∃kd:Str,atI xs 0=some (.str kd) /\
   ((kd="call"/\∃p,atI xs 3=some (.ref p)/\SqT K H p as)\/(kd≠"call"/\∃pl:List Int,KTD.datumAt kd tabl=some (pl.map V.int)/\pl.length=as.length/\∀(i:Nat) (a:V),as[i]?=some a->∃p,pl[i]?=some p/\atI xs p=some a)):=by
 cases h with
 | call x f p as hp=>exact⟨"call",rfl,.inl ⟨rfl,p,rfl,hp⟩⟩
 | copy x a=>exact⟨"copy",rfl,.inr ⟨by decide +kernel,[2],by decide +kernel,rfl,λi a' e=>by match i,e with|0,e=>exact⟨2,rfl,e⟩⟩⟩
 | op x s a b=>exact⟨"op",rfl,.inr ⟨by decide +kernel,[3,4],by decide +kernel,rfl,λi a' e=>by match i,e with|0,e=>exact⟨3,rfl,e⟩|1,e=>exact⟨4,rfl,e⟩⟩⟩
 | new x=>exact⟨"new",rfl,.inr ⟨by decide +kernel,[],by decide +kernel,rfl,λi a' e=>by simp at e⟩⟩
 | get x a f=>exact⟨"get",rfl,.inr ⟨by decide +kernel,[2],by decide +kernel,rfl,λi a' e=>by match i,e with|0,e=>exact⟨2,rfl,e⟩⟩⟩
 | put a f b=>exact⟨"put",rfl,.inr ⟨by decide +kernel,[1,3],by decide +kernel,rfl,λi a' e=>by match i,e with|0,e=>exact⟨1,rfl,e⟩|1,e=>exact⟨3,rfl,e⟩⟩⟩
 | out a=>exact⟨"out",rfl,.inr ⟨by decide +kernel,[1],by decide +kernel,rfl,λi a' e=>by match i,e with|0,e=>exact⟨1,rfl,e⟩⟩⟩
 | back a=>exact⟨"back",rfl,.inr ⟨by decide +kernel,[1],by decide +kernel,rfl,λi a' e=>by match i,e with|0,e=>exact⟨1,rfl,e⟩⟩⟩
 | ifs a=>exact⟨"if",rfl,.inr ⟨by decide +kernel,[1],by decide +kernel,rfl,λi a' e=>by match i,e with|0,e=>exact⟨1,rfl,e⟩⟩⟩
 | whl a=>exact⟨"while",rfl,.inr ⟨by decide +kernel,[1],by decide +kernel,rfl,λi a' e=>by match i,e with|0,e=>exact⟨1,rfl,e⟩⟩⟩
 | els=>exact⟨"else",rfl,.inr ⟨by decide +kernel,[],by decide +kernel,rfl,λi a' e=>by simp at e⟩⟩
 | fin=>exact⟨"end",rfl,.inr ⟨by decide +kernel,[],by decide +kernel,rfl,λi a' e=>by simp at e⟩⟩
def xv:Option Str->V
 | some x=>.str x
 | none=>.non
theorem zvv {K:W.Frag} {H:Hp} {xs:List V} {g:Option Str} {as:List V} (h:RowS K H xs g as):∃kd:Str,atI xs 0=some (.str kd) /\
   ((∃x,g=some x/\inV (.str kd) (giving.map V.str)=true/\atI xs 1=some (.str x))\/(g=none/\inV (.str kd) (giving.map V.str)=false)):=by
 cases h with
 | call x f p as hp=>exact⟨"call",rfl,.inl ⟨x,rfl,by decide +kernel,rfl⟩⟩
 | copy x a=>exact⟨"copy",rfl,.inl ⟨x,rfl,by decide +kernel,rfl⟩⟩
 | op x s a b=>exact⟨"op",rfl,.inl ⟨x,rfl,by decide +kernel,rfl⟩⟩
 | new x=>exact⟨"new",rfl,.inl ⟨x,rfl,by decide +kernel,rfl⟩⟩
 | get x a f=>exact⟨"get",rfl,.inl ⟨x,rfl,by decide +kernel,rfl⟩⟩
 | put a f b=>exact⟨"put",rfl,.inr ⟨rfl,by decide +kernel⟩⟩
 | out a=>exact⟨"out",rfl,.inr ⟨rfl,by decide +kernel⟩⟩
 | back a=>exact⟨"back",rfl,.inr ⟨rfl,by decide +kernel⟩⟩
 | ifs a=>exact⟨"if",rfl,.inr ⟨rfl,by decide +kernel⟩⟩
 | whl a=>exact⟨"while",rfl,.inr ⟨rfl,by decide +kernel⟩⟩
 | els=>exact⟨"else",rfl,.inr ⟨rfl,by decide +kernel⟩⟩
 | fin=>exact⟨"end",rfl,.inr ⟨rfl,by decide +kernel⟩⟩
theorem zsg:(giving.map V.str).all zoh=true:=by decide +kernel
def Atom (v:V):Prop:=(∃s,v=.str s/\Nm s)\/∃i,v=.int i
structure RowD where
 r:Addr
 e:Addr
 a:Addr
 gx:Option Str
 as:List V
structure RowAt (K:W.Frag) (H:Hp) (d:RowD):Prop where
 row:∃xs,SqT K H d.r xs/\RowS K H xs d.gx d.as
 ats:∀v∈d.as,Atom v
 len:d.as.length<=10
 nm:∀x,d.gx=some x->Nm x
theorem RowAt.mono {K:W.Frag} {H H':Hp} {d:RowD} (h:RowAt K H d) (e:zaj H H'):RowAt K H' d :=
 ⟨let ⟨xs,h1,h2⟩:=h.row; ⟨xs,e.tup h1,h2.mono e⟩,h.ats,h.len,h.nm⟩
structure FunAt (K:W.Frag) (H:Hp) (f:Addr) (ps:List Str) (ds:List RowD):Prop where
 fn:∃n b p r,SqT K H f [n,b,.ref p,.ref r]/\SqT K H p (ps.map V.str)/\SqT K H r (ds.map λd=>V.ref d.r)
 rows:∀d∈ds,RowAt K H d
 pn:∀s∈ps,Nm s
 pl:ps.length<=100
 dl:ds.length<=100
theorem FunAt.mono {K:W.Frag} {H H':Hp} {f:Addr} {ps:List Str} {ds:List RowD} (h:FunAt K H f ps ds) (e:zaj H H'):FunAt K H' f ps ds :=
 ⟨let ⟨n,b,p,r,h1,h2,h3⟩:=h.fn; ⟨n,b,p,r,e.tup h1,e.tup h2,e.tup h3⟩,λd hd=>(h.rows d hd).mono e,h.pn,h.pl,h.dl⟩
def rowStrs (d:RowD):List Str:=d.gx.toList++strsOf d.as
def allOf (ps:List Str) (ds:List RowD):List Str:=ps++ds.flatMap rowStrs
theorem strsOf_len (as:List V):(strsOf as).length<=as.length:=List.length_filterMap_le _ _
end K12
namespace K12
open PySem L2
section
variable {P:Program} {w:World} {K:W.Frag} {mg:Str->Option Value} {base:Heap}
def zzu (H:Hp) (Q:VK) (vs:List V):Prop:=∀l H',zaj H H'->H l=none->H' l=some (.lst vs)->Q (.ref l) H'
def sp_gives (K:W.Frag):Sp:=λvs H Q _=>∃(r:Addr) (xs:List V) (g:Option Str) (as:List V),vs=[.ref r]/\SqT K H r xs/\RowS K H xs g as/\Q (xv g) H
def sp_atoms_of (K:W.Frag):Sp:=λvs H Q _=>∃(r:Addr) (xs:List V) (g:Option Str) (as:List V),vs=[.ref r]/\SqT K H r xs/\RowS K H xs g as/\as.length<=10/\zzu H Q as
def sp_each_once (K:W.Frag):Sp:=λvs H Q _=>∃(p:Addr) (ss:List Str),vs=[.ref p]/\SqL K H p (ss.map V.str)/\ss.length<=5000/\zzu H Q ((onceL ss).map V.str)
def sp_reads (K:W.Frag):Sp:=λvs H Q _=>∃(r:Addr) (xs:List V) (g:Option Str) (as:List V),vs=[.ref r]/\SqT K H r xs/\RowS K H xs g as/\as.length<=10/\(∀v∈as,Atom v)/\zzu H Q ((onceL (strsOf as)).map V.str)
def sp_names_of (K:W.Frag):Sp:=λvs H Q _=>∃(f:Addr) (ps:List Str) (ds:List RowD),vs=[.ref f]/\FunAt K H f ps ds/\zzu H Q ((onceL (allOf ps ds)).map V.str)
def rIsi (K:W.Frag):List V->Hp->VK->Prop:=λxs H Q=>∃x c t b,xs=[x,.ty c]/\TyOf K H x t/\W.kitOne K t (.type c)=some b/\Q (.bl b) H
theorem zpy {n:Nat} (h:n<1000000):n<=sizeLine:=by
 have:(1000000:Nat)<sizeLine:=by decide
 omega
theorem zen {n:Nat} (h:n<1000000):n<sizeLine:=by
 have:(1000000:Nat)<sizeLine:=by decide
 omega
theorem zt0 {fs P G B:List Str} (h:onceL fs=onceL P):onceL (fs++G++onceL B)=onceL (P++(G++B)):=by have e:=zxo (fs++G) B [];rw[qbc,qbc] at e;rw[e,qcs];unfold onceL at h ⊢;rw[qba,h,<- qba]
end
end K12
namespace K13
open PySem L2
def isO (s:Str):Bool:=decide (s="if") || decide (s="while")
def isE (s:Str):Bool:=decide (s="else") || decide (s="end")
def push (st:List Nat) (i:Nat) (s:Str):List Nat:=if isO s=true then i :: st else if s="end" then st.tail else st
def kd (ks:List Str) (i:Nat):Str:=ks.getD i ""
def stk (ks:List Str):Nat->List Nat
 | 0=>[]
 | i+1=>push (stk ks i) i (kd ks i)
theorem zc2 (ks:List Str) (i:Nat):stk ks (i+1)=push (stk ks i) i (kd ks i):=rfl
theorem zl0 (ks:List Str):∀i,∀x∈stk ks i,x<i/\isO (kd ks x)=true
 | 0,x,h=>by cases h
 | i+1,x,h=>by
   rw[zc2] at h;unfold push at h;split at h
   . rcases List.mem_cons.mp h with e|e
     . subst e;exact⟨qca _,by assumption⟩
     . have:=zl0 ks i x e;exact⟨by omega,this.2⟩
   . split at h
     . have:=zl0 ks i x (List.mem_of_mem_tail h);exact⟨by omega,this.2⟩
     . have:=zl0 ks i x h;exact⟨by omega,this.2⟩
theorem zsx {s:Str} (h:isO s=true):¬ s="end":=by intro e;subst e;revert h;decide +kernel
theorem zq9 {s:Str} (h:isO s=true):¬ s="else":=by intro e;subst e;revert h;decide +kernel
theorem zne:isO ("end":Str)=false:=by decide +kernel
structure Wf (ks:List Str):Prop where
 open_:∀i,i<ks.length->isE (kd ks i)=true->stk ks i≠[]
 els:∀i b r,i<ks.length->kd ks i="else"->stk ks i=b :: r->kd ks b="if"
 shut:stk ks ks.length=[]
 last:∀i,i+1=ks.length->kd ks i="back"
 pos:0<ks.length
def At (ks:List Str) (b j d:Nat):Prop:=∃pre,stk ks j=pre++b :: stk ks b/\pre.length+1=d
theorem zt7 {ks:List Str} {b:Nat} (h:isO (kd ks b)=true):At ks b (b+1) 1:=⟨[],by rw[zc2]; unfold push; rw[if_pos h]; rfl,rfl⟩
theorem z28 {ks:List Str} {b j d:Nat} (h:At ks b j d) (ho:isO (kd ks j)=true):At ks b (j+1) (d+1):=by obtain⟨pre,e,l⟩:=h;exact⟨j :: pre,by rw[zc2]; unfold push; rw[if_pos ho,e]; rfl,by simp [l]⟩
theorem ztk {ks:List Str} {b j d:Nat} (h:At ks b j (d+1)) (hd:0<d) (he:kd ks j="end"):At ks b (j+1) d:=by
 obtain⟨pre,e,l⟩:=h;cases pre with
 | nil=>simp at l; omega
 | cons p pre =>
   refine⟨pre,?_,by simpa using l⟩;rw[zc2];unfold push;rw[he,if_neg (by rw[zne]; decide),if_pos rfl,e];rfl
theorem zzh {ks:List Str} {b j d:Nat} (h:At ks b j d) (ho:¬ isO (kd ks j)=true) (he:¬ kd ks j="end"):At ks b (j+1) d:=by obtain⟨pre,e,l⟩:=h;exact⟨pre,by rw[zc2]; unfold push; rw[if_neg ho,if_neg he,e],l⟩
theorem z4w {ks:List Str} {b j:Nat} (h:At ks b j 1):stk ks j=b :: stk ks b:=by
 obtain⟨pre,e,l⟩:=h;cases pre with
 | nil=>exact e
 | cons p pre=>simp at l
theorem z33 {ks:List Str} (w:Wf ks) {b j d:Nat} (h:At ks b j d) (hj:j<=ks.length):j<ks.length:=by
 rcases qa7 j ks.length with q|q
 . exact q
 . have e:j=ks.length:=by omega
   subst e;obtain⟨pre,e,_⟩:=h;rw[w.shut] at e;simp at e
theorem z40 {ks:List Str} {b j d:Nat} (h:At ks b j d):0<d:=by obtain⟨pre,_,l⟩:=h;omega
def zkb (ks:List Str) (b e:Nat):Prop:=b<e/\e<ks.length/\kd ks e="end"/\stk ks e=b :: stk ks b/\∀j,b<j->j<=e->∃d,At ks b j d
theorem zx5 {ks:List Str} {b e e':Nat} (h:zkb ks b e) (h':zkb ks b e'):e=e':=by
 have key:∀{e e':Nat},zkb ks b e->zkb ks b e'->¬ e<e':=by
   intro e e' h h' hlt;obtain⟨h1,h2,h3,h4,h5⟩:=h;obtain⟨d,pre,q,_⟩:=h'.2.2.2.2 (e+1) (by omega) hlt;rw[zc2] at q;unfold push at q;rw[h3,if_neg (by rw[zne]; decide),if_pos rfl,h4] at q;have:(stk ks b).length=(pre++b :: stk ks b).length:=by rw[<- q]; rfl
   simp at this;omega
 have a:=key h h';have b:=key h' h;omega
theorem zq6 {ks:List Str} (w:Wf ks) {b:Nat}:∀(m j d:Nat),m=ks.length - j->j<=ks.length->b<j->(∀i,b<i->i<=j->∃d,At ks b i d)->At ks b j d->∃e,j<=e/\zkb ks b e
 | 0,j,d,hm,hj,hb,hall,h=>absurd (z33 w h hj) (by omega)
 | m+1,j,d,hm,hj,hb,hall,h=>by
   have hlt:=z33 w h hj;have go:∀d',At ks b (j+1) d'->∃e,j<=e/\zkb ks b e:=λd' h'=>by
     obtain⟨e,he,q⟩:=zq6 w m (j+1) d' (by omega) (by omega) (by omega) (λi h1 h2=>by
       rcases qa7 j i with z|z
       . have:i=j+1:=by omega
         subst this;exact⟨d',h'⟩
       . exact hall i h1 z) h'
     exact⟨e,by omega,q⟩
   by_cases ho:isO (kd ks j)=true
   . exact go _ (z28 h ho)
   by_cases he:kd ks j="end"
   . have hp:=z40 h;by_cases hd:d=1
     . subst hd;exact⟨j,qae _,hb,hlt,he,z4w h,hall⟩
     . obtain⟨d',rfl⟩:∃d',d=d'+1:=⟨d - 1,by omega⟩
       exact go _ (ztk h (by omega) he)
   . exact go _ (zzh h ho he)
theorem zv0 {ks:List Str} (w:Wf ks) {b:Nat} (hb:b<ks.length) (ho:isO (kd ks b)=true):∃e,zkb ks b e:=by
 obtain⟨e,_,h⟩:=zq6 w (ks.length - (b+1)) (b+1) 1 rfl (by omega) (by omega) (λi h1 h2=>by
   have:i=b+1:=by omega
   subst this;exact⟨1,zt7 ho⟩) (zt7 ho)
 exact⟨e,h⟩
def Hit (ks:List Str) (b k:Nat):Prop:=isE (kd ks k)=true/\(stk ks k).head?=some b
theorem zxh {ks:List Str} {b k:Nat} (h:Hit ks b k):b<k/\isO (kd ks b)=true:=zl0 ks k b (List.mem_of_mem_head? h.2)
theorem zst {ks:List Str} {b e:Nat} (h:zkb ks b e):Hit ks b e:=by
 refine⟨?_,?_⟩
 . rw[h.2.2.1]; decide +kernel
 . rw[h.2.2.2.1]; rfl
theorem gone {ks:List Str} {b e:Nat} (h:zkb ks b e):∀j,e<j->b ∉ stk ks j
 | 0,hj,_=>by omega
 | j+1,hj,hm=>by
   rcases qa7 e j with q|q
   . have ih:=gone h j q;rw[zc2] at hm;unfold push at hm;split at hm
     . rcases List.mem_cons.mp hm with z|z
       . have:=h.1;omega
       . exact ih z
     . split at hm
       . exact ih (List.mem_of_mem_tail hm)
       . exact ih hm
   . have e1:j=e:=by omega
     subst e1;rw[zc2] at hm;unfold push at hm;rw[h.2.2.1,if_neg (by rw[zne]; decide),if_pos rfl,h.2.2.2.1] at hm;have:=(zl0 ks b b hm).1;omega
theorem z0w {ks:List Str} {b e k:Nat} (h:zkb ks b e) (hk:Hit ks b k):k<=e:=by
 rcases qa7 e k with q|q
 . exact absurd (List.mem_of_mem_head? hk.2) (gone h k q)
 . exact q
def one (ks:List Str) (i:Nat):List (Nat×Nat):=if isE (kd ks i)=true then(match stk ks i with | []=>[] | b :: _=>[(i,b)]) else []
def prs (ks:List Str):Nat->List (Nat×Nat)
 | 0=>[]
 | i+1=>prs ks i++one ks i
def zh7 (L:List (Nat×Nat)) (b:Nat):Option Nat:=L.foldl (λacc p=>if p.2=b then some p.1 else acc) none
def zci (L:List (Nat×Nat)) (b:Nat):Option Nat:=L.foldl (λacc p=>if acc.isSome=true then acc else if p.2=b then some p.1 else none) none
theorem zgg (ks:List Str) (i:Nat):(∃b,one ks i=[(i,b)]/\Hit ks b i)\/(one ks i=[]/\∀b,¬ Hit ks b i):=by
 unfold one Hit;by_cases h:isE (kd ks i)=true
 . rw[if_pos h];cases q:stk ks i with
   | nil=>exact .inr ⟨rfl,λb z=>by simp at z⟩
   | cons b r=>exact .inl ⟨b,rfl,h,rfl⟩
 . rw[if_neg h];exact .inr ⟨rfl,λb z=>h z.1⟩
theorem zm9 (L:List (Nat×Nat)) (p:Nat×Nat) (b:Nat):zh7 (L++[p]) b=if p.2=b then some p.1 else zh7 L b:=by unfold zh7; rw[qba]; rfl
theorem zmc (L:List (Nat×Nat)) (p:Nat×Nat) (b:Nat):zci (L++[p]) b=if(zci L b).isSome=true then zci L b else if p.2=b then some p.1 else none:=by unfold zci; rw[qba]; rfl
theorem zpi {ks:List Str} {b b' k:Nat} (h:Hit ks b k) (h':Hit ks b' k):b=b':=by have:=h.2.symm.trans h'.2;simpa using this
theorem zrg (ks:List Str) (b:Nat):∀i,(∀m,zh7 (prs ks i) b=some m->m<i/\Hit ks b m/\∀k,m<k->k<i->¬ Hit ks b k)/\(zh7 (prs ks i) b=none->∀k,k<i->¬ Hit ks b k)
 | 0=>⟨λm h=>(by cases h),λ_ k hk=>(by omega)⟩
 | i+1=>by
   obtain⟨ih1,ih2⟩:=zrg ks b i;show(∀m,zh7 (prs ks i++one ks i) b=some m->_)/\(zh7 (prs ks i++one ks i) b=none->_)
   rcases zgg ks i with⟨b',e,hh⟩|⟨e,hn⟩
   . rw[e,zm9];by_cases hb:b'=b
     . rw[if_pos hb];subst hb;exact⟨λm h=>by cases h; exact⟨qca _,hh,λk h1 h2=>by omega⟩,λh=>by cases h⟩
     . rw[if_neg hb];refine⟨λm h=>?_,λh k hk=>?_⟩
       . obtain⟨h1,h2,h3⟩:=ih1 m h;refine⟨by omega,h2,λk q1 q2 hk=>?_⟩;rcases qa7 k i with z|z
         . exact h3 k q1 z hk
         . have:k=i:=by omega
           subst this;exact hb (zpi hh hk)
       . intro hk';rcases qa7 k i with z|z
         . exact ih2 h k z hk'
         . have:k=i:=by omega
           subst this;exact hb (zpi hh hk')
   . rw[e,qbc];refine⟨λm h=>?_,λh k hk hk'=>?_⟩
     . obtain⟨h1,h2,h3⟩:=ih1 m h;refine⟨by omega,h2,λk q1 q2 hk=>?_⟩;rcases qa7 k i with z|z
       . exact h3 k q1 z hk
       . have:k=i:=by omega
         subst this;exact hn b hk
     . rcases qa7 k i with z|z
       . exact ih2 h k z hk'
       . have:k=i:=by omega
         subst this;exact hn b hk'
theorem zje (ks:List Str) (b:Nat):∀i,(∀m,zci (prs ks i) b=some m->m<i/\Hit ks b m/\∀k,k<m->¬ Hit ks b k)/\(zci (prs ks i) b=none->∀k,k<i->¬ Hit ks b k)
 | 0=>⟨λm h=>(by cases h),λ_ k hk=>(by omega)⟩
 | i+1=>by
   obtain⟨ih1,ih2⟩:=zje ks b i;show(∀m,zci (prs ks i++one ks i) b=some m->_)/\(zci (prs ks i++one ks i) b=none->_)
   rcases zgg ks i with⟨b',e,hh⟩|⟨e,hn⟩
   . rw[e,zmc];cases hf:zci (prs ks i) b with
     | some m0 =>
       rw[if_pos (show(some m0).isSome=true from rfl)];obtain⟨h1,h2,h3⟩:=ih1 m0 hf;exact⟨λm h=>by cases h; exact⟨by omega,h2,h3⟩,λh=>by cases h⟩
     | none =>
       rw[if_neg (show ¬ (none:Option Nat).isSome=true by decide)];have hno:=ih2 hf;by_cases hb:b'=b
       . rw[if_pos hb];subst hb;exact⟨λm h=>by cases h; exact⟨qca _,hh,λk hk=>hno k hk⟩,λh=>by cases h⟩
       . rw[if_neg hb];refine⟨λm h=>(by cases h),λ_ k hk hk'=>?_⟩;rcases qa7 k i with z|z
         . exact hno k z hk'
         . have:k=i:=by omega
           subst this;exact hb (zpi hh hk')
   . rw[e,qbc];refine⟨λm h=>?_,λh k hk hk'=>?_⟩
     . obtain⟨h1,h2,h3⟩:=ih1 m h;exact⟨by omega,h2,h3⟩
     . rcases qa7 k i with z|z
       . exact ih2 h k z hk'
       . have:k=i:=by omega
         subst this;exact hn b hk'
theorem z0h {ks:List Str} {b e:Nat} (h:zkb ks b e):zh7 (prs ks ks.length) b=some e:=by
 obtain⟨h1,h2⟩:=zrg ks b ks.length;cases q:zh7 (prs ks ks.length) b with
 | none=>exact absurd (zst h) (h2 q e h.2.1)
 | some m =>
   obtain⟨q1,q2,q3⟩:=h1 m q;have:=z0w h q2;rcases qa7 m e with z|z
   . exact absurd (zst h) (q3 e z h.2.1)
   . have:m=e:=by omega
     rw[this]
def zr9 (ks:List Str) (b f:Nat):Prop:=f<ks.length/\Hit ks b f/\∀k,k<f->¬ Hit ks b k
theorem zo1 {ks:List Str} {b f f':Nat} (h:zr9 ks b f) (h':zr9 ks b f'):f=f':=by
 rcases Nat.lt_trichotomy f f' with z|z|z
 . exact absurd h.2.1 (h'.2.2 f z)
 . exact z
 . exact absurd h'.2.1 (h.2.2 f' z)
theorem zzg {ks:List Str} {b f:Nat} (h:zr9 ks b f):zci (prs ks ks.length) b=some f:=by
 obtain⟨h1,h2⟩:=zje ks b ks.length;cases q:zci (prs ks ks.length) b with
 | none=>exact absurd h.2.1 (h2 q f h.1)
 | some m =>
   obtain⟨q1,q2,q3⟩:=h1 m q;rw[zo1 (⟨q1,q2,q3⟩:zr9 ks b m) h]
theorem zu9 {ks:List Str} {b:Nat} (h:¬ isO (kd ks b)=true):zci (prs ks ks.length) b=none:=by
 obtain⟨h1,h2⟩:=zje ks b ks.length;cases q:zci (prs ks ks.length) b with
 | none=>rfl
 | some m=>exact absurd (zxh (h1 m q).2.1).2 h
inductive Beh (ks:List Str):Nat->Nat->Prop
 | els {k b e r:Nat}:kd ks (k+1)="else"->(stk ks (k+1)).head?=some b->zkb ks b e->Beh ks e r->Beh ks k r
 | whl {k b:Nat}:kd ks (k+1)="end"->(stk ks (k+1)).head?=some b->kd ks b="while"->Beh ks k b
 | fin {k b r:Nat}:kd ks (k+1)="end"->(stk ks (k+1)).head?=some b->¬ kd ks b="while"->Beh ks (k+1) r->Beh ks k r
 | oth {k:Nat}:¬ kd ks (k+1)="else"->¬ kd ks (k+1)="end"->Beh ks k (k+1)
theorem znd:¬ (("else":Str)="end"):=by decide +kernel
theorem Beh.uniq {ks:List Str} {k r:Nat} (h:Beh ks k r):∀{r':Nat},Beh ks k r'->r=r':=by
 induction h with
 | els h1 h2 h3 h4 ih =>
   intro r' h';cases h' with
   | els g1 g2 g3 g4 =>
     have hb:=Option.some.inj (h2.symm.trans g2);subst hb;have he:=zx5 h3 g3;subst he;exact ih g4
   | whl g1 _ _=>exact absurd (h1.symm.trans g1) znd
   | fin g1 _ _ _=>exact absurd (h1.symm.trans g1) znd
   | oth g1 _=>exact absurd h1 g1
 | whl h1 h2 h3 =>
   intro r' h';cases h' with
   | els g1 _ _ _=>exact absurd (g1.symm.trans h1) znd
   | whl g1 g2 g3=>exact Option.some.inj (h2.symm.trans g2)
   | fin g1 g2 g3 _ =>
     have hb:=Option.some.inj (h2.symm.trans g2);subst hb;exact absurd h3 g3
   | oth _ g2=>exact absurd h1 g2
 | fin h1 h2 h3 h4 ih =>
   intro r' h';cases h' with
   | els g1 _ _ _=>exact absurd (g1.symm.trans h1) znd
   | whl g1 g2 g3 =>
     have hb:=Option.some.inj (h2.symm.trans g2);subst hb;exact absurd g3 h3
   | fin g1 g2 g3 g4=>exact ih g4
   | oth _ g2=>exact absurd h1 g2
 | oth h1 h2 =>
   intro r' h';cases h' with
   | els g1 _ _ _=>exact absurd g1 h1
   | whl g1 _ _=>exact absurd g1 h2
   | fin g1 _ _ _=>exact absurd g1 h2
   | oth _ _=>rfl
theorem zxd:¬ (("back":Str)="else")/\¬ (("back":Str)="end"):=by decide +kernel
theorem zm1 {s:Str} (h:isO s=true):¬ isE s=true:=by unfold isE;rw[decide_eq_false (zq9 h),decide_eq_false (zsx h)];decide
theorem z41 {s:Str} (h1:¬ s="else") (h2:¬ s="end"):¬ isE s=true:=by unfold isE;rw[decide_eq_false h1,decide_eq_false h2];decide
inductive Due (ks:List Str):Nat->Option (List Nat)->Prop
 | no {k:Nat}:isE (kd ks k)=true->Due ks k none
 | back {k:Nat}:kd ks k="back"->Due ks k (some [])
 | two {k f r1 r2:Nat}:isO (kd ks k)=true->zr9 ks k f->Beh ks k r1->Beh ks f r2->Due ks k (some [r1,r2])
 | one {k r:Nat}:¬ isE (kd ks k)=true->¬ kd ks k="back"->¬ isO (kd ks k)=true->Beh ks k r->Due ks k (some [r])
theorem ztl:¬ isE ("back":Str)=true:=by decide +kernel
theorem zxi:¬ isO ("back":Str)=true:=by decide +kernel
theorem Due.uniq {ks:List Str} {k:Nat} {o o':Option (List Nat)} (h:Due ks k o) (h':Due ks k o'):o=o':=by
 cases h with
 | no h =>
   cases h' with
   | no _=>rfl
   | back g=>rw[g] at h; exact absurd h ztl
   | two g _ _ _=>exact absurd h (zm1 g)
   | one g _ _ _=>exact absurd h g
 | back h =>
   cases h' with
   | no g=>rw[h] at g; exact absurd g ztl
   | back _=>rfl
   | two g _ _ _=>rw[h] at g; exact absurd g zxi
   | one _ g _ _=>exact absurd h g
 | two h1 h2 h3 h4 =>
   cases h' with
   | no g=>exact absurd g (zm1 h1)
   | back g=>rw[g] at h1; exact absurd h1 zxi
   | two g1 g2 g3 g4 =>
     have:=zo1 h2 g2;subst this;rw[h3.uniq g3,h4.uniq g4]
   | one _ _ g _=>exact absurd h1 g
 | one h1 h2 h3 h4 =>
   cases h' with
   | no g=>exact absurd g h1
   | back g=>exact absurd g h2
   | two g _ _ _=>exact absurd g h3
   | one _ _ _ g=>rw[h4.uniq g]
theorem zzx {ks:List Str} {b e:Nat} (h:zkb ks b e):∃f,zr9 ks b f:=by
 obtain⟨h1,h2⟩:=zje ks b ks.length;cases q:zci (prs ks ks.length) b with
 | none=>exact absurd (zst h) (h2 q e h.2.1)
 | some m =>
   obtain⟨q1,q2,q3⟩:=h1 m q;exact⟨m,q1,q2,q3⟩
theorem zue {ks:List Str} (w:Wf ks) {k:Nat} (hk:k<ks.length) (h:¬ kd ks k="back"):k+1<ks.length:=by
 rcases qa7 (k+1) ks.length with z|z
 . exact z
 . exact absurd (w.last k (by omega)) h
theorem zvc {ks:List Str} (w:Wf ks) {b f:Nat} (h:zr9 ks b f):f+1<ks.length:=by refine zue w h.1 λz=>?_;have:=h.2.1.1;rw[z] at this;exact ztl this
theorem zlj {ks ys:List Str} {i:Nat} (h:i<ks.length):kd (ks++ys) i=kd ks i:=by unfold kd;rw[qbu,qbu,qbd h]
theorem zy6 (ks ys:List Str) (i:Nat):kd (ks++ys) (ks.length+i)=kd ys i:=by unfold kd;rw[qbu,qbu,qbm (Nat.le_add_right _ _),Nat.add_sub_cancel_left]
theorem zpz (ks:List Str) (x:Str):kd (ks++[x]) ks.length=x:=by have:=zy6 ks [x] 0;rw[Nat.add_zero] at this;rw[this];rfl
theorem zmp (ks ys:List Str):∀i,i<=ks.length->stk (ks++ys) i=stk ks i
 | 0,_=>rfl
 | i+1,h=>by rw[zc2,zc2,zmp ks ys i (by omega),zlj (by omega)]
structure Good (ks os:List Str):Prop where
 open_:∀i,i<ks.length->isE (kd ks i)=true->stk ks i≠[]
 els:∀i b r,i<ks.length->kd ks i="else"->stk ks i=b :: r->kd ks b="if"
 len:(stk ks ks.length).length=os.length
 mt:∀(i b:Nat),(stk ks ks.length)[i]?=some b->os[i]?=some "if"->kd ks b="if"
theorem good_nil:Good [] []:=⟨λi h=>absurd h (qcx i),λi _ _ h=>absurd h (qcx i),rfl,λi b h=>by cases h⟩
theorem zuk (ks:List Str) (x:Str):stk (ks++[x]) (ks++[x]).length=push (stk ks ks.length) ks.length x:=by rw[List.length_append];show stk (ks++[x]) (ks.length+1)=_;rw[zc2,zmp _ _ _ (qae _),zpz]
theorem Good.snoc {ks os os':List Str} {x:Str} (g:Good ks os) (ho:isE x=true->os≠[]) (he:x="else"->∃r,os=("if":Str) :: r)
   (hl:(push (stk ks ks.length) ks.length x).length=os'.length) (hm:∀(i b:Nat),(push (stk ks ks.length) ks.length x)[i]?=some b->os'[i]?=some "if"->kd (ks++[x]) b="if"):Good (ks++[x]) os':=by
 have hn:(ks++[x]).length=ks.length+1:=by rw[List.length_append]; rfl
 refine⟨λi h hE=>?_,λi b r h hE hs=>?_,by rw[zuk]; exact hl,by rw[zuk]; exact hm⟩
 . rw[zmp _ _ _ (by omega)];rcases qa7 i ks.length with z|z
   . rw[zlj z] at hE;exact g.open_ i z hE
   . have:i=ks.length:=by omega
     subst this;rw[zpz] at hE;intro e;have:=g.len;rw[e] at this;exact ho hE (qc1.mp this.symm)
 . rw[zmp _ _ _ (by omega)] at hs;rcases qa7 i ks.length with z|z
   . rw[zlj z] at hE;have hb:=(zl0 ks i b (by rw[hs]; exact List.mem_cons_self)).1;rw[zlj (by omega)];exact g.els i b r z hE hs
   . have:i=ks.length:=by omega
     subst this;rw[zpz] at hE;obtain⟨r',e⟩:=he hE;have hb:=(zl0 ks ks.length b (by rw[hs]; exact List.mem_cons_self)).1;rw[zlj hb];exact g.mt 0 b (by rw[hs]; rfl) (by rw[e]; rfl)
theorem Good.keep {ks os:List Str} (g:Good ks os) (x:Str) {i b:Nat} (h:(stk ks ks.length)[i]?=some b) (h':os[i]?=some "if"):kd (ks++[x]) b="if":=by have hb:=(zl0 ks ks.length b (List.mem_of_getElem? h)).1;rw[zlj hb];exact g.mt i b h h'
theorem Good.plain {ks os:List Str} {x:Str} (g:Good ks os) (h1:¬ isO x=true) (h2:¬ isE x=true) (h3:¬ x="end"):Good (ks++[x]) os:=by
 have e:push (stk ks ks.length) ks.length x=stk ks ks.length:=by unfold push; rw[if_neg h1,if_neg h3]
 refine g.snoc (λz=>absurd z h2) (λz=>absurd (by rw[z]; decide +kernel) h2) (by rw[e,g.len]) ?_;rw[e];intro i b h h';exact g.keep x h h'
theorem Good.back {ks:List Str} (g:Good ks []):Wf (ks++[("back":Str)]):=by
 have hs:stk ks ks.length=[]:=qc1.mp g.len;have g':=g.plain zxi ztl (by decide +kernel);refine⟨g'.open_,g'.els,qc1.mp g'.len,λi h=>?_,by rw[List.length_append]; exact Nat.succ_pos _⟩;have:i=ks.length:=by rw[List.length_append] at h; simpa using h
 rw[this,zpz]
structure RowsAt (K:W.Frag) (H:Hp) (a:Addr) (ks:List Str):Prop where
 ex:∃rs:List Addr,SqT K H a (rs.map V.ref)/\rs.length=ks.length/\∀i r,rs[i]?=some r->∃rest,SqT K H r (V.str (kd ks i) :: rest)
theorem RowsAt.mono {K:W.Frag} {H H':Hp} {a:Addr} {ks:List Str} (h:RowsAt K H a ks) (e:zaj H H'):RowsAt K H' a ks :=
 ⟨let ⟨rs,h1,h2,h3⟩:=h.ex; ⟨rs,e.tup h1,h2,λi r q=>let ⟨rest,z⟩:=h3 i r q; ⟨rest,e.tup z⟩⟩⟩
theorem at0 {x:V} {r:List V}:atI (x :: r) 0=some x:=by unfold atI ixN;rw[if_pos (by decide),if_pos (by simp)];rfl
theorem ixk {K:W.Frag} {H:Hp} {Q:VK} {a:Addr} {ks:List Str} {i:Int} (h:RowsAt K H a ks) (h0:0<=i) (h1:i<ks.length) (q:Q (.str (kd ks i.toNat)) H):z4t K (.ref a) (.int i) H λx H1=>z4t K x (.int 0) H1 Q:=by
 obtain⟨rs,e1,e2,e3⟩:=h.ex;have hi:i.toNat<rs.length:=by omega
 obtain⟨rest,hr⟩:=e3 i.toNat rs[i.toNat] (by simp [hi]);refine⟨a,_,i,.ref rs[i.toNat],rfl,rfl,e1,?_,rs[i.toNat],_,0,_,rfl,rfl,hr,at0,q⟩;have e:atI (rs.map V.ref) i=some (V.ref rs[i.toNat]):=by unfold atI ixN;rw[if_pos h0,if_pos (by rw[List.length_map]; omega),qcn,List.getElem?_map];simp [hi]
 exact e
def zyp (L:List (Nat×Nat)):List (Key×V):=L.map λp=>(Sum.inl (p.1:Int),V.int (p.2:Int))
def bg (ks:List Str) (i:Nat):List (Key×V):=zyp (prs ks i)
theorem z0q (ks:List Str):∀i,∀p∈prs ks i,p.1<i
 | 0,p,h=>by cases h
 | i+1,p,h=>by
   rcases List.mem_append.mp h with h|h
   . have:=z0q ks i p h;omega
   . rcases zgg ks i with⟨b,e,_⟩|⟨e,_⟩
     . rw[e] at h;have:p=(i,b):=by simpa using h
       rw[this];exact qca _
     . rw[e] at h;cases h
theorem z3z (ks:List Str) (i:Nat):zc9 (bg ks i) (Sum.inl (i:Int):Key)=none:=by
 have h:=zgr (Sum.inl (i:Int):Key) (bg ks i);cases q:zc9 (bg ks i) (Sum.inl (i:Int):Key) with
 | none=>rfl
 | some v =>
   rw[q] at h;obtain⟨kv,hm,e⟩:=qcc.mp h;obtain⟨p,hp,rfl⟩:=List.mem_map.mp hm;have e:=of_decide_eq_true e;have:(p.1:Int)=(i:Int):=Sum.inl.inj e;have:=z0q ks i p hp;omega
theorem zt6 {ks:List Str} {i b:Nat} (h:Hit ks b i):zbx (bg ks i) (Sum.inl (i:Int):Key) (V.int (b:Int))=bg ks (i+1):=by
 rw[zuf _ (z3z ks i)];rcases zgg ks i with⟨b',e,h'⟩|⟨e,h'⟩
 . show zyp (prs ks i)++_=zyp (prs ks i++one ks i);rw[e,zpi h h'];unfold zyp;rw[List.map_append];rfl
 . exact absurd h (h' b)
theorem zwb {ks:List Str} {i:Nat} (h:¬ isE (kd ks i)=true):bg ks (i+1)=bg ks i:=by
 rcases zgg ks i with⟨b',e,h'⟩|⟨e,h'⟩
 . exact absurd h'.1 h
 . show zyp (prs ks i++one ks i)=_;rw[e,qbc];rfl
theorem zs3 (ks:List Str):∀i,(prs ks i).length<=i
 | 0=>qae _
 | i+1=>by have:=zs3 ks i;show(prs ks i++one ks i).length<=i+1;rw[List.length_append];rcases zgg ks i with⟨b',e,h'⟩|⟨e,h'⟩ <;> rw[e] <;> simp <;> omega
theorem zwp (ks:List Str) (i:Nat):(bg ks i).length<=i:=by unfold bg zyp; rw[List.length_map]; exact zs3 ks i
def zvd (ks:List Str) (i:Nat):List V:=(stk ks i).reverse.map λ(n:Nat)=>V.int (n:Int)
theorem zzl (ks:List Str):∀i,(zvd ks i).length<=i:=by
 intro i;unfold zvd;rw[List.length_map,List.length_reverse]
 induction i with
 | zero=>exact qae _
 | succ i ih =>
   rw[zc2];unfold push;split
   . simp; omega
   . split
     . simp; omega
     . omega
theorem inO (s:Str):inV (.str s) [V.str "if",V.str "while"]=isO s:=by show((("if":Str)==s) || ((("while":Str)==s) || false))=isO s;unfold isO;rw[qd5];congr 1 <;> (rw[qbz,beq_iff_eq,decide_eq_true_eq]; exact eq_comm)
theorem inE (s:Str):inV (.str s) [V.str "else",V.str "end"]=isE s:=by show((("else":Str)==s) || ((("end":Str)==s) || false))=isE s;unfold isE;rw[qd5];congr 1 <;> (rw[qbz,beq_iff_eq,decide_eq_true_eq]; exact eq_comm)
theorem le0:0<=sizeLine:=by decide
theorem le1:1<=sizeLine:=by decide
theorem le2:2<=sizeLine:=by decide
theorem zen {n:Nat} (h:n<1000000):n<sizeLine:=by
 have:(1000000:Nat)<sizeLine:=by decide
 omega
theorem zug {ks:List Str} {i b:Nat} {r:List Nat} (h:stk ks i=b :: r):atI (zvd ks i) (-1)=some (.int (b:Int))/\(zvd ks i)[(zvd ks i).length - 1]?=some (.int (b:Int))/\(zvd ks i).dropLast=r.reverse.map λ(n:Nat)=>V.int (n:Int):=by
 have e:zvd ks i=(r.reverse.map λ(n:Nat)=>V.int (n:Int))++[V.int (b:Int)]:=by unfold zvd;rw[h,List.reverse_cons,List.map_append];rfl
 rw[e];refine⟨?_,by simp,by simp⟩;unfold atI ixN;rw[if_neg (by decide),if_pos (by simp; omega),qcn];have:((-1:Int)+(((r.reverse.map λ(n:Nat)=>V.int (n:Int))++[V.int (b:Int)]).length:Int)).toNat=(r.reverse.map λ(n:Nat)=>V.int (n:Int)).length:=by rw[List.length_append];simp;omega
 rw[this];simp
theorem zv9 {K:W.Frag} {H:Hp} {a q:Addr} {xs:List V} {kvs:List (Key×V)} {o:HO} (h:SqT K H a xs) (hq:H q=some (.dK kvs)):SqT K (upd H q o) a xs:=by
 rcases h with(h|⟨o,h⟩)|h
 . exact .inl (.inl (by rw[zag (zsa h hq (by intro z; cases z))]; exact h))
 . exact .inl (.inr ⟨o,by rw[zag (zsa h hq (by intro z; cases z))]; exact h⟩)
 . exact .inr h
theorem RowsAt.frz {K:W.Frag} {H:Hp} {a q:Addr} {ks:List Str} {kvs:List (Key×V)} {o:HO} (h:RowsAt K H a ks) (hq:H q=some (.dK kvs)):RowsAt K (upd H q o) a ks :=
 ⟨let ⟨rs,h1,h2,h3⟩:=h.ex; ⟨rs,zv9 h1 hq,h2,λi r z=>let ⟨rest,y⟩:=h3 i r z; ⟨rest,zv9 y hq⟩⟩⟩
def BehL (H:Hp) (l:Addr) (ks:List Str):Prop:=∃bs,H l=some (.lst bs)/\bs.length=ks.length/\∀k,k+1<ks.length->∃r:Nat,Beh ks k r/\bs[k]?=some (.int (r:Int))
def z3v (n:Nat):List V:=(List.replicate n [V.non]).flatten
theorem zx8 (n:Nat):(z3v n).length=n:=by unfold z3v; rw[zww]; simp
theorem z3s {ks:List Str} {b k:Nat} (n:Nat) (hk:k<n) (h:Hit ks b k):zc9 (bg ks n) (Sum.inl (k:Int):Key)=some (.int (b:Int)):=by
 induction n with
 | zero=>omega
 | succ n ih =>
   rcases qa7 k n with z|z
   . rcases zgg ks n with⟨b',e,h'⟩|⟨e,h'⟩
     . rw[<- zt6 h',zdm,if_neg (λz'=>by have:(k:Int)=(n:Int):=Sum.inl.inj z'; omega)];exact ih z
     . have:bg ks (n+1)=bg ks n:=by show zyp (prs ks n++one ks n)=_;rw[e,qbc];rfl
       rw[this];exact ih z
   . have:k=n:=by omega
     subst this;rw[<- zt6 h,zdm,if_pos rfl]
theorem z1b {ks:List Str} {n i:Nat} {kv:Key×V} (h:(bg ks n)[i]?=some kv):∃p:Nat×Nat,(prs ks n)[i]?=some p/\kv=(Sum.inl (p.1:Int),V.int (p.2:Int)):=by
 unfold bg zyp at h;rw[List.getElem?_map] at h;cases q:(prs ks n)[i]? with
 | none=>rw[q] at h; cases h
 | some p=>rw[q] at h; exact⟨p,rfl,by simpa using h.symm⟩
def natsV (l:List Nat):List V:=l.map λ(n:Nat)=>V.int (n:Int)
def zyo (H:Hp) (v:V):Option (List Nat)->Prop
 | none=>v=.non
 | some l=>∃p,v=.ref p/\H p=some (.tup (natsV l))
theorem zyo.mono {H H':Hp} {v:V} {o:Option (List Nat)} (h:zyo H v o) (e:zaj H H'):zyo H' v o:=by
 cases o with
 | none=>exact h
 | some l=>obtain⟨p,h1,h2⟩:=h; exact⟨p,h1,e _ _ h2⟩
theorem zyo.lst {H:Hp} {q:Addr} {l l':List V} {v:V} {o:Option (List Nat)} (h:zyo H v o) (hq:H q=some (.lst l)):zyo (upd H q (.lst l')) v o:=by
 cases o with
 | none=>exact h
 | some l=>obtain⟨p,h1,h2⟩:=h; exact⟨p,h1,by rw[zag (zsa h2 hq (by intro z; cases z))]; exact h2⟩
def FoundN (H:Hp) (l:Addr) (ks:List Str) (i:Nat):Prop:=∃vs:List V,H l=some (.lst vs)/\vs.length=i/\∀k v,vs[k]?=some v->∃o,Due ks k o/\zyo H v o
theorem FoundN.mono {H H':Hp} {l:Addr} {ks:List Str} {i:Nat} (h:FoundN H l ks i) (e:zaj H H'):FoundN H' l ks i :=
 let ⟨vs,h1,h2,h3⟩:=h; ⟨vs,e _ _ h1,h2,λk v q=>let ⟨o,d,z⟩:=h3 k v q; ⟨o,d,z.mono e⟩⟩
theorem FoundN.push {H:Hp} {l:Addr} {ks:List Str} {i:Nat} {vs:List V} {v:V} {o:Option (List Nat)} (h1:H l=some (.lst vs)) (h2:vs.length=i) (h3:∀k v,vs[k]?=some v->∃o,Due ks k o/\zyo H v o) (hd:Due ks i o) (hv:zyo H v o):FoundN (upd H l (.lst (vs++[v]))) l ks (i+1):=by
 refine⟨_,zab,by rw[List.length_append,h2]; rfl,λk v' q=>?_⟩;rcases qa7 k vs.length with z|z
 . rw[qbd z] at q;obtain⟨o',d,y⟩:=h3 k v' q;exact⟨o',d,y.lst h1⟩
 . rw[qbm z] at q;have hk:k - vs.length=0:=by
     rcases Nat.eq_zero_or_pos (k - vs.length) with y|y
     . exact y
     . rw[qbb (by simp; omega)] at q;cases q
   rw[hk] at q;have hv':v=v':=by simpa using q
   subst hv';have:k=i:=by omega
   subst this;exact⟨o,hd,hv.lst h1⟩
section
variable {P:Program} {w:World} {K:W.Frag} {mg:Str->Option Value} {base:Heap}
def sp_begins_of (K:W.Frag):Sp:=λvs H Q _=>∃(a:Addr) (ks:List Str),vs=[.ref a]/\RowsAt K H a ks/\Wf ks/\ks.length<=1000/\∀d H',zaj H H'->H d=none->H' d=some (.dK (bg ks ks.length))->Q (.ref d) H'
def sp_firsts_behind (K:W.Frag):Sp:=λvs H Q _=>∃(a d:Addr) (ks:List Str),vs=[.ref a,.ref d]/\RowsAt K H a ks/\Wf ks/\ks.length<=1000/\H d=some (.dK (bg ks ks.length))/\∀l o H',zaj (upd H d (.frz o (.dK (bg ks ks.length)))) H'->H l=none->BehL H' l ks->Q (.ref l) H'
def sp_ways (K:W.Frag):Sp:=λvs H Q _=>∃(a:Addr) (ks:List Str),vs=[.ref a]/\RowsAt K H a ks/\Wf ks/\ks.length<=1000/\∀l H',zaj H H'->H l=none->FoundN H' l ks ks.length->Q (.ref l) H'
theorem zpy {n:Nat} (h:n<1000000):n<=sizeLine:=by
 have:(1000000:Nat)<sizeLine:=by decide
 omega
end
end K13
namespace Fl
open PySem L2 Gx
structure Rw where
 r:Addr
 k:Str
 c:Str
structure Fd where
 name:Str
 fa:Addr
 ra:Addr
 rs:List Rw
def z3e (K:W.Frag) (H:Hp) (w:Rw):Prop:=∃rest,SqT K H w.r (V.str w.k :: rest)/\(w.k="call"->∃x y,rest=[x,.str w.c,y])
theorem z3e.mono {K:W.Frag} {H H':Hp} {w:Rw} (e:zaj H H') (h:z3e K H w):z3e K H' w:=let ⟨rest,h1,h2⟩:=h; ⟨rest,e.tup h1,h2⟩
structure FnAt (K:W.Frag) (H:Hp) (f:Fd):Prop where
 fn:∃fo pa,SqT K H f.fa [.str f.name,fo,.ref pa,.ref f.ra]
 rw_:SqT K H f.ra (f.rs.map λw=>V.ref w.r)
 rk:∀w∈f.rs,z3e K H w
 fu:∃ps ds,K12.FunAt K H f.fa ps ds
 wf:K13.Wf (f.rs.map (·.k))
 len:f.rs.length<=100
theorem FnAt.mono {K:W.Frag} {H H':Hp} {f:Fd} (e:zaj H H') (h:FnAt K H f):FnAt K H' f :=
 ⟨let ⟨a,b,z⟩:=h.fn; ⟨a,b,e.tup z⟩,e.tup h.rw_,λw hw=>(h.rk w hw).mono e,let ⟨a,b,z⟩:=h.fu; ⟨a,b,z.mono e⟩,h.wf,h.len⟩
theorem FnAt.rows {K:W.Frag} {H:Hp} {f:Fd} (h:FnAt K H f):K13.RowsAt K H f.ra (f.rs.map (·.k)):=by
 refine⟨f.rs.map (·.r),by rw[qbt]; exact h.rw_,by rw[List.length_map,List.length_map],λi r hr=>?_⟩;rw[List.getElem?_map] at hr;cases e:f.rs[i]? with
 | none=>rw[e] at hr; cases hr
 | some w =>
   rw[e] at hr;cases hr;obtain⟨rest,h1,_⟩:=h.rk w (List.mem_of_getElem? e);refine⟨rest,?_⟩;have:K13.kd (f.rs.map (·.k)) i=w.k:=by unfold K13.kd;rw[qbu,List.getElem?_map,e];rfl
   rw[this];exact h1
structure FS (C:Addr) (H:Hp) (x dx:Addr) (fs:List (Str×V)) (d:Nat->Addr) (kv:Nat->List (Key×V)):Prop where
 ob:H x=some (.ins C dx fs)
 dc:∀j,j<6->H (d j)=some (.dK (kv j))
theorem FS.mono {C:Addr} {H H':Hp} {x dx:Addr} {fs:List (Str×V)} {d:Nat->Addr} {kv:Nat->List (Key×V)} (e:zaj H H') (h:FS C H x dx fs d kv):FS C H' x dx fs d kv:=⟨e _ _ h.ob,λj hj=>e _ _ (h.dc j hj)⟩
theorem FS.put {C:Addr} {H:Hp} {x dx:Addr} {fs:List (Str×V)} {d:Nat->Addr} {kv:Nat->List (Key×V)} (h:FS C H x dx fs d kv) (inj:∀i j,i<6->j<6->d i=d j->i=j) (j:Nat) (hj:j<6) (k':List (Key×V)):FS C (upd H (d j) (.dK k')) x dx fs d (λi=>if i=j then k' else kv i):=by
 refine⟨?_,λi hi=>?_⟩
 . rw[zag (zsa h.ob (h.dc j hj) (by intro z; cases z))]; exact h.ob
 . by_cases e:i=j
   . subst e;rw[zab,if_pos rfl]
   . rw[zag (λz=>e (inj i j hi hj z)),if_neg e];exact h.dc i hi
def zqv (v:V) (d:Nat->Addr):List (Str×V):=zk4 "ways_in" (.ref (d 5)) (zk4 "names_in" (.ref (d 4)) (zk4 "rows_of" (.ref (d 3)) (zk4 "params_of" (.ref (d 2)) (zk4 "folded_of" (.ref (d 1)) (zk4 "number_of" (.ref (d 0)) (zk4 "last" v []))))))
theorem zx7 (v:V) (d:Nat->Addr):(zqv v d).lookup ("number_of":Str)=some (.ref (d 0)):=by unfold zqv;rw[zau,if_neg (by decide +kernel),zau,if_neg (by decide +kernel),zau,if_neg (by decide +kernel),zau,if_neg (by decide +kernel),zau,if_neg (by decide +kernel),zau,if_pos rfl]
theorem zv4 (v:V) (d:Nat->Addr):(zqv v d).lookup ("folded_of":Str)=some (.ref (d 1)):=by unfold zqv;rw[zau,if_neg (by decide +kernel),zau,if_neg (by decide +kernel),zau,if_neg (by decide +kernel),zau,if_neg (by decide +kernel),zau,if_pos rfl]
theorem zqn (v:V) (d:Nat->Addr):(zqv v d).lookup ("params_of":Str)=some (.ref (d 2)):=by unfold zqv;rw[zau,if_neg (by decide +kernel),zau,if_neg (by decide +kernel),zau,if_neg (by decide +kernel),zau,if_pos rfl]
theorem zxp (v:V) (d:Nat->Addr):(zqv v d).lookup ("rows_of":Str)=some (.ref (d 3)):=by unfold zqv;rw[zau,if_neg (by decide +kernel),zau,if_neg (by decide +kernel),zau,if_pos rfl]
theorem zt1 (v:V) (d:Nat->Addr):(zqv v d).lookup ("names_in":Str)=some (.ref (d 4)):=by unfold zqv;rw[zau,if_neg (by decide +kernel),zau,if_pos rfl]
theorem zwa (v:V) (d:Nat->Addr):(zqv v d).lookup ("ways_in":Str)=some (.ref (d 5)):=by unfold zqv;rw[zau,if_pos rfl]
theorem z1g (v:V) (d:Nat->Addr):(zqv v d).lookup ("last":Str)=some v:=by unfold zqv;rw[zau,if_neg (by decide +kernel),zau,if_neg (by decide +kernel),zau,if_neg (by decide +kernel),zau,if_neg (by decide +kernel),zau,if_neg (by decide +kernel),zau,if_neg (by decide +kernel),zau,if_pos rfl]
def dd (d0 d1 d2 d3 d4 d5:Addr):Nat->Addr
 | 0=>d0
 | 1=>d1
 | 2=>d2
 | 3=>d3
 | 4=>d4
 | _=>d5
theorem zbl {H:Hp} {a b:Addr} {o:HO} (h:upd H a o b=none):b≠a/\H b=none:=by
 have hn:b≠a:=λz=>by rw[z,zab] at h; cases h
 rw[zag hn] at h;exact⟨hn,h⟩
theorem za4 {H:Hp} {a b:Addr} {o o':HO} (h:H b=some o) (hn:b≠a):upd H a o' b=some o:=by rw[zag hn]; exact h
theorem zls (f:Str) (v:V) (l:List (Str×V)) (k:Nat) (h:l.length<=k):(zk4 f v l).length<=k+1:=Nat.le_trans (ze2 f v l) (by omega)
theorem zi0 {α:Type} {l:List α} {f:α->V} {r:Int} {a:α} (h0:0<=r) (h:l[r.toNat]?=some a):atI (l.map f) r=some (f a):=by obtain⟨j,rfl⟩:=qby h0;refine zc7 ?_;rw[qa9] at h;rw[List.getElem?_map,h];rfl
end Fl
namespace L2
open PySem
def hl (H:Hp):Hp:=λb=>match H b with
 | some (.lst xs)=>some (.lst xs)
 | some (.tup xs)=>some (.tup xs)
 | _=>none
theorem zs6 {H:Hp}:zaj (hl H) H:=λb o h=>by
 unfold hl at h;split at h
 . rename_i e; rw[e]; exact h
 . rename_i e; rw[e]; exact h
 . cases h
theorem z00 {H:Hp} {b:Addr} {xs:List V} (h:H b=some (.lst xs)):hl H b=some (.lst xs):=by unfold hl; rw[h]
theorem z4k {H:Hp} {b:Addr} {xs:List V} (h:H b=some (.tup xs)):hl H b=some (.tup xs):=by unfold hl; rw[h]
theorem zaj.hl {H H':Hp} (e:zaj H H'):zaj (hl H) (hl H'):=λb o h=>by have h1:=zs6 _ _ h;have h2:=e _ _ h1;unfold L2.hl at h ⊢;rw[h1] at h;rw[h2];exact h
theorem z4a {H:Hp} {a:Addr} {o:HO} (h:∀xs,H a≠some (.lst xs)/\H a≠some (.tup xs)) (ho:∀xs,o≠.lst xs/\o≠.tup xs):hl (upd H a o)=hl H:=by
 funext b;unfold hl upd;by_cases hb:b=a
 . subst hb;rw[if_pos rfl];cases o with
   | lst xs=>exact absurd rfl (ho xs).1
   | tup xs=>exact absurd rfl (ho xs).2
   | _ =>
     cases e:H b with
     | none=>rfl
     | some u=>cases u with
       | lst xs=>exact absurd e (h xs).1
       | tup xs=>exact absurd e (h xs).2
       | _=>rfl
 . rw[if_neg hb]
theorem zur {H:Hp} {a:Addr} {kvs kvs':List (Key×V)} (h:H a=some (.dK kvs)):hl (upd H a (.dK kvs'))=hl H :=
 z4a (λxs=>⟨(by rw[h]; intro z; cases z),(by rw[h]; intro z; cases z)⟩) λxs=>⟨(by intro z; cases z),(by intro z; cases z)⟩
end L2
namespace K13
open PySem L2
theorem FoundN.hl {H:Hp} {l:Addr} {ks:List Str} {i:Nat} (h:FoundN H l ks i):FoundN (L2.hl H) l ks i:=by
 obtain⟨vs,h1,h2,h3⟩:=h;refine⟨vs,z00 h1,h2,λk v q=>?_⟩;obtain⟨o,d,z⟩:=h3 k v q;refine⟨o,d,?_⟩;cases o with
 | none=>exact z
 | some l=>obtain⟨p,z1,z2⟩:=z; exact⟨p,z1,z4k z2⟩
end K13
namespace F2
open PySem L2 Gx Fl
structure Fd where
 name:Str
 fo:V
 fa:Addr
 pa:Addr
 ra:Addr
 ps:List Str
 rs:List Rw
 ds:List K12.RowD
structure FnAt (K:W.Frag) (H:Hp) (f:Fd):Prop where
 fn:SqT K H f.fa [.str f.name,f.fo,.ref f.pa,.ref f.ra]
 pr:SqT K H f.pa (f.ps.map V.str)
 rw_:SqT K H f.ra (f.rs.map λw=>V.ref w.r)
 rk:∀w∈f.rs,z3e K H w
 fu:K12.FunAt K H f.fa f.ps f.ds
 wf:K13.Wf (f.rs.map (·.k))
 len:f.rs.length<=100
theorem FnAt.mono {K:W.Frag} {H H':Hp} {f:Fd} (e:zaj H H') (h:FnAt K H f):FnAt K H' f :=
 ⟨e.tup h.fn,e.tup h.pr,e.tup h.rw_,λw hw=>(h.rk w hw).mono e,h.fu.mono e,h.wf,h.len⟩
def toF (f:Fd):Fl.Fd:=⟨f.name,f.fa,f.ra,f.rs⟩
theorem FnAt.old {K:W.Frag} {H:Hp} {f:Fd} (h:FnAt K H f):Fl.FnAt K H (toF f):=⟨⟨_,_,h.fn⟩,h.rw_,h.rk,⟨_,_,h.fu⟩,h.wf,h.len⟩
def nms (f:Fd):List Str:=K12.onceL (K12.allOf f.ps f.ds)
def kds (f:Fd):List Str:=f.rs.map (·.k)
def kD (g:Nat->Fd->V) (fns:List Fd):List (Key×V):=fns.mapIdx λi f=>(Sum.inr f.name,g i f)
theorem z25 (g:Nat->Fd->V) (fns:List Fd) (f:Fd):kD g (fns++[f])=kD g fns++[(Sum.inr f.name,g fns.length f)]:=by unfold kD;rw[List.mapIdx_append];simp
theorem zzr {g g':Nat->Fd->V} {fns:List Fd} (h:∀i f,i<fns.length->g i f=g' i f):kD g fns=kD g' fns:=by unfold kD;refine List.ext_getElem (by simp) λi h1 h2=>?_;simp only[List.getElem_mapIdx];rw[h i _ (by simpa using h1)]
theorem z1j (g:Nat->Fd->V) {fns:List Fd} {s:Str} (h:s ∉ fns.map (·.name)):zc9 (kD g fns) (Sum.inr s:Key)=none:=by
 unfold zc9;rw[Option.map_eq_none_iff,List.find?_eq_none];intro kv hkv z;unfold kD at hkv;obtain⟨i,hi,e⟩:=List.mem_mapIdx.mp hkv;subst e;have z:(Sum.inr fns[i].name:Key)=Sum.inr s:=by simpa using z
 exact h (List.mem_map.mpr ⟨fns[i],qcb hi,Sum.inr.inj z⟩)
theorem zo2 {fns:List Fd} {f:Fd} {i:Nat} (h:fns[i]?=some f) (nd:(fns.map (·.name)).Nodup):f.name ∉ (fns.take i).map (·.name):=by
 intro z;obtain⟨g,hg,e⟩:=List.mem_map.mp z;obtain⟨j,hj⟩:=qax hg;have hji:j<i:=by have:=(List.getElem?_eq_some_iff.mp hj).1;rw[qay] at this;omega
 rw[qbp hji] at hj;have h1:(fns.map (·.name))[i]?=some f.name:=by rw[List.getElem?_map,h]; rfl
 have h2:(fns.map (·.name))[j]?=some f.name:=by rw[List.getElem?_map,hj]; exact congrArg some e
 have:=(qb9 (List.getElem?_eq_some_iff.mp h2).1 nd).mp (h2.trans h1.symm);omega
theorem zmw {g g':Nat->Fd->V} {fns:List Fd} {f:Fd} {i:Nat} {v:V} (h:fns[i]?=some f) (nd:(fns.map (·.name)).Nodup) (hg:∀j f,j<i->g j f=g' j f) (hv:v=g' i f):zbx (kD g (fns.take i)) (Sum.inr f.name:Key) v=kD g' (fns.take (i+1)):=by
 have hi:i<fns.length:=(List.getElem?_eq_some_iff.mp h).1;have hl:(fns.take i).length=i:=by rw[qay]; omega
 rw[zuf _ (z1j g (zo2 h nd)),qbg,h];show _=kD g' (fns.take i++[f]);rw[z25,hl,<- hv,zzr (g:=g) (g':=g') λj f hj=>hg j f (by omega)]
theorem kD_at (g:Nat->Fd->V):∀{fns:List Fd} {i:Nat} {f:Fd},(fns.map (·.name)).Nodup->fns[i]?=some f->zc9 (kD g fns) (Sum.inr f.name:Key)=some (g i f):=by
 intro fns i f nd h;have hi:i<fns.length:=(List.getElem?_eq_some_iff.mp h).1;have key:∀k,i<k->k<=fns.length->zc9 (kD g (fns.take k)) (Sum.inr f.name:Key)=some (g i f):=by
   intro k
   induction k with
   | zero=>intro h0; exact absurd h0 (qcx _)
   | succ k ih =>
     intro hk hk';obtain⟨f',hf'⟩:∃f',fns[k]?=some f':=⟨fns[k],List.getElem?_eq_getElem (by omega)⟩
     rw[<- zmw (g:=g) (g':=g) hf' nd (λ_ _ _=>rfl) rfl,zdm];by_cases e:i=k
     . subst e;rw[h] at hf';cases hf';rw[if_pos rfl]
     . have hn:¬ (Sum.inr f.name:Key)=Sum.inr f'.name:=λz=>zo2 hf' nd (List.mem_map.mpr ⟨f,List.mem_of_getElem? (by rw[qbp (show i<k by omega)]; exact h),Sum.inr.inj z⟩);rw[if_neg hn];exact ih (by omega) (by omega)
 have:=key fns.length hi (qae _);rw[qbs] at this;exact this
structure FlowsAt (K:W.Frag) (C:Addr) (H:Hp) (x:Addr) (fns:List Fd):Prop where
 all:∀f∈fns,FnAt K H f
 nd:(fns.map (·.name)).Nodup
 ob:∃dx fz d kv,∃nl wl:Nat->Addr,fns[fns.length - 1]?=some fz/\FS C H x dx (zqv (V.str fz.name) d) d kv/\kv 0=kD (λi _=>.int i) fns/\kv 1=kD (λ_ f=>f.fo) fns/\kv 2=kD (λ_ f=>.ref f.pa) fns/\kv 3=kD (λ_ f=>.ref f.ra) fns /\
   kv 4=kD (λi _=>.ref (nl i)) fns/\kv 5=kD (λi _=>.ref (wl i)) fns/\∀i f,fns[i]?=some f->H (nl i)=some (.lst ((nms f).map V.str))/\K13.FoundN H (wl i) (kds f) (kds f).length
theorem FlowsAt.mono {K:W.Frag} {C:Addr} {H H':Hp} {x:Addr} {fns:List Fd} (e:zaj H H') (h:FlowsAt K C H x fns):FlowsAt K C H' x fns:=by obtain⟨dx,fz,d,kv,nl,wl,h0,h1,h2,h3,h4,h5,h6,h7,h8⟩:=h.ob;exact⟨λf hf=>(h.all f hf).mono e,h.nd,⟨dx,fz,d,kv,nl,wl,h0,h1.mono e,h2,h3,h4,h5,h6,h7,λi f hi=>⟨e _ _ (h8 i f hi).1,(h8 i f hi).2.mono e⟩⟩⟩
end F2
namespace K21
open PySem L2
abbrev wide:Int:=281474976710656
def bw (s:Str) (a b:Int):Int:=if s="&" then Builtin.bitAnd a b else if s="|" then Builtin.bitOr a b else Builtin.bitXor a b
def zwi (s:Str) (x y:Int):Int:=if s="&" then x * y else if s="|" then x+y - x * y else(x+y)%2
theorem z5n (x:Int):x%2=0\/x%2=1:=by omega
theorem zzv (s:Str) (a b:Int):0<=zwi s (a%2) (b%2)/\zwi s (a%2) (b%2)<=1:=by unfold zwi;rcases z5n a with h|h <;> rcases z5n b with h' | h' <;> rw[h,h'] <;> (split; decide; split <;> decide)
theorem z3x {x y:Int} (hx:0<=x) (hy:0<=y):Builtin.bitAnd x y=2 * Builtin.bitAnd (x / 2) (y / 2)+(x%2) * (y%2):=by
 obtain⟨n,rfl⟩:=qby hx;obtain⟨m,rfl⟩:=qby hy;rw[PyProof.Rows.bitAnd_pp hx hy,PyProof.Rows.bitAnd_pp (by omega) (by omega)];have e1:(Int.ofNat n).toNat=n:=rfl;have e2:(Int.ofNat m).toNat=m:=rfl;have e3:((n:Int) / 2).toNat=n / 2:=by omega
 have e4:((m:Int) / 2).toNat=m / 2:=by omega
 have a1:((n &&& m) / 2)=(n / 2) &&& (m / 2):=Nat.and_div_two;have a2:(n &&& m)%2=(n%2) * (m%2):=by have h1:=Nat.and_mod_two_eq_one (a:=n) (b:=m);rcases qdr n with h|h <;> rcases qdr m with h' | h' <;> rw[h,h'] at h1 ⊢ <;> omega
 have a3:=Nat.div_add_mod (n &&& m) 2;show((n &&& m:Nat):Int)=_;rw[e3,e4,<- a1];have a4:((n:Int)%2) * ((m:Int)%2)=(((n%2) * (m%2):Nat):Int):=by rw[Int.natCast_mul];rfl
 show _=2 * (((n &&& m) / 2:Nat):Int)+((n:Int)%2) * ((m:Int)%2);rw[a4,<- a2];omega
theorem z12 (s:Str) {a b:Int} (ha:0<=a) (hb:0<=b):bw s a b=2 * bw s (a / 2) (b / 2)+zwi s (a%2) (b%2):=by
 have h:=z3x ha hb;unfold bw zwi;split
 . exact h
 . split
   . rw[qc3,qc3,h];omega
   . have e:∀x y:Int,Builtin.bitXor x y=x+y - 2 * Builtin.bitAnd x y:=λx y=>by unfold Builtin.bitXor;rw[qc3];omega
     rw[e,e,h];rcases z5n a with p|p <;> rcases z5n b with p' | p' <;> rw[p,p'] <;> omega
theorem z10 (s:Str):bw s 0 0=0:=by
 unfold bw;split
 . rfl
 . split <;> rfl
theorem zty (s:Str):∀(n:Nat) {a b:Int},0<=a->0<=b->a<2 ^ n->b<2 ^ n->0<=bw s a b/\bw s a b<2 ^ n
 | 0,a,b,h1,h2,h3,h4=>by
   have e1:a=0:=by simp at h3; omega
   have e2:b=0:=by simp at h4; omega
   subst e1 e2;rw[z10];decide
 | n+1,a,b,h1,h2,h3,h4=>by rw[Int.pow_succ] at h3 h4 ⊢;have ih:=zty s n (a:=a / 2) (b:=b / 2) (by omega) (by omega) (by omega) (by omega);have st:=z12 s h1 h2;have bb:=zzv s a b;omega
def valOf (s:Str) (a b:Int):Int :=
 if s="+" then(a+b)%wide else if s="-" then(a - b)%wide else if s="*" then(a * b)%wide else if s="/" then(if b=0 then 0 else a / b)
 else if s="<" then(if a<b then 1 else 0) else if s="=" then(if a=b then 1 else 0) else bw s a b
theorem val_bound (s:Str) {a b:Int} (ha:0<=a) (hb:0<=b) (ha':a<wide) (hb':b<wide):0<=valOf s a b/\valOf s a b<wide:=by
 have m:∀z:Int,0<=z%wide/\z%wide<wide:=λz=>⟨qd2 _ (by decide),qdn _ (by decide)⟩
 unfold valOf;split
 . exact m _
 split
 . exact m _
 split
 . exact m _
 split
 . split
   . decide
   . have h1:0<=a / b:=Int.ediv_nonneg ha hb;have h2:a / b<=a:=Int.ediv_le_self b ha;omega
 split
 . split <;> decide
 split
 . split <;> decide
 exact zty s 48 ha hb ha' hb'
end K21
namespace L2
open PySem PySem.Spec PyProof.Rows
def sB:Stmt->List Stmt
 | .For _ _ b _ _=>b
 | .While _ b _ _=>b
 | .If _ b _ _=>b
 | _=>[]
end L2
namespace Ex
open PySem PySem.W PyProof.Rows PySem.Spec
section
variable {prog:Program} {w:World} {A:Around} {E:Value->Shared->Prop} {R:Result->Shared->Prop} {h:Heap} {g:Array GenState} {d:Drawn} {t:Nat} {os:OsState}
 {nm q:Str} {C N:Addr} {bs bm:List Value} {hdct:Bool} {sn:List Str} {sub:List Value} {ab:Bool} {col:Option Bool} {dd:Option Addr} {k0 k1 k2 k3 k5:Option Value}
structure VE (C:Addr) (bm:List Value):Prop where
 b:(Value.ref C :: bm).contains (.type "ValueError")=true
 e:(Value.ref C :: bm).contains (.type "BaseException")=true
 a:(Value.ref C :: bm).contains (.type "AttributeError")=false
 n:(Value.ref C :: bm).contains (.type "NameError")=false
theorem z1s {M:Model} (hC:h.get? C=some (excClassObj nm q C N bs bm hdct sn sub ab col dd k0 k1 k2 k3 k5 "ValueError.__new__")) (V:VE C bm) {rest:List Value} {Q:Unit->Shared->Prop}
   (hq:Q () ⟨h,g,d,t,os⟩):wpAny M A (checkBuiltinCall "ValueError.__new__" ⟨.ref C :: rest,[]⟩) Q E ⟨h,g,d,t,os⟩:=by
 have F:=qb2;have v:=V.b;have st:=F.noStar;simp only[checkBuiltinCall,F.newKind,F.newSplit,F.newRow]
 repeat (first|refine wpAny_loadPart_at hC ?_|(refine wpAny_isSubtype_exc hC ?_; rw[v])|refine wpAny_staticBase_exc hC ?_|refine wpAny_madeBy_exc hC ?_|simp only[bne_self_eq_false,qce,if_false] | wp_step)
 exact hq
def zvi (h:Heap) (C:Addr) (rest:List Value):Heap:=(h.push { cls:=.type "tuple",data:=.seq rest.toArray }).push { cls:=.ref C,data:=.fields #[.ref h.objs.size,.none,.none,.none,.bool false,.none] }
theorem heapX_keeps {rest:List Value}:∀b o,h.get? b=some o->(zvi h C rest).get? b=some o:=λ_ _ e=>Heap.get?_push_of_some _ (Heap.get?_push_of_some _ e)
theorem heapX_at {rest:List Value}:(zvi h C rest).get? (h.objs.size+1)=some { cls:=.ref C,data:=.fields #[.ref h.objs.size,.none,.none,.none,.bool false,.none] }:=by unfold zvi; heap_get
theorem z58 (hC:h.get? C=some (excClassObj nm q C N bs bm hdct sn sub ab col dd k0 k1 k2 k3 k5 "ValueError.__new__")) (V:VE C bm) {rest:List Value} (hz:rest.length<=sizeLine)
   (hq:R (.ok (.ret (.ref (h.objs.size+1)))) ⟨zvi h C rest,g,d,t,os⟩):codeAny (model prog w) A (.builtin "ValueError.__new__" ⟨.ref C :: rest,[]⟩) R ⟨h,g,d,t,os⟩:=by
 have F:=qb2;have en:=F.ends;have vb:=V.b;have va:=V.a;have vn:=V.n;refine codeAny_builtinAt F.entry ?_;unfold Builtin.«BaseException.__new__»;refine PySem.wpAt_bind ?_;show PySem.wpAt _ _ _ (stack >>= _) _ _ _;refine PySem.wpAt_bind (PySem.wpAt_stack λp below=>PySem.wpAt_of_wpAny ?_)
 wp_walk
 refine PySem.wpAt_of_wpAny ?_;rw[F.owner]
 repeat (first|with_reducible refine wpAny_madeHere_exc F.canon hC ?_|with_reducible refine wpAny_loadPart_at hC ?_|(with_reducible refine wpAny_isSubtype_exc hC ?_; first|rw[vb] | rw[va] | rw[vn])|wp_step)
 show R _ _;rw[qbx];exact hq
theorem z4d (hC:h.get? C=some (excClassObj nm q C N bs bm hdct sn sub ab col dd k0 k1 k2 k3 k5 "ValueError.__new__")) (V:VE C bm) {rest:List Value} (hz:rest.length<=sizeLine) {fI:Value}
   (hi:Looks (model prog w) h (typeLookup (.ref C) "__init__") (some fI)) (hb:Looks (model prog w) h (bindSpecial fI (.ref (h.objs.size+1))) (fI,[.ref (h.objs.size+1)])) {Q:Fin->Shared->Prop}
   (hq:wpAny (model prog w) A (call fI (.ref (h.objs.size+1) :: rest)) (λr s'=>r=.none/\Q (.done (.ret (.ref (h.objs.size+1)))) s') E ⟨zvi h C rest,g,d,t,os⟩) :
   wpAny (model prog w) A (Builtin.«type.__call__» ⟨.ref C :: rest,[]⟩) Q E ⟨h,g,d,t,os⟩:=by
 repeat (first|with_reducible refine wpAny_loadPart_at hC ?_|with_reducible refine wpAny_madeBy_exc hC ?_|wp_step)
 refine codeAny_call_builtin_code (Code.quiet_builtin _ qb2.quiet) (z1s hC V ?_);refine z58 hC V hz ?_;show wpAny _ _ _ _ _ _;have hC1:=heapX_keeps (C:=C) (rest:=rest) _ _ hC;have hg:=heapX_at (h:=h) (C:=C) (rest:=rest);have hcC:(Value.ref C :: bm).contains (.ref C)=true:=by simp
 have i1:=hi.keeps (heapX_keeps (C:=C) (rest:=rest));have b1:=hb.keeps (heapX_keeps (C:=C) (rest:=rest));unfold isInstance
 repeat (first|with_reducible refine wpAny_loadPart_at hg ?_|(with_reducible refine wpAny_isSubtype_exc hC1 ?_; rw[hcC])|wp_step)
 show wpAny _ _ (typeLookup (.ref C) _) _ _ _;refine i1.at ?_;refine wpAny_holding (wpAny_bind ?_);refine b1.at ?_;refine wpAny_bind (wpAny_mono hq (λr s' hr=>?_) λ_ _ x=>x);obtain⟨rfl,hQ⟩:=hr
 wp_walk
 exact hQ
theorem x_call (hC:h.get? C=some (excClassObj nm q C N bs bm hdct sn sub ab col dd k0 k1 k2 k3 k5 "ValueError.__new__")) (V:VE C bm) {rest:List Value} (hz:rest.length<=sizeLine) {fI:Value}
   (hi:Looks (model prog w) h (typeLookup (.ref C) "__init__") (some fI)) (hb:Looks (model prog w) h (bindSpecial fI (.ref (h.objs.size+1))) (fI,[.ref (h.objs.size+1)])) {Q:Value->Shared->Prop}
   (hq:wpAny (model prog w) (A.under (.builtin "type.__call__" ⟨.ref C :: rest,[]⟩)) (call fI (.ref (h.objs.size+1) :: rest)) (λr s'=>r=.none/\Q (.ref (h.objs.size+1)) s') E ⟨zvi h C rest,g,d,t,os⟩) :
   wpAny (model prog w) A (call (.ref C) rest) Q E ⟨h,g,d,t,os⟩:=by
 have f1:=tc_lookup;have f2:=tc_bind (.ref C);have hT:(⟨h,g,d,t,os⟩:Shared).TypeIs (.ref C) "type":=⟨_,hC,rfl⟩
 refine wpAny_call (codeAny_of_tree ?_);show wpAny _ _ (callAny (.ref C) _) _ _ _
 repeat (any_goals (first|assumption|with_reducible refine wpAny_loadPart_at hC ?_|wp_step))
 refine⟨rfl,?_⟩;exact codeAny_call_builtin_at (Code.quiet_builtin _ (by decide +kernel)) entry_typeCall (wpAny_check_type_call_sub hC (z4d hC V hz hi hb hq))
theorem x_raise {M:Model} {env:Env} {s:Shared} {x:Sem Value} {Q:Flow->Shared->Prop} (hh:A.handled=none)
   (hx:wpAny M A x (λv s₁=>∃e o vs,v=.ref e/\s₁.heap.get? C=some (excClassObj nm q C N bs bm hdct sn sub ab col dd k0 k1 k2 k3 k5 "ValueError.__new__")/\VE C bm /\
     s₁.heap.get? e=some o/\o.cls=.ref C/\o.data=.fields vs/\vs[1]?=some .none/\E (.ref e) s₁) E s):wpAny M A (raiseStmt env (some x) none) Q E s:=by
 unfold raiseStmt;refine wpAny_bind (wpAny_mono hx (λv s₁ h₁=>?_) λ_ _ x=>x);obtain⟨e,o,vs,rfl,hC,V,he,hc,hd,h1,hE⟩:=h₁;obtain⟨hp,g,d,tk,os⟩:=s₁;obtain⟨oc,od,oda,osl⟩:=o;dsimp only at hc hd;subst hc hd;have ve:=V.e
 repeat (first|with_reducible refine wpAny_loadPart_at he ?_|with_reducible refine wpAny_loadPart_at hC ?_|(with_reducible refine wpAny_isSubtype_exc hC ?_; rw[ve])|wp_step)
 rw[h1];refine wpAny_pure ?_;rw[if_neg (by decide)];exact wpAny_pure (wpAny_raiseNew_none hh hE)
end
end Ex
namespace Ex
open PySem PySem.W PyProof.Rows PySem.Spec L2
structure Mvd (S:List Addr) (D:Addr->Prop) (h h':Heap):Prop where
 keep:∀b o,¬ D b->b ∉ S->h.get? b=some o->h'.get? b=some o
 slot:∀b o,¬ D b->h.get? b=some o->∃sl,h'.get? b=some { o with slots:=sl }
theorem Mvd.trans {S:List Addr} {D:Addr->Prop} {h h1 h2:Heap} (a:Mvd S D h h1) (b:Mvd S D h1 h2):Mvd S D h h2 :=
 ⟨λc o n m e=>b.keep c o n m (a.keep c o n m e),λc o n e=>by obtain⟨sl,e1⟩:=a.slot c o n e;obtain⟨sl2,e2⟩:=b.slot c _ n e1;exact⟨sl2,e2⟩⟩
theorem Mvd.mono {S:List Addr} {D D':Addr->Prop} {h h':Heap} (a:Mvd S D h h') (hd:∀b,D b->D' b):Mvd S D' h h':=⟨λb o n=>a.keep b o λz=>n (hd b z),λb o n=>a.slot b o λz=>n (hd b z)⟩
def Tr (h:Heap) (e:Addr) (cls:Value) (d:Option Addr) (T:Addr) (fl:Value):Prop :=
 ∃o vs oT ts,h.get? e=some o/\o.cls=cls/\o.dict=d/\o.data=.fields vs/\vs[1]?=some (.ref T)/\T≠e/\h.get? T=some oT/\oT.data=.fields ts/\ts[3]?=some fl
def Raw (h:Heap) (e:Addr) (cls:Value) (d:Option Addr):Prop:=∃o vs,h.get? e=some o/\o.cls=cls/\o.dict=d/\o.data=.fields vs/\vs[1]?=some .none
section
variable {M:Model} {A:Around} {E:Value->Shared->Prop} {s:Shared} {base:Heap} {env:Env} {outer:List Env} {L e:Addr} {cls:Value} {d:Option Addr}
theorem mapF (f:Array Value->Array Value) {o:Obj} {vs:Array Value} (hd:o.data=.fields vs):Obj.mapFields f o={ o with data:=.fields (f vs) }:=by obtain⟨c,d,dt,sl⟩:=o;dsimp only at hd;subst hd;rfl
theorem zxr {oe:Obj} {vs:Array Value} {head:Value} {hadNext:Bool} {Q:Unit->Shared->Prop} (hfr:A.frames=some (env :: outer)) (hl:s.heap.FunFrames base (env :: outer)) (hf:env.frame=some L)
   (he:s.heap.get? e=some oe) (hd:oe.data=.fields vs) (hsz:1<vs.size)
   (h:∀h' T,s.heap.get? T=none->Mvd (frs (env :: outer)) (λb=>b=e) s.heap h'->Tr h' e oe.cls oe.dict T (rawInt L)->Q () { s with heap:=h' }) :
   wpAny M A (do let a <- frameOf env; let pl <- entryPlaceOf L hadNext; let b <- EntryCells.newEntry head a .none (rawInt L) .none pl; setField (.ref e) 1 b) Q E s:=by
 have hene:e ∉ frs (env :: outer):=λhm=>by obtain⟨_,o,ho,hnf⟩:=hl.mem hm;rw[he] at ho; cases ho; exact hnf vs hd
 refine wpAny_bind (wpAny_frameOf_fun hfr hl hf λh₁ hs₁=>?_);refine wpAny_bind (wpAny_entryPlaceOf λpl hpl=>?_);unfold EntryCells.newEntry newFields;refine wpAny_bind (wpAny_newObj_type ?_ (hpl.sizeOk5 _ _ _ _ _));have he₁:h₁.get? e=some oe:=(hs₁.2.1 e hene).trans he;have he₂:=Heap.get?_push_of_some (h:=h₁) { cls:=.type "traceback",dict:=none,data:=.fields ([head,.ref L,.none,rawInt L,.none]++(if pl.isEmpty then List.replicate 6 Value.none else pl)).toArray } he₁;refine wpAny_setField he₂ hd hsz (h _ h₁.objs.size (qct (by rw[hs₁.1]; exact qae _)) ?_ ?_)
 . refine⟨λb o hb hm hbo=>?_,λb o hb hbo=>?_⟩
   . rw[qbn _ _ (Ne.symm hb)];exact Heap.get?_push_of_some _ ((hs₁.2.1 b hm).trans hbo)
   . obtain⟨sl,e1⟩:=hs₁.2.2 b o hbo;refine⟨sl,?_⟩;rw[qbn _ _ (Ne.symm hb)];exact Heap.get?_push_of_some _ e1
 . have hTe:h₁.objs.size≠e:=qcd (Heap.lt_size he₁);have hd₃:=Obj.data_mapFields hd (·.setIfInBounds 1 (Value.ref h₁.objs.size));have he₃:=qb4 (Obj.mapFields (·.setIfInBounds 1 (Value.ref h₁.objs.size))) he₂ (Obj.isFreed_of_fields hd₃);have hT₃:=(qbn (h₁.push { cls:=.type "traceback",dict:=none,data:=.fields ([head,.ref L,.none,rawInt L,.none]++(if pl.isEmpty then List.replicate 6 Value.none else pl)).toArray })
     (Obj.mapFields (·.setIfInBounds 1 (Value.ref h₁.objs.size))) (Ne.symm hTe)).trans (qao h₁ rfl)
   refine⟨_,_,_,_,he₃,?_,?_,hd₃,by simp [hsz],hTe,hT₃,rfl,by first|(simp; done)|(rcases hpl with rfl|⟨_,_,_,_,_,_,_,rfl⟩ <;> simp)⟩
   . rw[mapF _ hd]
   . rw[mapF _ hd]
theorem x_mark {T:Addr} {fl:Value} {fr:Option Addr} {Q:Unit->Shared->Prop} (ht:Tr s.heap e cls d T fl)
   (h:∀h',Mvd [] (λb=>b=T) s.heap h'->Tr h' e cls d T (fr.elim .none λf=>rawInt f)->Q () { s with heap:=h' }):wpAny M A (setFlight (.ref e) fr) Q E s:=by
 obtain⟨o,vs,oT,ts,he,hc,hdc,hd,h1,hTe,hT,hdT,h3⟩:=ht;have hsz:3<ts.size:=(qch.mp h3).1;unfold setFlight;refine wpAny_bind (wpAny_field he hd h1 ?_);rw[if_pos (show(Value.ref T != Value.none)=true from by simp)];have other:∀(g:Obj->Obj) (b:Addr),b≠T->(s.heap.update T g).get? b=s.heap.get? b:=λg b hb=>qbn _ _ (Ne.symm hb);refine wpAny_setField hT hdT hsz (h _ ⟨λb o hb _ hbo=>(other _ b hb).trans hbo,λb o hb hbo=>⟨o.slots,(other _ b hb).trans hbo⟩⟩ ?_);exact⟨o,vs,_,_,(other _ e (Ne.symm hTe)).trans he,hc,hdc,hd,h1,hTe,qb4 _ hT (Obj.isFreed_of_fields (Obj.data_mapFields hdT _)),Obj.data_mapFields hdT _,by simp [hsz]⟩
theorem x_noteR {Q:Unit->Shared->Prop} (hfr:A.frames=some (env :: outer)) (hl:s.heap.FunFrames base (env :: outer)) (hf:env.frame=some L) (hr:Raw s.heap e cls d)
   (h:∀h' T,s.heap.get? T=none->Mvd (frs (env :: outer)) (λb=>b=e) s.heap h'->Tr h' e cls d T (rawInt L)->Q () { s with heap:=h' }):wpAny M A (noteFrame (.ref e) env) Q E s:=by
 obtain⟨o,vs,he,rfl,rfl,hd,h1⟩:=hr;unfold noteFrame;simp only[hf];refine wpAny_bind (wpAny_field he hd h1 ?_);rw[if_neg (by decide)];exact zxr hfr hl hf he hd (qch.mp h1).1 h
theorem x_noteT {T0:Addr} {Q:Unit->Shared->Prop} (hfr:A.frames=some (env :: outer)) (hl:s.heap.FunFrames base (env :: outer)) (hf:env.frame=some L) (hr:Tr s.heap e cls d T0 .none)
   (h:∀h' T,s.heap.get? T=none->Mvd (frs (env :: outer)) (λb=>b=e\/b=T0) s.heap h'->Tr h' e cls d T (rawInt L)->Q () { s with heap:=h' }):wpAny M A (noteFrame (.ref e) env) Q E s:=by
 obtain⟨o,vs,oT,ts,he,rfl,rfl,hd,h1,hTe,hT,hdT,h3⟩:=hr;unfold noteFrame;simp only[hf];refine wpAny_bind (wpAny_field he hd h1 ?_);rw[if_pos (show(Value.ref T0 != Value.none)=true from by simp)];refine wpAny_bind (wpAny_field hT hdT h3 ?_);rw[if_neg (show ¬ ((Value.none==rawInt L)=true) from by simp [rawInt])];refine wpAny_bind (wpAny_setField hT hdT (qch.mp h3).1 ?_);have other:∀(g:Obj->Obj) (b:Addr),b≠T0->(s.heap.update T0 g).get? b=s.heap.get? b:=λg b hb=>qbn _ _ (Ne.symm hb);have noT:∀b o,s.heap.get? b=some o->(∀vs,o.data≠.fields vs)->b≠T0:=λb o hb hnf q=>by rw[q,hT] at hb; cases hb; exact hnf ts hdT
 have m1:Mvd (frs (env :: outer)) (λb=>b=e\/b=T0) s.heap (s.heap.update T0 (Obj.mapFields (·.setIfInBounds 3 Value.none))) :=
   ⟨λb o hb _ hbo=>(other _ b λz=>hb (.inr z)).trans hbo,λb o hb hbo=>⟨o.slots,(other _ b λz=>hb (.inr z)).trans hbo⟩⟩
 have hl2:(s.heap.update T0 (Obj.mapFields (·.setIfInBounds 3 Value.none))).FunFrames base (env :: outer):=hl.of_keeps λb o hb hnf=>⟨o,(other _ b (noT b o hb hnf)).trans hb,rfl⟩
 refine zxr (s:={ s with heap:=s.heap.update T0 (Obj.mapFields (·.setIfInBounds 3 Value.none)) }) hfr hl2 hf ((other _ e (Ne.symm hTe)).trans he) hd (qch.mp h1).1 λh' T hT' m2 tr=>h h' T ?_ (m1.trans (m2.mono λb z=>.inl z)) tr;by_cases z:T=T0
 . subst z;exfalso;have q:=qb4 (Obj.mapFields (·.setIfInBounds 3 Value.none)) hT (Obj.isFreed_of_fields (Obj.data_mapFields hdT _));dsimp only at hT';rw[q] at hT'; cases hT'
 . dsimp only at hT';rwa [other _ T z] at hT'
end
end Ex
namespace L2
open PySem PySem.Spec PyProof.Rows
def XO (e C:Addr) (d:Option Addr):HO:=.ext λh=>∃t,h.get? e=some { cls:=.ref C,dict:=d,data:=.fields #[.ref t,.none,.none,.none,.bool false,.none] }
def XC (e C:Addr) (d:Option Addr):HO:=.ext λh=>∃o vs,h.get? e=some o/\o.cls=.ref C/\o.dict=d/\o.data=.fields vs
def XCls (K:W.Frag) (C:Addr):Prop:=∃(nm q:Str) (N:Addr) (bs bm:List Value) (sn:List Str) (sub:List Value) (ab:Bool) (col:Option Bool) (dd:Option Addr) (k0 k1 k2 k3 k5:Option Value),
 K.lookup C=some (excClassObj nm q C N bs bm true sn sub ab col dd k0 k1 k2 k3 k5 "ValueError.__new__")/\Ex.VE C bm
def CXe (P:Program) (w:World):CXT:=λouter H s E e s'=>∃ea cls d T H',e=.ref ea/\s'.os=s.os/\AllBare s'.gens/\Un (frs outer) [] H H' s.heap s'.heap/\HOk P w H' s'.heap /\
 s.heap.get? ea=none/\H' ea=none/\s.heap.get? T=none/\H' T=none/\Ex.Tr s'.heap ea cls d T .none/\E cls d H'
section
variable {P:Program} {w:World} {H H':Hp} {h h':Heap} {a:Addr} {o:HO} {fs S:List Addr} {D:Addr->Prop} {H0:Hp} {h0:Heap}
theorem zdu.some_at (x:zdu P w H h a o):∃u,h.get? a=some u:=by
 cases o with
 | lst xs=>obtain⟨_,_,_,_,e⟩:=x; exact⟨_,e⟩
 | tup xs=>obtain⟨_,_,_,ob,e,_⟩:=x; exact⟨_,e⟩
 | dK kvs=>obtain⟨_,_,_,_,o,_,_,e,_⟩:=x; exact⟨_,e⟩
 | dT kvs=>obtain⟨_,_,_,_,o,_,_,e,_⟩:=x; exact⟨_,e⟩
 | set S n=>obtain⟨o,_,_,_,e,_⟩:=x; exact⟨_,e⟩
 | ins C dx fs=>obtain⟨_,_,_,e,_⟩:=x; exact⟨_,e⟩
 | own y=>exact x
 | xd fs=>obtain⟨_,⟨_,_,_,e,_⟩,_⟩:=x; exact⟨_,e⟩
 | rng lo hi=>obtain⟨_,_,_,e⟩:=x; exact⟨_,e⟩
 | frz ob u=>obtain⟨e,_⟩:=x; exact⟨_,e⟩
 | tbl ps=>exact⟨_,(show h.get? a=some _ from x)⟩
 | met f y=>exact⟨_,(show h.get? a=some _ from x)⟩
 | ext φ=>exact x.2.1
theorem HOk.none_of (x:HOk P w H h) (e:h.get? a=none):H a=none:=by
 cases q:H a with
 | none=>rfl
 | some u=>obtain⟨v,z⟩:=(x a u q).some_at; rw[e] at z; cases z
theorem Un.moved (u:Un fs [] H0 H h0 h) (m:Ex.Mvd S D h h') (hD:∀b,D b->h0.get? b=none) (hS:∀b∈S,b∈fs\/h0.get? b=none):Un fs [] H0 H h0 h' where
 keep:=λb o q n hb hx=>m.keep b o (λz=>by rw[hD b z] at q; cases q) (λz=>(hS b z).elim hb λr=>by rw[r] at q; cases q) (u.keep b o q n hb hx)
 slot:=λb o q n hb hx=>by obtain⟨sl,e⟩:=u.slot b o q n hb hx;obtain⟨sl2,e2⟩:=m.slot b _ (λz=>by rw[hD b z] at q; cases q) e;exact⟨sl2,e2⟩
 free:=u.free
 there:=λb o q hx=>by obtain⟨o',e⟩:=u.there b o q hx;obtain⟨sl2,e2⟩:=m.slot b _ (λz=>by rw[hD b z] at q; cases q) e;exact⟨_,e2⟩
 tups:=u.tups
 frzs:=u.frzs
 tbls:=u.tbls
theorem HOk.moved (x:HOk P w H h) (m:Ex.Mvd S D h h') (hD:∀b,D b->H b=none) (hS:∀b∈S,H b=none):HOk P w H h':=λa o e =>
 (x a o e).stay (λb u hb q=>by
   have t:∃z,H b=some z:=by
     rcases hb with rfl|hb
     . exact⟨_,e⟩
     . exact⟨_,hb⟩
   obtain⟨z,t⟩:=t;exact m.keep b u (λy=>by rw[hD b y] at t; cases t) (λy=>by rw[hS b y] at t; cases t) q) (λ_ q=>q) λ_ _ q=>q
theorem Un.ers {φ:Heap->Prop} (u:Un fs [] H0 H h0 h) (e:H a=some (.ext φ)):Un fs [] H0 (ers a H) h0 h where
 keep:=u.keep
 slot:=u.slot
 free:=λb o q n hx=>by
   have r:=u.free b o q n hx;unfold L2.ers;split
   . rfl
   . exact r
 there:=u.there
 tups:=λb xs q=>by have r:=u.tups b xs q;rw[zcu (λz=>by rw[z,e] at r; cases r)]; exact r
 frzs:=λb o xs q=>by have r:=u.frzs b o xs q;rw[zcu (λz=>by rw[z,e] at r; cases r)]; exact r
 tbls:=λb ps q=>by obtain⟨m,r⟩:=u.tbls b ps q;exact⟨m,by rw[zcu (λz=>by rw[z,e] at r; cases r)]; exact r⟩
theorem HOk.ers {φ:Heap->Prop} (x:HOk P w H h) (e:H a=some (.ext φ)):HOk P w (ers a H) h:=λb o q=>by
 have hb:b≠a:=λz=>by subst z; unfold L2.ers at q; rw[if_pos rfl] at q; cases q
 rw[zcu hb] at q;exact(x b o q).stay (λc u _ r=>r) (λc r=>by rw[zcu (λz=>by rw[z,e] at r; cases r)]; exact r) λc xs r=>by rw[zcu (λz=>by rw[z,e] at r; cases r)]; exact r
end
theorem zy7 {S S':List Addr} {D:Addr->Prop} {h h':Heap} (m:Ex.Mvd S D h h') (hs:∀b∈S,b∈S'):Ex.Mvd S' D h h':=⟨λb o n z=>m.keep b o n λq=>z (hs b q),m.slot⟩
section
variable {P:Program} {w:World} {K:W.Frag} {mg:Str->Option Value} {base:Heap} {N:List Str} {qual:Str} {sc:Scope} {f:Addr} {cd:Value} {A:Around} {outer:List Env} {s0 s:Shared} {H0 H:Hp} {E:XK}
 {pins:List (Addr×Obj)} {σ:St} {cls:Value} {d:Option Addr} {e:Addr}
theorem z0z {h2:Heap} {T:Addr} {D:Addr->Prop} {S:List Addr} (I:Inv (zkk (CXe P w) P w K mg base N qual sc f cd A outer s0 H0 E) pins σ H s) {H1:Hp} (hn:s0.heap.get? e=none) (hT:s.heap.get? T=none)
   (u:Un (frs outer) [] H0 H1 s0.heap s.heap) (hok:HOk P w H1 s.heap) (he1:H1 e=none) (hS:S=frs (zkk (CXe P w) P w K mg base N qual sc f cd A outer s0 H0 E).stack) (hS1:∀b∈S,H1 b=none)
   (m:Ex.Mvd S D s.heap h2) (hD0:∀b,D b->s0.heap.get? b=none) (hD1:∀b,D b->H1 b=none)
   (t:Ex.Tr h2 e cls d T .none) (hE:E cls d H1):CXe P w outer H0 s0 E (.ref e) { s with heap:=h2 }:=by
 have fresh:∀b,s.heap.get? b=none->s0.heap.get? b=none:=λb q=>by
   cases r:s0.heap.get? b with
   | none=>rfl
   | some o=>obtain⟨o',z⟩:=u.there b o r (by simp); rw[q] at z; cases z
 refine⟨e,cls,d,T,H1,rfl,I.os,I.bare,u.moved m hD0 λb hb=>?_,hok.moved m hD1 hS1,hn,he1,fresh T hT,hok.none_of hT,t,hE⟩;subst hS;rcases List.mem_cons.mp (I.stkSub b hb) with z|z
 . exact .inr (by rw[z]; exact qct I.ok.above)
 . exact .inl z
theorem z4j (I:Inv (zkk (CXe P w) P w K mg base N qual sc f cd A outer s0 H0 E) pins σ H s) {φ:Heap->Prop} (he:H e=some (.ext φ)) (hn:s0.heap.get? e=none) (hr:Ex.Raw s.heap e cls d) (hE:E cls d (ers e H)) :
   (zkk (CXe P w) P w K mg base N qual sc f cd A outer s0 H0 E).xe (.ref e) s:=by
 show wpAny _ _ (leaving _ _) _ _ s;unfold leaving;refine wpAny_bind (Ex.x_noteR I.ok.frames I.stack rfl hr λh1 T hT m1 t1=>?_);refine Ex.x_mark (fr:=none) t1 λh2 m2 t2=>?_;have hfr:=I.stkFree;have fresh:∀b,s.heap.get? b=none->s0.heap.get? b=none:=λb q=>by
   cases r:s0.heap.get? b with
   | none=>rfl
   | some o=>obtain⟨o',z⟩:=I.base.there b o r (λq=>nomatch q); rw[q] at z; cases z
 refine z0z (s:=s) (D:=λb=>b=e\/b=T) (S:=frs (zkk (CXe P w) P w K mg base N qual sc f cd A outer s0 H0 E).stack) I hn hT (Un.ers I.base he) (HOk.ers I.hok he) (if_pos rfl) rfl (λb hb=>?_) ((m1.mono λb z=>.inl z).trans (zy7 (m2.mono λb z=>.inr z) λb z=>nomatch z)) ?_ ?_ t2 hE
 . unfold L2.ers; split; rfl; exact hfr b hb
 . rintro b (rfl|rfl); exact hn; exact fresh _ hT
 . rintro b (rfl|rfl)
   . exact if_pos rfl
   . exact(HOk.ers I.hok he).none_of hT
theorem z0v:zjy (CXe P w) (zkk (CXe P w) P w K mg base N qual sc f cd A outer s0 H0 E) E:=by
 intro pins σ H s ev s' I c;obtain⟨e,cls,d,T0,H1,rfl,os,bare,un,hok,hn,he1,hT0,hT1,tr,hE⟩:=c;have I1:Inv (zkk (CXe P w) P w K mg base N qual sc f cd A outer s0 H0 E) pins σ H1 s':=I.call' os un hok bare λb z=>nomatch z;show wpAny _ _ (leaving _ _) _ _ s';unfold leaving;refine wpAny_bind (Ex.x_noteT I1.ok.frames I1.stack rfl tr λh1 T hT m1 t1=>?_);refine Ex.x_mark (fr:=none) t1 λh2 m2 t2=>?_;have fr0:∀b,s.heap.get? b=none->s0.heap.get? b=none:=λb q=>by
   cases r:s0.heap.get? b with
   | none=>rfl
   | some o=>obtain⟨o',z⟩:=I.base.there b o r (λq=>nomatch q); rw[q] at z; cases z
 have fr1:∀b,s'.heap.get? b=none->s0.heap.get? b=none:=λb q=>by
   cases r:s0.heap.get? b with
   | none=>rfl
   | some o=>obtain⟨o',z⟩:=I1.base.there b o r (λq=>nomatch q); rw[q] at z; cases z
 refine z0z (s:=s') (D:=λb=>(b=e\/b=T0)\/b=T) (S:=frs (zkk (CXe P w) P w K mg base N qual sc f cd A outer s0 H0 E).stack) I1 (fr0 _ hn) hT I1.base I1.hok he1 rfl I1.stkFree ((m1.mono λb z=>.inl z).trans (zy7 (m2.mono λb z=>.inr z) λb z=>nomatch z)) ?_ ?_ t2 hE
 . rintro b ((rfl|rfl)|rfl)
   . exact fr0 _ hn
   . exact fr0 _ hT0
   . exact fr1 _ hT
 . rintro b ((rfl|rfl)|rfl)
   . exact he1
   . exact hT1
   . exact I1.hok.none_of hT
end
def zxa (X:Cx) (EX:XK):Prop:=∀(pins:List (Addr×Obj)) (σ:St) (H:Hp) (s:Shared) (e:Addr) (φ:Heap->Prop) (cls:Value) (d:Option Addr),
 Inv X pins σ H s->H e=some (.ext φ)->X.s₀.heap.get? e=none->Ex.Raw s.heap e cls d->EX cls d (ers e H)->X.xe (.ref e) s
theorem zph {P:Program} {w:World} {K:W.Frag} {mg:Str->Option Value} {base:Heap} {N:List Str} {qual:Str} {sc:Scope} {f:Addr} {cd:Value} {A:Around} {outer:List Env} {s0:Shared} {H0:Hp} {E:XK} :
   zxa (zkk (CXe P w) P w K mg base N qual sc f cd A outer s0 H0 E) E:=λ_ _ _ _ _ _ _ _ I he hn hr hE=>z4j I he hn hr hE
theorem z6d {P:Program} {w:World} {H:Hp} {h:Heap} {e C:Addr} {d:Option Addr} {t:Addr} (q:h.get? e=some { cls:=.ref C,dict:=d,data:=.fields #[.ref t,.none,.none,.none,.bool false,.none] }):zdu P w H h e (XO e C d) :=
 ⟨⟨t,q⟩,⟨_,q⟩,λh1 h2 ⟨u,z⟩ k=>⟨u,k _ z⟩⟩
theorem z6p {P:Program} {w:World} {H:Hp} {h:Heap} {e C:Addr} {d:Option Addr} {o:Obj} {vs:Array Value} (q:h.get? e=some o) (hc:o.cls=.ref C) (hd:o.dict=d) (hf:o.data=.fields vs):zdu P w H h e (XC e C d) :=
 ⟨⟨o,vs,q,hc,hd,hf⟩,⟨_,q⟩,λh1 h2 ⟨o,vs,z,r⟩ k=>⟨o,vs,k _ z,r⟩⟩
end L2
namespace Ex
open PySem PySem.W PyProof.Rows PySem.Spec
section
variable {prog:Program} {w:World} {A:Around} {E:Value->Shared->Prop} {R:Result->Shared->Prop} {h:Heap} {g:Array GenState} {d:Drawn} {t:Nat} {os:OsState}
 {nm q:Str} {C N:Addr} {bs bm:List Value} {hdct:Bool} {sn:List Str} {sub:List Value} {ab:Bool} {col:Option Bool} {dd:Option Addr} {k0 k1 k2 k3 k5:Option Value}
theorem x_init0 {e t0:Addr} {Q:Value->Shared->Prop} (hC:h.get? C=some (excClassObj nm q C N bs bm hdct sn sub ab col dd k0 k1 k2 k3 k5 "ValueError.__new__")) (V:VE C bm)
   (he:h.get? e=some { cls:=.ref C,data:=.fields #[.ref t0,.none,.none,.none,.bool false,.none] })
   (hq:∀h' t',(∀b o,b≠e->h.get? b=some o->h'.get? b=some o)->h'.get? e=some { cls:=.ref C,data:=.fields #[.ref t',.none,.none,.none,.bool false,.none] }->Q .none ⟨h',g,d,t,os⟩) :
   wpAny (model prog w) A (call (.builtin "ValueError.__init__") [.ref e]) Q E ⟨h,g,d,t,os⟩:=by
 have F:=qb2;have vb:=V.b;have st:=F.noStar;refine wpAny_call (codeAny_call_builtin F.init.plain F.initEntry ?_);simp only[checkBuiltinCall,F.initKind,F.initSplit,F.initRow]
 repeat (first|with_reducible refine wpAny_loadPart_at he ?_|with_reducible refine wpAny_loadPart_at hC ?_|(with_reducible refine wpAny_isSubtype_exc hC ?_; rw[vb])|wp_step)
 show Q _ _;refine hq _ h.objs.size (λb o hb hbo=>?_) ?_
 . rw[qbn _ _ (Ne.symm hb)];exact Heap.get?_push_of_some _ hbo
 . rw[qb4 _ (Heap.get?_push_of_some _ he) rfl];rfl
end
end Ex
namespace L2
open PySem PySem.Spec PyProof.Rows
def zx3 (C:Addr) (EX:XK):TS:=λ_ _ H=>EX (.ref C) none H
section
variable {X:Cx} {C:Addr} {EX:XK} {x:Str} {p pos cpos:Pos}
theorem zxy (hX:XCls X.K C) (hm:X.mg x=some (.ref C)) (hi:PySem.W.findIn X.K (.ref C) "__init__"=some (some (.builtin "ValueError.__init__"))) (hk:PySem.W.keepIn X.K (.ref C)=true)
   (hc:X.calm=true) (hx:zxa X EX) (hg:Gl X x:=by rfl) (hdb:(x==("__debug__":Str))=false:=by decide) :
   PS X (.Raise (some (.Call (.Name x p) [] [] cpos)) none pos) (zx3 C EX):=by
 intro pins s σ H D I h;obtain⟨nm,q,N,bs,bm,sn,sub,ab,col,dd,k0,k1,k2,k3,k5,hl,VV⟩:=hX;rw[arm_exec_Raise];refine wpAny_bind (wpAny_standAt (Ex.x_raise (C:=C) (nm:=nm) (q:=q) (N:=N) (bs:=bs) (bm:=bm) (hdct:=true) (sn:=sn) (sub:=sub) (ab:=ab) (col:=col) (dd:=dd) (k0:=k0) (k1:=k1) (k2:=k2) (k3:=k3) (k5:=k5) (I.ok.hd hc) ?_));show wpAny _ _ (eval (.Call (.Name x p) [] [] cpos) X.env >>= λv=>standAt pos >>= λ_=>pure v) _ _ _;refine wpAny_bind (wpAny_mono (Q:=λv s₁=>∃e o vs,v=.ref e/\s₁.heap.get? C=some (excClassObj nm q C N bs bm true sn sub ab col dd k0 k1 k2 k3 k5 "ValueError.__new__")/\Ex.VE C bm /\
     s₁.heap.get? e=some o/\o.cls=.ref C/\o.data=.fields vs/\vs[1]?=some .none/\X.xe (.ref e) s₁) ?_ (λv s3 h3=>wpAny_bind (wpAny_standAt (wpAny_pure h3))) λ_ _ z=>z)
 refine wpAny_Call_Name_kw (zm7 I hg hm ?_ hdb);refine PySem.W.callWith_K0 I.kIn hk ?_;obtain⟨hp,g,dr,tk,os⟩:=s;refine Ex.x_call (fI:=.builtin "ValueError.__init__") (rest:=[]) (I.kIn _ _ hl) VV (by decide) (PySem.W.looks_findIn I.kIn hi) (PySem.W.Looks.of_pure (qb2.init.bind _)) ?_;have hC2:=Ex.heapX_keeps (C:=C) (rest:=[]) _ _ (I.kIn _ _ hl);refine Ex.x_init0 hC2 VV Ex.heapX_at λh' t' hk' he'=>⟨rfl,?_⟩
 have ne:∀b o,hp.get? b=some o->b≠hp.objs.size+1:=λb o z=>qa5 (Nat.lt_succ_of_lt (Heap.lt_size z));have I2:Inv X pins σ (upd H (hp.objs.size+1) (XO (hp.objs.size+1) C none)) ⟨h',g,dr,tk,os⟩ :=
   I.laid (h':=h') (t':=tk) (λb u z=>hk' b u (ne b u z) (Ex.heapX_keeps b u z)) (qcl _) (z6d he')
 have eH:ers (hp.objs.size+1) (upd H (hp.objs.size+1) (XO (hp.objs.size+1) C none))=H:=by
   funext b;unfold L2.ers upd;by_cases z:b=hp.objs.size+1
   . rw[if_pos z,z]; exact(I.hok.fresh (qcl _)).symm
   . rw[if_neg z,if_neg z]
 exact⟨_,_,_,rfl,I2.kIn _ _ hl,VV,he',rfl,rfl,rfl,hx pins σ _ ⟨h',g,dr,tk,os⟩ (hp.objs.size+1) _ (.ref C) none I2 zab (qct (Nat.le_trans I.sz (qcl _))) ⟨_,_,he',rfl,rfl,rfl,rfl⟩ (by rw[eH]; exact h)⟩
end
end L2
namespace Ex
open PySem PySem.W PyProof.Rows PySem.Spec
def veTail:List Value->Bool
 | .ref _ :: r=>veTail r
 | l=>l==[.type "ValueError",.type "Exception",.type "BaseException",.type "object"]
theorem zor {p:List Value->Prop} (h0:p [.type "ValueError",.type "Exception",.type "BaseException",.type "object"]) (h1:∀a r,p r->p (.ref a :: r)):∀{l:List Value},veTail l=true->p l
 | [],e=>by cases e
 | c :: r,e=>by
   cases c with
   | ref a=>exact h1 a r (zor h0 h1 e)
   | _=>rw[show _ :: r=_ from beq_iff_eq.mp e]; exact h0
theorem veTail_has {l:List Value} (h:veTail l=true) {X:String} {b:Bool} (hb:([.type "ValueError",.type "Exception",.type "BaseException",.type "object"]:List Value).contains (.type X)=b):l.contains (.type X)=b :=
 zor (p:=λl=>l.contains (.type X)=b) hb (λa r z=>by rw[List.contains_cons,z]; rfl) h
theorem VE.of {C:Addr} {bm:List Value} (h:veTail bm=true):VE C bm:=by have h':veTail (.ref C :: bm)=true:=h;exact⟨veTail_has h' (by decide +kernel),veTail_has h' (by decide +kernel),veTail_has h' (by decide +kernel),veTail_has h' (by decide +kernel)⟩
end Ex
namespace L2
open PySem PySem.Spec PyProof.Rows
structure XClsOk (K:W.Frag) (mg:Str->Option Value) (name:Str) (C:Addr):Prop where
 g:mg name=some (.ref C)
 obj:∃(nm q:Str) (N:Addr) (bs bm:List Value) (sn:List Str) (sub:List Value) (ab:Bool) (col:Option Bool) (dd:Option Addr) (k0 k1 k2 k3 k5:Option Value),
   K.lookup C=some (excClassObj nm q C N bs bm true sn sub ab col dd k0 k1 k2 k3 k5 "ValueError.__new__")/\Ex.veTail bm=true
 kp:PySem.W.keepIn K (.ref C)=true
 sa:PySem.W.findIn K (.ref C) "__setattr__"=some (some (.builtin "object.__setattr__"))
 ga:PySem.W.findIn K (.ref C) "__getattribute__"=some (some (.builtin "BaseException.__getattribute__"))
 gt:PySem.W.findIn K (.ref C) "__getattr__"=some none
 cl:PySem.W.findIn K (.ref C) "__class__"=some (some (.builtin "object.__class__"))
 sg:PySem.W.specialIn K (.builtin "object.__class__") "__get__"=some (some (.builtin "getset_descriptor.__get__"))
 tk:PySem.W.takesIn K (.builtin "object.__class__")=some true
theorem XClsOk.cls {K:W.Frag} {mg:Str->Option Value} {name:Str} {C:Addr} (c:XClsOk K mg name C):XCls K C:=by obtain⟨nm,q,N,bs,bm,sn,sub,ab,col,dd,k0,k1,k2,k3,k5,l,v⟩:=c.obj;exact⟨nm,q,N,bs,bm,sn,sub,ab,col,dd,k0,k1,k2,k3,k5,l,Ex.VE.of v⟩
theorem XClsOk.cd {K:W.Frag} {mg:Str->Option Value} {name:Str} {C:Addr} (c:XClsOk K mg name C):∃cd,PySem.W.clsIn K C=some cd/\Ex.veTail cd.mro=true/\cd.hasDict=true/\∃bm,cd.mro=.ref C :: bm:=by obtain⟨nm,q,N,bs,bm,sn,sub,ab,col,dd,k0,k1,k2,k3,k5,l,v⟩:=c.obj;refine⟨_,by unfold PySem.W.clsIn; rw[l],v,rfl,_,rfl⟩
theorem XClsOk.mro {K:W.Frag} {mg:Str->Option Value} {name:Str} {C:Addr} (c:XClsOk K mg name C) {X:String} {b:Bool} (hb:([.type "ValueError",.type "Exception",.type "BaseException",.type "object"]:List Value).contains (.type X)=b):PySem.W.mroIn K C (.type X)=some b:=by obtain⟨cd,hcd,hv,_,bm,hm⟩:=c.cd;unfold PySem.W.mroIn;rw[hcd,qcn,if_neg (by rw[hm]; exact qam),Ex.veTail_has hv hb]
end L2
namespace Ex
open PySem PySem.W PyProof.Rows PySem.Spec
section
variable {prog:Program} {w:World} {A:Around} {E:Value->Shared->Prop} {K:Frag} {x C:Addr} {ox:Obj} {od:Option Obj} {h:Heap} {g:Array GenState} {d:Drawn} {t:Nat} {os:OsState}
theorem z2n {tk:Tok} {R:Result->Shared->Prop} (X:K.In h) (I:InstAt h x ox C od) (hb:mroIn K C (.type "BaseException")=some true) (ho:mroIn K C (.type "object")=some true)
   (hf:findObj K C od "__class__"=some (.bind (.builtin "getset_descriptor.__get__") (.builtin "object.__class__"))) (hq:R (.ok (.ret (.ref C))) ⟨h,g,d,t,os⟩) :
   codeAny (model prog w) A (.call (.builtin "BaseException.__getattribute__") ⟨[.ref x,.str "__class__" tk],[]⟩) R ⟨h,g,d,t,os⟩:=by
 have hk:builtinKind "BaseException.__getattribute__"=some .slot:=by decide +kernel
 have hsp:splitId "BaseException.__getattribute__"=some ("BaseException","__getattribute__"):=by decide +kernel
 have sub:Looks (model prog w) h (isInstance (.ref x) (.type "BaseException")) true:=I.type.andThen (looks_mroIn X hb);have L0:=I.type (M:=model prog w);have L1:=looks_find (M:=model prog w) X I hf;refine codeAny_call_builtin qdo.ga.plain PySem.F.entry_bexc_ga (@check_slot (model prog w) _ _ ⟨h,g,d,t,os⟩ "BaseException.__getattribute__" "BaseException" "__getattribute__" (.ref x) [.str "__class__" tk] [] _ hk hsp sub (PySem.F.args_bexc_ga (.ref x) (.str "__class__" tk)) ?_);unfold Builtin.«object.__getattribute__»;refine wpAny_bind (wpAny_pure ?_);refine wpAny_bind (wpAny_pure ?_);refine wpAny_bind (L0.at ?_);refine wpAny_bind (L1.at ?_);show wpAny _ _ (holding [.builtin "object.__class__"] (call (.builtin "getset_descriptor.__get__") [.builtin "object.__class__",.ref x,.ref C]) >>= ret) _ _ _;exact wpAny_bind (wpAny_holding (wpAny_call (class_get (ox:=ox) (od:=od) X I ho (wpAny_pure hq))))
theorem xc_attr {Q:Option Value->Shared->Prop} (X:K.In h) (I:InstAt h x ox C od) (hb:mroIn K C (.type "BaseException")=some true) (ho:mroIn K C (.type "object")=some true)
   (hga:findIn K (.ref C) "__getattribute__"=some (some (.builtin "BaseException.__getattribute__"))) (hgt:findIn K (.ref C) "__getattr__"=some none)
   (hf:findObj K C od "__class__"=some (.bind (.builtin "getset_descriptor.__get__") (.builtin "object.__class__"))) (hq:Q (some (.ref C)) ⟨h,g,d,t+1,os⟩):wpAny (model prog w) A (getAttr? (.ref x) "__class__") Q E ⟨h,g,d,t,os⟩:=by
 have L0:=I.type (M:=model prog w);have L1:=looks_findIn (M:=model prog w) X hga;have L2:=looks_findIn (M:=model prog w) X hgt;have f3:=qdo.ga.bind (.ref x);have hx0:(false&&onTheHeap (Value.builtin "BaseException.__getattribute__"))=false:=rfl;have hx2:(Value.builtin "BaseException.__getattribute__"==Value.builtin "object.__getattribute__")=false:=by decide +kernel
 have hx1:(onTheHeap (Value.ref C)&&Value.builtin "BaseException.__getattribute__"==Value.builtin "object.__getattribute__")=false:=by rw[hx2]; rfl
 unfold getAttr? getAttrBy? getAttrBy;refine wpAny_bind (wpAny_mkText (wpAny_bind (wpAny_attempt (wpAny_holding (wpAny_bind (L0.at (wpAny_bind (L1.at ?_))))))))
 repeat (any_goals (first|assumption|with_reducible refine L0.at ?_|with_reducible refine L1.at ?_|with_reducible refine L2.at ?_|wp_step))
 refine z2n X I hb ho hf ?_;show wpAny _ _ (handedOut (.ref C)) _ _ _;exact wpAny_pure (wpAny_pure hq)
end
end Ex
namespace L2
open PySem PySem.Spec PyProof.Rows
def XAt (x C:Addr) (h:Heap):Prop:=∃o vs,h.get? x=some o/\o.cls=.ref C/\o.data=.fields vs/\(o.dict=none\/∃dx od,o.dict=some dx/\h.get? dx=some od)
theorem XAt.inst {x C:Addr} {h:Heap} (p:XAt x C h):∃ox od,PySem.W.InstAt h x ox C od:=by
 obtain⟨o,vs,ho,hc,hd,z|⟨dx,od,z,q⟩⟩:=p
 . exact⟨o,none,ho,hc,by unfold PySem.W.notCls; rw[hd],by rw[z]; trivial⟩
 . exact⟨o,some od,ho,hc,by unfold PySem.W.notCls; rw[hd],by rw[z]; exact q⟩
theorem zz2 {K:W.Frag} {mg:Str->Option Value} {nm:Str} {x C:Addr} (c:XClsOk K mg nm C):PySem.W.KitX K (.ref x) (.ref C) (XAt x C) where
 ty:=λM h _ p=>by obtain⟨ox,od,I⟩:=p.inst; exact I.type
 it:=λM h X _=>by obtain⟨nm,q,N,bs,bm,sn,sub,ab,col,dd,k0,k1,k2,k3,k5,l,v⟩:=c.obj;intro A' Q' E' s' k q;unfold isType loadHead;exact wpAny_bind (wpAny_loadPart (k _ _ (X _ _ l)) (wpAny_pure q))
 ne:=λh tp dd its n sl X htp=>by obtain⟨nm,q,N,bs,bm,sn,sub,ab,col,dd',k0,k1,k2,k3,k5,l,v⟩:=c.obj;refine Bool.eq_false_iff.mpr λq=>?_;have e:C=tp:=Value.ref.inj (beq_iff_eq.mp q);subst e;have z:=congrArg Obj.cls (Option.some.inj ((X _ _ l).symm.trans htp));exact absurd (Value.type.inj z) (by decide)
 ca:=λ{prog w A E Q s} X p hq=>by
   obtain⟨ox,od,I⟩:=p.inst;obtain⟨cd,hcd,_⟩:=c.cd;have hf:PySem.W.findObj K C od "__class__"=some (.bind (.builtin "getset_descriptor.__get__") (.builtin "object.__class__")):=by unfold PySem.W.findObj;rw[hcd,qcn,c.cl,qcn];simp [c.sg,c.tk]
   obtain⟨hp,g,dr,tk,os⟩:=s;exact Ex.xc_attr X I (c.mro (by decide +kernel)) (c.mro (by decide +kernel)) c.ga c.gt hf hq
def z1m (K:W.Frag) (mg:Str->Option Value):List V->Hp->VK->Prop:=λxs H Q=>∃a C d nm y u b,xs=[.ref a,y]/\H a=some (XC a C d)/\(∀dx,d=some dx->∃o,H dx=some o)/\XClsOk K mg nm C/\zdg y u/\PySem.W.kitOne K (.ref C) u=some b/\Q (.bl b) H
section
variable {X:Cx}
theorem z4h {pins:List (Addr×Obj)} {σ:St} {H:Hp} {s:Shared} {a C:Addr} {d:Option Addr} (I:Inv X pins σ H s) (e:H a=some (XC a C d)) (hd:∀dx,d=some dx->∃o,H dx=some o):XAt a C s.heap:=by
 obtain⟨o,vs,ho,hc,hdd,hf⟩:=(I.hok _ _ e).1;refine⟨o,vs,ho,hc,hf,?_⟩;cases d with
 | none=>exact .inl hdd
 | some dx =>
   obtain⟨z,q⟩:=hd dx rfl;obtain⟨u,r⟩:=(I.hok _ _ q).some_at;exact .inr ⟨dx,u,hdd,r⟩
theorem zji:zha X (.builtin "isinstance") (z1m X.K X.mg):=by
 intro pins s σ H xs us Q I r h;obtain⟨a,C,d,nm,y,u,b,rfl,e,hd,c,ry,hk,q⟩:=h;obtain⟨v,w',rfl,rx,rc⟩:=z1h r;cases (show v=Value.ref a from rx);have hw:PySem.W.kitOne X.K (.ref C) w'=some b:=by
   cases y with
   | ref z=>cases (show w'=Value.ref z from rc); cases (show u=Value.ref z from ry); exact hk
   | ty z=>cases (show w'=Value.type z from rc); cases (show u=Value.type z from ry); exact hk
   | non=>cases (show w'=Value.none from rc); cases (show u=Value.none from ry); exact hk
   | bl z=>cases (show w'=Value.bool z from rc); cases (show u=Value.bool z from ry); exact hk
   | int z=>obtain⟨t,rfl⟩:=ry; cases hk
   | str z=>obtain⟨t,rfl⟩:=ry; cases hk
   | byt z=>obtain⟨t,rfl⟩:=ry; cases hk
   | flt z=>obtain⟨t,rfl⟩:=ry; cases hk
 exact PySem.W.kia_one (zz2 c) I.kIn (z4h I e hd) hw (λz=>nomatch z) λtk=>⟨.bl b,H,I.tok _,rfl,q⟩
end
end L2
namespace Ex
open PySem PySem.W PyProof.Rows PySem.Spec
theorem x_match {M:Model} {A:Around} {E:Value->Shared->Prop} {s:Shared} {K:Frag} {e C G:Addr} {Q:Bool->Shared->Prop} (X:K.In s.heap) (ht:Looks M s.heap (typeOf (.ref e)) (.ref C)) (hG:typeIn K (.ref G)=some (.type "type"))
   (hi:Looks M s.heap (isType (.ref G)) true) (hb:mroIn K G (.type "BaseException")=some true) (hs:mroIn K C (.ref G)=some true) (h:Q true s):wpAny M A (excMatches (.ref e) (.ref G)) Q E s:=by
 obtain⟨hp,g,d,tk,os⟩:=s;have L0:=looks_typeIn (M:=M) X hG;have L1:=looks_mroIn (M:=M) X hb;have L2:=looks_mroIn (M:=M) X hs;have f:=tc_notTuple;unfold excMatches isExcClass isInstance;refine wpAny_bind (wpAny_bind (L0.at ?_));rw[f];refine wpAny_pure ?_;simp only[qce,if_false];refine wpAny_bind (wpAny_pure ?_);simp only[qda,qd4];refine wpAny_bind (wpAny_bind (wpAny_bind (wpAny_bind (hi.at ?_))));simp only[if_true];refine L1.at ?_;simp only[Bool.not_true,qce,if_false];refine wpAny_pure (wpAny_pure (wpAny_bind (ht.at ?_)));refine wpAny_bind (wpAny_bind (wpAny_bind (L2.at ?_)));simp only[if_true];exact wpAny_pure (wpAny_pure (wpAny_pure h))
end Ex
namespace L2
open PySem PySem.Spec PyProof.Rows
abbrev TX:=St->Hp->VK->XK->Prop
def PX (X:Cx) (e:Expr) (t:TX):Prop:=∀(pins:List (Addr×Obj)) (s:Shared) (σ:St) (H:Hp) (Q:VK) (E:XK),Inv X pins σ H s->t σ H Q E ->
 wpAny (model X.prog X.w) X.A (eval e X.env) (EP X pins σ Q) (λev s'=>∃H1 s1,Inv X pins σ H1 s1/\CXe X.prog X.w X.stack H1 s1 E ev s') s
def PSx (X:Cx) (st:Stmt) (t:zkb->XK->St->Hp->Prop):Prop:=∀(pins:List (Addr×Obj)) (s:Shared) (σ:St) (H:Hp) (D:zkb) (E:XK),Inv X pins σ H s->t D E σ H ->
 wpAny (model X.prog X.w) X.A (exec st X.env) (SP X pins D) (λev s'=>∃H1 s1,Inv X pins σ H1 s1/\CXe X.prog X.w X.stack H1 s1 E ev s') s
section
variable {X:Cx} {k:Nat} {f:Addr} {fd:FuncData} {ps:List Str} {sp:Sp} {x:Str} {st:Stmt} {p pos:Pos} {e:Expr} {es:List Expr} {t:TA} {tx:TX}
theorem ztq (he:PX X e tx) (hs:swapsWith e none pos.line X.env=pure false:=by rfl):PSx X (.Expr e pos) (λD E σ H=>tx σ H (λ_ H'=>D.nx σ H') E):=by intro pins s σ H D E I h;exact wpAny_Expr_any (wpAny_mono (he pins s σ H _ E I h) (λv s1 ⟨x,H1,I1,r1,q1⟩=>⟨σ,H1,I1,q1⟩) λ_ _ z=>z) I.quiet hs
end
abbrev Cx.hdl (X:Cx) (ea:Addr):Cx:={ X with A:=X.A.mark (some (.ref ea)),calm:=false }
theorem Inv.hdl {X:Cx} {pins:List (Addr×Obj)} {σ:St} {H:Hp} {s:Shared} (I:Inv X pins σ H s) (ea:Addr):Inv (X.hdl ea) pins σ H s :=
 ⟨⟨I.ok.mod,I.ok.kind,I.ok.glob,I.ok.blt,I.ok.above,I.ok.inj,I.ok.has,I.ok.cab,λz=>Bool.noConfusion z,I.ok.frames,I.ok.stk,I.ok.exf,I.ok.bs,I.ok.bsz,I.ok.noex,I.ok.exfs,I.ok.funs,I.ok.frf⟩,I.os,I.bare,I.base,I.loc,I.cell,I.free,I.freeC,I.pin,I.hok,I.len⟩
theorem Inv.unhdl {X:Cx} {pins:List (Addr×Obj)} {σ:St} {H:Hp} {s:Shared} {ea:Addr} {E:Value->Shared->Prop} (ok:X.Ok) (I:Inv ((X.hdl ea).wish E) pins σ H s):Inv X pins σ H s :=
 ⟨ok,I.os,I.bare,I.base,I.loc,I.cell,I.free,I.freeC,I.pin,I.hok,I.len⟩
theorem Inv.dropped {X:Cx} {pins:List (Addr×Obj)} {σ:St} {H:Hp} {s:Shared} {j:Nat} {n:Str} {m:Str->Option Value} {h':Heap} {v:Option Value} {t':Nat} (I:Inv X pins σ H s) (hN:X.N.Nodup) (hj:X.N[j]?=some n) (hk:X.env.kindOf n=some .local)
   (hm:∀(i:Nat) (x:Str) (v:V),X.N[i]?=some x->σ[i]?=some (some v)->Vis X.env.scope x->∃u,zdg v u/\Look X.env s.heap m x u) (hn0:s.heap.Ns X.env.locals m)
   (hn:h'.Ns X.env.locals (λx=>if x=n then v else m x)) (hs:Heap.SameBut X.env.locals s.heap h'):Inv X pins (σ.set j none) H { s with heap:=h',toks:=t' }:=by
 have cne:=I.cne;have lt:∀b o,X.s₀.heap.get? b=some o->b≠X.env.locals:=λb o e=>qa5 (Nat.lt_of_lt_of_le (Heap.lt_size e) I.ok.above);obtain⟨oL,_,_,hoL,_⟩:=id hn0;refine⟨I.ok,I.os,I.bare,⟨λb o e n hb hx=>(hs.2 b (lt b o e)).trans (I.base.keep b o e n hb hx),λb o e n hb hx=>?_,I.base.free,λb o e hx=>?_,I.base.tups,I.base.frzs,I.base.tbls⟩,
   ⟨_,hn,λi y w e1 e2 e3=>?_⟩,λy c e=>?_,I.free,I.freeC,λp hp=>?_,λb ob e=>?_,by rw[qcw]; exact I.len⟩
 . obtain⟨sl,e1⟩:=I.base.slot b o e n hb hx;exact⟨sl,(hs.2 b (lt b o e)).trans e1⟩
 . obtain⟨o',e1⟩:=I.base.there b o e hx;exact⟨o',(hs.2 b (lt b o e)).trans e1⟩
 . have hij:j≠i:=λz=>by
     subst z;by_cases q:j<σ.length
     . rw[qcq q] at e2; cases e2
     . rw[qbb (by rw[qcw]; omega)] at e2; cases e2
   rw[qck hij] at e2;obtain⟨u,r,q⟩:=hm i y w e1 e2 e3;refine⟨u,r,?_⟩;rcases q with⟨k,e⟩|⟨k,c,e,z⟩
   . have:y≠n:=λz=>hij (zpx hN hj (z ▸ e1));exact .inl ⟨k,by show(if y=n then v else m y)=some u; rw[if_neg this]; exact e⟩
   . exact .inr ⟨k,c,e,z.sameBut hs (cne y c e)⟩
 . obtain⟨w',z⟩:=I.cell y c e;exact⟨w',z.sameBut hs (cne y c e)⟩
 . obtain⟨e,n,ne,nf,d⟩:=I.pin p hp;exact⟨(hs.2 p.1 ne).trans e,n,ne,nf,d⟩
 . refine(I.hok b ob e).stay (λc w' hc q=>(hs.2 c ?_).trans q) (λ_ q=>q) λ_ _ q=>q;rintro rfl;rcases hc with rfl|hc
   . rw[I.free] at e; cases e
   . rw[I.free] at hc; cases hc
theorem Un.track {fs:List Addr} {H0 H:Hp} {h0 h:Heap} {a:Addr} {o:HO} (u:Un fs [] H0 H h0 h) (n:h0.get? a=none) (e:H a=none):Un fs [] H0 (upd H a o) h0 h where
 keep:=u.keep
 slot:=u.slot
 free:=λb ob q z hx=>by rw[zag (λy=>by rw[y,n] at q; cases q)]; exact u.free b ob q z hx
 there:=u.there
 tups:=λb xs q=>by have r:=u.tups b xs q;rw[zag (za3 r e)]; exact r
 frzs:=λb ob xs q=>by have r:=u.frzs b ob xs q;rw[zag (za3 r e)]; exact r
 tbls:=λb ps q=>by obtain⟨m,r⟩:=u.tbls b ps q;exact⟨m,by rw[zag (za3 r e)]; exact r⟩
theorem HOk.track {P:Program} {w:World} {H:Hp} {h:Heap} {a:Addr} {o:HO} (x:HOk P w H h) (e:H a=none) (k:zdu P w (upd H a o) h a o):HOk P w (upd H a o) h:=λb u q=>by
 by_cases hb:b=a
 . subst hb; rw[zab] at q; cases q; exact k
 . rw[zag hb] at q;exact(x b u q).stay (λc v _ r=>r) (λc r=>by rw[zag (za3 r e)]; exact r) λc xs r=>by rw[zag (za3 r e)]; exact r
def tTry (K:W.Frag) (mg:Str->Option Value) (G:Addr) (j:Nat) (tb:zkb->XK->St->Hp->Prop) (th:TS):TS:=λD σ H=>tb D (λcls d H'=>∃C nm,cls=.ref C/\XClsOk K mg nm C/\PySem.W.mroIn K C (.ref G)=some true /\
 ∀ea,H' ea=none->th { nx:=λσ' H2=>D.nx (σ'.set j none) H2,rt:=D.rt,bk:=λσ' H2=>D.bk (σ'.set j none) H2,ct:=λσ' H2=>D.ct (σ'.set j none) H2 } (σ.set j (some (.ref ea))) (upd H' ea (XC ea C d))) σ H
section
variable {X:Cx} {st b0:Stmt} {suite:List Stmt} {tb:zkb->XK->St->Hp->Prop} {th:TS} {G:Addr} {j:Nat} {c n:Str} {cp hp pos:Pos}
theorem z09 (hN:X.N.Nodup) (hj:X.N[j]?=some n) (hk:X.env.scope.names.lookup n=some .local) (hG:XClsOk X.K X.mg c G) (hst:X.stack=X.env :: X.outer) (hfr:X.env.frame=some X.env.locals)
   (hb:PSx X st tb) (hh:∀ea,PSs (X.hdl ea).nox (b0 :: suite) th) (hg:Gl X c:=by rfl) (hdb:(c==("__debug__":Str))=false:=by decide) :
   PS X (.Try [st] [.ExceptHandler (some (.Name c cp)) (some n) (b0 :: suite) hp] [] [] pos) (tTry X.K X.mg G j tb th):=by
 intro pins s σ H D I h;refine wpAny_Try_except (wpAny_execs_cons (wpAny_mono (hb pins s σ H D _ I h) (λf s1 q=>?_) λev s1 q=>?_))
 . cases f with
   | next=>exact wpAny_execs_nil (wpAny_execs_nil q)
   | ret v=>exact q
   | brk=>exact q
   | cont=>exact q
 obtain⟨H1,s2,I1,ea,cls,d,T0,H',rfl,os,bare,un,hok,hn,he1,hT0,hT1,tr,C,nm,rfl,hC,hsub,hth⟩:=q;have I2:Inv X pins σ H' s1:=I1.call' os un hok bare λb z=>nomatch z;have hframes:X.A.frames=some (X.env :: X.outer):=by rw[<- hst]; exact I.ok.frames
 have hfun:s1.heap.FunFrames X.base (X.env :: X.outer):=by rw[<- hst]; exact I2.stack
 have hS1:∀b∈frs (X.env :: X.outer),H' b=none:=by rw[<- hst]; exact I2.stkFree
 -- the state with a heap that moved
 have mv:∀(h':Heap) (D':Addr->Prop) (g:Array GenState) (dr:Drawn) (tk:Nat),Ex.Mvd (frs (X.env :: X.outer)) D' s1.heap h'->(∀b,D' b->s2.heap.get? b=none)->(∀b,D' b->H' b=none)->AllBare g ->
     Inv X pins σ H' ⟨h',g,dr,tk,s1.os⟩:=λh' D' g dr tk m h1 h2 h3=>by
   refine I1.call' (s':=⟨h',g,dr,tk,s1.os⟩) os (Un.moved un m h1 λb hb=>.inl ?_) (HOk.moved hok m h2 hS1) h3 λb z=>nomatch z;rw[hst]; exact hb
 refine Ex.x_noteT hframes hfun hfr tr λh3 T hT m3 t3=>?_;refine Ex.x_mark (fr:=none) t3 λh4 m4 t4=>?_;have fr2:∀b,s1.heap.get? b=none->s2.heap.get? b=none:=λb q=>by
   cases r:s2.heap.get? b with
   | none=>rfl
   | some o=>obtain⟨o',z⟩:=un.there b o r (by simp); rw[q] at z; cases z
 have D1:∀b,((b=ea\/b=T0)\/b=T)->s2.heap.get? b=none:=by
   rintro b ((rfl|rfl)|rfl)
   . exact hn
   . exact hT0
   . exact fr2 _ hT
 have D2:∀b,((b=ea\/b=T0)\/b=T)->H' b=none:=by
   rintro b ((rfl|rfl)|rfl)
   . exact he1
   . exact hT1
   . exact hok.none_of hT
 have M4:Ex.Mvd (frs (X.env :: X.outer)) (λb=>(b=ea\/b=T0)\/b=T) s1.heap h4:=(m3.mono λb z=>.inl z).trans (zy7 (m4.mono λb z=>.inr z) λb z=>nomatch z);have I4:Inv X pins σ H' { s1 with heap:=h4 }:=mv h4 _ s1.gens s1.drawn s1.toks M4 D1 D2 bare;have Ih:=I4.hdl ea;obtain⟨cdG,hcG,hvG,_,bmG,hmG⟩:=hG.cd;obtain⟨nmG,qG,NG,bsG,bm',snG,subG,abG,colG,ddG,k0,k1,k2,k3,k5,lG,vG⟩:=hG.obj;refine wpAny_handleBy_cons (codeAny_handlers_test (A:=X.A.mark (some (.ref ea))) (zm7 Ih hg hG.g ?_ hdb)) (by intro q; cases q);have ty:PySem.W.typeIn X.K (.ref G)=some (.type "type"):=by show(List.lookup G X.K).map (·.cls)=_; rw[lG]; rfl
 obtain⟨oe,vs,oT,ts,q1,q2,q3,q4,q5,q6,q7,q8,q9⟩:=id t4;have Lt:PySem.W.Looks (model X.prog X.w) h4 (typeOf (.ref ea)) (.ref C):=q2 ▸ (PySem.W.Looks.ld q1).andThen .now;have Li:PySem.W.Looks (model X.prog X.w) h4 (isType (.ref G)) true:=by intro A' Q' E' s' k q;unfold isType loadHead;exact wpAny_bind (wpAny_loadPart (k _ _ (I4.kIn _ _ lG)) (wpAny_pure q))
 refine Ex.x_match (s:={ s1 with heap:=h4 }) I4.kIn Lt ty Li (hG.mro (by decide +kernel)) hsub ?_;dsimp only;refine codeAny_handlers_suite_as ?_;refine Ex.x_mark (s:={ s1 with heap:=h4 }) (fr:=none) t4 λh5 m5 t5=>?_;have M5:Ex.Mvd (frs (X.env :: X.outer)) (λb=>(b=ea\/b=T0)\/b=T) s1.heap h5:=M4.trans (zy7 (m5.mono λb z=>.inr z) λb z=>nomatch z);have I5:Inv X pins σ H' { s1 with heap:=h5 }:=mv h5 _ s1.gens s1.drawn s1.toks M5 D1 D2 bare;obtain⟨oe5,vs5,oT5,ts5,p1,p2,p3,p4,_⟩:=id t5;have I6:Inv X pins σ (upd H' ea (XC ea C d)) { s1 with heap:=h5 }:=by refine I1.call' (s':={ s1 with heap:=h5 }) os (Un.track (Un.moved un M5 D1 λb hb=>.inl (by rw[hst]; exact hb)) hn he1) (HOk.track (HOk.moved hok M5 D2 hS1) he1 (z6p p1 p2 p3 p4)) bare λb z=>nomatch z
 refine zpl I6 hN hj (.inl hk) (show zdg (.ref ea) (.ref ea) from rfl) (λs6 I7=>?_) (.inr hk);refine wpAny_mono (hh ea pins s6 _ _ _ ((I7.hdl ea).wish _) (hth ea he1)) (λf s7 q=>?_) λ_ _ z=>z.elim;have go:∀{σ':St} {H2:Hp} {Q:Flow->Shared->Prop},Inv ((X.hdl ea).nox) pins σ' H2 s7->(∀s8,Inv X pins (σ'.set j none) H2 s8->Q f s8)->wpAny (model X.prog X.w) X.A (do bindName X.env n .none; unbindBehindTheSuite X.env n hp) (λ_ s8=>Q f s8) X.xe s7:=λ{σ' H2 Q} J k=>by have J':=J.unhdl I.ok;obtain⟨m,hm,hl⟩:=id J'.loc;exact wpAny_nameGoes_keeps hk hm (by rw[I.ok.kind]; rfl) λh' v hn' hs'=>k _ (J'.dropped hN hj hk hl hm hn' hs')
 cases f with
 | next =>
   obtain⟨σ',H2,J,z⟩:=q;exact go J λs8 K8=>⟨_,H2,K8,z⟩
 | ret u =>
   obtain⟨v,σ',H2,J,rv,z⟩:=q;exact go J λs8 K8=>⟨v,_,H2,K8,rv,z⟩
 | brk =>
   obtain⟨σ',H2,J,z⟩:=q;exact go J λs8 K8=>⟨_,H2,K8,z⟩
 | cont =>
   obtain⟨σ',H2,J,z⟩:=q;exact go J λs8 K8=>⟨_,H2,K8,z⟩
end
section
variable {P:Program} {w:World} {K:W.Frag} {mg:Str->Option Value} {base:Heap}
theorem Fun.okE {x qual:Str} {st:Stmt} {f:Addr} {fd:FuncData} {N ps:List Str} {k:Nat} {sp:Sp} (F:Fun K x qual st f fd) (S:FnScope N ps (zai st)) (len:∀vs H Q E,sp vs H Q E->vs.length=ps.length)
   (hbody:∀(cdv:Value) (A:Around) (outer:List Env) (s:Shared) (H:Hp) (vs:List V) (Q:VK) (E:XK),Room k (A.deeper (envOfC qual (zai st) s.heap.objs.size f cdv))->sp vs H Q E ->
     ∃t,PSs (zkk (CXe P w) P w K mg base N qual (zai st) f cdv A outer s H E) (zaw st) t/\t { nx:=λ_ H'=>Q .non H',rt:=Q } (zp0 N vs) H):FnOk P w K mg base (CXe P w) (k+1) f fd ps sp:=by
 obtain⟨oc,od,kV,doc,pm,an,cdv,ct,osl,rfl,lk,hcd⟩:=F.ex;exact z4r lk hcd S len λA outer s H vs Q E hr hsp=>hbody cdv A outer s H vs Q E hr hsp
end
section
variable {X:Cx} {k:Nat} {f C:Addr} {fd:FuncData} {ps:List Str} {sp:Sp} {x qual:Str} {st:Stmt} {p pos cpos:Pos} {e:Expr} {es:List Expr} {t:TA} {E:XK}
theorem zr8 (c:XClsOk X.K X.mg x C) (hi:PySem.W.findIn X.K (.ref C) "__init__"=some (some (.builtin "ValueError.__init__"))) (hc:X.calm=true) (hx:zxa X E) (hg:Gl X x:=by rfl)
   (hdb:(x==("__debug__":Str))=false:=by decide):PS X (.Raise (some (.Call (.Name x p) [] [] cpos)) none pos) (zx3 C E):=zxy c.cls c.g hi c.kp hc hx hg hdb
end
theorem zng {K:W.Frag} {mg:Str->Option Value} {h:Heap} {name:Str} {C N:Addr} {nm q:Str} {bs bm:List Value} {sn:List Str} {sub:List Value} {ab:Bool} {col:Option Bool} {dd:Option Addr} {k0 k1 k2 k3 k5:Option Value} (X:K.In h) (G:h.Ns mainGlobals mg)
   (a:PySem.W.nsIn K mainGlobals name=some (some (.ref C))) (l:K.lookup C=some (excClassObj nm q C N bs bm true sn sub ab col dd k0 k1 k2 k3 k5 "ValueError.__new__")) (v:Ex.veTail bm=true) (kp:PySem.W.keepIn K (.ref C)=true)
   (sa:PySem.W.findIn K (.ref C) "__setattr__"=some (some (.builtin "object.__setattr__"))) (ga:PySem.W.findIn K (.ref C) "__getattribute__"=some (some (.builtin "BaseException.__getattribute__"))) (gt:PySem.W.findIn K (.ref C) "__getattr__"=some none)
   (cl:PySem.W.findIn K (.ref C) "__class__"=some (some (.builtin "object.__class__"))) (sg:PySem.W.specialIn K (.builtin "object.__class__") "__get__"=some (some (.builtin "getset_descriptor.__get__"))) (tk:PySem.W.takesIn K (.builtin "object.__class__")=some true):XClsOk K mg name C :=
 ⟨PySem.W.mg_of X G a,⟨nm,q,N,bs,bm,sn,sub,ab,col,dd,k0,k1,k2,k3,k5,l,v⟩,kp,sa,ga,gt,cl,sg,tk⟩
def z5y (K:W.Frag):List V->Hp->VK->Prop:=λxs H Q=>∃p ys,xs=[.ref p]/\(SqL K H p ys\/SqT K H p ys)/\Q (.int (ys.length:Nat)) H
theorem zky:bootBuiltins "ValueError"=some (.type "ValueError"):=by decide +kernel
theorem z1n {X:Cx}:OpR X (compareOp .IsNot) (λx y H Q=>∃a b,x=.bl a/\y=.bl b/\Q (.bl (!decide (a=b))) H):=by intro pins s σ H x y v u Q I rx ry h;obtain⟨a,b,rfl,rfl,q⟩:=h;cases rx;cases ry;exact wpAny_isNot_plain rfl (zca I q (by cases a <;> cases b <;> rfl))
def noX:XK:=λ_ _ _=>False
theorem zlq {P:Program} {w:World} {X:Cx}:zjy (CXe P w) X noX:=by rintro pins σ H s e s' I ⟨ea,cls,d,T,H',_,_,_,_,_,_,_,_,_,_,h⟩;exact h.elim
end L2
namespace Sk
open PySem PySem.Spec PyProof.Rows
mutual
def hsh (w:World):PyData->Int
 | .int i=>hashInt i
 | .str x=>hashStr w x
 | .bool b=>hashInt (if b then 1 else 0)
 | .tuple ds=>reduceHash (Builtin.Tuple.tupleHashOf (hshs w ds))
 | _=>0
def hshs (w:World):List PyData->List Int
 | []=>[]
 | d :: ds=>hsh w d :: hshs w ds
end
mutual
def drw:PyData->Nat
 | .tuple ds=>drws ds+1
 | _=>1
def drws:List PyData->Nat
 | []=>0
 | d :: ds=>drw d+drws ds
end
end Sk
namespace L2
open PySem PySem.Spec PyProof.Rows
structure BaseOk (K:W.Frag) (C:Addr) (m:Str) (f:Addr):Prop where
 ga:PySem.W.specialIn K (.ref C) "__getattribute__"=some (some (.builtin "type.__getattribute__"))
 rd:PySem.W.readsIn K C (.type "type")=true
 e:PySem.W.findCls K (.ref C) (.type "type") m=some (.val (.ref f))
 kp:PySem.W.keepIn K (.ref f)=true
section
variable {X:Cx} {CX:CXT} {k:Nat} {f C:Addr} {fd:FuncData} {ps:List Str} {sp:Sp} {dvs:List V} {ds:List Value} {E:XK} {x m:Str} {p pos apos:Pos} {e o:Expr} {es:List Expr} {ta:TE} {t:TA}
theorem z17 {pl:Sem Bool} (he:PE X o (tC (.ref C))) (B:BaseOk X.K C m f) (F:FnOk X.prog X.w X.K X.mg X.base CX k f fd ps sp) (hr:Room k X.A) (hb:zjm X.K fd ps ds) (hd:zcw dvs ds) (hx:zjy CX X E) (ha:PA X (e :: es) t)
   (hst:starEach (e :: es) X.env=(false,eval e X.env) :: starEach es X.env:=by rfl) (hpl:(backTo pos (starEach es X.env)).any (·.1)=false:=by rfl)
   (ht:eval (.Call (.Attribute o m apos) (e :: es) [] pos) X.env=(do
     let ov <- eval o X.env
     standAt apos.atName
     let (f,first) <- holding [ov] (getMethod ov m pl)
     callWith pos f first (backTo pos (starEach (e :: es) X.env)) (backToKw pos (keywordEach [] X.env))):=by rfl) :
   PE X (.Call (.Attribute o m apos) (e :: es) [] pos) (z2d sp dvs E t):=by
 intro pins s σ H Q I h;refine PySem.W.methodCall_KW (pl:=pl) (thn (he pins s σ H (λx H1=>x=.ref C/\t σ H1 λvs H2=>sp (vs++dvs) H2 Q E) I ⟨rfl,h⟩) λu s1 ⟨x,H1,I1,rx,ex,q⟩=>?_) ht;subst ex;obtain rfl:u=Value.ref C:=rx;refine PySem.W.method_cls I1.kIn B.ga (PySem.W.cls_value I1.kIn B.rd B.e rfl ?_);have I2:=I1.tok (s1.toks+1);refine PySem.W.callWith_K (first:=[]) (h₀:=X.base) I.ok.mod.kin B.kp (thn (ha pos pins _ σ H1 _ I2 q) λus s2 ⟨vs,H2,I3,r,q2⟩=>⟨I3.kIn,?_⟩) hst hpl;exact ztj (us:=us) (vs:=vs) F hr hb hd hx I3 r q2
end
structure BasOk (K:W.Frag) (C:Addr) (m qual:Str) (st:Stmt) (ps:List Str) (f:Addr) (fd:FuncData):Prop where
 F:Fun K m qual st f fd
 b:zjm K fd ps []
 B:BaseOk K C m f
theorem zyw {K:W.Frag} {C:Addr} {m qual:Str} {st:Stmt} {ps:List Str} {f:Addr} {oc:Value} {od an:Option Addr} {osl:Array (Option Value)} {kV doc pm cdv ct:Value}
   (ga:PySem.W.specialIn K (.ref C) "__getattribute__"=some (some (.builtin "type.__getattribute__"))) (rd:PySem.W.readsIn K C (.type "type")=true) (e:PySem.W.findCls K (.ref C) (.type "type") m=some (.val (.ref f))) (l:K.lookup f=some ⟨oc,od,.func (PySem.W.fnOf m qual (zdi st) (zaw st) (zai st) .none kV doc pm an cdv ct),osl⟩) (c:PySem.W.codeIn K cdv qual=true) (k:PySem.W.keepIn K (.ref f)=true)
   (b:∀(kV doc pm:Value) (an:Option Addr) (cdv ct:Value) (us:List Value),us.length=ps.length->bindArgs (PySem.W.fnOf m qual (zdi st) (zaw st) (zai st) .none kV doc pm an cdv ct) ⟨us,[]⟩=pure (ps.zip us)) :
   BasOk K C m qual st ps f (PySem.W.fnOf m qual (zdi st) (zaw st) (zai st) .none kV doc pm an cdv ct) :=
 ⟨zlz l c k,(zlz l c k).binds b,⟨ga,rd,e,k⟩⟩
theorem Inv.thaw {X:Cx} {pins:List (Addr×Obj)} {σ:St} {H:Hp} {s:Shared} {d:Addr} {o:Obj} {kvs:List (Key×V)} (I:Inv X pins σ H s) (e:H d=some (.frz o (.dK kvs))) (h0:∀o u,X.H₀ d≠some (.frz o u)):Inv X pins σ (upd H d (.dK kvs)) s:=by
 have nd:∀b u,H b=some u->u≠.frz o (.dK kvs)->b≠d:=λb u q n z=>by subst z;rw[e] at q;cases q;exact n rfl
 have none_of:∀{b:Addr},H b=none->upd H d (.dK kvs) b=none:=λ{b} hb=>by rw[zag (λz=>by subst z; rw[e] at hb; cases hb)];exact hb
 refine⟨I.ok,I.os,I.bare,⟨I.base.keep,I.base.slot,λb q h1 h2 h3=>none_of (I.base.free b q h1 h2 h3),I.base.there,λb xs q=>?_,λb q u h=>?_,λb ps q=>?_⟩,I.loc,I.cell,none_of I.free,λx c h=>none_of (I.freeC x c h),λp hp=>?_,λb u q=>?_,I.len⟩
 . have:=I.base.tups b xs q;rw[zag (nd b _ this (by intro z; cases z))];exact this
 . have:=I.base.frzs b q u h;rw[zag (λz=>by subst z; exact h0 _ _ h)];exact this
 . obtain⟨more,this⟩:=I.base.tbls b ps q;refine⟨more,?_⟩;rw[zag (nd b _ this (by intro z; cases z))];exact this
 . obtain⟨p1,p2,p3⟩:=I.pin p hp;exact⟨p1,none_of p2,p3⟩
 . have own:∀c b,H c=some (.own b)->(upd H d (.dK kvs)) c=some (.own b):=λc b q=>(zag (nd c _ q (by intro z; cases z))).trans q;have tup:∀c xs,H c=some (.tup xs)->(upd H d (.dK kvs)) c=some (.tup xs):=λc xs q=>(zag (nd c _ q (by intro z; cases z))).trans q;by_cases hb:b=d
   . subst hb;rw[zab] at q;cases q;exact(I.hok _ _ e).2.stay (λ_ _ _ q=>q) (λc q=>own c _ q) tup
   . rw[zag hb] at q;exact(I.hok b u q).stay (λ_ _ _ q=>q) (λc q=>own c _ q) tup
theorem z2f {X:Cx} {st:Stmt} {t:TS} (h:PS X st t):PS X st (λD σ H=>∃d kvs,H d=some (.dK kvs)/\t { D with nx:=λσ' H'=>∃o,H' d=some (.frz o (.dK kvs))/\D.nx σ' (upd H' d (.dK kvs)) } σ H):=by
 intro pins s σ H D I hh;obtain⟨d,kvs,hd,hh⟩:=hh;have h0:∀o u,X.H₀ d≠some (.frz o u):=λo u z=>by have:=I.base.frzs d o u z;rw[hd] at this;cases this
 refine thn (h pins s σ H _ I hh) λf s1 q=>?_;cases f with
 | next =>
   obtain⟨σ',H',I',o,e,q⟩:=q;exact⟨σ',_,I'.thaw e h0,q⟩
 | brk=>exact q
 | cont=>exact q
 | ret u=>exact q
def Itq (o:Obj) (d:Addr) (kvs:List (Key×V)):It :=
 ⟨λi H=>H d=some (.frz o (.dK kvs))/\i<kvs.length,λi H y H'=>H'=H/\∀kv,kvs[i]?=some kv->y=kV kv.1,λi H=>H d=some (.frz o (.dK kvs))/\i=kvs.length⟩
theorem z2w {P:Program} {w:World} {K:W.Frag} {tg:Expr} (o:Obj) (d it:Addr) (kvs:List (Key×V)) (es0:Array DictEntry) (ep:Nat) (hep:o.data=.dict es0 ep) :
   Turn P w K tg (Itq o d kvs) [it] it (λi h=>h.IsKeyIter it d i kvs.length ep) where
 mem:=by simp
 obj:=λi h st b hb=>by
   have e:b=it:=by simpa using hb
   subst e;obtain⟨o,e,c,d⟩:=st;exact⟨o,e,λv z=>by rw[d] at z; cases z⟩
 keep:=λi h h' st k=>st.at λo e=>k it (by simp) o e
 item:=by
   intro X hP hw hK hc i pins s σ H E I hf st hg;subst hP hw hK;obtain⟨hfz,hi⟩:=hg;obtain⟨vs,rel,hD⟩:=zot I hfz hep;have hlen:kvs.length=vs.length:=KV.length rel;have hi':i<vs.length:=by omega
   have rk:kvs[i].1=vs[i].1/\zdg kvs[i].2 vs[i].2:=zit rel hi hi';refine wpAny_pyNext_dict_item (knd:=zbo X.prog X.w) (k:=vs[i].1) (v:=vs[i].2) (kvs:=vs) (by rw[<- hlen]; exact st) hD (by simp [hi']) λkey h' hkey st' sb=>?_;have I1:Inv X pins σ H { s with heap:=h' }:=I.turnedL (t':=s.toks) (ch:=[it]) (λb o hb e=>(sb.2 b (λz=>hb (by simp [z]))).trans e) hf;have kk:∀kv,kvs[i]?=some kv->kV kvs[i].1=kV kv.1:=λkv hkv=>by
     have:kvs[i]=kv:=by simpa [hi] using hkv
     rw[this]
   exact⟨_,rfl,letGo_keyiter (s':={ s with heap:=h' }) st' ⟨kV kvs[i].1,H,I1,by rw[rk.1]; exact zxc hkey,⟨rfl,kk⟩,by rw[hlen]; exact st',λb hb=>(hf b hb).1⟩⟩
 done:=by intro X hP hw hK hc i pins s σ H E I hf st hg;subst hP hw hK;obtain⟨hfz,hi⟩:=hg;obtain⟨vs,rel,hD⟩:=zot I hfz hep;have hlen:kvs.length=vs.length:=KV.length rel;exact wpAny_pyNext_dict_end (knd:=zbo X.prog X.w) (kvs:=vs) (I.ok.hd hc) (by rw[<- hlen]; exact st) hD (by simp; omega) λh' eb=>⟨rfl,I.turnedL (t':=s.toks) (ch:=[it]) (λb o hb e=>eb b o (λz=>hb (by simp [z])) e) hf⟩
 self:=λ_ _ _ _ _ st h=>wpAny_pyIter_keyiter st h
section
variable {X:Cx} {tg:Expr}
def iDk (td:TE):TI:=λσ H R=>td σ H λx H1=>∃d kvs,x=.ref d/\H1 d=some (.dK kvs)/\∀o,R (Itq o d kvs) (upd H1 d (.frz o (.dK kvs)))
theorem z6t {l:Expr} {td:TE} (hl:PE X l td):PI X tg l (iDk td):=by
 intro pins s σ H R I h;refine thn (hl pins s σ H _ I h) λv s1 ⟨x,H1,I1,r1,q1⟩=>?_;obtain⟨d,kvs,rfl,e,q⟩:=q1;cases r1;obtain⟨o,ho,I2⟩:=I1.freeze e;obtain⟨ho2,z,hd,vs,rel,dd⟩:=I2.hok d _ zab;obtain⟨o',es,ep,ho',hx,hdat,r⟩:=id dd;rw[ho] at ho';cases ho';obtain⟨vs3,rel3,hD3⟩:=zot I2 zab hdat;have hlen:kvs.length=vs3.length:=KV.length rel3;refine wpAny_pyIter_dict (knd:=zbo X.prog X.w) (kvs:=vs3) (ep:=ep) hd hD3 ?_;rw[<- hlen];refine⟨s1.heap.objs.size,[s1.heap.objs.size],_,_,_,rfl,I2.kept (t':=s1.toks) λb o e=>Heap.get?_push_of_some _ e,z2w o d s1.heap.objs.size kvs es ep hdat,⟨_,qao _ rfl,rfl,rfl⟩,λb hb=>?_,q o⟩;have z:b=s1.heap.objs.size:=by simpa using hb
 subst z;exact I2.fpOk (qae _) (I2.hok.fresh (qae _))
end
def z53:R2:=λx y H Q=>∃(c:Nat) (k:Int),x=.str ⟨#[c]⟩/\y=.int k/\1<=k/\k<=1000/\Q (.str ⟨(List.replicate k.toNat c).toArray⟩) H
theorem zx1 (c:Nat):∀(n:Nat) (a:Array Nat),(List.replicate n #[c]).foldl (·++·) a=a++(List.replicate n c).toArray
 | 0,a=>by simp
 | n+1,a=>by rw[qb0,qa6,zx1 c n,qb0];apply Array.toList_inj.mp;simp
theorem z2k {X:Cx}:OpR X (binaryOp .Mult) z53:=by
 intro pins s σ H x y v u Q I rx ry h;obtain⟨c,k,rfl,rfl,k0,k1,q⟩:=h;obtain⟨t,rfl⟩:=rx;obtain⟨tu,rfl⟩:=ry;have hl:(⟨#[c]⟩:Str).length=1:=rfl;refine PySem.P.mul_str ?_ (λ_ _=>?_) (λ_ _=>?_) ?_
 . rw[decide_eq_false (by omega),decide_eq_false (by omega)]; rfl
 . rw[hl];have:(1:Int)<=(2 ^ 63 - 1) / k:=by rw[Int.le_ediv_iff_mul_le (by omega)];omega
   omega
 . rw[hl];show decide (1 * k.toNat > sizeLine)=false;refine decide_eq_false ?_;have:(1000:Nat)<sizeLine:=by decide
   omega
 . rw[if_neg (by omega)];by_cases e:k=1
   . subst e;rw[if_pos (by simp)];exact⟨.str ⟨#[c]⟩,H,I,⟨_,rfl⟩,q⟩
   . rw[if_neg (by rw[hl]; simp [e]),zx1];refine⟨?_,?_⟩
     . show _<=_;simp [Str.length];have:(1000:Nat)<sizeLine:=by decide
       omega
     . have ee:(#[]:Array Nat)++(List.replicate k.toNat c).toArray=(List.replicate k.toNat c).toArray:=by simp
       rw[ee];exact⟨.str _,H,I.tok _,⟨_,rfl⟩,q⟩
section
variable {g:TG} {tif:TT} {te:TE} {js:List (Option Nat)} {σ:St} {H:Hp} {Q:VK}
def zm0 (H:Hp) (p:Addr) (T:Nat->Hp->V->Prop) (i:Nat) (acc:List V) (H2:Hp):Prop:=zaj H H2/\H2 p=some (.lst acc)/\acc.length=i/\∀(j:Nat) v,acc[j]?=some v->T j (ers p H2) v
theorem ersU {p:Addr} {H:Hp} {o:HO}:ers p (upd H p o)=ers p H:=by
 funext b;unfold ers;by_cases h:b=p
 . rw[if_pos h,if_pos h]
 . rw[if_neg h,if_neg h,zag h]
theorem zmt {p:Addr} {T:Nat->Hp->V->Prop} {i:Nat} {acc:List V} {H2 H3:Hp} {v:V} (tm:∀i v H H',zaj H H'->T i H v->T i H' v) (hp:H p=none) (r:zm0 H p T i acc H2) (s3:zaj H2 H3) (hv:T i (ers p H3) v) :
   H3 p=some (.lst acc)/\zm0 H p T (i+1) (acc++[v]) (upd H3 p (.lst (acc++[v]))):=by
 obtain⟨s2,e2,rfl,ht⟩:=r;refine⟨s3 _ _ e2,(s2.trans s3).upd hp,zab,by simp,λj u hu=>?_⟩;rw[ersU];by_cases hj:j<acc.length
 . rw[qbd hj] at hu;exact tm _ _ _ _ (zaj.ers s3) (ht j u hu)
 . have:j=acc.length:=by have:=(List.getElem?_eq_some_iff.mp hu).1;simp at this;omega
   subst this;rw[qbm (qae _)] at hu;simp at hu;rw[<- hu];exact hv
theorem zkt {K:W.Frag} {a:Addr} {xs:List V} {p:Addr} (T:Nat->Hp->V->Prop) (tm:∀i v H H',zaj H H'->T i H v->T i H' v) (hn:xs.length<=1000000) (hS:SqL K H a xs) (hp:H p=none)
   (hs:∀i x H2 (R:VK),xs[i]?=some x->zaj H H2->(∃acc,H2 p=some (.lst acc))->(∀v H3,zaj H2 H3->T i (ers p H3) v->R v H3)->g x (cap js σ) H2 λσ2 H3=>tif σ2 H3 λc H4=>if c=true then te σ2 H4 R else False)
   (hd:∀H2 vs,zaj H H2->H2 p=some (.lst vs)->vs.length=xs.length->(∀(i:Nat) v,vs[i]?=some v->T i (ers p H2) v)->Q (.ref p) H2) (mono:∀x H2 (M M':St->Hp->Prop),(∀σ' H',M σ' H'->M' σ' H')->g x (cap js σ) H2 M->g x (cap js σ) H2 M':=by intro _ _ _ _ h z; exact h _ _ z) (mon2:∀σ2 H2 (M M':Bool->Hp->Prop),(∀c H',M c H'->M' c H')->tif σ2 H2 M->tif σ2 H2 M':=by intro _ _ _ _ h z; exact h _ _ z) :
   zqk (Itl K a) g tif te js σ Q p H:=by
 refine znf hn (zm0 H p T) ⟨zaj.new hp,zab,rfl,λj v h=>by simp at h⟩ ?_ ?_ ?_
 . rintro i acc H2 hi ⟨s2,e2,l2,_⟩;exact⟨e2,by omega,s2.seq hS⟩
 . rintro i x acc H2 hx r;refine mono _ _ _ _ (λσ' H' z=>?_) (hs i x H2 _ hx r.1 ⟨acc,r.2.1⟩ λv H3 s3 t3=>zmt tm hp r s3 t3);refine mon2 _ _ _ _ (λc H'' zz=>?_) z;cases c with
   | true=>exact zz
   | false=>exact zz.elim
 . rintro acc H2 ⟨s2,e2,l2,t2⟩;exact hd H2 acc s2 e2 l2 t2
theorem zrh {K:W.Frag} {a:Addr} {xs:List V} {p:Addr} (T:Nat->Hp->V->Prop) (tm:∀i v H H',zaj H H'->T i H v->T i H' v) (hn:xs.length<=1000000) (hS:SqT K H a xs) (hp:H p=none)
   (hs:∀i x H2 (R:VK),xs[i]?=some x->zaj H H2->(∃acc,H2 p=some (.lst acc))->(∀v H3,zaj H2 H3->T i (ers p H3) v->R v H3)->g x (cap js σ) H2 λσ2 H3=>tif σ2 H3 λc H4=>if c=true then te σ2 H4 R else False)
   (hd:∀H2 vs,zaj H H2->H2 p=some (.lst vs)->vs.length=xs.length->(∀(i:Nat) v,vs[i]?=some v->T i (ers p H2) v)->Q (.ref p) H2) (mono:∀x H2 (M M':St->Hp->Prop),(∀σ' H',M σ' H'->M' σ' H')->g x (cap js σ) H2 M->g x (cap js σ) H2 M':=by intro _ _ _ _ h z; exact h _ _ z) (mon2:∀σ2 H2 (M M':Bool->Hp->Prop),(∀c H',M c H'->M' c H')->tif σ2 H2 M->tif σ2 H2 M':=by intro _ _ _ _ h z; exact h _ _ z) :
   zqk (Itt K a) g tif te js σ Q p H:=by
 refine ztn hn (zm0 H p T) ⟨zaj.new hp,zab,rfl,λj v h=>by simp at h⟩ ?_ ?_ ?_
 . rintro i acc H2 hi ⟨s2,e2,l2,_⟩;exact⟨e2,by omega,s2.tup hS⟩
 . rintro i x acc H2 hx r;refine mono _ _ _ _ (λσ' H' z=>?_) (hs i x H2 _ hx r.1 ⟨acc,r.2.1⟩ λv H3 s3 t3=>zmt tm hp r s3 t3);refine mon2 _ _ _ _ (λc H'' zz=>?_) z;cases c with
   | true=>exact zz
   | false=>exact zz.elim
 . rintro acc H2 ⟨s2,e2,l2,t2⟩;exact hd H2 acc s2 e2 l2 t2
theorem znr {lo:Int} {n:Nat} {p:Addr} (T:Nat->Hp->V->Prop) (tm:∀i v H H',zaj H H'->T i H v->T i H' v) (hn:n<=1000000) (hp:H p=none)
   (hs:∀i H2 (R:VK),i<n->zaj H H2->(∃acc,H2 p=some (.lst acc))->(∀v H3,zaj H2 H3->T i (ers p H3) v->R v H3)->g (.int (lo+i)) (cap js σ) H2 λσ2 H3=>tif σ2 H3 λc H4=>if c=true then te σ2 H4 R else False)
   (hd:∀H2 vs,zaj H H2->H2 p=some (.lst vs)->vs.length=n->(∀(i:Nat) v,vs[i]?=some v->T i (ers p H2) v)->Q (.ref p) H2) (mono:∀x H2 (M M':St->Hp->Prop),(∀σ' H',M σ' H'->M' σ' H')->g x (cap js σ) H2 M->g x (cap js σ) H2 M':=by intro _ _ _ _ h z; exact h _ _ z) (mon2:∀σ2 H2 (M M':Bool->Hp->Prop),(∀c H',M c H'->M' c H')->tif σ2 H2 M->tif σ2 H2 M':=by intro _ _ _ _ h z; exact h _ _ z) :
   zqk (Itr lo n) g tif te js σ Q p H:=by
 refine zvg hn (zm0 H p T) ⟨zaj.new hp,zab,rfl,λj v h=>by simp at h⟩ ?_ ?_ ?_
 . rintro i acc H2 hi ⟨s2,e2,l2,_⟩;exact⟨e2,by omega⟩
 . rintro i acc H2 hx r;refine mono _ _ _ _ (λσ' H' z=>?_) (hs i H2 _ hx r.1 ⟨acc,r.2.1⟩ λv H3 s3 t3=>zmt tm hp r s3 t3);refine mon2 _ _ _ _ (λc H'' zz=>?_) z;cases c with
   | true=>exact zz
   | false=>exact zz.elim
 . rintro acc H2 ⟨s2,e2,l2,t2⟩;exact hd H2 acc s2 e2 l2 t2
end
end L2
namespace Wk
open PySem L2 Gx Fl
structure Wr where
 (a dx st sd ct fl:Addr)
structure Fm where
 (a dx nd:Addr)
 fn:Str
 row:Nat
 kvs:List (Key×V)
def wF (w:Wr) (oc:V) (rc:Int):List (Str×V):=[("flows",.ref w.fl),("stack",.ref w.st),("outcome",oc),("sendings",.ref w.sd),("contents",.ref w.ct),("records",.int rc)]
def fF (f:Fm):List (Str×V):=[("function",.str f.fn),("row",.int f.row),("named",.ref f.nd)]
structure FrAt (cF:Addr) (H:Hp) (f:Fm):Prop where
 o:H f.a=some (.ins cF f.dx (fF f))
 n:H f.nd=some (.dK f.kvs)
structure WAt (cW cF:Addr) (Hb H:Hp) (w:Wr) (fs:List Fm) (oc:V) (sent:List V) (co:HO) (rc:Int):Prop where
 b:zaj Hb H
 o:H w.a=some (.ins cW w.dx (wF w oc rc))
 st:H w.st=some (.lst (fs.map λf=>V.ref f.a))
 sd:H w.sd=some (.lst sent)
 ct:H w.ct=some co
 fr:∀f∈fs,FrAt cF H f
 na:(fs.map (·.a)).Nodup
 nn:(fs.map (·.nd)).Nodup
 ne:w.st≠w.sd
 nc:∀f∈fs,f.nd≠w.ct
 cs:w.ct≠w.st/\w.ct≠w.sd/\w.ct≠w.a
 nf:∀f∈fs,f.a≠w.a/\f.a≠w.ct
 fa:Hb w.a=none
 fst:Hb w.st=none
 fsd:Hb w.sd=none
 fct:Hb w.ct=none
 ff:∀f∈fs,Hb f.a=none/\Hb f.nd=none
section
variable {cW cF:Addr} {Hb H H2:Hp} {w:Wr} {fs:List Fm} {oc:V} {sent:List V} {co:HO} {rc:Int}
def gr (Hb H H2:Hp):Hp:=λb=>match H b with
 | some _=>Hb b
 | none=>H2 b
theorem zbj (hb:zaj Hb H):zaj Hb (gr Hb H H2):=λb o h=>by unfold gr;rw[hb _ _ h];exact h
theorem z5x (hb:zaj Hb H) (s:zaj H H2):zaj (gr Hb H H2) H2:=λb o h=>by
 unfold gr at h;cases e:H b with
 | none=>rw[e] at h; exact h
 | some v=>rw[e] at h; exact s _ _ (hb _ _ h)
theorem znn {b:Addr} {o:HO} (h:H b=none) (h2:H2 b=some o):gr Hb H H2 b=some o:=by unfold gr;rw[h];exact h2
theorem zm6 {b:Addr} {o:HO} (h:H b=some o) (hb:Hb b=none):gr Hb H H2 b=none:=by unfold gr;rw[h];exact hb
theorem WAt.grow (h:WAt cW cF Hb H w fs oc sent co rc) (s:zaj H H2):WAt cW cF (gr Hb H H2) H2 w fs oc sent co rc :=
 ⟨z5x h.b s,s _ _ h.o,s _ _ h.st,s _ _ h.sd,s _ _ h.ct,λf hf=>⟨s _ _ (h.fr f hf).o,s _ _ (h.fr f hf).n⟩,h.na,h.nn,h.ne,h.nc,h.cs,h.nf,zm6 h.o h.fa,zm6 h.st h.fst,zm6 h.sd h.fsd,zm6 h.ct h.fct,λf hf=>⟨zm6 (h.fr f hf).o (h.ff f hf).1,zm6 (h.fr f hf).n (h.ff f hf).2⟩⟩
theorem WAt.put {x:Addr} {o o':HO} (h:WAt cW cF Hb H w fs oc sent co rc) (hx:Hb x=some o):WAt cW cF (upd Hb x o') (upd H x o') w fs oc sent co rc:=by
 have k:∀{b:Addr},Hb b=none->b≠x:=λhb z=>by rw[z,hx] at hb; cases hb
 refine⟨λb u q=>?_,by rw[zag (k h.fa)]; exact h.o,by rw[zag (k h.fst)]; exact h.st,by rw[zag (k h.fsd)]; exact h.sd,by rw[zag (k h.fct)]; exact h.ct,λf hf=>⟨by rw[zag (k (h.ff f hf).1)]; exact(h.fr f hf).o,by rw[zag (k (h.ff f hf).2)]; exact(h.fr f hf).n⟩,
   h.na,h.nn,h.ne,h.nc,h.cs,h.nf,by rw[zag (k h.fa)]; exact h.fa,by rw[zag (k h.fst)]; exact h.fst,by rw[zag (k h.fsd)]; exact h.fsd,by rw[zag (k h.fct)]; exact h.fct,λf hf=>⟨by rw[zag (k (h.ff f hf).1)]; exact(h.ff f hf).1,by rw[zag (k (h.ff f hf).2)]; exact(h.ff f hf).2⟩⟩
 by_cases z:b=x
 . subst z; rw[zab] at q ⊢; exact q
 . rw[zag z] at q ⊢; exact h.b _ _ q
theorem zba {a b:Addr} {x y:HO} (h1:H a=some x) (h2:H b=some y) (h:x≠y):a≠b:=λz=>by rw[z,h2] at h1;exact h (Option.some.inj h1).symm
theorem WAt.send {v:V} (h:WAt cW cF Hb H w fs oc sent co rc):WAt cW cF Hb (upd H w.sd (.lst (sent++[v]))) w fs oc (sent++[v]) co rc :=
 ⟨h.b.upd h.fsd,by rw[zag (zba h.o h.sd (by intro z; cases z))]; exact h.o,by rw[zag h.ne]; exact h.st,zab,by rw[zag h.cs.2.1]; exact h.ct,λf hf=>⟨by rw[zag (zba (h.fr f hf).o h.sd (by intro z; cases z))]; exact(h.fr f hf).o,by rw[zag (zba (h.fr f hf).n h.sd (by intro z; cases z))]; exact(h.fr f hf).n⟩,h.na,h.nn,h.ne,h.nc,h.cs,h.nf,h.fa,h.fst,h.fsd,h.fct,h.ff⟩
theorem WAt.out {v:V} (h:WAt cW cF Hb H w fs oc sent co rc):WAt cW cF Hb (upd H w.a (.ins cW w.dx (wF w v rc))) w fs v sent co rc :=
 ⟨h.b.upd h.fa,zab,by rw[zag (zba h.st h.o (by intro z; cases z))]; exact h.st,by rw[zag (zba h.sd h.o (by intro z; cases z))]; exact h.sd,by rw[zag h.cs.2.2]; exact h.ct,λf hf=>⟨by rw[zag (h.nf f hf).1]; exact(h.fr f hf).o,by rw[zag (zba (h.fr f hf).n h.o (by intro z; cases z))]; exact(h.fr f hf).n⟩,h.na,h.nn,h.ne,h.nc,h.cs,h.nf,h.fa,h.fst,h.fsd,h.fct,h.ff⟩
theorem WAt.pop {f:Fm} (h:WAt cW cF Hb H w (fs++[f]) oc sent co rc):WAt cW cF Hb (upd H w.st (.lst (fs.map λf=>V.ref f.a))) w fs oc sent co rc:=by
 have sub:∀g∈fs,g∈fs++[f]:=λg hg=>qbe _ hg;refine⟨h.b.upd h.fst,by rw[zag (zba h.o h.st (by intro z; cases z))]; exact h.o,zab,by rw[zag h.ne.symm]; exact h.sd,by rw[zag h.cs.1]; exact h.ct,λg hg=>⟨by rw[zag (zba (h.fr g (sub g hg)).o h.st (by intro z; cases z))]; exact(h.fr g (sub g hg)).o,by rw[zag (zba (h.fr g (sub g hg)).n h.st (by intro z; cases z))]; exact(h.fr g (sub g hg)).n⟩,
   ?_,?_,h.ne,λg hg=>h.nc g (sub g hg),h.cs,λg hg=>h.nf g (sub g hg),h.fa,h.fst,h.fsd,h.fct,λg hg=>h.ff g (sub g hg)⟩
 . have:=h.na; rw[List.map_append] at this; exact(qbo.mp this).1
 . have:=h.nn; rw[List.map_append] at this; exact(qbo.mp this).1
theorem WAt.goto {f:Fm} {r:Nat} (h:WAt cW cF Hb H w (fs++[f]) oc sent co rc):WAt cW cF Hb (upd H f.a (.ins cF f.dx (fF { f with row:=r }))) w (fs++[{ f with row:=r }]) oc sent co rc:=by
 have hf:f∈fs++[f]:=List.mem_append_right _ (List.mem_singleton.mpr rfl);have sub:∀g∈fs,g∈fs++[f]:=λg hg=>qbe _ hg;have of:=(h.fr f hf).o;have na:=h.na;rw[List.map_append] at na;have apart:∀g∈fs,g.a≠f.a:=λg hg z=>(qbo.mp na).2.2 _ (List.mem_map.mpr ⟨g,hg,rfl⟩) _ (List.mem_singleton.mpr rfl) z;have fall:∀{P:Fm->Prop},(∀g∈fs,P g)->P { f with row:=r }->∀g∈fs++[{ f with row:=r }],P g:=λh1 h2 g hg=>by
   rcases List.mem_append.mp hg with hg|hg
   . exact h1 g hg
   . rw[List.mem_singleton.mp hg]; exact h2
 refine⟨h.b.upd (h.ff f hf).1,by rw[zag (h.nf f hf).1.symm]; exact h.o,?_,by rw[zag (zba h.sd of (by intro z; cases z))]; exact h.sd,by rw[zag (h.nf f hf).2.symm]; exact h.ct,
   fall (λg hg=>⟨by rw[zag (apart g hg)]; exact(h.fr g (sub g hg)).o,by rw[zag (zba (h.fr g (sub g hg)).n of (by intro z; cases z))]; exact(h.fr g (sub g hg)).n⟩) ⟨zab,?_⟩,?_,?_,h.ne,fall (λg hg=>h.nc g (sub g hg)) (h.nc f hf),h.cs,fall (λg hg=>h.nf g (sub g hg)) (h.nf f hf),h.fa,h.fst,h.fsd,h.fct,fall (λg hg=>h.ff g (sub g hg)) (h.ff f hf)⟩
 . rw[zag (zba h.st of (by intro z; cases z)),h.st,List.map_append,List.map_append]; rfl
 . show upd H f.a _ f.nd=some (.dK f.kvs);rw[zag (zba (h.fr f hf).n of (by intro z; cases z))]; exact(h.fr f hf).n
 . have:=h.na; rw[List.map_append] at this ⊢; exact this
 . have:=h.nn; rw[List.map_append] at this ⊢; exact this
theorem WAt.name {f:Fm} {ks:List (Key×V)} (h:WAt cW cF Hb H w (fs++[f]) oc sent co rc):WAt cW cF Hb (upd H f.nd (.dK ks)) w (fs++[{ f with kvs:=ks }]) oc sent co rc:=by
 have hf:f∈fs++[f]:=List.mem_append_right _ (List.mem_singleton.mpr rfl);have sub:∀g∈fs,g∈fs++[f]:=λg hg=>qbe _ hg;have nf:=(h.fr f hf).n;have nn:=h.nn;rw[List.map_append] at nn;have apart:∀g∈fs,g.nd≠f.nd:=λg hg z=>(qbo.mp nn).2.2 _ (List.mem_map.mpr ⟨g,hg,rfl⟩) _ (List.mem_singleton.mpr rfl) z;have fall:∀{P:Fm->Prop},(∀g∈fs,P g)->P { f with kvs:=ks }->∀g∈fs++[{ f with kvs:=ks }],P g:=λh1 h2 g hg=>by
   rcases List.mem_append.mp hg with hg|hg
   . exact h1 g hg
   . rw[List.mem_singleton.mp hg]; exact h2
 refine⟨h.b.upd (h.ff f hf).2,by rw[zag (zba h.o nf (by intro z; cases z))]; exact h.o,?_,by rw[zag (zba h.sd nf (by intro z; cases z))]; exact h.sd,by rw[zag (h.nc f hf).symm]; exact h.ct,
   fall (λg hg=>⟨by rw[zag (zba (h.fr g (sub g hg)).o nf (by intro z; cases z))]; exact(h.fr g (sub g hg)).o,by rw[zag (apart g hg)]; exact(h.fr g (sub g hg)).n⟩) ⟨?_,zab⟩,?_,?_,h.ne,fall (λg hg=>h.nc g (sub g hg)) (h.nc f hf),h.cs,fall (λg hg=>h.nf g (sub g hg)) (h.nf f hf),h.fa,h.fst,h.fsd,h.fct,fall (λg hg=>h.ff g (sub g hg)) (h.ff f hf)⟩
 . rw[zag (zba h.st nf (by intro z; cases z)),h.st,List.map_append,List.map_append]; rfl
 . show upd H f.nd _ f.a=some (.ins cF f.dx (fF f));rw[zag (zba (h.fr f hf).o nf (by intro z; cases z))]; exact(h.fr f hf).o
 . have:=h.na; rw[List.map_append] at this ⊢; exact this
 . have:=h.nn; rw[List.map_append] at this ⊢; exact this
theorem WAt.push {f:Fm} (h:WAt cW cF Hb H w fs oc sent co rc) (s:zaj H H2) (ha:H f.a=none) (hn:H f.nd=none) (hF:FrAt cF H2 f) :
   WAt cW cF (ers f.a (ers f.nd (gr Hb H H2))) (upd H2 w.st (.lst ((fs++[f]).map λf=>V.ref f.a))) w (fs++[f]) oc sent co rc/\zaj Hb (ers f.a (ers f.nd (gr Hb H H2))):=by
 have h2:=h.grow s;have old:∀{b:Addr} {o:HO},H b=some o->b≠f.a/\b≠f.nd:=λhb=>⟨(λz=>by rw[z,ha] at hb; cases hb),(λz=>by rw[z,hn] at hb; cases hb)⟩
 have er:∀{b:Addr},gr Hb H H2 b=none->ers f.a (ers f.nd (gr Hb H H2)) b=none:=λ{b} hb=>by
   unfold L2.ers;split
   . rfl
   . split
     . rfl
     . exact hb
 have fall:∀{P:Fm->Prop},(∀g∈fs,P g)->P f->∀g∈fs++[f],P g:=λh1 h2 g hg=>by
   rcases List.mem_append.mp hg with hg|hg
   . exact h1 g hg
   . rw[List.mem_singleton.mp hg]; exact h2
 have hb2:zaj (ers f.a (ers f.nd (gr Hb H H2))) H2:=λb o hb=>by
   unfold L2.ers at hb;split at hb
   . cases hb
   . split at hb
     . cases hb
     . exact h2.b _ _ hb
 refine⟨⟨hb2.upd (er h2.fst),by rw[zag (zba h2.o h2.st (by intro z; cases z))]; exact h2.o,zab,by rw[zag h.ne.symm]; exact h2.sd,by rw[zag h.cs.1]; exact h2.ct,?_,?_,?_,h.ne,fall h.nc (old h.ct).2.symm,h.cs,fall h.nf ⟨(old h.o).1.symm,(old h.ct).1.symm⟩,er h2.fa,er h2.fst,er h2.fsd,er h2.fct,?_⟩,λb o hb=>?_⟩
 . refine fall (λg hg=>⟨by rw[zag (zba (h2.fr g hg).o h2.st (by intro z; cases z))]; exact(h2.fr g hg).o,by rw[zag (zba (h2.fr g hg).n h2.st (by intro z; cases z))]; exact(h2.fr g hg).n⟩) ⟨by rw[zag (zba hF.o h2.st (by intro z; cases z))]; exact hF.o,by rw[zag (zba hF.n h2.st (by intro z; cases z))]; exact hF.n⟩
 . rw[List.map_append,qbo];refine⟨h.na,(by simp),λa ha' b hb z=>?_⟩;obtain⟨g,hg,rfl⟩:=List.mem_map.mp ha';rw[List.mem_singleton.mp hb] at z;exact(old (h.fr g hg).o).1 z
 . rw[List.map_append,qbo];refine⟨h.nn,(by simp),λa ha' b hb z=>?_⟩;obtain⟨g,hg,rfl⟩:=List.mem_map.mp ha';rw[List.mem_singleton.mp hb] at z;exact(old (h.fr g hg).n).2 z
 . refine fall (λg hg=>⟨er (h2.ff g hg).1,er (h2.ff g hg).2⟩) ⟨?_,?_⟩
   . unfold L2.ers; rw[if_pos rfl]
   . unfold L2.ers;split
     . rfl
     . rw[if_pos rfl]
 . have o':=h.b _ _ hb;have n1:=old o';rw[zcu n1.1,zcu n1.2];exact zbj h.b _ _ hb
def NI (H H':Hp):Prop:=∀b o,H b=some o->(∀C dx fs,o≠.ins C dx fs)->H' b=some o
theorem NI.tup {K:W.Frag} {a:Addr} {xs:List V} {H':Hp} (e:NI H H') (h:SqT K H a xs):SqT K H' a xs:=by
 rcases h with h|h
 . refine .inl ?_;rcases h with h|h
   . exact .inl (e _ _ h (λ_ _ _ z=>by cases z))
   . exact .inr (by
       obtain h:=h
       first
         | exact e _ _ h (λ_ _ _ z=>by cases z)
         | (obtain⟨n,h⟩:=h; exact⟨n,e _ _ h (λ_ _ _ z=>by cases z)⟩))
 . exact .inr h
theorem z1e {K:W.Frag} {H':Hp} {xs as:List V} {g:Option Str} (e:NI H H') (h:K12.RowS K H xs g as):K12.RowS K H' xs g as:=by cases h <;> first|(constructor; done)|(constructor; exact e.tup (by assumption))
theorem z2a {K:W.Frag} {H':Hp} {f:F2.Fd} (h:F2.FnAt K H f) (e:NI H H'):F2.FnAt K H' f :=
 ⟨e.tup h.fn,e.tup h.pr,e.tup h.rw_,λw hw=>let ⟨rest,h1,h2⟩:=h.rk w hw; ⟨rest,e.tup h1,h2⟩,
   ⟨let ⟨n,b,p,r,h1,h2,h3⟩:=h.fu.fn; ⟨n,b,p,r,e.tup h1,e.tup h2,e.tup h3⟩,λd hd=>let z:=h.fu.rows d hd; ⟨let ⟨xs,h1,h2⟩:=z.row; ⟨xs,e.tup h1,z1e e h2⟩,z.ats,z.len,z.nm⟩,h.fu.pn,h.fu.pl,h.fu.dl⟩,h.wf,h.len⟩
theorem zzy {K:W.Frag} {C x:Addr} {H':Hp} {fns:List F2.Fd} (h:F2.FlowsAt K C H x fns) (e:NI H H') (ex:∀o,H x=some o->H' x=some o):F2.FlowsAt K C H' x fns:=by
 obtain⟨dx,fz,d,kv,nl,wl,h0,h1,h2,h3,h4,h5,h6,h7,h8⟩:=h.ob;refine⟨λf hf=>z2a (h.all f hf) e,h.nd,⟨dx,fz,d,kv,nl,wl,h0,⟨ex _ h1.ob,λj hj=>e _ _ (h1.dc j hj) (λ_ _ _ z=>by cases z)⟩,h2,h3,h4,h5,h6,h7,λi f hi=>⟨e _ _ (h8 i f hi).1 (λ_ _ _ z=>by cases z),?_⟩⟩⟩;obtain⟨vs,e1,e2,e3⟩:=(h8 i f hi).2;refine⟨vs,e _ _ e1 (λ_ _ _ z=>by cases z),e2,λk v q=>?_⟩;obtain⟨o,due,vo⟩:=e3 k v q;refine⟨o,due,?_⟩;cases o with
 | none=>exact vo
 | some l=>obtain⟨p,z1,z2⟩:=vo; exact⟨p,z1,e _ _ z2 (λ_ _ _ z=>by cases z)⟩
end
def av (kvs:List (Key×V)):V->Option V
 | .str s=>zc9 kvs (Sum.inr s)
 | .int i=>some (.int i)
 | _=>none
def Way (F:F2.Fd) (k j r:Nat):Prop:=∃l,K13.Due (F2.kds F) k (some l)/\l[j]?=some r
section
variable {K:W.Frag} {C x:Addr} {H:Hp} {fns:List F2.Fd} {F:F2.Fd}
def zzs (C:Addr) (H:Hp) (x:Addr) (fld:Str) (n:Str) (v:V):Prop:=∃dx fs d kvs,H x=some (.ins C dx fs)/\fs.lookup fld=some (.ref d)/\H d=some (.dK kvs)/\zc9 kvs (Sum.inr n:Key)=some v
theorem zlk {H:Hp} {d:Addr} {kvs:List (Key×V)} {n:Str} {v:V} (h:H d=some (.dK kvs)) (hv:zc9 kvs (Sum.inr n:Key)=some v):zok H d (.str n) (some v):=by have:=zok.k (k:=(Sum.inr n:Key)) h;rw[hv] at this;exact this
theorem z29 (h:F2.FlowsAt K C H x fns) (hF:F∈fns):zzs C H x "rows_of" F.name (.ref F.ra):=by obtain⟨i,hi⟩:=qax hF;obtain⟨dx,fz,d,kv,nl,wl,h0,hO,h2,h3,h4,h5,h6,h7,h8⟩:=h.ob;have hd:=hO.dc 3 (by decide);rw[h5] at hd;exact⟨dx,_,_,_,hO.ob,zxp _ _,hd,F2.kD_at _ h.nd hi⟩
theorem zxe (h:F2.FlowsAt K C H x fns) (hF:F∈fns):zzs C H x "params_of" F.name (.ref F.pa):=by obtain⟨i,hi⟩:=qax hF;obtain⟨dx,fz,d,kv,nl,wl,h0,hO,h2,h3,h4,h5,h6,h7,h8⟩:=h.ob;have hd:=hO.dc 2 (by decide);rw[h4] at hd;exact⟨dx,_,_,_,hO.ob,zqn _ _,hd,F2.kD_at _ h.nd hi⟩
theorem zub (h:F2.FlowsAt K C H x fns) (hF:F∈fns):∃nl,zzs C H x "names_in" F.name (.ref nl)/\H nl=some (.lst ((F2.nms F).map V.str)):=by obtain⟨i,hi⟩:=qax hF;obtain⟨dx,fz,d,kv,nl,wl,h0,hO,h2,h3,h4,h5,h6,h7,h8⟩:=h.ob;have hd:=hO.dc 4 (by decide);rw[h6] at hd;exact⟨nl i,⟨dx,_,_,_,hO.ob,zt1 _ _,hd,F2.kD_at _ h.nd hi⟩,(h8 i F hi).1⟩
theorem z2c (h:F2.FlowsAt K C H x fns) (hF:F∈fns) {k j r:Nat} (hk:k<F.rs.length) (hw:Way F k j r):∃wl tp vs l,zzs C H x "ways_in" F.name (.ref wl)/\H wl=some (.lst vs)/\vs[k]?=some (.ref tp)/\H tp=some (.tup (K13.natsV l))/\l[j]?=some r:=by
 obtain⟨i,hi⟩:=qax hF;obtain⟨dx,fz,d,kv,nl,wl,h0,hO,h2,h3,h4,h5,h6,h7,h8⟩:=h.ob;have hd:=hO.dc 5 (by decide);rw[h7] at hd;obtain⟨vs,e1,e2,e3⟩:=(h8 i F hi).2;have hl:(F2.kds F).length=F.rs.length:=by unfold F2.kds; rw[List.length_map]
 have ev:vs[k]?=some vs[k]:=List.getElem?_eq_getElem (by omega);obtain⟨o,due,vo⟩:=e3 k _ ev;obtain⟨l,dl,hl'⟩:=hw;rw[K13.Due.uniq due dl] at vo;obtain⟨p,ep,hp⟩:=vo;exact⟨wl i,p,vs,l,⟨dx,_,_,_,hO.ob,zwa _ _,hd,F2.kD_at _ h.nd hi⟩,e1,by rw[ev,ep],hp,hl'⟩
theorem z1o (h:F2.FlowsAt K C H x fns):∃dx fs fz,H x=some (.ins C dx fs)/\fns[fns.length - 1]?=some fz/\fs.lookup ("last":Str)=some (.str fz.name):=by obtain⟨dx,fz,d,kv,nl,wl,h0,hO,_⟩:=h.ob;exact⟨dx,_,fz,hO.ob,h0,z1g _ _⟩
end
theorem zuc {K:W.Frag} {H:Hp}:∀{vs:List V} {ns:List Str},vs.length=ns.length->(∀(i:Nat) v,vs[i]?=some v->∃y tp,ns[i]?=some y/\v=.ref tp/\H tp=some (.tup [.str y,.int 0]))->∃ps:List Addr,vs=ps.map V.ref/\Paired (λa (kv:Key×V)=>SqT K H a [kV kv.1,kv.2]) ps (ns.map λn=>((Sum.inr n:Key),V.int 0))
 | [],[],_,_=>⟨[],rfl,.nil⟩
 | v :: vs,n :: ns,hl,h=>by
   obtain⟨y,tp,h1,h2,h3⟩:=h 0 v rfl;obtain⟨ps,e,p⟩:=zuc (vs:=vs) (ns:=ns) (by simpa using hl) (λi u hu=>by obtain⟨y,tp,q⟩:=h (i+1) u (by simpa using hu);exact⟨y,tp,by simpa using q⟩)
   have:n=y:=by simpa using h1
   subst this;exact⟨tp :: ps,by rw[h2,e]; rfl,.cons (SqT.of h3) p⟩
 | [],_ :: _,hl,_=>by simp at hl
 | _ :: _,[],hl,_=>by simp at hl
theorem z2p (kvs:List (Key×V)) (k:Key) (v:V):(zbx kvs k v).length<=kvs.length+1:=by
 induction kvs with
 | nil=>simp [zbx]
 | cons p r ih =>
   unfold zbx;split <;> simp <;> omega
theorem zgf {α:Type} (g:α->Key×V):∀(l:List α) (d:List (Key×V)),(l.foldl (λd p=>zbx d (g p).1 (g p).2) d).length<=d.length+l.length
 | [],d=>by simp
 | p :: l,d=>by rw[qa6,qa8];have h1:=zgf g l (zbx d (g p).1 (g p).2);have h2:=z2p d (g p).1 (g p).2;omega
end Wk
namespace K41
open PySem L2 Gx Fl
structure RR where
 w:Rw
 d:K12.RowD
def RRok (K:W.Frag) (H:Hp) (x:RR):Prop:=x.w.r=x.d.r/\z3e K H x.w/\K12.RowAt K H x.d
end K41
namespace Bg
open PySem L2 Gx K41
def zvs (K:W.Frag) (H:Hp) (n:Nat) (v:V):Prop:=∃d,Lay n d/\zho K H d v
def HasA (K:W.Frag) (H:Hp) (n:Nat) (xs:List V):Prop:=∃ds,(∀d∈ds,Lay n d)/\zdp K H ds xs
theorem zvs.mono {K:W.Frag} {H H':Hp} {n:Nat} {v:V} (h:zvs K H n v) (e:zaj H H'):zvs K H' n v:=let ⟨d,l,z⟩:=h; ⟨d,l,zho.mono e d v z⟩
theorem zvs.str {K:W.Frag} {H:Hp} {n:Nat} {s:Str} (h:PyData.strOk s=true):zvs K H n (.str s):=⟨.str s,Lay.str h,by unfold zho; rfl⟩
theorem zvs.int {K:W.Frag} {H:Hp} {n:Nat} {i:Int}:zvs K H n (.int i):=⟨.int i,Lay.int i,by unfold zho; rfl⟩
theorem zvs.non {K:W.Frag} {H:Hp} {n:Nat}:zvs K H n .non:=⟨.none,Lay.none,by unfold zho; rfl⟩
theorem HasA.nil {K:W.Frag} {H:Hp} {n:Nat}:HasA K H n []:=⟨[],λd h=>(by cases h),by unfold zdp; rfl⟩
theorem HasA.cons {K:W.Frag} {H:Hp} {n:Nat} {x:V} {xs:List V} (h:zvs K H n x) (t:HasA K H n xs):HasA K H n (x :: xs):=by obtain⟨d,l,z⟩:=h;obtain⟨ds,ls,zs⟩:=t;refine⟨d :: ds,λe he=>(List.mem_cons.mp he).elim (λz=>z ▸ l) (ls e),?_⟩;unfold zdp;exact⟨_,_,rfl,z,zs⟩
theorem HasA.of {K:W.Frag} {H:Hp} {n:Nat}:∀{xs:List V},(∀x∈xs,zvs K H n x)->HasA K H n xs
 | [],_=>.nil
 | x :: xs,h=>.cons (h x List.mem_cons_self) (HasA.of λy hy=>h y (List.mem_cons_of_mem _ hy))
def Twin (K:W.Frag) (H:Hp) (n:Nat) (x y:V):Prop:=∃d,Lay n d/\zho K H d x/\zho K H d y
def TwinA (K:W.Frag) (H:Hp) (n:Nat) (xs ys:List V):Prop:=∃ds,(∀d∈ds,Lay n d)/\zdp K H ds xs/\zdp K H ds ys
theorem Twin.of {K:W.Frag} {H:Hp} {n:Nat} {x:V} (h:zvs K H n x):Twin K H n x x:=let ⟨d,l,z⟩:=h; ⟨d,l,z,z⟩
theorem TwinA.nil {K:W.Frag} {H:Hp} {n:Nat}:TwinA K H n [] []:=⟨[],λd h=>(by cases h),(by unfold zdp; rfl),(by unfold zdp; rfl)⟩
theorem TwinA.cons {K:W.Frag} {H:Hp} {n:Nat} {x y:V} {xs ys:List V} (h:Twin K H n x y) (t:TwinA K H n xs ys):TwinA K H n (x :: xs) (y :: ys):=by
 obtain⟨d,l,z1,z2⟩:=h;obtain⟨ds,ls,zs1,zs2⟩:=t;refine⟨d :: ds,λe he=>(List.mem_cons.mp he).elim (λz=>z ▸ l) (ls e),?_,?_⟩
 . unfold zdp;exact⟨_,_,rfl,z1,zs1⟩
 . unfold zdp;exact⟨_,_,rfl,z2,zs2⟩
theorem TwinA.of {K:W.Frag} {H:Hp} {n:Nat} {xs:List V} (h:HasA K H n xs):TwinA K H n xs xs:=let ⟨ds,l,z⟩:=h; ⟨ds,l,z,z⟩
theorem TwinA.at {K:W.Frag} {H:Hp} {n:Nat}:∀{xs ys:List V},xs.length=ys.length->(∀(i:Nat) x y,xs[i]?=some x->ys[i]?=some y->Twin K H n x y)->TwinA K H n xs ys
 | [],[],_,_=>.nil
 | x :: xs,y :: ys,e,h=>.cons (h 0 x y rfl rfl) (TwinA.at (by simpa using e) λi a b ha hb=>h (i+1) a b (by simpa using ha) (by simpa using hb))
 | [],_ :: _,e,_=>by cases e
 | _ :: _,[],e,_=>by cases e
theorem Twin.tup {K:W.Frag} {H:Hp} {n:Nat} {a b:Addr} {xs ys:List V} (h1:SqT K H a xs) (h2:SqT K H b ys) (t:TwinA K H n xs ys):Twin K H (n+1) (.ref a) (.ref b):=by
 obtain⟨ds,ls,z1,z2⟩:=t;refine⟨.tuple ds,Lay.tuple ls,?_,?_⟩
 . unfold zho;exact⟨a,xs,rfl,h1,z1⟩
 . unfold zho;exact⟨b,ys,rfl,h2,z2⟩
theorem Twin.lst {K:W.Frag} {H:Hp} {n:Nat} {a b:Addr} {xs ys:List V} (h1:SqL K H a xs) (h2:SqL K H b ys) (t:TwinA K H n xs ys):Twin K H (n+1) (.ref a) (.ref b):=by
 obtain⟨ds,ls,z1,z2⟩:=t;refine⟨.list ds,Lay.list ls,?_,?_⟩
 . unfold zho;exact⟨a,xs,rfl,h1,z1⟩
 . unfold zho;exact⟨b,ys,rfl,h2,z2⟩
theorem z5b {K:W.Frag} {H:Hp} {nk:Str} {fa tr qC:Addr} {fo:V} {ps:List Str} (rr:List RR) (h1:SqT K H fa [.str nk,fo,.ref qC,.ref tr]) (h2:SqT K H tr (rr.map λx=>V.ref x.w.r)) (h3:∀x∈rr,RRok K H x) (h4:SqT K H qC (ps.map V.str)) (h5:∀s∈ps,K12.Nm s) (h6:ps.length<=100) (h7:rr.length<=100) (wf:K13.Wf (rr.map λx=>x.w.k)) :
   F2.FnAt K H ⟨nk,fo,fa,qC,tr,ps,rr.map (·.w),rr.map (·.d)⟩:=by
 refine⟨h1,h4,by show SqT K H tr ((rr.map (·.w)).map λw=>V.ref w.r); rw[qbt]; exact h2,λw hw=>?_,⟨⟨_,_,_,_,h1,h4,?_⟩,λd hd=>?_,h5,h6,by show(rr.map (·.d)).length<=100; rw[List.length_map]; exact h7⟩,by show K13.Wf ((rr.map (·.w)).map (·.k)); rw[qbt]; exact wf,by show(rr.map (·.w)).length<=100; rw[List.length_map]; exact h7⟩
 . obtain⟨x,hx,rfl⟩:=List.mem_map.mp hw;exact(h3 x hx).2.1
 . show SqT K H tr ((rr.map (·.d)).map λd=>V.ref d.r);rw[qbt];have:(rr.map λx=>V.ref x.w.r)=rr.map ((λd=>V.ref d.r) ∘ (·.d)):=List.map_congr_left λx hx=>by show V.ref x.w.r=V.ref x.d.r;rw[(h3 x hx).1]
   rw[<- this];exact h2
 . obtain⟨x,hx,rfl⟩:=List.mem_map.mp hd;exact(h3 x hx).2.2
end Bg
namespace Wk
open PySem L2 Gx Fl K41 Bg
inductive RG where
 | out (a:V)|copy (x:Str) (a:V)|op (x s:Str) (a b:V)|back (a:V)|new (x:Str)|get (x:Str) (a:V) (f:Str)|put (a:V) (f:Str) (b:V)|call (x g:Str) (p:Addr) (as:List V)|ifs (a:V)|whl (a:V)
def RG.items:RG->List V
 | .out a=>[.str "out",a]
 | .copy x a=>[.str "copy",.str x,a]
 | .op x s a b=>[.str "op",.str x,.str s,a,b]
 | .back a=>[.str "back",a]
 | .new x=>[.str "new",.str x]
 | .get x a f=>[.str "get",.str x,a,.str f]
 | .put a f b=>[.str "put",a,.str f,b]
 | .call x g p _=>[.str "call",.str x,.str g,.ref p]
 | .ifs a=>[.str "if",a]
 | .whl a=>[.str "while",a]
def RG.kind:RG->Str
 | .out _=>"out"
 | .copy _ _=>"copy"
 | .op _ _ _ _=>"op"
 | .back _=>"back"
 | .new _=>"new"
 | .get _ _ _=>"get"
 | .put _ _ _=>"put"
 | .call _ _ _ _=>"call"
 | .ifs _=>"if"
 | .whl _=>"while"
def RG.gx:RG->Option Str
 | .copy x _=>some x
 | .op x _ _ _=>some x
 | .new x=>some x
 | .get x _ _=>some x
 | .call x _ _ _=>some x
 | _=>none
def RG.as:RG->List V
 | .out a=>[a]
 | .copy _ a=>[a]
 | .op _ _ a b=>[a,b]
 | .back a=>[a]
 | .new _=>[]
 | .get _ a _=>[a]
 | .put a _ b=>[a,b]
 | .call _ _ _ as=>as
 | .ifs a=>[a]
 | .whl a=>[a]
def RG.cl:RG->Str
 | .call _ g _ _=>g
 | _=>""
def RG.rr (r:Addr) (rg:RG):RR:=⟨⟨r,rg.kind,rg.cl⟩,⟨r,0,0,rg.gx,rg.as⟩⟩
def RG.parts (rg:RG):List V:=(rg.gx.toList.map V.str)++rg.as
structure RGAt (K:W.Frag) (H:Hp) (r:Addr) (rg:RG):Prop where
 it:SqT K H r rg.items
 ar:∀x g p as,rg=.call x g p as->SqT K H p as
theorem RGAt.mono {K:W.Frag} {H H':Hp} {r:Addr} {rg:RG} (h:RGAt K H r rg) (e:zaj H H'):RGAt K H' r rg:=⟨e.tup h.it,λx g p as z=>e.tup (h.ar x g p as z)⟩
structure RG.Ok (rg:RG):Prop where
 at_:∀v∈rg.parts,K12.Atom v
 sg:∀x s a b,rg=.op x s a b->PyData.strOk s=true
 fl:(∀x a f,rg=.get x a f->PyData.strOk f=true)/\∀a f b,rg=.put a f b->PyData.strOk f=true
 cl:∀x g p as,rg=.call x g p as->PyData.strOk g=true/\as.length<=10
theorem gat {x:Str} (h:K12.Atom (.str x)):K12.Nm x:=by
 rcases h with⟨s,e,h⟩|⟨i,e⟩
 . cases e; exact h
 . cases e
theorem z3t {K:W.Frag} {H:Hp} {r:Addr} {rg:RG} (h:RGAt K H r rg):K12.RowS K H rg.items rg.gx rg.as:=by
 cases rg with
 | out a=>exact .out a
 | copy x a=>exact .copy x a
 | op x s a b=>exact .op x s a b
 | back a=>exact .back a
 | new x=>exact .new x
 | get x a f=>exact .get x a f
 | put a f b=>exact .put a f b
 | call x g p as=>exact .call x g p as (h.ar x g p as rfl)
 | ifs a=>exact .ifs a
 | whl a=>exact .whl a
theorem z0r {rg:RG} (ok:rg.Ok):rg.as.length<=10:=by
 cases rg with
 | call x g p as=>exact(ok.cl x g p as rfl).2
 | _=>simp [RG.as]
theorem z6g {K:W.Frag} {H:Hp} {r:Addr} {rg:RG} (h:RGAt K H r rg) (ok:rg.Ok):RRok K H (rg.rr r):=by
 refine⟨rfl,?_,⟨⟨_,h.it,z3t h⟩,λv hv=>ok.at_ v (List.mem_append_right _ hv),z0r ok,λx hx=>?_⟩⟩
 . have ne:∀k∈([("out":Str),"copy","op","back","new","get","put","if","while"]:List Str),¬ k="call":=by decide +kernel
   cases rg with
   | call x g p as=>exact⟨_,h.it,λ_=>⟨_,_,rfl⟩⟩
   | out a=>exact⟨_,h.it,λz=>absurd z (ne "out" (by simp))⟩
   | copy x a=>exact⟨_,h.it,λz=>absurd z (ne "copy" (by simp))⟩
   | op x s a b=>exact⟨_,h.it,λz=>absurd z (ne "op" (by simp))⟩
   | back a=>exact⟨_,h.it,λz=>absurd z (ne "back" (by simp))⟩
   | new x=>exact⟨_,h.it,λz=>absurd z (ne "new" (by simp))⟩
   | get x a f=>exact⟨_,h.it,λz=>absurd z (ne "get" (by simp))⟩
   | put a f b=>exact⟨_,h.it,λz=>absurd z (ne "put" (by simp))⟩
   | ifs a=>exact⟨_,h.it,λz=>absurd z (ne "if" (by simp))⟩
   | whl a=>exact⟨_,h.it,λz=>absurd z (ne "while" (by simp))⟩
 . have hx:rg.gx=some x:=hx;refine gat (ok.at_ (.str x) (qbe _ ?_));rw[hx];simp
theorem zw4 {rg:RG} (h1:∀a,rg≠.ifs a) (h2:∀a,rg≠.whl a):¬ K13.isO rg.kind=true/\¬ K13.isE rg.kind=true/\¬ rg.kind="end"/\¬ rg.kind="else":=by
 have key:∀k∈([("out":Str),"copy","op","back","new","get","put","call"]:List Str),¬ K13.isO k=true/\¬ K13.isE k=true/\¬ k="end"/\¬ k="else":=by decide +kernel
 cases rg with
 | ifs a=>exact absurd rfl (h1 a)
 | whl a=>exact absurd rfl (h2 a)
 | _=>exact key _ (by simp [RG.kind])
theorem zz5 {rg:RG} (h:∀a,rg≠.back a):¬ rg.kind="back":=by
 have key:∀k∈([("out":Str),"copy","op","new","get","put","call","if","while"]:List Str),¬ k="back":=by decide +kernel
 cases rg with
 | back a=>exact absurd rfl (h a)
 | _=>exact key _ (by simp [RG.kind])
def Pl (rg:RG):Prop:=(∀a,rg≠.ifs a)/\∀a,rg≠.whl a
theorem z44:∀(rgs:List RG) (ks:List Str),(∀rg∈rgs,Pl rg)->K13.Good ks []->K13.Good (ks++rgs.map RG.kind) []
 | [],ks,_,g=>by rw[qcm,qbc]; exact g
 | rg :: rgs,ks,hp,g=>by have h:=zw4 (hp rg List.mem_cons_self).1 (hp rg List.mem_cons_self).2;have:=z44 rgs (ks++[rg.kind]) (λr hr=>hp r (List.mem_cons_of_mem _ hr)) (g.plain h.1 h.2.1 h.2.2.1);rw[qcs] at this;exact this
theorem gwf {rgs:List RG} (a:V) (hp:∀rg∈rgs,Pl rg):K13.Wf ((rgs++[RG.back a]).map RG.kind):=by have g:=(z44 rgs [] hp K13.good_nil).back;rw[List.nil_append] at g;rw[List.map_append];exact g
def grs (rs:List Addr) (rgs:List RG):List RR:=(rs.zip rgs).map λp=>p.2.rr p.1
theorem ztb {rs:List Addr} {rgs:List RG} (h:rs.length=rgs.length):(grs rs rgs).length=rgs.length:=by unfold grs;rw[List.length_map,qcf];omega
theorem z07 {rs:List Addr} {rgs:List RG} {k:Nat} {x:RR} (hx:(grs rs rgs)[k]?=some x):∃r rg,rs[k]?=some r/\rgs[k]?=some rg/\x=rg.rr r:=by unfold grs at hx;rw[List.getElem?_map,qc2] at hx;obtain⟨p,hp,rfl⟩:=hx;rw[qb6] at hp;exact⟨p.1,p.2,hp.1,hp.2,rfl⟩
theorem z5c {α:Type} (g:Addr->α):∀(rs:List Addr) (rgs:List RG),rs.length=rgs.length->(rs.zip rgs).map (λp=>g p.1)=rs.map g
 | [],[],_=>rfl
 | r :: rs,v :: rgs,h=>by rw[qdp,qa2,qa2,z5c g rs rgs (by simpa using h)]
 | [],_ :: _,h=>by simp at h
 | _ :: _,[],h=>by simp at h
theorem z39 {α:Type} (g:RG->α):∀(rs:List Addr) (rgs:List RG),rs.length=rgs.length->(rs.zip rgs).map (λp=>g p.2)=rgs.map g
 | [],[],_=>rfl
 | r :: rs,v :: rgs,h=>by rw[qdp,qa2,qa2,z39 g rs rgs (by simpa using h)]
 | [],_ :: _,h=>by simp at h
 | _ :: _,[],h=>by simp at h
theorem zys {rs:List Addr} {rgs:List RG} (h:rs.length=rgs.length):((grs rs rgs).map λx=>V.ref x.w.r)=rs.map V.ref:=by unfold grs;rw[qbt];exact z5c V.ref rs rgs h
theorem zrr {rs:List Addr} {rgs:List RG} (h:rs.length=rgs.length):((grs rs rgs).map λx=>x.w.k)=rgs.map RG.kind:=by unfold grs;rw[qbt];exact z39 RG.kind rs rgs h
theorem z6w (r:Addr) (rg:RG):K12.rowStrs (rg.rr r).d=K12.strsOf rg.parts:=by unfold RG.parts K12.rowStrs;rw[K12.strsOf_append,K12.strsOf_map];rfl
theorem z4l {β:Type} (g:RG->List β):∀(rs:List Addr) (rgs:List RG),rs.length=rgs.length->(rs.zip rgs).flatMap (λp=>g p.2)=rgs.flatMap g
 | [],[],_=>rfl
 | r :: rs,v :: rgs,h=>by rw[qdp,qdu,qdu,z4l g rs rgs (by simpa using h)]
 | [],_ :: _,h=>by simp at h
 | _ :: _,[],h=>by simp at h
def zt9 (rgs:List RG):List Str:=rgs.flatMap λrg=>K12.strsOf rg.parts
theorem zp7 {rs:List Addr} {rgs:List RG} (h:rs.length=rgs.length):((grs rs rgs).map (·.d)).flatMap K12.rowStrs=zt9 rgs:=by
 unfold grs zt9;rw[qbt,List.flatMap_map];have:((λp:Addr×RG=>K12.rowStrs (((λx:RR=>x.d) ∘ λp:Addr×RG=>p.2.rr p.1) p)):Addr×RG->List Str)=λp=>(λrg:RG=>K12.strsOf rg.parts) p.2:=by funext p;exact z6w p.1 p.2
 rw[this];exact z4l (λrg=>K12.strsOf rg.parts) rs rgs h
theorem zlt {rg:RG} (ok:rg.Ok):rg.parts.length<=11:=by
 unfold RG.parts;rw[List.length_append,List.length_map];have h1:=z0r ok;have h2:rg.gx.toList.length<=1:=by cases rg.gx <;> simp
 omega
theorem zua:∀rgs:List RG,(∀rg∈rgs,rg.Ok)->(zt9 rgs).length<=11 * rgs.length
 | [],_=>by simp [zt9]
 | rg :: rgs,ok=>by have h1:=zua rgs λr hr=>ok r (List.mem_cons_of_mem _ hr);have h2:=K12.strsOf_len rg.parts;have h3:=zlt (ok rg List.mem_cons_self);unfold zt9 at h1 ⊢;rw[qdu,List.length_append,qa8];omega
theorem z5s {s:Str} {l:List V}:s∈K12.strsOf l <-> V.str s∈l:=by
 unfold K12.strsOf;rw[qdl];constructor
 . rintro ⟨v,hv,e⟩;cases v with
   | str x=>cases e; exact hv
   | _=>cases e
 . intro h;exact⟨_,h,rfl⟩
theorem z51 {x:Str} {ss:List Str}:x∈K12.onceL ss <-> x∈ss:=⟨K12.onceL_sub ss x,λh=>K12.fold_has ss [] x h⟩
def gfn (nk:Str) (fo:V) (fa qC tr:Addr) (ps:List Str) (rs:List Addr) (rgs:List RG):F2.Fd:=⟨nk,fo,fa,qC,tr,ps,(grs rs rgs).map (·.w),(grs rs rgs).map (·.d)⟩
section
variable {K:W.Frag} {H:Hp} {nk:Str} {fa tr qC:Addr} {fo:V} {ps:List Str} {rs:List Addr} {rgs:List RG}
theorem z4u (hl:rs.length=rgs.length) (h1:SqT K H fa [.str nk,fo,.ref qC,.ref tr]) (h2:SqT K H tr (rs.map V.ref)) (h3:∀(i:Nat) r rg,rs[i]?=some r->rgs[i]?=some rg->RGAt K H r rg/\rg.Ok) (h4:SqT K H qC (ps.map V.str)) (h5:∀s∈ps,K12.Nm s) (h6:ps.length<=100) (h7:rgs.length<=100) (wf:K13.Wf (rgs.map RG.kind)) :
   F2.FnAt K H (gfn nk fo fa qC tr ps rs rgs):=by
 refine z5b (grs rs rgs) h1 (by rw[zys hl]; exact h2) (λx hx=>?_) h4 h5 h6 (by rw[ztb hl]; exact h7) (by rw[zrr hl]; exact wf);obtain⟨k,hk⟩:=qax hx;obtain⟨r,rg,e1,e2,rfl⟩:=z07 hk;exact z6g (h3 k r rg e1 e2).1 (h3 k r rg e1 e2).2
theorem z1l (hl:rs.length=rgs.length) {x:Str}:x∈F2.nms (gfn nk fo fa qC tr ps rs rgs) <-> x∈ps\/x∈zt9 rgs:=by unfold F2.nms K12.allOf;rw[z51,List.mem_append];show x∈ps\/x∈((grs rs rgs).map (·.d)).flatMap K12.rowStrs <-> _;rw[zp7 hl]
theorem zyt (hl:rs.length=rgs.length) (ok:∀rg∈rgs,rg.Ok):(F2.nms (gfn nk fo fa qC tr ps rs rgs)).length<=ps.length+11 * rgs.length:=by unfold F2.nms K12.allOf;refine Nat.le_trans (K12.onceL_len _) ?_;rw[List.length_append];show ps.length+(((grs rs rgs).map (·.d)).flatMap K12.rowStrs).length<=_;rw[zp7 hl];have:=zua rgs ok;omega
theorem z2t (hl:rs.length=rgs.length) {k:Nat} {rg:RG} (hv:rgs[k]?=some rg):∃w:Rw,(gfn nk fo fa qC tr ps rs rgs).rs[k]?=some w/\rs[k]?=some w.r:=by
 have hk:k<(grs rs rgs).length:=by rw[ztb hl]; exact(List.getElem?_eq_some_iff.mp hv).1
 have hx:(grs rs rgs)[k]?=some (grs rs rgs)[k]:=List.getElem?_eq_getElem hk;obtain⟨r,rg',e1,e2,e3⟩:=z07 hx;refine⟨(grs rs rgs)[k].w,?_,?_⟩
 . show((grs rs rgs).map (·.w))[k]?=_;rw[List.getElem?_map,hx];rfl
 . rw[e3]; exact e1
theorem z2i (hl:rs.length=rgs.length):(gfn nk fo fa qC tr ps rs rgs).rs.length=rgs.length:=by show((grs rs rgs).map (·.w)).length=_;rw[List.length_map,ztb hl]
theorem z2m (hl:rs.length=rgs.length) {k:Nat} {rg:RG} (hk:k+1<rgs.length) (hv:rgs[k]?=some rg) (hb:∀a,rg≠.back a) (hp:Pl rg) (hp2:∀r,rgs[k+1]?=some r->Pl r):Way (gfn nk fo fa qC tr ps rs rgs) k 0 (k+1):=by
 have kdw:∀(j:Nat) (rg:RG),rgs[j]?=some rg->K13.kd (F2.kds (gfn nk fo fa qC tr ps rs rgs)) j=rg.kind:=λj rg h=>by
   unfold K13.kd F2.kds;have e:(gfn nk fo fa qC tr ps rs rgs).rs.map (·.k)=rgs.map RG.kind:=by show((grs rs rgs).map (·.w)).map (·.k)=_;rw[qbt];exact zrr hl
   rw[e,qbu,List.getElem?_map,h];rfl
 have h2:rgs[k+1]?=some rgs[k+1]:=List.getElem?_eq_getElem hk;have c1:=zw4 hp.1 hp.2;have c2:=zw4 (hp2 _ h2).1 (hp2 _ h2).2;exact⟨[k+1],.one (by rw[kdw k rg hv]; exact c1.2.1) (by rw[kdw k rg hv]; exact zz5 hb) (by rw[kdw k rg hv]; exact c1.1) (.oth (by rw[kdw _ _ h2]; exact c2.2.2.2) (by rw[kdw _ _ h2]; exact c2.2.2.1)),rfl⟩
end
structure Cn where
 kv:List (List Key×V)
 rc:Int
def fk (i:Int) (f:Str):List Key:=[Sum.inl i,Sum.inr f]
def fldV (cn:Cn) (i:Int) (f:Str):V:=(zc9 cn.kv (fk i f)).getD (.int 0)
def RG.gives (kvs:List (Key×V)) (cn:Cn):RG->Option (Str×V)
 | .copy x a=>(av kvs a).map λv=>(x,v)
 | .op x s a b=>match av kvs a,av kvs b with
   | some (.int i),some (.int j)=>if 0<=i/\0<=j/\i<K21.wide/\j<K21.wide then some (x,.int (K21.valOf s i j)) else none
   | _,_=>none
 | .get x a f=>match av kvs a with
   | some (.int i)=>some (x,fldV cn i f)
   | _=>none
 | _=>none
theorem zro {kvs:List (Key×V)} {cn:Cn} {y s x:Str} {a b v:V} (h:(RG.op y s a b).gives kvs cn=some (x,v)):x=y/\∃i j,av kvs a=some (.int i)/\av kvs b=some (.int j)/\(0<=i/\0<=j/\i<K21.wide/\j<K21.wide)/\v=.int (K21.valOf s i j):=by
 dsimp only[RG.gives] at h;split at h
 . rename_i i j ea eb
   split at h
   . rename_i hb
     cases h;exact⟨rfl,i,j,ea,eb,hb,rfl⟩
   . cases h
 . cases h
theorem zm5 {kvs:List (Key×V)} {cn:Cn} {y x:Str} {a v:V} (h:(RG.copy y a).gives kvs cn=some (x,v)):x=y/\av kvs a=some v:=by have h:(av kvs a).map (λv=>(y,v))=some (x,v):=h;rw[qc2] at h;obtain⟨u,hu,hz⟩:=h;cases hz;exact⟨rfl,hu⟩
theorem zu7 {kvs:List (Key×V)} {cn:Cn} {y x f:Str} {a v:V} (h:(RG.get y a f).gives kvs cn=some (x,v)):x=y/\∃i,av kvs a=some (.int i)/\v=fldV cn i f:=by
 dsimp only[RG.gives] at h;split at h
 . rename_i i e
   cases h;exact⟨rfl,i,e,rfl⟩
 . cases h
theorem znb {kvs:List (Key×V)} {cn:Cn} {rg:RG} {x:Str} {v:V} (h:rg.gives kvs cn=some (x,v)):rg.items[1]?=some (.str x):=by
 cases rg with
 | copy y a=>rw[(zm5 h).1]; rfl
 | op y s a b=>rw[(zro h).1]; rfl
 | get y a f=>rw[(zu7 h).1]; rfl
 | _=>cases h
end Wk
namespace L2
open PySem PySem.Spec PyProof.Rows
section
variable {X:Cx} {k:Nat} {f C:Addr} {fd:FuncData} {ps:List Str} {sp:Sp} {m:Str} {pos apos:Pos} {o e:Expr} {es:List Expr} {t:TA} {ta:TE}
theorem z1p {pl:Sem Bool} (he:PE X.nox o ta) (c:Cls X.K C) (hm:Meth X.K C m f) (F:FnOk X.prog X.w X.K X.mg X.base (CXe X.prog X.w) k f fd ps sp) (hr:Room k X.A) (hb:zjm X.K fd ps []) (ha:PA X.nox (e :: es) t)
   (hst:starEach (e :: es) X.env=(false,eval e X.env) :: starEach es X.env:=by rfl) (hpl:(backTo pos (starEach es X.env)).any (·.1)=false:=by rfl)
   (ht:eval (.Call (.Attribute o m apos) (e :: es) [] pos) X.env=(do
     let ov <- eval o X.env
     standAt apos.atName
     let (f,first) <- holding [ov] (getMethod ov m pl)
     callWith pos f first (backTo pos (starEach (e :: es) X.env)) (backToKw pos (keywordEach [] X.env))):=by rfl) :
   PX X (.Call (.Attribute o m apos) (e :: es) [] pos) (λσ H Q E=>z0k C m sp [] E ta t σ H Q):=by
 intro pins s σ H Q E I h;refine PySem.W.methodCall_KW (pl:=pl) (wpAny_mono (he pins s σ H _ (I.wish _) h) (λu s1 ⟨x,H1,I1,rx,a,dx,fs,ex,ea,l,q⟩=>?_) λ_ _ z=>z.elim) ht;have I1:=I1.unwish;subst ex;obtain rfl:u=Value.ref a:=rx;refine zjg I1 ea c hm l ?_;refine PySem.W.callWith_K (first:=[.ref a]) (h₀:=X.base) I.ok.mod.kin hm.kp (wpAny_mono (ha pos pins s1 σ H1 _ (I1.wish _) q) (λus s2 ⟨vs,H2,I2,r,q2⟩=>⟨I2.kIn,?_⟩) λ_ _ z=>z.elim) hst hpl;have I2:=I2.unwish;have r2:zcw (.ref a :: vs) (.ref a :: us):=.cons rfl r;have q2:sp (.ref a :: vs) H2 Q E:=by have q3:sp (.ref a :: (vs++[])) H2 Q E:=q2;rw[qbc] at q3; exact q3
 have hl:(Value.ref a :: us).length=ps.length:=by rw[<- r2.length]; exact F.len _ _ _ _ q2
 have hb2:BindsTo s2 fd ⟨.ref a :: us,[]⟩ (ps.zip (.ref a :: us)):=by have:=hb s2 (.ref a :: us) I2.kIn (by rw[qbc]; exact hl);rwa [qbc] at this
 refine wpAny_call (codeAny_mono (F.run X.A X.stack s2 H2 ⟨.ref a :: us,[]⟩ (.ref a :: us) (.ref a :: vs) Q E hr I2.env0 hb2 r2 q2) λrr s' hq=>?_);cases rr with
 | error ev=>exact⟨H2,s2,I2,hq⟩
 | ok fl =>
   cases fl with
   | ret u=>exact I2.after hq
   | next=>exact False.elim hq
   | brk=>exact False.elim hq
   | cont=>exact False.elim hq
end
end L2
namespace Wk
open PySem L2 Gx Fl K41 Bg
section
variable {cW cF:Addr} {Hb H H2:Hp} {w:Wr} {fs:List Fm} {oc:V} {sent:List V} {co:HO} {rc:Int}
theorem zlr {α β:Type} (g:α->β) {l:List α} {i:Nat} {x y:α} (h:l[i]?=some x) (e:g y=g x):(l.set i y).map g=l.map g:=by
 refine qcj λj=>?_;rw[List.getElem?_map,List.getElem?_map,List.getElem?_set];by_cases hj:i=j
 . subst hj;rw[if_pos rfl,if_pos (List.getElem?_eq_some_iff.mp h).1,h];exact congrArg some e
 . rw[if_neg hj]
end
end Wk
namespace K14
open PySem PySem.NumText L2 K11
theorem str_ext {a b:Str} (h:a.cps.toList=b.cps.toList):a=b:=by cases a;cases b;have:=Array.toList_inj.mp h;simp only at this;rw[this]
theorem z45 {ws:List Str} {n:Nat} (h:∀w∈ws,w.length<=n):(ws.map (·.length)).sum<=ws.length * n:=by
 induction ws with
 | nil=>simp
 | cons w r ih =>
   have h1:=h w (by simp);have h2:=ih λz hz=>h z (List.mem_cons_of_mem _ hz);simp only[qa2,List.sum_cons,qa8];rw[Nat.succ_mul];omega
end K14
namespace K14
open PySem PyProof.Rows L2 K11 Gx
theorem let_at {z:Int} (h0:0<=z) (h1:z<26):atI ("abcdefghijklmnopqrstuvwxyz":Str).cps.toList z=some (97+z.toNat):=by
 obtain⟨n,rfl⟩:=qby h0;have g:∀n<26,("abcdefghijklmnopqrstuvwxyz":Str).cps.toList[n]?=some (97+n):=by decide +kernel
 exact zc7 (g n (by omega))
theorem zt4:∀l:List Nat,(l.map λc=>[c]).flatten=l
 | []=>rfl
 | x :: l=>by rw[qa2,qci,zt4 l]; rfl
theorem one_fit {cs:List Nat} (h:cs.length<=8):((cs.map λc=>tx [c]).map (·.length)).sum+(cs.map λc=>tx [c]).length * ("":Str).length<=16777216:=by
 have h2:=z45 (ws:=cs.map λc=>tx [c]) (n:=1) λw hw=>by obtain⟨c,_,rfl⟩:=List.mem_map.mp hw;rw[zk8];exact qae _
 have e:("":Str).length=0:=by decide +kernel
 rw[e];rw[List.length_map] at h2 ⊢;omega
theorem one_join (cs:List Nat):PySem.Txt.join "" (cs.map λc=>tx [c])=tx cs:=by have:=zwf (cs.map λc=>[c]);rw[zt4,qbt] at this;exact this
end K14
namespace K15
open PySem PySem.NumText L2 K11 K14 Gx
theorem ztd (i j n:Nat):Builtin.Str.strSliceIndices (some (i:Int)) (some (j:Int)) 1 n=Builtin.Str.strSliceIndices (some ((min i n:Nat):Int)) (some ((min j n:Nat):Int)) 1 n:=by unfold Builtin.Str.strSliceIndices;simp only[show(1:Int) > 0 by decide,if_true];have h:∀k:Nat,(if(k:Int)<0 then(k:Int)+(n:Int) else(k:Int))=(k:Int):=λk=>if_neg (by omega);rw[h,h,h,h];congr 1 <;> omega
theorem z06 (l:List Nat) {i j:Nat} (h:i<=j):Txt.slice (tx l) (some (i:Int)) (some (j:Int))=tx ((l.take j).drop i):=by
 have e:Txt.slice (tx l) (some (i:Int)) (some (j:Int))=Txt.slice (tx l) (some ((min i l.length:Nat):Int)) (some ((min j l.length:Nat):Int)):=by unfold Txt.slice;rw[zk8,ztd i j l.length]
 rw[e,zy1 (by omega) (by omega) (by omega)];congr 1;rw[qa9];by_cases hi:i<=l.length
 . rw[qcp hi];by_cases hj:j<=l.length
   . rw[qcp hj,List.drop_take];congr 1;omega
   . rw[Nat.min_eq_right (by omega),qbh (l:=l) (by omega),qbh];rw[qbr]; omega
 . rw[qcr (show l.length<=min i l.length by omega),qcr (by rw[qay]; omega)];simp
theorem sl_to (l:List Nat) (j:Nat):Txt.slice (tx l) none (some (j:Int))=tx (l.take j):=by
 have e:Txt.slice (tx l) none (some (j:Int))=Txt.slice (tx l) (some ((0:Nat):Int)) (some (j:Int)):=by unfold Txt.slice;rw[StrLaws.sliceIdx_none_lo];rfl
 rw[e,z06 l (qa4 _),qdi]
theorem sl_from (l:List Nat) (i:Nat):Txt.slice (tx l) (some (i:Int)) none=tx (l.drop i):=by
 have e:Txt.slice (tx l) (some (i:Int)) none=Txt.slice (tx l) (some (i:Int)) (some ((max i l.length:Nat):Int)):=by
   unfold Txt.slice;rw[StrLaws.sliceIdx_none_hi,zk8,ztd i l.length l.length,ztd i (max i l.length) l.length];have:min (max i l.length) l.length=min l.length l.length:=by omega
   rw[this]
 rw[e,z06 l (by omega),qbh (by omega)]
end K15
namespace Wk
open PySem L2 Gx
theorem zyq {vs:List V} {m:Nat} {f:Nat->V} (hl:vs.length=m) (h:∀(i:Nat) v,vs[i]?=some v->v=f i):vs=(List.range m).map f:=by
 refine qcj λi=>?_;rw[List.getElem?_map];cases e:vs[i]? with
 | none =>
   have:vs.length<=i:=qb5.mp e;rw[qbb (by rw[qdv]; omega)];rfl
 | some v =>
   have:i<vs.length:=(List.getElem?_eq_some_iff.mp e).1;rw[List.getElem?_range (by omega),h i v e];rfl
theorem zxn:∀{vs:List V},(∀(i:Nat) v,vs[i]?=some v->∃c,(97<=c/\c<=122)/\v=.str (tx [c]))->∃cs:List Nat,vs=(cs.map λc=>tx [c]).map V.str/\(∀c∈cs,97<=c/\c<=122)/\cs.length=vs.length
 | [],_=>⟨[],rfl,(λc h=>by cases h),rfl⟩
 | v :: vs,h=>by
   obtain⟨c,hc,e⟩:=h 0 v rfl;obtain⟨cs,e1,h1,h2⟩:=zxn (vs:=vs) λi u hu=>h (i+1) u (by simpa using hu);refine⟨c :: cs,by rw[e,e1]; rfl,λx hx=>?_,by simp [h2]⟩;rcases List.mem_cons.mp hx with rfl|hx
   . exact hc
   . exact h1 x hx
def chr (q:Int) (k:Nat):Nat:=97+((q+7 * (k:Int))%26).toNat
theorem z46 (q:Int) (k:Nat):97<=chr q k/\chr q k<=122:=by unfold chr;have:=zbz (q+7 * (k:Int)) 26 (by decide);omega
theorem z1i {q:Int} {j k:Nat} (hj:j<13) (hk:k<13) (h:chr q j=chr q k):j=k:=by unfold chr at h;omega
def nmB (cs:List Nat) (a:Nat) (q:Int) (k:Nat):List Nat:=cs.take a++(chr q k :: cs.drop a)
def nmF (W:List (List Nat)) (cs:List Nat) (a:Nat) (q:Int) (k:Nat):List Nat:=if nmB cs a q k∈W then nmB cs a q k++[120] else nmB cs a q k
theorem zpf (cs:List Nat) (a:Nat) (q:Int) (k:Nat):(nmB cs a q k).length=cs.length+1:=by unfold nmB;rw[List.length_append,qa8,qay,qbr];omega
theorem zxm {cs:List Nat} {a:Nat} {q:Int} {j k:Nat} (hj:j<13) (hk:k<13) (h:nmB cs a q j=nmB cs a q k):j=k:=by unfold nmB at h;have h2:=List.append_cancel_left h;exact z1i hj hk (List.cons.inj h2).1
theorem z23 {W:List (List Nat)} {cs:List Nat} {a:Nat} {q:Int} {j k:Nat} (hj:j<13) (hk:k<13) (h:nmF W cs a q j=nmF W cs a q k):j=k:=by
 have l1:=zpf cs a q j;have l2:=zpf cs a q k;unfold nmF at h;split at h <;> split at h
 . exact zxm hj hk (List.append_cancel_right h)
 . have:=congrArg List.length h;rw[List.length_append] at this;simp at this;omega
 . have:=congrArg List.length h;rw[List.length_append] at this;simp at this;omega
 . exact zxm hj hk h
theorem nodup_range {α:Type} {m:Nat} {f:Nat->α} (h:∀j k,j<m->k<m->f j=f k->j=k):((List.range m).map f).Nodup:=by rw[List.nodup_iff_pairwise_ne,List.pairwise_map];refine List.Pairwise.imp_of_mem (R:=λa b=>a≠b) (λ{a b} ha hb hab z=>hab (h a b (qdh.mp ha) (qdh.mp hb) z)) List.nodup_range
end Wk
namespace Wk
open PySem L2 Gx Fl
theorem ztw {n:Str}:∀(ns:List Str) (d:List (Key×V)),(n∈ns\/zc9 d (Sum.inr n:Key)=some (.int 0))->zc9 ((ns.map λn=>((Sum.inr n:Key),V.int 0)).foldl (λacc kv=>zbx acc kv.1 kv.2) d) (Sum.inr n:Key)=some (.int 0)
 | [],d,h=>h.elim (λz=>by cases z) id
 | m :: ns,d,h=>by
   rw[qa2,qa6];refine ztw ns _ ?_;rw[zdm];by_cases z:n=m
   . exact .inr (by rw[z,if_pos rfl])
   . rcases h with h|h
     . rcases List.mem_cons.mp h with h|h
       . exact absurd h z
       . exact .inl h
     . exact .inr (by rw[if_neg (by intro y; exact z (Sum.inr.inj y))]; exact h)
end Wk
namespace L2
open PySem PySem.Spec PyProof.Rows
section
variable {X:Cx} {k:Nat} {f C:Addr} {fd:FuncData} {ps:List Str} {sp:Sp} {m:Str} {pos apos:Pos} {o:Expr} {ta:TE}
theorem z0i {pl:Sem Bool} (he:PE X.nox o ta) (c:Cls X.K C) (hm:Meth X.K C m f) (F:FnOk X.prog X.w X.K X.mg X.base (CXe X.prog X.w) k f fd ps sp) (hr:Room k X.A) (hb:zjm X.K fd ps [])
   (ht:eval (.Call (.Attribute o m apos) [] [] pos) X.env=(do
     let ov <- eval o X.env
     standAt apos.atName
     let (f,first) <- holding [ov] (getMethod ov m pl)
     callWith pos f first (backTo pos (starEach [] X.env)) (backToKw pos (keywordEach [] X.env))):=by rfl) :
   PX X (.Call (.Attribute o m apos) [] [] pos) (λσ H Q E=>z0k C m sp [] E ta z6e σ H Q):=by
 intro pins s σ H Q E I h;refine PySem.W.methodCall_KW (pl:=pl) (wpAny_mono (he pins s σ H _ (I.wish _) h) (λu s1 ⟨x,H1,I1,rx,a,dx,fs,ex,ea,l,q⟩=>?_) λ_ _ z=>z.elim) ht;have I1:=I1.unwish;subst ex;obtain rfl:u=Value.ref a:=rx;refine zjg I1 ea c hm l ?_;refine PySem.W.callWith_K0 (first:=[.ref a]) I1.kIn hm.kp ?_;have r2:zcw [V.ref a] [Value.ref a]:=.cons rfl .nil;have q2:sp [.ref a] H1 Q E:=q;have hl:[Value.ref a].length=ps.length:=by rw[<- r2.length]; exact F.len _ _ _ _ q2
 have hb2:BindsTo s1 fd ⟨[.ref a],[]⟩ (ps.zip [.ref a]):=by have:=hb s1 [.ref a] I1.kIn (by rw[qbc]; exact hl);rwa [qbc] at this
 refine wpAny_call (codeAny_mono (F.run X.A X.stack s1 H1 ⟨[.ref a],[]⟩ [.ref a] [.ref a] Q E hr I1.env0 hb2 r2 q2) λrr s' hq=>?_);cases rr with
 | error ev=>exact⟨H1,s1,I1,hq⟩
 | ok fl =>
   cases fl with
   | ret u=>exact I1.after hq
   | next=>exact False.elim hq
   | brk=>exact False.elim hq
   | cont=>exact False.elim hq
end
section
variable {g:TG} {tif:TT} {te:TE} {js:List (Option Nat)} {σ:St} {H:Hp} {Q:VK}
theorem zxu {o:Obj} {d:Addr} {kvs:List (Key×V)} {p:Addr} (T:Nat->Hp->V->Prop) (tm:∀i v H H',zaj H H'->T i H v->T i H' v) (hn:kvs.length<=1000000) (hS:H d=some (.frz o (.dK kvs))) (hp:H p=none)
   (hs:∀i kv H2 (R:VK),kvs[i]?=some kv->zaj H H2->(∃acc,H2 p=some (.lst acc))->(∀v H3,zaj H2 H3->T i (ers p H3) v->R v H3)->g (kV kv.1) (cap js σ) H2 λσ2 H3=>tif σ2 H3 λc H4=>if c=true then te σ2 H4 R else False)
   (hd:∀H2 vs,zaj H H2->H2 p=some (.lst vs)->vs.length=kvs.length->(∀(i:Nat) v,vs[i]?=some v->T i (ers p H2) v)->Q (.ref p) H2) (mono:∀x H2 (M M':St->Hp->Prop),(∀σ' H',M σ' H'->M' σ' H')->g x (cap js σ) H2 M->g x (cap js σ) H2 M':=by intro _ _ _ _ h z; exact h _ _ z) (mon2:∀σ2 H2 (M M':Bool->Hp->Prop),(∀c H',M c H'->M' c H')->tif σ2 H2 M->tif σ2 H2 M':=by intro _ _ _ _ h z; exact h _ _ z) :
   zqk (Itq o d kvs) g tif te js σ Q p H:=by
 refine⟨λi m acc H2=>m=kvs.length - i/\i<=kvs.length/\zm0 H p T i acc H2,⟨kvs.length,by simp,qa4 _,zaj.new hp,zab,rfl,λj v h=>by simp at h⟩,?_⟩;rintro i m acc H2 ⟨rfl,hi,r⟩;obtain⟨s2,e2,l2,t2⟩:=id r;refine⟨e2,?_⟩;by_cases hlt:i<kvs.length
 . refine .inr ⟨⟨s2 _ _ hS,hlt⟩,?_,zm0 H p T (i+1),λacc' H' p'=>⟨kvs.length - (i+1),by omega,rfl,hlt,p'⟩,λx H' y=>?_⟩
   . have:(1000000:Nat)<sizeLine:=by decide
     omega
   . obtain⟨e,y⟩:=y;subst e;rw[y kvs[i] (by simp [hlt])];refine mono _ _ _ _ (λσ' H' z=>?_) (hs i kvs[i] H' _ (by simp [hlt]) r.1 ⟨acc,r.2.1⟩ λv H3 s3 t3=>zmt tm hp r s3 t3);refine mon2 _ _ _ _ (λc H'' zz=>?_) z;cases c with
     | true=>exact zz
     | false=>exact zz.elim
 . have e:i=kvs.length:=by omega
   subst e;exact .inl ⟨⟨s2 _ _ hS,rfl⟩,hd H2 acc s2 e2 l2 t2⟩
end
theorem nw {H X:Hp} {a:Addr} {o:HO} (e:upd H a o=X) (h:H a=none):zaj H X/\X a=some o:=by subst e; exact⟨zaj.new h,zab⟩
theorem iN {c A B:Prop} [Decidable c] (h:B) (hc:¬ c:=by decide +kernel):if c then A else B:=zf7 hc h
theorem iP {c A B:Prop} [Decidable c] (h:A) (hc:c:=by decide +kernel):if c then A else B:=zhl hc h
theorem jN {c A B:Prop} [Decidable c] (h:B) (hc:¬ c:=by decide):if c then A else B:=zf7 hc h
end L2
namespace K24
open PySem L2 Gx Fl Wk
def top (i:Nat):Stmt:=PySem.Challenge.pw_stopglass_k24_calls_and_backs.main.body.getD i (.Pass ⟨0,0,0,0⟩)
abbrev zjb:Stmt:=top 8
abbrev zpc:Stmt:=top 9
abbrev zpe:Stmt:=top 10
abbrev zjf:Stmt:=top 11
abbrev zhn:Stmt:=top 12
abbrev znj:Stmt:=top 13
abbrev zh4:Stmt:=top 14
abbrev zch:Stmt:=top 15
abbrev zeb:Stmt:=zbu (top 16) 0
abbrev zpk:Stmt:=top 19
abbrev zf1:Stmt:=zbu (top 20) 0
abbrev ze7:Stmt:=zbu (top 20) 1
abbrev zel:Stmt:=zbu (top 20) 2
abbrev zf0:Stmt:=zbu (top 20) 3
abbrev ze5:Stmt:=zbu (top 20) 4
abbrev zeo:Stmt:=zbu (top 20) 5
abbrev zfz:Stmt:=zbu (top 20) 6
abbrev zf4:Stmt:=zbu (top 20) 7
abbrev zco:Stmt:=zbu (top 20) 12
abbrev zcx:Stmt:=zbu (top 20) 13
abbrev zdy:Stmt:=zbu (top 20) 14
abbrev zdx:Stmt:=zbu (top 20) 15
abbrev zdo:Stmt:=zbu (top 20) 16
abbrev zc4:Stmt:=zbu (top 20) 17
abbrev zd5:Stmt:=zbu (top 21) 0
abbrev zc5:Stmt:=zbu (top 21) 1
abbrev zdw:Stmt:=zbu (top 22) 0
abbrev zcr:Stmt:=zbu (top 22) 2
abbrev zcs:Stmt:=zbu (top 22) 3
abbrev zdt:Stmt:=zbu (top 22) 4
abbrev za8:Stmt:=zbu (top 22) 5
abbrev zb3:Stmt:=zbu (top 22) 6
abbrev zda:Stmt:=zbu (top 22) 7
abbrev zdn:Stmt:=zbu (top 22) 8
abbrev zc3:Stmt:=zbu (top 22) 9
abbrev zde:Stmt:=zbu (top 22) 10
abbrev zb4:Stmt:=zbu (top 22) 11
abbrev zhv:Stmt:=top 24
abbrev zjj:Stmt:=top 25
abbrev ze9:Stmt:=top 26
abbrev zgw:Stmt:=top 27
abbrev zms:Stmt:=top 28
abbrev zij:Stmt:=top 29
abbrev zdc:Stmt:=top 30
abbrev zk6:Stmt:=top 31
abbrev zgd:Stmt:=top 32
abbrev zk2:Stmt:=top 33
abbrev zei:Stmt:=top 34
abbrev zkv:Stmt:=top 35
abbrev zhw:Stmt:=top 36
abbrev zhu:Stmt:=top 37
abbrev zec:Stmt:=top 38
abbrev zf6:Stmt:=top 39
abbrev zd3:Stmt:=top 40
abbrev zpp:Stmt:=top 41
set_option genInjectivity false in
set_option genSizeOf false in
structure Adr where
 zeh:Addr
 zby:Addr
 zdl:Addr
 za2:Addr
 zum:Addr
 zak:Addr
 zbh:Addr
 zo6:Addr
 zpb:FuncData
 zyb:Addr
 zyi:FuncData
 zya:Addr
 zyg:FuncData
 zo4:Addr
 zo7:FuncData
 znv:Addr
 zn4:FuncData
 zyd:Addr
 z1d:FuncData
 znu:Addr
 zn3:FuncData
 zgo:Addr
 zi8:FuncData
 zi3:Addr
 zmf:FuncData
 zyc:Addr
 zyj:FuncData
 zk9:Addr
 zld:FuncData
 zj0:Addr
 zj2:FuncData
 zi4:Addr
 zi6:FuncData
 zla:Addr
 zle:FuncData
 zj1:Addr
 zj3:FuncData
 zi5:Addr
 zi7:FuncData
 zlc:Addr
 zlg:FuncData
 zlb:Addr
 zlf:FuncData
 zex:Addr
 zey:FuncData
 zfh:Addr
 zfk:FuncData
 zhf:Addr
 zhj:FuncData
 zhg:Addr
 zhk:FuncData
 zgy:Addr
 zg1:FuncData
 zfu:Addr
 zfy:FuncData
 zh9:Addr
 zia:FuncData
 zfs:Addr
 zfv:FuncData
 zhd:Addr
 zhh:FuncData
 zff:Addr
 zfi:FuncData
 zfg:Addr
 zfj:FuncData
 zhe:Addr
 zhi:FuncData
 zd2:Addr
 zfx:FuncData
 zes:Addr
 zgz:FuncData
 zgn:Addr
 zgq:FuncData
 zgx:Addr
 zg0:FuncData
 zft:Addr
 zfw:FuncData
 zgm:Addr
 zgp:FuncData
 zee:Addr
 zef:FuncData
 znw:Addr
 zn5:FuncData
 zo5:Addr
 zpa:FuncData
 znz:Addr
 zr2:FuncData
 zme:Addr
 zmg:FuncData
 zul:Addr
 zun:FuncData
 ztg:Addr
 zyh:FuncData
 zkj:Addr
 zn8:FuncData
 zrw:Addr
 zrz:FuncData
 znx:Addr
 zr0:FuncData
 zry:Addr
 zr5:FuncData
 zny:Addr
 zr1:FuncData
 zrx:Addr
 zr4:FuncData
 zn0:Addr
 zn6:FuncData
 zn1:Addr
 zn7:FuncData
 zlx:Addr
 zo9:FuncData
 zlw:Addr
 zo8:FuncData
 zn2:Addr
 zr3:FuncData
 z3d:Addr
 z0m:FuncData
 zp2:Addr
 z3c:Addr
structure Txt (K:W.Frag) (mg:Str->Option Value) (t:Adr):Prop where
 zeh:XClsOk K mg "GlassError" t.zeh
 zby:XClsOk K mg "NoName" t.zby
 zdl:XClsOk K mg "Ended" t.zdl
 i0_NoName:W.findIn K (.ref t.zby) "__init__"=some (some (.builtin "ValueError.__init__"))
 e_NoName:W.mroIn K t.zby (.ref t.zeh)=some true
 k_NoName_NoName:W.kitOne K (.ref t.zby) (.ref t.zby)=some true
 k_NoName_Ended:W.kitOne K (.ref t.zby) (.ref t.zdl)=some false
 v_NoName:W.kitOne K (.ref t.zby) (.type "ValueError")=some true
 i0_Ended:W.findIn K (.ref t.zdl) "__init__"=some (some (.builtin "ValueError.__init__"))
 e_Ended:W.mroIn K t.zdl (.ref t.zeh)=some true
 k_Ended_NoName:W.kitOne K (.ref t.zdl) (.ref t.zby)=some false
 k_Ended_Ended:W.kitOne K (.ref t.zdl) (.ref t.zdl)=some true
 v_Ended:W.kitOne K (.ref t.zdl) (.type "ValueError")=some true
 names_of:DefOk K mg "names_of" zjb ["function"] t.zo6 t.zpb
 reads:DefOk K mg "reads" zpc ["row"] t.zyb t.zyi
 gives:DefOk K mg "gives" zpe ["row"] t.zya t.zyg
 atoms_of:DefOk K mg "atoms_of" zjf ["row"] t.zo4 t.zo7
 each_once:DefOk K mg "each_once" zhn ["names"] t.znv t.zn4
 ways:DefOk K mg "ways" znj ["rows"] t.zyd t.z1d
 begins_of:DefOk K mg "begins_of" zh4 ["rows"] t.znu t.zn3
 firsts_behind:DefOk K mg "firsts_behind" zch ["rows","begins"] t.zgo t.zi8
 zo3:IniOk K t.za2 "Flows.__init__" zeb ["self","program"] t.zi3 t.zmf
 value:DefOk K mg "value" zpk ["sign","one","other"] t.zyc t.zyj
 zkh:BasOk K t.zum "__init__" "Walker.__init__" zf1 ["self","program"] t.zk9 t.zld
 zds:MetOk K t.zak "ended" "Walker.ended" ze7 ["self"] t.zj0 t.zj2
 zb9:MetOk K t.zak "answer" "Walker.answer" zel ["self"] t.zi4 t.zi6
 zki:MetOk K t.zak "sent" "Walker.sent" zf0 ["self"] t.zla t.zle
 zi2:MetOk K t.zak "field" "Walker.field" ze5 ["self","record","name"] t.zj1 t.zj3
 zdf:MetOk K t.zak "frames" "Walker.frames" zeo ["self"] t.zi5 t.zi7
 zcl:MetOk K t.zak "told" "Walker.told" zfz ["self","level","name"] t.zlc t.zlg
 zd9:MetOk K t.zak "step" "Walker.step" zf4 ["self"] t.zlb t.zlf
 zd1:MetOk K t.zak "ask_for_level" "Walker.ask_for_level" zco ["self","level"] t.zex t.zey
 zd8:MetOk K t.zak "ask_for_name" "Walker.ask_for_name" zcx ["self","level","name"] t.zfh t.zfk
 zgk:MetOk K t.zak "names_at" "Walker.names_at" zdy ["self","level"] t.zhf t.zhj
 zgl:MetOk K t.zak "send_out" "Walker.send_out" zdx ["self","number"] t.zhg t.zhk
 zfp:MetOk K t.zak "put_field" "Walker.put_field" zdo ["self","record","name","number"] t.zgy t.zg1
 zer:MetOk K t.zak "make_record" "Walker.make_record" zc4 ["self"] t.zfu t.zfy
 zjz:IniOk K t.zbh "TextFrame.__init__" zd5 ["self","function","named"] t.zh9 t.zia
 zam:MetOk K t.zbh "value_of" "TextFrame.value_of" zc5 ["self","atom"] t.zfs t.zfv
 zgi:IniOk K t.zak "TextWalker.__init__" zdw ["self","program","args"] t.zhd t.zhh
 zcj:MetOk K t.zak "chain_of" "TextWalker.chain_of" zcr ["self","frame"] t.zff t.zfi
 zck:MetOk K t.zak "shown_at" "TextWalker.shown_at" zcs ["self","level"] t.zfg t.zfj
 zgj:MetOk K t.zak "tell" "TextWalker.tell" zdt ["self","level","name"] t.zhe t.zhi
 zeq:MetOk K t.zak "walk_on" "TextWalker.walk_on" za8 ["self"] t.zd2 t.zfx
 zdh:MetOk K t.zak "begin" "TextWalker.begin" zb3 ["self","function","args"] t.zes t.zgz
 zc8:MetOk K t.zak "row_of" "TextWalker.row_of" zda ["self","frame"] t.zgn t.zgq
 zb6:MetOk K t.zak "go_on" "TextWalker.go_on" zdn ["self","frame","way"] t.zgx t.zg0
 zep:MetOk K t.zak "go_back" "TextWalker.go_back" zc3 ["self","number"] t.zft t.zfw
 ze4:MetOk K t.zak "do_row" "TextWalker.do_row" zde ["self","frame","row"] t.zgm t.zgp
 zdk:MetOk K t.zak "value_given" "TextWalker.value_given" zb4 ["self","frame","row"] t.zee t.zef
 zfl:DefOk K mg "_law_cell_at" zhv ["_law_script","_law_k"] t.znw t.zn5
 zmv:DefOk K mg "_law_stream" zjj ["_law_cell","_law_many"] t.zo5 t.zpa
 zym:DefOk K mg "_law_names" ze9 ["_law_cell","_law_many"] t.znz t.zr2
 zjl:DefOk K mg "_law_value_by" zgw ["_law_number"] t.zme t.zmg
 zmh:DefOk K mg "_law_atom" zms ["_law_number","_law_names_here"] t.zul t.zun
 z5m:DefOk K mg "_law_row" zij ["_law_cell","_law_names_here","_law_mine","_law_arities"] t.ztg t.zyh
 zr7:DefOk K mg "_law_program" zdc ["_law_script","_law_names_here"] t.zkj t.zn8
 zyk:DefOk K mg "_law_atoms" zk6 ["_law_row_here"] t.zrw t.zrz
 zth:DefOk K mg "_law_frame" zgd ["_law_function","_law_args"] t.znx t.zr0
 zi9:DefOk K mg "_law_worth" zk2 ["_law_atom_here","_law_now"] t.zry t.zr5
 zyl:DefOk K mg "_law_moved" zei ["_law_stack","_law_program_here"] t.zny t.zr1
 zp5:DefOk K mg "_law_whole" zkv ["_law_found"] t.zrx t.zr4
 zlh:DefOk K mg "_law_no_name" zhw ["_law_walker","_law_level","_law_name"] t.zn0 t.zn6
 zr6:DefOk K mg "_law_no_step" zhu ["_law_walker"] t.zn1 t.zn7
 zuo:DefOk K mg "_law_stands" zec ["_law_walker","_law_stack","_law_names_here","_law_pick"] t.zlx t.zo9
 zp4:DefOk K mg "_law_absent" zf6 ["_law_walker","_law_depth","_law_names_here","_law_pick"] t.zlw t.zo8
 zyn:DefOk K mg "_law_tower" zd3 ["_law_names_here","_law_cell"] t.zn2 t.zr3
 law:DefOk K mg "law" zpp ["_law_script"] t.z3d t.z0m
 zb5:ClsOk K mg "Flows" t.za2
 zyf:ClsOk K mg "Walker" t.zum
 zae:ClsOk K mg "TextWalker" t.zak
 zav:ClsOk K mg "TextFrame" t.zbh
 zeg:zd0 K t.za2 "last"
 zcg:zd0 K t.za2 "number_of"
 zcf:zd0 K t.za2 "folded_of"
 zbw:zd0 K t.za2 "params_of"
 zcm:zd0 K t.za2 "rows_of"
 zbt:zd0 K t.za2 "names_in"
 zcn:zd0 K t.za2 "ways_in"
 za1:zd0 K t.zak "flows"
 zat:zd0 K t.zak "stack"
 zbi:zd0 K t.zak "outcome"
 zbc:zd0 K t.zak "sendings"
 zb1:zd0 K t.zak "contents"
 zb7:zd0 K t.zak "records"
 za9:zd0 K t.zbh "function"
 zbr:zd0 K t.zbh "row"
 za7:zd0 K t.zbh "named"
 zye:∃tk,mg "WIDE"=some (.int 281474976710656 tk)
 zoo:mg "GIVING_KINDS"=some (.ref t.zp2)
 z0n:∀H:Hp,SqT K H t.zp2 (K12.giving.map V.str)
 zp3:mg "ATOM_PLACES"=some (.ref t.z3c)
 z6y:z5z K t.z3c K12.tabl
 b_ValueError:mg "ValueError"=none
 b_len:mg "len"=none
 b_list:mg "list"=none
 b_tuple:mg "tuple"=none
 b_isinstance:mg "isinstance"=none
 b_range:mg "range"=none
 b_enumerate:mg "enumerate"=none
 b_dict:mg "dict"=none
 b_str:mg "str"=none
 b_min:mg "min"=none
 b_max:mg "max"=none
 b_int:mg "int"=none
 b_zip:mg "zip"=none
 b_bool:mg "bool"=none
 bl:∀(s:Shared) (u:Value),BindsTo s t.z0m ⟨[u],[]⟩ [("_law_script",u)]
section
variable {P:Program} {w:World} {K:W.Frag} {mg:Str->Option Value} {base:Heap} {t:Adr}
variable {n nk y:Str} {ns ps ss:List Str} {A l:List Addr} {i j m s:Nat} {fns:List F2.Fd} {F G:F2.Fd} {H H' H0 H1 Hb:Hp} {k1 k2 kvs:List (Key×V)} {o:HO} {a fo v:V} {its sent sv vals xs:List V} {x:Lf} {k:Key} {rgs:List RG} {rg:RG} {b fa il pl qC sk sl tr:Addr} {ar:List Nat} {z:Int} {ls ls0:List Lf} {RF:RFt} {fs:List Fm} {f g:Fm}
abbrev WA (t:Adr) (Hb H:Hp) (w:Wr) (fs:List Fm) (oc:V) (sent:List V) (cn:Cn):Prop:=WAt t.zak t.zbh Hb H w fs oc sent (.dT cn.kv) cn.rc
abbrev z0x (f:Fm):HO:=.tup [.str f.fn,.int f.row]
def zpn (K:W.Frag) (t:Adr):Sp:=λvs H Q _=>∃(x dx p:Addr) (fns:List F2.Fd),vs=[.ref x,.ref p]/\H x=some (.ins t.za2 dx [])/\SqL K (ers x H) p (fns.map λf=>V.ref f.fa)/\fns≠[]/\fns.length<=12/\(∀f∈fns,F2.FnAt K (ers x H) f)/\(fns.map (·.name)).Nodup /\
 ∀H',zaj (ers x H) H'->F2.FlowsAt K t.za2 H' x fns->Q .non H'
def zzq (K:W.Frag):Sp:=λvs H Q _=>∃(s:Str) (a b:Int),vs=[.str s,.int a,.int b]/\0<=a/\0<=b/\a<K21.wide/\b<K21.wide/\Q (.int (K21.valOf s a b)) H
def zoa (K:W.Frag) (t:Adr):Sp:=λvs H Q _=>∃(x dx p:Addr) (fns:List F2.Fd),vs=[.ref x,.ref p]/\H x=some (.ins t.zak dx [])/\SqL K (ers x H) p (fns.map λf=>V.ref f.fa)/\fns≠[]/\fns.length<=12/\(∀f∈fns,F2.FnAt K (ers x H) f)/\(fns.map (·.name)).Nodup /\
 ∀Hb w H',w.a=x->zaj (ers x H) Hb->WA t Hb H' w [] .non [] ⟨[],0⟩->F2.FlowsAt K t.za2 Hb w.fl fns->Q .non H'
def zmx (K:W.Frag) (t:Adr):Sp:=λvs H Q _=>∃(Hb:Hp) (w:Wr) (fs:List Fm) (oc:V) (sent:List V) (cn:Cn),vs=[.ref w.a]/\WA t Hb H w fs oc sent cn/\Q (.bl (decide (fs=[]))) H
def zmk (K:W.Frag) (t:Adr):Sp:=λvs H Q _=>∃(Hb:Hp) (w:Wr) (fs:List Fm) (oc:V) (sent:List V) (cn:Cn),vs=[.ref w.a]/\WA t Hb H w fs oc sent cn/\Q oc H
def zod (K:W.Frag) (t:Adr):Sp:=λvs H Q _=>∃(Hb:Hp) (w:Wr) (fs:List Fm) (oc:V) (sent:List V) (cn:Cn),vs=[.ref w.a]/\WA t Hb H w fs oc sent cn/\∀l,H l=none->Q (.ref l) (upd H l (.lst sent))
def zm3 (K:W.Frag) (t:Adr):Sp:=λ_ _ _ _=>False
def zj6 (K:W.Frag) (t:Adr):Sp:=λ_ _ _ _=>False
def zil (K:W.Frag) (t:Adr):Sp:=λ_ _ _ _=>False
def zmj (K:W.Frag) (t:Adr):Sp:=λvs H Q _=>∃(Hb:Hp) (w:Wr) (fs:List Fm) (oc:V) (sent:List V) (cn:Cn),vs=[.ref w.a]/\WA t Hb H w fs oc sent cn/\fs.length<=1000 /\
 ∀l H' (tps:List Addr),H l=none->zaj H H'->H' l=some (.lst (tps.map V.ref))->tps.length=fs.length->(∀(i:Nat) f tp,fs[i]?=some f->tps[i]?=some tp->H tp=none/\tp≠l/\H' tp=some (z0x f))->Q (.ref l) H'
def zhp (K:W.Frag) (t:Adr):Sp:=λvs H Q E=>∃(Hb:Hp) (w:Wr) (fs:List Fm) (oc:V) (sent:List V) (cn:Cn) (z:Int),vs=[.ref w.a,.int z]/\WA t Hb H w fs oc sent cn/\(0<=z/\z<(fs.length:Int)->∀H',zaj H H'->Q .non H')/\((z<0\/(fs.length:Int)<=z)->∀H',zaj H H'->E (.ref t.zby) none H')
def zkz (K:W.Frag) (t:Adr):Sp:=λvs H Q _=>∃(Hb:Hp) (w:Wr) (fs:List Fm) (oc:V) (sent:List V) (cn:Cn) (i:Nat) (f:Fm) (fns:List F2.Fd) (F:F2.Fd),vs=[.ref w.a,.int i]/\WA t Hb H w fs oc sent cn/\fs[i]?=some f/\F2.FlowsAt K t.za2 Hb w.fl fns/\F∈fns/\F.name=f.fn/\∀nl H',zaj H H'->SqL K H' nl ((F2.nms F).map V.str)->Q (.ref nl) H'
def zqa (fs:List Fm) (fns:List F2.Fd) (z:Int) (n:Str):Prop:=∃(i:Nat) (f:Fm) (F:F2.Fd),z=(i:Int)/\fs[i]?=some f/\F∈fns/\F.name=f.fn/\n∈F2.nms F
def zih (K:W.Frag) (t:Adr):Sp:=λvs H Q E=>∃(Hb:Hp) (w:Wr) (fs:List Fm) (oc:V) (sent:List V) (cn:Cn) (z:Int) (n:Str) (fns:List F2.Fd),vs=[.ref w.a,.int z,.str n]/\WA t Hb H w fs oc sent cn/\F2.FlowsAt K t.za2 Hb w.fl fns/\(∀f∈fs,∃F∈fns,F.name=f.fn)/\(zqa fs fns z n->∀H',zaj H H'->Q .non H')/\(¬ zqa fs fns z n->∀H',zaj H H'->E (.ref t.zby) none H')
def zk1 (K:W.Frag) (t:Adr):Sp:=λvs H Q _=>∃(Hb:Hp) (w:Wr) (fs:List Fm) (oc:V) (sent:List V) (cn:Cn) (v:V),vs=[.ref w.a,v]/\WA t Hb H w fs oc sent cn/\sent.length<1000000/\∀Hb' H' tp,zaj Hb Hb'->WA t Hb' H' w fs oc (sent++[v]) cn->Hb' tp=some (.tup [.str "out",v])->Q (.ref tp) H'
def zlo (K:W.Frag) (t:Adr):Sp:=λvs H Q _=>∃(x dx nd:Addr) (fn:Str),vs=[.ref x,.str fn,.ref nd]/\H x=some (.ins t.zbh dx [])/\Q .non (upd H x (.ins t.zbh dx (fF ⟨x,dx,nd,fn,0,[]⟩)))
def zis (K:W.Frag) (t:Adr):Sp:=λvs H Q _=>∃(f:Fm) (v y:V),vs=[.ref f.a,v]/\FrAt t.zbh H f/\av f.kvs v=some y/\Q y H
def zic (K:W.Frag) (t:Adr):Sp:=λvs H Q _=>∃(x:V) (f:Fm),vs=[x,.ref f.a]/\FrAt t.zbh H f/\∀tp l,H tp=none->H l=none->l≠tp->Q (.ref l) (upd (upd H tp (z0x f)) l (.lst [.ref tp]))
def zig (K:W.Frag) (t:Adr):Sp:=λvs H Q _=>∃(Hb:Hp) (w:Wr) (fs:List Fm) (oc:V) (sent:List V) (cn:Cn) (z:Int),vs=[.ref w.a,.int z]/\WA t Hb H w fs oc sent cn/\(∀(i:Nat) f,z=(i:Int)->fs[i]?=some f->∀tp H',H tp=none->zaj H H'->H' tp=some (z0x f)->Q (.ref tp) H')/\((z<0\/(fs.length:Int)<=z)->Q .non H)
def zk3 (K:W.Frag) (t:Adr):Sp:=λvs H Q _=>∃(Hb:Hp) (w:Wr) (fs:List Fm) (oc:V) (sent:List V) (cn:Cn) (i:Nat) (f:Fm) (n:Str) (v:V),vs=[.ref w.a,.int i,.str n]/\WA t Hb H w fs oc sent cn/\fs[i]?=some f/\zc9 f.kvs (Sum.inr n:Key)=some v/\Q v H
def zjo (K:W.Frag) (t:Adr):Sp:=λvs H Q _=>∃(Hb:Hp) (w:Wr) (fs:List Fm) (oc:V) (sent:List V) (cn:Cn) (f:Fm) (fns:List F2.Fd) (F:F2.Fd) (r:Rw),vs=[.ref w.a,.ref f.a]/\WA t Hb H w fs oc sent cn/\f∈fs/\F2.FlowsAt K t.za2 Hb w.fl fns/\F∈fns/\F.name=f.fn/\F.rs[f.row]?=some r/\Q (.ref r.r) H
def zj8 (K:W.Frag) (t:Adr):Sp:=λvs H Q _=>∃(Hb:Hp) (w:Wr) (fs:List Fm) (oc:V) (sent:List V) (cn:Cn) (f:Fm) (fns:List F2.Fd) (F:F2.Fd) (j r:Nat),vs=[.ref w.a,.ref f.a,.int j]/\WA t Hb H w (fs++[f]) oc sent cn/\F2.FlowsAt K t.za2 Hb w.fl fns/\F∈fns/\F.name=f.fn/\f.row<F.rs.length/\Way F f.row j r/\∀H',WA t Hb H' w (fs++[{ f with row:=r }]) oc sent cn->Q .non H'
def zj7 (F:F2.Fd) (vals:List V):List (Key×V):=(F.ps.zip vals).foldl (λd p=>zbx d (Sum.inr p.1:Key) p.2) (((F2.nms F).map λn=>((Sum.inr n:Key),V.int 0)).foldl (λacc kv=>zbx acc kv.1 kv.2) [])
def zj5 (K:W.Frag) (t:Adr):Sp:=λvs H Q _=>∃(Hb:Hp) (w:Wr) (fs:List Fm) (oc:V) (sent:List V) (cn:Cn) (fns:List F2.Fd) (F:F2.Fd) (ar:Addr) (vals:List V),vs=[.ref w.a,.str F.name,.ref ar]/\WA t Hb H w fs oc sent cn/\F2.FlowsAt K t.za2 Hb w.fl fns/\F∈fns/\SqL K Hb ar vals/\vals.length<=1000/\fs.length<=1000/\(F2.nms F).length<=1000/\F.ps.length<=1000 /\
 ∀Hb' H' f,zaj Hb Hb'->WA t Hb' H' w (fs++[f]) oc sent cn->f.fn=F.name->f.row=0->f.kvs=zj7 F vals->Q .non H'
def zkr (K:W.Frag) (t:Adr):Sp:=λvs H Q _=>∃(x dx p ar:Addr) (fns:List F2.Fd) (F:F2.Fd) (vals:List V),vs=[.ref x,.ref p,.ref ar]/\H x=some (.ins t.zak dx [])/\SqL K (ers x H) p (fns.map λf=>V.ref f.fa)/\fns≠[]/\fns.length<=12/\(∀f∈fns,F2.FnAt K (ers x H) f)/\(fns.map (·.name)).Nodup/\fns[fns.length - 1]?=some F/\SqL K (ers x H) ar vals/\vals.length<=1000/\(F2.nms F).length<=1000/\F.ps.length<=1000 /\
 ∀Hb w f H',w.a=x->zaj (ers x H) Hb->WA t Hb H' w [f] .non [] ⟨[],0⟩->F2.FlowsAt K t.za2 Hb w.fl fns->f.fn=F.name->f.row=0->f.kvs=zj7 F vals->Q .non H'
def zg4 (K:W.Frag) (t:Adr):Sp:=λvs H Q _=>∃(Hb:Hp) (w:Wr) (fs:List Fm) (oc:V) (sent:List V) (cn:Cn) (f:Fm) (r:Addr) (rg:RG) (x:Str) (v:V),vs=[.ref w.a,.ref f.a,.ref r]/\WA t Hb H w (fs++[f]) oc sent cn/\SqT K H r rg.items/\((∃x a,rg=.copy x a)\/(∃x s a b,rg=.op x s a b))/\rg.gives f.kvs cn=some (x,v)/\∀H',zaj H H'->Q v H'
def Done (t:Adr) (Hb:Hp) (w:Wr) (fs:List Fm) (f:Fm) (oc:V) (sent:List V) (cn:Cn) (Q:VK):RG->Prop
 | .out a=>∃v,av f.kvs a=some v/\∀Hb' H' tp,zaj Hb Hb'->WA t Hb' H' w (fs++[f]) oc (sent++[v]) cn->Hb' tp=some (.tup [.str "out",v])->Q (.ref tp) H'
 | .copy x a=>∃y v,(RG.copy x a).gives f.kvs cn=some (y,v)/\∀Hb' H',zaj Hb Hb'->WA t Hb' H' w (fs++[{ f with kvs:=zbx f.kvs (Sum.inr y:Key) v }]) oc sent cn->Q .non H'
 | .op x s a b=>∃y v,(RG.op x s a b).gives f.kvs cn=some (y,v)/\∀Hb' H',zaj Hb Hb'->WA t Hb' H' w (fs++[{ f with kvs:=zbx f.kvs (Sum.inr y:Key) v }]) oc sent cn->Q .non H'
 | _=>False
def zjn (K:W.Frag) (t:Adr):Sp:=λvs H Q _=>∃(Hb:Hp) (w:Wr) (fs:List Fm) (oc:V) (sent:List V) (cn:Cn) (f:Fm) (r:Addr) (rg:RG),vs=[.ref w.a,.ref f.a,.ref r]/\WA t Hb H w (fs++[f]) oc sent cn/\SqT K Hb r rg.items/\sent.length<1000000/\f.kvs.length<1000000/\Done t Hb w fs f oc sent cn Q rg
def z3q (K:W.Frag) (t:Adr) (Hb:Hp) (w:Wr) (fs:List Fm) (oc:V) (sent:List V) (cn:Cn) (v:V) (Q:VK):Prop:=(fs=[]/\∀H',WA t Hb H' w [] v sent cn->Q .non H')\/∃(fs0:List Fm) (g:Fm) (fns:List F2.Fd) (G:F2.Fd) (rw:Rw) (its:List V) (x:Str) (r:Nat),fs=fs0++[g]/\F2.FlowsAt K t.za2 Hb w.fl fns/\G∈fns/\G.name=g.fn/\G.rs[g.row]?=some rw/\SqT K Hb rw.r its/\its[1]?=some (.str x)/\Way G g.row 0 r/\g.kvs.length<1000000/\∀H',WA t Hb H' w (fs0++[{ g with kvs:=zbx g.kvs (Sum.inr x:Key) v,row:=r }]) oc sent cn->Q .non H'
def zim (K:W.Frag) (t:Adr):Sp:=λvs H Q _=>∃(Hb:Hp) (w:Wr) (fs:List Fm) (oc:V) (sent:List V) (cn:Cn) (f:Fm) (v:V),vs=[.ref w.a,v]/\WA t Hb H w (fs++[f]) oc sent cn/\z3q K t Hb w fs oc sent cn v Q
def z48 (K:W.Frag) (t:Adr) (Hb:Hp) (w:Wr) (fs:List Fm) (f:Fm) (sent:List V) (cn:Cn) (fns:List F2.Fd) (F:F2.Fd) (Q:VK):RG->Prop
 | .back a=>∃v,av f.kvs a=some v/\z3q K t Hb w fs .non sent cn v Q
 | .out a=>∃r,Way F f.row 0 r/\∃v,av f.kvs a=some v/\∀Hb' H' tp,zaj Hb Hb'->WA t Hb' H' w (fs++[{ f with row:=r }]) .non (sent++[v]) cn->Hb' tp=some (.tup [.str "out",v])->Q (.ref tp) H'
 | .copy x a=>∃r,Way F f.row 0 r/\∃y v,(RG.copy x a).gives f.kvs cn=some (y,v)/\∀Hb' H',zaj Hb Hb'->WA t Hb' H' w (fs++[{ f with kvs:=zbx f.kvs (Sum.inr y:Key) v,row:=r }]) .non sent cn->Q .non H'
 | .op x s a b=>∃r,Way F f.row 0 r/\∃y v,(RG.op x s a b).gives f.kvs cn=some (y,v)/\∀Hb' H',zaj Hb Hb'->WA t Hb' H' w (fs++[{ f with kvs:=zbx f.kvs (Sum.inr y:Key) v,row:=r }]) .non sent cn->Q .non H'
 | .call x g p as=>∃(G:F2.Fd) (vals:List V),G∈fns/\G.name=g/\SqT K Hb p as/\as.length=vals.length/\(∀(i:Nat) a v,as[i]?=some a->vals[i]?=some v->av f.kvs a=some v)/\as.length<=100/\fs.length<=900/\(F2.nms G).length<=1000/\G.ps.length<=1000/\∀Hb' H' f',zaj Hb Hb'->WA t Hb' H' w (fs++[f]++[f']) .non sent cn->f'.fn=G.name->f'.row=0->f'.kvs=zj7 G vals->Q .non H'
 | _=>False
def zfc (K:W.Frag) (t:Adr):Sp:=λvs H Q _=>∃(Hb:Hp) (w:Wr) (fs:List Fm) (f:Fm) (sent:List V) (cn:Cn) (fns:List F2.Fd) (F:F2.Fd) (r:Rw) (rg:RG),vs=[.ref w.a]/\WA t Hb H w (fs++[f]) .non sent cn/\F2.FlowsAt K t.za2 Hb w.fl fns/\F∈fns/\F.name=f.fn/\F.rs[f.row]?=some r/\SqT K Hb r.r rg.items/\sent.length<1000000/\f.kvs.length<1000000/\z48 K t Hb w fs f sent cn fns F Q rg
def zog (K:W.Frag) (t:Adr):Sp:=λvs H Q E=>∃(Hb:Hp) (w:Wr) (fs:List Fm) (oc:V) (sent:List V) (cn:Cn) (z:Int) (n:Str) (fns:List F2.Fd),vs=[.ref w.a,.int z,.str n]/\WA t Hb H w fs oc sent cn/\F2.FlowsAt K t.za2 Hb w.fl fns/\(∀f∈fs,∃F∈fns,F.name=f.fn)/\(zqa fs fns z n->∃(i:Nat) (f:Fm) (v:V),z=(i:Int)/\fs[i]?=some f/\zc9 f.kvs (Sum.inr n:Key)=some v/\∀H',zaj H H'->Q v H')/\(¬ zqa fs fns z n->∀H',zaj H H'->E (.ref t.zby) none H')
def zoi (K:W.Frag) (t:Adr):Sp:=λvs H Q E=>∃(x:Addr),vs=[.ref x]/\(zfc K t [.ref x] H Q E\/∃(Hb:Hp) (w:Wr) (oc:V) (sent:List V) (cn:Cn),w.a=x/\WA t Hb H w [] oc sent cn/\∀H',zaj H H'->E (.ref t.zdl) none H')
theorem zbg {n:Nat} (h:n<1000000):n<sizeLine:=by
 have:(1000000:Nat)<sizeLine:=by decide
 omega
theorem put1 (f:Str) (v:V):(zk4 f v []).length<1000:=by show 1<1000; decide
theorem put2 (f g:Str) (v u:V):(zk4 g u (zk4 f v [])).length<1000:=by have:=ze2 g u (zk4 f v []);have:=ze2 f v [];simp at *;omega
theorem zsf (f:Str) (v:V) (l:List (Str×V)) (n:Nat) (h:l.length<=n):(zk4 f v l).length<=n+1:=Nat.le_trans (ze2 f v l) (by omega)
theorem zzz (ss:List Str):(ss.map V.str).all zoh=true:=by rw[qdw];intro v hv;obtain⟨s,_,rfl⟩:=List.mem_map.mp hv;rfl
theorem zy0 (h:n∈ss):(if true=true then !inV (.str n) (ss.map V.str) else inV (.str n) (ss.map V.str))=false:=by
 have:inV (.str n) (ss.map V.str)=true:=by unfold inV;rw[qcc];exact⟨.str n,List.mem_map.mpr ⟨n,h,rfl⟩,by show(n==n)=true; simp⟩
 rw[this];rfl
theorem z2q {l:List Nat} {r:Nat} (h:l[j]?=some r):atI (K13.natsV l) (j:Int)=some (.int r):=zc7 (by unfold K13.natsV; rw[List.getElem?_map,h]; rfl)
theorem ztk (fs:List Fm) (f:Fm):atI ((fs++[f]).map λf=>V.ref f.a) (-1)=some (.ref f.a):=by rw[List.map_append];exact zmo _ _
theorem zxj (n:Int):z5q n 3:=by unfold z5q; decide
theorem zk7 (n j:Int) (h:0<j/\j<1073741824):z5q n j:=h
theorem zv1 (h:n ∉ ss):(if true=true then !inV (.str n) (ss.map V.str) else inV (.str n) (ss.map V.str))=true:=by
 have:inV (.str n) (ss.map V.str)=false:=by
   unfold inV;rw[Bool.eq_false_iff];intro z;rw[qcc] at z;obtain⟨v,hv,e⟩:=z;obtain⟨s,hs,rfl⟩:=List.mem_map.mp hv;have e:(n==s)=true\/(s==n)=true:=by first|exact .inl e|exact .inr e
   have:s=n:=e.elim (λz=>(eq_of_beq z).symm) eq_of_beq;rw[this] at hs;exact h hs
 rw[this];rfl
theorem z1w (nd:(fns.map (·.name)).Nodup) (hF:F∈fns) (hG:G∈fns) (h:F.name=G.name):F=G:=by
 obtain⟨i,hi⟩:=qax hF;obtain⟨j,hj⟩:=qax hG;have h1:(fns.map (·.name))[i]?=some F.name:=by rw[List.getElem?_map,hi]; rfl
 have h2:(fns.map (·.name))[j]?=some F.name:=by rw[List.getElem?_map,hj,h]; rfl
 have:=(qb9 (List.getElem?_eq_some_iff.mp h1).1 nd).mp (h1.trans h2.symm);rw[this,hj] at hi;exact(Option.some.inj hi).symm
def zrk (K:W.Frag):Sp:=λvs H Q _=>∃(a:Addr) (ns:List Int) (k:Int),vs=[.ref a,.int k]/\SqL K H a (ns.map V.int)/\ns.length<=63/\0<=k/\∀z,Q (.int z) H
def zss (K:W.Frag):Sp:=λvs H Q _=>∃(c:Int) (m:Nat),vs=[.int c,.int m]/\m<=100/\∀l H' (ns:List Int),H l=none->zaj H H'->H' l=some (.lst (ns.map V.int))->ns.length=m->(∀n∈ns,0<=n/\n<2147483647)->Q (.ref l) H'
def Val (i:Int):Prop:=0<=i/\i<K21.wide
def zps (K:W.Frag):Sp:=λvs H Q _=>∃(n:Int),vs=[.int n]/\∀v,Val v->Q (.int v) H
def zg9 (ns:List Str) (v:V):Prop:=(∃i,v=.int i/\Val i)\/∃s,v=.str s/\s∈ns
def zv5 (K:W.Frag):Sp:=λvs H Q _=>∃(n:Int) (a:Addr) (ns:List Str),vs=[.int n,.ref a]/\SqL K H a (ns.map V.str)/\0<ns.length/\∀v,zg9 ns v->Q v H
def zu6 (K:W.Frag):Sp:=λvs H Q _=>∃(v y:V) (d:Addr) (kvs:List (Key×V)),vs=[v,.ref d]/\H d=some (.dK kvs)/\av kvs v=some y/\Q y H
def Let (cs:List Nat):Prop:=∀c∈cs,97<=c/\c<=122
structure NmsOk (ns:List Str):Prop where
 nd:ns.Nodup
 ok:∀n∈ns,∃cs,n=tx cs/\Let cs/\0<cs.length/\cs.length<=13
def zvn (K:W.Frag):Sp:=λvs H Q _=>∃(c:Int) (m:Nat),vs=[.int c,.int m]/\m<=12/\∀l H' ns,H l=none->zaj H H'->H' l=some (.lst (ns.map V.str))->ns.length=m->NmsOk ns->Q (.ref l) H'
theorem zxv (xs:List V):zjr xs (some 1) none=xs.drop 1:=by
 unfold zjr HT.sIx;simp only;rw[if_neg (by decide)];by_cases h:1<=xs.length
 . rw[show min (1:Int).toNat xs.length=1 by omega];rw[qbh (by rw[qbr]; omega)]
 . rw[show min (1:Int).toNat xs.length=xs.length by omega];rw[qcr (qae _),qcr (by omega)];simp
def zov:List Str:=["fn","in","new","get","put","call","out","if","while","else","end","back"]
def WN:List (List Nat):=zov.map λw=>w.cps.toList
theorem inW (l:List Nat):inV (.str (tx l)) (zov.map V.str)=decide (l∈WN):=by
 rw[qbz,decide_eq_true_eq];unfold inV WN;rw[qcc];constructor
 . rintro ⟨v,hv,e⟩;obtain⟨w,hw,rfl⟩:=List.mem_map.mp hv;have e:(tx l==w)=true\/(w==tx l)=true:=by first|exact .inl e|exact .inr e
   have:w=tx l:=e.elim (λz=>(eq_of_beq z).symm) eq_of_beq;exact List.mem_map.mpr ⟨w,hw,by rw[this,zkp]⟩
 . intro h;obtain⟨w,hw,e⟩:=List.mem_map.mp h;have:tx l=w:=K14.str_ext (by rw[zkp,e]);refine⟨.str w,List.mem_map.mpr ⟨w,hw,rfl⟩,?_⟩;rw[this];show(w==w)=true;simp
theorem zw2 (h:zg9 ns v) (hn:∀s∈ns,K12.Nm s):K12.Atom v:=by
 rcases h with⟨i,rfl,_⟩|⟨s,rfl,hs⟩
 . exact .inr ⟨i,rfl⟩
 . exact .inl ⟨s,rfl,hn s hs⟩
theorem ztr (h:NmsOk ns):∀s∈ns,K12.Nm s:=λs hs=>by
 obtain⟨cs,rfl,hl,h0,h9⟩:=h.ok s hs;refine⟨by rw[zk8]; omega,?_⟩;unfold PyData.strOk;rw[Array.all_eq_true'];intro x hx;have hx:x∈cs:=by
   have:x∈(tx cs).cps.toList:=by simpa using hx
   rwa [zkp] at this
 have:=hl x hx;simp;omega
theorem zxk {lo hi:Option Int} (h:v∈zjr xs lo hi):v∈xs:=qcu (qb8 h)
theorem z2h (xs:List V) (lo hi:Option Int):(zjr xs lo hi).length<=xs.length:=by unfold zjr;rw[qay,qbr];omega
theorem zud (ss:List Str) (M:Nat) (h:M<=ss.length):zjr (ss.map V.str) none (some (M:Int))=(ss.take M).map V.str:=by unfold zjr;rw[HT.sIx_none,show HT.sIx (ss.map V.str).length (ss.map V.str).length (some (M:Int))=min M (ss.map V.str).length from HT.sIx_nat _ _ M,List.length_map,qdi,Nat.sub_zero,qcp h,List.map_take]
theorem zqs {x dx:Addr} {o1 o2:HO} (hx:H x=none) (hdx:H dx=none):zaj H (ers x (upd (upd H dx o1) x o2)):=λb o hb=>by
 have n1:b≠x:=λz=>by rw[z,hx] at hb; cases hb
 have n2:b≠dx:=λz=>by rw[z,hdx] at hb; cases hb
 rw[zcu n1,zag n1,zag n2];exact hb
theorem zsh {kv:Key×V} (h:kv∈zbx kvs k v):kv=(k,v)\/(kv∈kvs/\kv.1≠k):=by
 unfold zbx at h;split at h
 . obtain⟨u,hu,e⟩:=List.mem_map.mp h;by_cases z:u.1=k
   . rw[if_pos z] at e;exact .inl (by rw[<- e,z])
   . rw[if_neg z] at e;subst e;exact .inr ⟨hu,z⟩
 . rename_i hn
   rcases List.mem_append.mp h with h|h
   . refine .inr ⟨h,λz=>hn ?_⟩;rw[qcc];exact⟨kv,h,decide_eq_true z⟩
   . exact .inl (List.mem_singleton.mp h)
def Kd:RG->Prop
 | .out _=>True
 | .copy _ _=>True
 | .op _ _ _ _=>True
 | .call _ _ _ _=>True
 | .back _=>True
 | _=>False
def zyy (ns:List Str) (ar:List Nat):RG->Prop
 | .out a=>zg9 (ns.take 6) a
 | .back a=>zg9 (ns.take 6) a
 | .copy x a=>x∈ns.take 6/\zg9 (ns.take 6) a
 | .op x s a b=>x∈ns.take 6/\s="+"/\zg9 (ns.take 6) a/\zg9 (ns.take 6) b
 | .call x g _ as=>x∈ns.take 6/\(∃j,j<3/\ns[6+j]?=some g/\ar[j]?=some as.length)/\as.length<=6/\∀v∈as,zg9 (ns.take 6) v
 | _=>False
theorem z2b {n:Nat} (k:Nat) (h:k+n<=xs.length):(zjr xs (some (k:Int)) (some ((k:Int)+(n:Int)))).length=n:=by unfold zjr;rw[show((k:Int)+(n:Int))=((k+n:Nat):Int) by omega,HT.sIx_nat,HT.sIx_nat,qay,qbr];omega
theorem zws {a:Nat} (h:s+a<=ns.length):zjr (ns.map V.str) (some (s:Int)) (some ((s:Int)+(a:Int)))=((ns.take (s+a)).drop s).map V.str:=by unfold zjr;rw[show((s:Int)+(a:Int))=((s+a:Nat):Int) by omega,HT.sIx_nat,HT.sIx_nat,List.length_map,qcp (by omega),qcp (by omega),List.map_drop,List.map_take,List.drop_take]
theorem zzi {a:Nat} (h:s+a<=6) {x:Str} (hx:x∈(ns.take (s+a)).drop s):x∈ns.take 6:=by have:=qcu hx;rw[show s+a=min (s+a) 6 by omega,<- List.take_take] at this;exact qb8 this
def zwo (ar:List Nat):List V:=ar.map λn:Nat=>V.int n
def zz4 (K:W.Frag):Sp:=λvs H Q _=>∃(c:Int) (nl al:Addr) (mine:Nat) (ns:List Str) (ar:List Nat),vs=[.int c,.ref nl,.int mine,.ref al]/\SqL K H nl (ns.map V.str)/\ns.length=12/\SqL K H al (zwo ar)/\ar.length=3/\(∀a∈ar,a<=6)/\mine<3/\∀tp H' rg,H tp=none->zaj H H'->RGAt K H' tp rg->zyy ns ar rg->Q (.ref tp) H'
structure Fg (K:W.Frag) (H:Hp) (F:F2.Fd) (rgs:List RG):Prop where
 at_:F2.FnAt K H F
 len:F.rs.length=rgs.length
 row:∀(k:Nat) rw rg,F.rs[k]?=some rw->rgs[k]?=some rg->RGAt K H rw.r rg
 nm:∀x,x∈F2.nms F <-> x∈F.ps\/x∈zt9 rgs
 nl:(F2.nms F).length<=900
 pl:F.ps.length<=6
 way:∀(k:Nat) rg,rgs[k]?=some rg->(∀a,rg≠.back a)->Way F k 0 (k+1)/\k+1<rgs.length
 kd:∀rg∈rgs,Kd rg
 vl:∀rg∈rgs,∀v∈rg.parts,(∃i,v=.int i/\Val i)\/∃n,v=.str n
 small:rgs.length<=100
 sn:PyData.strOk F.name=true
 ok:∀rg∈rgs,rg.Ok
theorem Fg.mono (h:Fg K H F rgs) (e:zaj H H'):Fg K H' F rgs:=⟨h.at_.mono e,h.len,λk rw rg h1 h2=>(h.row k rw rg h1 h2).mono e,h.nm,h.nl,h.pl,h.way,h.kd,h.vl,h.small,h.sn,h.ok⟩
theorem Fg.atom (h:Fg K H F rgs) (hr:rg∈rgs) (hv:v∈rg.parts):(∃i,v=.int i/\Val i)\/∃n,v=.str n/\n∈F2.nms F:=by
 rcases h.vl rg hr v hv with h1|⟨n,rfl⟩
 . exact .inl h1
 . refine .inr ⟨n,rfl,(h.nm n).mpr (.inr ?_)⟩;unfold zt9;rw[qc5];exact⟨rg,hr,z5s.mpr hv⟩
theorem z6u {rs:List Addr} {pre:List RG} (hl:rs.length=(pre++[RG.back a]).length) (h1:SqT K H fa [.str nk,fo,.ref qC,.ref tr]) (h2:SqT K H tr (rs.map V.ref)) (h3:∀(i:Nat) r rg,rs[i]?=some r->(pre++[RG.back a])[i]?=some rg->RGAt K H r rg) (h4:SqT K H qC (ps.map V.str)) (h5:∀s∈ps,K12.Nm s) (h6:ps.length<=6) (h7:pre.length<=70)
   (kd:∀rg∈pre,Kd rg) (ok:∀rg∈pre++[RG.back a],rg.Ok) (vl:∀rg∈pre++[RG.back a],∀v∈rg.parts,(∃i,v=.int i/\Val i)\/∃n,v=.str n) (nl:ps.length+11 * (pre.length+1)<=900) (sn:PyData.strOk nk=true):Fg K H (gfn nk fo fa qC tr ps rs (pre++[RG.back a])) (pre++[RG.back a]):=by
 have pl:∀rg∈pre,Pl rg:=λrg hr=>by have:=kd rg hr;cases rg <;> first|exact this.elim|exact⟨(λ_ z=>by cases z),(λ_ z=>by cases z)⟩
 have plb:Pl (RG.back a):=⟨(λ_ z=>by cases z),(λ_ z=>by cases z)⟩
 have plA:∀(k:Nat) rg,(pre++[RG.back a])[k]?=some rg->Pl rg:=λk rg h=>by
   rcases List.mem_append.mp (List.mem_of_getElem? h) with h|h
   . exact pl rg h
   . rw[List.mem_singleton.mp h]; exact plb
 have ln:(pre++[RG.back a]).length=pre.length+1:=by rw[List.length_append]; rfl
 refine⟨z4u hl h1 h2 (λi r rg q1 q2=>⟨h3 i r rg q1 q2,ok rg (List.mem_of_getElem? q2)⟩) h4 h5 (by omega) (by omega) (gwf a pl),z2i hl,λk rw rg q1 q2=>?_,λx=>z1l hl,Nat.le_trans (zyt hl ok) (by rw[ln]; exact nl),h6,λk rg q1 q2=>?_,λrg hr=>?_,vl,by omega,sn,ok⟩
 . obtain⟨w2,e1,e2⟩:=z2t (nk:=nk) (fo:=fo) (fa:=fa) (qC:=qC) (tr:=tr) (ps:=ps) hl q2;rw[q1] at e1;cases e1;exact h3 k _ rg e2 q2
 . have hk:k<pre.length:=by
     have:=(List.getElem?_eq_some_iff.mp q1).1;rcases qa7 k pre.length with h|h
     . exact h
     . have:k=pre.length:=by omega
       rw[this,qbm (qae _),Nat.sub_self] at q1;cases q1;exact absurd rfl (q2 a)
   exact⟨z2m hl (by omega) q1 q2 (plA k rg q1) (λr h=>plA _ r h),by omega⟩
 . rcases List.mem_append.mp hr with h|h
   . exact kd rg h
   . rw[List.mem_singleton.mp h]; trivial
theorem zxt {K:W.Frag}:∀{vs:List V},(∀(i:Nat) v,vs[i]?=some v->∃tp rg,v=.ref tp/\RGAt K H tp rg/\zyy ns ar rg)->∃ps:List (Addr×RG),vs=(ps.map (·.1)).map V.ref/\∀p∈ps,RGAt K H p.1 p.2/\zyy ns ar p.2
 | [],_=>⟨[],rfl,(λrv h=>by cases h)⟩
 | v :: vs,h=>by
   obtain⟨tp,rg,rfl,h1,h2⟩:=h 0 v rfl;obtain⟨ps,rfl,h3⟩:=zxt (vs:=vs) λi u hu=>h (i+1) u (by simpa using hu);refine⟨(tp,rg) :: ps,rfl,λp hp=>?_⟩;rcases List.mem_cons.mp hp with rfl|hp
   . exact⟨h1,h2⟩
   . exact h3 p hp
theorem nm6 (h:6<=ns.length) (z:Int):∃y,atI (ns.map V.str) (z%6)=some (.str y)/\y∈ns.take 6:=by
 have b5:=zbz z 6 (by decide);have hi:(z%6).toNat<ns.length:=by omega
 refine⟨ns[(z%6).toNat],zi0 b5.1 (List.getElem?_eq_getElem hi),?_⟩;have:(ns.take 6)[(z%6).toNat]?=some ns[(z%6).toNat]:=by rw[qbp (by omega)]; exact List.getElem?_eq_getElem hi
 exact List.mem_of_getElem? this
theorem znm (hi:H il=some (.lst xs)) (h:SqT K H b its):SqT K (ers il H) b its:=by
 rcases h with(h|⟨o,h⟩)|h
 . exact .inl (.inl (by rw[zcu (λz=>by rw[z,hi] at h; cases h)]; exact h))
 . exact .inl (.inr ⟨o,by rw[zcu (λz=>by rw[z,hi] at h; cases h)]; exact h⟩)
 . exact .inr h
theorem RGAt.ers {r:Addr} (hi:H il=some (.lst xs)) (h:RGAt K H r rg):RGAt K (L2.ers il H) r rg:=⟨znm hi h.it,λx g p as z=>znm hi (h.ar x g p as z)⟩
structure RowFit (rg:RG):Prop where
 kd:Kd rg
 ok:rg.Ok
 vl:∀v∈rg.parts,(∃i,v=.int i/\Val i)\/∃n,v=.str n
theorem zwx (h:zg9 ns v):(∃i,v=.int i/\Val i)\/∃n,v=.str n:=by
 rcases h with h|⟨s,rfl,_⟩
 . exact .inl h
 . exact .inr ⟨s,rfl⟩
theorem z04:∀{rg:RG},zyy ns ar rg->∀v∈rg.parts,zg9 (ns.take 6) v
 | .out a,h,v,hv=>by rw[show v=a by simpa [RG.parts,RG.gx,RG.as] using hv]; exact h
 | .back a,h,v,hv=>by rw[show v=a by simpa [RG.parts,RG.gx,RG.as] using hv]; exact h
 | .copy x a,h,v,hv=>by
   rcases (show v=.str x\/v=a by simpa [RG.parts,RG.gx,RG.as] using hv) with rfl|rfl
   . exact .inr ⟨x,rfl,h.1⟩
   . exact h.2
 | .op x s a b,h,v,hv=>by
   rcases (show v=.str x\/v=a\/v=b by simpa [RG.parts,RG.gx,RG.as] using hv) with rfl|rfl|rfl
   . exact .inr ⟨x,rfl,h.1⟩
   . exact h.2.2.1
   . exact h.2.2.2
 | .call x g p as,h,v,hv=>by
   rcases (show v=.str x\/v∈as by simpa [RG.parts,RG.gx,RG.as] using hv) with rfl|hv
   . exact .inr ⟨x,rfl,h.1⟩
   . exact h.2.2.2 v hv
theorem zsp (nm:∀s∈ns,K12.Nm s) (h:zyy ns ar rg):RowFit rg:=by
 have pt:=z04 h;have nT:∀s∈ns.take 6,K12.Nm s:=λs hs=>nm s (qb8 hs);refine⟨?_,⟨λv hv=>zw2 (pt v hv) nT,λx s a b z=>?_,⟨λx a f z=>?_,λa f b z=>?_⟩,λx g p as z=>?_⟩,λv hv=>zwx (pt v hv)⟩
 . cases rg <;> first|trivial|exact h.elim
 . subst z; rw[h.2.1]; decide +kernel
 . subst z; exact h.elim
 . subst z; exact h.elim
 . subst z;obtain⟨_,⟨j,_,h2,_⟩,h3,_⟩:=h;exact⟨(nm g (List.mem_of_getElem? h2)).2,by omega⟩
theorem z5k (nm:∀s∈ns,K12.Nm s) {bk:Addr} {prs:List Str} {ps:List (Addr×RG)} (h1:SqT K H fa [.str nk,fo,.ref qC,.ref tr]) (h2:SqT K H tr (((ps++[(bk,RG.back a)]).map (·.1)).map V.ref)) (h3:∀p∈ps,RGAt K H p.1 p.2/\RowFit p.2) (hb:H bk=some (.tup [.str "back",a])) (ha:zg9 ns a) (h4:SqT K H qC (prs.map V.str)) (h5:∀s∈prs,K12.Nm s) (h6:prs.length<=6) (h7:ps.length<=70) (sn:PyData.strOk nk=true):Fg K H (gfn nk fo fa qC tr prs ((ps++[(bk,RG.back a)]).map (·.1)) (ps.map (·.2)++[RG.back a])) (ps.map (·.2)++[RG.back a]):=by
 have bko:(RG.back a).Ok:=⟨λv hv=>by rw[show v=a by simpa [RG.parts,RG.gx,RG.as] using hv]; exact zw2 ha nm,(λ_ _ _ _ z=>by cases z),⟨(λ_ _ _ z=>by cases z),(λ_ _ _ z=>by cases z)⟩,(λ_ _ _ _ z=>by cases z)⟩
 have el:ps.map (·.2)++[RG.back a]=(ps++[(bk,RG.back a)]).map (·.2):=by rw[List.map_append]; rfl
 refine z6u (by simp) h1 h2 (λi r rg q1 q2=>?_) h4 h5 h6 (by rw[List.length_map]; exact h7) (λrg hr=>?_) (λrg hr=>?_) (λrg hr v hv=>?_) (by rw[List.length_map]; omega) sn
 . rw[el] at q2;rw[List.getElem?_map] at q1 q2;cases e:(ps++[(bk,RG.back a)])[i]? with
   | none=>rw[e] at q1; cases q1
   | some p =>
     rw[e] at q1 q2;cases q1;cases q2;rcases List.mem_append.mp (List.mem_of_getElem? e) with h|h
     . exact(h3 p h).1
     . rw[List.mem_singleton.mp h];exact⟨SqT.of hb,λ_ _ _ _ z=>by cases z⟩
 . obtain⟨p,hp,rfl⟩:=List.mem_map.mp hr;exact(h3 p hp).2.kd
 . rcases List.mem_append.mp hr with h|h
   . obtain⟨p,hp,rfl⟩:=List.mem_map.mp h;exact(h3 p hp).2.ok
   . rw[List.mem_singleton.mp h]; exact bko
 . rcases List.mem_append.mp hr with h|h
   . obtain⟨p,hp,rfl⟩:=List.mem_map.mp h;exact(h3 p hp).2.vl v hv
   . rw[List.mem_singleton.mp h] at hv;rw[show v=a by simpa [RG.parts,RG.gx,RG.as] using hv];exact zwx ha
def Cl (ns:List Str) (ar:List Nat) (rg:RG):Prop:=(∀x g p as,rg=.call x g p as->∃j,j<3/\ns[6+j]?=some g/\ar[j]?=some as.length)/\∀x s a b,rg=.op x s a b->s="+"
theorem z5t (h:zyy ns ar rg):Cl ns ar rg:=⟨λx g p as z=>by subst z; exact h.2.1,λx s a b z=>by subst z; exact h.2.1⟩
structure POk (K:W.Frag) (H:Hp) (ns:List Str) (ar:List Nat) (i:Nat) (p:F2.Fd×List RG):Prop where
 fg:Fg K H p.1 p.2
 nm:ns[6+i]?=some p.1.name
 pl:ar[i]?=some p.1.ps.length
 l0:0<p.2.length
 cl:∀rg∈p.2,Cl ns ar rg
 nT:∀n∈F2.nms p.1,n∈ns.take 6
theorem POk.mono {p:F2.Fd×List RG} (h:POk K H ns ar i p) (e:zaj H H'):POk K H' ns ar i p:=⟨h.fg.mono e,h.nm,h.pl,h.l0,h.cl,h.nT⟩
abbrev fas (ps:List (F2.Fd×List RG)):List V:=ps.map λp=>V.ref p.1.fa
structure Prg (K:W.Frag) (H:Hp) (pl:Addr) (ps:List (F2.Fd×List RG)) (ns:List Str) (ar:List Nat):Prop where
 e:H pl=some (.lst (fas ps))
 len:ps.length=3
 ok:∀(i:Nat) p,ps[i]?=some p->POk K H ns ar i p
theorem Prg.mono {ps:List (F2.Fd×List RG)} (h:Prg K H pl ps ns ar) (e:zaj H H'):Prg K H' pl ps ns ar:=⟨e _ _ h.e,h.len,λi p hp=>(h.ok i p hp).mono e⟩
def zrb (K:W.Frag):Sp:=λvs H Q _=>∃(a nl:Addr) (sc:List Int) (ns:List Str),vs=[.ref a,.ref nl]/\SqL K H a (sc.map V.int)/\sc.length<=63/\SqL K H nl (ns.map V.str)/\ns.length=12/\NmsOk ns/\∀pl H' ps ar,H pl=none->zaj H H'->Prg K H' pl ps ns ar->ar[2]?=some 1->Q (.ref pl) H'
def zvf (K:W.Frag):Sp:=λvs H Q _=>∃(r:Addr) (rg:RG),vs=[.ref r]/\RGAt K H r rg/\rg.Ok/\Kd rg/\∀l H',H l=none->zaj H H'->H' l=some (.lst rg.parts)->Q (.ref l) H'
def zve (K:W.Frag):Sp:=λvs H Q _=>∃(z:Int),vs=[.int z]/\Q (.bl true) H
structure Alk (F:F2.Fd) (k1 k2:List (Key×V)):Prop where
 v:∀n∈F2.nms F,∃i,Val i/\zc9 k1 (Sum.inr n:Key)=some (.int i)/\zc9 k2 (Sum.inr n:Key)=some (.int i)
 k:∀kv∈k2,∃n,kv.1=(Sum.inr n:Key)/\n∈F2.nms F
 l:k1.length<=2000/\k2.length<=2000
def zli (d:List (Key×V)) (v:V):List (Key×V):=match v with
 | .str s=>zbx d (Sum.inr s:Key) (.int 0)
 | _=>d
def z3g (rgs:List RG) (ps:List Str) (vals:List V):List (Key×V):=(ps.zip vals).foldl (λd p=>zbx d (Sum.inr p.1:Key) p.2) (rgs.foldl (λd rg=>(RG.parts rg).foldl zli d) [])
theorem z0d (d:List (Key×V)) (v:V):(zli d v).length<=d.length+1:=by
 unfold zli;split
 . exact zbq _ _ _
 . omega
theorem zna:∀(vs:List V) (d:List (Key×V)),(vs.foldl zli d).length<=d.length+vs.length
 | [],d=>by simp
 | v :: vs,d=>by rw[qa6,qa8];have h1:=zna vs (zli d v);have h2:=z0d d v;omega
theorem zmq:∀(rgs:List RG) (d:List (Key×V)),(∀rg∈rgs,rg.Ok)->(rgs.foldl (λd rg=>(RG.parts rg).foldl zli d) d).length<=d.length+11 * rgs.length
 | [],d,_=>by simp
 | rg :: rgs,d,ok=>by rw[qa6,qa8];have h1:=zmq rgs ((RG.parts rg).foldl zli d) λr hr=>ok r (List.mem_cons_of_mem _ hr);have h2:=zna (RG.parts rg) d;have h3:=zlt (ok rg List.mem_cons_self);omega
theorem zqb (P:Str->Prop) (hP:∀n,P n->n∈F2.nms F):∀(vs:List V) (d:List (Key×V)),(∀s,V.str s∈vs->P s)->(∀kv∈d,∃n,kv=((Sum.inr n:Key),V.int 0)/\P n/\zc9 d (Sum.inr n:Key)=some (.int 0))->(∀kv∈vs.foldl zli d,∃n,kv=((Sum.inr n:Key),V.int 0)/\P n/\zc9 (vs.foldl zli d) (Sum.inr n:Key)=some (.int 0))/\∀n,(V.str n∈vs\/zc9 d (Sum.inr n:Key)=some (.int 0))->zc9 (vs.foldl zli d) (Sum.inr n:Key)=some (.int 0)
 | [],d,_,h2=>⟨h2,λn h=>h.elim (λz=>by cases z) id⟩
 | v :: vs,d,h1,h2=>by
   rw[qa6];have step:(∀kv∈zli d v,∃n,kv=((Sum.inr n:Key),V.int 0)/\P n/\zc9 (zli d v) (Sum.inr n:Key)=some (.int 0))/\∀n,(V.str n=v\/zc9 d (Sum.inr n:Key)=some (.int 0))->zc9 (zli d v) (Sum.inr n:Key)=some (.int 0):=by
     cases v with
     | str s =>
       show(∀kv∈zbx d (Sum.inr s:Key) (.int 0),∃n,kv=((Sum.inr n:Key),V.int 0)/\P n/\zc9 (zbx d (Sum.inr s:Key) (.int 0)) (Sum.inr n:Key)=some (.int 0))/\∀n,(V.str n=.str s\/zc9 d (Sum.inr n:Key)=some (.int 0))->zc9 (zbx d (Sum.inr s:Key) (.int 0)) (Sum.inr n:Key)=some (.int 0);refine⟨λkv hkv=>?_,λn hn=>?_⟩
       . rcases zsh hkv with rfl|⟨h,hk⟩
         . exact⟨s,rfl,h1 s (by simp),by rw[zdm,if_pos rfl]⟩
         . obtain⟨n,rfl,h3,h4⟩:=h2 kv h;exact⟨n,rfl,h3,by rw[zdm,if_neg hk]; exact h4⟩
       . rw[zdm];by_cases z:(Sum.inr n:Key)=Sum.inr s
         . rw[if_pos z]
         . rw[if_neg z];rcases hn with hn|hn
           . cases hn; exact absurd rfl z
           . exact hn
     | _=>exact⟨h2,λn hn=>hn.elim (λz=>by cases z) id⟩
   have:=zqb P hP vs (zli d v) (λs hs=>h1 s (List.mem_cons_of_mem _ hs)) step.1;refine⟨this.1,λn hn=>this.2 n ?_⟩;rcases hn with hn|hn
   . rcases List.mem_cons.mp hn with hn|hn
     . exact .inr (step.2 n (.inl hn))
     . exact .inl hn
   . exact .inr (step.2 n (.inr hn))
theorem zqe (P:Str->Prop) (hP:∀n,P n->n∈F2.nms F):∀(rvs:List RG) (d:List (Key×V)),(∀rv∈rvs,∀s,V.str s∈RG.parts rv->P s)->(∀kv∈d,∃n,kv=((Sum.inr n:Key),V.int 0)/\P n/\zc9 d (Sum.inr n:Key)=some (.int 0))->(∀kv∈rvs.foldl (λd rv=>(RG.parts rv).foldl zli d) d,∃n,kv=((Sum.inr n:Key),V.int 0)/\P n/\zc9 (rvs.foldl (λd rv=>(RG.parts rv).foldl zli d) d) (Sum.inr n:Key)=some (.int 0))/\∀n,((∃rv∈rvs,V.str n∈RG.parts rv)\/zc9 d (Sum.inr n:Key)=some (.int 0))->zc9 (rvs.foldl (λd rv=>(RG.parts rv).foldl zli d) d) (Sum.inr n:Key)=some (.int 0)
 | [],d,_,h2=>⟨h2,λn h=>h.elim (λ⟨_,z,_⟩=>by cases z) id⟩
 | rv :: rvs,d,h1,h2=>by
   rw[qa6];have s:=zqb P hP (RG.parts rv) d (h1 rv List.mem_cons_self) h2;have:=zqe P hP rvs _ (λr hr=>h1 r (List.mem_cons_of_mem _ hr)) s.1;refine⟨this.1,λn hn=>this.2 n ?_⟩;rcases hn with⟨r,hr,hn⟩|hn
   . rcases List.mem_cons.mp hr with rfl|hr
     . exact .inr (s.2 n (.inl hn))
     . exact .inl ⟨r,hr,hn⟩
   . exact .inr (s.2 n (.inr hn))
theorem zpw {p:Str×V} (h:p∈ps.zip vals):p.1∈ps/\p.2∈vals:=by obtain⟨a,b⟩:=p;exact⟨(qcv h).1,(qcv h).2⟩
theorem zir (n:Str):∀(l:List (Str×V)) (d:List (Key×V)),zc9 (l.foldl (λd p=>zbx d (Sum.inr p.1:Key) p.2) d) (Sum.inr n:Key)=l.foldl (λacc p=>if n=p.1 then some p.2 else acc) (zc9 d (Sum.inr n:Key))
 | [],d=>rfl
 | p :: l,d=>by
   rw[qa6,qa6,zir n l,zdm];congr 1;by_cases z:n=p.1
   . rw[if_pos z,if_pos (by rw[z])]
   . rw[if_neg z,if_neg (by intro y; exact z (Sum.inr.inj y))]
theorem zni (P:V->Prop) (n:Str):∀(l:List (Str×V)) (o:V),P o->(∀p∈l,P p.2)->∃v,P v/\l.foldl (λacc p=>if n=p.1 then some p.2 else acc) (some o)=some v
 | [],o,ho,_=>⟨o,ho,rfl⟩
 | p :: l,o,ho,h=>by
   rw[qa6];by_cases z:n=p.1
   . rw[if_pos z];exact zni P n l p.2 (h p List.mem_cons_self) λq hq=>h q (List.mem_cons_of_mem _ hq)
   . rw[if_neg z];exact zni P n l o ho λq hq=>h q (List.mem_cons_of_mem _ hq)
theorem zto (P:V->Prop) (n:Str):∀(l:List (Str×V)),(∃p∈l,p.1=n)->∀(o1 o2:Option V),(∀p∈l,P p.2)->∃v,P v/\l.foldl (λacc p=>if n=p.1 then some p.2 else acc) o1=some v/\l.foldl (λacc p=>if n=p.1 then some p.2 else acc) o2=some v
 | [],h,_,_,_=>by obtain⟨_,h,_⟩:=h; cases h
 | p :: l,h,o1,o2,hP=>by
   rw[qa6,qa6];by_cases hl:∃q∈l,q.1=n
   . exact zto P n l hl _ _ λq hq=>hP q (List.mem_cons_of_mem _ hq)
   . have hp:p.1=n:=by
       obtain⟨q,hq,e⟩:=h;rcases List.mem_cons.mp hq with rfl|hq
       . exact e
       . exact absurd ⟨q,hq,e⟩ hl
     rw[if_pos hp.symm,if_pos hp.symm];have no:∀(l:List (Str×V)),(¬ ∃q∈l,q.1=n)->∀o:Option V,l.foldl (λacc p=>if n=p.1 then some p.2 else acc) o=o:=by
       intro l
       induction l with
       | nil=>intro _ o; rfl
       | cons q r ih =>
         intro hh o;rw[qa6,if_neg (λz=>hh ⟨q,List.mem_cons_self,z.symm⟩)];exact ih (λ⟨x,hx,e⟩=>hh ⟨x,List.mem_cons_of_mem _ hx,e⟩) o
     exact⟨p.2,hP p List.mem_cons_self,no l hl _,no l hl _⟩
theorem z13 (h:n∈ps) (hl:ps.length=vals.length):∃p∈ps.zip vals,p.1=n:=by
 obtain⟨i,hi⟩:=qax h;have hv:i<vals.length:=by rw[<- hl]; exact(List.getElem?_eq_some_iff.mp hi).1
 exact⟨(n,vals[i]),List.mem_of_getElem? (qb6.mpr ⟨hi,List.getElem?_eq_getElem hv⟩),rfl⟩
theorem zrv (P:Str->Prop):∀(l:List (Str×V)) (d:List (Key×V)),(∀p∈l,P p.1)->(∀kv∈d,∃n,kv.1=(Sum.inr n:Key)/\P n)->∀kv∈l.foldl (λd p=>zbx d (Sum.inr p.1:Key) p.2) d,∃n,kv.1=(Sum.inr n:Key)/\P n
 | [],d,_,h=>h
 | p :: l,d,hl,h=>by
   rw[qa6];refine zrv P l _ (λq hq=>hl q (List.mem_cons_of_mem _ hq)) (λkv hkv=>?_);rcases zsh hkv with rfl|⟨h1,_⟩
   . exact⟨p.1,rfl,hl p List.mem_cons_self⟩
   . exact h kv h1
theorem zqq (hF:Fg K H F rgs) (hv:∀v∈vals,∃i,v=.int i/\Val i) (hlen:F.ps.length=vals.length):Alk F (zj7 F vals) (z3g rgs F.ps vals):=by
 have hin:∀rg∈rgs,∀s,V.str s∈RG.parts rg->s∈zt9 rgs:=λrg hrg s hs=>by unfold zt9;rw[qc5];exact⟨rg,hrg,z5s.mpr hs⟩
 have z:=zqe (F:=F) (λs=>s∈zt9 rgs) (λn hn=>(hF.nm n).mpr (.inr hn)) rgs [] hin (λkv h=>by cases h);have base:∀n,n∈F2.nms F->zc9 (((F2.nms F).map λn=>((Sum.inr n:Key),V.int 0)).foldl (λacc kv=>zbx acc kv.1 kv.2) []) (Sum.inr n:Key)=some (.int 0):=λn hn=>ztw _ _ (.inl hn);have hz:Val 0:=by unfold Val K21.wide; decide
 refine⟨λn hn=>?_,?_,?_,?_⟩
 . have b1:=base n hn;by_cases hg:n∈zt9 rgs
   . have b2:zc9 (rgs.foldl (λd rg=>(RG.parts rg).foldl zli d) []) (Sum.inr n:Key)=some (.int 0):=z.2 n (.inl (by unfold zt9 at hg;rw[qc5] at hg;obtain⟨rg,h1,h2⟩:=hg;exact⟨rg,h1,z5s.mp h2⟩))
     obtain⟨v,⟨i,rfl,hi⟩,e⟩:=zni (λv=>∃i,v=V.int i/\Val i) n (F.ps.zip vals) (.int 0) ⟨0,rfl,hz⟩ (λp hp=>hv p.2 (zpw hp).2);refine⟨i,hi,?_,?_⟩
     . unfold zj7;rw[zir,b1];exact e
     . unfold z3g;rw[zir,b2];exact e
   . have hp:n∈F.ps:=((hF.nm n).mp hn).resolve_right hg;obtain⟨v,⟨i,rfl,hi⟩,e1,e2⟩:=zto (λv=>∃i,v=V.int i/\Val i) n (F.ps.zip vals) (z13 hp hlen) (some (.int 0)) (zc9 (rgs.foldl (λd rg=>(RG.parts rg).foldl zli d) []) (Sum.inr n:Key)) (λp hp=>hv p.2 (zpw hp).2);refine⟨i,hi,?_,?_⟩
     . unfold zj7;rw[zir,b1];exact e1
     . unfold z3g;rw[zir];exact e2
 . unfold z3g;refine zrv (λn=>n∈F2.nms F) _ _ (λp hp=>(hF.nm _).mpr (.inl (zpw hp).1)) (λkv hkv=>?_);obtain⟨n,e,h1,_⟩:=z.1 kv hkv;exact⟨n,by rw[e],(hF.nm n).mpr (.inr h1)⟩
 . unfold zj7;refine Nat.le_trans (zgf (λp:Str×V=>((Sum.inr p.1:Key),p.2)) _ _) ?_;have l1:(((F2.nms F).map λn=>((Sum.inr n:Key),V.int 0)).foldl (λacc kv=>zbx acc kv.1 kv.2) []).length<=([]:List (Key×V)).length+((F2.nms F).map λn=>((Sum.inr n:Key),V.int 0)).length:=zgf (λkv:Key×V=>kv) ((F2.nms F).map λn=>((Sum.inr n:Key),V.int 0)) [];refine Nat.le_trans (Nat.add_le_add_right l1 _) ?_;have l2:=hF.nl;have l3:=hF.pl;rw[List.length_map,qcf];show 0+(F2.nms F).length+_<=2000;omega
 . unfold z3g;refine Nat.le_trans (zgf (λp:Str×V=>((Sum.inr p.1:Key),p.2)) _ _) ?_;have l1:=zmq rgs [] hF.ok;have l2:=hF.small;have l3:=hF.pl;simp only[qb7] at l1;rw[qcf];omega
def zvj (K:W.Frag):Sp:=λvs H Q _=>∃(F:F2.Fd) (rgs:List RG) (ar:Addr) (vals:List V),vs=[.ref F.fa,.ref ar]/\Fg K H F rgs/\SqL K H ar vals/\F.ps.length=vals.length/\(∀v∈vals,∃i,v=.int i/\Val i)/\∀l d H' kvs,H l=none->H d=none->l≠d->zaj H H'->H' l=some (.lst [V.ref F.fa,V.int 0,V.ref d])->H' d=some (.dK kvs)->Alk F (zj7 F vals) kvs->Q (.ref l) H'
structure Lf where
 (l d:Addr)
 F:F2.Fd
 at_:Nat
 kvs:List (Key×V)
structure Stk (H:Hp) (sk:Addr) (ls:List Lf):Prop where
 e:H sk=some (.lst (ls.map λx=>V.ref x.l))
 fr:∀x∈ls,H x.l=some (.lst [V.ref x.F.fa,V.int x.at_,V.ref x.d])/\H x.d=some (.dK x.kvs)
 nl:(ls.map (·.l)).Nodup
 nd:(ls.map (·.d)).Nodup
 ns:∀x∈ls,x.l≠sk
def adL (sk:Addr) (ls:List Lf):List Addr:=sk :: (ls.map (·.l)++ls.map (·.d))
def erO (l:List Addr) (H:Hp):Hp:=λb=>if b∈l then none else H b
theorem zl5 (h:b ∉ l):erO l H b=H b:=by unfold erO; rw[if_neg h]
theorem z4p (h:b∈l):erO l H b=none:=by unfold erO; rw[if_pos h]
theorem zjk:zaj (erO l H) H:=λb o hb=>by
 unfold erO at hb;split at hb
 . cases hb
 . exact hb
theorem Stk.mono (h:Stk H sk ls) (e:zaj H H'):Stk H' sk ls:=⟨e _ _ h.e,λx hx=>⟨e _ _ (h.fr x hx).1,e _ _ (h.fr x hx).2⟩,h.nl,h.nd,h.ns⟩
theorem Stk.all (h:Stk H sk ls) (hb:b∈adL sk ls):∃o,H b=some o:=by
 rcases List.mem_cons.mp hb with rfl|hb
 . exact⟨_,h.e⟩
 . rcases List.mem_append.mp hb with hb|hb
   . obtain⟨x,hx,rfl⟩:=List.mem_map.mp hb; exact⟨_,(h.fr x hx).1⟩
   . obtain⟨x,hx,rfl⟩:=List.mem_map.mp hb; exact⟨_,(h.fr x hx).2⟩
theorem z3a:sk∈adL sk (ls0++[x])/\x.l∈adL sk (ls0++[x])/\x.d∈adL sk (ls0++[x]) :=
 ⟨List.mem_cons_self,List.mem_cons_of_mem _ (qbe _ (List.mem_map.mpr ⟨x,by simp,rfl⟩)),List.mem_cons_of_mem _ (List.mem_append_right _ (List.mem_map.mpr ⟨x,by simp,rfl⟩))⟩
theorem zln (h:x∈ls):x.l∈adL sk ls/\x.d∈adL sk ls :=
 ⟨List.mem_cons_of_mem _ (qbe _ (List.mem_map.mpr ⟨x,h,rfl⟩)),List.mem_cons_of_mem _ (List.mem_append_right _ (List.mem_map.mpr ⟨x,h,rfl⟩))⟩
theorem Stk.push (st:Stk H sk ls) (s:zaj H H') (hl:H x.l=none) (hd:H x.d=none) (e1:H' x.l=some (.lst [V.ref x.F.fa,V.int x.at_,V.ref x.d])) (e2:H' x.d=some (.dK x.kvs)):Stk (upd H' sk (.lst ((ls++[x]).map λx=>V.ref x.l))) sk (ls++[x]):=by
 have st':=st.mono s;have n1:x.l≠sk:=λz=>by rw[z,st.e] at hl; cases hl
 have n2:x.d≠sk:=λz=>by rw[z,st.e] at hd; cases hd
 have n3:∀y∈ls,y.d≠sk:=λy hy z=>by have:=(st.fr y hy).2; rw[z,st.e] at this; cases this
 refine⟨zab,λy hy=>?_,?_,?_,λy hy=>?_⟩
 . rcases List.mem_append.mp hy with h|h
   . exact⟨by rw[zag (st.ns y h)]; exact(st'.fr y h).1,by rw[zag (n3 y h)]; exact(st'.fr y h).2⟩
   . rw[List.mem_singleton.mp h];exact⟨by rw[zag n1]; exact e1,by rw[zag n2]; exact e2⟩
 . rw[List.map_append,qbo];refine⟨st.nl,(by simp),λa ha b hb z=>?_⟩;obtain⟨y,hy,rfl⟩:=List.mem_map.mp ha;rw[List.mem_singleton.mp hb] at z;have:=(st.fr y hy).1;rw[z,hl] at this;cases this
 . rw[List.map_append,qbo];refine⟨st.nd,(by simp),λa ha b hb z=>?_⟩;obtain⟨y,hy,rfl⟩:=List.mem_map.mp ha;rw[List.mem_singleton.mp hb] at z;have:=(st.fr y hy).2;rw[z,hd] at this;cases this
 . rcases List.mem_append.mp hy with h|h
   . exact st.ns y h
   . rw[List.mem_singleton.mp h]; exact n1
theorem Stk.pop (st:Stk H sk (ls++[x])):Stk (upd H sk (.lst (ls.map λx=>V.ref x.l))) sk ls:=by
 have sub:∀y∈ls,y∈ls++[x]:=λy hy=>qbe _ hy;refine⟨zab,λy hy=>⟨by rw[zag (st.ns y (sub y hy))]; exact(st.fr y (sub y hy)).1,?_⟩,?_,?_,λy hy=>st.ns y (sub y hy)⟩
 . rw[zag (λz=>by have:=(st.fr y (sub y hy)).2; rw[z,st.e] at this; cases this)];exact(st.fr y (sub y hy)).2
 . have:=st.nl; rw[List.map_append] at this; exact(qbo.mp this).1
 . have:=st.nd; rw[List.map_append] at this; exact(qbo.mp this).1
theorem Stk.set {n:Nat} (st:Stk H sk ls) (hx:ls[i]?=some x):Stk (upd (upd H x.d (.dK kvs)) x.l (.lst [V.ref x.F.fa,V.int n,V.ref x.d])) sk (ls.set i { x with kvs:=kvs,at_:=n }):=by
 have hxm:=List.mem_of_getElem? hx;have fx:=st.fr x hxm;have dl:x.d≠x.l:=λz=>by have:=fx.2; rw[z,fx.1] at this; cases this
 have sl:sk≠x.l:=(st.ns x hxm).symm;have sd:sk≠x.d:=λz=>by have:=fx.2; rw[<- z,st.e] at this; cases this
 have ap:∀(j:Nat) y,ls[j]?=some y->j≠i->y.l≠x.l/\y.d≠x.d:=λj y hy hj=>by
   refine⟨λz=>hj ?_,λz=>hj ?_⟩
   . have h1:(ls.map (·.l))[j]?=some x.l:=by rw[List.getElem?_map,hy]; exact congrArg some z
     have h2:(ls.map (·.l))[i]?=some x.l:=by rw[List.getElem?_map,hx]; rfl
     exact(qb9 (List.getElem?_eq_some_iff.mp h1).1 st.nl).mp (h1.trans h2.symm)
   . have h1:(ls.map (·.d))[j]?=some x.d:=by rw[List.getElem?_map,hy]; exact congrArg some z
     have h2:(ls.map (·.d))[i]?=some x.d:=by rw[List.getElem?_map,hx]; rfl
     exact(qb9 (List.getElem?_eq_some_iff.mp h1).1 st.nd).mp (h1.trans h2.symm)
 have hil:i<ls.length:=(List.getElem?_eq_some_iff.mp hx).1;have fall:∀{P:Lf->Prop},(∀(j:Nat) y,ls[j]?=some y->j≠i->P y)->P { x with kvs:=kvs,at_:=n }->∀y∈ls.set i { x with kvs:=kvs,at_:=n },P y:=λh1 h2 y hy=>by
   obtain⟨j,hj⟩:=qax hy;rw[List.getElem?_set] at hj;by_cases hne:i=j
   . rw[if_pos hne,if_pos hil] at hj;cases hj; exact h2
   . rw[if_neg hne] at hj;exact h1 j y hj (λz=>hne z.symm)
 refine⟨?_,fall (λj y hy hj=>?_) ⟨zab,by show upd _ x.l _ x.d=_; rw[zag dl,zab]⟩,?_,?_,fall (λj y hy _=>st.ns y (List.mem_of_getElem? hy)) (st.ns x hxm)⟩
 . rw[zag sl,zag sd,st.e,zlr (y:={ x with kvs:=kvs,at_:=n }) (λx:Lf=>V.ref x.l) hx rfl]
 . have fy:=st.fr y (List.mem_of_getElem? hy);obtain⟨q1,q2⟩:=ap j y hy hj;refine⟨?_,?_⟩
   . rw[zag q1,zag (λz=>by have:=fy.1; rw[z,fx.2] at this; cases this)];exact fy.1
   . rw[zag (λz=>by have:=fy.2; rw[z,fx.1] at this; cases this),zag q2];exact fy.2
 . rw[zlr (y:={ x with kvs:=kvs,at_:=n }) (λx:Lf=>x.l) hx rfl]; exact st.nl
 . rw[zlr (y:={ x with kvs:=kvs,at_:=n }) (λx:Lf=>x.d) hx rfl]; exact st.nd
theorem zxf {α:Type} (l:List α) (x y:α):(l++[x]).set l.length y=l++[y]:=by rw[List.set_append_right _ _ (qae _),Nat.sub_self];rfl
theorem zdr {α:Type} (l:List α) (x:α):(l++[x])[l.length]?=some x:=by rw[qbm (qae _),Nat.sub_self]; rfl
theorem zhq (ls:List Lf) (x:Lf):atI ((ls++[x]).map λx=>V.ref x.l) (-1)=some (.ref x.l):=by rw[List.map_append];exact zmo _ _
theorem zi1 (s:zaj (erO l H) H') (h:b∈l):zaj (erO l H) (upd H' b o):=s.upd (z4p h)
theorem ztu {α:Type} {l:List α} {x:α}:x∈l++[x]:=List.mem_append_right _ (List.mem_singleton.mpr rfl)
theorem zpr {u:V} (h:zc9 kvs k=some u):(zbx kvs k v).length=kvs.length:=by unfold zbx;rw[zgr,h,if_pos (by rfl),List.length_map]
theorem z49 (h:H b=some o):upd H b o=H:=by
 funext c;by_cases z:c=b
 . rw[z,zab,h]
 . rw[zag z]
theorem Alk.has (a:Alk F k1 k2):(zc9 k2 (Sum.inr n:Key)).isSome=true <-> n∈F2.nms F:=by
 constructor
 . intro h;rw[<- zgr,qcc] at h;obtain⟨kv,h1,h2⟩:=h;obtain⟨m,e1,e2⟩:=a.k kv h1;have:=of_decide_eq_true h2;rw[e1] at this;rw[<- Sum.inr.inj this];exact e2
 . intro h;obtain⟨i,_,_,e⟩:=a.v n h;rw[e];rfl
theorem Alk.put (a:Alk F k1 k2) (hn:n∈F2.nms F) (hz:Val z):Alk F (zbx k1 (Sum.inr n:Key) (.int z)) (zbx k2 (Sum.inr n:Key) (.int z)):=by
 obtain⟨i,_,e1,e2⟩:=a.v n hn;refine⟨λm hm=>?_,λkv hkv=>?_,by rw[zpr e1,zpr e2]; exact a.l⟩
 . rw[zdm,zdm];by_cases h:(Sum.inr m:Key)=Sum.inr n
   . rw[if_pos h,if_pos h]; exact⟨z,hz,rfl,rfl⟩
   . rw[if_neg h,if_neg h]; exact a.v m hm
 . rcases zsh hkv with rfl|⟨h1,_⟩
   . exact⟨n,rfl,hn⟩
   . exact a.k kv h1
abbrev RFt:=F2.Fd->List RG->Prop
structure Sta (K:W.Frag) (t:Adr) (RF:RFt) (H0 Hb H:Hp) (w:Wr) (fs:List Fm) (fns:List F2.Fd) (sk:Addr) (ls:List Lf) (sl:Addr) (sent sv:List V):Prop where
 wa:WA t Hb H w fs .non sent ⟨[],0⟩
 fl:F2.FlowsAt K t.za2 H0 w.fl fns
 s0:zaj H0 Hb
 st:Stk Hb sk ls
 no:∀b∈adL sk ls,H0 b=none
 len:fs.length=ls.length
 few:fs.length<=100
 tw:∀(i:Nat) f x,fs[i]?=some f->ls[i]?=some x->f.fn=x.F.name/\f.row=x.at_/\x.F∈fns/\Alk x.F f.kvs x.kvs/\∃rgs,RF x.F rgs/\Fg K H0 x.F rgs/\x.at_<rgs.length/\(i+1<ls.length->∃y g p as,rgs[x.at_]?=some (.call y g p as))
 se:Hb sl=some (.lst sv)
 sn:sl ∉ adL sk ls
 s1:H0 sl=none
theorem Sta.grow {w:Wr} (S:Sta K t RF H0 Hb H w fs fns sk ls sl sent sv) (e:zaj H H'):Sta K t RF H0 (gr Hb H H') H' w fs fns sk ls sl sent sv :=
 ⟨S.wa.grow e,S.fl,S.s0.trans (zbj S.wa.b),S.st.mono (zbj S.wa.b),S.no,S.len,S.few,S.tw,zbj S.wa.b _ _ S.se,S.sn,S.s1⟩
theorem Sta.hall {w:Wr} (S:Sta K t RF H0 Hb H w fs fns sk ls sl sent sv):∀f∈fs,∃F∈fns,F.name=f.fn:=λf hf=>by
 obtain⟨i,hi⟩:=qax hf;have hl:i<ls.length:=by rw[<- S.len]; exact(List.getElem?_eq_some_iff.mp hi).1
 obtain⟨h1,_,h3,_⟩:=S.tw i f _ hi (List.getElem?_eq_getElem hl);exact⟨_,h3,h1.symm⟩
def zrf (K:W.Frag) (t:Adr):Sp:=λvs H Q _=>∃(Hb:Hp) (w:Wr) (fs:List Fm) (oc:V) (sent:List V) (cn:Cn) (z:Int) (n:Str) (fns:List F2.Fd),vs=[.ref w.a,.int z,.str n]/\WA t Hb H w fs oc sent cn/\F2.FlowsAt K t.za2 Hb w.fl fns/\(∀f∈fs,∃F∈fns,F.name=f.fn)/\¬ zqa fs fns z n/\∀H',zaj H H'->Q (.bl true) H'
def zqm (K:W.Frag) (t:Adr):Sp:=λvs H Q _=>∃(Hb:Hp) (w:Wr) (oc:V) (sent:List V) (cn:Cn),vs=[.ref w.a]/\WA t Hb H w [] oc sent cn/\∀H',zaj H H'->Q (.bl true) H'
def zs9 (K:W.Frag) (t:Adr):Sp:=λvs H Q _=>∃(RF:RFt) (H0 Hb:Hp) (w:Wr) (fs:List Fm) (fns:List F2.Fd) (sk nl sl:Addr) (ls:List Lf) (sent sv:List V) (ns:List Str) (z:Int),vs=[.ref w.a,.ref sk,.ref nl,.int z]/\Sta K t RF H0 Hb H w fs fns sk ls sl sent sv/\ls≠[]/\SqL K H0 nl (ns.map V.str)/\6<=ns.length/\0<=z/\∀H',zaj H H'->Q (.bl true) H'
def zsd (K:W.Frag) (t:Adr):Sp:=λvs H Q _=>∃(Hb:Hp) (w:Wr) (fs:List Fm) (oc:V) (sent:List V) (cn:Cn) (nl:Addr) (ns:List Str) (fns:List F2.Fd) (z:Int),vs=[.ref w.a,.int fs.length,.ref nl,.int z]/\WA t Hb H w fs oc sent cn/\F2.FlowsAt K t.za2 Hb w.fl fns/\(∀f∈fs,∃F∈fns,F.name=f.fn)/\SqL K H nl (ns.map V.str)/\ns.length=12/\ns.Nodup/\(∀F∈fns,∀n∈F2.nms F,n∈ns.take 6)/\0<=z/\fs.length<=1000/\∀H',zaj H H'->Q (.bl true) H'
theorem Sta.at {w:Wr} (S:Sta K t RF H0 Hb H w fs fns sk ls sl sent sv) (hi:i<ls.length):∃f x,fs[i]?=some f/\ls[i]?=some x:=by have:=S.len;exact⟨_,_,List.getElem?_eq_getElem (by omega),List.getElem?_eq_getElem hi⟩
theorem z2v (nd:(fns.map (·.name)).Nodup) (h1:F∈fns) (h2:G∈fns) (e:F.name=G.name):F=G:=by
 obtain⟨i,hi⟩:=qax h1;obtain⟨j,hj⟩:=qax h2;have a1:(fns.map (·.name))[i]?=some G.name:=by rw[List.getElem?_map,hi]; exact congrArg some e
 have a2:(fns.map (·.name))[j]?=some G.name:=by rw[List.getElem?_map,hj]; rfl
 have:=(qb9 (List.getElem?_eq_some_iff.mp a1).1 nd).mp (a1.trans a2.symm);rw[this,hj] at hi;cases hi;rfl
theorem Sta.there {w:Wr} (S:Sta K t RF H0 Hb H w fs fns sk ls sl sent sv) (hx:ls[i]?=some x):zqa fs fns (i:Int) n <-> n∈F2.nms x.F:=by
 have hi:i<ls.length:=(List.getElem?_eq_some_iff.mp hx).1;obtain⟨f,x',hf,hx'⟩:=S.at hi;rw[hx] at hx';cases hx';obtain⟨n1,_,n3,_⟩:=S.tw i f x hf hx;constructor
 . rintro ⟨j,f',F,e,hf',hF,hn,hm⟩;have:j=i:=by omega
   subst this;rw[hf] at hf';cases hf';rw[<- z2v S.fl.nd hF n3 (hn.trans n1)];exact hm
 . exact λh=>⟨i,f,x.F,rfl,hf,n3,n1.symm,h⟩
def z5l (K:W.Frag) (H:Hp) (sk:Addr) (ls0:List Lf) (x:Lf) (ps:List (F2.Fd×List RG)) (Q:VK):RG->Prop
 | .out a=>∃v,av x.kvs a=some (.int v)/\∀H' tp,zaj (erO (adL sk (ls0++[x])) H) H'->H tp=none->H' tp=some (.tup [.str "out",.int v])->Stk H' sk (ls0++[{ x with at_:=x.at_+1 }])->Q (.ref tp) H'
 | .copy y a=>∃v,av x.kvs a=some (.int v)/\∀H',zaj (erO (adL sk (ls0++[x])) H) H'->Stk H' sk (ls0++[{ x with kvs:=zbx x.kvs (Sum.inr y:Key) (.int v),at_:=x.at_+1 }])->Q .non H'
 | .op y s a b=>∃i j,av x.kvs a=some (.int i)/\av x.kvs b=some (.int j)/\s="+"/\∀H',zaj (erO (adL sk (ls0++[x])) H) H'->Stk H' sk (ls0++[{ x with kvs:=zbx x.kvs (Sum.inr y:Key) (.int (K21.valOf s i j)),at_:=x.at_+1 }])->Q .non H'
 | .call y g p as=>∃(j:Nat) (F:F2.Fd) (r:List RG) (vals:List V),ps[j]?=some (F,r)/\F.name=g/\as.length=vals.length/\(∀(i:Nat) a v,as[i]?=some a->vals[i]?=some v->av x.kvs a=some v)/\(∀v∈vals,∃i,v=.int i/\Val i)/\as.length<=10/\F.ps.length=vals.length/\∀H' x',zaj (erO (adL sk (ls0++[x])) H) H'->x'.F=F->x'.at_=0->Alk F (zj7 F vals) x'.kvs->H x'.l=none->H x'.d=none->Stk H' sk (ls0++[x]++[x'])->Q .non H'
 | .back a=>∃v,av x.kvs a=some (.int v)/\(ls0=[]->∀H',zaj (erO (adL sk (ls0++[x])) H) H'->Stk H' sk []->Q .non H')/\∀ls1 y,ls0=ls1++[y]->y.kvs.length<100000/\∃rgs z g p as,Fg K H y.F rgs/\rgs[y.at_]?=some (.call z g p as)/\∀H',zaj (erO (adL sk (ls0++[x])) H) H'->Stk H' sk (ls1++[{ y with kvs:=zbx y.kvs (Sum.inr z:Key) (.int v),at_:=y.at_+1 }])->Q .non H'
 | _=>False
def zu5 (K:W.Frag):Sp:=λvs H Q _=>∃(sk pl:Addr) (ls0:List Lf) (x:Lf) (rgs:List RG) (rg:RG) (ps:List (F2.Fd×List RG)) (ns:List Str) (ar:List Nat),vs=[.ref sk,.ref pl]/\Stk H sk (ls0++[x])/\Prg K H pl ps ns ar/\pl ∉ adL sk (ls0++[x])/\ns.Nodup/\Fg K H x.F rgs/\rgs[x.at_]?=some rg/\x.kvs.length<100000/\ls0.length<=1000/\z5l K H sk ls0 x ps Q rg
theorem zl1 (st:Stk H sk ls) (s:zaj (erO (adL sk ls) H) H') (h:SqT K H b its):SqT K H' b its:=by
 have no:∀o,H b=some o->(∀l,o≠.lst l)->(∀l,o≠.dK l)->b ∉ adL sk ls:=λo e n1 n2 z=>by
   rcases List.mem_cons.mp z with rfl|z
   . rw[st.e] at e; cases e; exact n1 _ rfl
   . rcases List.mem_append.mp z with z|z <;> obtain⟨x,hx,rfl⟩:=List.mem_map.mp z
     . rw[(st.fr x hx).1] at e; cases e; exact n1 _ rfl
     . rw[(st.fr x hx).2] at e; cases e; exact n2 _ rfl
 rcases h with(h|⟨o,h⟩)|h
 . exact .inl (.inl (s _ _ (by rw[zl5 (no _ h (λ_ z=>by cases z) (λ_ z=>by cases z))]; exact h)))
 . exact .inl (.inr ⟨o,s _ _ (by rw[zl5 (no _ h (λ_ z=>by cases z) (λ_ z=>by cases z))]; exact h)⟩)
 . exact .inr h
theorem zyu {a:Addr} {u:HO} (h:a≠b):upd (upd H a o) b u=upd (upd H b u) a o:=by
 funext c;by_cases z:c=b
 . subst z; rw[zab,zag (λy=>h y.symm),zab]
 . rw[zag z];by_cases y:c=a
   . subst y; rw[zab,zab]
   . rw[zag y,zag y,zag z]
theorem zze {k:Nat} (nd:ns.Nodup) (hn:ns[j]?=some n) (h:k<=j):n ∉ ns.take k:=λhm=>by obtain⟨i,hi⟩:=qax hm;have hk:=(List.getElem?_eq_some_iff.mp hi).1;rw[qay] at hk;rw[qbp (by omega)] at hi;have:=(qb9 (List.getElem?_eq_some_iff.mp hi).1 nd).mp (hi.trans hn.symm);omega
theorem zrq {cn:Cn} {s:Str} {b:V} {i j:Int} (ha:av kvs a=some (.int i)) (hb:av kvs b=some (.int j)) (h:0<=i/\0<=j/\i<K21.wide/\j<K21.wide):(RG.op y s a b).gives kvs cn=some (y,.int (K21.valOf s i j)):=by dsimp only[RG.gives];rw[ha,hb];exact if_pos h
theorem zd4 {α:Type} {l:List α} {x y:α} (h:(l++[x])[i]?=some y):(i<l.length/\l[i]?=some y)\/(i=l.length/\x=y):=by
 rcases qa7 i l.length with hi|hi
 . rw[qbd hi] at h; exact .inl ⟨hi,h⟩
 . have:=(List.getElem?_eq_some_iff.mp h).1;rw[List.length_append,qa1] at this;have e:i=l.length:=by omega
   rw[e,zdr] at h;cases h;exact .inr ⟨e,rfl⟩
theorem ztp (h:b∈l):erO l (upd H b o)=erO l H:=by
 funext c;unfold erO;by_cases z:c∈l
 . rw[if_pos z,if_pos z]
 . rw[if_neg z,if_neg z,zag (λy=>by rw[y] at z; exact z h)]
theorem ztv (s:zaj H H'):zaj (erO l H) (erO l H'):=λb o hb=>by
 unfold erO at *;split at hb
 . cases hb
 . rename_i z
   rw[if_neg z];exact s _ _ hb
theorem zin {c:Addr} (hl:∀b∈l,∃xs,H b=some (.lst xs)) (h:SqT K H c its):SqT K (erO l H) c its:=by
 have no:∀o,H c=some o->(∀xs,o≠.lst xs)->c ∉ l:=λo e n z=>by obtain⟨xs,hx⟩:=hl c z;rw[hx] at e;cases e;exact n _ rfl
 rcases h with(h|⟨o,h⟩)|h
 . exact .inl (.inl (by rw[zl5 (no _ h (λ_ z=>by cases z))]; exact h))
 . exact .inl (.inr ⟨o,by rw[zl5 (no _ h (λ_ z=>by cases z))]; exact h⟩)
 . exact .inr h
theorem nm_n:K12.Nm "n":=by unfold K12.Nm; decide +kernel
def ixT (m i:Nat):Int:=((m:Int) - 1 - (i:Int))%(m:Int)
theorem zz8:(ixT m i - 1)%(m:Int)=ixT m (i+1):=by unfold ixT;rw[Int.sub_emod,Int.emod_emod,<- Int.sub_emod];congr 1;omega
theorem zt3 (h:0<m) (i:Nat):0<=ixT m i/\ixT m i<m:=⟨qd2 _ (by omega),qdn _ (by omega)⟩
def dvT (x:Int) (j i:Nat):Int:=(x+i+(if 2 * i<j then 1 else 0))%281474976710656
structure Tow (ns:List Str) (m:Nat) (x:Int) (j:Nat) (fs:List Fm):Prop where
 len:fs.length=j / 2+1
 at_:∀(i:Nat) f,fs[i]?=some f->ns[(ixT m i).toNat]?=some f.fn/\f.row=(if 2 * i<j then 1 else 0)/\zc9 f.kvs (Sum.inr "n":Key)=some (.int (dvT x j i))/\f.kvs.length<=2000
theorem Tow.old {x:Int} (h:Tow ns m x j (fs++[f])) (hg:fs[i]?=some g):ns[(ixT m i).toNat]?=some g.fn/\g.row=(if 2 * i<j+1 then 1 else 0)/\zc9 g.kvs (Sum.inr "n":Key)=some (.int (dvT x (j+1) i))/\g.kvs.length<=2000:=by
 have hl:fs.length=j / 2:=by have:=h.len; rw[List.length_append,qa1] at this; omega
 have hi:=(List.getElem?_eq_some_iff.mp hg).1;obtain⟨a1,a2,a3,a4⟩:=h.at_ i g (by rw[qbd hi]; exact hg);unfold dvT at *;rw[if_pos (by omega)] at a2 a3;rw[if_pos (by omega),if_pos (by omega)];exact⟨a1,a2,a3,a4⟩
theorem Tow.op {x:Int} (h:Tow ns m x j (fs++[f])) (he:j%2=0):Tow ns m x (j+1) (fs++[{ f with kvs:=zbx f.kvs (Sum.inr "n":Key) (.int ((x+(j / 2:Nat)+1)%281474976710656)),row:=1 }]):=by
 have hl:fs.length=j / 2:=by have:=h.len; rw[List.length_append,qa1] at this; omega
 refine⟨by rw[List.length_append,qa1]; omega,λi g hg=>?_⟩;rcases zd4 hg with⟨_,hg⟩|⟨rfl,rfl⟩
 . exact h.old hg
 . obtain⟨a1,a2,a3,a4⟩:=h.at_ _ f (zdr _ _);unfold dvT;rw[if_pos (by omega),if_pos (by omega)];exact⟨a1,rfl,by rw[zdm,if_pos rfl,hl],by rw[zpr a3]; exact a4⟩
theorem Tow.call {x:Int} (h:Tow ns m x j (fs++[g])) (ho:j%2=1) (e1:ns[(ixT m (fs.length+1)).toNat]?=some f.fn) (e2:f.row=0) (e3:zc9 f.kvs (Sum.inr "n":Key)=some (.int ((x+(j / 2:Nat)+1)%281474976710656))) (e4:f.kvs.length<=2000):Tow ns m x (j+1) (fs++[g]++[f]):=by
 have hl:fs.length=j / 2:=by have:=h.len; rw[List.length_append,qa1] at this; omega
 refine⟨by rw[List.length_append,List.length_append,qa1,qa1]; omega,λi u hu=>?_⟩;rcases zd4 hu with⟨_,hu⟩|⟨rfl,rfl⟩
 . rcases zd4 hu with⟨_,hu⟩|⟨rfl,rfl⟩
   . exact h.old hu
   . obtain⟨a1,a2,a3,a4⟩:=h.at_ _ g (zdr _ _);unfold dvT at *;rw[if_pos (by omega)] at a2 a3;rw[if_pos (by omega),if_pos (by omega)];exact⟨a1,a2,a3,a4⟩
 . rw[List.length_append,qa1];unfold dvT;rw[if_neg (by omega),if_neg (by omega),e3];exact⟨e1,e2,by rw[show x+(j / 2:Nat)+1=x+((fs.length+1:Nat):Int)+0 by omega],e4⟩
def z4e (pn:Str) (pa:Addr):List RG:=[RG.op "n" "+" (.str "n") (.int 1),RG.call "n" pn pa [.str "n"],RG.back (.str "n")]
structure TF (K:W.Frag) (H:Hp) (ns:List Str) (m k:Nat) (F:F2.Fd):Prop where
 nm:ns[k]?=some F.name
 ps:F.ps=[("n":Str)]
 fg:∃pn pa,ns[(((k:Int) - 1)%(m:Int)).toNat]?=some pn/\Fg K H F (z4e pn pa)
theorem TF.mono {k:Nat} (h:TF K H ns m k F) (e:zaj H H'):TF K H' ns m k F:=⟨h.nm,h.ps,let ⟨pn,pa,h1,h2⟩:=h.fg; ⟨pn,pa,h1,h2.mono e⟩⟩
theorem z3y {pn:Str} {r0 rc pa rb:Addr} (h1:SqT K H fa [.str nk,fo,.ref qC,.ref tr]) (h2:SqT K H tr [.ref r0,.ref rc,.ref rb]) (k0:SqT K H r0 [.str "op",.str "n",.str "+",.str "n",.int 1]) (k1:SqT K H rc [.str "call",.str "n",.str pn,.ref pa]) (k2:SqT K H pa [.str "n"]) (k3:H rb=some (.tup [.str "back",.str "n"])) (k4:SqT K H qC [.str "n"]) (sn:K12.Nm nk) (sp:K12.Nm pn):∃F,F.fa=fa/\F.name=nk/\F.ps=[("n":Str)]/\Fg K H F (z4e pn pa):=by
 have nT:∀s∈[("n":Str)],K12.Nm s:=λs hs=>by rw[List.mem_singleton.mp hs]; exact nm_n
 have nS:∀s∈List.replicate 6 ("n":Str)++[pn],K12.Nm s:=λs hs=>by
   rcases List.mem_append.mp hs with hs|hs
   . rw[(List.mem_replicate.mp hs).2]; exact nm_n
   . rw[List.mem_singleton.mp hs]; exact sp
 have hin:("n":Str)∈(List.replicate 6 ("n":Str)++[pn]).take 6:=List.mem_cons_self;have ain:zg9 ((List.replicate 6 ("n":Str)++[pn]).take 6) (.str "n"):=.inr ⟨_,rfl,hin⟩;have v1:Val 1:=by unfold Val K21.wide; decide
 exact⟨_,rfl,rfl,rfl,z5k (K:=K) (H:=H) (ns:=[("n":Str)]) nT (nk:=nk) (fo:=fo) (fa:=fa) (qC:=qC) (tr:=tr) (bk:=rb) (prs:=[("n":Str)]) (ps:=[(r0,RG.op "n" "+" (.str "n") (.int 1)),(rc,RG.call "n" pn pa [.str "n"])]) (a:=.str "n") h1 h2 (λp hp=>by
   simp only[List.mem_cons,qbi,or_false] at hp;rcases hp with rfl|rfl
   . exact⟨⟨k0,(λ_ _ _ _ z=>by cases z)⟩,zsp (ar:=[1]) nS ⟨hin,rfl,ain,.inl ⟨1,rfl,v1⟩⟩⟩
   . exact⟨⟨k1,λ_ _ _ _ z=>by cases z; exact k2⟩,zsp (ar:=[1]) nS ⟨hin,⟨0,by decide,rfl,rfl⟩,by decide,λv hv=>by rw[List.mem_singleton.mp hv]; exact ain⟩⟩) k3 (.inr ⟨_,rfl,by simp⟩) k4 nT (by decide) (by show 2<=70; decide) sn.2⟩
def zuu (K:W.Frag) (t:Adr):Sp:=λvs H Q _=>∃(nl:Addr) (ns:List Str) (c:Int),vs=[.ref nl,.int c]/\SqL K H nl (ns.map V.str)/\ns.length=12/\NmsOk ns/\∀H',zaj H H'->Q (.bl true) H'
def rb (A:List Addr) (Hb H H1:Hp):Hp:=λb=>if b∈A then H1 b else gr Hb H H1 b
theorem z0f (h:b∈A\/H b=none):rb A Hb H H1 b=H1 b:=by
 unfold rb gr;by_cases z:b∈A
 . rw[if_pos z]
 . rw[if_neg z,h.resolve_left z]
theorem z43 {cW cF:Addr} {w:Wr} {oc:V} {co:HO} {rc:Int} (h:WAt cW cF Hb H w fs oc sent co rc) (hA:∀b∈A,∃o,Hb b=some o) (s:zaj (erO A H) H1):WAt cW cF (K24.rb A Hb H H1) H1 w fs oc sent co rc:=by
 have nA:∀{b:Addr},Hb b=none->b ∉ A:=λhb z=>by obtain⟨o,ho⟩:=hA _ z; rw[hb] at ho; cases ho
 have up:∀{b:Addr} {o:HO},H b=some o->Hb b=none->H1 b=some o:=λh1 h2=>s _ _ (by rw[zl5 (nA h2)]; exact h1);have no:∀{b:Addr} {o:HO},H b=some o->Hb b=none->K24.rb A Hb H H1 b=none:=λh1 h2=>by unfold K24.rb;rw[if_neg (nA h2)];exact zm6 h1 h2
 refine⟨λb o hb=>?_,up h.o h.fa,up h.st h.fst,up h.sd h.fsd,up h.ct h.fct,λf hf=>⟨up (h.fr f hf).o (h.ff f hf).1,up (h.fr f hf).n (h.ff f hf).2⟩,h.na,h.nn,h.ne,h.nc,h.cs,h.nf,no h.o h.fa,no h.st h.fst,no h.sd h.fsd,no h.ct h.fct,λf hf=>⟨no (h.fr f hf).o (h.ff f hf).1,no (h.fr f hf).n (h.ff f hf).2⟩⟩;unfold K24.rb at hb;by_cases z:b∈A
 . rw[if_pos z] at hb; exact hb
 . rw[if_neg z] at hb;unfold gr at hb;cases e:H b with
   | none=>rw[e] at hb; exact hb
   | some v=>rw[e] at hb; exact s _ _ (by rw[zl5 z]; exact h.b _ _ hb)
theorem z2u (s0:zaj H0 Hb) (sb:zaj Hb H) (no:∀b∈A,H0 b=none):zaj H0 (rb A Hb H H1):=λb o hb=>by unfold rb;rw[if_neg (λz=>by rw[no b z] at hb; cases hb)];exact zbj sb _ _ (s0 _ _ hb)
theorem Stk.rb (st:Stk H1 sk ls) (h:∀b∈adL sk ls,b∈A\/H b=none):Stk (K24.rb A Hb H H1) sk ls :=
 ⟨by rw[z0f (h sk List.mem_cons_self)]; exact st.e,λx hx=>⟨by rw[z0f (h _ (zln hx).1)]; exact(st.fr x hx).1,by rw[z0f (h _ (zln hx).2)]; exact(st.fr x hx).2⟩,st.nl,st.nd,st.ns⟩
def One (K:W.Frag) (RF:RFt) (H0:Hp) (fns:List F2.Fd) (C:Prop) (f:Fm) (x:Lf):Prop:=f.fn=x.F.name/\f.row=x.at_/\x.F∈fns/\Alk x.F f.kvs x.kvs/\∃rgs,RF x.F rgs/\Fg K H0 x.F rgs/\x.at_<rgs.length/\(C->∃y g p as,rgs[x.at_]?=some (.call y g p as))
def Tw (K:W.Frag) (RF:RFt) (H0:Hp) (fns:List F2.Fd) (fs:List Fm) (ls:List Lf):Prop:=∀(i:Nat) f x,fs[i]?=some f->ls[i]?=some x->One K RF H0 fns (i+1<ls.length) f x
theorem One.weak {C D:Prop} (h:One K RF H0 fns C f x) (hc:D->C):One K RF H0 fns D f x:=let ⟨a,b,c,d,r,e1,e2,e3,e4⟩:=h; ⟨a,b,c,d,r,e1,e2,e3,λz=>e4 (hc z)⟩
theorem z0o (hl:fs.length=ls.length) (h:Tw K RF H0 fns (fs++[f]) (ls++[x])):∀(i:Nat) f x,fs[i]?=some f->ls[i]?=some x->One K RF H0 fns True f x:=λi g y hg hy=>by have hi:=(List.getElem?_eq_some_iff.mp hy).1;refine(h i g y (by rw[qbd (by omega)]; exact hg) (by rw[qbd hi]; exact hy)).weak (λ_=>?_);rw[List.length_append,qa1];omega
theorem ztf (hl:fs.length=ls.length) (h:∀(i:Nat) f x,fs[i]?=some f->ls[i]?=some x->One K RF H0 fns True f x) (h1:One K RF H0 fns False f x):Tw K RF H0 fns (fs++[f]) (ls++[x]):=λi g y hg hy=>by
 rcases zd4 hg with⟨h2,h3⟩|⟨h2,h3⟩
 . rcases zd4 hy with⟨h4,h5⟩|⟨h4,h5⟩
   . exact(h i g y h3 h5).weak λ_=>trivial
   . omega
 . rcases zd4 hy with⟨h4,h5⟩|⟨h4,h5⟩
   . omega
   . subst h3 h5;refine h1.weak (λz=>?_);rw[List.length_append,qa1] at z;omega
theorem zyr (hl:fs.length=ls.length) (h:∀(i:Nat) f x,fs[i]?=some f->ls[i]?=some x->One K RF H0 fns True f x) (h1:One K RF H0 fns True f x):∀(i:Nat) g y,(fs++[f])[i]?=some g->(ls++[x])[i]?=some y->One K RF H0 fns True g y:=λi g y hg hy=>by
 rcases zd4 hg with⟨h2,h3⟩|⟨h2,h3⟩
 . rcases zd4 hy with⟨h4,h5⟩|⟨h4,h5⟩
   . exact h i g y h3 h5
   . omega
 . rcases zd4 hy with⟨h4,h5⟩|⟨h4,h5⟩
   . omega
   . subst h3 h5; exact h1
theorem Alk.av (a:Alk F k1 k2) (h:(∃i,v=.int i/\Val i)\/∃n,v=.str n/\n∈F2.nms F):∃i,Val i/\Wk.av k1 v=some (.int i)/\Wk.av k2 v=some (.int i):=by
 rcases h with⟨i,rfl,hi⟩|⟨n,rfl,hn⟩
 . exact⟨i,hi,rfl,rfl⟩
 . obtain⟨i,h1,h2,h3⟩:=a.v n hn;exact⟨i,h1,h2,h3⟩
theorem zwm (h:Fg K H F rgs) (hr:rg∈rgs) (hv:V.str y∈rg.parts):y∈F2.nms F:=by
 rcases h.atom hr hv with⟨i,e,_⟩|⟨n,e,hn⟩
 . cases e
 . cases e; exact hn
theorem zwk (al:Alk F k1 k2):∀{as:List V},(∀a∈as,(∃i,a=.int i/\Val i)\/∃n,a=.str n/\n∈F2.nms F)->∃vals:List V,as.length=vals.length/\(∀v∈vals,∃i,v=.int i/\Val i)/\∀(i:Nat) a v,as[i]?=some a->vals[i]?=some v->av k1 a=some v/\av k2 a=some v
 | [],_=>⟨[],rfl,(λ_ h=>by cases h),(λ_ _ _ h=>by cases h)⟩
 | a :: as,h=>by
   obtain⟨i,h1,h2,h3⟩:=al.av (h a List.mem_cons_self);obtain⟨vals,e1,e2,e3⟩:=zwk al (as:=as) λb hb=>h b (List.mem_cons_of_mem _ hb);refine⟨.int i :: vals,by simp [e1],λv hv=>?_,λj b v hb hv=>?_⟩
   . rcases List.mem_cons.mp hv with rfl|hv
     . exact⟨i,rfl,h1⟩
     . exact e2 v hv
   . cases j with
     | zero=>cases hb; cases hv; exact⟨h2,h3⟩
     | succ j=>exact e3 j b v (by simpa using hb) (by simpa using hv)
theorem zxx {x':Lf} (h1:x'.l=x.l) (h2:x'.d=x.d):adL sk (ls0++[x'])=adL sk (ls0++[x]):=by unfold adL;simp only[List.map_append,qa2,qcm,h1,h2]
theorem z1v (h:b∈adL sk ls0):b∈adL sk (ls0++[x]):=by
 unfold adL at *;simp only[List.map_append,List.mem_cons,List.mem_append,qa2,qcm] at *;rcases h with h|h|h
 . exact .inl h
 . exact .inr (.inl (.inl h))
 . exact .inr (.inr (.inl h))
theorem z20 (h:b∈adL sk (ls0++[x])):b∈adL sk ls0\/b=x.l\/b=x.d:=by
 unfold adL at *;simp only[List.map_append,List.mem_cons,List.mem_append,qa2,qcm,qbi,or_false] at *;rcases h with h|(h|h)|h|h
 . exact .inl (.inl h)
 . exact .inl (.inr (.inl h))
 . exact .inr (.inl h)
 . exact .inl (.inr (.inr h))
 . exact .inr (.inr h)
theorem z4b (h:b ∉ A) (hb:Hb b=some o) (s:zaj Hb H):rb A Hb H H1 b=some o:=by unfold rb;rw[if_neg h];exact zbj s _ _ hb
abbrev RFp (ps:List (F2.Fd×List RG)):RFt:=λF rs=>∃i:Nat,ps[i]?=some (F,rs)
abbrev c0:Cn:=⟨[],0⟩
theorem zw5 {w:Wr} {fs0:List Fm} {ps:List (F2.Fd×List RG)} {Q:VK} {Q':V->VK} (S:Sta K t (RFp ps) H0 Hb H w (fs0++[f]) (ps.map (·.1)) sk (ls0++[x]) sl sent sv) (P:Prg K H0 pl ps ns ar) (hrf:RFp ps x.F rgs) (fg:Fg K H0 x.F rgs) (hrg:rgs[x.at_]?=some rg) (few:ls0.length+2<=100)
   (hQ:∀Hb1 H1 dv,WA t Hb1 H1 w (fs0++[f]) .non sent c0->zaj H0 Hb1->z48 K t Hb1 w fs0 f sent c0 (ps.map (·.1)) x.F (Q' dv) rg->Q dv H1)
   (go:∀Hb2 H2 fs2 ls2,Sta K t (RFp ps) H0 Hb2 H2 w fs2 (ps.map (·.1)) sk ls2 sl sent sv->ls2≠[]->fs2.length<=fs0.length+2->Q' .non .non H2)
   (out:∀Hb2 H2 fs2 ls2 tp tq v,Sta K t (RFp ps) H0 Hb2 H2 w fs2 (ps.map (·.1)) sk ls2 sl (sent++[.int v]) sv->ls2≠[]->fs2.length<=fs0.length+2->Hb2 tp=some (.tup [.str "out",.int v])->Hb2 tq=some (.tup [.str "out",.int v])->Q' (.ref tp) (.ref tq) H2)
   (fin:∀Hb2 H2 a v,rg=.back a->av x.kvs a=some v->WA t Hb2 H2 w [] v sent c0->zaj H0 Hb2->Hb2 sk=some (.lst [])->Hb2 sl=some (.lst sv)->Q' .non .non H2):z5l K H sk ls0 x ps Q rg:=by
 have hlen:fs0.length=ls0.length:=by have:=S.len; rw[List.length_append,List.length_append] at this; simpa using this
 obtain⟨m1,m2,m3,al,_⟩:=S.tw ls0.length f x (by rw[<- hlen]; exact zdr _ _) (zdr _ _);have low:=z0o hlen S.tw;have hA:∀b∈adL sk (ls0++[x]),∃o,Hb b=some o:=λb hb=>S.st.all hb;have wa1:∀H1,zaj (erO (adL sk (ls0++[x])) H) H1->WA t (rb (adL sk (ls0++[x])) Hb H H1) H1 w (fs0++[f]) .non sent c0:=λH1 s=>z43 S.wa hA s;have same0:∀H1,zaj H0 (rb (adL sk (ls0++[x])) Hb H H1):=λH1=>z2u S.s0 S.wa.b S.no;have se1:∀H1,rb (adL sk (ls0++[x])) Hb H H1 sl=some (.lst sv):=λH1=>z4b S.sn S.se S.wa.b;have hm:rg∈rgs:=List.mem_of_getElem? hrg;have lk:=al.l;have put_:∀(ks1 ks2:List (Key×V)) H1,Alk x.F ks1 ks2->x.at_+1<rgs.length->Stk H1 sk (ls0++[{ x with kvs:=ks2,at_:=x.at_+1 }])->∀Hb2 H2 st2,zaj (rb (adL sk (ls0++[x])) Hb H H1) Hb2->WA t Hb2 H2 w (fs0++[{ f with kvs:=ks1,row:=x.at_+1 }]) .non st2 c0->Sta K t (RFp ps) H0 Hb2 H2 w (fs0++[{ f with kvs:=ks1,row:=x.at_+1 }]) (ps.map (·.1)) sk (ls0++[{ x with kvs:=ks2,at_:=x.at_+1 }]) sl st2 sv:=λks1 ks2 H1 al2 hlt st Hb2 H2 st2 s2 h2=>by have ead:=zxx (sk:=sk) (ls0:=ls0) (x:=x) (x':={ x with kvs:=ks2,at_:=x.at_+1 }) rfl rfl;exact⟨h2,S.fl,(same0 H1).trans s2,(st.rb (λb hb=>.inl (by rw[<- ead]; exact hb))).mono s2,(by rw[ead]; exact S.no),(by simp [hlen]),(by simp; omega),ztf hlen low ⟨m1,rfl,m3,al2,rgs,hrf,fg,hlt,λz=>z.elim⟩,s2 _ _ (se1 H1),(by rw[ead]; exact S.sn),S.s1⟩
 cases rg with
 | out a =>
   obtain⟨v,vv,w1,w2⟩:=al.av (fg.atom hm (v:=a) (by simp [RG.parts,RG.gx,RG.as]));obtain⟨way,hlt⟩:=fg.way x.at_ _ hrg (λ_ z=>by cases z);refine⟨v,w2,λH1 tp s htp etp st=>hQ _ H1 _ (wa1 H1 s) (same0 H1) ⟨x.at_+1,by rw[m2]; exact way,.int v,w1,λHb2 H2 tq s2 h2 e2=>?_⟩⟩;exact out Hb2 H2 _ _ tp tq v (put_ f.kvs x.kvs H1 al hlt st Hb2 H2 _ s2 h2) (by simp) (by simp) (s2 _ _ (by rw[z0f (.inr htp)]; exact etp)) e2
 | copy y a =>
   obtain⟨v,vv,w1,w2⟩:=al.av (fg.atom hm (v:=a) (by simp [RG.parts,RG.gx,RG.as]));have hy:=zwm fg hm (y:=y) (by simp [RG.parts,RG.gx,RG.as]);obtain⟨way,hlt⟩:=fg.way x.at_ _ hrg (λ_ z=>by cases z);exact⟨v,w2,λH1 s st=>hQ _ H1 _ (wa1 H1 s) (same0 H1) ⟨x.at_+1,by rw[m2]; exact way,y,.int v,by show(av f.kvs a).map _=_; rw[w1]; rfl,λHb2 H2 s2 h2=>go Hb2 H2 _ _ (put_ _ _ H1 (al.put hy vv) hlt st Hb2 H2 _ s2 h2) (by simp) (by simp)⟩⟩
 | op y s a b =>
   obtain⟨i,vi,a1,a2⟩:=al.av (fg.atom hm (v:=a) (by simp [RG.parts,RG.gx,RG.as]));obtain⟨j,vj,b1,b2⟩:=al.av (fg.atom hm (v:=b) (by simp [RG.parts,RG.gx,RG.as]));have hy:=zwm fg hm (y:=y) (by simp [RG.parts,RG.gx,RG.as]);obtain⟨way,hlt⟩:=fg.way x.at_ _ hrg (λ_ z=>by cases z);have vv:Val (K21.valOf s i j):=K21.val_bound s vi.1 vj.1 vi.2 vj.2;obtain⟨i0,hi0⟩:=id hrf;exact⟨i,j,a2,b2,((P.ok i0 _ hi0).cl _ hm).2 _ _ _ _ rfl,λH1 s1 st=>hQ _ H1 _ (wa1 H1 s1) (same0 H1) ⟨x.at_+1,by rw[m2]; exact way,y,_,zrq a1 b1 ⟨vi.1,vj.1,vi.2,vj.2⟩,λHb2 H2 s2 h2=>go Hb2 H2 _ _ (put_ _ _ H1 (al.put hy vv) hlt st Hb2 H2 _ s2 h2) (by simp) (by simp)⟩⟩
 | call y g p as =>
   obtain⟨i0,hi0⟩:=id hrf;obtain⟨j,hj3,hg,hal⟩:=((P.ok i0 _ hi0).cl _ hm).1 _ _ _ _ rfl;obtain⟨⟨F,r0⟩,hj⟩:∃p,ps[j]?=some p:=⟨_,List.getElem?_eq_getElem (by rw[P.len]; exact hj3)⟩
   have pj:=P.ok j _ hj;have hgn:F.name=g:=by have:=pj.nm; rw[hg] at this; exact(Option.some.inj this).symm
   have hpn:F.ps.length=as.length:=by have:=pj.pl; rw[hal] at this; exact(Option.some.inj this).symm
   have hFm:F∈ps.map (·.1):=List.mem_map.mpr ⟨_,List.mem_of_getElem? hj,rfl⟩;have h10:=((fg.ok _ hm).cl _ _ _ _ rfl).2;obtain⟨vals,e1,e2,e3⟩:=zwk al (as:=as) (λa ha=>fg.atom hm (by simp [RG.parts,RG.gx,RG.as,ha]));obtain⟨r,hr⟩:∃r,x.F.rs[x.at_]?=some r:=⟨_,List.getElem?_eq_getElem (by rw[fg.len]; exact(List.getElem?_eq_some_iff.mp hrg).1)⟩
   have hq:=fg.row _ _ _ hr hrg;refine⟨j,F,r0,vals,hj,hgn,e1,λi a v ha hv=>(e3 i a v ha hv).2,e2,h10,by omega,λH1 x' s hF hat hal hl hd st=>hQ _ H1 _ (wa1 H1 s) (same0 H1) ⟨F,vals,hFm,hgn,(same0 H1).tup (hq.ar _ _ _ _ rfl),e1,λi a v ha hv=>(e3 i a v ha hv).1,by omega,by omega,Nat.le_trans pj.fg.nl (by decide),by have:=pj.fg.pl; show F.ps.length<=1000; have h6:F.ps.length<=6:=this; omega,λHb2 H2 f' s2 h2 n1 n2 n3=>?_⟩⟩;have sub:∀b∈adL sk (ls0++[x]++[x']),b∈adL sk (ls0++[x])\/H b=none:=λb hb=>by
     rcases z20 hb with h|rfl|rfl
     . exact .inl h
     . exact .inr hl
     . exact .inr hd
   refine go Hb2 H2 _ _ ⟨h2,S.fl,(same0 H1).trans s2,(st.rb sub).mono s2,λb hb=>?_,(by simp [hlen]),(by simp; omega),?_,s2 _ _ (se1 H1),λz=>?_,S.s1⟩ (by simp) (by simp)
   . rcases sub b hb with h|h
     . exact S.no b h
     . exact(S.s0.trans S.wa.b).free h
   . refine ztf (by simp [hlen]) (zyr hlen low ⟨m1,m2,m3,al,rgs,hrf,fg,(List.getElem?_eq_some_iff.mp hrg).1,λ_=>⟨y,g,p,as,hrg⟩⟩) ⟨by rw[n1,hF],by rw[n2,hat],by rw[hF]; exact hFm,by rw[hF,n3]; exact hal,r0,by rw[hF]; exact⟨j,hj⟩,by rw[hF]; exact pj.fg,by rw[hat]; exact pj.l0,λz=>z.elim⟩
   . rcases sub sl z with h|h
     . exact S.sn h
     . rw[S.wa.b _ _ S.se] at h; cases h
 | back a =>
   obtain⟨v,vv,w1,w2⟩:=al.av (fg.atom hm (v:=a) (by simp [RG.parts,RG.gx,RG.as]));refine⟨v,w2,λhz H1 s st=>?_,λls1 y hz=>?_⟩
   . subst hz;have hf0:fs0=[]:=qde hlen;subst hf0;refine hQ _ H1 _ (wa1 H1 s) (same0 H1) ⟨.int v,w1,.inl ⟨rfl,λH2 h2=>fin _ H2 a _ rfl w2 h2 (same0 H1) ?_ (se1 H1)⟩⟩;exact(st.rb (A:=adL sk ([]++[x])) (Hb:=Hb) (H:=H) (λb hb=>.inl (by rw[List.mem_singleton.mp hb];exact List.mem_cons_self))).e
   . subst hz;obtain⟨fs1,g,rfl⟩:∃fs1 g,fs0=fs1++[g]:=by
       rcases qbj fs0 with e|⟨fs1,g,e⟩
       . rw[e] at hlen; simp at hlen
       . rw[qbk] at e; exact⟨fs1,g,e⟩
     have hlen1:fs1.length=ls1.length:=by simpa using hlen
     obtain⟨p1,p2,p3,p4,rgy,p5,p6,p7,p8⟩:=low ls1.length g y (by rw[<- hlen1]; exact zdr _ _) (zdr _ _);obtain⟨z,g',pa,as,hc⟩:=p8 trivial;have ly:=p4.l;obtain⟨way,hlt⟩:=p6.way y.at_ _ hc (λ_ z=>by cases z);obtain⟨r,hr⟩:∃r,y.F.rs[y.at_]?=some r:=⟨_,List.getElem?_eq_getElem (by rw[p6.len]; exact p7)⟩
     have hq:=p6.row _ _ _ hr hc;have hzn:=zwm p6 (List.mem_of_getElem? hc) (y:=z) (by simp [RG.parts,RG.gx,RG.as]);refine⟨by omega,rgy,z,g',pa,as,p6.mono (S.s0.trans S.wa.b),hc,λH1 s st=>hQ _ H1 _ (wa1 H1 s) (same0 H1) ⟨.int v,w1,.inr ⟨fs1,g,ps.map (·.1),y.F,r,_,z,y.at_+1,rfl,S.fl.mono (same0 H1),p3,p1.symm,by rw[p2]; exact hr,(same0 H1).tup hq.it,rfl,by rw[p2]; exact way,by omega,λH2 h2=>?_⟩⟩⟩;have ead:=zxx (sk:=sk) (ls0:=ls1) (x:=y) (x':={ y with kvs:=zbx y.kvs (Sum.inr z:Key) (.int v),at_:=y.at_+1 }) rfl rfl;have sub:∀b∈adL sk (ls1++[{ y with kvs:=zbx y.kvs (Sum.inr z:Key) (.int v),at_:=y.at_+1 }]),b∈adL sk (ls1++[y]++[x]):=λb hb=>z1v (by rw[<- ead]; exact hb);refine go _ H2 _ _ ⟨h2,S.fl,same0 H1,st.rb (λb hb=>.inl (sub b hb)),λb hb=>S.no b (sub b hb),(by simp [hlen1]),(by simp at few ⊢; omega),?_,se1 H1,λhb=>S.sn (sub _ hb),S.s1⟩ (by simp) (by simp);exact ztf hlen1 (z0o hlen1 (λi f' x' h1 h2=>(low i f' x' h1 h2).weak λ_=>trivial)) ⟨p1,rfl,p3,p4.put hzn vv,rgy,p5,p6,hlt,λz=>z.elim⟩
 | _=>exact(fg.kd _ hm).elim
theorem Sta.snd {w:Wr} {sv':List V} (S:Sta K t RF H0 Hb H w fs fns sk ls sl sent sv):Sta K t RF H0 (upd Hb sl (.lst sv')) (upd H sl (.lst sv')) w fs fns sk ls sl sent sv':=by have ne:∀b∈adL sk ls,b≠sl:=λb hb z=>S.sn (z ▸ hb);refine⟨S.wa.put S.se,S.fl,S.s0.upd S.s1,⟨by rw[zag (ne sk List.mem_cons_self)]; exact S.st.e,λx hx=>⟨by rw[zag (ne _ (zln hx).1)]; exact(S.st.fr x hx).1,by rw[zag (ne _ (zln hx).2)]; exact(S.st.fr x hx).2⟩,S.st.nl,S.st.nd,S.st.ns⟩,S.no,S.len,S.few,S.tw,zab,S.sn,S.s1⟩
theorem z1y (h:Fg K H F rgs) (hr:rg∈rgs) (al:Alk F k1 k2):∃u z,rg.items[1]?=some u/\av k2 u=some (.int z)/\∀a,rg=.back a->u=a:=by
 have kd:=h.kd rg hr;cases rg with
 | out a=>obtain⟨i,_,_,e⟩:=al.av (h.atom hr (v:=a) (by simp [RG.parts,RG.gx,RG.as])); exact⟨_,i,rfl,e,λ_ z=>by cases z⟩
 | copy x a=>obtain⟨i,_,_,e⟩:=al.av (h.atom hr (v:=.str x) (by simp [RG.parts,RG.gx,RG.as])); exact⟨_,i,rfl,e,λ_ z=>by cases z⟩
 | op x s a b=>obtain⟨i,_,_,e⟩:=al.av (h.atom hr (v:=.str x) (by simp [RG.parts,RG.gx,RG.as])); exact⟨_,i,rfl,e,λ_ z=>by cases z⟩
 | call x g p as=>obtain⟨i,_,_,e⟩:=al.av (h.atom hr (v:=.str x) (by simp [RG.parts,RG.gx,RG.as])); exact⟨_,i,rfl,e,λ_ z=>by cases z⟩
 | back a=>obtain⟨i,_,_,e⟩:=al.av (h.atom hr (v:=a) (by simp [RG.parts,RG.gx,RG.as])); exact⟨_,i,rfl,e,λ_ z=>by cases z; rfl⟩
 | _=>exact kd.elim
def sp_law (K:W.Frag):Sp:=λvs H Q _=>∃(a:Addr) (ns:List Int),vs=[.ref a]/\SqL K H a (ns.map V.int)/\ns.length<=63/\∀H',Q (.bl true) H'
end
end K24
namespace K24
open PySem L2 K12
section
variable {P:Program} {w:World} {K:W.Frag} {mg:Str->Option Value} {base:Heap} {t:Adr}
theorem zrm:FnScope ["names"] ["names"] (zai zhn):=by walk_at "s"
theorem zl8 (T:Txt K mg t):FnOk P w K mg base CX0 1 t.znv t.zn4 ["names"] (K12.sp_each_once K):=by
 refine T.each_once.F.ok zrm (λvs H Q E h=>?_) (λcdv A outer s H vs Q E hr h=>?_)
 . obtain⟨p0,ss,rfl,hS,hl,q⟩:=h;rfl
 . obtain⟨p0,ss,rfl,hS,hl,q⟩:=h;refine⟨_,(@zac _ _ _ _ _ (@zas _ _ _ _ (za6 (zrc rfl) (by rfl) T.b_list zj9 (@zaa _ _ _ _ _ (za6 (zl9 rfl) (by rfl) T.b_dict zvz (@zaa _ _ _ _ _ (zh0 (N':=["name"]) (js:=[none]) (by kernel_rfl) rfl (zgc (pv 0)) zdz (λ_ _ _ _=>(za0 (i:=0) (show(["name"]:List Str).Nodup by decide +kernel) rfl (Or.inl rfl) (.inr rfl))) (λ_ _ _ _=>zfm) (λ_ _ _ _=>(@zcc _ _ _ _ _ (@zaa _ _ _ _ _ (pv 0) (@zaa _ _ _ _ _ zj4 zaf (by rfl)) (by rfl))))) zaf (by rfl))) zaf (by rfl)))) zan),?_⟩;refine⟨_,rfl,p0,rfl,⟨_,hS⟩,λp hp=>znf (xs:=ss.map V.str) (by rw[List.length_map]; omega) (λi acc H2=>i<=ss.length/\zaj H H2/\H2 p=some (.lst acc)/\∃ps:List Addr,acc=ps.map V.ref/\Paired (λa (kv:Key×V)=>SqT K H2 a [kV kv.1,kv.2]) ps (tru (ss.take i))) ⟨qa4 _,zaj.new hp,zab,[],rfl,.nil⟩ ?_ ?_ ?_⟩
   . rintro i acc H2 hi ⟨hi',s2,h2,ps,rfl,hps⟩;refine⟨h2,?_,s2.seq hS⟩;have:=Paired.length hps;rw[List.length_map,this];unfold tru;rw[List.length_map,qay];omega
   . rintro i x acc H2 hx ⟨hi',s2,h2,ps,rfl,hps⟩;have hi:i<ss.length:=by have:=(List.getElem?_eq_some_iff.mp hx).1;rw[List.length_map] at this;exact this
     rw[List.getElem?_map] at hx;have hx:V.str ss[i]=x:=by simpa [hi] using hx
     subst hx;refine⟨_,rfl,(by show 2<=sizeLine; decide),λa ha=>?_⟩;have hap:a≠p:=λz=>by rw[z,h2] at ha; cases ha
     have e:(upd H2 a (.tup [V.str ss[i],V.bl true])) p=some (.lst (ps.map V.ref)):=by rw[zag hap.symm]; exact h2
     refine⟨e,hi,?_,zab,ps++[a],by rw[List.map_append]; rfl,?_⟩
     . exact(s2.trans (zaj.new ha)).upd hp
     . have e2:tru (ss.take (i+1))=tru (ss.take i)++[(Sum.inr ss[i],V.bl true)]:=by unfold tru;rw[qbg,List.map_append];simp [hi]
       rw[e2];refine Paired.snoc (Paired.mapP hps λb kv z=>z3b ((zaj.new ha).tup z) e) ?_;exact SqT.of (by rw[zag hap]; exact zab)
   . rintro acc H2 ⟨hi',s2,h2,ps,rfl,hps⟩;have e0:ss.take (ss.map V.str).length=ss:=by rw[List.length_map]; exact qbs
     rw[e0] at hps;refine⟨p,ps,tru ss,rfl,SqL.of h2,hps,by unfold tru; rw[List.length_map]; omega,λd hd=>?_⟩;rw[zzj];refine⟨d,tru (onceL ss),rfl,zab,λl hl'=>?_⟩;rw[zyx];exact q l _ ((s2.trans (zaj.new hd)).trans (zaj.new hl')) (s2.free ((zaj.new hd).free hl')) zab
theorem zzn:FnScope ["row"] ["row"] (zai zpe):=by walk_at "s"
theorem zy9 (T:Txt K mg t):FnOk P w K mg base CX0 1 t.zya t.zyg ["row"] (K12.sp_gives K):=by
 refine T.gives.F.ok zzn (λvs H Q E h=>?_) (λcdv A outer s H vs Q E hr h=>?_)
 . obtain⟨r,xs,g,as,rfl,hr,hrow,q⟩:=h;rfl
 . obtain⟨r,xs,g,as,rfl,hr,hrow,q⟩:=h;refine⟨_,(@zac _ _ _ _ _ (@zas _ _ _ _ (@zjh _ _ _ _ _ _ _ _ (@zar _ _ _ _ _ _ _ _ ziu (@zal _ _ _ _ _ _ _ zaq (pv 0) zad (λ_ _=>rfl)) (zhb T.zoo) (by with_unfolding_all rfl)) (@zal _ _ _ _ _ _ _ zaq (pv 0) zad (λ_ _=>rfl)) zhc)) zan),?_⟩;obtain⟨kd,h0,hc⟩:=zvv hrow;refine⟨_,rfl,r,xs,_,_,rfl,rfl,hr,h0,t.zp2,giving.map V.str,rfl,.inr (T.z0n H),rfl,zsg,_,rfl,?_⟩;rcases hc with⟨x,rfl,e,h1⟩|⟨rfl,e⟩
   . exact zhl e ⟨_,rfl,r,xs,_,_,rfl,rfl,hr,h1,q⟩
   . exact zf7 (z4y e) q
theorem zte:FnScope ["row"] ["row"] (zai zjf):=by walk_at "s"
theorem zso (T:Txt K mg t):FnOk P w K mg base CX0 1 t.zo4 t.zo7 ["row"] (K12.sp_atoms_of K):=by
 refine T.atoms_of.F.ok zte (λvs H Q E h=>?_) (λcdv A outer s H vs Q E hr h=>?_)
 . obtain⟨r,xs,g,as,rfl,hr,hrow,hl,q⟩:=h;rfl
 . obtain⟨r,xs,g,as,rfl,hr,hrow,hl,q⟩:=h;refine⟨_,(@zac _ _ _ _ _ (@zbd _ _ _ _ _ _ _ _ (@zar _ _ _ _ _ _ _ _ zcp (@zal _ _ _ _ _ _ _ zaq (pv 0) zad (λ_ _=>rfl)) zaz (zax _)) (@zah _ _ _ (@zas _ _ _ _ (za6 zfb (by rfl) T.b_list zj9 (@zaa _ _ _ _ _ (@zal _ _ _ _ _ _ _ zaq (pv 0) zad (λ_ _=>rfl)) zaf (by rfl))))) zan) (@zah _ _ _ (@zas _ _ _ _ (zh0 (N':=["place","row"]) (js:=[none,some 0]) (by kernel_rfl) rfl (zqy (@zal _ _ _ _ _ _ _ z4s (zhb T.zp3) (@zal _ _ _ _ _ _ _ zaq (pv 0) zad (λ_ _=>rfl)) (λ_ _=>rfl))) zdz (λ_ _ _ _=>(za0 (i:=0) (show(["place","row"]:List Str).Nodup by decide +kernel) rfl (Or.inl rfl) (.inr rfl))) (λ_ _ _ _=>zfm) (λ_ _ _ _=>(@zal _ _ _ _ _ _ _ (show IxR _ (z4t K) from zaq) (pv 1) (pv 0) (λ_ _=>rfl))))))),?_⟩;obtain⟨kd,h0,hc⟩:=zup hrow;refine⟨_,rfl,r,xs,_,_,rfl,rfl,hr,h0,rfl,_,rfl,?_⟩;rcases hc with⟨rfl,p,h3,hp⟩|⟨hne,pl,hk,hpl,hat⟩
   . exact zhl (decide_eq_true rfl) ⟨_,rfl,r,xs,_,_,rfl,rfl,hr,h3,p,as,rfl,.inr hp,λl hl=>q l _ (zaj.new hl) hl zab⟩
   . refine zf7 (λh=>hne (V.str.inj (zb2 h))) ?_;refine⟨_,rfl,r,xs,_,_,rfl,rfl,hr,h0,t.z3c,tabl,_,_,rfl,rfl,T.z6y,hk,λa ha=>?_⟩;refine⟨a,rfl,⟨_,ha⟩,λp hp=>ztn (xs:=pl.map V.int) (by rw[List.length_map]; omega) (λi acc H2=>acc=as.take i/\H2=upd H p (.lst acc)) ⟨rfl,rfl⟩ ?_ ?_ ?_⟩
     . rintro i acc H2 hi ⟨rfl,rfl⟩;exact⟨zab,by rw[qay]; omega,(zaj.new hp).tup ha⟩
     . rintro i x acc H2 hx ⟨rfl,rfl⟩;have hi:i<as.length:=by have:=(List.getElem?_eq_some_iff.mp hx).1;rw[List.length_map] at this;omega
       obtain⟨p1,hp1,hp2⟩:=hat i as[i] (by simp [hi]);rw[List.getElem?_map,hp1] at hx;have hx:V.int p1=x:=by simpa using hx
       subst hx;refine⟨_,rfl,_,rfl,r,xs,_,_,rfl,rfl,(zaj.new hp).tup hr,hp2,zab,?_,znq⟩;rw[qbg];simp [hi]
     . rintro acc H2 ⟨rfl,rfl⟩;have e:(as.take (pl.map V.int).length)=as:=by rw[List.length_map,hpl]; exact qbs
       exact q p _ (zaj.new hp) hp (by rw[zab,e])
theorem zz3:FnScope ["row"] ["row"] (zai zpc):=by walk_at "s"
theorem zy3 (T:Txt K mg t):FnOk P w K mg base CX0 2 t.zyb t.zyi ["row"] (K12.sp_reads K):=by
 have G_each_once:=zl8 (P:=P) (w:=w) (base:=base) T;have G_atoms_of:=zso (P:=P) (w:=w) (base:=base) T;refine T.reads.F.ok zz3 (λvs H Q E h=>?_) (λcdv A outer s H vs Q E hr h=>?_)
 . obtain⟨r,xs,g,as,rfl,hrw,hrow,hl,hat,q⟩:=h;rfl
 . obtain⟨r,xs,g,as,rfl,hrw,hrow,hl,hat,q⟩:=h;refine⟨_,(@zac _ _ _ _ _ (@zas _ _ _ _ (zbv T.each_once G_each_once (hr.mono (by decide)) (@zaa _ _ _ _ _ (zh0 (N':=["atom"]) (js:=[none]) (by kernel_rfl) rfl (zgc (zbv T.atoms_of G_atoms_of (hr.mono (by decide)) (@zaa _ _ _ _ _ (pv 0) zaf (by rfl)))) zdz (λ_ _ _ _=>(za0 (i:=0) (show(["atom"]:List Str).Nodup by decide +kernel) rfl (Or.inl rfl) (.inr rfl))) (λ_ _ _ _=>(z18 (zf9 (zbm (show zha _ (.builtin "isinstance") (rIsi K) from zd7) (by rfl) T.b_isinstance zbe (@zaa _ _ _ _ _ (pv 0) (@zaa _ _ _ _ _ (zhy (v:=V.ty "str") rfl T.b_str zju rfl) zaf (by rfl)) (by rfl)))))) (λ_ _ _ _=>(pv 0))) zaf (by rfl)))) zan),?_⟩;refine⟨_,rfl,r,xs,g,as,rfl,hrw,hrow,hl,λl0 H1 s1 n1 e1=>?_⟩;refine⟨l0,rfl,⟨_,SqL.of e1⟩,λp hp=>znf (xs:=as) (by omega) (λi acc H2=>acc=(strsOf (as.take i)).map V.str/\H2=upd H1 p (.lst acc)) ⟨rfl,rfl⟩ ?_ ?_ ?_⟩
   . rintro i acc H2 hi ⟨rfl,rfl⟩;refine⟨zab,?_,(zaj.new hp).seq (SqL.of e1)⟩;have:=strsOf_len (as.take i);rw[List.length_map];rw[qay] at this;omega
   . rintro i x acc H2 hx ⟨rfl,rfl⟩;have hi:i<as.length:=(List.getElem?_eq_some_iff.mp hx).1;have e2:strsOf (as.take (i+1))=strsOf (as.take i)++strsOf [x]:=by rw[qbg,hx,strsOf_append];rfl
     rcases hat x (List.mem_of_getElem? hx) with⟨s,rfl,hn⟩|⟨z,rfl⟩
     . refine⟨_,rfl,_,_,_,true,rfl,.str _,rfl,_,rfl,?_⟩;refine⟨_,rfl,zab,?_,znq⟩;rw[e2,List.map_append];rfl
     . refine⟨_,rfl,_,_,_,false,rfl,.int _,rfl,_,rfl,?_⟩;refine⟨?_,?_⟩
       . rw[e2,zvr,qbc]
       . rfl
   . rintro acc H2 ⟨rfl,rfl⟩;rw[qbs];have hle:=strsOf_len as;exact⟨p,strsOf as,rfl,SqL.of zab,by omega,λl H3 s3 n3 e3=>q l H3 ((s1.trans (zaj.new hp)).trans s3) (s1.free ((zaj.new hp).free n3)) e3⟩
theorem zh1:FnScope ["function","found","row","given"] ["function"] (zai zjb):=by walk_at "s"
theorem zsw (T:Txt K mg t):FnOk P w K mg base CX0 3 t.zo6 t.zpb ["function"] (K12.sp_names_of K):=by
 have G_each_once:=zl8 (P:=P) (w:=w) (base:=base) T;have G_gives:=zy9 (P:=P) (w:=w) (base:=base) T;have G_reads:=zy3 (P:=P) (w:=w) (base:=base) T;refine T.names_of.F.ok zh1 (λvs H Q E h=>?_) (λcdv A outer s H vs Q E hr h=>?_)
 . obtain⟨f,ps,ds,rfl,hf,q⟩:=h;rfl
 . obtain⟨f,ps,ds,rfl,hf,q⟩:=h;refine⟨_,(@zac _ _ _ _ _ (@zay _ _ 1 _ _ _ _ zh1.nd rfl (Or.inl rfl) (za6 zfb (by rfl) T.b_list zj9 (@zaa _ _ _ _ _ (@zal _ _ _ _ _ _ _ zaq (pv 0) zad (λ_ _=>rfl)) zaf (by rfl))) (by rfl) (by first|exact .inl rfl|exact .inr rfl|assumption)) (@zac _ _ _ _ _ (zea PassesOwn.never rfl (zqy (@zal _ _ _ _ _ _ _ zaq (pv 0) zad (λ_ _=>rfl))) (za0 (i:=2) zh1.nd rfl (Or.inl rfl)) (@zac _ _ _ _ _ (@zay _ _ 3 _ _ _ _ zh1.nd rfl (Or.inl rfl) (zbv T.gives G_gives (hr.mono (by decide)) (@zaa _ _ _ _ _ (pv 2) zaf (by rfl))) (by rfl) (by first|exact .inl rfl|exact .inr rfl|assumption)) (@zac _ _ _ _ _ (@zbd _ _ _ _ _ _ _ _ (zoz (zsm (pv 3))) (@zah _ _ _ (@zbp _ _ _ _ (zhm qat qaz qa0 zb0 (pv 1) (@zaa _ _ _ _ _ (pv 3) zaf (by rfl))) (by rfl))) zan) (@zah _ _ _ (@zbp _ _ _ _ (zhm qat qdx qdy zre (pv 1) (@zaa _ _ _ _ _ (zbv T.reads G_reads (hr.mono (by decide)) (@zaa _ _ _ _ _ (pv 2) zaf (by rfl))) zaf (by rfl))) (by rfl)))))) (@zah _ _ _ (@zas _ _ _ _ (zbv T.each_once G_each_once (hr.mono (by decide)) (@zaa _ _ _ _ _ (pv 1) zaf (by rfl))))))),?_⟩;obtain⟨n,b,pp,rr,hF,hP,hR⟩:=hf.fn;refine⟨_,rfl,f,_,_,_,rfl,rfl,hF,rfl,pp,_,rfl,.inr hP,λl hl=>?_⟩;refine⟨_,rfl,f,_,_,_,rfl,rfl,(zaj.new hl).tup hF,rfl,?_⟩;refine⟨rr,rfl,⟨_,(zaj.new hl).tup hR⟩,zwn (xs:=ds.map λd=>V.ref d.r) (λi σ H2=>zaj H H2/\∃v1 v2 fs,σ=[some (.ref f),some (.ref l),v1,v2]/\H2 l=some (.lst (List.map V.str fs))/\onceL fs=onceL (ps++(ds.take i).flatMap rowStrs)/\fs.length<=100+11 * i) ⟨zaj.new hl,_,_,ps,rfl,zab,by simp,by have:=hf.pl; omega⟩ ?_ ?_ ?_⟩
   . rintro i σ H2 hi ⟨s2,_⟩;exact s2.tup hR
   . rintro i x σ H2 hx ⟨s2,v1,v2,fs,rfl,h2,ho,hlen⟩;have hi:i<ds.length:=by have:=(List.getElem?_eq_some_iff.mp hx).1;rw[List.length_map] at this;exact this
     rw[List.getElem?_map] at hx;have hx:V.ref ds[i].r=x:=by simpa [hi] using hx
     subst hx;have hd:=hf.rows ds[i] (qcb hi);have hds:=hf.dl;have ef:(ds.take (i+1)).flatMap rowStrs=(ds.take i).flatMap rowStrs++rowStrs ds[i]:=by rw[qbg,List.flatMap_append];simp [hi]
     have hol:=onceL_len (strsOf ds[i].as);have hsl:=strsOf_len ds[i].as;have hal:=hd.len;obtain⟨xs,hr1,hr2⟩:=(hd.mono s2).row;refine⟨_,rfl,ds[i].r,xs,_,_,rfl,hr1,hr2,?_⟩;refine⟨_,rfl,_,rfl,?_⟩;cases hg:ds[i].gx with
     | none =>
       refine z3h ⟨_,rfl,.inl ⟨rfl,_,SqL.of h2⟩,_,rfl,ds[i].r,xs,_,_,rfl,hr1,hr2,hd.len,hd.ats,λl4 H4 s4 n4 e4=>?_⟩;refine⟨l,l4,_,_,rfl,rfl,s4 _ _ h2,e4,zpy (by rw[List.length_map,List.length_map]; omega),?_⟩;refine⟨(s2.trans s4).upd hl,_,_,fs++[]++onceL (strsOf ds[i].as),rfl,(by rw[zab,qbc,List.map_append]),?_,(by simp only[List.length_append,qb7]; omega)⟩;rw[zt0 ho,ef,qcs];unfold rowStrs;rw[hg];rfl
     | some x =>
       refine z3i ⟨_,rfl,.inl ⟨rfl,_,SqL.of h2⟩,_,rfl,l,_,_,rfl,rfl,h2,zen (by rw[List.length_map]; omega),?_⟩;have s3:zaj H (upd H2 l (.lst (List.map V.str fs++[V.str x]))):=s2.upd hl;obtain⟨xs',hr1',hr2'⟩:=(hd.mono s3).row;refine⟨_,rfl,.inl ⟨rfl,_,SqL.of zab⟩,_,rfl,ds[i].r,xs',_,_,rfl,hr1',hr2',hd.len,hd.ats,λl4 H4 s4 n4 e4=>?_⟩;refine⟨l,l4,_,_,rfl,rfl,s4 _ _ zab,e4,zpy (by simp only[List.length_append,List.length_map,qa8,qb7]; omega),?_⟩;refine⟨(s3.trans s4).upd hl,_,_,fs++[x]++onceL (strsOf ds[i].as),rfl,(by rw[zab,List.map_append,List.map_append]; rfl),?_,(by simp only[List.length_append,qa8,qb7]; omega)⟩;rw[zt0 ho,ef,qcs];unfold rowStrs;rw[hg];rfl
   . rintro σ H2 ⟨s2,v1,v2,fs,rfl,h2,ho,hlen⟩;rw[List.length_map,qbs] at ho;rw[List.length_map] at hlen;have hds:=hf.dl;refine⟨_,rfl,l,fs,rfl,SqL.of h2,by omega,λl3 H3 s3 n3 e3=>q l3 H3 (s2.trans s3) (s2.free n3) ?_⟩;rw[e3,ho];rfl
end
end K24
namespace K24
open PySem L2 K13
section
variable {P:Program} {w:World} {K:W.Frag} {mg:Str->Option Value} {base:Heap} {t:Adr}
theorem ze8:FnScope ["rows","opened","begins","k","row"] ["rows"] (zai zh4):=by walk_at "s"
theorem zp8 (T:Txt K mg t):FnOk P w K mg base CX0 1 t.znu t.zn3 ["rows"] (K13.sp_begins_of K):=by
 refine T.begins_of.F.ok ze8 (λvs H Q E h=>?_) (λcdv A outer s H vs Q E hr h=>?_)
 . obtain⟨a,ks,rfl,hR,w,hn,q⟩:=h;rfl
 . obtain⟨a,ks,rfl,hR,w,hn,q⟩:=h;refine⟨_,(@zac _ _ _ _ _ (@zay _ _ 1 _ _ _ _ ze8.nd rfl (Or.inl rfl) (@zc1 _ _ _ _ zaf) (by rfl) (by first|exact .inl rfl|exact .inr rfl|assumption)) (@zac _ _ _ _ _ (@zay _ _ 2 _ _ _ _ ze8.nd rfl (Or.inl rfl) ze6 (by rfl) (by first|exact .inl rfl|exact .inr rfl|assumption)) (@zac _ _ _ _ _ (zea PassesOwn.never rfl (ztx rfl T.b_enumerate (@zaa _ _ _ _ _ (pv 0) zaf (by rfl))) (zmd rfl (zb8 (za0 (i:=3) ze8.nd rfl (Or.inl rfl)) (zb8 (za0 (i:=4) ze8.nd rfl (Or.inl rfl)) zh2))) (@zah _ _ _ (@zbd _ _ _ _ _ _ _ _ (@zar _ _ _ _ _ _ _ _ ziu (@zal _ _ _ _ _ _ _ zaq (pv 4) zad (λ_ _=>rfl)) (@zcc _ _ _ _ _ (@zaa _ _ _ _ _ zaz (@zaa _ _ _ _ _ zaz zaf (by rfl)) (by rfl))) (by with_unfolding_all rfl)) (@zah _ _ _ (@zbp _ _ _ _ (zhm qat qaz qa0 zb0 (pv 1) (@zaa _ _ _ _ _ (pv 3) zaf (by rfl))) (by rfl))) (@zah _ _ _ (@zbd _ _ _ _ _ _ _ _ (@zar _ _ _ _ _ _ _ _ zcp (@zal _ _ _ _ _ _ _ zaq (pv 4) zad (λ_ _=>rfl)) zaz (zax _)) (@zah _ _ _ (zdj (u1' hr.units) (pv 2) (pv 3) (@zal _ _ _ _ _ _ _ zap (pv 1) (ziq zfd zad) (λ_ _=>rfl)) (by rfl))) (@zah _ _ _ (@zbd _ _ _ _ _ _ _ _ (@zar _ _ _ _ _ _ _ _ zcp (@zal _ _ _ _ _ _ _ zaq (pv 4) zad (λ_ _=>rfl)) zaz (zax _)) (@zah _ _ _ (zdj (u1' hr.units) (pv 2) (pv 3) (zv8 qat qc7 qc8 zwt (pv 1)) (by rfl))) zan))))))) (@zah _ _ _ (@zas _ _ _ _ (pv 2)))))),?_⟩;refine⟨le0,λol hol=>λd hd=>?_⟩;obtain⟨rs,e1,e2,e3⟩:=hR.ex;have hdo:d≠ol:=λz=>by rw[z,zab] at hd; cases hd
   have s0:zaj H (upd (upd H ol (.lst [])) d (.dK [])):=(zaj.new hol).trans (zaj.new hd);have hd0:H d=none:=(zaj.new hol).free hd;refine⟨_,rfl,a,rfl,⟨_,s0.tup e1⟩,zrs (xs:=rs.map V.ref) (λi σ H2=>i<=ks.length/\zaj H H2/\∃v3 v4,σ=[some (.ref a),some (.ref ol),some (.ref d),v3,v4]/\H2 ol=some (.lst (zvd ks i))/\H2 d=some (.dK (bg ks i))) ⟨qa4 _,s0,_,_,rfl,by rw[zag hdo.symm]; exact zab,zab⟩ ?_ ?_ ?_⟩
   . rintro i σ H2 hi ⟨_,s2,_⟩;exact s2.tup e1
   . rintro i x σ H2 b hx ⟨hi',s2,v3,v4,rfl,ho,hg⟩ hb;have hi:i<rs.length:=by have:=(List.getElem?_eq_some_iff.mp hx).1;rw[List.length_map] at this;exact this
     rw[List.getElem?_map] at hx;have hx:V.ref rs[i]=x:=by simpa [hi] using hx
     subst hx;obtain⟨rest,hrow⟩:=e3 i rs[i] (by simp [hi]);have s3:zaj H (upd H2 b (.tup [.int i,.ref rs[i]])):=s2.trans (zaj.new hb);have ho3:=zaj.new (o:=.tup [.int i,.ref rs[i]]) hb _ _ ho;have hg3:=zaj.new (o:=.tup [.int i,.ref rs[i]]) hb _ _ hg;have sl:=zzl ks i;have bl:=zwp ks i;refine⟨b,_,rfl,SqT.of zab,rfl,_,_,rfl,_,_,rfl,rfl,?_⟩;refine⟨_,rfl,rs[i],_,_,_,rfl,rfl,s3.tup hrow,at0,le2,λtw htw=>⟨tw,[V.str "if",V.str "while"],rfl,.inr (SqT.of zab),rfl,rfl,_,rfl,?_⟩⟩;have s4:=s3.trans (zaj.new (o:=.tup [V.str "if",V.str "while"]) htw);have ho4:=zaj.new (o:=.tup [V.str "if",V.str "while"]) htw _ _ ho3;have hg4:=zaj.new (o:=.tup [V.str "if",V.str "while"]) htw _ _ hg3;by_cases hO:isO (kd ks i)=true
     . refine zhl ((inO _).trans hO) ?_;refine⟨_,rfl,.inl ⟨rfl,_,SqL.of ho4⟩,_,rfl,ol,_,_,rfl,rfl,ho4,zen (by omega),?_⟩;refine⟨by omega,s4.upd hol,_,_,rfl,?_,?_⟩
       . rw[zab];have:stk ks (i+1)=i :: stk ks i:=by rw[zc2]; unfold push; rw[if_pos hO]
         unfold zvd;rw[this,List.reverse_cons,List.map_append];rfl
       . rw[zag hdo,zwb (zm1 hO)];exact hg4
     refine zf7 (λz=>hO ((inO _).symm.trans z)) ?_;refine⟨_,rfl,rs[i],_,_,_,rfl,rfl,s4.tup hrow,at0,rfl,_,rfl,?_⟩;by_cases h1:kd ks i="else"
     . refine zhl (decide_eq_true (congrArg V.str h1)) ?_;have hE:isE (kd ks i)=true:=by rw[h1]; decide +kernel
       obtain⟨t,r,ht⟩:∃t r,stk ks i=t :: r:=by
         cases z:stk ks i with
         | nil=>exact absurd z (w.open_ i (by omega) hE)
         | cons t r=>exact⟨t,r,rfl⟩
       obtain⟨q1,q2,q3⟩:=zug ht;refine⟨_,rfl,_,rfl,ol,_,_,_,rfl,rfl,SqL.of ho4,q1,_,rfl,_,rfl,d,_,rfl,zn9.k (k:=Sum.inl (i:Int)) hg4 (zen (by omega)),?_⟩;refine⟨by omega,s4.upd hd0,_,_,rfl,?_,?_⟩
       . rw[zag hdo.symm];have:stk ks (i+1)=stk ks i:=by rw[zc2]; unfold push; rw[if_neg hO,if_neg (by rw[h1]; exact znd)]
         unfold zvd;rw[this];exact ho4
       . rw[zab,zt6 ⟨hE,by rw[ht]; rfl⟩]
     refine zf7 (λz=>h1 (V.str.inj (zb2 z))) ?_;refine⟨_,rfl,rs[i],_,_,_,rfl,rfl,s4.tup hrow,at0,rfl,_,rfl,?_⟩;by_cases h2:kd ks i="end"
     . refine zhl (decide_eq_true (congrArg V.str h2)) ?_;have hE:isE (kd ks i)=true:=by rw[h2]; decide +kernel
       obtain⟨t,r,ht⟩:∃t r,stk ks i=t :: r:=by
         cases z:stk ks i with
         | nil=>exact absurd z (w.open_ i (by omega) hE)
         | cons t r=>exact⟨t,r,rfl⟩
       obtain⟨q1,q2,q3⟩:=zug ht;refine⟨_,rfl,.inl ⟨rfl,_,SqL.of ho4⟩,ol,_,_,rfl,rfl,ho4,q2,_,rfl,_,rfl,d,_,rfl,zn9.k (k:=Sum.inl (i:Int)) (by rw[zag hdo]; exact hg4) (zen (by omega)),?_⟩;refine⟨by omega,(s4.upd hol).upd hd0,_,_,rfl,?_,?_⟩
       . rw[zag hdo.symm,zab,q3];have:stk ks (i+1)=r:=by rw[zc2]; unfold push; rw[if_neg hO,if_pos h2,ht]; rfl
         unfold zvd;rw[this]
       . rw[zab,zt6 ⟨hE,by rw[ht]; rfl⟩]
     refine zf7 (λz=>h2 (V.str.inj (zb2 z))) ?_;refine⟨by omega,s4,_,_,rfl,?_,?_⟩
     . have:stk ks (i+1)=stk ks i:=by rw[zc2]; unfold push; rw[if_neg hO,if_neg h2]
       unfold zvd;rw[this];exact ho4
     . rw[zwb (z41 h1 h2)];exact hg4
   . rintro σ H2 ⟨_,s2,v3,v4,rfl,ho,hg⟩;rw[List.length_map,e2] at hg;exact⟨_,rfl,q d H2 s2 hd0 hg⟩
theorem zbs:FnScope ["rows","begins","ends","k","begin","behind","follower","kind"] ["rows","begins"] (zai zch):=by walk_at "s"
theorem zmi (T:Txt K mg t):FnOk P w K mg base CX0 1 t.zgo t.zi8 ["rows","begins"] (K13.sp_firsts_behind K):=by
 refine T.firsts_behind.F.ok zbs (λvs H Q E h=>?_) (λcdv A outer s H vs Q E hr h=>?_)
 . obtain⟨a,d,ks,rfl,hR,w,hn,hd,q⟩:=h;rfl
 . skip
   refine(let XX:Cx:=(zkk CX0 P w K mg base ["rows","begins","ends","k","begin","behind","follower","kind"] "firsts_behind" (zai zch) t.zgo cdv A outer s H E).nox; ?_);refine(let W3:TS:=_; have hW3:PSs XX ((zaw zch).drop 3) W3:=(@zac _ _ _ _ _ (zea PassesOwn.never rfl (z1f rfl T.b_range (@zaa _ _ _ _ _ (@zao _ _ _ _ _ _ _ _ zh6 (zbm zcb (by rfl) T.b_len zjs (@zaa _ _ _ _ _ (pv 0) zaf (by rfl))) zad) (@zaa _ _ _ _ _ (ziq zfd zad) (@zaa _ _ _ _ _ (ziq zfd zad) zaf (by rfl)) (by rfl)) (by rfl))) (za0 (i:=3) zbs.nd rfl (Or.inl rfl)) (@zac _ _ _ _ _ (@zay _ _ 6 _ _ _ _ zbs.nd rfl (Or.inl rfl) (@zao _ _ _ _ _ _ _ _ zcv (pv 3) zad) (by rfl) (by first|exact .inl rfl|exact .inr rfl|assumption)) (@zac _ _ _ _ _ (@zay _ _ 7 _ _ _ _ zbs.nd rfl (Or.inl rfl) (@zal _ _ _ _ _ _ _ zaq (@zal _ _ _ _ _ _ _ zaq (pv 0) (pv 6) (λ_ _=>rfl)) zad (λ_ _=>rfl)) (by rfl) (by first|exact .inl rfl|exact .inr rfl|assumption)) (@zah _ _ _ (@zbd _ _ _ _ _ _ _ _ (@zar _ _ _ _ _ _ _ _ zcp (pv 7) zaz (zax _)) (@zah _ _ _ (zly (@zal _ _ _ _ _ _ _ zap (pv 5) (ze1 (u1' hr.units) (pv 2) (ze1 (u1' hr.units) (pv 1) (pv 6) (λ_ _=>rfl)) (λ_ _=>rfl)) (λ_ _=>rfl)) (zns (pv 5) (pv 3) zhs))) (@zah _ _ _ (@zbd _ _ _ _ _ _ _ _ (@PW.pt _ _ _ (@z0u _ _ _ _ _ _ _ (@zar _ _ _ _ _ _ _ _ zcp (pv 7) zaz (zax _)) (@zvw _ _ _ _ (@zar _ _ _ _ _ _ _ _ zcp (@zal _ _ _ _ _ _ _ zaq (@zal _ _ _ _ _ _ _ zaq (pv 0) (ze1 (u1' hr.units) (pv 1) (pv 6) (λ_ _=>rfl)) (λ_ _=>rfl)) zad (λ_ _=>rfl)) zaz (zax _))))) (@zah _ _ _ (zly (ze1 (u1' hr.units) (pv 1) (pv 6) (λ_ _=>rfl)) (zns (pv 5) (pv 3) zhs))) (@zah _ _ _ (@zbd _ _ _ _ _ _ _ _ (@zar _ _ _ _ _ _ _ _ zcp (pv 7) zaz (zax _)) (@zah _ _ _ (zly (@zal _ _ _ _ _ _ _ zap (pv 5) (pv 6) (λ_ _=>rfl)) (zns (pv 5) (pv 3) zhs))) (@zah _ _ _ (zly (pv 6) (zns (pv 5) (pv 3) zhs)))))))))))) (@zah _ _ _ (@zas _ _ _ _ (pv 5)))); ?_);refine(let W2:TS:=_; have hW2:PSs XX ((zaw zch).drop 2) W2:=(@zac _ _ _ _ _ (@zay _ _ 5 _ _ _ _ zbs.nd rfl (Or.inl rfl) (@zao _ _ _ _ _ _ _ _ z3o (@zc1 _ _ _ _ (@zaa _ _ _ _ _ zhc zaf (by rfl))) (zbm zcb (by rfl) T.b_len zjs (@zaa _ _ _ _ _ (pv 0) zaf (by rfl)))) (by rfl) (by first|exact .inl rfl|exact .inr rfl|assumption)) hW3); ?_);obtain⟨a,d,ks,rfl,hR,w,hn,hd,q⟩:=h;refine⟨_,(@zac _ _ _ _ _ (@zay _ _ 2 _ _ _ _ zbs.nd rfl (Or.inl rfl) ze6 (by rfl) (by first|exact .inl rfl|exact .inr rfl|assumption)) (@zac _ _ _ _ _ (zea PassesOwn.never rfl (zti (pv 1)) (zmd rfl (zb8 (za0 (i:=3) zbs.nd rfl (Or.inl rfl)) (zb8 (za0 (i:=4) zbs.nd rfl (Or.inl rfl)) zh2))) (@zah _ _ _ (zdj (u1' hr.units) (pv 2) (pv 4) (pv 3) (by rfl)))) hW2)),?_⟩;refine λed hed=>?_;have hde:d≠ed:=λz=>by rw[<- z,hd] at hed; cases hed
   refine⟨_,rfl,d,bg ks ks.length,rfl,.inl ⟨zaj.new hed _ _ hd,λo=>?_⟩⟩;have sF:zaj (upd H d (.frz o (.dK (bg ks ks.length)))) (upd (upd H ed (.dK [])) d (.frz o (.dK (bg ks ks.length)))):=λb u h=>by
     by_cases hb:b=d
     . subst hb;rw[zab] at h ⊢;exact h
     . rw[zag hb] at h ⊢;rw[zag (λz=>by rw[z,hed] at h; cases h)];exact h
   have hF:(upd H d (.frz o (.dK (bg ks ks.length)))) d=some (.frz o (.dK (bg ks ks.length))):=zab;have hedF:(upd H d (.frz o (.dK (bg ks ks.length)))) ed=none:=by rw[zag hde.symm]; exact hed
   have hRF:RowsAt K (upd H d (.frz o (.dK (bg ks ks.length)))) a ks:=hR.frz hd;have qF:∀l H',zaj (upd H d (.frz o (.dK (bg ks ks.length)))) H'->(upd H d (.frz o (.dK (bg ks ks.length)))) l=none->BehL H' l ks->Q (.ref l) H':=λl H' h1 h2 h3=>q l o H' h1 (by rw[zag (λz=>by rw[z,hF] at h2; cases h2)] at h2; exact h2) h3;generalize upd H d (.frz o (.dK (bg ks ks.length)))=HF at sF hF hedF hRF qF;have bl:=zwp ks ks.length;have pl:=zs3 ks ks.length;refine zru (λi σ H2=>i<=(bg ks ks.length).length/\zaj HF H2/\∃v3 v4 eds,σ=[some (.ref a),some (.ref d),some (.ref ed),v3,v4,none,none,none]/\H2 ed=some (.dK eds)/\eds.length<=i/\∀b:Nat,zc9 eds (Sum.inl (b:Int):Key)=(zh7 ((prs ks ks.length).take i) b).map λ(m:Nat)=>V.int (m:Int)) ⟨qa4 _,sF,_,_,[],rfl,by rw[zag hde.symm]; exact zab,qae _,λb=>rfl⟩ ?_ ?_ ?_
   . rintro i σ H2 hi ⟨_,s2,_⟩;exact s2 _ _ hF
   . rintro i kv σ H2 b hkv ⟨hi,s2,v3,v4,eds,rfl,he,hel,hv⟩ hb;obtain⟨p,hp,rfl⟩:=z1b hkv;have hlt:=(List.getElem?_eq_some_iff.mp hkv).1;have he3:=zaj.new (o:=.tup [V.int (p.1:Int),V.int (p.2:Int)]) hb _ _ he;refine⟨b,_,rfl,SqT.of zab,rfl,_,_,rfl,_,_,rfl,rfl,?_⟩;refine⟨_,rfl,_,rfl,_,rfl,ed,_,rfl,zn9.k (k:=Sum.inl (p.2:Int)) he3 (zen (by omega)),?_⟩;refine⟨hlt,(s2.trans (zaj.new hb)).upd hedF,_,_,_,rfl,zab,?_,λb'=>?_⟩
     . exact Nat.le_trans (zbq _ _ _) (by omega)
     . rw[zdm,qbg,hp];show _=(zh7 ((prs ks ks.length).take i++[p]) b').map _;rw[zm9,hv b'];by_cases h:p.2=b'
       . rw[if_pos h,if_pos (by rw[h])];rfl
       . rw[if_neg h,if_neg (λz=>h (by have:(b':Int)=(p.2:Int):=Sum.inl.inj z; omega))]
   . rintro σ H2 ⟨_,s2,v3,v4,eds,rfl,he,hel,hv⟩;have hv:∀b:Nat,zc9 eds (Sum.inl (b:Int):Key)=(zh7 (prs ks ks.length) b).map λ(m:Nat)=>V.int (m:Int):=λb=>by rw[hv b];unfold bg zyp;rw[List.length_map,qbs]
     obtain⟨rs,r1,r2,r3⟩:=hRF.ex;have rl:(rs.map V.ref).length=ks.length:=by rw[List.length_map,r2]
     refine⟨le1,λnl hnl=>⟨_,rfl,a,_,rfl,.inr ((s2.trans (zaj.new hnl)).tup r1),nl,_,_,rfl,rfl,zab,by omega,by rw[rl]; omega,by rw[rl]; exact zpy (by simp; omega),λbl hbl=>?_⟩⟩;have s3:=(s2.trans (zaj.new (o:=.lst [V.non]) hnl)).trans (zaj.new (o:=.lst (List.replicate (((rs.map V.ref).length:Int).toNat) [V.non]).flatten) hbl);have hbF:HF bl=none:=s2.free ((zaj.new hnl).free hbl);have hbe:bl≠ed:=λz=>by have:=(zaj.new hnl).free hbl;rw[z,he] at this;cases this
     have he3:=(zaj.new (o:=.lst (List.replicate (((rs.map V.ref).length:Int).toNat) [V.non]).flatten) hbl) _ _ ((zaj.new (o:=.lst [V.non]) hnl) _ _ he);refine⟨_,rfl,a,_,rfl,.inr (s3.tup r1),_,_,rfl,rfl,_,rfl,_,rfl,(ks.length:Int) - 2,-1,by rw[rl],⟨by omega,by omega,by omega,by omega⟩,?_⟩;have hnn:(((ks.length:Int) - 2) - -1).toNat=ks.length - 1:=by omega
     rw[hnn];refine zzo (λi σ H4=>zaj HF H4/\∃v3 v4 v6 v7 bs,σ=[some (.ref a),some (.ref d),some (.ref ed),v3,v4,some (.ref bl),v6,v7]/\H4 ed=some (.dK eds)/\H4 bl=some (.lst bs)/\bs.length=ks.length/\∀k,k+1<ks.length->ks.length - 1 - i<=k->∃r:Nat,Beh ks k r/\bs[k]?=some (.int (r:Int))) ⟨s3,_,_,_,_,_,rfl,he3,zab,by rw[rl]; exact zx8 _,λk h1 h2=>by omega⟩ ?_ ?_
     . rintro i σ H4 hi ⟨s4,v3,v4,v6,v7,bs,rfl,e4,b4,l4,hb4⟩;obtain⟨k,hk⟩:∃k:Nat,k+2+i=ks.length:=⟨ks.length - 2 - i,by omega⟩
       have ek:((ks.length:Int) - 2) - (i:Int)=(k:Int):=by omega
       rw[ek];have hR4:=hRF.mono s4;have old:∀j,j+1<ks.length->k<j->∃r:Nat,Beh ks j r/\bs[j]?=some (.int (r:Int)):=λj h1 h2=>hb4 j h1 (by omega);have fin:∀(r:Nat) (v3 v4 v6 v7:Option V),Beh ks k r->zaj HF (upd H4 bl (.lst (bs.set k (.int (r:Int)))))/\∃v3' v4' v6' v7' bs',([some (.ref a),some (.ref d),some (.ref ed),v3,v4,some (.ref bl),v6,v7]:St)=[some (.ref a),some (.ref d),some (.ref ed),v3',v4',some (.ref bl),v6',v7']/\(upd H4 bl (.lst (bs.set k (.int (r:Int))))) ed=some (.dK eds)/\(upd H4 bl (.lst (bs.set k (.int (r:Int))))) bl=some (.lst bs')/\bs'.length=ks.length/\∀j,j+1<ks.length->ks.length - 1 - (i+1)<=j->∃r:Nat,Beh ks j r/\bs'[j]?=some (.int (r:Int)):=λr v3 v4 v6 v7 hr=>by
         refine⟨s4.upd hbF,_,_,_,_,_,rfl,by rw[zag hbe.symm]; exact e4,zab,by rw[qcw]; exact l4,λj h1 h2=>?_⟩;by_cases hj:j=k
         . subst hj;exact⟨r,hr,by rw[qcq (by omega)]⟩
         . obtain⟨r',q1,q2⟩:=old j h1 (by omega);exact⟨r',q1,by rw[qck (λz=>hj z.symm)]; exact q2⟩
       have hix:ixN bs.length (k:Int)=some k:=by unfold ixN;rw[if_pos (by omega),if_pos (by omega),qa9]
       have at_bs:∀j r:Nat,bs[j]?=some (.int (r:Int))->atI bs (j:Int)=some (.int (r:Int)):=λj r h=>zc7 h;refine⟨_,rfl,_,_,rfl,rfl,?_⟩;show zql 6 (V.int ((k:Int)+1)) _ _ _;rw[show((k:Int)+1)=((k+1:Nat):Int) by omega];refine⟨_,rfl,_,rfl,ixk hR4 (by omega) (by omega) ?_⟩;refine⟨_,rfl,rfl,_,rfl,?_⟩;have top:isE (kd ks (k+1))=true->∃b,(stk ks (k+1)).head?=some b:=λh=>by
         cases z:stk ks (k+1) with
         | nil=>exact absurd z (w.open_ (k+1) (by omega) h)
         | cons b r=>exact⟨b,rfl⟩
       have fz:Rd H4 d (.dK (bg ks ks.length)):=.inr ⟨o,s4 _ _ hF⟩;by_cases h1:kd ks (k+1)="else"
       . refine zhl (decide_eq_true (congrArg V.str h1)) ?_;have hE:isE (kd ks (k+1))=true:=by rw[h1]; decide +kernel
         obtain⟨b,hb⟩:=top hE;have hbo:=zxh (⟨hE,hb⟩:Hit ks b (k+1));obtain⟨e,hEn⟩:=zv0 w (by omega) hbo.2;have h5:k+1<=e:=z0w hEn ⟨hE,hb⟩;have h6:e+1<ks.length:=by
           rcases qa7 (e+1) ks.length with z|z
           . exact z
           . have:=w.last e (by have:=hEn.2.1; omega);rw[hEn.2.2.1] at this;exact absurd this.symm zxd.2
         obtain⟨r,hr1,hr2⟩:=old e h6 (by omega);have g1:zok H4 d (.int ((k+1:Nat):Int)) (some (.int (b:Int))):=.inl ⟨_,Sum.inl ((k+1:Nat):Int),fz,rfl,(z3s ks.length (by omega) ⟨hE,hb⟩).symm⟩;have g2:zok H4 ed (.int (b:Int)) (some (.int (e:Int))):=.inl ⟨_,Sum.inl (b:Int),.inl e4,rfl,by rw[hv b,z0h hEn]; rfl⟩;exact⟨_,rfl,_,rfl,_,rfl,_,rfl,d,_,rfl,g1,ed,_,rfl,g2,bl,_,_,_,rfl,rfl,SqL.of b4,at_bs e r hr2,_,rfl,_,rfl,bl,_,_,_,rfl,rfl,b4,hix,fin r _ _ _ _ (.els h1 hb hEn hr1)⟩
       refine zf7 (λz=>h1 (V.str.inj (zb2 z))) ?_;refine⟨_,rfl,rfl,_,rfl,?_⟩;by_cases h2:kd ks (k+1)="end"
       . have hE:isE (kd ks (k+1))=true:=by rw[h2]; decide +kernel
         obtain⟨b,hb⟩:=top hE;have hbo:=zxh (⟨hE,hb⟩:Hit ks b (k+1));have g1:zok H4 d (.int ((k+1:Nat):Int)) (some (.int (b:Int))):=.inl ⟨_,Sum.inl ((k+1:Nat):Int),fz,rfl,(z3s ks.length (by omega) ⟨hE,hb⟩).symm⟩;refine zhl (decide_eq_true (congrArg V.str h2)) ?_;refine⟨_,rfl,_,rfl,_,rfl,d,_,rfl,g1,ixk hR4 (by omega) (by omega) ⟨rfl,_,rfl,?_⟩⟩;by_cases h3:kd ks b="while"
         . refine zhl (decide_eq_true (congrArg V.str h3)) ?_;exact⟨_,rfl,_,rfl,d,_,rfl,g1,_,rfl,_,rfl,bl,_,_,_,rfl,rfl,b4,hix,fin b _ _ _ _ (.whl h2 hb h3)⟩
         . refine zf7 (λz=>h3 (V.str.inj (zb2 z))) ?_;refine⟨_,rfl,rfl,_,rfl,zhl (decide_eq_true (congrArg V.str h2)) ?_⟩;have h6:k+1+1<ks.length:=by
             rcases qa7 (k+1+1) ks.length with z|z
             . exact z
             . have:=w.last (k+1) (by omega);rw[h2] at this;exact absurd this.symm zxd.2
           obtain⟨r,hr1,hr2⟩:=old (k+1) h6 (by omega);exact⟨_,rfl,_,rfl,bl,_,_,_,rfl,rfl,SqL.of b4,at_bs (k+1) r hr2,_,rfl,_,rfl,bl,_,_,_,rfl,rfl,b4,hix,fin r _ _ _ _ (.fin h2 hb h3 hr1)⟩
       . refine zf7 (λz=>h2 (V.str.inj (zb2 z))) (z3h ?_);refine⟨_,rfl,rfl,_,rfl,zf7 (λz=>h2 (V.str.inj (zb2 z))) ?_⟩;exact⟨_,rfl,_,rfl,_,rfl,bl,_,_,_,rfl,rfl,b4,hix,fin (k+1) _ _ _ _ (.oth h1 h2)⟩
     . rintro σ H4 ⟨s4,v3,v4,v6,v7,bs,rfl,e4,b4,l4,hb4⟩;exact⟨_,rfl,qF bl H4 s4 hbF ⟨bs,b4,l4,λk h1=>hb4 k h1 (by omega)⟩⟩
theorem zhr:FnScope ["rows","begins","behind","turns","k","begin","found","row"] ["rows"] (zai znj):=by walk_at "s"
theorem z1x (T:Txt K mg t):FnOk P w K mg base CX0 2 t.zyd t.z1d ["rows"] (K13.sp_ways K):=by
 have G_begins_of:=zp8 (P:=P) (w:=w) (base:=base) T;have G_firsts_behind:=zmi (P:=P) (w:=w) (base:=base) T;refine T.ways.F.ok zhr (λvs H Q E h=>?_) (λcdv A outer s H vs Q E hr h=>?_)
 . obtain⟨a,ks,rfl,hR,w,hn,q⟩:=h;rfl
 . skip
   refine(let XX:Cx:=(zkk CX0 P w K mg base ["rows","begins","behind","turns","k","begin","found","row"] "ways" (zai znj) t.zyd cdv A outer s H E).nox; ?_);refine(let W5:TS:=_; have hW5:PSs XX ((zaw znj).drop 5) W5:=(@zac _ _ _ _ _ (zea PassesOwn.never rfl (ztx rfl T.b_enumerate (@zaa _ _ _ _ _ (pv 0) zaf (by rfl))) (zmd rfl (zb8 (za0 (i:=4) zhr.nd rfl (Or.inl rfl)) (zb8 (za0 (i:=7) zhr.nd rfl (Or.inl rfl)) zh2))) (@zah _ _ _ (@zbd _ _ _ _ _ _ _ _ (@zar _ _ _ _ _ _ _ _ ziu (@zal _ _ _ _ _ _ _ zaq (pv 7) zad (λ_ _=>rfl)) (@zcc _ _ _ _ _ (@zaa _ _ _ _ _ zaz (@zaa _ _ _ _ _ zaz zaf (by rfl)) (by rfl))) (by with_unfolding_all rfl)) (@zah _ _ _ (@zbp _ _ _ _ (zhm qat qaz qa0 zb0 (pv 6) (@zaa _ _ _ _ _ zhc zaf (by rfl))) (by rfl))) (@zah _ _ _ (@zbd _ _ _ _ _ _ _ _ (@zar _ _ _ _ _ _ _ _ zcp (@zal _ _ _ _ _ _ _ zaq (pv 7) zad (λ_ _=>rfl)) zaz (zax _)) (@zah _ _ _ (@zbp _ _ _ _ (zhm qat qaz qa0 zb0 (pv 6) (@zaa _ _ _ _ _ (@zcc _ _ _ _ _ zaf) zaf (by rfl))) (by rfl))) (@zah _ _ _ (@zbd _ _ _ _ _ _ _ _ (zoz (z4i (u1' hr.units) (pv 4) (pv 3))) (@zah _ _ _ (@zbp _ _ _ _ (zhm qat qaz qa0 zb0 (pv 6) (@zaa _ _ _ _ _ (@zcc _ _ _ _ _ (@zaa _ _ _ _ _ (@zal _ _ _ _ _ _ _ zap (pv 2) (pv 4) (λ_ _=>rfl)) (@zaa _ _ _ _ _ (@zal _ _ _ _ _ _ _ zap (pv 2) (ze1 (u1' hr.units) (pv 3) (pv 4) (λ_ _=>rfl)) (λ_ _=>rfl)) zaf (by rfl)) (by rfl))) zaf (by rfl))) (by rfl))) (@zah _ _ _ (@zbp _ _ _ _ (zhm qat qaz qa0 zb0 (pv 6) (@zaa _ _ _ _ _ (@zcc _ _ _ _ _ (@zaa _ _ _ _ _ (@zal _ _ _ _ _ _ _ zap (pv 2) (pv 4) (λ_ _=>rfl)) zaf (by rfl))) zaf (by rfl))) (by rfl)))))))))) (@zah _ _ _ (@zas _ _ _ _ (pv 6)))); ?_);refine(let W3:TS:=_; have hW3:PSs XX ((zaw znj).drop 3) W3:=(@zac _ _ _ _ _ (zea PassesOwn.never rfl (zti (pv 1)) (zmd rfl (zb8 (za0 (i:=4) zhr.nd rfl (Or.inl rfl)) (zb8 (za0 (i:=5) zhr.nd rfl (Or.inl rfl)) zh2))) (@zah _ _ _ (@zbp _ _ _ _ (zy5 (pv 3) (pv 5) (pv 4) ⟨rfl,rfl,rfl,rfl⟩) (by rfl)))) (@zac _ _ _ _ _ (@zay _ _ 6 _ _ _ _ zhr.nd rfl (Or.inl rfl) (@zc1 _ _ _ _ zaf) (by rfl) (by first|exact .inl rfl|exact .inr rfl|assumption)) hW5)); ?_);obtain⟨a,ks,rfl,hR,w,hn,q⟩:=h;refine⟨_,(@zac _ _ _ _ _ (@zay _ _ 1 _ _ _ _ zhr.nd rfl (Or.inl rfl) (zbv T.begins_of G_begins_of (hr.mono (by decide)) (@zaa _ _ _ _ _ (pv 0) zaf (by rfl))) (by rfl) (by first|exact .inl rfl|exact .inr rfl|assumption)) (@zac _ _ _ _ _ (@zay _ _ 2 _ _ _ _ zhr.nd rfl (Or.inl rfl) (zbv T.firsts_behind G_firsts_behind (hr.mono (by decide)) (@zaa _ _ _ _ _ (pv 0) (@zaa _ _ _ _ _ (pv 1) zaf (by rfl)) (by rfl))) (by rfl) (by first|exact .inl rfl|exact .inr rfl|assumption)) (@zac _ _ _ _ _ (@zay _ _ 3 _ _ _ _ zhr.nd rfl (Or.inl rfl) ze6 (by rfl) (by first|exact .inl rfl|exact .inr rfl|assumption)) hW3))),?_⟩;refine⟨_,rfl,a,ks,rfl,hR,w,hn,λd H1 s1 n1 e1=>?_⟩;refine⟨_,rfl,_,rfl,a,d,ks,rfl,hR.mono s1,w,hn,e1,λl o H2 s2 n2 hB=>?_⟩;have s02:zaj H H2:=(s1.upd n1).trans s2;have hdF:H2 d=some (.frz o (.dK (bg ks ks.length))):=s2 _ _ zab;have hl0:H l=none:=s1.free n2;refine λtd htd=>?_;have bl:=zwp ks ks.length;obtain⟨bs,hb1,hb2,hb3⟩:=hB;refine⟨_,rfl,d,bg ks ks.length,rfl,.inr ⟨o,zaj.new htd _ _ hdF,?_⟩⟩;refine zru (λi σ H3=>i<=(bg ks ks.length).length/\zaj H2 H3/\∃v4 v5 tds,σ=[some (.ref a),some (.ref d),some (.ref l),some (.ref td),v4,v5,none,none]/\H3 td=some (.dK tds)/\tds.length<=i/\∀b:Nat,zc9 tds (Sum.inl (b:Int):Key)=(zci ((prs ks ks.length).take i) b).map λ(m:Nat)=>V.int (m:Int)) ⟨qa4 _,zaj.new htd,_,_,[],rfl,zab,qae _,λb=>rfl⟩ ?_ ?_ ?_
   . rintro i σ H3 hi ⟨_,s3,_⟩;exact s3 _ _ hdF
   . rintro i kv σ H3 b hkv ⟨hi,s3,v4,v5,tds,rfl,he,hel,hv⟩ hb;obtain⟨p,hp,rfl⟩:=z1b hkv;have hlt:=(List.getElem?_eq_some_iff.mp hkv).1;have he3:=zaj.new (o:=.tup [V.int (p.1:Int),V.int (p.2:Int)]) hb _ _ he;refine⟨b,_,rfl,SqT.of zab,rfl,_,_,rfl,_,_,rfl,rfl,?_⟩;have tk:∀b',zci ((prs ks ks.length).take (i+1)) b'=if(zci ((prs ks ks.length).take i) b').isSome=true then zci ((prs ks ks.length).take i) b' else if p.2=b' then some p.1 else none:=λb'=>by rw[qbg,hp];exact zmc _ p b'
     refine⟨_,rfl,td,rfl,.inl ⟨tds,.inl he3⟩,_,rfl,_,rfl,tds,Sum.inl (p.2:Int),he3,rfl,zen (by omega),λv hv'=>?_,λhv'=>?_⟩
     . refine⟨hlt,s3.trans (zaj.new hb),_,_,tds,rfl,he3,by omega,λb'=>?_⟩;rw[hv b',tk b'];cases z:zci ((prs ks ks.length).take i) b' with
       | some m=>rfl
       | none =>
         rw[if_neg (show ¬ (none:Option Nat).isSome=true by decide),if_neg];intro h;rw[h,hv b',z] at hv';cases hv'
     . refine⟨hlt,(s3.trans (zaj.new hb)).upd htd,_,_,_,rfl,zab,Nat.le_trans (zbq _ _ _) (by omega),λb'=>?_⟩;rw[zdm,tk b'];by_cases h:p.2=b'
       . subst h;have z:zci ((prs ks ks.length).take i) p.2=none:=by
           rw[hv p.2] at hv';cases y:zci ((prs ks ks.length).take i) p.2 with
           | none=>rfl
           | some m=>rw[y] at hv'; cases hv'
         rw[if_pos rfl,z,if_neg (show ¬ (none:Option Nat).isSome=true by decide),if_pos rfl];rfl
       . rw[if_neg (λz=>h (by have:(b':Int)=(p.2:Int):=Sum.inl.inj z; omega)),hv b',if_neg h];cases z:zci ((prs ks ks.length).take i) b' with
         | some m=>rfl
         | none=>rfl
   . rintro σ H3 ⟨_,s3,v4,v5,tds,rfl,he,hel,hv⟩;have hv:∀b:Nat,zc9 tds (Sum.inl (b:Int):Key)=(zci (prs ks ks.length) b).map λ(m:Nat)=>V.int (m:Int):=λb=>by rw[hv b];unfold bg zyp;rw[List.length_map,qbs]
     obtain⟨rs,r1,r2,r3⟩:=hR.ex;refine⟨le0,λfl hfl=>?_⟩;have s03:=s02.trans s3;have hf2:H3 fl=none:=hfl;have htf:td≠fl:=λz=>by rw[<- z,he] at hfl; cases hfl
     have hf0:H fl=none:=s03.free hfl;refine⟨_,rfl,a,rfl,⟨_,(s03.trans (zaj.new hfl)).tup r1⟩,(let Jv1:Nat->St->Hp->Prop:=λi σ H4=>i<=ks.length/\zaj H3 H4/\(∃v4 v5 v7,σ=[some (.ref a),some (.ref d),some (.ref l),some (.ref td),v4,v5,some (.ref fl),v7])/\FoundN H4 fl ks i; zrs (xs:=rs.map V.ref) Jv1 ⟨qa4 _,zaj.new hfl,⟨_,_,_,rfl⟩,⟨[],zab,rfl,λk v z=>by simp at z⟩⟩ ?_ ?_ ?_)⟩
     . rintro i σ H4 hi ⟨_,s4,_⟩;exact(s03.trans s4).tup r1
     . rintro i x σ H4 b hx ⟨hi',s4,⟨v4,v5,v7,rfl⟩,hF⟩ hb;have hi:i<rs.length:=by have:=(List.getElem?_eq_some_iff.mp hx).1;rw[List.length_map] at this;exact this
       rw[List.getElem?_map] at hx;have hx:V.ref rs[i]=x:=by simpa [hi] using hx
       subst hx;obtain⟨rest,hrow⟩:=r3 i rs[i] (by simp [hi]);have s5:=s4.trans (zaj.new (o:=.tup [.int i,.ref rs[i]]) hb);have hF5:=hF.mono (zaj.new (o:=.tup [.int i,.ref rs[i]]) hb);refine⟨b,_,rfl,SqT.of zab,rfl,_,_,rfl,_,_,rfl,rfl,?_⟩;refine⟨_,rfl,rs[i],_,_,_,rfl,rfl,(s03.trans s5).tup hrow,at0,le2,λtw htw=>⟨tw,[V.str "else",V.str "end"],rfl,.inr (SqT.of zab),rfl,rfl,_,rfl,?_⟩⟩;have s6:=s5.trans (zaj.new (o:=.tup [V.str "else",V.str "end"]) htw);obtain⟨vs,f1,f2,f3⟩:=hF5.mono (zaj.new (o:=.tup [V.str "else",V.str "end"]) htw);generalize upd (upd H4 b (.tup [.int i,.ref rs[i]])) tw (.tup [V.str "else",V.str "end"])=H6 at s6 f1 f3 ⊢;have s06:=s03.trans s6;have fin:∀{H7:Hp} {v:V} {oo:Option (List Nat)} (u4 u5 u7:Option V),zaj H6 H7->Due ks i oo->zyo H7 v oo->i+1<=ks.length/\zaj H3 (upd H7 fl (.lst (vs++[v])))/\(∃v4 v5 v7,([some (.ref a),some (.ref d),some (.ref l),some (.ref td),u4,u5,some (.ref fl),u7]:St)=[some (.ref a),some (.ref d),some (.ref l),some (.ref td),v4,v5,some (.ref fl),v7])/\FoundN (upd H7 fl (.lst (vs++[v]))) fl ks (i+1):=λu4 u5 u7 s7 hd hv=>by refine⟨by omega,(s6.trans s7).upd hfl,⟨_,_,_,rfl⟩,FoundN.push (s7 _ _ f1) f2 (λk v z=>?_) hd hv⟩;obtain⟨o',d',y⟩:=f3 k v z;exact⟨o',d',y.mono s7⟩
       by_cases hE:isE (kd ks i)=true
       . refine zhl ((inE _).trans hE) ?_;exact⟨_,rfl,.inl ⟨rfl,_,SqL.of f1⟩,fl,_,_,rfl,rfl,f1,zen (by omega),fin _ _ _ (zaj.refl _) (.no hE) rfl⟩
       refine zf7 (λz=>hE ((inE _).symm.trans z)) ?_;refine⟨_,rfl,rs[i],_,_,_,rfl,rfl,s06.tup hrow,at0,rfl,_,rfl,?_⟩;by_cases hbk:kd ks i="back"
       . refine zhl (decide_eq_true (congrArg V.str hbk)) ?_;exact⟨_,rfl,.inl ⟨rfl,_,SqL.of f1⟩,le0,λp hp=>⟨fl,_,_,rfl,rfl,zaj.new hp _ _ f1,zen (by omega),fin _ _ _ (zaj.new hp) (.back hbk) ⟨p,rfl,zab⟩⟩⟩
       refine zf7 (λz=>hbk (V.str.inj (zb2 z))) ?_;have hlast:=zue w (by omega) hbk;obtain⟨r,hr1,hr2⟩:=hb3 i hlast;have hb6:=(s3.trans s6) _ _ hb1;have ht6:=s6 _ _ he;refine⟨_,rfl,_,rfl,td,_,rfl,zok.k (k:=Sum.inl (i:Int)) ht6,_,rfl,?_⟩;by_cases hO:isO (kd ks i)=true
       . obtain⟨e,hEn⟩:=zv0 w (by omega) hO;obtain⟨f,hf⟩:=zzx hEn;obtain⟨r',hr3,hr4⟩:=hb3 f (zvc w hf);have hvi:zc9 tds (Sum.inl (i:Int):Key)=some (V.int (f:Int)):=by rw[hv i,zzg hf]; rfl
         refine zhl (by rw[hvi]; rfl) ?_;have g:zok H6 td (.int (i:Int)) (some (V.int (f:Int))):=.inl ⟨_,Sum.inl (i:Int),.inl ht6,rfl,hvi.symm⟩;exact⟨_,rfl,.inl ⟨rfl,_,SqL.of f1⟩,_,rfl,_,rfl,l,_,_,_,rfl,rfl,SqL.of hb6,zc7 hr2,_,rfl,_,rfl,_,rfl,td,_,rfl,g,l,_,_,_,rfl,rfl,SqL.of hb6,zc7 hr4,le2,λp hp=>⟨fl,_,_,rfl,rfl,zaj.new hp _ _ f1,zen (by omega),fin _ _ _ (zaj.new hp) (.two hO hf hr1 hr3) ⟨p,rfl,zab⟩⟩⟩
       . have hvi:zc9 tds (Sum.inl (i:Int):Key)=none:=by rw[hv i,zu9 hO]; rfl
         refine zf7 (by rw[hvi]; decide) ?_;exact⟨_,rfl,.inl ⟨rfl,_,SqL.of f1⟩,_,rfl,_,rfl,l,_,_,_,rfl,rfl,SqL.of hb6,zc7 hr2,le1,λp hp=>⟨fl,_,_,rfl,rfl,zaj.new hp _ _ f1,zen (by omega),fin _ _ _ (zaj.new hp) (.one hE hbk hO hr1) ⟨p,rfl,zab⟩⟩⟩
     . rintro σ H4 ⟨_,s4,⟨v4,v5,v7,rfl⟩,hF⟩;rw[List.length_map,r2] at hF;exact⟨_,rfl,q fl H4 (s03.trans s4) hf0 hF⟩
end
end K24
namespace K24
open PySem L2 Gx Fl F2
section
variable {P:Program} {w:World} {K:W.Frag} {mg:Str->Option Value} {base:Heap} {t:Adr}
theorem zhz:FnScope ["self","program","k","function"] ["self","program"] (zai zeb):=by walk_at "s"
theorem zpt (T:Txt K mg t):FnOk P w K mg base CX0 4 t.zi3 t.zmf ["self","program"] (zpn K t):=by
 have G_names_of:=zsw (P:=P) (w:=w) (base:=base) T;have G_ways:=z1x (P:=P) (w:=w) (base:=base) T;refine T.zo3.F.ok zhz (λvs H Q E h=>?_) (λcdv A outer s H vs Q E hr h=>?_)
 . obtain⟨x,dx,p,fns,rfl,hx,hS,n0,n12,hE,nd,q⟩:=h;rfl
 . skip
   refine(let XX:Cx:=(zkk CX0 P w K mg base ["self","program","k","function"] "Flows.__init__" (zai zeb) t.zi3 cdv A outer s H E).nox; ?_);refine(let W7:TS:=_; have hW7:PSs XX ((zaw zeb).drop 7) W7:=(@zah _ _ _ (zea PassesOwn.never rfl (zz0 rfl T.b_enumerate (@zaa _ _ _ _ _ (pv 1) zaf (by rfl))) (zmd rfl (zb8 (za0 (i:=2) zhz.nd rfl (Or.inl rfl)) (zb8 (za0 (i:=3) zhz.nd rfl (Or.inl rfl)) zh2))) (@zac _ _ _ _ _ (zdj (u1' hr.units) (zbk (pv 0) (by rfl)) (@zal _ _ _ _ _ _ _ zaq (pv 3) zad (λ_ _=>rfl)) (pv 2) (by rfl)) (@zac _ _ _ _ _ (zdj (u1' hr.units) (zbk (pv 0) (by rfl)) (@zal _ _ _ _ _ _ _ zaq (pv 3) zad (λ_ _=>rfl)) (@zal _ _ _ _ _ _ _ zaq (pv 3) zad (λ_ _=>rfl)) (by rfl)) (@zac _ _ _ _ _ (zdj (u1' hr.units) (zbk (pv 0) (by rfl)) (@zal _ _ _ _ _ _ _ zaq (pv 3) zad (λ_ _=>rfl)) (@zal _ _ _ _ _ _ _ zaq (pv 3) zad (λ_ _=>rfl)) (by rfl)) (@zac _ _ _ _ _ (zdj (u1' hr.units) (zbk (pv 0) (by rfl)) (@zal _ _ _ _ _ _ _ zaq (pv 3) zad (λ_ _=>rfl)) (@zal _ _ _ _ _ _ _ zaq (pv 3) zad (λ_ _=>rfl)) (by rfl)) (@zac _ _ _ _ _ (zdj (u1' hr.units) (zbk (pv 0) (by rfl)) (@zal _ _ _ _ _ _ _ zaq (pv 3) zad (λ_ _=>rfl)) (zbv T.names_of G_names_of (hr.mono (by decide)) (@zaa _ _ _ _ _ (pv 3) zaf (by rfl))) (by rfl)) (@zah _ _ _ (zdj (u1' hr.units) (zbk (pv 0) (by rfl)) (@zal _ _ _ _ _ _ _ zaq (pv 3) zad (λ_ _=>rfl)) (zbv T.ways G_ways (hr.mono (by decide)) (@zaa _ _ _ _ _ (@zal _ _ _ _ _ _ _ zaq (pv 3) zad (λ_ _=>rfl)) zaf (by rfl))) (by rfl)))))))))); ?_);obtain⟨x,dx,p,fns,rfl,hx,hS,n0,n12,hE,nd,q⟩:=h;refine⟨_,(@zac _ _ _ _ _ (zet (pv 0) (@zal _ _ _ _ _ _ _ zaq (@zal _ _ _ _ _ _ _ zap (pv 1) (ziq zfd zad) (λ_ _=>rfl)) zad (λ_ _=>rfl)) (by rfl)) (@zac _ _ _ _ _ (zet (pv 0) ze6 (by rfl)) (@zac _ _ _ _ _ (zet (pv 0) ze6 (by rfl)) (@zac _ _ _ _ _ (zet (pv 0) ze6 (by rfl)) (@zac _ _ _ _ _ (zet (pv 0) ze6 (by rfl)) (@zac _ _ _ _ _ (zet (pv 0) ze6 (by rfl)) (@zpg _ _ _ _ _ (zet (pv 0) ze6 (by rfl)) hW7))))))),?_⟩;have fl:(fns.map λf=>V.ref f.fa).length=fns.length:=List.length_map _;have np:0<fns.length:=List.length_pos_iff.mpr n0;obtain⟨fz,hz⟩:∃fz,fns[fns.length - 1]?=some fz:=⟨fns[fns.length - 1],List.getElem?_eq_getElem (by omega)⟩
   have hzT:=(hE fz (List.mem_of_getElem? hz)).fn;have eL:atI (fns.map λf=>V.ref f.fa) (-1)=some (V.ref fz.fa):=by
     unfold atI ixN;rw[if_neg (by decide),if_pos (by rw[fl]; omega),qcn];have:((-1:Int)+((fns.map λf=>V.ref f.fa).length:Int)).toNat=fns.length - 1:=by rw[fl]; omega
     rw[this,List.getElem?_map,hz];rfl
   refine⟨_,rfl,_,rfl,p,_,_,_,rfl,rfl,zgt.seq hS,eL,fz.fa,_,_,_,rfl,rfl,zgt.tup hzT,at0,_,rfl,x,t.za2,dx,_,rfl,hx,T.zb5.cl,T.zeg,(by show 0<1000; decide),?_⟩;have sx:∀{b:Addr} {o:HO},ers x H b=some o->b≠x/\H b=some o:=λ{b o} e=>by
     have hb:b≠x:=λz=>by rw[z] at e; unfold ers at e; rw[if_pos rfl] at e; cases e
     rw[zcu hb] at e;exact⟨hb,e⟩
   have l1:=zls "last" (V.str fz.name) [] 0 (qae _);intro d0 h0;refine⟨_,rfl,x,t.za2,dx,_,rfl,za4 zab (Ne.symm (zbl h0).1),T.zb5.cl,T.zcg,(by omega),?_⟩;have l2:=zls "number_of" (.ref d0) _ 1 l1;intro d1 h1;refine⟨_,rfl,x,t.za2,dx,_,rfl,za4 zab (Ne.symm (zbl h1).1),T.zb5.cl,T.zcf,(by omega),?_⟩;have l3:=zls "folded_of" (.ref d1) _ 2 l2;intro d2 h2;refine⟨_,rfl,x,t.za2,dx,_,rfl,za4 zab (Ne.symm (zbl h2).1),T.zb5.cl,T.zbw,(by omega),?_⟩;have l4:=zls "params_of" (.ref d2) _ 3 l3;intro d3 h3;refine⟨_,rfl,x,t.za2,dx,_,rfl,za4 zab (Ne.symm (zbl h3).1),T.zb5.cl,T.zcm,(by omega),?_⟩;have l5:=zls "rows_of" (.ref d3) _ 4 l4;intro d4 h4;refine⟨_,rfl,x,t.za2,dx,_,rfl,za4 zab (Ne.symm (zbl h4).1),T.zb5.cl,T.zbt,(by omega),?_⟩;have l6:=zls "names_in" (.ref d4) _ 5 l5;refine⟨λσ' G=>∃d:Nat->Addr,σ'=[some (.ref x),some (.ref p),none,none]/\FS t.za2 G x dx (zqv (V.str fz.name) d) d (λ_=>[])/\(∀i j,i<6->j<6->d i=d j->i=j)/\zaj (ers x H) G/\∀k,ers x H (d k)=none,?_,?_⟩
   . intro d5 h5;obtain⟨nx0,z0⟩:=zbl h0;have q0:H d0=none:=z0;obtain⟨nx1,z1⟩:=zbl h1;obtain⟨n10,w10⟩:=zbl z1;obtain⟨_,y10⟩:=zbl w10;have q1:H d1=none:=y10;obtain⟨nx2,z2⟩:=zbl h2;obtain⟨n21,w21⟩:=zbl z2;obtain⟨_,y21⟩:=zbl w21;obtain⟨n20,w20⟩:=zbl y21;obtain⟨_,y20⟩:=zbl w20;have q2:H d2=none:=y20;obtain⟨nx3,z3⟩:=zbl h3;obtain⟨n32,w32⟩:=zbl z3;obtain⟨_,y32⟩:=zbl w32;obtain⟨n31,w31⟩:=zbl y32;obtain⟨_,y31⟩:=zbl w31;obtain⟨n30,w30⟩:=zbl y31;obtain⟨_,y30⟩:=zbl w30;have q3:H d3=none:=y30;obtain⟨nx4,z4⟩:=zbl h4;obtain⟨n43,w43⟩:=zbl z4;obtain⟨_,y43⟩:=zbl w43;obtain⟨n42,w42⟩:=zbl y43;obtain⟨_,y42⟩:=zbl w42;obtain⟨n41,w41⟩:=zbl y42;obtain⟨_,y41⟩:=zbl w41;obtain⟨n40,w40⟩:=zbl y41;obtain⟨_,y40⟩:=zbl w40;have q4:H d4=none:=y40;obtain⟨nx5,z5⟩:=zbl h5;obtain⟨n54,w54⟩:=zbl z5;obtain⟨_,y54⟩:=zbl w54;obtain⟨n53,w53⟩:=zbl y54;obtain⟨_,y53⟩:=zbl w53;obtain⟨n52,w52⟩:=zbl y53;obtain⟨_,y52⟩:=zbl w52;obtain⟨n51,w51⟩:=zbl y52;obtain⟨_,y51⟩:=zbl w51;obtain⟨n50,w50⟩:=zbl y51;obtain⟨_,y50⟩:=zbl w50;have q5:H d5=none:=y50;have inj:∀i j,i<6->j<6->dd d0 d1 d2 d3 d4 d5 i=dd d0 d1 d2 d3 d4 d5 j->i=j:=λi j hi hj e=>by
       match i,j,hi,hj with
       | 0,0,_,_=>rfl
       | 0,1,_,_=>exact absurd e.symm n10
       | 0,2,_,_=>exact absurd e.symm n20
       | 0,3,_,_=>exact absurd e.symm n30
       | 0,4,_,_=>exact absurd e.symm n40
       | 0,5,_,_=>exact absurd e.symm n50
       | 1,0,_,_=>exact absurd e n10
       | 1,1,_,_=>rfl
       | 1,2,_,_=>exact absurd e.symm n21
       | 1,3,_,_=>exact absurd e.symm n31
       | 1,4,_,_=>exact absurd e.symm n41
       | 1,5,_,_=>exact absurd e.symm n51
       | 2,0,_,_=>exact absurd e n20
       | 2,1,_,_=>exact absurd e n21
       | 2,2,_,_=>rfl
       | 2,3,_,_=>exact absurd e.symm n32
       | 2,4,_,_=>exact absurd e.symm n42
       | 2,5,_,_=>exact absurd e.symm n52
       | 3,0,_,_=>exact absurd e n30
       | 3,1,_,_=>exact absurd e n31
       | 3,2,_,_=>exact absurd e n32
       | 3,3,_,_=>rfl
       | 3,4,_,_=>exact absurd e.symm n43
       | 3,5,_,_=>exact absurd e.symm n53
       | 4,0,_,_=>exact absurd e n40
       | 4,1,_,_=>exact absurd e n41
       | 4,2,_,_=>exact absurd e n42
       | 4,3,_,_=>exact absurd e n43
       | 4,4,_,_=>rfl
       | 4,5,_,_=>exact absurd e.symm n54
       | 5,0,_,_=>exact absurd e n50
       | 5,1,_,_=>exact absurd e n51
       | 5,2,_,_=>exact absurd e n52
       | 5,3,_,_=>exact absurd e n53
       | 5,4,_,_=>exact absurd e n54
       | 5,5,_,_=>rfl
       | n+6,_,h,_=>omega
       | _,n+6,_,h=>omega
     refine⟨_,rfl,x,t.za2,dx,_,rfl,za4 zab (Ne.symm nx5),T.zb5.cl,T.zcn,(by omega),dd d0 d1 d2 d3 d4 d5,rfl,⟨zab,λj hj=>?_⟩,inj,λb o e=>za4 (za4 (za4 (za4 (za4 (za4 (za4 (za4 (za4 (za4 (za4 (za4 (za4 (sx e).2 (sx e).1) (za3 (sx e).2 q0)) (sx e).1) (za3 (sx e).2 q1)) (sx e).1) (za3 (sx e).2 q2)) (sx e).1) (za3 (sx e).2 q3)) (sx e).1) (za3 (sx e).2 q4)) (sx e).1) (za3 (sx e).2 q5)) (sx e).1,λk=>?_⟩
     . match j,hj with
       | 0,_=>exact za4 (za4 (za4 (za4 (za4 (za4 (za4 (za4 (za4 (za4 (za4 zab nx0) (Ne.symm n10)) nx0) (Ne.symm n20)) nx0) (Ne.symm n30)) nx0) (Ne.symm n40)) nx0) (Ne.symm n50)) nx0
       | 1,_=>exact za4 (za4 (za4 (za4 (za4 (za4 (za4 (za4 (za4 zab nx1) (Ne.symm n21)) nx1) (Ne.symm n31)) nx1) (Ne.symm n41)) nx1) (Ne.symm n51)) nx1
       | 2,_=>exact za4 (za4 (za4 (za4 (za4 (za4 (za4 zab nx2) (Ne.symm n32)) nx2) (Ne.symm n42)) nx2) (Ne.symm n52)) nx2
       | 3,_=>exact za4 (za4 (za4 (za4 (za4 zab nx3) (Ne.symm n43)) nx3) (Ne.symm n53)) nx3
       | 4,_=>exact za4 (za4 (za4 zab nx4) (Ne.symm n54)) nx4
       | 5,_=>exact za4 zab nx5
       | n+6,h=>omega
     . match k with
       | 0=>exact(zcu nx0).trans q0
       | 1=>exact(zcu nx1).trans q1
       | 2=>exact(zcu nx2).trans q2
       | 3=>exact(zcu nx3).trans q3
       | 4=>exact(zcu nx4).trans q4
       | n+5=>exact(zcu nx5).trans q5
   rintro σ' G ⟨d,rfl,hFS,inj,hsm,hfd⟩;refine⟨_,rfl,p,rfl,⟨_,hsm.seq hS⟩,(let Jv1:Nat->St->Hp->Prop:=λi σ H2=>∃(v2 v3:Option V) (kv:Nat->List (Key×V)) (nl wl:Nat->Addr),σ=[some (.ref x),some (.ref p),v2,v3]/\zaj (ers x H) H2/\FS t.za2 H2 x dx (zqv (V.str fz.name) d) d kv/\kv 0=kD (λi _=>.int i) (fns.take i)/\kv 1=kD (λ_ f=>f.fo) (fns.take i)/\kv 2=kD (λ_ f=>.ref f.pa) (fns.take i)/\kv 3=kD (λ_ f=>.ref f.ra) (fns.take i)/\kv 4=kD (λi _=>.ref (nl i)) (fns.take i)/\kv 5=kD (λi _=>.ref (wl i)) (fns.take i)/\(∀j g,j<i->fns[j]?=some g->hl H2 (nl j)=some (.lst ((nms g).map V.str))/\K13.FoundN (hl H2) (wl j) (kds g) (kds g).length)/\∀j,j<6->(kv j).length<=i; zwc (xs:=fns.map λf=>V.ref f.fa) Jv1 ⟨_,_,_,λ_=>0,λ_=>0,rfl,hsm,hFS,rfl,rfl,rfl,rfl,rfl,rfl,λj g h=>absurd h (qcx _),λj hj=>qae _⟩ ?_ ?_ ?_)⟩
   . rintro i σ H2 hi ⟨v2,v3,kv,nlf,wlf,rfl,s2,_⟩;exact s2.seq hS
   . rintro i y σ H2 b hy ⟨v2,v3,kv,nlf,wlf,rfl,s2,o2,k0,k1,k2,k3,k4,k5,hnw,kl⟩ hb;obtain⟨f,hi,hm,rfl⟩:=ziy hy;have ilt:i<fns.length:=(List.getElem?_eq_some_iff.mp hi).1;have hT:=(hE f hm).fn;have hfu:=(hE f hm).fu;have fit:∀{n:Nat},n<=i+1->n<sizeLine:=λ{n} h=>zx2 (by omega);refine⟨b,_,rfl,SqT.of zab,rfl,_,_,rfl,_,_,rfl,rfl,?_⟩;have s3:=s2.trans (zaj.new (o:=.tup [.int i,.ref f.fa]) hb);have o3:=o2.mono (zaj.new (o:=.tup [.int i,.ref f.fa]) hb);refine⟨_,rfl,_,rfl,x,t.za2,dx,_,_,rfl,o3.ob,T.zb5.cl,T.zcg,zx7 _ _,_,rfl,f.fa,_,_,_,rfl,rfl,s3.tup hT,at0,d 0,_,rfl,zn9.k (k:=(Sum.inr f.name:Key)) (show _=some (HO.dK (kv 0)) from o3.dc 0 (by decide)) (fit (by have:=kl 0 (by decide); simpa using (by omega:_<=i+1))),?_⟩;have s4:=zaj.upd (o:=.dK (zbx (kv 0) (Sum.inr f.name:Key) (V.int i))) s3 (hfd 0);have o4:=o3.put inj 0 (by decide) (zbx (kv 0) (Sum.inr f.name:Key) (V.int i));refine⟨_,rfl,f.fa,_,_,_,rfl,rfl,s4.tup hT,rfl,_,rfl,x,t.za2,dx,_,_,rfl,o4.ob,T.zb5.cl,T.zcf,zv4 _ _,_,rfl,f.fa,_,_,_,rfl,rfl,s4.tup hT,at0,d 1,_,rfl,zn9.k (k:=(Sum.inr f.name:Key)) (show _=some (HO.dK (kv 1)) from o4.dc 1 (by decide)) (fit (by have:=kl 1 (by decide); simpa using (by omega:_<=i+1))),?_⟩;have s5:=zaj.upd (o:=.dK (zbx (kv 1) (Sum.inr f.name:Key) f.fo)) s4 (hfd 1);have o5:=o4.put inj 1 (by decide) (zbx (kv 1) (Sum.inr f.name:Key) f.fo);refine⟨_,rfl,f.fa,_,_,_,rfl,rfl,s5.tup hT,rfl,_,rfl,x,t.za2,dx,_,_,rfl,o5.ob,T.zb5.cl,T.zbw,zqn _ _,_,rfl,f.fa,_,_,_,rfl,rfl,s5.tup hT,at0,d 2,_,rfl,zn9.k (k:=(Sum.inr f.name:Key)) (show _=some (HO.dK (kv 2)) from o5.dc 2 (by decide)) (fit (by have:=kl 2 (by decide); simpa using (by omega:_<=i+1))),?_⟩;have s6:=zaj.upd (o:=.dK (zbx (kv 2) (Sum.inr f.name:Key) (.ref f.pa))) s5 (hfd 2);have o6:=o5.put inj 2 (by decide) (zbx (kv 2) (Sum.inr f.name:Key) (.ref f.pa));refine⟨_,rfl,f.fa,_,_,_,rfl,rfl,s6.tup hT,rfl,_,rfl,x,t.za2,dx,_,_,rfl,o6.ob,T.zb5.cl,T.zcm,zxp _ _,_,rfl,f.fa,_,_,_,rfl,rfl,s6.tup hT,at0,d 3,_,rfl,zn9.k (k:=(Sum.inr f.name:Key)) (show _=some (HO.dK (kv 3)) from o6.dc 3 (by decide)) (fit (by have:=kl 3 (by decide); simpa using (by omega:_<=i+1))),?_⟩;have s7:=zaj.upd (o:=.dK (zbx (kv 3) (Sum.inr f.name:Key) (.ref f.ra))) s6 (hfd 3);have o7:=o6.put inj 3 (by decide) (zbx (kv 3) (Sum.inr f.name:Key) (.ref f.ra));refine⟨_,rfl,f.fa,f.ps,f.ds,rfl,hfu.mono s7,λnl H8 e8 hnl hl8=>?_⟩;have s8:=s7.trans e8;have o8:=o7.mono e8;refine⟨_,rfl,x,t.za2,dx,_,_,rfl,o8.ob,T.zb5.cl,T.zbt,zt1 _ _,_,rfl,f.fa,_,_,_,rfl,rfl,s8.tup hT,at0,d 4,_,rfl,zn9.k (k:=(Sum.inr f.name:Key)) (show _=some (HO.dK (kv 4)) from o8.dc 4 (by decide)) (fit (by have:=kl 4 (by decide); simpa using (by omega:_<=i+1))),?_⟩;have s9:=zaj.upd (o:=.dK (zbx (kv 4) (Sum.inr f.name:Key) (.ref nl))) s8 (hfd 4);have o9:=o8.put inj 4 (by decide) (zbx (kv 4) (Sum.inr f.name:Key) (.ref nl));refine⟨_,rfl,f.fa,_,_,_,rfl,rfl,s9.tup hT,rfl,f.ra,kds f,rfl,((hE f hm).old.mono s9).rows,(hE f hm).wf,(by unfold kds; rw[List.length_map]; have:=(hE f hm).len; omega),λwl HA eA hwl hfn=>?_⟩;have sA:=s9.trans eA;have oA:=o9.mono eA;refine⟨_,rfl,x,t.za2,dx,_,_,rfl,oA.ob,T.zb5.cl,T.zcn,zwa _ _,_,rfl,f.fa,_,_,_,rfl,rfl,sA.tup hT,at0,d 5,_,rfl,zn9.k (k:=(Sum.inr f.name:Key)) (show _=some (HO.dK (kv 5)) from oA.dc 5 (by decide)) (fit (by have:=kl 5 (by decide); simpa using (by omega:_<=i+1))),?_⟩;have sB:=zaj.upd (o:=.dK (zbx (kv 5) (Sum.inr f.name:Key) (.ref wl))) sA (hfd 5);have oB:=oA.put inj 5 (by decide) (zbx (kv 5) (Sum.inr f.name:Key) (.ref wl));have c3:zaj (hl H2) (hl H8):=by have z1:zaj (hl H2) (hl (upd H2 b (.tup [.int i,.ref f.fa]))):=(zaj.new (o:=.tup [.int i,.ref f.fa]) hb).hl;have z2:=e8.hl;rw[zur (o6.dc 3 (by decide)),zur (o5.dc 2 (by decide)),zur (o4.dc 1 (by decide)),zur (o3.dc 0 (by decide))] at z2;exact z1.trans z2
     have c4:zaj (hl H8) (hl HA):=by have z2:=eA.hl;rw[zur (o8.dc 4 (by decide))] at z2;exact z2
     have c5:hl (upd HA (d 5) (.dK (zbx (kv 5) (Sum.inr f.name:Key) (.ref wl))))=hl HA:=zur (oA.dc 5 (by decide));refine⟨_,_,_,λj=>if j=i then nl else nlf j,λj=>if j=i then wl else wlf j,rfl,sB,oB,?_,?_,?_,?_,?_,?_,λj g hj hg=>?_,λj hj=>?_⟩
     . show zbx (kv 0) (Sum.inr f.name:Key) (V.int i)=_;rw[k0];exact zmw hi nd (λ_ _ _=>rfl) rfl
     . show zbx (kv 1) (Sum.inr f.name:Key) f.fo=_;rw[k1];exact zmw hi nd (λ_ _ _=>rfl) rfl
     . show zbx (kv 2) (Sum.inr f.name:Key) (.ref f.pa)=_;rw[k2];exact zmw hi nd (λ_ _ _=>rfl) rfl
     . show zbx (kv 3) (Sum.inr f.name:Key) (.ref f.ra)=_;rw[k3];exact zmw hi nd (λ_ _ _=>rfl) rfl
     . show zbx (kv 4) (Sum.inr f.name:Key) (.ref nl)=_;rw[k4];exact zmw hi nd (λj _ hj=>by show V.ref (nlf j)=V.ref (if j=i then nl else nlf j); rw[if_neg (by omega)]) (by show V.ref nl=V.ref (if i=i then nl else nlf i); rw[if_pos rfl])
     . show zbx (kv 5) (Sum.inr f.name:Key) (.ref wl)=_;rw[k5];exact zmw hi nd (λj _ hj=>by show V.ref (wlf j)=V.ref (if j=i then wl else wlf j); rw[if_neg (by omega)]) (by show V.ref wl=V.ref (if i=i then wl else wlf i); rw[if_pos rfl])
     . rw[c5];by_cases hji:j=i
       . subst hji;rw[hi] at hg;cases hg;refine⟨?_,?_⟩
         . show hl HA (if j=j then nl else nlf j)=_;rw[if_pos rfl];exact c4 _ _ (z00 hl8)
         . show K13.FoundN (hl HA) (if j=j then wl else wlf j) _ _;rw[if_pos rfl];exact hfn.hl
       . obtain⟨y1,y2⟩:=hnw j g (by omega) hg;refine⟨?_,?_⟩
         . show hl HA (if j=i then nl else nlf j)=_;rw[if_neg hji];exact c4 _ _ (c3 _ _ y1)
         . show K13.FoundN (hl HA) (if j=i then wl else wlf j) _ _;rw[if_neg hji];exact y2.mono (c3.trans c4)
     . have e:=kl j hj
       match j,hj with
       | 0,_=>exact Nat.le_trans (zbq _ _ _) (by omega)
       | 1,_=>exact Nat.le_trans (zbq _ _ _) (by omega)
       | 2,_=>exact Nat.le_trans (zbq _ _ _) (by omega)
       | 3,_=>exact Nat.le_trans (zbq _ _ _) (by omega)
       | 4,_=>exact Nat.le_trans (zbq _ _ _) (by omega)
       | 5,_=>exact Nat.le_trans (zbq _ _ _) (by omega)
       | n+6,h=>omega
   . rintro σ H2 ⟨v2,v3,kv,nlf,wlf,rfl,s2,o2,k0,k1,k2,k3,k4,k5,hnw,kl⟩;rw[fl,qbs] at k0 k1 k2 k3 k4 k5;exact q H2 s2 ⟨λf hf=>(hE f hf).mono s2,nd,dx,fz,d,kv,nlf,wlf,hz,o2,k0,k1,k2,k3,k4,k5,λi f hi=>let ⟨y1,y2⟩:=hnw i f (by rw[fl]; exact(List.getElem?_eq_some_iff.mp hi).1) hi; ⟨zs6 _ _ y1,y2.mono zs6⟩⟩
end
end K24
namespace K24
open PySem L2 K21
section
variable {P:Program} {w:World} {K:W.Frag} {mg:Str->Option Value} {base:Heap} {t:Adr}
theorem zz6:FnScope ["sign","one","other"] ["sign","one","other"] (zai zpk):=by walk_at "s"
theorem zzf (T:Txt K mg t):FnOk P w K mg base CX0 1 t.zyc t.zyj ["sign","one","other"] (zzq K):=by
 refine T.value.F.ok zz6 (λvs H Q E h=>?_) (λcdv A outer s H vs Q E hr h=>?_)
 . obtain⟨s,a,b,rfl,h1,h2,h3,h4,q⟩:=h;rfl
 . obtain⟨s,a,b,rfl,h1,h2,h3,h4,q⟩:=h;refine⟨_,(@zac _ _ _ _ _ (@zbd _ _ _ _ _ _ _ _ (@zar _ _ _ _ _ _ _ _ zcp (pv 0) zaz (zax _)) (@zah _ _ _ (@zas _ _ _ _ (@zao _ _ _ _ _ _ _ _ za5 (@zao _ _ _ _ _ _ _ _ zcv (pv 1) (pv 2)) (zsb T.zye)))) zan) (@zac _ _ _ _ _ (@zbd _ _ _ _ _ _ _ _ (@zar _ _ _ _ _ _ _ _ zcp (pv 0) zaz (zax _)) (@zah _ _ _ (@zas _ _ _ _ (@zao _ _ _ _ _ _ _ _ za5 (@zao _ _ _ _ _ _ _ _ zh6 (pv 1) (pv 2)) (zsb T.zye)))) zan) (@zac _ _ _ _ _ (@zbd _ _ _ _ _ _ _ _ (@zar _ _ _ _ _ _ _ _ zcp (pv 0) zaz (zax _)) (@zah _ _ _ (@zas _ _ _ _ (@zao _ _ _ _ _ _ _ _ za5 (@zao _ _ _ _ _ _ _ _ zjw (pv 1) (pv 2)) (zsb T.zye)))) zan) (@zac _ _ _ _ _ (@zbd _ _ _ _ _ _ _ _ (@zar _ _ _ _ _ _ _ _ zcp (pv 0) zaz (zax _)) (@zah _ _ _ (@zas _ _ _ _ (@zjh _ _ _ _ _ _ _ _ (@zar _ _ _ _ _ _ _ _ zcp (pv 2) zad (zax _)) zad (@zao _ _ _ _ _ _ _ _ zzp (pv 1) (pv 2))))) zan) (@zac _ _ _ _ _ (@zbd _ _ _ _ _ _ _ _ (@zar _ _ _ _ _ _ _ _ zcp (pv 0) zaz (zax _)) (@zah _ _ _ (@zas _ _ _ _ (@zjh _ _ _ _ _ _ _ _ (@zar _ _ _ _ _ _ _ _ zsq (pv 1) (pv 2) (zax _)) zad zad))) zan) (@zac _ _ _ _ _ (@zbd _ _ _ _ _ _ _ _ (@zar _ _ _ _ _ _ _ _ zcp (pv 0) zaz (zax _)) (@zah _ _ _ (@zas _ _ _ _ (@zjh _ _ _ _ _ _ _ _ (@zar _ _ _ _ _ _ _ _ zcp (pv 1) (pv 2) (zax _)) zad zad))) zan) (@zac _ _ _ _ _ (@zbd _ _ _ _ _ _ _ _ (@zar _ _ _ _ _ _ _ _ zcp (pv 0) zaz (zax _)) (@zah _ _ _ (@zas _ _ _ _ (@zao _ _ _ _ _ _ _ _ z37 (pv 1) (pv 2)))) zan) (@zac _ _ _ _ _ (@zbd _ _ _ _ _ _ _ _ (@zar _ _ _ _ _ _ _ _ zcp (pv 0) zaz (zax _)) (@zah _ _ _ (@zas _ _ _ _ (@zao _ _ _ _ _ _ _ _ z54 (pv 1) (pv 2)))) zan) (@zah _ _ _ (@zas _ _ _ _ (@zao _ _ _ _ _ _ _ _ z5h (pv 1) (pv 2)))))))))))),?_⟩;have hw:wide=281474976710656:=rfl;refine⟨_,rfl,rfl,_,rfl,?_⟩;by_cases k1:s="+"
   . refine zhl (decide_eq_true (congrArg V.str k1)) ?_;have e:valOf s a b=(a+b)%wide:=by unfold valOf; rw[if_pos k1]
     rw[e] at q;exact⟨_,rfl,_,rfl,_,_,rfl,rfl,_,_,rfl,rfl,(show(0:Int)<281474976710656 by decide),q⟩
   refine zf7 (λz=>k1 (V.str.inj (zb2 z))) ?_;refine⟨_,rfl,rfl,_,rfl,?_⟩;by_cases k2:s="-"
   . refine zhl (decide_eq_true (congrArg V.str k2)) ?_;have e:valOf s a b=(a - b)%wide:=by unfold valOf; rw[if_neg k1,if_pos k2]
     rw[e] at q;exact⟨_,rfl,_,rfl,_,_,rfl,rfl,_,_,rfl,rfl,(show(0:Int)<281474976710656 by decide),q⟩
   refine zf7 (λz=>k2 (V.str.inj (zb2 z))) ?_;refine⟨_,rfl,rfl,_,rfl,?_⟩;by_cases k3:s="*"
   . refine zhl (decide_eq_true (congrArg V.str k3)) ?_;have e:valOf s a b=(a * b)%wide:=by unfold valOf; rw[if_neg k1,if_neg k2,if_pos k3]
     rw[e] at q;exact⟨_,rfl,_,rfl,_,_,rfl,rfl,.inl ⟨by omega,by omega⟩,_,_,rfl,rfl,(show(0:Int)<281474976710656 by decide),q⟩
   refine zf7 (λz=>k3 (V.str.inj (zb2 z))) ?_;refine⟨_,rfl,rfl,_,rfl,?_⟩;by_cases k4:s="/"
   . refine zhl (decide_eq_true (congrArg V.str k4)) ?_;have e:valOf s a b=if b=0 then 0 else a / b:=by unfold valOf; rw[if_neg k1,if_neg k2,if_neg k3,if_pos k4]
     rw[e] at q;refine⟨_,rfl,rfl,_,rfl,?_⟩;by_cases hb:b=0
     . rw[if_pos hb] at q;exact zhl (decide_eq_true (congrArg V.int hb)) q
     . rw[if_neg hb] at q;exact zf7 (λz=>hb (V.int.inj (zb2 z))) ⟨_,rfl,_,rfl,_,_,rfl,rfl,⟨by omega,by omega⟩,q⟩
   refine zf7 (λz=>k4 (V.str.inj (zb2 z))) ?_;refine⟨_,rfl,rfl,_,rfl,?_⟩;by_cases k5:s="<"
   . refine zhl (decide_eq_true (congrArg V.str k5)) ?_;have e:valOf s a b=if a<b then 1 else 0:=by unfold valOf; rw[if_neg k1,if_neg k2,if_neg k3,if_neg k4,if_pos k5]
     rw[e] at q;refine⟨_,rfl,_,rfl,_,_,rfl,rfl,_,rfl,?_⟩;by_cases hb:a<b
     . rw[if_pos hb] at q;exact zhl (decide_eq_true hb) q
     . rw[if_neg hb] at q;exact zf7 (λz=>hb (zb2 z)) q
   refine zf7 (λz=>k5 (V.str.inj (zb2 z))) ?_;refine⟨_,rfl,rfl,_,rfl,?_⟩;by_cases k6:s="="
   . refine zhl (decide_eq_true (congrArg V.str k6)) ?_;have e:valOf s a b=if a=b then 1 else 0:=by unfold valOf; rw[if_neg k1,if_neg k2,if_neg k3,if_neg k4,if_neg k5,if_pos k6]
     rw[e] at q;refine⟨_,rfl,_,rfl,rfl,_,rfl,?_⟩;by_cases hb:a=b
     . rw[if_pos hb] at q;exact zhl (decide_eq_true (congrArg V.int hb)) q
     . rw[if_neg hb] at q;exact zf7 (λz=>hb (V.int.inj (zb2 z))) q
   refine zf7 (λz=>k6 (V.str.inj (zb2 z))) ?_;refine⟨_,rfl,rfl,_,rfl,?_⟩;by_cases k7:s="&"
   . refine zhl (decide_eq_true (congrArg V.str k7)) ?_;have e:valOf s a b=Builtin.bitAnd a b:=by unfold valOf bw; rw[if_neg k1,if_neg k2,if_neg k3,if_neg k4,if_neg k5,if_neg k6,if_pos k7]
     rw[e] at q;exact⟨_,rfl,_,rfl,_,_,rfl,rfl,q⟩
   refine zf7 (λz=>k7 (V.str.inj (zb2 z))) ?_;refine⟨_,rfl,rfl,_,rfl,?_⟩;by_cases k8:s="|"
   . refine zhl (decide_eq_true (congrArg V.str k8)) ?_;have e:valOf s a b=Builtin.bitOr a b:=by unfold valOf bw; rw[if_neg k1,if_neg k2,if_neg k3,if_neg k4,if_neg k5,if_neg k6,if_neg k7,if_pos k8]
     rw[e] at q;exact⟨_,rfl,_,rfl,_,_,rfl,rfl,q⟩
   refine zf7 (λz=>k8 (V.str.inj (zb2 z))) ?_;have e:valOf s a b=Builtin.bitXor a b:=by unfold valOf bw; rw[if_neg k1,if_neg k2,if_neg k3,if_neg k4,if_neg k5,if_neg k6,if_neg k7,if_neg k8]
   rw[e] at q;exact⟨_,rfl,_,rfl,_,_,rfl,rfl,q⟩
end
end K24
namespace K24
open PySem L2 Gx Fl Wk
section
variable {P:Program} {w:World} {K:W.Frag} {mg:Str->Option Value} {base:Heap} {t:Adr}
theorem zoe:FnScope ["self","program"] ["self","program"] (zai zf1):=by walk_at "s"
theorem zom (T:Txt K mg t):FnOk P w K mg base CX0 6 t.zk9 t.zld ["self","program"] (zoa K t):=by
 have G_Flows_init:=zpt (P:=P) (w:=w) (base:=base) T;refine T.zkh.F.ok zoe (λvs H Q E h=>?_) (λcdv A outer s H vs Q E hr h=>?_)
 . obtain⟨x,dx,p,fns,rfl,hx,hp,hne,hlen,hall,hnd,q⟩:=h;rfl
 . obtain⟨x,dx,p,fns,rfl,hx,hp,hne,hlen,hall,hnd,q⟩:=h;refine⟨_,(@zac _ _ _ _ _ (zet (pv 0) (zzb T.zb5 T.zo3 G_Flows_init (hr.mono (by decide)) (@zaa _ _ _ _ _ (pv 1) zaf (by rfl))) (by rfl)) (@zac _ _ _ _ _ (zet (pv 0) (@zc1 _ _ _ _ zaf) (by rfl)) (@zac _ _ _ _ _ (zet (pv 0) zhc (by rfl)) (@zac _ _ _ _ _ (zet (pv 0) (@zc1 _ _ _ _ zaf) (by rfl)) (@zac _ _ _ _ _ (zet (pv 0) zz1 (by rfl)) (@zah _ _ _ (zet (pv 0) zad (by rfl)))))))),?_⟩;refine⟨_,rfl,λfl fdx hfl hfdx nfd=>?_⟩;have nxf:x≠fl:=λz=>by rw[<- z,hx] at hfl; cases hfl
   have nxd:x≠fdx:=λz=>by rw[<- z,hx] at hfdx; cases hfdx
   have sE:zaj (ers x H) (ers fl (upd (upd H fdx (.own fl)) fl (.ins t.za2 fdx []))):=λb o hb=>by
     unfold L2.ers at hb;split at hb
     . cases hb
     . have n1:b≠fl:=λz=>by rw[z,hfl] at hb; cases hb
       have n2:b≠fdx:=λz=>by rw[z,hfdx] at hb; cases hb
       rw[zcu n1,zag n1,zag n2];exact hb
   refine⟨fl,fdx,p,fns,rfl,zab,sE.seq hp,hne,hlen,λf hf=>(hall f hf).mono sE,hnd,λH2 s2 hFl=>⟨rfl,?_⟩⟩;have hx2:H2 x=some (.ins t.zak dx []):=s2 _ _ (by rw[zcu nxf,zag nxf,zag nxd]; exact hx);have sb:zaj (ers x H) (ers x H2):=λb o hb=>by
     have nb:b≠x:=λz=>by rw[z] at hb; unfold L2.ers at hb; rw[if_pos rfl] at hb; cases hb
     rw[zcu nb];exact s2 _ _ (sE _ _ hb)
   have hFb:F2.FlowsAt K t.za2 (ers x H2) fl fns:=zzy hFl (λb o hb hn=>by
     have nb:b≠x:=λz=>by rw[z,hx2] at hb; cases hb; exact hn _ _ _ rfl
     rw[zcu nb];exact hb) (λo ho=>by rw[zcu nxf.symm]; exact ho)
   refine⟨_,rfl,x,_,_,_,rfl,hx2,T.zae.cl,T.za1,(by decide),le0,λst hst=>⟨_,rfl,x,_,_,_,rfl,zaj.new hst _ _ zab,T.zae.cl,T.zat,qbw (zsf _ _ _ 0 (qae 0)) (by decide),_,rfl,x,_,_,_,rfl,zab,T.zae.cl,T.zbi,qbw (zsf _ _ _ 1 (zsf _ _ _ 0 (qae 0))) (by decide),le0,λsd hsd=>⟨_,rfl,x,_,_,_,rfl,zaj.new hsd _ _ zab,T.zae.cl,T.zbc,qbw (zsf _ _ _ 2 (zsf _ _ _ 1 (zsf _ _ _ 0 (qae 0)))) (by decide),λct hct=>⟨_,rfl,x,_,_,_,rfl,zaj.new hct _ _ zab,T.zae.cl,T.zb1,qbw (zsf _ _ _ 3 (zsf _ _ _ 2 (zsf _ _ _ 1 (zsf _ _ _ 0 (qae 0))))) (by decide),_,rfl,x,_,_,_,rfl,zab,T.zae.cl,T.zb7,qbw (zsf _ _ _ 4 (zsf _ _ _ 3 (zsf _ _ _ 2 (zsf _ _ _ 1 (zsf _ _ _ 0 (qae 0)))))) (by decide),?_⟩⟩⟩⟩;have nst:st≠x:=λz=>by rw[z,zab] at hst; cases hst
   have hst2:H2 st=none:=by rwa [zag nst] at hst
   have nsd:sd≠x:=λz=>by rw[z,zab] at hsd; cases hsd
   rw[zag nsd,zag nsd] at hsd;have nss:sd≠st:=λz=>by rw[z,zab] at hsd; cases hsd
   have hsd2:H2 sd=none:=by rwa [zag nss,zag nsd] at hsd
   have nct:ct≠x:=λz=>by rw[z,zab] at hct; cases hct
   rw[zag nct] at hct;have ncd:ct≠sd:=λz=>by rw[z,zab] at hct; cases hct
   rw[zag ncd,zag nct,zag nct] at hct;have ncs:ct≠st:=λz=>by rw[z,zab] at hct; cases hct
   have hct2:H2 ct=none:=by rwa [zag ncs,zag nct] at hct
   have hb0:∀{b:Addr},H2 b=none->ers x H2 b=none:=λ{b} hb=>by
     unfold L2.ers;split
     . rfl
     . exact hb
   have fin:∀b o,ers x H2 b=some o->b≠x/\b≠st/\b≠sd/\b≠ct/\H2 b=some o:=λb o hb=>by
     unfold L2.ers at hb;split at hb
     . cases hb
     . rename_i nb
       exact⟨nb,(λz=>by rw[z,hst2] at hb; cases hb),(λz=>by rw[z,hsd2] at hb; cases hb),(λz=>by rw[z,hct2] at hb; cases hb),hb⟩
   refine q (ers x H2) ⟨x,dx,st,sd,ct,fl⟩ _ rfl sb ⟨λb o hb=>?_,zab,?_,?_,?_,(λf hf=>by cases hf),qd3,qd3,nss.symm,(λf hf=>by cases hf),⟨ncs,ncd,nct⟩,(λf hf=>by cases hf),?_,hb0 hst2,hb0 hsd2,hb0 hct2,(λf hf=>by cases hf)⟩ hFb
   . obtain⟨n1,n2,n3,n4,e⟩:=fin b o hb;rw[zag n1,zag n1,zag n4,zag n1,zag n3,zag n1,zag n1,zag n2,zag n1];exact e
   . show upd _ x _ st=_;rw[zag nst,zag nst,zag ncs.symm,zag nst,zag nss.symm,zag nst,zag nst,zab];rfl
   . show upd _ x _ sd=_;rw[zag nsd,zag nsd,zag ncd.symm,zag nsd,zab]
   . show upd _ x _ ct=_;rw[zag nct,zag nct,zab]
   . show ers x H2 x=none;unfold L2.ers;rw[if_pos rfl]
theorem znc:FnScope ["self"] ["self"] (zai ze7):=by walk_at "s"
theorem zf8 (T:Txt K mg t):FnOk P w K mg base CX0 1 t.zj0 t.zj2 ["self"] (zmx K t):=by
 refine T.zds.F.ok znc (λvs H Q E h=>?_) (λcdv A outer s H vs Q E hr h=>?_)
 . obtain⟨Hb,w,fs,oc,sent,cn,rfl,h,q⟩:=h;rfl
 . obtain⟨Hb,w,fs,oc,sent,cn,rfl,h,q⟩:=h;refine⟨_,(@zac _ _ _ _ _ (@zas _ _ _ _ (zg7 zcp (zbm zcb (by rfl) T.b_len zjs (@zaa _ _ _ _ _ (zbk (pv 0) (by rfl)) zaf (by rfl))) zad (zax _))) zan),?_⟩;refine⟨_,rfl,w.a,_,_,_,_,rfl,h.o,T.zae.cl,T.zat,rfl,w.st,_,rfl,.inl (SqL.of h.st),rfl,vq (congrArg V.bl ?_) q⟩;rw[qbz,decide_eq_true_eq,decide_eq_true_eq];cases fs with
   | nil=>exact⟨λ_=>rfl,λ_=>rfl⟩
   | cons f r=>exact⟨(λz=>by have:=V.int.inj z; simp at this; omega),λz=>by cases z⟩
theorem zmm:FnScope ["self"] ["self"] (zai zel):=by walk_at "s"
theorem zh8 (T:Txt K mg t):FnOk P w K mg base CX0 1 t.zi4 t.zi6 ["self"] (zmk K t):=by
 refine T.zb9.F.ok zmm (λvs H Q E h=>?_) (λcdv A outer s H vs Q E hr h=>?_)
 . obtain⟨Hb,w,fs,oc,sent,cn,rfl,h,q⟩:=h;rfl
 . obtain⟨Hb,w,fs,oc,sent,cn,rfl,h,q⟩:=h;refine⟨_,(@zac _ _ _ _ _ (@zas _ _ _ _ (zbk (pv 0) (by rfl))) zan),?_⟩;exact⟨_,rfl,w.a,_,_,_,_,rfl,h.o,T.zae.cl,T.zbi,rfl,q⟩
theorem zon:FnScope ["self"] ["self"] (zai zf0):=by walk_at "s"
theorem zoc (T:Txt K mg t):FnOk P w K mg base CX0 1 t.zla t.zle ["self"] (zod K t):=by
 refine T.zki.F.ok zon (λvs H Q E h=>?_) (λcdv A outer s H vs Q E hr h=>?_)
 . obtain⟨Hb,w,fs,oc,sent,cn,rfl,h,q⟩:=h;rfl
 . obtain⟨Hb,w,fs,oc,sent,cn,rfl,h,q⟩:=h;refine⟨_,(@zac _ _ _ _ _ (@zas _ _ _ _ (za6 zfb (by rfl) T.b_list zj9 (@zaa _ _ _ _ _ (zbk (pv 0) (by rfl)) zaf (by rfl)))) zan),?_⟩;exact⟨_,rfl,w.a,_,_,_,_,rfl,h.o,T.zae.cl,T.zbc,rfl,w.sd,_,rfl,.inl (SqL.of h.sd),q⟩
theorem zm2:FnScope ["self","record","name"] ["self","record","name"] (zai ze5):=by walk_at "s"
theorem zm8 (T:Txt K mg t):FnOk P w K mg base CX0 1 t.zj1 t.zj3 ["self","record","name"] (zm3 K t):=T.zi2.F.ok zm2 (λvs H Q E h=>h.elim) (λcdv A outer s H vs Q E hr h=>h.elim)
theorem zid:FnScope ["self","frame"] ["self","frame"] (zai zcr):=by walk_at "s"
theorem zev (T:Txt K mg t):FnOk P w K mg base CX0 1 t.zff t.zfi ["self","frame"] (zic K t):=by
 refine T.zcj.F.ok zid (λvs H Q E h=>?_) (λcdv A outer s H vs Q E hr h=>?_)
 . obtain⟨x,f,rfl,h,q⟩:=h;rfl
 . obtain⟨x,f,rfl,h,q⟩:=h;refine⟨_,(@zac _ _ _ _ _ (@zas _ _ _ _ (@zc1 _ _ _ _ (@zaa _ _ _ _ _ (@zcc _ _ _ _ _ (@zaa _ _ _ _ _ (zbk (pv 1) (by rfl)) (@zaa _ _ _ _ _ (zbk (pv 1) (by rfl)) zaf (by rfl)) (by rfl))) zaf (by rfl)))) zan),?_⟩;refine⟨_,rfl,f.a,_,_,_,_,rfl,h.o,T.zav.cl,T.za9,rfl,_,rfl,f.a,_,_,_,_,rfl,h.o,T.zav.cl,T.zbr,rfl,le2,λtp htp=>⟨le1,λl hl=>?_⟩⟩;have ne:l≠tp:=λz=>by rw[z,zab] at hl; cases hl
   exact q tp l htp (by rwa [zag ne] at hl) ne
theorem zfo:FnScope ["self","found","frame"] ["self"] (zai zeo):=by walk_at "s"
theorem zfn (T:Txt K mg t):FnOk P w K mg base CX0 2 t.zi5 t.zi7 ["self"] (zmj K t):=by
 have G_TextWalker_chain_of:=zev (P:=P) (w:=w) (base:=base) T;refine T.zdf.F.ok zfo (λvs H Q E h=>?_) (λcdv A outer s H vs Q E hr h=>?_)
 . obtain⟨Hb,w,fs,oc,sent,cn,rfl,h,hl,q⟩:=h;rfl
 . obtain⟨Hb,w,fs,oc,sent,cn,rfl,h,hl,q⟩:=h;refine⟨_,(@zac _ _ _ _ _ (@zay _ _ 1 _ _ _ _ zfo.nd rfl (Or.inl rfl) (@zc1 _ _ _ _ zaf) (by rfl) (by first|exact .inl rfl|exact .inr rfl|assumption)) (@zac _ _ _ _ _ (zea PassesOwn.never rfl (zgc (zbk (pv 0) (by rfl))) (za0 (i:=2) zfo.nd rfl (Or.inl rfl)) (@zah _ _ _ (@zbp _ _ _ _ (zhm qat qdx qdy zre (pv 1) (@zaa _ _ _ _ _ (zbb (pv 0) T.zae.cl T.zcj.m G_TextWalker_chain_of (hr.mono (by decide)) T.zcj.b .nil zcq (@zaa _ _ _ _ _ (pv 2) zaf (by rfl))) zaf (by rfl))) (by rfl)))) (@zah _ _ _ (@zas _ _ _ _ (pv 1))))),?_⟩;refine⟨le0,λl hl0=>?_⟩;generalize e:upd H l _=H1;have ⟨s1,e1⟩:=nw e hl0;have h1:=h.grow s1;refine⟨_,rfl,w.a,_,_,_,_,rfl,h1.o,T.zae.cl,T.zat,rfl,w.st,rfl,⟨_,SqL.of h1.st⟩,zk5 (xs:=fs.map λf=>V.ref f.a) (λi σ H2=>∃(tps:List Addr) (v2:Option V),σ=[some (.ref w.a),some (.ref l),v2]/\zaj H H2/\H2 l=some (.lst (tps.map V.ref))/\tps.length=i/\∀(k:Nat) f tp,fs[k]?=some f->tps[k]?=some tp->H tp=none/\tp≠l/\H2 tp=some (z0x f)) ⟨[],_,rfl,s1,e1,rfl,λk f tp _ h=>by simp at h⟩ ?_ ?_ ?_⟩
   . rintro i σ H2 hi ⟨tps,v2,rfl,s2,_⟩;exact SqL.of (s2 _ _ h.st)
   . rintro i x σ H2 hx ⟨tps,v2,rfl,s2,e2,hlen,hat⟩;obtain⟨f,hf,hfm,rfl⟩:=ziy hx;have h2:=h.grow s2;have hF:=h2.fr f hfm;have hi:=(List.getElem?_eq_some_iff.mp hf).1;refine⟨_,rfl,.inl ⟨rfl,_,SqL.of e2⟩,_,rfl,w.a,_,_,rfl,h2.o,rfl,_,rfl,.ref w.a,f,rfl,hF,λtp l2 htp hl2 ne=>?_⟩;have sA:=zaj.new (o:=z0x f) htp;have hl2':upd H2 tp (z0x f) l2=none:=by rw[zag ne]; exact hl2
     have sB:=zaj.new (o:=.lst [.ref tp]) hl2';have ntp:tp≠l:=λz=>by rw[z,e2] at htp; cases htp
     refine⟨l,l2,tps.map V.ref,[.ref tp],rfl,rfl,sB _ _ (sA _ _ e2),zab,(by rw[List.length_map,hlen]; show i+1<=sizeLine; exact qb1 (zbg (by omega))),tps++[tp],_,rfl,((s2.trans sA).trans sB).upd hl0,?_,by rw[List.length_append,hlen]; rfl,λk g tq hg hq=>?_⟩
     . rw[List.map_append]; exact zab
     . rcases qa7 k tps.length with hk|hk
       . rw[qbd hk] at hq;obtain⟨a1,a2,a3⟩:=hat k g tq hg hq;exact⟨a1,a2,by rw[zag a2]; exact sB _ _ (sA _ _ a3)⟩
       . rw[qbm hk] at hq;have hk0:k - tps.length=0:=by have:=(List.getElem?_eq_some_iff.mp hq).1;simp at this;omega
         rw[hk0] at hq;cases hq;have hki:k=i:=by omega
         rw[hki,hf] at hg;cases hg;refine⟨s2.free htp,ntp,?_⟩;rw[zag ntp];exact sB _ _ zab
   . rintro σ H2 ⟨tps,v2,rfl,s2,e2,hlen,hat⟩;rw[List.length_map] at hlen;exact⟨_,rfl,q l H2 tps hl0 s2 e2 hlen hat⟩
theorem zie:FnScope ["self","level"] ["self","level"] (zai zcs):=by walk_at "s"
theorem zeu (T:Txt K mg t):FnOk P w K mg base CX0 2 t.zfg t.zfj ["self","level"] (zig K t):=by
 have G_TextWalker_chain_of:=zev (P:=P) (w:=w) (base:=base) T;refine T.zck.F.ok zie (λvs H Q E h=>?_) (λcdv A outer s H vs Q E hr h=>?_)
 . obtain⟨Hb,w,fs,oc,sent,cn,z,rfl,h,q1,q2⟩:=h;rfl
 . obtain⟨Hb,w,fs,oc,sent,cn,z,rfl,h,q1,q2⟩:=h;refine⟨_,(@zac _ _ _ _ _ (@zbd _ _ _ _ _ _ _ _ (@PW.pt _ _ _ (zob (@zar _ _ _ _ _ _ _ _ zsq (pv 1) zad (zax _)) (zmy (@zar _ _ _ _ _ _ _ _ z52 (pv 1) (zbm zcb (by rfl) T.b_len zjs (@zaa _ _ _ _ _ (zbk (pv 0) (by rfl)) zaf (by rfl))) (zax _))))) (@zah _ _ _ (@zas _ _ _ _ zhc)) zan) (@zah _ _ _ (@zas _ _ _ _ (@zal _ _ _ _ _ _ _ zap (zbb (pv 0) T.zae.cl T.zcj.m G_TextWalker_chain_of (hr.mono (by decide)) T.zcj.b .nil zcq (@zaa _ _ _ _ _ (@zal _ _ _ _ _ _ _ zap (zbk (pv 0) (by rfl)) (pv 1) (λ_ _=>rfl)) zaf (by rfl))) zad (λ_ _=>rfl))))),?_⟩;by_cases h0:z<0
   . exact⟨_,rfl,_,_,rfl,rfl,_,rfl,zhl (decide_eq_true h0) (z3i (q2 (.inl h0)))⟩
   refine⟨_,rfl,_,_,rfl,rfl,_,rfl,zf7 (by rw[decide_eq_true_eq]; exact h0) ⟨_,rfl,_,rfl,w.a,_,_,_,_,rfl,h.o,T.zae.cl,T.zat,rfl,w.st,_,rfl,.inl (SqL.of h.st),_,_,rfl,rfl,_,rfl,?_⟩⟩;by_cases h1:(fs.length:Int)<=z
   . exact zhl (decide_eq_true (by rw[List.length_map]; exact h1)) (q2 (.inr h1))
   refine zf7 (by rw[decide_eq_true_eq,List.length_map]; exact h1) ?_;obtain⟨i,rfl⟩:=qby (by omega:0<=z);have hi:i<fs.length:=by omega
   have hf:fs[i]?=some fs[i]:=List.getElem?_eq_getElem hi;have hF:=h.fr fs[i] (qcb hi);refine⟨_,rfl,w.a,_,_,rfl,h.o,rfl,_,rfl,w.a,_,_,_,_,rfl,h.o,T.zae.cl,T.zat,rfl,_,rfl,w.st,_,_,_,rfl,rfl,SqL.of h.st,zi0 (by omega) (by rw[qa9]; exact hf),.ref w.a,fs[i],rfl,hF,λtp l htp hl ne=>⟨l,_,_,_,rfl,rfl,SqL.of zab,at0,?_⟩⟩;have s1:=zaj.new (o:=z0x fs[i]) htp;have hl':upd H tp (z0x fs[i]) l=none:=by rw[zag ne]; exact hl
   exact q1 i fs[i] rfl hf tp _ htp (s1.trans (zaj.new hl')) (zaj.new hl' _ _ zab)
theorem zh3:FnScope ["self","level"] ["self","level"] (zai zco):=by walk_at "s"
theorem zhx (T:Txt K mg t):FnOk P w K mg base (CXe P w) 3 t.zex t.zey ["self","level"] (zhp K t):=by
 have G_TextWalker_shown_at:=zeu (P:=P) (w:=w) (base:=base) T;refine T.zd1.F.okE zh3 (λvs H Q E h=>?_) (λcdv A outer s H vs Q E hr h=>?_)
 . obtain⟨Hb,w,fs,oc,sent,cn,z,rfl,h,q1,q2⟩:=h;rfl
 . obtain⟨Hb,w,fs,oc,sent,cn,z,rfl,h,q1,q2⟩:=h;refine⟨_,(@zac _ _ _ _ _ (@zbd _ _ _ _ _ _ _ _ (zoz (z08 (zbb (pv 0) T.zae.cl T.zck.m G_TextWalker_shown_at (hr.mono (by decide)) T.zck.b .nil zcq (@zaa _ _ _ _ _ (pv 1) zaf (by rfl))))) (@zah _ _ _ (zr8 T.zby T.i0_NoName rfl zph)) zan) zan),?_⟩;exact⟨_,rfl,w.a,_,_,rfl,h.o,rfl,_,rfl,Hb,w,fs,oc,sent,cn,z,rfl,h,(λi f hz hf tp H1 htp s1 e1=>⟨_,rfl,zf7 (by simp) (q1 (by have:=(List.getElem?_eq_some_iff.mp hf).1; omega) H1 s1)⟩),(λhz=>⟨_,rfl,zhl rfl (q2 hz H (zaj.refl _))⟩)⟩
theorem zkm:FnScope ["self","level"] ["self","level"] (zai zdy):=by walk_at "s"
theorem zkq (T:Txt K mg t):FnOk P w K mg base CX0 3 t.zhf t.zhj ["self","level"] (zkz K t):=by
 have G_TextWalker_shown_at:=zeu (P:=P) (w:=w) (base:=base) T;refine T.zgk.F.ok zkm (λvs H Q E h=>?_) (λcdv A outer s H vs Q E hr h=>?_)
 . obtain⟨Hb,w,fs,oc,sent,cn,i,f,fns,F,rfl,h,hf,hFl,hF,hn,q⟩:=h;rfl
 . obtain⟨Hb,w,fs,oc,sent,cn,i,f,fns,F,rfl,h,hf,hFl,hF,hn,q⟩:=h;refine⟨_,(@zac _ _ _ _ _ (@zas _ _ _ _ (z0a (u1' hr.units) (zbk (zbk (pv 0) (by rfl)) (by rfl)) (@zal _ _ _ _ _ _ _ zaq (zbb (pv 0) T.zae.cl T.zck.m G_TextWalker_shown_at (hr.mono (by decide)) T.zck.b .nil zcq (@zaa _ _ _ _ _ (pv 1) zaf (by rfl))) zad (λ_ _=>rfl)) (@zcc _ _ _ _ _ zaf) ⟨rfl,rfl,rfl,rfl⟩)) zan),?_⟩;have hFl:=hFl.mono h.b;obtain⟨nl,⟨dx,gs,d,kvs,e1,e2,e3,e4⟩,e5⟩:=zub hFl hF;rw[hn] at e4;refine⟨_,rfl,w.a,_,_,_,_,rfl,h.o,T.zae.cl,T.za1,rfl,w.fl,_,_,_,_,rfl,e1,T.zb5.cl,T.zbt,e2,d,rfl,.inl ⟨_,.inl e3⟩,_,rfl,w.a,_,_,rfl,h.o,rfl,_,rfl,Hb,w,fs,oc,sent,cn,(i:Int),rfl,h,λi2 f2 hz hf2 tp H1 htp s1 t1=>?_,λhz=>?_⟩;rotate_left
   . have:=(List.getElem?_eq_some_iff.mp hf).1;omega
   have e2:i2=i:=by omega
   rw[e2,hf] at hf2;cases hf2;refine⟨tp,_,_,_,rfl,rfl,SqT.of t1,at0,le0,λte hte=>⟨_,zlk (zaj.new hte _ _ (s1 _ _ e3)) e4,?_⟩⟩;exact q nl _ (s1.trans (zaj.new hte)) (SqL.of (zaj.new hte _ _ (s1 _ _ e5)))
theorem zif:FnScope ["self","level","name"] ["self","level","name"] (zai zcx):=by walk_at "s"
theorem zib (T:Txt K mg t):FnOk P w K mg base (CXe P w) 4 t.zfh t.zfk ["self","level","name"] (zih K t):=by
 have G_Walker_ask_for_level:=zhx (P:=P) (w:=w) (base:=base) T;have G_Walker_names_at:=zkq (P:=P) (w:=w) (base:=base) T;refine T.zd8.F.okE zif (λvs H Q E h=>?_) (λcdv A outer s H vs Q E hr h=>?_)
 . obtain⟨Hb,w,fs,oc,sent,cn,z,n,fns,rfl,h,hFl,hall,q1,q2⟩:=h;rfl
 . obtain⟨Hb,w,fs,oc,sent,cn,z,n,fns,rfl,h,hFl,hall,q1,q2⟩:=h;refine⟨_,(@zac _ _ _ _ _ (@zbp _ _ _ _ (zbb (pv 0) T.zae.cl T.zd1.m G_Walker_ask_for_level (hr.mono (by decide)) T.zd1.b .nil z0v (@zaa _ _ _ _ _ (pv 1) zaf (by rfl))) (by rfl)) (@zah _ _ _ (@zbd _ _ _ _ _ _ _ _ (@zar _ _ _ _ _ _ _ _ zrn (pv 2) (zbb (pv 0) T.zae.cl T.zgk.m G_Walker_names_at (hr.mono (by decide)) T.zgk.b .nil zcq (@zaa _ _ _ _ _ (pv 1) zaf (by rfl))) (by with_unfolding_all rfl)) (@zah _ _ _ (zr8 T.zby T.i0_NoName rfl zph)) zan))),?_⟩;refine⟨_,rfl,w.a,_,_,rfl,h.o,rfl,_,rfl,Hb,w,fs,oc,sent,cn,z,rfl,h,λhz H1 s1=>?_,λhz H1 s1=>q2 (λ⟨i,f,F,e,hf,_⟩=>by have:=(List.getElem?_eq_some_iff.mp hf).1; omega) H1 s1⟩;obtain⟨i,rfl⟩:=qby hz.1;have hi:i<fs.length:=by omega
   have hf:fs[i]?=some fs[i]:=List.getElem?_eq_getElem hi;obtain⟨F,hF,hn⟩:=hall fs[i] (qcb hi);have h1:=h.grow s1;have hFl1:=hFl.mono (zbj (H2:=H1) h.b);refine⟨_,rfl,_,rfl,w.a,_,_,rfl,h1.o,rfl,_,rfl,_,w,fs,oc,sent,cn,i,fs[i],fns,F,rfl,h1,hf,hFl1,hF,hn,λnl H2 s2 e2=>⟨nl,_,rfl,.inl e2,rfl,zzz _,_,rfl,?_⟩⟩;by_cases hm:n∈F2.nms F
   . refine zf7 ?_ (q1 ⟨i,_,F,rfl,hf,hF,hn,hm⟩ H2 (s1.trans s2));rw[zy0 hm];decide
   . refine zhl (zv1 hm) (q2 (λ⟨i2,f2,F2,e,hf2,hF2,hn2,hm2⟩=>hm ?_) H2 (s1.trans s2));have ei:i2=i:=by omega
     rw[ei,hf] at hf2;cases hf2;rw[z1w hFl.nd hF hF2 (hn.trans hn2.symm)];exact hm2
theorem zku:FnScope ["self","level","name"] ["self","level","name"] (zai zdt):=by walk_at "s"
theorem zks (T:Txt K mg t):FnOk P w K mg base CX0 1 t.zhe t.zhi ["self","level","name"] (zk3 K t):=by
 refine T.zgj.F.ok zku (λvs H Q E h=>?_) (λcdv A outer s H vs Q E hr h=>?_)
 . obtain⟨Hb,w,fs,oc,sent,cn,i,f,n,v,rfl,h,hf,hv,q⟩:=h;rfl
 . obtain⟨Hb,w,fs,oc,sent,cn,i,f,n,v,rfl,h,hf,hv,q⟩:=h;refine⟨_,(@zac _ _ _ _ _ (@zas _ _ _ _ (ze1 (u1' hr.units) (zbk (@zal _ _ _ _ _ _ _ zap (zbk (pv 0) (by rfl)) (pv 1) (λ_ _=>rfl)) (by rfl)) (pv 2) (λ_ _=>rfl))) zan),?_⟩;have hF:=h.fr f (List.mem_of_getElem? hf);exact⟨_,rfl,w.a,_,_,_,_,rfl,h.o,T.zae.cl,T.zat,rfl,_,rfl,w.st,_,_,_,rfl,rfl,SqL.of h.st,zi0 (by omega) (by rw[qa9]; exact hf),f.a,_,_,_,_,rfl,hF.o,T.zav.cl,T.za7,rfl,_,rfl,f.nd,_,rfl,(by have:=zok.k (k:=(Sum.inr n:Key)) hF.n; rw[hv] at this; exact this),q⟩
theorem zol:FnScope ["self","level","name"] ["self","level","name"] (zai zfz):=by walk_at "s"
theorem zg2 (T:Txt K mg t):FnOk P w K mg base (CXe P w) 5 t.zlc t.zlg ["self","level","name"] (zog K t):=by
 have G_Walker_ask_for_name:=zib (P:=P) (w:=w) (base:=base) T;have G_TextWalker_tell:=zks (P:=P) (w:=w) (base:=base) T;refine T.zcl.F.okE zol (λvs H Q E h=>?_) (λcdv A outer s H vs Q E hr h=>?_)
 . obtain⟨Hb,w,fs,oc,sent,cn,z,n,fns,rfl,h,hFl,hall,q1,q2⟩:=h;rfl
 . obtain⟨Hb,w,fs,oc,sent,cn,z,n,fns,rfl,h,hFl,hall,q1,q2⟩:=h;refine⟨_,(@zac _ _ _ _ _ (@zbp _ _ _ _ (zbb (pv 0) T.zae.cl T.zd8.m G_Walker_ask_for_name (hr.mono (by decide)) T.zd8.b .nil z0v (@zaa _ _ _ _ _ (pv 1) (@zaa _ _ _ _ _ (pv 2) zaf (by rfl)) (by rfl))) (by rfl)) (@zah _ _ _ (@zas _ _ _ _ (zbb (pv 0) T.zae.cl T.zgj.m G_TextWalker_tell (hr.mono (by decide)) T.zgj.b .nil zcq (@zaa _ _ _ _ _ (pv 1) (@zaa _ _ _ _ _ (pv 2) zaf (by rfl)) (by rfl)))))),?_⟩;refine⟨_,rfl,w.a,_,_,rfl,h.o,rfl,_,rfl,_,rfl,Hb,w,fs,oc,sent,cn,z,n,fns,rfl,h,hFl,hall,λhT H1 s1=>?_,q2⟩;obtain⟨i,f,v,rfl,hf,hv,q⟩:=q1 hT;have h1:=h.grow s1;exact⟨_,rfl,w.a,_,_,rfl,h1.o,rfl,_,rfl,_,rfl,_,w,fs,oc,sent,cn,i,f,n,v,rfl,h1,hf,hv,q H1 s1⟩
theorem zjq:FnScope ["self","frame"] ["self","frame"] (zai zda):=by walk_at "s"
theorem zfq (T:Txt K mg t):FnOk P w K mg base CX0 1 t.zgn t.zgq ["self","frame"] (zjo K t):=by
 refine T.zc8.F.ok zjq (λvs H Q E h=>?_) (λcdv A outer s H vs Q E hr h=>?_)
 . obtain⟨Hb,w,fs,oc,sent,cn,f,fns,F,r,rfl,h,hf,hFl,hF,hn,hr1,q⟩:=h;rfl
 . obtain⟨Hb,w,fs,oc,sent,cn,f,fns,F,r,rfl,h,hf,hFl,hF,hn,hr1,q⟩:=h;refine⟨_,(@zac _ _ _ _ _ (@zas _ _ _ _ (@zal _ _ _ _ _ _ _ zaq (ze1 (u1' hr.units) (zbk (zbk (pv 0) (by rfl)) (by rfl)) (zbk (pv 1) (by rfl)) (λ_ _=>rfl)) (zbk (pv 1) (by rfl)) (λ_ _=>rfl))) zan),?_⟩;have hf1:=h.fr f hf;have hFl:=hFl.mono h.b;obtain⟨dx,gs,d,kvs,e1,e2,e3,e4⟩:=z29 hFl hF;rw[hn] at e4;exact⟨_,rfl,w.a,_,_,_,_,rfl,h.o,T.zae.cl,T.za1,rfl,w.fl,_,_,_,_,rfl,e1,T.zb5.cl,T.zcm,e2,_,rfl,f.a,_,_,_,_,rfl,hf1.o,T.zav.cl,T.za9,rfl,d,_,rfl,zlk e3 e4,_,rfl,f.a,_,_,_,_,rfl,hf1.o,T.zav.cl,T.zbr,rfl,F.ra,_,_,_,rfl,rfl,(hFl.all F hF).rw_,zi0 (by omega) (by rw[qa9]; exact hr1),q⟩
theorem ziv:FnScope ["self","atom"] ["self","atom"] (zai zc5):=by walk_at "s"
theorem zdq (T:Txt K mg t):FnOk P w K mg base CX0 1 t.zfs t.zfv ["self","atom"] (zis K t):=by
 refine T.zam.F.ok ziv (λvs H Q E h=>?_) (λcdv A outer s H vs Q E hr h=>?_)
 . obtain⟨f,v,y,rfl,h,hv,q⟩:=h;rfl
 . obtain⟨f,v,y,rfl,h,hv,q⟩:=h;refine⟨_,(@zac _ _ _ _ _ (@zas _ _ _ _ (@zjh _ _ _ _ _ _ _ _ (zf9 (zbm zd7 (by rfl) T.b_isinstance zbe (@zaa _ _ _ _ _ (pv 1) (@zaa _ _ _ _ _ (zhy (v:=V.ty "str") rfl T.b_str zju rfl) zaf (by rfl)) (by rfl)))) (ze1 (u1' hr.units) (zbk (pv 0) (by rfl)) (pv 1) (λ_ _=>rfl)) (pv 1))) zan),?_⟩;cases v with
   | str n=>exact⟨_,rfl,_,"str",_,true,rfl,.str _,rfl,_,rfl,z3i ⟨_,rfl,f.a,_,_,_,_,rfl,h.o,T.zav.cl,T.za7,rfl,_,rfl,f.nd,_,rfl,(by have:=zok.k (k:=(Sum.inr n:Key)) h.n; rw[show zc9 f.kvs (Sum.inr n:Key)=some y from hv] at this; exact this),q⟩⟩
   | int i =>
     cases hv;exact⟨_,rfl,_,"str",_,false,rfl,.int _,rfl,_,rfl,z3h ⟨_,rfl,q⟩⟩
   | _=>cases hv
theorem zg6:FnScope ["self","frame","row"] ["self","frame","row"] (zai zb4):=by walk_at "s"
theorem zg3 (T:Txt K mg t):FnOk P w K mg base CX0 2 t.zee t.zef ["self","frame","row"] (zg4 K t):=by
 have G_value:=zzf (P:=P) (w:=w) (base:=base) T;have G_TextFrame_value_of:=zdq (P:=P) (w:=w) (base:=base) T;have G_Walker_field:=zm8 (P:=P) (w:=w) (base:=base) T;refine T.zdk.F.ok zg6 (λvs H Q E h=>?_) (λcdv A outer s H vs Q E hr h=>?_)
 . obtain⟨Hb,w,fs,oc,sent,cn,f,r,rg,x0,v,rfl,h,hr1,hk,hg,q⟩:=h;rfl
 . obtain⟨Hb,w,fs,oc,sent,cn,f,r,rg,x0,v,rfl,h,hr1,hk,hg,q⟩:=h;refine⟨_,(@zac _ _ _ _ _ (@zbd _ _ _ _ _ _ _ _ (@zar _ _ _ _ _ _ _ _ zcp (@zal _ _ _ _ _ _ _ zaq (pv 2) zad (λ_ _=>rfl)) zaz (zax _)) (@zah _ _ _ (@zas _ _ _ _ (zbb (pv 0) T.zae.cl T.zi2.m G_Walker_field (hr.mono (by decide)) T.zi2.b .nil zcq (@zaa _ _ _ _ _ (zbb (pv 1) T.zav.cl T.zam.m G_TextFrame_value_of (hr.mono (by decide)) T.zam.b .nil zcq (@zaa _ _ _ _ _ (@zal _ _ _ _ _ _ _ zaq (pv 2) zad (λ_ _=>rfl)) zaf (by rfl))) (@zaa _ _ _ _ _ (@zal _ _ _ _ _ _ _ zaq (pv 2) zad (λ_ _=>rfl)) zaf (by rfl)) (by rfl))))) zan) (@zac _ _ _ _ _ (@zbd _ _ _ _ _ _ _ _ (@zar _ _ _ _ _ _ _ _ zcp (@zal _ _ _ _ _ _ _ zaq (pv 2) zad (λ_ _=>rfl)) zaz (zax _)) (@zah _ _ _ (@zas _ _ _ _ (zbv T.value G_value (hr.mono (by decide)) (@zaa _ _ _ _ _ (@zal _ _ _ _ _ _ _ zaq (pv 2) zad (λ_ _=>rfl)) (@zaa _ _ _ _ _ (zbb (pv 1) T.zav.cl T.zam.m G_TextFrame_value_of (hr.mono (by decide)) T.zam.b .nil zcq (@zaa _ _ _ _ _ (@zal _ _ _ _ _ _ _ zaq (pv 2) zad (λ_ _=>rfl)) zaf (by rfl))) (@zaa _ _ _ _ _ (zbb (pv 1) T.zav.cl T.zam.m G_TextFrame_value_of (hr.mono (by decide)) T.zam.b .nil zcq (@zaa _ _ _ _ _ (@zal _ _ _ _ _ _ _ zaq (pv 2) zad (λ_ _=>rfl)) zaf (by rfl))) zaf (by rfl)) (by rfl)) (by rfl))))) zan) (@zah _ _ _ (@zas _ _ _ _ (zbb (pv 1) T.zav.cl T.zam.m G_TextFrame_value_of (hr.mono (by decide)) T.zam.b .nil zcq (@zaa _ _ _ _ _ (@zal _ _ _ _ _ _ _ zaq (pv 2) zad (λ_ _=>rfl)) zaf (by rfl))))))),?_⟩;have hF:=h.fr f (List.mem_append_right _ (List.mem_singleton.mpr rfl));rcases hk with⟨x,a,rfl⟩|⟨x,s,a,b,rfl⟩
   . obtain⟨_,hu⟩:=zm5 hg;exact⟨_,rfl,r,_,_,_,rfl,rfl,hr1,at0,rfl,_,rfl,iN ⟨_,rfl,r,_,_,_,rfl,rfl,hr1,at0,rfl,_,rfl,iN ⟨_,rfl,f.a,_,_,rfl,hF.o,rfl,_,rfl,r,_,_,_,rfl,rfl,hr1,rfl,f,a,v,rfl,hF,hu,q H (zaj.refl _)⟩⟩⟩
   . obtain⟨_,i,j,ea,eb,hb,rfl⟩:=zro hg;exact⟨_,rfl,r,_,_,_,rfl,rfl,hr1,at0,rfl,_,rfl,iN ⟨_,rfl,r,_,_,_,rfl,rfl,hr1,at0,rfl,_,rfl,iP ⟨_,rfl,r,_,_,_,rfl,rfl,hr1,rfl,_,rfl,f.a,_,_,rfl,hF.o,rfl,_,rfl,r,_,_,_,rfl,rfl,hr1,rfl,f,a,_,rfl,hF,ea,_,rfl,f.a,_,_,rfl,hF.o,rfl,_,rfl,r,_,_,_,rfl,rfl,hr1,rfl,f,b,_,rfl,hF,eb,s,i,j,rfl,hb.1,hb.2.1,hb.2.2.1,hb.2.2.2,q H (zaj.refl _)⟩⟩⟩
theorem zkn:FnScope ["self","number"] ["self","number"] (zai zdx):=by walk_at "s"
theorem zkx (T:Txt K mg t):FnOk P w K mg base CX0 1 t.zhg t.zhk ["self","number"] (zk1 K t):=by
 refine T.zgl.F.ok zkn (λvs H Q E h=>?_) (λcdv A outer s H vs Q E hr h=>?_)
 . obtain⟨Hb,w,fs,oc,sent,cn,v,rfl,h,hl,q⟩:=h;rfl
 . obtain⟨Hb,w,fs,oc,sent,cn,v,rfl,h,hl,q⟩:=h;refine⟨_,(@zac _ _ _ _ _ (@zbp _ _ _ _ (zhm qat qaz qa0 zb0 (zbk (pv 0) (by rfl)) (@zaa _ _ _ _ _ (pv 1) zaf (by rfl))) (by rfl)) (@zah _ _ _ (@zas _ _ _ _ (@zcc _ _ _ _ _ (@zaa _ _ _ _ _ zaz (@zaa _ _ _ _ _ (pv 1) zaf (by rfl)) (by rfl)))))),?_⟩;have h1:=h.send (v:=v);refine⟨_,rfl,w.a,_,_,_,_,rfl,h.o,T.zae.cl,T.zbc,rfl,.inl ⟨rfl,_,SqL.of h.sd⟩,_,rfl,w.sd,sent,_,rfl,rfl,h.sd,zbg hl,_,rfl,le2,λtp htp=>?_⟩;exact q _ _ tp (zbj h1.b) (h1.grow (zaj.new htp)) (znn htp zab)
theorem zkf:FnScope ["self","record","name","number"] ["self","record","name","number"] (zai zdo):=by walk_at "s"
theorem zkd (T:Txt K mg t):FnOk P w K mg base CX0 1 t.zgy t.zg1 ["self","record","name","number"] (zj6 K t):=T.zfp.F.ok zkf (λvs H Q E h=>h.elim) (λcdv A outer s H vs Q E hr h=>h.elim)
theorem zii:FnScope ["self"] ["self"] (zai zc4):=by walk_at "s"
theorem zik (T:Txt K mg t):FnOk P w K mg base CX0 1 t.zfu t.zfy ["self"] (zil K t):=T.zer.F.ok zii (λvs H Q E h=>h.elim) (λcdv A outer s H vs Q E hr h=>h.elim)
theorem zfr:FnScope ["self","frame","row","deed"] ["self","frame","row"] (zai zde):=by walk_at "s"
theorem zjp (T:Txt K mg t):FnOk P w K mg base CX0 3 t.zgm t.zgp ["self","frame","row"] (zjn K t):=by
 have G_TextWalker_value_given:=zg3 (P:=P) (w:=w) (base:=base) T;have G_Walker_send_out:=zkx (P:=P) (w:=w) (base:=base) T;have G_Walker_put_field:=zkd (P:=P) (w:=w) (base:=base) T;have G_Walker_make_record:=zik (P:=P) (w:=w) (base:=base) T;have G_TextFrame_value_of:=zdq (P:=P) (w:=w) (base:=base) T;refine T.ze4.F.ok zfr (λvs H Q E h=>?_) (λcdv A outer s H vs Q E hr h=>?_)
 . obtain⟨Hb,w,fs,oc,sent,cn,f,r,rg,rfl,h,hr0,hs,hk,q⟩:=h;rfl
 . obtain⟨Hb,w,fs,oc,sent,cn,f,r,rg,rfl,h,hr0,hs,hk,q⟩:=h;refine⟨_,(@zac _ _ _ _ _ (@zbd _ _ _ _ _ _ _ _ (@zar _ _ _ _ _ _ _ _ zcp (@zal _ _ _ _ _ _ _ zaq (pv 2) zad (λ_ _=>rfl)) zaz (zax _)) (@zah _ _ _ (@zas _ _ _ _ (zbb (pv 0) T.zae.cl T.zgl.m G_Walker_send_out (hr.mono (by decide)) T.zgl.b .nil zcq (@zaa _ _ _ _ _ (zbb (pv 1) T.zav.cl T.zam.m G_TextFrame_value_of (hr.mono (by decide)) T.zam.b .nil zcq (@zaa _ _ _ _ _ (@zal _ _ _ _ _ _ _ zaq (pv 2) zad (λ_ _=>rfl)) zaf (by rfl))) zaf (by rfl))))) zan) (@zac _ _ _ _ _ (@zbd _ _ _ _ _ _ _ _ (@zar _ _ _ _ _ _ _ _ zcp (@zal _ _ _ _ _ _ _ zaq (pv 2) zad (λ_ _=>rfl)) zaz (zax _)) (@zah _ _ _ (@zas _ _ _ _ (zbb (pv 0) T.zae.cl T.zfp.m G_Walker_put_field (hr.mono (by decide)) T.zfp.b .nil zcq (@zaa _ _ _ _ _ (zbb (pv 1) T.zav.cl T.zam.m G_TextFrame_value_of (hr.mono (by decide)) T.zam.b .nil zcq (@zaa _ _ _ _ _ (@zal _ _ _ _ _ _ _ zaq (pv 2) zad (λ_ _=>rfl)) zaf (by rfl))) (@zaa _ _ _ _ _ (@zal _ _ _ _ _ _ _ zaq (pv 2) zad (λ_ _=>rfl)) (@zaa _ _ _ _ _ (zbb (pv 1) T.zav.cl T.zam.m G_TextFrame_value_of (hr.mono (by decide)) T.zam.b .nil zcq (@zaa _ _ _ _ _ (@zal _ _ _ _ _ _ _ zaq (pv 2) zad (λ_ _=>rfl)) zaf (by rfl))) zaf (by rfl)) (by rfl)) (by rfl))))) zan) (@zac _ _ _ _ _ (@zbd _ _ _ _ _ _ _ _ (@zar _ _ _ _ _ _ _ _ zcp (@zal _ _ _ _ _ _ _ zaq (pv 2) zad (λ_ _=>rfl)) zaz (zax _)) (@zac _ _ _ _ _ (@zay _ _ 3 _ _ _ _ zfr.nd rfl (Or.inl rfl) (zdb (pv 0) T.zae.cl T.zer.m G_Walker_make_record (hr.mono (by decide)) T.zer.b .nil zcq) (by rfl) (by first|exact .inl rfl|exact .inr rfl|assumption)) (@zac _ _ _ _ _ (zdj (u1' hr.units) (zbk (pv 1) (by rfl)) (@zal _ _ _ _ _ _ _ zaq (pv 2) zad (λ_ _=>rfl)) (@zal _ _ _ _ _ _ _ zaq (pv 3) zad (λ_ _=>rfl)) (by rfl)) (@zah _ _ _ (@zas _ _ _ _ (pv 3))))) zan) (@zac _ _ _ _ _ (zdj (u1' hr.units) (zbk (pv 1) (by rfl)) (@zal _ _ _ _ _ _ _ zaq (pv 2) zad (λ_ _=>rfl)) (zbb (pv 0) T.zae.cl T.zdk.m G_TextWalker_value_given (hr.mono (by decide)) T.zdk.b .nil zcq (@zaa _ _ _ _ _ (pv 1) (@zaa _ _ _ _ _ (pv 2) zaf (by rfl)) (by rfl))) (by rfl)) (@zah _ _ _ (@zas _ _ _ _ zhc)))))),?_⟩;have hF:=h.fr f (List.mem_append_right _ (List.mem_singleton.mpr rfl));have hr1:=h.b.tup hr0;cases rg with
   | out a =>
     obtain⟨v,hv,q⟩:=q;exact⟨_,rfl,r,_,_,_,rfl,rfl,hr1,at0,rfl,_,rfl,iP ⟨_,rfl,w.a,_,_,rfl,h.o,rfl,_,rfl,f.a,_,_,rfl,hF.o,rfl,_,rfl,r,_,_,_,rfl,rfl,hr1,rfl,f,a,v,rfl,hF,hv,Hb,w,fs++[f],oc,sent,cn,v,rfl,h,hs,λHb2 H2 tp s1 h1 e1=>q Hb2 H2 tp s1 h1 e1⟩⟩
   | op x s a b =>
     obtain⟨y,v,hg,q⟩:=q;have hx:(RG.op x s a b).items[1]?=some (.str y):=znb hg;refine⟨_,rfl,r,_,_,_,rfl,rfl,hr1,at0,rfl,_,rfl,iN ⟨_,rfl,r,_,_,_,rfl,rfl,hr1,at0,rfl,_,rfl,iN ⟨_,rfl,r,_,_,_,rfl,rfl,hr1,at0,rfl,_,rfl,iN ⟨_,rfl,w.a,_,_,rfl,h.o,rfl,_,rfl,_,rfl,Hb,w,fs,oc,sent,cn,f,r,_,y,v,rfl,h,hr1,.inr (⟨_,_,_,_,rfl⟩),hg,λH1 s1=>?_⟩⟩⟩⟩;have h1:=h.grow s1;have hF1:=h1.fr f (List.mem_append_right _ (List.mem_singleton.mpr rfl));refine⟨_,rfl,f.a,_,_,_,_,rfl,hF1.o,T.zav.cl,T.za7,rfl,_,rfl,r,_,_,_,rfl,rfl,s1.tup hr1,zc7 (j:=1) hx,f.nd,_,rfl,zn9.k (k:=(Sum.inr y:Key)) hF1.n (zbg hk),?_⟩;exact q _ _ (zbj h.b) h1.name
   | copy x a =>
     obtain⟨y,v,hg,q⟩:=q;have hx:(RG.copy x a).items[1]?=some (.str y):=znb hg;refine⟨_,rfl,r,_,_,_,rfl,rfl,hr1,at0,rfl,_,rfl,iN ⟨_,rfl,r,_,_,_,rfl,rfl,hr1,at0,rfl,_,rfl,iN ⟨_,rfl,r,_,_,_,rfl,rfl,hr1,at0,rfl,_,rfl,iN ⟨_,rfl,w.a,_,_,rfl,h.o,rfl,_,rfl,_,rfl,Hb,w,fs,oc,sent,cn,f,r,_,y,v,rfl,h,hr1,.inl ⟨_,_,rfl⟩,hg,λH1 s1=>?_⟩⟩⟩⟩;have h1:=h.grow s1;have hF1:=h1.fr f (List.mem_append_right _ (List.mem_singleton.mpr rfl));refine⟨_,rfl,f.a,_,_,_,_,rfl,hF1.o,T.zav.cl,T.za7,rfl,_,rfl,r,_,_,_,rfl,rfl,s1.tup hr1,zc7 (j:=1) hx,f.nd,_,rfl,zn9.k (k:=(Sum.inr y:Key)) hF1.n (zbg hk),?_⟩;exact q _ _ (zbj h.b) h1.name
   | put a fd b=>exact q.elim
   | new x=>exact q.elim
   | get x a fd=>exact q.elim
   | back a=>exact q.elim
   | call x g p as=>exact q.elim
   | ifs a=>exact q.elim
   | whl a=>exact q.elim
theorem zkg:FnScope ["self","frame","way"] ["self","frame","way"] (zai zdn):=by walk_at "s"
theorem zge (T:Txt K mg t):FnOk P w K mg base CX0 1 t.zgx t.zg0 ["self","frame","way"] (zj8 K t):=by
 refine T.zb6.F.ok zkg (λvs H Q E h=>?_) (λcdv A outer s H vs Q E hr h=>?_)
 . obtain⟨Hb,w,fs,oc,sent,cn,f,fns,F,j,r,rfl,h,hFl,hF,hn,hk,hw,q⟩:=h;rfl
 . obtain⟨Hb,w,fs,oc,sent,cn,f,fns,F,j,r,rfl,h,hFl,hF,hn,hk,hw,q⟩:=h;refine⟨_,(@zac _ _ _ _ _ (zet (pv 1) (@zal _ _ _ _ _ _ _ zaq (@zal _ _ _ _ _ _ _ zap (ze1 (u1' hr.units) (zbk (zbk (pv 0) (by rfl)) (by rfl)) (zbk (pv 1) (by rfl)) (λ_ _=>rfl)) (zbk (pv 1) (by rfl)) (λ_ _=>rfl)) (pv 2) (λ_ _=>rfl)) (by rfl)) zan),?_⟩;have hf:=h.fr f (List.mem_append_right _ (List.mem_singleton.mpr rfl));have hFl:=hFl.mono h.b;obtain⟨wl,tp,vs,l,⟨dx,gs,d,kvs,e1,e2,e3,e4⟩,e5,e6,e7,e8⟩:=z2c hFl hF hk hw;rw[hn] at e4;refine⟨_,rfl,w.a,_,_,_,_,rfl,h.o,T.zae.cl,T.za1,rfl,w.fl,_,_,_,_,rfl,e1,T.zb5.cl,T.zcn,e2,_,rfl,f.a,_,_,_,_,rfl,hf.o,T.zav.cl,T.za9,rfl,d,_,rfl,zlk e3 e4,_,rfl,f.a,_,_,_,_,rfl,hf.o,T.zav.cl,T.zbr,rfl,wl,_,_,_,rfl,rfl,SqL.of e5,zc7 e6,_,rfl,tp,_,_,_,rfl,rfl,SqT.of e7,z2q e8,_,rfl,f.a,_,_,_,rfl,hf.o,T.zav.cl,T.zbr,(by show 3<1000; decide),?_⟩;exact q _ (h.goto (r:=r))
theorem zlv:FnScope ["self","function","named"] ["self","function","named"] (zai zd5):=by walk_at "s"
theorem zlu (T:Txt K mg t):FnOk P w K mg base CX0 1 t.zh9 t.zia ["self","function","named"] (zlo K t):=by
 refine T.zjz.F.ok zlv (λvs H Q E h=>?_) (λcdv A outer s H vs Q E hr h=>?_)
 . obtain⟨x,dx,nd,fn,rfl,hx,q⟩:=h;rfl
 . obtain⟨x,dx,nd,fn,rfl,hx,q⟩:=h;refine⟨_,(@zac _ _ _ _ _ (zet (pv 0) (pv 1) (by rfl)) (@zac _ _ _ _ _ (zet (pv 0) zad (by rfl)) (@zah _ _ _ (zet (pv 0) (pv 2) (by rfl))))),?_⟩;refine⟨_,rfl,_,rfl,x,_,_,_,rfl,hx,T.zav.cl,T.za9,(by decide),_,rfl,x,_,_,_,rfl,zab,T.zav.cl,T.zbr,put1 _ _,_,rfl,_,rfl,x,_,_,_,rfl,zab,T.zav.cl,T.za7,put2 _ _ _ _,?_⟩;rw[znq,znq];exact q
theorem zdd:FnScope ["self","function","args","named","name","number"] ["self","function","args"] (zai zb3):=by walk_at "s"
theorem zgh (T:Txt K mg t):FnOk P w K mg base CX0 3 t.zes t.zgz ["self","function","args"] (zj5 K t):=by
 have G_TextFrame_init:=zlu (P:=P) (w:=w) (base:=base) T;refine T.zdh.F.ok zdd (λvs H Q E h=>?_) (λcdv A outer s H vs Q E hr h=>?_)
 . obtain⟨Hb,w,fs,oc,sent,cn,fns,F,ar,vals,rfl,h,hFl,hF,har,hv,hl,hnn,hps,q⟩:=h;rfl
 . skip
   refine(let XX:Cx:=(zkk CX0 P w K mg base ["self","function","args","named","name","number"] "TextWalker.begin" (zai zb3) t.zes cdv A outer s H E).nox; ?_);refine(let W1:TS:=_; have hW1:PSs XX ((zaw zb3).drop 1) W1:=(@zac _ _ _ _ _ (zea PassesOwn.never rfl (z0t true false rfl T.b_zip (@zaa _ _ _ _ _ (ze1 (u1' hr.units) (zbk (zbk (pv 0) (by rfl)) (by rfl)) (pv 1) (λ_ _=>rfl)) (@zaa _ _ _ _ _ (pv 2) zaf (by rfl)) (by rfl))) (zmd rfl (zb8 (za0 (i:=4) zdd.nd rfl (Or.inl rfl)) (zb8 (za0 (i:=5) zdd.nd rfl (Or.inl rfl)) zh2))) (@zah _ _ _ (zdj (u1' hr.units) (pv 3) (pv 4) (pv 5) (by rfl)))) (@zah _ _ _ (@zbp _ _ _ _ (zhm qat qaz qa0 zb0 (zbk (pv 0) (by rfl)) (@zaa _ _ _ _ _ (zzb T.zav T.zjz G_TextFrame_init (hr.mono (by decide)) (@zaa _ _ _ _ _ (pv 1) (@zaa _ _ _ _ _ (pv 3) zaf (by rfl)) (by rfl))) zaf (by rfl))) (by rfl)))); ?_);obtain⟨Hb,w,fs,oc,sent,cn,fns,F,ar,vals,rfl,h,hFl,hF,har,hv,hl,hnn,hps,q⟩:=h;refine⟨_,(@zac _ _ _ _ _ (@zay _ _ 3 _ _ _ _ zdd.nd rfl (Or.inl rfl) (za6 (zl9 rfl) (by rfl) T.b_dict zvz (@zaa _ _ _ _ _ (zh0 (N':=["name"]) (js:=[none]) (by kernel_rfl) rfl (zgc (ze1 (u1' hr.units) (zbk (zbk (pv 0) (by rfl)) (by rfl)) (pv 1) (λ_ _=>rfl))) zdz (λ_ _ _ _=>(za0 (i:=0) (show(["name"]:List Str).Nodup by decide +kernel) rfl (Or.inl rfl) (.inr rfl))) (λ_ _ _ _=>zfm) (λ_ _ _ _=>(@zcc _ _ _ _ _ (@zaa _ _ _ _ _ (pv 0) (@zaa _ _ _ _ _ zad zaf (by rfl)) (by rfl))))) zaf (by rfl))) (by rfl) (by first|exact .inl rfl|exact .inr rfl|assumption)) hW1),?_⟩;have hFlH:=hFl.mono h.b;obtain⟨nl,⟨dx1,gs1,d1,kv1,a1,a2,a3,a4⟩,a5⟩:=zub hFlH hF;obtain⟨dx2,gs2,d2,kv2,b1,b2,b3,b4⟩:=zxe hFlH hF;refine⟨_,rfl,w.a,_,_,_,_,rfl,h.o,T.zae.cl,T.za1,rfl,w.fl,_,_,_,_,rfl,a1,T.zb5.cl,T.zbt,a2,_,rfl,d1,_,rfl,zlk a3 a4,nl,rfl,⟨_,SqL.of a5⟩,λu hu=>zkt (K:=K) (λi Hq v=>∃y tp,(F2.nms F)[i]?=some y/\v=.ref tp/\Hq tp=some (.tup [.str y,.int 0])) (λi v H1 H2 e z=>let ⟨y,tp,z1,z2,z3⟩:=z; ⟨y,tp,z1,z2,e _ _ z3⟩) (xs:=(F2.nms F).map V.str) (by rw[List.length_map]; omega) (SqL.of a5) hu ?_ ?_⟩
   . rintro i z H2 R' hz s2 ⟨acc,ha⟩ r2;obtain⟨y,hy,hym,rfl⟩:=ziy hz;refine⟨_,rfl,le2,λtp htp=>r2 _ _ (zaj.new htp) ⟨y,tp,hy,rfl,?_⟩⟩;rw[zcu (λz=>by rw[z,ha] at htp; cases htp)];exact zab
   intro H3 vs s3 e3 lv tv;rw[List.length_map] at lv;obtain⟨ps,rfl,hps2⟩:=zuc (K:=K) lv tv;refine⟨u,ps,(F2.nms F).map λn=>((Sum.inr n:Key),V.int 0),rfl,SqL.of e3,?_,by rw[List.length_map]; omega,λd hd=>?_⟩
   . exact hps2.mono λa kv z=>zgt.tup z
   have d0:H d=none:=s3.free hd;have s4:=s3.trans (zaj.new (o:=.dK (((F2.nms F).map λn=>((Sum.inr n:Key),V.int 0)).foldl (λacc kv=>zbx acc kv.1 kv.2) [])) hd);have e4:=zab (H:=H3) (a:=d) (o:=.dK (((F2.nms F).map λn=>((Sum.inr n:Key),V.int 0)).foldl (λacc kv=>zbx acc kv.1 kv.2) []));have k0l:(((F2.nms F).map λn=>((Sum.inr n:Key),V.int 0)).foldl (λacc kv=>zbx acc kv.1 kv.2) []).length<=1000:=by refine Nat.le_trans (zgf (λkv:Key×V=>kv) ((F2.nms F).map λn=>((Sum.inr n:Key),V.int 0)) []) ?_;rw[List.length_map];show 0+(F2.nms F).length<=1000;omega
   have hbg:zj7 F vals=(F.ps.zip vals).foldl (λd p=>zbx d (Sum.inr p.1:Key) p.2) (((F2.nms F).map λn=>((Sum.inr n:Key),V.int 0)).foldl (λacc kv=>zbx acc kv.1 kv.2) []):=rfl;generalize (((F2.nms F).map λn=>((Sum.inr n:Key),V.int 0)).foldl (λacc kv=>zbx acc kv.1 kv.2) [])=k0 at s4 e4 k0l hbg ⊢;generalize upd H3 d (.dK k0)=H4 at s4 e4 ⊢;have h4:=h.grow s4;have hpa:SqT K H F.pa (F.ps.map V.str):=(hFlH.all F hF).pr;have har1:SqL K H ar vals:=h.b.seq har;refine⟨_,rfl,w.a,_,_,_,_,rfl,h4.o,T.zae.cl,T.za1,rfl,w.fl,_,_,_,_,rfl,s4 _ _ b1,T.zb5.cl,T.zbw,b2,_,rfl,d2,_,rfl,zlk (s4 _ _ b3) b4,_,rfl,F.pa,ar,rfl,⟨_,s4.tup hpa⟩,⟨_,s4.seq har1⟩,(let Jv1:Nat->St->Hp->Prop:=λi σ H'=>∃v4 v5:Option V,σ=[some (.ref w.a),some (.str F.name),some (.ref ar),some (.ref d),v4,v5]/\zaj H H'/\H' d=some (.dK (((F.ps.zip vals).take i).foldl (λd p=>zbx d (Sum.inr p.1:Key) p.2) k0)); zx9 (b1:=true) (b2:=false) (xs:=F.ps.map V.str) (ys:=vals) Jv1 ⟨_,_,rfl,s4,e4⟩ ?_ ?_ ?_)⟩
   . rintro i σ H' hi ⟨v4,v5,rfl,s5,e5⟩;exact⟨s5.tup hpa,s5.seq har1⟩
   . rintro i x y σ H' b hx hy ⟨v4,v5,rfl,s5,e5⟩ hb;obtain⟨n,hn,hnm,rfl⟩:=ziy hx;have s6:=zaj.new (o:=.tup [.str n,y]) hb;have nb:d≠b:=λz=>by rw[<- z,e5] at hb; cases hb
     have lz:(((F.ps.zip vals).take i).foldl (λd p=>zbx d (Sum.inr p.1:Key) p.2) k0).length<1000000:=by
       refine qbw (zgf (λp:Str×V=>((Sum.inr p.1:Key),p.2)) ((F.ps.zip vals).take i) k0) ?_;have l2:((F.ps.zip vals).take i).length<=1000:=by rw[qay,qcf];omega
       omega
     refine⟨b,_,rfl,SqT.of zab,rfl,_,_,rfl,_,_,rfl,rfl,_,rfl,_,rfl,_,rfl,d,_,rfl,zn9.k (k:=(Sum.inr n:Key)) (s6 _ _ e5) (zbg lz),_,_,rfl,(s5.trans s6).upd d0,?_⟩;rw[zab,qbg,qba];have hz:(F.ps.zip vals)[i]?=some (n,y):=qb6.mpr ⟨hn,hy⟩;rw[hz];rfl
   . rintro σ H' ⟨v4,v5,rfl,s5,e5⟩;rw[qbh (by rw[qcf,List.length_map]; exact qae _),<- hbg] at e5;have h5:=h.grow s5;refine⟨_,rfl,w.a,_,_,_,_,rfl,h5.o,T.zae.cl,T.zat,rfl,.inl ⟨rfl,_,SqL.of h5.st⟩,_,rfl,_,rfl,λfa fdx hfa hfdx nfd=>⟨fa,fdx,d,F.name,rfl,zab,rfl,?_⟩⟩;have n1:∀{b:Addr} {o:HO},H' b=some o->b≠fa/\b≠fdx:=λhb=>⟨(λz=>by rw[z,hfa] at hb; cases hb),(λz=>by rw[z,hfdx] at hb; cases hb)⟩
     have s6:zaj H' (upd (upd (upd H' fdx (.own fa)) fa (.ins t.zbh fdx [])) fa (.ins t.zbh fdx (fF ⟨fa,fdx,d,F.name,0,[]⟩))):=λb o hb=>by rw[zag (n1 hb).1,zag (n1 hb).1,zag (n1 hb).2];exact hb
     have hfr:FrAt t.zbh (upd (upd (upd H' fdx (.own fa)) fa (.ins t.zbh fdx [])) fa (.ins t.zbh fdx (fF ⟨fa,fdx,d,F.name,0,[]⟩))) ⟨fa,fdx,d,F.name,0,zj7 F vals⟩:=⟨zab,s6 _ _ e5⟩
     obtain⟨p1,p2⟩:=h.push (s5.trans s6) (s5.free hfa) d0 hfr;rw[List.map_append] at p1;refine⟨w.st,_,_,rfl,rfl,s6 _ _ h5.st,zbg (by rw[List.length_map]; omega),?_⟩;exact q _ _ _ p2 p1 rfl rfl rfl
theorem zfa:FnScope ["self","number","caller"] ["self","number"] (zai zc3):=by walk_at "s"
theorem ziz (T:Txt K mg t):FnOk P w K mg base CX0 2 t.zft t.zfw ["self","number"] (zim K t):=by
 have G_TextWalker_go_on:=zge (P:=P) (w:=w) (base:=base) T;have G_TextWalker_row_of:=zfq (P:=P) (w:=w) (base:=base) T;refine T.zep.F.ok zfa (λvs H Q E h=>?_) (λcdv A outer s H vs Q E hr h=>?_)
 . obtain⟨Hb,w,fs,oc,sent,cn,f,v,rfl,h,q⟩:=h;rfl
 . obtain⟨Hb,w,fs,oc,sent,cn,f,v,rfl,h,q⟩:=h;refine⟨_,(@zac _ _ _ _ _ (@zbp _ _ _ _ (zv8 qat qc7 qc8 zwt (zbk (pv 0) (by rfl))) (by rfl)) (@zah _ _ _ (@zbd _ _ _ _ _ _ _ _ (z47 (K:=K) rfl (zbk (pv 0) (by rfl)) (by intro _; rfl)) (@zac _ _ _ _ _ (@zay _ _ 2 _ _ _ _ zfa.nd rfl (Or.inl rfl) (@zal _ _ _ _ _ _ _ zap (zbk (pv 0) (by rfl)) (ziq zfd zad) (λ_ _=>rfl)) (by rfl) (by first|exact .inl rfl|exact .inr rfl|assumption)) (@zac _ _ _ _ _ (zdj (u1' hr.units) (zbk (pv 2) (by rfl)) (@zal _ _ _ _ _ _ _ zaq (zbb (pv 0) T.zae.cl T.zc8.m G_TextWalker_row_of (hr.mono (by decide)) T.zc8.b .nil zcq (@zaa _ _ _ _ _ (pv 2) zaf (by rfl))) zad (λ_ _=>rfl)) (pv 1) (by rfl)) (@zah _ _ _ (@zbp _ _ _ _ (zbb (pv 0) T.zae.cl T.zb6.m G_TextWalker_go_on (hr.mono (by decide)) T.zb6.b .nil zcq (@zaa _ _ _ _ _ (pv 2) (@zaa _ _ _ _ _ zad zaf (by rfl)) (by rfl))) (by rfl))))) (@zah _ _ _ (zet (pv 0) (pv 1) (by rfl)))))),?_⟩;have h1:=WAt.pop h;refine⟨_,rfl,w.a,_,_,_,_,rfl,h.o,T.zae.cl,T.zat,rfl,  .inl ⟨rfl,_,SqL.of h.st⟩,w.st,_,V.ref f.a,rfl,rfl,h.st,by simp,?_⟩;rw[show((fs++[f]).map λf=>V.ref f.a).dropLast=fs.map λf=>V.ref f.a by rw[List.map_append]; exact List.dropLast_concat];rcases q with⟨rfl,q⟩|⟨fs0,g,fns,G,rw,its,x,r,rfl,hFl,hG,hn,hr1,hq,hx,hw,hk,q⟩
   . refine⟨_,rfl,w.a,_,_,_,_,rfl,h1.o,T.zae.cl,T.zat,rfl,false,.inl ⟨[],SqL.of h1.st,rfl⟩,zf7 qam ?_⟩;exact⟨_,rfl,_,rfl,w.a,_,_,_,rfl,h1.o,T.zae.cl,T.zbi,(by show 6<1000; decide),q _ h1.out⟩
   . have hgm:g∈fs0++[g]:=List.mem_append_right _ (List.mem_singleton.mpr rfl);have hg:=h1.fr g hgm;have h2:=h1.name (ks:=zbx g.kvs (Sum.inr x:Key) v);have hqH:=h1.b.tup hq;have hrow:g.row<G.rs.length:=(List.getElem?_eq_some_iff.mp hr1).1;refine⟨_,rfl,w.a,_,_,_,_,rfl,h1.o,T.zae.cl,T.zat,rfl,true,.inl ⟨_,SqL.of h1.st,by simp⟩,zhl rfl ?_⟩;refine⟨_,rfl,w.a,_,_,_,_,rfl,h1.o,T.zae.cl,T.zat,rfl,_,rfl,w.st,_,_,_,rfl,rfl,SqL.of h1.st,ztk _ _,?_⟩;refine⟨_,rfl,_,rfl,g.a,_,_,_,_,rfl,hg.o,T.zav.cl,T.za7,rfl,_,rfl,w.a,_,_,rfl,h1.o,rfl,_,rfl,Hb,w,fs0++[g],oc,sent,cn,g,fns,G,rw,rfl,h1,hgm,hFl,hG,hn,hr1,rw.r,_,_,_,rfl,rfl,hqH,zc7 (j:=1) hx,g.nd,_,rfl,zn9.k (k:=(Sum.inr x:Key)) hg.n (zbg hk),?_⟩;exact⟨_,rfl,w.a,_,_,rfl,h2.o,rfl,_,rfl,Hb,w,fs0,oc,sent,cn,{ g with kvs:=zbx g.kvs (Sum.inr x:Key) v },fns,G,0,r,rfl,h2,hFl,hG,hn,hrow,hw,λH3 h3=>q H3 h3⟩
theorem zcy:FnScope ["self","frame","row","deed"] ["self"] (zai za8):=by walk_at "s"
theorem ziw (T:Txt K mg t):FnOk P w K mg base CX0 4 t.zd2 t.zfx ["self"] (zfc K t):=by
 have G_TextWalker_row_of:=zfq (P:=P) (w:=w) (base:=base) T;have G_TextWalker_do_row:=zjp (P:=P) (w:=w) (base:=base) T;have G_TextWalker_go_on:=zge (P:=P) (w:=w) (base:=base) T;have G_TextWalker_begin:=zgh (P:=P) (w:=w) (base:=base) T;have G_TextWalker_go_back:=ziz (P:=P) (w:=w) (base:=base) T;have G_TextFrame_value_of:=zdq (P:=P) (w:=w) (base:=base) T;refine T.zeq.F.ok zcy (λvs H Q E h=>?_) (λcdv A outer s H vs Q E hr h=>?_)
 . obtain⟨Hb,w,fs,f,sent,cn,fns,F,r,rg,rfl,h,hFl,hF,hn,hr1,hq,hs,hk,q⟩:=h;rfl
 . skip
   refine(let XX:Cx:=(zkk CX0 P w K mg base ["self","frame","row","deed"] "TextWalker.walk_on" (zai za8) t.zd2 cdv A outer s H E).nox; ?_);refine(let W4:TS:=_; have hW4:PSs XX ((zaw za8).drop 4) W4:=(@zac _ _ _ _ _ (@zbd _ _ _ _ _ _ _ _ (@zar _ _ _ _ _ _ _ _ ziu (@zal _ _ _ _ _ _ _ zaq (pv 2) zad (λ_ _=>rfl)) (@zcc _ _ _ _ _ (@zaa _ _ _ _ _ zaz (@zaa _ _ _ _ _ zaz zaf (by rfl)) (by rfl))) (by with_unfolding_all rfl)) (@zac _ _ _ _ _ (@zbp _ _ _ _ (zbb (pv 0) T.zae.cl T.zb6.m G_TextWalker_go_on (hr.mono (by decide)) T.zb6.b .nil zcq (@zaa _ _ _ _ _ (pv 1) (@zaa _ _ _ _ _ (@zjh _ _ _ _ _ _ _ _ (@zar _ _ _ _ _ _ _ _ zwl (zbb (pv 1) T.zav.cl T.zam.m G_TextFrame_value_of (hr.mono (by decide)) T.zam.b .nil zcq (@zaa _ _ _ _ _ (@zal _ _ _ _ _ _ _ zaq (pv 2) zad (λ_ _=>rfl)) zaf (by rfl))) zad (zax _)) zad zad) zaf (by rfl)) (by rfl))) (by rfl)) (@zah _ _ _ (@zas _ _ _ _ zhc))) zan) (@zac _ _ _ _ _ (@zay _ _ 3 _ _ _ _ zcy.nd rfl (Or.inl rfl) (zbb (pv 0) T.zae.cl T.ze4.m G_TextWalker_do_row (hr.mono (by decide)) T.ze4.b .nil zcq (@zaa _ _ _ _ _ (pv 1) (@zaa _ _ _ _ _ (pv 2) zaf (by rfl)) (by rfl))) (by rfl) (by first|exact .inl rfl|exact .inr rfl|assumption)) (@zac _ _ _ _ _ (@zbp _ _ _ _ (zbb (pv 0) T.zae.cl T.zb6.m G_TextWalker_go_on (hr.mono (by decide)) T.zb6.b .nil zcq (@zaa _ _ _ _ _ (pv 1) (@zaa _ _ _ _ _ zad zaf (by rfl)) (by rfl))) (by rfl)) (@zah _ _ _ (@zas _ _ _ _ (pv 3)))))); ?_);refine(let W3:TS:=_; have hW3:PSs XX ((zaw za8).drop 3) W3:=(@zac _ _ _ _ _ (@zbd _ _ _ _ _ _ _ _ (@zar _ _ _ _ _ _ _ _ zcp (@zal _ _ _ _ _ _ _ zaq (pv 2) zad (λ_ _=>rfl)) zaz (zax _)) (@zac _ _ _ _ _ (@zbp _ _ _ _ (zbb (pv 0) T.zae.cl T.zep.m G_TextWalker_go_back (hr.mono (by decide)) T.zep.b .nil zcq (@zaa _ _ _ _ _ (zbb (pv 1) T.zav.cl T.zam.m G_TextFrame_value_of (hr.mono (by decide)) T.zam.b .nil zcq (@zaa _ _ _ _ _ (@zal _ _ _ _ _ _ _ zaq (pv 2) zad (λ_ _=>rfl)) zaf (by rfl))) zaf (by rfl))) (by rfl)) (@zah _ _ _ (@zas _ _ _ _ zhc))) zan) hW4); ?_);refine(let W2:TS:=_; have hW2:PSs XX ((zaw za8).drop 2) W2:=(@zac _ _ _ _ _ (@zbd _ _ _ _ _ _ _ _ (@zar _ _ _ _ _ _ _ _ zcp (@zal _ _ _ _ _ _ _ zaq (pv 2) zad (λ_ _=>rfl)) zaz (zax _)) (@zac _ _ _ _ _ (@zbp _ _ _ _ (zbb (pv 0) T.zae.cl T.zdh.m G_TextWalker_begin (hr.mono (by decide)) T.zdh.b .nil zcq (@zaa _ _ _ _ _ (@zal _ _ _ _ _ _ _ zaq (pv 2) zad (λ_ _=>rfl)) (@zaa _ _ _ _ _ (zh0 (N':=["atom","frame"]) (js:=[none,some 1]) (by kernel_rfl) rfl (zqy (@zal _ _ _ _ _ _ _ zaq (pv 2) zad (λ_ _=>rfl))) zdz (λ_ _ _ _=>(za0 (i:=0) (show(["atom","frame"]:List Str).Nodup by decide +kernel) rfl (Or.inl rfl) (.inr rfl))) (λ_ _ _ _=>zfm) (λ_ _ _ _=>(zbb (pv 1) T.zav.cl T.zam.m G_TextFrame_value_of (hr.mono (by decide)) T.zam.b .nil zcq (@zaa _ _ _ _ _ (pv 0) zaf (by rfl))))) zaf (by rfl)) (by rfl))) (by rfl)) (@zah _ _ _ (@zas _ _ _ _ zhc))) zan) hW3); ?_);obtain⟨Hb,w,fs,f,sent,cn,fns,F,r,rg,rfl,h,hFl,hF,hn,hr1,hq,hs,hk,q⟩:=h;refine⟨_,(@zac _ _ _ _ _ (@zay _ _ 1 _ _ _ _ zcy.nd rfl (Or.inr rfl) (@zal _ _ _ _ _ _ _ zap (zbk (pv 0) (by rfl)) (ziq zfd zad) (λ_ _=>rfl)) (by rfl) (by first|exact .inl rfl|exact .inr rfl|assumption)) (@zac _ _ _ _ _ (@zay _ _ 2 _ _ _ _ zcy.nd rfl (Or.inl rfl) (zbb (pv 0) T.zae.cl T.zc8.m G_TextWalker_row_of (hr.mono (by decide)) T.zc8.b .nil zcq (@zaa _ _ _ _ _ (pv 1) zaf (by rfl))) (by rfl) (by first|exact .inl rfl|exact .inr rfl|assumption)) hW2)),?_⟩;have hfm:f∈fs++[f]:=List.mem_append_right _ (List.mem_singleton.mpr rfl);have hf:=h.fr f hfm;have hqH:=h.b.tup hq;have hrow:f.row<F.rs.length:=(List.getElem?_eq_some_iff.mp hr1).1;refine⟨_,rfl,w.a,_,_,_,_,rfl,h.o,T.zae.cl,T.zat,rfl,_,rfl,w.st,_,_,_,rfl,rfl,SqL.of h.st,ztk _ _,?_⟩;refine⟨_,rfl,w.a,_,_,rfl,h.o,rfl,_,rfl,Hb,w,fs++[f],.non,sent,cn,f,fns,F,r,rfl,h,hfm,hFl,hF,hn,hr1,?_⟩;cases rg with
   | back a =>
     obtain⟨v,hv,q⟩:=q;exact⟨_,rfl,r.r,_,_,_,rfl,rfl,hqH,at0,rfl,_,rfl,iN ⟨_,rfl,r.r,_,_,_,rfl,rfl,hqH,at0,rfl,_,rfl,iP ⟨_,rfl,w.a,_,_,rfl,h.o,rfl,_,rfl,f.a,_,_,rfl,hf.o,rfl,_,rfl,r.r,_,_,_,rfl,rfl,hqH,rfl,f,a,v,rfl,hf,hv,Hb,w,fs,.non,sent,cn,f,v,rfl,h,q⟩⟩⟩
   | out a =>
     refine⟨_,rfl,r.r,_,_,_,rfl,rfl,hqH,at0,rfl,_,rfl,iN ⟨_,rfl,r.r,_,_,_,rfl,rfl,hqH,at0,rfl,_,rfl,iN ⟨_,rfl,r.r,_,_,_,rfl,rfl,hqH,at0,le2,λtp htp=>⟨tp,_,rfl,.inr (SqT.of zab),rfl,(by decide +kernel),_,rfl,iN ?_⟩⟩⟩⟩;have s1:=zaj.new (o:=.tup [.str (Str.ofString "if"),.str (Str.ofString "while")]) htp;have h1:=h.grow s1;have g1:=zbj (H2:=upd H tp (.tup [.str (Str.ofString "if"),.str (Str.ofString "while")])) h.b;obtain⟨r2,hw,v,hv,q⟩:=q;refine⟨_,rfl,w.a,_,_,rfl,h1.o,rfl,_,rfl,_,rfl,_,w,fs,.non,sent,cn,f,r.r,.out a,rfl,h1,g1.tup hq,hs,hk,v,hv,λHb2 H2 tq s2 h2 e2=>?_⟩;exact⟨_,rfl,w.a,_,_,rfl,h2.o,rfl,_,rfl,Hb2,w,fs,.non,sent++[v],cn,f,fns,F,0,r2,rfl,h2,(hFl.mono g1).mono s2,hF,hn,hrow,hw,λH3 h3=>⟨_,rfl,q Hb2 H3 tq (g1.trans s2) h3 e2⟩⟩
   | op x s a b =>
     refine⟨_,rfl,r.r,_,_,_,rfl,rfl,hqH,at0,rfl,_,rfl,iN ⟨_,rfl,r.r,_,_,_,rfl,rfl,hqH,at0,rfl,_,rfl,iN ⟨_,rfl,r.r,_,_,_,rfl,rfl,hqH,at0,le2,λtp htp=>⟨tp,_,rfl,.inr (SqT.of zab),rfl,(by decide +kernel),_,rfl,iN ?_⟩⟩⟩⟩;have s1:=zaj.new (o:=.tup [.str (Str.ofString "if"),.str (Str.ofString "while")]) htp;have h1:=h.grow s1;have g1:=zbj (H2:=upd H tp (.tup [.str (Str.ofString "if"),.str (Str.ofString "while")])) h.b;obtain⟨r2,hw,y,v,hg,q⟩:=q;refine⟨_,rfl,w.a,_,_,rfl,h1.o,rfl,_,rfl,_,rfl,_,w,fs,.non,sent,cn,f,r.r,.op x s a b,rfl,h1,g1.tup hq,hs,hk,y,v,hg,λHb2 H2 s2 h2=>?_⟩;exact⟨_,rfl,w.a,_,_,rfl,h2.o,rfl,_,rfl,Hb2,w,fs,.non,sent,cn,{ f with kvs:=zbx f.kvs (Sum.inr y:Key) v },fns,F,0,r2,rfl,h2,(hFl.mono g1).mono s2,hF,hn,hrow,hw,λH3 h3=>⟨_,rfl,q Hb2 H3 (g1.trans s2) h3⟩⟩
   | copy x a =>
     refine⟨_,rfl,r.r,_,_,_,rfl,rfl,hqH,at0,rfl,_,rfl,iN ⟨_,rfl,r.r,_,_,_,rfl,rfl,hqH,at0,rfl,_,rfl,iN ⟨_,rfl,r.r,_,_,_,rfl,rfl,hqH,at0,le2,λtp htp=>⟨tp,_,rfl,.inr (SqT.of zab),rfl,(by decide +kernel),_,rfl,iN ?_⟩⟩⟩⟩;have s1:=zaj.new (o:=.tup [.str (Str.ofString "if"),.str (Str.ofString "while")]) htp;have h1:=h.grow s1;have g1:=zbj (H2:=upd H tp (.tup [.str (Str.ofString "if"),.str (Str.ofString "while")])) h.b;obtain⟨r2,hw,y,v,hg,q⟩:=q;refine⟨_,rfl,w.a,_,_,rfl,h1.o,rfl,_,rfl,_,rfl,_,w,fs,.non,sent,cn,f,r.r,.copy x a,rfl,h1,g1.tup hq,hs,hk,y,v,hg,λHb2 H2 s2 h2=>?_⟩;exact⟨_,rfl,w.a,_,_,rfl,h2.o,rfl,_,rfl,Hb2,w,fs,.non,sent,cn,{ f with kvs:=zbx f.kvs (Sum.inr y:Key) v },fns,F,0,r2,rfl,h2,(hFl.mono g1).mono s2,hF,hn,hrow,hw,λH3 h3=>⟨_,rfl,q Hb2 H3 (g1.trans s2) h3⟩⟩
   | call x g p as =>
     obtain⟨G,vals,hG,hgn,hp,hl,hv,hal,hfl,hnn,hps,q⟩:=q;subst hgn;refine⟨_,rfl,r.r,_,_,_,rfl,rfl,hqH,at0,rfl,_,rfl,iP ⟨_,rfl,w.a,_,_,rfl,h.o,rfl,_,rfl,r.r,_,_,_,rfl,rfl,hqH,rfl,_,rfl,r.r,_,_,_,rfl,rfl,hqH,rfl,p,rfl,⟨_,h.b.tup hp⟩,λu hu=>zrh (K:=K) (λi _ y=>∃a,as[i]?=some a/\av f.kvs a=some y) (λ_ _ _ _ _ z=>z) (xs:=as) (by omega) (h.b.tup hp) hu ?_ ?_⟩⟩
     . rintro i z H2 R' hz s2 ⟨acc,ha⟩ r2;have h2:=h.grow s2;have hf2:=h2.fr f hfm;have hi:i<vals.length:=by rw[<- hl]; exact(List.getElem?_eq_some_iff.mp hz).1
       have hvi:=hv i z _ hz (List.getElem?_eq_getElem hi);exact⟨_,rfl,f.a,_,_,rfl,hf2.o,rfl,_,rfl,f,z,_,rfl,hf2,hvi,r2 _ H2 (zaj.refl _) ⟨z,hz,hvi⟩⟩
     . intro H3 ys s3 e3 ly ty;have ey:ys=vals:=by
         refine qcj λi=>?_;cases e:ys[i]? with
         | none=>rw[qbb (by have:=qb5.mp e; omega)]
         | some y =>
           obtain⟨a,h1,h2⟩:=ty i y e;have hi:i<vals.length:=by rw[<- hl]; exact(List.getElem?_eq_some_iff.mp h1).1
           have:=hv i a _ h1 (List.getElem?_eq_getElem hi);rw[h2] at this;rw[List.getElem?_eq_getElem hi,this]
       subst ey;have h3:=h.grow s3;have u0:H u=none:=hu;exact⟨_,w,fs++[f],.non,sent,cn,fns,G,u,ys,rfl,h3,hFl.mono (zbj h.b),hG,SqL.of (znn u0 e3),by omega,by rw[List.length_append]; show fs.length+1<=1000; omega,hnn,hps,λHb2 H4 f' s4 h4 e4 e5 e6=>q Hb2 H4 f' ((zbj h.b).trans s4) h4 e4 e5 e6⟩
   | put a fd b=>exact q.elim
   | new x=>exact q.elim
   | get x a fd=>exact q.elim
   | ifs a=>exact q.elim
   | whl a=>exact q.elim
theorem zof:FnScope ["self"] ["self"] (zai zf4):=by walk_at "s"
theorem zg5 (T:Txt K mg t):FnOk P w K mg base (CXe P w) 5 t.zlb t.zlf ["self"] (zoi K t):=by
 have G_Walker_ended:=zf8 (P:=P) (w:=w) (base:=base) T;have G_TextWalker_walk_on:=ziw (P:=P) (w:=w) (base:=base) T;refine T.zd9.F.okE zof (λvs H Q E h=>?_) (λcdv A outer s H vs Q E hr h=>?_)
 . obtain⟨x,rfl,q⟩:=h;rfl
 . obtain⟨x,rfl,q⟩:=h;refine⟨_,(@zac _ _ _ _ _ (@zbd _ _ _ _ _ _ _ _ (zf9 (zdb (pv 0) T.zae.cl T.zds.m G_Walker_ended (hr.mono (by decide)) T.zds.b .nil zcq)) (@zah _ _ _ (zr8 T.zdl T.i0_Ended rfl zph)) zan) (@zah _ _ _ (@zas _ _ _ _ (zdb (pv 0) T.zae.cl T.zeq.m G_TextWalker_walk_on (hr.mono (by decide)) T.zeq.b .nil zcq)))),?_⟩;rcases q with⟨Hb,w,fs,f,sent,cn,fns,F,r,rg,e,h,hFl,hF,hn,hr1,hq,hs,hk,q⟩|⟨Hb,w,oc,sent,cn,rfl,h,q⟩
   . cases e;exact⟨_,rfl,w.a,_,_,rfl,h.o,rfl,Hb,w,fs++[f],.non,sent,cn,rfl,h,_,rfl,zf7 (by simp) ⟨_,rfl,w.a,_,_,rfl,h.o,rfl,Hb,w,fs,f,sent,cn,fns,F,r,rg,rfl,h,hFl,hF,hn,hr1,hq,hs,hk,q⟩⟩
   . exact⟨_,rfl,w.a,_,_,rfl,h.o,rfl,Hb,w,[],oc,sent,cn,rfl,h,_,rfl,zhl (by simp) (q H (zaj.refl _))⟩
theorem zkw:FnScope ["self","program","args"] ["self","program","args"] (zai zdw):=by walk_at "s"
theorem zgv (T:Txt K mg t):FnOk P w K mg base CX0 7 t.zhd t.zhh ["self","program","args"] (zkr K t):=by
 have G_Walker_init:=zom (P:=P) (w:=w) (base:=base) T;have G_TextWalker_begin:=zgh (P:=P) (w:=w) (base:=base) T;refine T.zgi.F.ok zkw (λvs H Q E h=>?_) (λcdv A outer s H vs Q E hr h=>?_)
 . obtain⟨x,dx,p,ar,fns,F,vals,rfl,hx,hp,hne,hlen,hall,hnd,hF,har,hv,hnn,hps,q⟩:=h;rfl
 . obtain⟨x,dx,p,ar,fns,F,vals,rfl,hx,hp,hne,hlen,hall,hnd,hF,har,hv,hnn,hps,q⟩:=h;refine⟨_,(@zac _ _ _ _ _ (@zbp _ _ _ _ (z17 (zsi rfl T.zyf.g rfl) T.zkh.B G_Walker_init (hr.mono (by decide)) T.zkh.b .nil zcq (@zaa _ _ _ _ _ (pv 0) (@zaa _ _ _ _ _ (pv 1) zaf (by rfl)) (by rfl))) (by rfl)) (@zah _ _ _ (@zbp _ _ _ _ (zbb (pv 0) T.zae.cl T.zdh.m G_TextWalker_begin (hr.mono (by decide)) T.zdh.b .nil zcq (@zaa _ _ _ _ _ (zbk (zbk (pv 0) (by rfl)) (by rfl)) (@zaa _ _ _ _ _ (pv 2) zaf (by rfl)) (by rfl))) (by rfl)))),?_⟩;refine⟨_,rfl,_,rfl,x,dx,p,fns,rfl,hx,hp,hne,hlen,hall,hnd,λHb w H1 ew s1 h1 hFl=>?_⟩;subst ew;obtain⟨dx3,gs3,fz,c1,c2,c3⟩:=z1o (hFl.mono h1.b);rw[hF] at c2;cases c2;have hFm:F∈fns:=List.mem_of_getElem? hF;refine⟨_,rfl,w.a,_,_,rfl,h1.o,rfl,_,rfl,w.a,_,_,_,_,rfl,h1.o,T.zae.cl,T.za1,rfl,w.fl,_,_,_,_,rfl,c1,T.zb5.cl,T.zeg,c3,_,rfl,Hb,w,[],.non,[],⟨[],0⟩,fns,F,ar,vals,rfl,h1,hFl,hFm,s1.seq har,hv,by decide,hnn,hps,λHb2 H2 f s2 h2 e1 e2 e3=>?_⟩;exact q Hb2 w f H2 rfl (s1.trans s2) h2 (hFl.mono s2) e1 e2 e3
theorem zqz:FnScope ["_law_script","_law_k"] ["_law_script","_law_k"] (zai zhv):=by walk_at "s"
theorem zl7 (T:Txt K mg t):FnOk P w K mg base CX0 1 t.znw t.zn5 ["_law_script","_law_k"] (zrk K):=by
 refine T.zfl.F.ok zqz (λvs H Q E h=>?_) (λcdv A outer s H vs Q E hr h=>?_)
 . obtain⟨a,ns,k,rfl,hS,hl,h0,q⟩:=h;rfl
 . obtain⟨a,ns,k,rfl,hS,hl,h0,q⟩:=h;refine⟨_,(@zac _ _ _ _ _ (@zbd _ _ _ _ _ _ _ _ (@zar _ _ _ _ _ _ _ _ zsq (pv 1) (zbm zcb (by rfl) T.b_len zjs (@zaa _ _ _ _ _ (pv 0) zaf (by rfl))) (zax _)) (@zah _ _ _ (@zas _ _ _ _ (@zal _ _ _ _ _ _ _ zap (pv 0) (pv 1) (λ_ _=>rfl)))) zan) (@zah _ _ _ (@zas _ _ _ _ zad))),?_⟩;have hlen:(ns.map V.int).length=ns.length:=List.length_map _;refine⟨_,rfl,_,rfl,a,_,rfl,.inl hS,_,_,rfl,rfl,_,rfl,?_⟩;refine zvt (λc=>?_) (λc=>?_)
   . have c:=zb2 c;rw[hlen] at c;obtain⟨z,hz⟩:=z2e h0 c;exact⟨_,rfl,_,rfl,a,_,_,_,rfl,rfl,hS,hz,q _⟩
   . exact q _
theorem zga:FnScope ["_law_cell","_law_many","_law_found","_law_number","_law_k"] ["_law_cell","_law_many"] (zai zjj):=by walk_at "s"
theorem zkc (T:Txt K mg t):FnOk P w K mg base CX0 1 t.zo5 t.zpa ["_law_cell","_law_many"] (zss K):=by
 refine T.zmv.F.ok zga (λvs H Q E h=>?_) (λcdv A outer s H vs Q E hr h=>?_)
 . obtain⟨c,m,rfl,hm,q⟩:=h;rfl
 . obtain⟨c,m,rfl,hm,q⟩:=h;refine⟨_,(@zac _ _ _ _ _ (@zay _ _ 2 _ _ _ _ zga.nd rfl (Or.inl rfl) (@zc1 _ _ _ _ zaf) (by rfl) (by first|exact .inl rfl|exact .inr rfl|assumption)) (@zac _ _ _ _ _ (@zay _ _ 3 _ _ _ _ zga.nd rfl (Or.inl rfl) (@zao _ _ _ _ _ _ _ _ zcv (@zao _ _ _ _ _ _ _ _ za5 (pv 0) zad) zad) (by rfl) (by first|exact .inl rfl|exact .inr rfl|assumption)) (@zac _ _ _ _ _ (zea PassesOwn.never rfl (zfe rfl T.b_range (@zaa _ _ _ _ _ (@zao _ _ _ _ _ _ _ _ zcv (pv 1) zad) zaf (by rfl))) (za0 (i:=4) zga.nd rfl (Or.inl rfl)) (@zac _ _ _ _ _ (@zay _ _ 3 _ _ _ _ zga.nd rfl (Or.inl rfl) (@zao _ _ _ _ _ _ _ _ za5 (@zao _ _ _ _ _ _ _ _ zcv (@zao _ _ _ _ _ _ _ _ zcv (@zao _ _ _ _ _ _ _ _ zjw (pv 3) (pv 3)) (@zao _ _ _ _ _ _ _ _ zjw zad (pv 3))) (pv 4)) zad) (by rfl) (by first|exact .inl rfl|exact .inr rfl|assumption)) (@zah _ _ _ (@zbp _ _ _ _ (zhm qat qaz qa0 zb0 (pv 2) (@zaa _ _ _ _ _ (pv 3) zaf (by rfl))) (by rfl))))) (@zah _ _ _ (@zas _ _ _ _ (@zct _ _ _ _ _ _ _ _ _ _ zem (pv 2) (zcz zad) ze0)))))),?_⟩;have bM:∀z:Int,0<=z%2147483647/\z%2147483647<2147483647:=λz=>zbz z 2147483647 (by decide);refine⟨le0,λl hl=>?_⟩;generalize e:upd H l _=H1;have ⟨s1,e1⟩:=nw e hl;refine⟨_,rfl,_,_,rfl,rfl,(show(0:Int)<2147483647 by decide),_,_,rfl,rfl,?_⟩;have b0:=bM c;refine⟨_,rfl,_,_,rfl,rfl,_,rfl,by omega,by omega,zix (lo:=0) (n:=((m:Int)+1).toNat) (λi σ H'=>∃(k:Int) (v4:Option V) (ns:List Int),σ=[some (.int c),some (.int m),some (.ref l),some (.int k),v4]/\0<=k/\k<2 ^ 40/\zaj H H'/\H' l=some (.lst (ns.map V.int))/\ns.length=i/\∀n∈ns,0<=n/\n<2147483647) ⟨c%2147483647+48271,_,[],rfl,by omega,by omega,s1,e1,rfl,λn h=>by cases h⟩ ?_ ?_⟩
   . rintro i σ H' hi ⟨k,v4,ns,rfl,k0,k1,s2,e2,hlen,hns⟩;have b:=bM (k * k+48271 * k+(0+(i:Int)));refine⟨_,rfl,_,rfl,_,_,rfl,rfl,.inl ⟨by omega,by omega⟩,_,rfl,_,_,rfl,rfl,.inl ⟨by decide,by decide⟩,_,_,rfl,rfl,_,rfl,_,_,rfl,rfl,_,_,rfl,rfl,(show(0:Int)<2147483647 by decide),_,rfl,.inl ⟨rfl,_,SqL.of e2⟩,_,rfl,l,_,_,rfl,rfl,e2,zbg (by rw[List.length_map]; omega),(k * k+48271 * k+(0+(i:Int)))%2147483647,_,ns++[(k * k+48271 * k+(0+(i:Int)))%2147483647],rfl,b.1,by omega,s2.upd hl,?_,by rw[List.length_append,hlen]; rfl,λn hn=>?_⟩
     . rw[List.map_append]; exact zab
     . rcases List.mem_append.mp hn with hn|hn
       . exact hns n hn
       . rw[List.mem_singleton.mp hn]; exact b
   . rintro σ H' ⟨k,v4,ns,rfl,k0,k1,s2,e2,hlen,hns⟩;refine⟨_,rfl,_,rfl,l,_,rfl,SqL.of e2,λp hp=>?_⟩;have hc:zjr (ns.map V.int) (some 1) none=(ns.drop 1).map V.int:=by rw[zxv,List.map_drop]
     rw[hc];exact q p _ (ns.drop 1) (s2.free hp) (s2.trans (zaj.new hp)) zab (by rw[qbr,hlen]; omega) λn hn=>hns n (qcu hn)
theorem zdv:FnScope ["_law_cell","_law_many","_law_letters","_law_size","_law_at","_law_common","_law_found","_law_k","_law_name"] ["_law_cell","_law_many"] (zai ze9):=by walk_at "s"
theorem zvp (T:Txt K mg t):FnOk P w K mg base CX0 1 t.znz t.zr2 ["_law_cell","_law_many"] (zvn K):=by
 refine T.zym.F.ok zdv (λvs H Q E h=>?_) (λcdv A outer s H vs Q E hr h=>?_)
 . obtain⟨c,m,rfl,hm,q⟩:=h;rfl
 . skip
   refine(let XX:Cx:=(zkk CX0 P w K mg base ["_law_cell","_law_many","_law_letters","_law_size","_law_at","_law_common","_law_found","_law_k","_law_name"] "_law_names" (zai ze9) t.znz cdv A outer s H E).nox; ?_);refine(let W6:TS:=_; have hW6:PSs XX ((zaw ze9).drop 6) W6:=(@zac _ _ _ _ _ (zea PassesOwn.never rfl (zfe rfl T.b_range (@zaa _ _ _ _ _ (pv 1) zaf (by rfl))) (za0 (i:=7) zdv.nd rfl (Or.inl rfl)) (@zac _ _ _ _ _ (@zay _ _ 8 _ _ _ _ zdv.nd rfl (Or.inl rfl) (@zao _ _ _ _ _ _ _ _ ze3 (@zao _ _ _ _ _ _ _ _ ze3 (@zct _ _ _ _ _ _ _ _ _ _ z1c (pv 5) ze0 (zcz (pv 4))) (@zal _ _ _ _ _ _ _ zvu (pv 2) (@zao _ _ _ _ _ _ _ _ za5 (@zao _ _ _ _ _ _ _ _ zcv (@zao _ _ _ _ _ _ _ _ zc6 (pv 0) zad) (@zao _ _ _ _ _ _ _ _ zjw zad (pv 7))) zad) (λ_ _=>rfl))) (@zct _ _ _ _ _ _ _ _ _ _ z1c (pv 5) (zcz (pv 4)) ze0)) (by rfl) (by first|exact .inl rfl|exact .inr rfl|assumption)) (@zac _ _ _ _ _ (@zbd _ _ _ _ _ _ _ _ (@zar _ _ _ _ _ _ _ _ ziu (pv 8) (@zw7 _ _ [V.str "fn",V.str "in",V.str "new",V.str "get",V.str "put",V.str "call",V.str "out",V.str "if",V.str "while",V.str "else",V.str "end",V.str "back"] (by kernel_rfl)) (by with_unfolding_all rfl)) (@zah _ _ _ (@zay _ _ 8 _ _ _ _ zdv.nd rfl (Or.inl rfl) (@zao _ _ _ _ _ _ _ _ ze3 (pv 8) zaz) (by rfl) (by first|exact .inl rfl|exact .inr rfl|assumption))) zan) (@zah _ _ _ (@zbp _ _ _ _ (zhm qat qaz qa0 zb0 (pv 6) (@zaa _ _ _ _ _ (pv 8) zaf (by rfl))) (by rfl)))))) (@zah _ _ _ (@zas _ _ _ _ (pv 6)))); ?_);refine(let W4:TS:=_; have hW4:PSs XX ((zaw ze9).drop 4) W4:=(@zac _ _ _ _ _ (@zay _ _ 5 _ _ _ _ zdv.nd rfl (Or.inl rfl) (zhm PySem.F.plainAttrs_str PySem.F.slot_str_join PySem.F.type_str_join z2x zaz (@zaa _ _ _ _ _ (zh0 (N':=["_law_k","_law_letters","_law_cell"]) (js:=[none,some 2,some 0]) (by kernel_rfl) rfl (zfe rfl T.b_range (@zaa _ _ _ _ _ (pv 3) zaf (by rfl))) zdz (λ_ _ _ _=>(za0 (i:=0) (show(["_law_k","_law_letters","_law_cell"]:List Str).Nodup by decide +kernel) rfl (Or.inl rfl) (.inr rfl))) (λ_ _ _ _=>zfm) (λ_ _ _ _=>(@zal _ _ _ _ _ _ _ zvu (pv 1) (@zao _ _ _ _ _ _ _ _ za5 (@zao _ _ _ _ _ _ _ _ zc6 (pv 2) (@zao _ _ _ _ _ _ _ _ zcv zad (@zao _ _ _ _ _ _ _ _ zjw (pv 0) (@zao _ _ _ _ _ _ _ _ za5 (pv 2) zad)))) zad) (λ_ _=>rfl)))) zaf (by rfl))) (by rfl) (by first|exact .inl rfl|exact .inr rfl|assumption)) (@zac _ _ _ _ _ (@zay _ _ 6 _ _ _ _ zdv.nd rfl (Or.inl rfl) (@zc1 _ _ _ _ zaf) (by rfl) (by first|exact .inl rfl|exact .inr rfl|assumption)) hW6)); ?_);refine(let W2:TS:=_; have hW2:PSs XX ((zaw ze9).drop 2) W2:=(@zac _ _ _ _ _ (@zay _ _ 3 _ _ _ _ zdv.nd rfl (Or.inl rfl) (@zao _ _ _ _ _ _ _ _ za5 (@zao _ _ _ _ _ _ _ _ zc6 (pv 0) zad) zad) (by rfl) (by first|exact .inl rfl|exact .inr rfl|assumption)) (@zac _ _ _ _ _ (@zay _ _ 4 _ _ _ _ zdv.nd rfl (Or.inl rfl) (@zao _ _ _ _ _ _ _ _ za5 (@zao _ _ _ _ _ _ _ _ zc6 (pv 0) zad) (@zao _ _ _ _ _ _ _ _ zcv (pv 3) zad)) (by rfl) (by first|exact .inl rfl|exact .inr rfl|assumption)) hW4)); ?_);obtain⟨c,m,rfl,hm,q⟩:=h;refine⟨_,(@zac _ _ _ _ _ (@zay _ _ 2 _ _ _ _ zdv.nd rfl (Or.inr rfl) zaz (by rfl) (by first|exact .inl rfl|exact .inr rfl|assumption)) (@zac _ _ _ _ _ (@zbd _ _ _ _ _ _ _ _ (@zar _ _ _ _ _ _ _ _ zcp (@zao _ _ _ _ _ _ _ _ za5 (pv 0) zad) zad (zax _)) (@zah _ _ _ (@zas _ _ _ _ (zh0 (N':=["_law_k","_law_letters","_law_cell"]) (js:=[none,some 2,some 0]) (by kernel_rfl) rfl (zfe rfl T.b_range (@zaa _ _ _ _ _ (pv 1) zaf (by rfl))) zdz (λ_ _ _ _=>(za0 (i:=0) (show(["_law_k","_law_letters","_law_cell"]:List Str).Nodup by decide +kernel) rfl (Or.inl rfl) (.inr rfl))) (λ_ _ _ _=>zfm) (λ_ _ _ _=>(@zao _ _ _ _ _ _ _ _ z2k (@zal _ _ _ _ _ _ _ zvu (pv 1) (@zao _ _ _ _ _ _ _ _ za5 (@zao _ _ _ _ _ _ _ _ zc6 (pv 2) zad) zad) (λ_ _=>rfl)) (@zao _ _ _ _ _ _ _ _ zcv (pv 0) zad)))))) zan) hW2)),?_⟩;have lf:("abcdefghijklmnopqrstuvwxyz":Str).length<=sizeLine:=by decide +kernel
   refine⟨_,rfl,_,_,rfl,rfl,(show(0:Int)<5 by decide),rfl,_,rfl,?_⟩;refine zvt (λ_=>?_) (λ_=>?_)
   . have b:=zbz (c / 5) 26 (by decide);refine⟨_,rfl,_,rfl,by omega,by omega,λu hu=>znr (lo:=0) (n:=(m:Int).toNat) (λi _ v=>v=.str (tx (List.replicate (i+1) (97+(c / 5%26).toNat)))) (λ_ _ _ _ _ h=>h) (by omega) hu ?_ ?_⟩
     . rintro i H2 R' hi s2 _ r2;refine⟨_,rfl,_,rfl,_,_,rfl,rfl,zk7 _ _ (by decide),_,_,rfl,rfl,(show(0:Int)<26 by decide),_,_,_,rfl,rfl,lf,K14.let_at b.1 b.2,_,rfl,_,_,rfl,rfl,_,_,rfl,rfl,by omega,by omega,r2 _ H2 (zaj.refl _) ?_⟩;rw[show(0+(i:Int)+1).toNat=i+1 by omega];rfl
     . intro H2 vs s2 e2 lv tv;have ev:=zyq (m:=m) (by omega) tv;subst ev;refine q u H2 ((List.range m).map λk=>tx (List.replicate (k+1) (97+(c / 5%26).toNat))) hu s2 (by rw[qbt]; exact e2) (by simp) ⟨nodup_range λj k hj hk z=>?_,λn hn=>?_⟩
       . have:=congrArg (λy:Str=>y.length) z;simp only[zk8,List.length_replicate] at this;omega
       . obtain⟨k,hk,rfl⟩:=List.mem_map.mp hn;have:=qdh.mp hk;refine⟨_,rfl,λx hx=>?_,by simp,by simp; omega⟩;rw[(List.mem_replicate.mp hx).2];omega
   . have b7:=zbz (c / 5) 7 (by decide);refine⟨_,rfl,_,_,rfl,rfl,zk7 _ _ (by decide),_,_,rfl,rfl,(show(0:Int)<7 by decide),?_⟩;refine⟨_,rfl,_,_,rfl,rfl,zk7 _ _ (by decide),_,rfl,_,_,rfl,rfl,_,_,rfl,rfl,(show(0:Int)<c / 5%7+1 by omega),?_⟩;have ba:=zbz (c / 35) (c / 5%7+1) (by omega);obtain⟨at',hat'⟩:∃a:Nat,c / 35%(c / 5%7+1)=(a:Int):=⟨(c / 35%(c / 5%7+1)).toNat,by omega⟩
     refine⟨rfl,_,rfl,_,rfl,by omega,by omega,λu hu=>znr (lo:=0) (n:=(c / 5%7).toNat) (λ_ _ v=>∃ch,(97<=ch/\ch<=122)/\v=.str (tx [ch])) (λ_ _ _ _ _ h=>h) (by omega) hu ?_ ?_⟩
     . rintro i H2 R' hi s2 _ r2;have b2:=zbz c 2 (by decide);have den:0<9+(0+(i:Int)) * (c%2)/\9+(0+(i:Int)) * (c%2)<1073741824:=by
         have:c%2=0\/c%2=1:=by omega
         rcases this with z|z <;> rw[z] <;> omega
       have b:=zbz (c / (9+(0+(i:Int)) * (c%2))) 26 (by decide);exact⟨_,rfl,_,rfl,_,rfl,_,rfl,_,_,rfl,rfl,(show(0:Int)<2 by decide),_,_,rfl,rfl,.inr ⟨by omega,by omega⟩,_,_,rfl,rfl,_,_,rfl,rfl,den,_,_,rfl,rfl,(show(0:Int)<26 by decide),_,_,_,rfl,rfl,lf,K14.let_at b.1 b.2,r2 _ H2 (zaj.refl _) ⟨_,by omega,rfl⟩⟩
     intro H2 vs s2 e2 lv tv;obtain⟨cs,rfl,hcs,hcl⟩:=zxn tv;have hcl2:cs.length<=6:=by omega
     refine⟨_,u,cs.map λc=>tx [c],rfl,rfl,SqL.of e2,K14.one_fit (by omega),?_⟩;rw[K14.one_join];refine⟨le0,λl hl=>?_⟩;have s3:=s2.trans (zaj.new (o:=.lst []) hl);have e3:=zab (H:=H2) (a:=l) (o:=.lst []);have l0:H l=none:=s2.free hl;generalize upd H2 l (.lst [])=H3 at s3 e3 ⊢;have tcl:(tx cs).length<=sizeLine:=qb1 (zbg (by rw[zk8]; omega));refine⟨_,rfl,_,rfl,by omega,by omega,(let Jv1:Nat->St->Hp->Prop:=λi σ H'=>∃v7 v8:Option V,σ=[some (.int c),some (.int m),some (.str "abcdefghijklmnopqrstuvwxyz"),some (.int (c / 5%7)),some (.int (c / 35%(c / 5%7+1))),some (.str (tx cs)),some (.ref l),v7,v8]/\zaj H H'/\H' l=some (.lst (((List.range i).map λk=>tx (nmF WN cs at' (c / 3) k)).map V.str)); zix (lo:=0) (n:=(m:Int).toNat) Jv1 ?_ ?_ ?_)⟩
     . exact⟨_,_,rfl,s3,e3⟩
     . rintro i σ H' hi ⟨v7,v8,rfl,s4,e4⟩;have b:=zbz (c / 3+7 * (0+(i:Int))) 26 (by decide);have hb1:(Txt.slice (tx cs) none (some (c / 35%(c / 5%7+1))))=tx (cs.take at'):=by rw[hat']; exact K15.sl_to cs at'
       have hb2:(Txt.slice (tx cs) (some (c / 35%(c / 5%7+1))) none)=tx (cs.drop at'):=by rw[hat']; exact K15.sl_from cs at'
       have l1:(tx (cs.take at')).length<=6:=by rw[zk8,qay]; omega
       have l2:(tx (cs.drop at')).length<=6:=by rw[zk8,qbr]; omega
       refine⟨_,rfl,_,rfl,_,rfl,_,rfl,tcl,_,rfl,_,rfl,_,_,rfl,rfl,zk7 _ _ (by decide),_,rfl,_,_,rfl,rfl,.inl ⟨by decide,by decide⟩,_,_,rfl,rfl,_,_,rfl,rfl,(show(0:Int)<26 by decide),_,_,_,rfl,rfl,lf,K14.let_at b.1 b.2,_,_,rfl,rfl,(by rw[hb1]; exact qb1 (zbg (by show(tx (cs.take at')).length+1<1000000; omega))),_,rfl,_,rfl,_,rfl,_,rfl,tcl,_,_,rfl,rfl,?_,?_⟩
       . rw[hb1,hb2,Str.length_append];exact qb1 (zbg (by show(tx (cs.take at')).length+1+(tx (cs.drop at')).length<1000000; omega))
       rw[hb1,hb2];have enm:tx (cs.take at')++(⟨#[97+((c / 3+7 * (0+(i:Int)))%26).toNat]⟩:Str)++tx (cs.drop at')=tx (nmB cs at' (c / 3) i):=by refine K14.str_ext ?_;rw[qdz];show((tx (cs.take at')).cps++#[chr (c / 3) i]++(tx (cs.drop at')).cps).toList=_;unfold nmB;rw[zkp];simp [tx]
       rw[enm];refine⟨_,rfl,(by show 12<=sizeLine; decide),λtp htp=>⟨tp,zov.map V.str,rfl,.inr (SqT.of zab),rfl,(by decide +kernel),_,rfl,?_⟩⟩;have sT:=zaj.new (o:=.tup (zov.map V.str)) htp;have e5:=sT _ _ e4;have s5:=s4.trans sT;rw[show(if false=true then !inV (.str (tx (nmB cs at' (c / 3) i))) (zov.map V.str) else inV (.str (tx (nmB cs at' (c / 3) i))) (zov.map V.str))=decide (nmB cs at' (c / 3) i∈WN) from inW _];have ll:(nmB cs at' (c / 3) i).length<=7:=by rw[zpf]; omega
       have push:∀y,y=tx (nmF WN cs at' (c / 3) i)->((List.range i).map λk=>tx (nmF WN cs at' (c / 3) k)).map V.str++[V.str y]=((List.range (i+1)).map λk=>tx (nmF WN cs at' (c / 3) k)).map V.str:=λy hy=>by rw[List.range_succ,List.map_append,List.map_append,hy]; rfl
       by_cases hW:nmB cs at' (c / 3) i∈WN
       . refine zhl (decide_eq_true hW) ⟨_,rfl,_,_,rfl,rfl,qb1 (zbg (by rw[zk8]; show(nmB cs at' (c / 3) i).length+1<1000000; omega)),_,rfl,.inl ⟨rfl,_,SqL.of e5⟩,_,rfl,l,_,_,rfl,rfl,e5,zbg (by rw[List.length_map,List.length_map,qdv]; omega),_,_,rfl,s5.upd l0,?_⟩;rw[zab,push];unfold nmF;rw[if_pos hW];refine K14.str_ext ?_;rw[zkp];show((tx (nmB cs at' (c / 3) i)).cps++_).toList=_;simp [tx];decide +kernel
       . refine zf7 (λz=>hW (of_decide_eq_true z)) ⟨_,rfl,.inl ⟨rfl,_,SqL.of e5⟩,_,rfl,l,_,_,rfl,rfl,e5,zbg (by rw[List.length_map,List.length_map,qdv]; omega),_,_,rfl,s5.upd l0,?_⟩;rw[zab,push];unfold nmF;rw[if_neg hW]
     . rintro σ H' ⟨v7,v8,rfl,s4,e4⟩;rw[qa9] at e4;refine⟨_,rfl,q l H' _ l0 s4 e4 (by simp) ⟨nodup_range λj k hj hk z=>z23 (by omega) (by omega) (z4z z),λn hn=>?_⟩⟩;obtain⟨k,hk,rfl⟩:=List.mem_map.mp hn;have hB:=zpf cs at' (c / 3) k;have hL:Let (nmB cs at' (c / 3) k):=λx hx=>by
         unfold nmB at hx;rcases List.mem_append.mp hx with hx|hx
         . exact hcs x (qb8 hx)
         rcases List.mem_cons.mp hx with rfl|hx
         . exact z46 _ _
         . exact hcs x (qcu hx)
       refine⟨_,rfl,?_⟩;unfold nmF;split
       . refine⟨λx hx=>?_,by simp,by rw[List.length_append]; show _+1<=13; omega⟩;rcases List.mem_append.mp hx with hx|hx
         . exact hL x hx
         . rw[List.mem_singleton.mp hx]; decide
       . exact⟨hL,by omega,by omega⟩
theorem zpd:FnScope ["_law_number"] ["_law_number"] (zai zgw):=by walk_at "s"
theorem zht (T:Txt K mg t):FnOk P w K mg base CX0 1 t.zme t.zmg ["_law_number"] (zps K):=by
 refine T.zjl.F.ok zpd (λvs H Q E h=>?_) (λcdv A outer s H vs Q E hr h=>?_)
 . obtain⟨n,rfl,q⟩:=h;rfl
 . obtain⟨n,rfl,q⟩:=h;refine⟨_,(@zac _ _ _ _ _ (@zbd _ _ _ _ _ _ _ _ (@zar _ _ _ _ _ _ _ _ zcp (@zao _ _ _ _ _ _ _ _ za5 (pv 0) zad) zad (zax _)) (@zah _ _ _ (@zas _ _ _ _ (@zao _ _ _ _ _ _ _ _ za5 (@zao _ _ _ _ _ _ _ _ zc6 (pv 0) zad) zad))) zan) (@zac _ _ _ _ _ (@zbd _ _ _ _ _ _ _ _ (@zar _ _ _ _ _ _ _ _ zcp (@zao _ _ _ _ _ _ _ _ za5 (pv 0) zad) zad (zax _)) (@zah _ _ _ (@zas _ _ _ _ (@zao _ _ _ _ _ _ _ _ zh6 (@zao _ _ _ _ _ _ _ _ zh6 (@zao _ _ _ _ _ _ _ _ zrl zad zad) zad) (@zao _ _ _ _ _ _ _ _ za5 (@zao _ _ _ _ _ _ _ _ zc6 (pv 0) zad) zad)))) zan) (@zah _ _ _ (@zas _ _ _ _ (@zao _ _ _ _ _ _ _ _ za5 (@zao _ _ _ _ _ _ _ _ zjw (@zao _ _ _ _ _ _ _ _ zc6 (pv 0) zad) zad) (@zao _ _ _ _ _ _ _ _ zrl zad zad)))))),?_⟩;have x1:(2:Int) ^ (48:Int).toNat=281474976710656:=by decide
   have w1:K21.wide=281474976710656:=by decide
   have b5:=zbz (n / 3) 5 (by decide);refine⟨_,rfl,_,_,rfl,rfl,(show(0:Int)<3 by decide),rfl,_,rfl,?_⟩;refine zvt (λ_=>?_) (λ_=>?_)
   . exact⟨_,rfl,_,_,rfl,rfl,zxj _,_,_,rfl,rfl,(show(0:Int)<5 by decide),q _ ⟨b5.1,by rw[w1]; omega⟩⟩
   refine⟨_,rfl,_,_,rfl,rfl,(show(0:Int)<3 by decide),rfl,_,rfl,?_⟩;refine zvt (λ_=>?_) (λ_=>?_)
   . refine⟨_,_,rfl,rfl,⟨by decide,by decide,by decide⟩,_,_,rfl,rfl,_,rfl,_,_,rfl,rfl,zxj _,_,_,rfl,rfl,(show(0:Int)<5 by decide),_,_,rfl,rfl,q _ ⟨?_,?_⟩⟩
     . rw[x1]; omega
     . rw[x1,w1]; omega
   . refine⟨_,rfl,_,_,rfl,rfl,zxj _,_,_,rfl,rfl,.inr ⟨by decide,by decide⟩,_,_,rfl,rfl,⟨by decide,by decide,by decide⟩,_,_,rfl,rfl,(show(0:Int)<2 ^ (48:Int).toNat by decide),q _ ?_⟩;rw[x1];have b:=zbz (n / 3 * 160481183) 281474976710656 (by decide);exact⟨b.1,by rw[w1]; exact b.2⟩
theorem zwv:FnScope ["_law_number","_law_names_here"] ["_law_number","_law_names_here"] (zai zms):=by walk_at "s"
theorem zqt (T:Txt K mg t):FnOk P w K mg base CX0 2 t.zul t.zun ["_law_number","_law_names_here"] (zv5 K):=by
 have G_l_value_by:=zht (P:=P) (w:=w) (base:=base) T;refine T.zmh.F.ok zwv (λvs H Q E h=>?_) (λcdv A outer s H vs Q E hr h=>?_)
 . obtain⟨n,a,ns,rfl,ha,hn,q⟩:=h;rfl
 . obtain⟨n,a,ns,rfl,ha,hn,q⟩:=h;refine⟨_,(@zac _ _ _ _ _ (@zbd _ _ _ _ _ _ _ _ (@zar _ _ _ _ _ _ _ _ zcp (@zao _ _ _ _ _ _ _ _ za5 (pv 0) zad) zad (zax _)) (@zah _ _ _ (@zas _ _ _ _ (zbv T.zjl G_l_value_by (hr.mono (by decide)) (@zaa _ _ _ _ _ (@zao _ _ _ _ _ _ _ _ zc6 (pv 0) zad) zaf (by rfl))))) zan) (@zah _ _ _ (@zas _ _ _ _ (@zal _ _ _ _ _ _ _ zap (pv 1) (@zao _ _ _ _ _ _ _ _ za5 (@zao _ _ _ _ _ _ _ _ zc6 (pv 0) zad) (zbm zcb (by rfl) T.b_len zjs (@zaa _ _ _ _ _ (pv 1) zaf (by rfl)))) (λ_ _=>rfl))))),?_⟩;refine⟨_,rfl,_,_,rfl,rfl,(show(0:Int)<3 by decide),rfl,_,rfl,?_⟩;refine zvt (λ_=>?_) (λ_=>?_)
   . exact⟨_,rfl,_,_,rfl,rfl,zxj _,n / 3,rfl,λv hv=>q _ (.inl ⟨v,rfl,hv⟩)⟩
   . have hl:(0:Int)<((ns.map V.str).length:Nat):=by rw[List.length_map]; omega
     have b:=zbz (n / 3) _ hl;obtain⟨v,hv,hm⟩:=zmr (xs:=ns.map V.str) b.1 b.2;obtain⟨s,hs,rfl⟩:=List.mem_map.mp hm;exact⟨_,rfl,_,rfl,_,_,rfl,rfl,zxj _,_,rfl,a,_,rfl,.inl ha,_,_,rfl,rfl,hl,a,_,_,_,rfl,rfl,ha,hv,q _ (.inr ⟨s,rfl,hs⟩)⟩
theorem zjc:FnScope ["_law_cell","_law_names_here","_law_mine","_law_arities","_law_xs","_law_given","_law_other","_law_args"] ["_law_cell","_law_names_here","_law_mine","_law_arities"] (zai zij):=by walk_at "s"
theorem zy2 (T:Txt K mg t):FnOk P w K mg base CX0 3 t.ztg t.zyh ["_law_cell","_law_names_here","_law_mine","_law_arities"] (zz4 K):=by
 have G_l_stream:=zkc (P:=P) (w:=w) (base:=base) T;have G_l_atom:=zqt (P:=P) (w:=w) (base:=base) T;refine T.z5m.F.ok zjc (λvs H Q E h=>?_) (λcdv A outer s H vs Q E hr h=>?_)
 . obtain⟨c,nl,al,mine,ns,ar,rfl,hnl,h12,hal,h3,h6,hmi,q⟩:=h;rfl
 . skip
   refine(let XX:Cx:=(zkk CX0 P w K mg base ["_law_cell","_law_names_here","_law_mine","_law_arities","_law_xs","_law_given","_law_other","_law_args"] "_law_row" (zai zij) t.ztg cdv A outer s H E).nox; ?_);refine(let W6:TS:=_; have hW6:PSs XX ((zaw zij).drop 6) W6:=(@zac _ _ _ _ _ (@zay _ _ 6 _ _ _ _ zjc.nd rfl (Or.inl rfl) (@zao _ _ _ _ _ _ _ _ za5 (@zal _ _ _ _ _ _ _ zap (pv 4) zad (λ_ _=>rfl)) zad) (by rfl) (by first|exact .inl rfl|exact .inr rfl|assumption)) (@zpg _ _ _ _ _ (@zbd _ _ _ _ _ _ _ _ (@PW.pt _ _ _ (@z0u _ _ _ _ _ _ _ (@zar _ _ _ _ _ _ _ _ z26 (@zao _ _ _ _ _ _ _ _ za5 (@zal _ _ _ _ _ _ _ zap (pv 4) zad (λ_ _=>rfl)) zad) zad (zax _)) (@zvw _ _ _ _ (@zar _ _ _ _ _ _ _ _ z26 (pv 2) zad (zax _))))) (@zah _ _ _ (@zay _ _ 6 _ _ _ _ zjc.nd rfl (Or.inl rfl) (@zao _ _ _ _ _ _ _ _ za5 (@zal _ _ _ _ _ _ _ zap (pv 4) zad (λ_ _=>rfl)) (pv 2)) (by rfl) (by first|exact .inl rfl|exact .inr rfl|assumption))) zan) (@zac _ _ _ _ _ (zpv (i:=7) zjc.nd rfl (Or.inl rfl) (N':=["_law_number","_law_names_here"]) (js:=[none,some 1]) (by kernel_rfl) rfl (zgc (@zct _ _ _ _ _ _ _ _ _ _ zem (pv 4) (zcz zad) (zcz (@zao _ _ _ _ _ _ _ _ zcv zad (@zal _ _ _ _ _ _ _ zap (pv 3) (pv 6) (λ_ _=>rfl)))))) zdz (λ_ _ _ _=>(za0 (i:=0) (show(["_law_number","_law_names_here"]:List Str).Nodup by decide +kernel) rfl (Or.inl rfl) (.inr rfl))) (λ_ _ _ _=>zfm) (λ_ _ _ _=>(zbv T.zmh G_l_atom (hr.mono (by decide)) (@zaa _ _ _ _ _ (pv 0) (@zaa _ _ _ _ _ (@zct _ _ _ _ _ _ _ _ _ _ (show SlR _ (rSlL K) from zem) (pv 1) ze0 (zcz zad)) zaf (by rfl)) (by rfl)))) (by rfl)) (@zah _ _ _ (@zas _ _ _ _ (@zcc _ _ _ _ _ (@zaa _ _ _ _ _ zaz (@zaa _ _ _ _ _ (pv 5) (@zaa _ _ _ _ _ (@zal _ _ _ _ _ _ _ zap (pv 1) (@zao _ _ _ _ _ _ _ _ zcv zad (pv 6)) (λ_ _=>rfl)) (@zaa _ _ _ _ _ (za6 zf2 (by rfl) T.b_tuple zmu (@zaa _ _ _ _ _ (pv 7) zaf (by rfl))) zaf (by rfl)) (by rfl)) (by rfl)) (by rfl)))))))); ?_);refine(let W5:TS:=_; have hW5:PSs XX ((zaw zij).drop 5) W5:=(@zac _ _ _ _ _ (@zbd _ _ _ _ _ _ _ _ (@zar _ _ _ _ _ _ _ _ zsq (@zao _ _ _ _ _ _ _ _ za5 (@zal _ _ _ _ _ _ _ zap (pv 4) zad (λ_ _=>rfl)) zad) zad (zax _)) (@zah _ _ _ (@zas _ _ _ _ (@zcc _ _ _ _ _ (@zaa _ _ _ _ _ zaz (@zaa _ _ _ _ _ (pv 5) (@zaa _ _ _ _ _ zaz (@zaa _ _ _ _ _ (zbv T.zmh G_l_atom (hr.mono (by decide)) (@zaa _ _ _ _ _ (@zal _ _ _ _ _ _ _ zap (pv 4) zad (λ_ _=>rfl)) (@zaa _ _ _ _ _ (@zct _ _ _ _ _ _ _ _ _ _ zem (pv 1) ze0 (zcz zad)) zaf (by rfl)) (by rfl))) (@zaa _ _ _ _ _ (zbv T.zmh G_l_atom (hr.mono (by decide)) (@zaa _ _ _ _ _ (@zal _ _ _ _ _ _ _ zap (pv 4) zad (λ_ _=>rfl)) (@zaa _ _ _ _ _ (@zct _ _ _ _ _ _ _ _ _ _ zem (pv 1) ze0 (zcz zad)) zaf (by rfl)) (by rfl))) zaf (by rfl)) (by rfl)) (by rfl)) (by rfl)) (by rfl))))) zan) hW6); ?_);refine(let W3:TS:=_; have hW3:PSs XX ((zaw zij).drop 3) W3:=(@zac _ _ _ _ _ (@zbd _ _ _ _ _ _ _ _ (@zar _ _ _ _ _ _ _ _ zsq (@zao _ _ _ _ _ _ _ _ za5 (@zal _ _ _ _ _ _ _ zap (pv 4) zad (λ_ _=>rfl)) zad) zad (zax _)) (@zah _ _ _ (@zas _ _ _ _ (@zcc _ _ _ _ _ (@zaa _ _ _ _ _ zaz (@zaa _ _ _ _ _ (zbv T.zmh G_l_atom (hr.mono (by decide)) (@zaa _ _ _ _ _ (@zal _ _ _ _ _ _ _ zap (pv 4) zad (λ_ _=>rfl)) (@zaa _ _ _ _ _ (@zct _ _ _ _ _ _ _ _ _ _ zem (pv 1) ze0 (zcz zad)) zaf (by rfl)) (by rfl))) zaf (by rfl)) (by rfl))))) zan) (@zac _ _ _ _ _ (@zbd _ _ _ _ _ _ _ _ (@zar _ _ _ _ _ _ _ _ zsq (@zao _ _ _ _ _ _ _ _ za5 (@zal _ _ _ _ _ _ _ zap (pv 4) zad (λ_ _=>rfl)) zad) zad (zax _)) (@zah _ _ _ (@zas _ _ _ _ (@zcc _ _ _ _ _ (@zaa _ _ _ _ _ zaz (@zaa _ _ _ _ _ (pv 5) (@zaa _ _ _ _ _ (zbv T.zmh G_l_atom (hr.mono (by decide)) (@zaa _ _ _ _ _ (@zal _ _ _ _ _ _ _ zap (pv 4) zad (λ_ _=>rfl)) (@zaa _ _ _ _ _ (@zct _ _ _ _ _ _ _ _ _ _ zem (pv 1) ze0 (zcz zad)) zaf (by rfl)) (by rfl))) zaf (by rfl)) (by rfl)) (by rfl))))) zan) hW5)); ?_);obtain⟨c,nl,al,mine,ns,ar,rfl,hnl,h12,hal,h3,h6,hmi,q⟩:=h;refine⟨_,(@zac _ _ _ _ _ (@zay _ _ 4 _ _ _ _ zjc.nd rfl (Or.inl rfl) (zbv T.zmv G_l_stream (hr.mono (by decide)) (@zaa _ _ _ _ _ (pv 0) (@zaa _ _ _ _ _ zad zaf (by rfl)) (by rfl))) (by rfl) (by first|exact .inl rfl|exact .inr rfl|assumption)) (@zac _ _ _ _ _ (@zay _ _ 5 _ _ _ _ zjc.nd rfl (Or.inl rfl) (@zal _ _ _ _ _ _ _ zap (pv 1) (@zao _ _ _ _ _ _ _ _ za5 (@zal _ _ _ _ _ _ _ zap (pv 4) zad (λ_ _=>rfl)) zad) (λ_ _=>rfl)) (by rfl) (by first|exact .inl rfl|exact .inr rfl|assumption)) (@zac _ _ _ _ _ (@zbd _ _ _ _ _ _ _ _ (@zar _ _ _ _ _ _ _ _ zcp (@zao _ _ _ _ _ _ _ _ za5 (@zal _ _ _ _ _ _ _ zap (pv 4) zad (λ_ _=>rfl)) zad) zad (zax _)) (@zah _ _ _ (@zas _ _ _ _ (@zcc _ _ _ _ _ (@zaa _ _ _ _ _ zaz (@zaa _ _ _ _ _ (zbv T.zmh G_l_atom (hr.mono (by decide)) (@zaa _ _ _ _ _ (@zal _ _ _ _ _ _ _ zap (pv 4) zad (λ_ _=>rfl)) (@zaa _ _ _ _ _ (@zct _ _ _ _ _ _ _ _ _ _ zem (pv 1) ze0 (zcz zad)) zaf (by rfl)) (by rfl))) zaf (by rfl)) (by rfl))))) zan) hW3))),?_⟩;refine⟨_,rfl,c,9,rfl,by decide,λl H1 xs hl0 s1 e1 hx hx0=>?_⟩
   match xs,hx with
   | [n0,n1,n2,n3,n4,n5,n6,n7,n8],_ =>
   obtain⟨x,hv,hxm⟩:=nm6 (ns:=ns) (by omega) n1;have l6:0<(ns.take 6).length:=by rw[qay]; omega
   have c6:zjr (ns.map V.str) none (some 6)=(ns.take 6).map V.str:=zud ns 6 (by omega);have sa:=s1.seq hnl;refine⟨_,rfl,_,rfl,l,_,_,_,rfl,rfl,SqL.of e1,rfl,_,_,rfl,rfl,(show(0:Int)<6 by decide),nl,_,_,_,rfl,rfl,sa,hv,?_⟩;refine⟨_,rfl,l,_,_,_,rfl,rfl,SqL.of e1,at0,_,_,rfl,rfl,(show(0:Int)<14 by decide),rfl,_,rfl,zvt (λ_=>?_) (λ_=>?_)⟩
   . refine⟨_,rfl,l,_,_,_,rfl,rfl,SqL.of e1,rfl,_,rfl,_,rfl,nl,_,rfl,sa,λp hp=>?_⟩;rw[c6];have s2:=zaj.new (o:=.lst ((ns.take 6).map V.str)) hp;exact⟨n2,p,ns.take 6,rfl,SqL.of zab,l6,λv hv=>⟨le2,λtp htp=>q tp _ (.back v) (s1.free (s2.free htp)) ((s1.trans s2).trans (zaj.new htp)) ⟨SqT.of zab,(λ_ _ _ _ z=>by cases z)⟩ hv⟩⟩
   refine⟨_,rfl,l,_,_,_,rfl,rfl,SqL.of e1,at0,_,_,rfl,rfl,(show(0:Int)<14 by decide),_,_,rfl,rfl,_,rfl,zvt (λ_=>?_) (λ_=>?_)⟩
   . refine⟨_,rfl,l,_,_,_,rfl,rfl,SqL.of e1,rfl,_,rfl,_,rfl,nl,_,rfl,sa,λp hp=>?_⟩;rw[c6];have s2:=zaj.new (o:=.lst ((ns.take 6).map V.str)) hp;exact⟨n2,p,ns.take 6,rfl,SqL.of zab,l6,λv hv=>⟨le2,λtp htp=>q tp _ (.out v) (s1.free (s2.free htp)) ((s1.trans s2).trans (zaj.new htp)) ⟨SqT.of zab,(λ_ _ _ _ z=>by cases z)⟩ hv⟩⟩
   refine⟨_,rfl,l,_,_,_,rfl,rfl,SqL.of e1,at0,_,_,rfl,rfl,(show(0:Int)<14 by decide),_,_,rfl,rfl,_,rfl,zvt (λ_=>?_) (λ_=>?_)⟩
   . refine⟨_,rfl,_,rfl,l,_,_,_,rfl,rfl,SqL.of e1,rfl,_,rfl,_,rfl,nl,_,rfl,sa,λp hp=>?_⟩;rw[c6];have s2:=zaj.new (o:=.lst ((ns.take 6).map V.str)) hp;exact⟨n2,p,ns.take 6,rfl,SqL.of zab,l6,λv hv=>⟨le3,λtp htp=>q tp _ (.copy x v) (s1.free (s2.free htp)) ((s1.trans s2).trans (zaj.new htp)) ⟨SqT.of zab,(λ_ _ _ _ z=>by cases z)⟩ ⟨hxm,hv⟩⟩⟩
   refine⟨_,rfl,l,_,_,_,rfl,rfl,SqL.of e1,at0,_,_,rfl,rfl,(show(0:Int)<14 by decide),_,_,rfl,rfl,_,rfl,zvt (λ_=>?_) (λ_=>?_)⟩
   . refine⟨_,rfl,_,rfl,l,_,_,_,rfl,rfl,SqL.of e1,rfl,_,rfl,_,rfl,nl,_,rfl,sa,λp hp=>?_⟩;rw[c6];have s2:=zaj.new (o:=.lst ((ns.take 6).map V.str)) hp;refine⟨n2,p,ns.take 6,rfl,SqL.of zab,l6,λv hv=>?_⟩;generalize upd H1 p (.lst ((ns.take 6).map V.str))=H2 at s2 ⊢;refine⟨_,rfl,l,_,_,_,rfl,rfl,SqL.of (s2 _ _ e1),rfl,_,rfl,_,rfl,nl,_,rfl,s2.seq sa,λp2 hp2=>?_⟩;rw[c6];have s3:=zaj.new (o:=.lst ((ns.take 6).map V.str)) hp2;exact⟨n3,p2,ns.take 6,rfl,SqL.of zab,l6,λu hu=>⟨le5,λtp htp=>q tp _ (.op x "+" v u) (s1.free (s2.free (s3.free htp))) (((s1.trans s2).trans s3).trans (zaj.new htp)) ⟨SqT.of zab,(λ_ _ _ _ z=>by cases z)⟩ ⟨hxm,rfl,hv,hu⟩⟩⟩
   refine⟨_,rfl,l,_,_,_,rfl,rfl,SqL.of e1,rfl,_,_,rfl,rfl,(show(0:Int)<3 by decide),?_⟩;refine⟨λσ' H'=>∃j:Nat,σ'=[some (.int c),some (.ref nl),some (.int mine),some (.ref al),some (.ref l),some (.str x),some (.int j),none]/\j<3/\H1=H',?_,?_⟩
   . have b3:=zbz n2 3 (by decide);refine⟨_,rfl,l,_,_,_,rfl,rfl,SqL.of e1,rfl,_,_,rfl,rfl,(show(0:Int)<3 by decide),_,_,rfl,rfl,_,rfl,zvt (λ_=>?_) (λ_=>z3h ⟨(n2%3).toNat,?_,by omega,rfl⟩)⟩
     . refine⟨_,rfl,_,_,rfl,rfl,_,rfl,zvt (λhm=>?_) (λ_=>⟨(n2%3).toNat,?_,by omega,rfl⟩)⟩
       . have hm0:(0:Int)<mine:=of_decide_eq_true hm;have bm:=zbz n2 mine hm0;refine⟨_,rfl,l,_,_,_,rfl,rfl,SqL.of e1,rfl,_,rfl,_,_,rfl,rfl,hm0,(n2%(mine:Int)).toNat,?_,by omega,rfl⟩;rw[qbv bm.1];rfl
       . rw[qbv b3.1];rfl
     . rw[qbv b3.1];rfl
   rintro σ' H' ⟨j,rfl,hj,rfl⟩;obtain⟨aj,haj⟩:∃aj,ar[j]?=some aj:=⟨_,List.getElem?_eq_getElem (by omega)⟩
   have aj6:=h6 aj (List.mem_of_getElem? haj);obtain⟨g,hg⟩:∃g,ns[6+j]?=some g:=⟨_,List.getElem?_eq_getElem (by omega)⟩
   have hata:atI (zwo ar) (j:Int)=some (.int aj):=zc7 (by unfold zwo; rw[List.getElem?_map,haj]; rfl);refine⟨_,rfl,_,rfl,_,rfl,_,rfl,al,_,_,_,rfl,rfl,s1.seq hal,hata,_,_,rfl,rfl,_,rfl,l,_,rfl,SqL.of e1,λp hp=>?_⟩;have hcl:(zjr ([n0,n1,n2,n3,n4,n5,n6,n7,n8].map V.int) (some 3) (some (3+(aj:Int)))).length=aj:=z2b 3 (by show 3+aj<=9; omega);have hcm:∀v∈zjr ([n0,n1,n2,n3,n4,n5,n6,n7,n8].map V.int) (some 3) (some (3+(aj:Int))),∃z,v=V.int z:=λv hv=>by obtain⟨z,_,rfl⟩:=List.mem_map.mp (zxk hv);exact⟨z,rfl⟩
   generalize zjr ([n0,n1,n2,n3,n4,n5,n6,n7,n8].map V.int) (some 3) (some (3+(aj:Int)))=cv at hcl hcm ⊢;generalize e:upd H1 p _=H2;have ⟨s2,e2⟩:=nw e hp;refine⟨p,rfl,⟨_,SqL.of e2⟩,λu hu=>zkt (K:=K) (λi G v=>zg9 (ns.take 6) v) (λ_ _ _ _ _ h=>h) (xs:=cv) (by omega) (SqL.of e2) hu ?_ ?_⟩
   . intro i y G R hy sG ⟨acc,hacc⟩ hR;obtain⟨z,rfl⟩:=hcm y (List.mem_of_getElem? hy);refine⟨_,rfl,_,rfl,_,rfl,nl,_,rfl,sG.seq (s2.seq sa),λp2 hp2=>?_⟩;rw[c6];exact⟨z,p2,ns.take 6,rfl,SqL.of zab,l6,λv hv=>hR v _ (zaj.new hp2) hv⟩
   rintro G vs sG eG lv tv;have sG1:=s2.trans sG;have hatg:atI (ns.map V.str) (6+(j:Int))=some (.str g):=zi0 (by omega) (by rw[show(6+(j:Int)).toNat=6+j by omega]; exact hg);refine⟨_,rfl,_,rfl,_,rfl,_,_,rfl,rfl,nl,_,_,_,rfl,rfl,sG1.seq sa,hatg,_,rfl,u,_,rfl,.inl ⟨SqL.of eG,λta hta=>⟨le4,λtp htp=>?_⟩⟩⟩;have s3:=(s1.trans sG1).trans (zaj.new (o:=.tup vs) hta);refine q tp _ (.call x g ta vs) (s3.free htp) (s3.trans (zaj.new htp)) ⟨SqT.of zab,λ_ _ _ _ z=>by cases z; exact SqT.of (zaj.new htp _ _ zab)⟩ ⟨hxm,⟨j,hj,hg,by rw[haj,lv,hcl]⟩,by omega,λv hv=>?_⟩;obtain⟨i,hi⟩:=qax hv;exact tv i v hi
theorem zcd:FnScope ["_law_script","_law_names_here","_law_cells","_law_size","_law_xs","_law_arities","_law_shares","_law_program_here","_law_k","_law_start","_law_rows"] ["_law_script","_law_names_here"] (zai zdc):=by walk_at "s"
theorem zrd (T:Txt K mg t):FnOk P w K mg base CX0 4 t.zkj t.zn8 ["_law_script","_law_names_here"] (zrb K):=by
 have G_l_stream:=zkc (P:=P) (w:=w) (base:=base) T;have G_l_cell_at:=zl7 (P:=P) (w:=w) (base:=base) T;have G_l_row:=zy2 (P:=P) (w:=w) (base:=base) T;have G_l_atom:=zqt (P:=P) (w:=w) (base:=base) T;refine T.zr7.F.ok zcd (λvs H Q E h=>?_) (λcdv A outer s H vs Q E hr h=>?_)
 . obtain⟨a,nl,sc,ns,rfl,ha,hn,hnl,h12,nok,q⟩:=h;rfl
 . skip
   refine(let XX:Cx:=(zkk CX0 P w K mg base ["_law_script","_law_names_here","_law_cells","_law_size","_law_xs","_law_arities","_law_shares","_law_program_here","_law_k","_law_start","_law_rows"] "_law_program" (zai zdc) t.zkj cdv A outer s H E).nox; ?_);refine(let W6_3:TS:=_; have hW6_3:PSs XX ((sB ((zaw zdc).getD 6 (.Pass ⟨0,0,0,0⟩))).drop 3) W6_3:=(@zah _ _ _ (@zbp _ _ _ _ (zhm qat qaz qa0 zb0 (pv 7) (@zaa _ _ _ _ _ (@zcc _ _ _ _ _ (@zaa _ _ _ _ _ (@zal _ _ _ _ _ _ _ zap (pv 1) (@zao _ _ _ _ _ _ _ _ zcv zad (pv 8)) (λ_ _=>rfl)) (@zaa _ _ _ _ _ (zg7 zcp (@zao _ _ _ _ _ _ _ _ za5 (@zao _ _ _ _ _ _ _ _ zc6 (@zal _ _ _ _ _ _ _ zap (pv 4) zad (λ_ _=>rfl)) (@zao _ _ _ _ _ _ _ _ zcv (pv 8) zad)) zad) zad (zax _)) (@zaa _ _ _ _ _ (za6 zf2 (by rfl) T.b_tuple zmu (@zaa _ _ _ _ _ (@zct _ _ _ _ _ _ _ _ _ _ zem (pv 1) (zcz (pv 9)) (zcz (@zao _ _ _ _ _ _ _ _ zcv (pv 9) (@zal _ _ _ _ _ _ _ zap (pv 5) (pv 8) (λ_ _=>rfl))))) zaf (by rfl))) (@zaa _ _ _ _ _ (za6 zf2 (by rfl) T.b_tuple zmu (@zaa _ _ _ _ _ (pv 10) zaf (by rfl))) zaf (by rfl)) (by rfl)) (by rfl)) (by rfl))) zaf (by rfl))) (by rfl))); ?_);refine(let W6_2:TS:=_; have hW6_2:PSs XX ((sB ((zaw zdc).getD 6 (.Pass ⟨0,0,0,0⟩))).drop 2) W6_2:=(@zac _ _ _ _ _ (@zbp _ _ _ _ (zhm qat qaz qa0 zb0 (pv 10) (@zaa _ _ _ _ _ (@zcc _ _ _ _ _ (@zaa _ _ _ _ _ zaz (@zaa _ _ _ _ _ (zbv T.zmh G_l_atom (hr.mono (by decide)) (@zaa _ _ _ _ _ (@zal _ _ _ _ _ _ _ zap (pv 4) (@zao _ _ _ _ _ _ _ _ zcv zad (pv 8)) (λ_ _=>rfl)) (@zaa _ _ _ _ _ (@zct _ _ _ _ _ _ _ _ _ _ zem (pv 1) ze0 (zcz zad)) zaf (by rfl)) (by rfl))) zaf (by rfl)) (by rfl))) zaf (by rfl))) (by rfl)) hW6_3); ?_);refine(let W6:TS:=_; have hW6:PSs XX ((zaw zdc).drop 6) W6:=(@zac _ _ _ _ _ (zea PassesOwn.never rfl (zfe rfl T.b_range (@zaa _ _ _ _ _ zad zaf (by rfl))) (za0 (i:=8) zcd.nd rfl (Or.inr rfl)) (@zac _ _ _ _ _ (@zay _ _ 9 _ _ _ _ zcd.nd rfl (Or.inl rfl) (@zao _ _ _ _ _ _ _ _ zjw (@zal _ _ _ _ _ _ _ zap (@zc1 _ _ _ _ (@zaa _ _ _ _ _ zad (@zaa _ _ _ _ _ zad (@zaa _ _ _ _ _ zad zaf (by rfl)) (by rfl)) (by rfl))) (pv 8) (λ_ _=>rfl)) (za6 zgb (by rfl) T.b_int zl3 (@zaa _ _ _ _ _ (zg7 zsq (@zal _ _ _ _ _ _ _ zap (pv 5) (pv 8) (λ_ _=>rfl)) zad (zax _)) zaf (by rfl)))) (by rfl) (by first|exact .inl rfl|exact .inr rfl|assumption)) (@zac _ _ _ _ _ (zpv (i:=10) zcd.nd rfl (Or.inl rfl) (N':=["_law_cell","_law_names_here","_law_k","_law_arities"]) (js:=[none,some 1,some 8,some 5]) (by kernel_rfl) rfl (zgc (@zal _ _ _ _ _ _ _ zap (pv 6) (pv 8) (λ_ _=>rfl))) zdz (λ_ _ _ _=>(za0 (i:=0) (show(["_law_cell","_law_names_here","_law_k","_law_arities"]:List Str).Nodup by decide +kernel) rfl (Or.inl rfl) (.inr rfl))) (λ_ _ _ _=>zfm) (λ_ _ _ _=>(zbv T.z5m G_l_row (hr.mono (by decide)) (@zaa _ _ _ _ _ (pv 0) (@zaa _ _ _ _ _ (pv 1) (@zaa _ _ _ _ _ (pv 2) (@zaa _ _ _ _ _ (pv 3) zaf (by rfl)) (by rfl)) (by rfl)) (by rfl)))) (by rfl)) hW6_2))) (@zah _ _ _ (@zas _ _ _ _ (pv 7)))); ?_);refine(let W4:TS:=_; have hW4:PSs XX ((zaw zdc).drop 4) W4:=(@zac _ _ _ _ _ (@zay _ _ 6 _ _ _ _ zcd.nd rfl (Or.inl rfl) (@zc1 _ _ _ _ (@zaa _ _ _ _ _ (@zct _ _ _ _ _ _ _ _ _ _ zem (pv 2) ze0 (zcz (pv 3))) (@zaa _ _ _ _ _ (@zct _ _ _ _ _ _ _ _ _ _ zem (pv 2) (zcz (pv 3)) (zcz (@zao _ _ _ _ _ _ _ _ zjw zad (pv 3)))) (@zaa _ _ _ _ _ (@zct _ _ _ _ _ _ _ _ _ _ zem (pv 2) (zcz (@zao _ _ _ _ _ _ _ _ zjw zad (pv 3))) ze0) zaf (by rfl)) (by rfl)) (by rfl))) (by rfl) (by first|exact .inl rfl|exact .inr rfl|assumption)) (@zac _ _ _ _ _ (@zay _ _ 7 _ _ _ _ zcd.nd rfl (Or.inl rfl) (@zc1 _ _ _ _ zaf) (by rfl) (by first|exact .inl rfl|exact .inr rfl|assumption)) hW6)); ?_);obtain⟨a,nl,sc,ns,rfl,ha,hn,hnl,h12,nok,q⟩:=h;refine⟨_,(@zac _ _ _ _ _ (@zay _ _ 2 _ _ _ _ zcd.nd rfl (Or.inl rfl) (@zct _ _ _ _ _ _ _ _ _ _ zem (pv 0) (zcz zad) (zcz zad)) (by rfl) (by first|exact .inl rfl|exact .inr rfl|assumption)) (@zac _ _ _ _ _ (@zay _ _ 3 _ _ _ _ zcd.nd rfl (Or.inl rfl) (@zao _ _ _ _ _ _ _ _ zcv zad (@zao _ _ _ _ _ _ _ _ za5 (zbv T.zfl G_l_cell_at (hr.mono (by decide)) (@zaa _ _ _ _ _ (pv 0) (@zaa _ _ _ _ _ zad zaf (by rfl)) (by rfl))) zad)) (by rfl) (by first|exact .inl rfl|exact .inr rfl|assumption)) (@zac _ _ _ _ _ (@zay _ _ 4 _ _ _ _ zcd.nd rfl (Or.inl rfl) (zbv T.zmv G_l_stream (hr.mono (by decide)) (@zaa _ _ _ _ _ (zbv T.zfl G_l_cell_at (hr.mono (by decide)) (@zaa _ _ _ _ _ (pv 0) (@zaa _ _ _ _ _ zad zaf (by rfl)) (by rfl))) (@zaa _ _ _ _ _ zad zaf (by rfl)) (by rfl))) (by rfl) (by first|exact .inl rfl|exact .inr rfl|assumption)) (@zac _ _ _ _ _ (@zay _ _ 5 _ _ _ _ zcd.nd rfl (Or.inr rfl) (@zc1 _ _ _ _ (@zaa _ _ _ _ _ (@zao _ _ _ _ _ _ _ _ za5 (@zal _ _ _ _ _ _ _ zap (pv 4) zad (λ_ _=>rfl)) zad) (@zaa _ _ _ _ _ (@zao _ _ _ _ _ _ _ _ za5 (@zal _ _ _ _ _ _ _ zap (pv 4) zad (λ_ _=>rfl)) zad) (@zaa _ _ _ _ _ zad zaf (by rfl)) (by rfl)) (by rfl))) (by rfl) (by first|exact .inl rfl|exact .inr rfl|assumption)) hW4)))),?_⟩;have nN:=ztr nok;have nT:∀s∈ns.take 6,K12.Nm s:=λs hs=>nN s (qb8 hs);have c6:zjr (ns.map V.str) none (some 6)=(ns.take 6).map V.str:=zud ns 6 (by omega);have l6:0<(ns.take 6).length:=by rw[qay]; omega
   have cvI:∀lo hi (xs:List V),(∀v∈xs,∃z,v=V.int z)->xs.length<=63->(∀v∈zjr xs lo hi,∃z,v=V.int z)/\(zjr xs lo hi).length<=63:=λlo hi xs h1 h2=>⟨λv hv=>h1 v (zxk hv),Nat.le_trans (z2h _ _ _) h2⟩
   refine⟨_,rfl,_,rfl,_,rfl,a,_,rfl,ha,λce hce=>?_⟩;obtain⟨cI,cL⟩:=cvI (some 3) (some 33) (sc.map V.int) (λv hv=>by obtain⟨z,_,rfl⟩:=List.mem_map.mp hv; exact⟨z,rfl⟩) (by rw[List.length_map]; exact hn);generalize zjr (sc.map V.int) (some 3) (some 33)=cs at cI cL ⊢;generalize e:upd H ce _=H1;have ⟨s1,e1⟩:=nw e hce;refine⟨_,rfl,a,sc,1,rfl,s1.seq ha,hn,by decide,λc1=>⟨_,_,rfl,rfl,(show(0:Int)<9 by decide),_,_,rfl,rfl,?_⟩⟩;have b9:=zbz c1 9 (by decide);refine⟨_,rfl,a,sc,2,rfl,s1.seq ha,hn,by decide,λc2=>⟨c2,7,rfl,by decide,λxl H2 xs hxl s2 e2 lx nn=>?_⟩⟩
   match xs,lx,e2 with
   | [x0,x1,x2,x3,x4,x5,x6],_,e2 =>
   refine⟨_,rfl,xl,_,_,_,rfl,rfl,SqL.of e2,at0,_,_,rfl,rfl,(show(0:Int)<3 by decide),_,rfl,xl,_,_,_,rfl,rfl,SqL.of e2,rfl,_,_,rfl,rfl,(show(0:Int)<7 by decide),le3,λal hal=>?_⟩;have v0:=zbz x0 3 (by decide);have v1:=zbz x1 7 (by decide);generalize har:[(x0%3).toNat,(x1%7).toNat,1]=ar;have ear:zwo ar=[V.int (x0%3),V.int (x1%7),V.int 1]:=by rw[<- har];show [V.int ((x0%3).toNat:Int),V.int ((x1%7).toNat:Int),V.int 1]=_;rw[qbv v0.1,qbv v1.1]
   have lar:ar.length=3:=by rw[<- har]; rfl
   have ar6:∀y∈ar,y<=6:=λy hy=>by rw[<- har] at hy;simp only[List.mem_cons,qbi,or_false] at hy;omega
   have ars:∀i:Nat,i<3->∃b aj:Nat,atI [V.int 2,V.int 0,V.int 5] (0+(i:Int))=some (.int b)/\ar[i]?=some aj/\(if aj<2 then b else 0)+aj<=6:=λi hi=>by
     rw[<- har]
     match i,hi with
     | 0,_=>exact⟨2,_,rfl,rfl,by split <;> omega⟩
     | 1,_=>exact⟨0,_,rfl,rfl,by split <;> omega⟩
     | 2,_=>exact⟨5,_,rfl,rfl,by decide⟩
   have ar2:ar[2]?=some 1:=by rw[<- har]; rfl
   clear har;generalize e:upd H2 al _=H3;have ⟨s3,e3⟩:=nw e hal;rw[<- ear] at e3;have c3:=(s2.trans s3) _ _ e1;refine⟨_,rfl,_,rfl,_,rfl,ce,_,rfl,SqL.of c3,λp1 hp1=>?_⟩;obtain⟨I1,L1⟩:=cvI none (some (1+c1%9)) cs cI cL;generalize zjr cs none (some (1+c1%9))=u1 at I1 L1 ⊢;generalize e:upd H3 p1 _=H4;have ⟨s4,e4⟩:=nw e hp1;refine⟨_,rfl,_,rfl,_,rfl,_,rfl,_,_,rfl,rfl,.inl ⟨by decide,by decide⟩,_,rfl,ce,_,rfl,SqL.of (s4 _ _ c3),λp2 hp2=>?_⟩;obtain⟨I2,L2⟩:=cvI (some (1+c1%9)) (some (2 * (1+c1%9))) cs cI cL;generalize zjr cs (some (1+c1%9)) (some (2 * (1+c1%9)))=u2 at I2 L2 ⊢;generalize e:upd H4 p2 _=H5;have ⟨s5,e5⟩:=nw e hp2;refine⟨_,rfl,_,rfl,_,_,rfl,rfl,.inl ⟨by decide,by decide⟩,_,rfl,ce,_,rfl,SqL.of ((s4.trans s5) _ _ c3),λp3 hp3=>?_⟩;obtain⟨I3,L3⟩:=cvI (some (2 * (1+c1%9))) none cs cI cL;generalize zjr cs (some (2 * (1+c1%9))) none=u3 at I3 L3 ⊢;generalize e:upd H5 p3 _=H6;have ⟨s6,e6⟩:=nw e hp3;refine⟨le3,λsh hsh=>?_⟩;generalize e:upd H6 sh _=H7;have ⟨s7,e7⟩:=nw e hsh;have shs:∀i:Nat,i<3->∃pk uk,atI [V.ref p1,V.ref p2,V.ref p3] (0+(i:Int))=some (.ref pk)/\H7 pk=some (.lst uk)/\(∀v∈uk,∃z,v=V.int z)/\uk.length<=63:=λi hi=>by
     match i,hi with
     | 0,_=>exact⟨p1,u1,rfl,((s5.trans s6).trans s7) _ _ e4,I1,L1⟩
     | 1,_=>exact⟨p2,u2,rfl,(s6.trans s7) _ _ e5,I2,L2⟩
     | 2,_=>exact⟨p3,u3,rfl,s7 _ _ e6,I3,L3⟩
   have s37:=((s4.trans s5).trans s6).trans s7;have n7:=(((s1.trans s2).trans s3).trans s37).seq hnl;have x7:=(s3.trans s37) _ _ e2;have a7:=s37 _ _ e3;have t7:=((s1.trans s2).trans s3).trans s37;clear s1 s2 s3 s4 s5 s6 s7 s37 e1 e2 e3 e4 e5 e6 c3 I1 I2 I3 L1 L2 L3 hp1 hp2 hp3 hal hce hxl hsh cvI ear nn;refine⟨le0,λpl hpl=>?_⟩;have pl0:H pl=none:=t7.free hpl;refine⟨_,rfl,by decide,by decide,(let Jv1:Nat->St->Hp->Prop:=λi σ H'=>∃(v8 v9 v10:Option V) (ps:List (F2.Fd×List RG)),σ=[some (.ref a),some (.ref nl),some (.ref ce),some (.int (1+c1%9)),some (.ref xl),some (.ref al),some (.ref sh),some (.ref pl),v8,v9,v10]/\zaj H7 H'/\H' pl=some (.lst (fas ps))/\ps.length=i/\∀(j:Nat) p,ps[j]?=some p->POk K (ers pl H') ns ar j p; zix (lo:=0) (n:=3) Jv1 ⟨_,_,_,[],rfl,zaj.new hpl,zab,rfl,λj p hp=>by simp at hp⟩ ?_ ?_)⟩
   . rintro i σ H' hi ⟨v8,v9,v10,ps,rfl,sH,eP,lP,ok⟩;obtain⟨b,aj,hb,haj,hst⟩:=ars i hi;obtain⟨pk,uk,hpk,euk,iuk,luk⟩:=shs i hi;have aj6:=ar6 aj (List.mem_of_getElem? haj);have hata:atI (zwo ar) (0+(i:Int))=some (.int aj):=zi0 (by omega) (by rw[show(0+(i:Int)).toNat=i by omega]; exact haj);refine⟨le3,λq5 hq5=>?_⟩;generalize e:upd H' q5 _=G1;have ⟨w1,k1⟩:=nw e hq5;refine⟨_,rfl,q5,_,_,_,rfl,rfl,SqL.of k1,hb,_,rfl,_,rfl,al,_,_,_,rfl,rfl,SqL.of (w1 _ _ (sH _ _ a7)),hata,_,_,rfl,rfl,.inr ⟨_,rfl,?_⟩⟩;refine⟨_,_,rfl,rfl,.inr ⟨?_,?_⟩,?_⟩
     . split <;> decide
     . split <;> decide
     have est:(b:Int) * (if decide ((aj:Int)<2)=true then 1 else 0)=(((if aj<2 then b else 0:Nat)):Int):=by
       by_cases z:aj<2
       . rw[if_pos z,if_pos (by rw[decide_eq_true_eq]; omega),Int.mul_one]
       . rw[if_neg z,if_neg (by rw[decide_eq_true_eq]; omega),Int.mul_zero]; rfl
     show zql 9 (V.int ((b:Int) * (if decide ((aj:Int)<2)=true then 1 else 0))) _ _ _;rw[est];clear est;generalize (if aj<2 then b else 0:Nat)=st at hst;clear hb k1;have sG1:=sH.trans w1;refine⟨_,rfl,_,rfl,sh,_,_,_,rfl,rfl,SqL.of (sG1 _ _ e7),hpk,pk,rfl,⟨_,SqL.of (sG1 _ _ euk)⟩,λrl hrl=>zkt (K:=K) (λi G v=>∃tp rg,v=.ref tp/\RGAt K G tp rg/\zyy ns ar rg) (λi v G G' s h=>let ⟨tp,rg,h1,h2,h3⟩:=h; ⟨tp,rg,h1,h2.mono s,h3⟩) (xs:=uk) (by omega) (SqL.of (sG1 _ _ euk)) hrl ?_ ?_⟩
     . intro i0 x G R hx sG ⟨acc,hacc⟩ hR;obtain⟨z,rfl⟩:=iuk x (List.mem_of_getElem? hx);have sg:=sG1.trans sG;exact⟨_,rfl,_,rfl,_,rfl,_,rfl,z,nl,al,i,ns,ar,(by show [V.int z,V.ref nl,V.int (0+(i:Int)),V.ref al]=_; rw[qdz]),sg.seq n7,h12,SqL.of (sg _ _ a7),lar,ar6,hi,λtp G' rg htp sG' etp okr=>hR (.ref tp) G' sG' ⟨tp,rg,rfl,RGAt.ers (sG' _ _ hacc) etp,okr⟩⟩
     rintro G vs sG eG lvs hvs;obtain⟨pr,rfl,hpr⟩:=zxt hvs;clear hvs;rw[List.length_map,List.length_map] at lvs;have sG2:=sG1.trans sG;have nG:=sG2.seq n7;obtain⟨xk,hxk⟩:∃z,atI ([x0,x1,x2,x3,x4,x5,x6].map V.int) (2+(0+(i:Int)))=some (.int z):=⟨_,zi0 (by omega) (List.getElem?_eq_getElem (by show(2+(0+(i:Int))).toNat<7; omega))⟩
     refine⟨_,rfl,.inl ⟨rfl,_,SqL.of eG⟩,_,rfl,_,rfl,_,_,rfl,rfl,xl,_,_,_,rfl,rfl,SqL.of (sG2 _ _ x7),hxk,_,rfl,_,rfl,nl,_,rfl,nG,λp6 hp6=>?_⟩;rw[c6];generalize e:upd G p6 _=G2;have ⟨w2,k2⟩:=nw e hp6;refine⟨xk,p6,ns.take 6,rfl,SqL.of k2,l6,λv hv=>⟨le2,λbk hbk=>?_⟩⟩;generalize e:upd G2 bk _=G3;have ⟨w3,k3⟩:=nw e hbk;have w23:=w2.trans w3;refine⟨rl,_,_,rfl,rfl,w23 _ _ eG,zbg (by rw[List.length_map,List.length_map]; omega),?_⟩;have z4:zaj (ers rl G3) (upd G3 rl (.lst (((pr.map (·.1)).map V.ref)++[V.ref bk]))):=zgt.upd (by unfold ers; rw[if_pos rfl]);have r4:=zab (H:=G3) (a:=rl) (o:=.lst (((pr.map (·.1)).map V.ref)++[V.ref bk]));have s4:zaj H' (upd G3 rl (.lst (((pr.map (·.1)).map V.ref)++[V.ref bk]))):=((w1.trans sG).trans w23).upd (w1.free hrl);generalize upd G3 rl (.lst (((pr.map (·.1)).map V.ref)++[V.ref bk]))=G4 at z4 r4 s4 ⊢;have hbk4:G4 bk=some (.tup [V.str "back",v]):=z4 _ _ (by rw[zcu (λz=>by have:=w23 _ _ eG; rw[<- z,k3] at this; cases this)]; exact k3);have hpr4:∀p∈pr,RGAt K G4 p.1 p.2/\zyy ns ar p.2:=λp hp=>⟨(hpr p hp).1.mono ((zaj.ers w23).trans z4),(hpr p hp).2⟩
     have nrp:rl≠pl:=λz=>by have:=w1 _ _ eP; rw[<- z,hrl] at this; cases this
     have p4:=s4 _ _ eP;have sH4:=sH.trans s4;have n4:=sH4.seq n7;have st12:st+aj<=ns.length:=by omega
     obtain⟨fn,hfn⟩:∃fn,ns[6+i]?=some fn:=⟨_,List.getElem?_eq_getElem (by omega)⟩
     have hatf:atI (ns.map V.str) (6+(0+(i:Int)))=some (.str fn):=zi0 (by omega) (by rw[show(6+(0+(i:Int))).toNat=6+i by omega]; exact hfn);clear w1 w2 w3 w23 k2 k3 z4 sG eG sG1 sG2 nG hpr hp6 hbk hrl hq5;refine⟨_,rfl,.inl ⟨rfl,_,SqL.of p4⟩,_,rfl,_,rfl,_,_,rfl,rfl,nl,_,_,_,rfl,rfl,n4,hatf,_,rfl,xl,_,_,_,rfl,rfl,SqL.of (sH4 _ _ x7),rfl,_,rfl,_,_,rfl,rfl,_,_,rfl,rfl,zk7 _ _ (by omega),_,_,rfl,rfl,(show(0:Int)<2 by decide),rfl,?_⟩;refine⟨_,rfl,_,rfl,_,rfl,_,rfl,_,rfl,_,rfl,al,_,_,_,rfl,rfl,SqL.of (sH4 _ _ a7),hata,_,_,rfl,rfl,_,rfl,nl,_,rfl,n4,λp8 hp8=>?_⟩;rw[zws st12];generalize e:upd G4 p8 _=G5;have ⟨w5,k5⟩:=nw e hp8;refine⟨p8,_,rfl,.inl ⟨SqL.of k5,λqC hqC=>?_⟩⟩;generalize e:upd G5 qC _=G6;have ⟨w6,k6⟩:=nw e hqC;refine⟨_,rfl,rl,_,rfl,.inl ⟨SqL.of ((w5.trans w6) _ _ r4),λtr htr=>?_⟩⟩;generalize e:upd G6 tr _=G7;have ⟨w7,k7⟩:=nw e htr;refine⟨le4,λfa hfa=>?_⟩;generalize V.bl (decide (V.int (x5 / (0+(i:Int)+1)%2)=V.int 1))=fo;generalize e:upd G7 fa _=G8;have ⟨w8,k8⟩:=nw e hfa;have s58:=((w5.trans w6).trans w7).trans w8;have p8_:=s58 _ _ p4;refine⟨pl,_,_,rfl,rfl,p8_,zbg (by show(fas ps).length<1000000; rw[List.length_map]; omega),?_⟩;have lD:((ns.take (st+aj)).drop st).length=aj:=by rw[qbr,qay]; omega
     have mD:∀x∈(ns.take (st+aj)).drop st,x∈ns.take 6:=λx hx=>zzi hst hx;have fg:=z5k (K:=K) (H:=ers pl G8) (ns:=ns.take 6) nT (nk:=fn) (fo:=fo) (fa:=fa) (qC:=qC) (tr:=tr) (bk:=bk) (prs:=(ns.take (st+aj)).drop st) (ps:=pr) (a:=v) (znm p8_ (SqT.of k8)) (by rw[List.map_append,List.map_append]; exact znm p8_ (SqT.of (w8 _ _ k7))) (λp hp=>⟨RGAt.ers p8_ ((hpr4 p hp).1.mono s58),zsp nN (hpr4 p hp).2⟩) (by rw[zcu (λz=>by rw[z,p4] at hbk4; cases hbk4)]; exact s58 _ _ hbk4) hv (znm p8_ (SqT.of ((w7.trans w8) _ _ k6))) (λs hs=>nT s (mD s hs)) (by rw[lD]; exact aj6) (by omega) (nN fn (List.mem_of_getElem? hfn)).2;have eF:V.ref fa=V.ref (gfn fn fo fa qC tr ((ns.take (st+aj)).drop st) ((pr++[(bk,RG.back v)]).map (·.1)) (pr.map (·.2)++[RG.back v])).fa:=rfl;have nF:(gfn fn fo fa qC tr ((ns.take (st+aj)).drop st) ((pr++[(bk,RG.back v)]).map (·.1)) (pr.map (·.2)++[RG.back v])).name=fn:=rfl;have pF:(gfn fn fo fa qC tr ((ns.take (st+aj)).drop st) ((pr++[(bk,RG.back v)]).map (·.1)) (pr.map (·.2)++[RG.back v])).ps=(ns.take (st+aj)).drop st:=rfl;generalize gfn fn fo fa qC tr ((ns.take (st+aj)).drop st) ((pr++[(bk,RG.back v)]).map (·.1)) (pr.map (·.2)++[RG.back v])=F at fg eF nF pF;have rvo:∀rg∈pr.map (·.2)++[RG.back v],zyy ns ar rg:=λrg hr=>by
       rcases List.mem_append.mp hr with hr|hr
       . obtain⟨p,hp,rfl⟩:=List.mem_map.mp hr;exact(hpr4 p hp).2
       . rw[List.mem_singleton.mp hr]; exact hv
     have ok8:∀(j:Nat) p,ps[j]?=some p->POk K (ers pl G8) ns ar j p:=λj p hp=>(ok j p hp).mono (zaj.ers (s4.trans s58));rw[show fas ps++[V.ref fa]=fas (ps++[(F,pr.map (·.2)++[RG.back v])]) by rw[eF]; show _=List.map _ (ps++[_]); rw[List.map_append]; rfl];refine⟨_,_,_,ps++[(F,pr.map (·.2)++[RG.back v])],rfl,(sH.trans (s4.trans s58)).upd (by exact hpl),zab,by rw[List.length_append,lP]; rfl,λj p hp=>?_⟩;rw[ersU];rcases zd4 hp with⟨_,h⟩|⟨h,rfl⟩
     . exact ok8 j p h
     . rw[h,lP];refine⟨fg,by rw[nF]; exact hfn,by rw[haj]; show some aj=some F.ps.length; rw[pF,lD],by show 0<(pr.map (·.2)++[RG.back v]).length; rw[List.length_append]; exact Nat.succ_pos _,λrg hr=>z5t (rvo rg hr),λn hn=>?_⟩;rcases (fg.nm n).mp hn with h1|h1
       . rw[pF] at h1; exact mD n h1
       . unfold zt9 at h1;rw[qc5] at h1;obtain⟨rg,hr,h2⟩:=h1;rcases z04 (rvo rg hr) _ (z5s.mp h2) with⟨_,z,_⟩|⟨s,z,hs⟩
         . cases z
         . cases z; exact hs
   . rintro σ H' ⟨v8,v9,v10,ps,rfl,sH,eP,lP,ok⟩;exact⟨_,rfl,q pl H' ps ar pl0 (t7.trans sH) ⟨eP,lP,λj p hp=>(ok j p hp).mono zgt⟩ ar2⟩
theorem zu8:FnScope ["_law_row_here"] ["_law_row_here"] (zai zk6):=by walk_at "s"
theorem zvb (T:Txt K mg t):FnOk P w K mg base CX0 1 t.zrw t.zrz ["_law_row_here"] (zvf K):=by
 refine T.zyk.F.ok zu8 (λvs H Q E h=>?_) (λcdv A outer s H vs Q E hr h=>?_)
 . obtain⟨r,rg,rfl,hr1,ok,hk,q⟩:=h;rfl
 . obtain⟨r,rg,rfl,hr1,ok,hk,q⟩:=h;refine⟨_,(@zac _ _ _ _ _ (@zbd _ _ _ _ _ _ _ _ (@zar _ _ _ _ _ _ _ _ zcp (@zal _ _ _ _ _ _ _ zaq (pv 0) zad (λ_ _=>rfl)) zaz (zax _)) (@zah _ _ _ (@zas _ _ _ _ (@zao _ _ _ _ _ _ _ _ z0s (@zc1 _ _ _ _ (@zaa _ _ _ _ _ (@zal _ _ _ _ _ _ _ zaq (pv 0) zad (λ_ _=>rfl)) zaf (by rfl))) (za6 zfb (by rfl) T.b_list zj9 (@zaa _ _ _ _ _ (@zal _ _ _ _ _ _ _ zaq (pv 0) zad (λ_ _=>rfl)) zaf (by rfl)))))) zan) (@zac _ _ _ _ _ (@zbd _ _ _ _ _ _ _ _ (@zar _ _ _ _ _ _ _ _ zcp (@zal _ _ _ _ _ _ _ zaq (pv 0) zad (λ_ _=>rfl)) zaz (zax _)) (@zah _ _ _ (@zas _ _ _ _ (@zc1 _ _ _ _ (@zaa _ _ _ _ _ (@zal _ _ _ _ _ _ _ zaq (pv 0) zad (λ_ _=>rfl)) (@zaa _ _ _ _ _ (@zal _ _ _ _ _ _ _ zaq (pv 0) zad (λ_ _=>rfl)) (@zaa _ _ _ _ _ (@zal _ _ _ _ _ _ _ zaq (pv 0) zad (λ_ _=>rfl)) zaf (by rfl)) (by rfl)) (by rfl))))) zan) (@zah _ _ _ (@zas _ _ _ _ (za6 zfb (by rfl) T.b_list zj9 (@zaa _ _ _ _ _ (@zct _ _ _ _ _ _ _ _ _ _ z21 (pv 0) (zcz zad) ze0) zaf (by rfl))))))),?_⟩;cases rg with
   | out a=>refine⟨_,rfl,r,_,_,_,rfl,rfl,hr1.it,at0,rfl,_,rfl,iN ⟨_,rfl,r,_,_,_,rfl,rfl,hr1.it,at0,rfl,_,rfl,iN ⟨_,rfl,_,rfl,zsz hr1.it λp2 H4 s4 e4=>⟨p2,_,rfl,.inr e4,λl hl=>q l _ (s4.free hl) (s4.trans (zaj.new hl)) zab⟩⟩⟩⟩
   | copy x a=>refine⟨_,rfl,r,_,_,_,rfl,rfl,hr1.it,at0,rfl,_,rfl,iN ⟨_,rfl,r,_,_,_,rfl,rfl,hr1.it,at0,rfl,_,rfl,iN ⟨_,rfl,_,rfl,zsz hr1.it λp2 H4 s4 e4=>⟨p2,_,rfl,.inr e4,λl hl=>q l _ (s4.free hl) (s4.trans (zaj.new hl)) zab⟩⟩⟩⟩
   | op x s a b =>
     exact⟨_,rfl,r,_,_,_,rfl,rfl,hr1.it,at0,rfl,_,rfl,iN ⟨_,rfl,r,_,_,_,rfl,rfl,hr1.it,at0,rfl,_,rfl,iP ⟨_,rfl,r,_,_,_,rfl,rfl,hr1.it,rfl,_,rfl,r,_,_,_,rfl,rfl,hr1.it,rfl,_,rfl,r,_,_,_,rfl,rfl,hr1.it,rfl,le3,λl hl=>q l _ hl (zaj.new hl) zab⟩⟩⟩
   | call x g p as =>
     have h10:=(ok.cl _ _ _ _ rfl).2;refine⟨_,rfl,r,_,_,_,rfl,rfl,hr1.it,at0,rfl,_,rfl,iP ⟨_,rfl,r,_,_,_,rfl,rfl,hr1.it,rfl,le1,λp1 h1=>?_⟩⟩;have s1:=zaj.new (o:=.lst [V.str x]) h1;refine⟨_,rfl,r,_,_,_,rfl,rfl,s1.tup hr1.it,rfl,p,_,rfl,.inr (s1.tup (hr1.ar x g p as rfl)),λp2 h2=>?_⟩;have s2:=zaj.new (o:=.lst as) h2;exact⟨p1,p2,_,_,rfl,rfl,s2 _ _ zab,zab,(by show 1+as.length<=sizeLine; exact qb1 (zbg (by omega))),λl hl=>q l _ (s1.free (s2.free hl)) ((s1.trans s2).trans (zaj.new hl)) zab⟩
   | back a=>refine⟨_,rfl,r,_,_,_,rfl,rfl,hr1.it,at0,rfl,_,rfl,iN ⟨_,rfl,r,_,_,_,rfl,rfl,hr1.it,at0,rfl,_,rfl,iN ⟨_,rfl,_,rfl,zsz hr1.it λp2 H4 s4 e4=>⟨p2,_,rfl,.inr e4,λl hl=>q l _ (s4.free hl) (s4.trans (zaj.new hl)) zab⟩⟩⟩⟩
   | _=>exact hk.elim
theorem zf5:FnScope ["_law_function","_law_args","_law_now","_law_row_here","_law_part","_law_name","_law_number"] ["_law_function","_law_args"] (zai zgd):=by walk_at "s"
theorem zow (T:Txt K mg t):FnOk P w K mg base CX0 2 t.znx t.zr0 ["_law_function","_law_args"] (zvj K):=by
 have G_l_atoms:=zvb (P:=P) (w:=w) (base:=base) T;refine T.zth.F.ok zf5 (λvs H Q E h=>?_) (λcdv A outer s H vs Q E hr h=>?_)
 . obtain⟨F,rgs,ar,vals,rfl,hF,har,hlen,hvi,q⟩:=h;rfl
 . skip
   refine(let XX:Cx:=(zkk CX0 P w K mg base ["_law_function","_law_args","_law_now","_law_row_here","_law_part","_law_name","_law_number"] "_law_frame" (zai zgd) t.znx cdv A outer s H E).nox; ?_);refine(let W2:TS:=_; have hW2:PSs XX ((zaw zgd).drop 2) W2:=(@zac _ _ _ _ _ (zea PassesOwn.never rfl (z0t true false rfl T.b_zip (@zaa _ _ _ _ _ (@zal _ _ _ _ _ _ _ zaq (pv 0) zad (λ_ _=>rfl)) (@zaa _ _ _ _ _ (pv 1) zaf (by rfl)) (by rfl))) (zmd rfl (zb8 (za0 (i:=5) zf5.nd rfl (Or.inl rfl)) (zb8 (za0 (i:=6) zf5.nd rfl (Or.inl rfl)) zh2))) (@zah _ _ _ (zdj (u1' hr.units) (pv 2) (pv 5) (pv 6) (by rfl)))) (@zah _ _ _ (@zas _ _ _ _ (@zc1 _ _ _ _ (@zaa _ _ _ _ _ (pv 0) (@zaa _ _ _ _ _ zad (@zaa _ _ _ _ _ (pv 2) zaf (by rfl)) (by rfl)) (by rfl)))))); ?_);refine(let W1:TS:=_; have hW1:PSs XX ((zaw zgd).drop 1) W1:=(@zac _ _ _ _ _ (zea PassesOwn.never rfl (zqy (@zal _ _ _ _ _ _ _ zaq (pv 0) zad (λ_ _=>rfl))) (za0 (i:=3) zf5.nd rfl (Or.inl rfl)) (@zah _ _ _ (zea PassesOwn.never rfl (zgc (zbv T.zyk G_l_atoms (hr.mono (by decide)) (@zaa _ _ _ _ _ (pv 3) zaf (by rfl)))) (za0 (i:=4) zf5.nd rfl (Or.inl rfl)) (@zah _ _ _ (@zbd _ _ _ _ _ _ _ _ (zf9 (zbm zd7 (by rfl) T.b_isinstance zbe (@zaa _ _ _ _ _ (pv 4) (@zaa _ _ _ _ _ (zhy (v:=V.ty "str") rfl T.b_str zju rfl) zaf (by rfl)) (by rfl)))) (@zah _ _ _ (zdj (u1' hr.units) (pv 2) (pv 4) zad (by rfl))) zan))))) hW2); ?_);obtain⟨F,rgs,ar,vals,rfl,hF,har,hlen,hvi,q⟩:=h;refine⟨_,(@zac _ _ _ _ _ (@zay _ _ 2 _ _ _ _ zf5.nd rfl (Or.inl rfl) ze6 (by rfl) (by first|exact .inl rfl|exact .inr rfl|assumption)) hW1),?_⟩;intro d hd;generalize e:upd H d _=H1;have ⟨s1,e1⟩:=nw e hd;have hfn:=hF.at_.fn;have hrw:=hF.at_.rw_;have hln:=hF.len;have hsm:=hF.small;refine⟨_,rfl,F.fa,_,_,_,rfl,rfl,s1.tup hfn,rfl,F.ra,rfl,⟨_,s1.tup hrw⟩,(let Jv1:Nat->St->Hp->Prop:=λi σ H'=>∃v3 v4:Option V,σ=[some (.ref F.fa),some (.ref ar),some (.ref d),v3,v4,none,none]/\zaj H H'/\H' d=some (.dK ((rgs.take i).foldl (λd rg=>(RG.parts rg).foldl zli d) [])); zwn (xs:=F.rs.map λr=>V.ref r.r) Jv1 ⟨_,_,rfl,s1,e1⟩ ?_ ?_ ?_)⟩
   . rintro i σ H2 hi ⟨v3,v4,rfl,s2,e2⟩;exact s2.tup hrw
   . rintro i x0 σ H2 hx ⟨v3,v4,rfl,s2,e2⟩;obtain⟨rw_,hr,hrm,rfl⟩:=ziy hx;have hi:i<rgs.length:=by have:=(List.getElem?_eq_some_iff.mp hr).1; omega
     obtain⟨rg,hrg⟩:∃rg,rgs[i]?=some rg:=⟨_,List.getElem?_eq_getElem hi⟩
     have hm:=List.mem_of_getElem? hrg;have ok:=hF.ok rg hm;have hq:=(hF.row i rw_ rg hr hrg).mono s2;have hk0:=zmq (rgs.take i) [] (λr h=>hF.ok r (qb8 h));rw[qay] at hk0;generalize hke:(rgs.take i).foldl (λd rg=>(RG.parts rg).foldl zli d) []=k0 at e2 hk0;simp only[qb7] at hk0;refine⟨_,rfl,rw_.r,rg,rfl,hq,ok,hF.kd rg hm,λpl H3 hpl s3 e3=>⟨pl,rfl,⟨_,SqL.of e3⟩,(let Jv2:Nat->St->Hp->Prop:=λj σ H'=>∃v4:Option V,σ=[some (.ref F.fa),some (.ref ar),some (.ref d),some (.ref rw_.r),v4,none,none]/\zaj H H'/\H' pl=some (.lst rg.parts)/\H' d=some (.dK ((rg.parts.take j).foldl zli k0)); zk5 (xs:=rg.parts) Jv2 ⟨_,rfl,s2.trans s3,e3,s3 _ _ e2⟩ ?_ ?_ ?_)⟩⟩
     . rintro j σ H4 hj ⟨v4,rfl,s4,e4,d4⟩;exact SqL.of e4
     . rintro j x σ H4 hx ⟨v4,rfl,s4,e4,d4⟩;have hstep:(rg.parts.take (j+1)).foldl zli k0=zli ((rg.parts.take j).foldl zli k0) x:=by rw[qbg,hx,qba]; rfl
       have np:pl≠d:=λz=>by rw[z,d4] at e4; cases e4
       have lk:((rg.parts.take j).foldl zli k0).length<1000000:=by have l1:=zna (rg.parts.take j) k0;have l2:=zlt ok;rw[qay] at l1;omega
       rcases ok.at_ x (List.mem_of_getElem? hx) with⟨n,rfl,_⟩|⟨z,rfl⟩
       . refine⟨_,rfl,_,"str",_,true,rfl,.str _,rfl,_,rfl,z3i ⟨_,rfl,_,rfl,d,_,rfl,zn9.k (k:=(Sum.inr n:Key)) d4 (zbg lk),_,rfl,s4.upd hd,by rw[zag np]; exact e4,?_⟩⟩;rw[zab,hstep];rfl
       . refine⟨_,rfl,_,"str",_,false,rfl,.int _,rfl,_,rfl,z3h ⟨_,rfl,s4,e4,?_⟩⟩;rw[hstep];exact d4
     . rintro σ H4 ⟨v4,rfl,s4,e4,d4⟩;refine⟨_,_,rfl,s4,?_⟩;rw[d4,qbh (qae _),qbg,hrg,qba,hke];rfl
   . rintro σ H2 ⟨v3,v4,rfl,s2,e2⟩;rw[List.length_map,hln,qbh (qae _)] at e2;have hpr:=hF.at_.pr;have hk0:=zmq rgs [] hF.ok;have hbg:z3g rgs F.ps vals=(F.ps.zip vals).foldl (λd p=>zbx d (Sum.inr p.1:Key) p.2) (rgs.foldl (λd rg=>(RG.parts rg).foldl zli d) []):=rfl;generalize rgs.foldl (λd rg=>(RG.parts rg).foldl zli d) []=k0 at e2 hk0 hbg;simp only[qb7] at hk0;have hpl:=hF.pl;refine⟨_,rfl,F.fa,_,_,_,rfl,rfl,s2.tup hfn,rfl,_,rfl,F.pa,ar,rfl,⟨_,s2.tup hpr⟩,⟨_,s2.seq har⟩,(let Jv3:Nat->St->Hp->Prop:=λi σ H'=>∃v5 v6:Option V,σ=[some (.ref F.fa),some (.ref ar),some (.ref d),v3,v4,v5,v6]/\zaj H H'/\H' d=some (.dK (((F.ps.zip vals).take i).foldl (λd p=>zbx d (Sum.inr p.1:Key) p.2) k0)); zx9 (b1:=true) (b2:=false) (xs:=F.ps.map V.str) (ys:=vals) Jv3 ⟨_,_,rfl,s2,e2⟩ ?_ ?_ ?_)⟩
     . rintro i σ H' hi ⟨v5,v6,rfl,s5,e5⟩;exact⟨s5.tup hpr,s5.seq har⟩
     . rintro i x y σ H' b hx hy ⟨v5,v6,rfl,s5,e5⟩ hb;obtain⟨n,hn,hnm,rfl⟩:=ziy hx;have s6:=zaj.new (o:=.tup [.str n,y]) hb;have lz:(((F.ps.zip vals).take i).foldl (λd p=>zbx d (Sum.inr p.1:Key) p.2) k0).length<1000000:=by refine qbw (zgf (λp:Str×V=>((Sum.inr p.1:Key),p.2)) ((F.ps.zip vals).take i) k0) ?_;rw[qay,qcf];omega
       refine⟨b,_,rfl,SqT.of zab,rfl,_,_,rfl,_,_,rfl,rfl,_,rfl,_,rfl,_,rfl,d,_,rfl,zn9.k (k:=(Sum.inr n:Key)) (s6 _ _ e5) (zbg lz),_,_,rfl,(s5.trans s6).upd hd,?_⟩;have hz:(F.ps.zip vals)[i]?=some (n,y):=qb6.mpr ⟨hn,hy⟩;rw[zab,qbg,qba,hz];rfl
     . rintro σ H' ⟨v5,v6,rfl,s5,e5⟩;rw[qbh (by rw[qcf,List.length_map]; exact qae _),<- hbg] at e5;refine⟨_,rfl,_,rfl,le3,λl hl=>q l d _ _ (s5.free hl) hd (λz=>by rw[z,e5] at hl; cases hl) (s5.trans (zaj.new hl)) zab (zaj.new hl _ _ e5) (zqq hF hvi hlen)⟩
theorem zvk:FnScope ["_law_atom_here","_law_now"] ["_law_atom_here","_law_now"] (zai zk2):=by walk_at "s"
theorem zoq (T:Txt K mg t):FnOk P w K mg base CX0 1 t.zry t.zr5 ["_law_atom_here","_law_now"] (zu6 K):=by
 refine T.zi9.F.ok zvk (λvs H Q E h=>?_) (λcdv A outer s H vs Q E hr h=>?_)
 . obtain⟨v,y,d,kvs,rfl,hd,hv,q⟩:=h;rfl
 . obtain⟨v,y,d,kvs,rfl,hd,hv,q⟩:=h;refine⟨_,(@zac _ _ _ _ _ (@zbd _ _ _ _ _ _ _ _ (zf9 (zbm zd7 (by rfl) T.b_isinstance zbe (@zaa _ _ _ _ _ (pv 0) (@zaa _ _ _ _ _ (zhy (v:=V.ty "str") rfl T.b_str zju rfl) zaf (by rfl)) (by rfl)))) (@zah _ _ _ (@zas _ _ _ _ (ze1 (u1' hr.units) (pv 1) (pv 0) (λ_ _=>rfl)))) zan) (@zah _ _ _ (@zas _ _ _ _ (pv 0)))),?_⟩;cases v with
   | str n=>exact⟨_,rfl,_,"str",_,true,rfl,.str _,rfl,_,rfl,z3i ⟨_,rfl,_,rfl,d,_,rfl,zlk hd hv,q⟩⟩
   | int i =>
     cases hv;exact⟨_,rfl,_,"str",_,false,rfl,.int _,rfl,_,rfl,z3h ⟨_,rfl,q⟩⟩
   | _=>cases hv
theorem zez:FnScope ["_law_stack","_law_program_here","_law_function","_law_at","_law_now","_law_row_here","_law_other","_law_ahead"] ["_law_stack","_law_program_here"] (zai zei):=by walk_at "s"
theorem zu4 (T:Txt K mg t):FnOk P w K mg base CX0 3 t.zny t.zr1 ["_law_stack","_law_program_here"] (zu5 K):=by
 have G_l_worth:=zoq (P:=P) (w:=w) (base:=base) T;have G_l_frame:=zow (P:=P) (w:=w) (base:=base) T;refine T.zyl.F.ok zez (λvs H Q E h=>?_) (λcdv A outer s H vs Q E hr h=>?_)
 . obtain⟨sk,pl,ls0,x,rgs,rg,ps,ns,ar,rfl,st,P,hpl,nd,hF,hrg,hk,hls,q⟩:=h;rfl
 . skip
   refine(let XX:Cx:=(zkk CX0 P w K mg base ["_law_stack","_law_program_here","_law_function","_law_at","_law_now","_law_row_here","_law_other","_law_ahead"] "_law_moved" (zai zei) t.zny cdv A outer s H E).nox; ?_);refine(let W5:TS:=_; have hW5:PSs XX ((zaw zei).drop 5) W5:=(@zac _ _ _ _ _ (@zbd _ _ _ _ _ _ _ _ (@zar _ _ _ _ _ _ _ _ zcp (@zal _ _ _ _ _ _ _ zaq (pv 5) zad (λ_ _=>rfl)) zaz (zax _)) (@zah _ _ _ (@zas _ _ _ _ (@zcc _ _ _ _ _ (@zaa _ _ _ _ _ zaz (@zaa _ _ _ _ _ (zbv T.zi9 G_l_worth (hr.mono (by decide)) (@zaa _ _ _ _ _ (@zal _ _ _ _ _ _ _ zaq (pv 5) zad (λ_ _=>rfl)) (@zaa _ _ _ _ _ (pv 4) zaf (by rfl)) (by rfl))) zaf (by rfl)) (by rfl))))) zan) (@zac _ _ _ _ _ (@zbd _ _ _ _ _ _ _ _ (@zar _ _ _ _ _ _ _ _ zcp (@zal _ _ _ _ _ _ _ zaq (pv 5) zad (λ_ _=>rfl)) zaz (zax _)) (@zah _ _ _ (zdj (u1' hr.units) (pv 4) (@zal _ _ _ _ _ _ _ zaq (pv 5) zad (λ_ _=>rfl)) (zbv T.zi9 G_l_worth (hr.mono (by decide)) (@zaa _ _ _ _ _ (@zal _ _ _ _ _ _ _ zaq (pv 5) zad (λ_ _=>rfl)) (@zaa _ _ _ _ _ (pv 4) zaf (by rfl)) (by rfl))) (by rfl))) zan) (@zac _ _ _ _ _ (@zbd _ _ _ _ _ _ _ _ (@zar _ _ _ _ _ _ _ _ zcp (@zal _ _ _ _ _ _ _ zaq (pv 5) zad (λ_ _=>rfl)) zaz (zax _)) (@zah _ _ _ (zdj (u1' hr.units) (pv 4) (@zal _ _ _ _ _ _ _ zaq (pv 5) zad (λ_ _=>rfl)) (@zao _ _ _ _ _ _ _ _ za5 (@zao _ _ _ _ _ _ _ _ zcv (zbv T.zi9 G_l_worth (hr.mono (by decide)) (@zaa _ _ _ _ _ (@zal _ _ _ _ _ _ _ zaq (pv 5) zad (λ_ _=>rfl)) (@zaa _ _ _ _ _ (pv 4) zaf (by rfl)) (by rfl))) (zbv T.zi9 G_l_worth (hr.mono (by decide)) (@zaa _ _ _ _ _ (@zal _ _ _ _ _ _ _ zaq (pv 5) zad (λ_ _=>rfl)) (@zaa _ _ _ _ _ (pv 4) zaf (by rfl)) (by rfl)))) (@zao _ _ _ _ _ _ _ _ zrl zad zad)) (by rfl))) zan) (@zah _ _ _ (@zas _ _ _ _ zhc))))); ?_);refine(let W4:TS:=_; have hW4:PSs XX ((zaw zei).drop 4) W4:=(@zac _ _ _ _ _ (zly (@zao _ _ _ _ _ _ _ _ zcv (pv 3) zad) (zns (@zal _ _ _ _ _ _ _ zap (pv 0) (ziq zfd zad) (λ_ _=>rfl)) zad zhs)) hW5); ?_);refine(let W3:TS:=_; have hW3:PSs XX ((zaw zei).drop 3) W3:=(@zac _ _ _ _ _ (@zbd _ _ _ _ _ _ _ _ (@zar _ _ _ _ _ _ _ _ zcp (@zal _ _ _ _ _ _ _ zaq (pv 5) zad (λ_ _=>rfl)) zaz (zax _)) (@zac _ _ _ _ _ (@zbp _ _ _ _ (zv8 qat qc7 qc8 zwt (pv 0)) (by rfl)) (@zac _ _ _ _ _ (@zbd _ _ _ _ _ _ _ _ (@zar _ _ _ _ _ _ _ _ z26 (zbm zcb (by rfl) T.b_len zjs (@zaa _ _ _ _ _ (pv 0) zaf (by rfl))) zad (zax _)) (@zac _ _ _ _ _ (@zay _ _ 7 _ _ _ _ zez.nd rfl (Or.inl rfl) (@zal _ _ _ _ _ _ _ zap (pv 0) (ziq zfd zad) (λ_ _=>rfl)) (by rfl) (by first|exact .inl rfl|exact .inr rfl|assumption)) (@zac _ _ _ _ _ (zdj (u1' hr.units) (@zal _ _ _ _ _ _ _ zap (pv 7) zad (λ_ _=>rfl)) (@zal _ _ _ _ _ _ _ zaq (@zal _ _ _ _ _ _ _ zaq (@zal _ _ _ _ _ _ _ zaq (@zal _ _ _ _ _ _ _ zap (pv 7) zad (λ_ _=>rfl)) zad (λ_ _=>rfl)) (@zal _ _ _ _ _ _ _ zap (pv 7) zad (λ_ _=>rfl)) (λ_ _=>rfl)) zad (λ_ _=>rfl)) (zbv T.zi9 G_l_worth (hr.mono (by decide)) (@zaa _ _ _ _ _ (@zal _ _ _ _ _ _ _ zaq (pv 5) zad (λ_ _=>rfl)) (@zaa _ _ _ _ _ (pv 4) zaf (by rfl)) (by rfl))) (by rfl)) (@zah _ _ _ (zly (@zao _ _ _ _ _ _ _ _ zcv (@zal _ _ _ _ _ _ _ zap (pv 7) zad (λ_ _=>rfl)) zad) (zns (pv 7) zad zhs))))) zan) (@zah _ _ _ (@zas _ _ _ _ zhc)))) zan) hW4); ?_);refine(let W2:TS:=_; have hW2:PSs XX ((zaw zei).drop 2) W2:=(@zac _ _ _ _ _ (@zbd _ _ _ _ _ _ _ _ (@zar _ _ _ _ _ _ _ _ zcp (@zal _ _ _ _ _ _ _ zaq (pv 5) zad (λ_ _=>rfl)) zaz (zax _)) (@zac _ _ _ _ _ (zea PassesOwn.never rfl (zgc (pv 1)) (za0 (i:=6) zez.nd rfl (Or.inl rfl)) (@zah _ _ _ (@zbd _ _ _ _ _ _ _ _ (@zar _ _ _ _ _ _ _ _ zcp (@zal _ _ _ _ _ _ _ zaq (pv 6) zad (λ_ _=>rfl)) (@zal _ _ _ _ _ _ _ zaq (pv 5) zad (λ_ _=>rfl)) (zax _)) (@zah _ _ _ (@zbp _ _ _ _ (zhm qat qaz qa0 zb0 (pv 0) (@zaa _ _ _ _ _ (zbv T.zth G_l_frame (hr.mono (by decide)) (@zaa _ _ _ _ _ (pv 6) (@zaa _ _ _ _ _ (zh0 (N':=["_law_atom_here","_law_now"]) (js:=[none,some 4]) (by kernel_rfl) rfl (zqy (@zal _ _ _ _ _ _ _ zaq (pv 5) zad (λ_ _=>rfl))) zdz (λ_ _ _ _=>(za0 (i:=0) (show(["_law_atom_here","_law_now"]:List Str).Nodup by decide +kernel) rfl (Or.inl rfl) (.inr rfl))) (λ_ _ _ _=>zfm) (λ_ _ _ _=>(zbv T.zi9 G_l_worth (hr.mono (by decide)) (@zaa _ _ _ _ _ (pv 0) (@zaa _ _ _ _ _ (pv 1) zaf (by rfl)) (by rfl))))) zaf (by rfl)) (by rfl))) zaf (by rfl))) (by rfl))) zan))) (@zah _ _ _ (@zas _ _ _ _ zhc))) zan) hW3); ?_);obtain⟨sk,pl,ls0,x,rgs,rg,ps,ns,ar,rfl,st,P,hpl,nd,hF,hrg,hk,hls,q⟩:=h;refine⟨_,(@zac _ _ _ _ _ (zly (@zal _ _ _ _ _ _ _ zap (pv 0) (ziq zfd zad) (λ_ _=>rfl)) (z35 rfl (zb8 (za0 (i:=2) zez.nd rfl (Or.inl rfl)) (zb8 (za0 (i:=3) zez.nd rfl (Or.inl rfl)) (zb8 (za0 (i:=4) zez.nd rfl (Or.inr rfl)) zh2))))) (@zac _ _ _ _ _ (@zay _ _ 5 _ _ _ _ zez.nd rfl (Or.inl rfl) (@zal _ _ _ _ _ _ _ zaq (@zal _ _ _ _ _ _ _ zaq (pv 2) zad (λ_ _=>rfl)) (pv 3) (λ_ _=>rfl)) (by rfl) (by first|exact .inl rfl|exact .inr rfl|assumption)) hW2)),?_⟩;have hxm:x∈ls0++[x]:=ztu;have fx:=st.fr x hxm;have A:=z3a (sk:=sk) (ls0:=ls0) (x:=x);have dl:x.d≠x.l:=λz=>by have:=fx.2; rw[z,fx.1] at this; cases this
   have sd:sk≠x.d:=λz=>by have:=fx.2; rw[<- z,st.e] at this; cases this
   obtain⟨r,hr⟩:∃r,x.F.rs[x.at_]?=some r:=⟨_,List.getElem?_eq_getElem (by rw[hF.len]; exact(List.getElem?_eq_some_iff.mp hrg).1)⟩
   have hq:=hF.row _ _ _ hr hrg;have hat:atI (x.F.rs.map λw=>V.ref w.r) (x.at_:Int)=some (.ref r.r):=zc7 (by rw[List.getElem?_map,hr]; rfl);have fin:∀(ks:List (Key×V)),Stk (upd (upd H x.l (.lst [V.ref x.F.fa,V.int (x.at_+1),V.ref x.d])) x.d (.dK ks)) sk (ls0++[{ x with kvs:=ks,at_:=x.at_+1 }]):=λks=>by have:=st.set (i:=ls0.length) (kvs:=ks) (n:=x.at_+1) (zdr _ _);rw[zxf] at this;rw[zyu dl.symm];exact this
   refine⟨_,rfl,_,rfl,sk,_,_,_,rfl,rfl,SqL.of st.e,zhq _ _,x.l,_,rfl,SqL.of fx.1,rfl,_,_,rfl,_,_,rfl,_,_,rfl,rfl,?_⟩;refine⟨_,rfl,x.F.fa,_,_,_,rfl,rfl,hF.at_.fn,rfl,_,rfl,x.F.ra,_,_,_,rfl,rfl,hF.at_.rw_,hat,?_⟩;have sl1:zaj (erO (adL sk (ls0++[x])) H) (upd H x.l (.lst [V.ref x.F.fa,V.int (x.at_+1),V.ref x.d])):=zi1 zjk A.2.1;have d1:upd H x.l (.lst [V.ref x.F.fa,V.int (x.at_+1),V.ref x.d]) x.d=some (.dK x.kvs):=(zag dl).trans fx.2;have hq1:=zl1 st sl1 hq.it;cases rg with
   | out a =>
     obtain⟨v,hv,q⟩:=q;refine⟨_,rfl,r.r,_,_,_,rfl,rfl,hq.it,at0,rfl,_,rfl,iN ⟨_,rfl,r.r,_,_,_,rfl,rfl,hq.it,at0,rfl,_,rfl,iN ?_⟩⟩;refine⟨_,rfl,_,_,rfl,rfl,_,rfl,_,rfl,sk,_,_,_,rfl,rfl,SqL.of st.e,zhq _ _,x.l,_,1,1,rfl,rfl,fx.1,rfl,?_⟩;refine⟨_,rfl,r.r,_,_,_,rfl,rfl,hq1,at0,rfl,_,rfl,iP ⟨_,rfl,r.r,_,_,_,rfl,rfl,hq1,rfl,_,rfl,a,_,x.d,x.kvs,rfl,d1,hv,le2,λtp htp=>?_⟩⟩;have st1:=fin x.kvs;rw[z49 d1] at st1;exact q _ tp (sl1.trans (zaj.new htp)) (by rw[zag (λz=>by rw[z,zab] at htp; cases htp)] at htp;exact htp) zab (st1.mono (zaj.new htp))
   | copy y a =>
     obtain⟨v,hv,q⟩:=q;refine⟨_,rfl,r.r,_,_,_,rfl,rfl,hq.it,at0,rfl,_,rfl,iN ⟨_,rfl,r.r,_,_,_,rfl,rfl,hq.it,at0,rfl,_,rfl,iN ?_⟩⟩;refine⟨_,rfl,_,_,rfl,rfl,_,rfl,_,rfl,sk,_,_,_,rfl,rfl,SqL.of st.e,zhq _ _,x.l,_,1,1,rfl,rfl,fx.1,rfl,?_⟩;refine⟨_,rfl,r.r,_,_,_,rfl,rfl,hq1,at0,rfl,_,rfl,iN ⟨_,rfl,r.r,_,_,_,rfl,rfl,hq1,at0,rfl,_,rfl,iP ⟨_,rfl,r.r,_,_,_,rfl,rfl,hq1,rfl,_,rfl,a,_,x.d,x.kvs,rfl,d1,hv,_,rfl,_,rfl,r.r,_,_,_,rfl,rfl,hq1,rfl,x.d,_,rfl,zn9.k (k:=(Sum.inr y:Key)) d1 (zbg (by omega)),?_⟩⟩⟩;have s2:=zi1 (o:=.dK (zbx x.kvs (Sum.inr y:Key) (.int v))) sl1 A.2.2;exact⟨_,rfl,r.r,_,_,_,rfl,rfl,(zl1 st s2 hq.it),at0,rfl,_,rfl,iN (q _ s2 (fin _))⟩
   | op y s a b =>
     obtain⟨i,j,ea,eb,rfl,q⟩:=q;refine⟨_,rfl,r.r,_,_,_,rfl,rfl,hq.it,at0,rfl,_,rfl,iN ⟨_,rfl,r.r,_,_,_,rfl,rfl,hq.it,at0,rfl,_,rfl,iN ?_⟩⟩;refine⟨_,rfl,_,_,rfl,rfl,_,rfl,_,rfl,sk,_,_,_,rfl,rfl,SqL.of st.e,zhq _ _,x.l,_,1,1,rfl,rfl,fx.1,rfl,?_⟩;refine⟨_,rfl,r.r,_,_,_,rfl,rfl,hq1,at0,rfl,_,rfl,iN ⟨_,rfl,r.r,_,_,_,rfl,rfl,hq1,at0,rfl,_,rfl,iN ⟨_,rfl,r.r,_,_,_,rfl,rfl,hq1,at0,rfl,_,rfl,iP ?_⟩⟩⟩;refine⟨_,rfl,r.r,_,_,_,rfl,rfl,hq1,rfl,_,rfl,a,_,x.d,x.kvs,rfl,d1,ea,_,rfl,r.r,_,_,_,rfl,rfl,hq1,rfl,_,rfl,b,_,x.d,x.kvs,rfl,d1,eb,_,_,rfl,rfl,_,_,rfl,rfl,⟨by decide,by decide,by decide⟩,_,_,rfl,rfl,(show(0:Int)<2 ^ Int.toNat 48 by decide),_,rfl,_,rfl,r.r,_,_,_,rfl,rfl,hq1,rfl,x.d,_,rfl,zn9.k (k:=(Sum.inr y:Key)) d1 (zbg (by omega)),?_⟩;exact q _ (zi1 sl1 A.2.2) (fin _)
   | call y g p as =>
     obtain⟨j,F,r0,vals,hj,hg,hl,hv,hvi,h10,hFl,q⟩:=q;subst hg;have hp:=hq.ar _ _ _ _ rfl;have jlt:=(List.getElem?_eq_some_iff.mp hj).1;have nj:=(P.ok j _ hj).nm;have pA:∀H',zaj (erO (adL sk (ls0++[x])) H) H'->SqL K H' pl (fas ps):=λH' s=>SqL.of (s _ _ (by rw[zl5 hpl]; exact P.e));refine⟨_,rfl,r.r,_,_,_,rfl,rfl,hq.it,at0,rfl,_,rfl,iP ⟨_,rfl,pl,rfl,⟨_,SqL.of P.e⟩,zk5 (xs:=fas ps) (λi σ H'=>∃v6:Option V,σ=[some (.ref sk),some (.ref pl),some (.ref x.F.fa),some (.int x.at_),some (.ref x.d),some (.ref r.r),v6,none]/\zaj (erO (adL sk (ls0++[x])) H) H'/\(i<=j->zaj H H')/\(j<i->∃x':Lf,x'.F=F/\x'.at_=0/\Alk F (zj7 F vals) x'.kvs/\H x'.l=none/\H x'.d=none/\Stk H' sk (ls0++[x]++[x']))) ⟨_,rfl,zjk,λ_=>zaj.refl _,λz=>by omega⟩ ?_ ?_ ?_⟩⟩
     . rintro i σ H' hi ⟨v6,rfl,sE,_⟩;exact pA H' sE
     . rintro i z σ H' hz ⟨v6,rfl,sE,s1,s2⟩;obtain⟨p0,hp0,_,rfl⟩:=ziy hz;have pk:=P.ok i p0 hp0;have hqE:=zl1 st sE hq.it;refine⟨_,rfl,p0.1.fa,_,_,_,rfl,rfl,zl1 st sE pk.fg.at_.fn,at0,_,rfl,r.r,_,_,_,rfl,rfl,hqE,rfl,rfl,_,rfl,?_⟩;by_cases hij:i=j
       . subst hij;rw[hj] at hp0;cases hp0;have sH:=s1 (qae _);have fx1:=sH _ _ fx.2;have hp1:=sH.tup hp;refine zhl (by simp) ⟨_,rfl,.inl ⟨rfl,_,SqL.of (sH _ _ st.e)⟩,_,rfl,_,rfl,r.r,_,_,_,rfl,rfl,hqE,rfl,p,rfl,⟨_,hp1⟩,λu hu=>zrh (K:=K) (λi _ y=>∃a,as[i]?=some a/\av x.kvs a=some y) (λ_ _ _ _ _ z=>z) (xs:=as) (by omega) hp1 hu ?_ ?_⟩
         . rintro i z H2 R' hz s2 ⟨acc,ha⟩ r2;have hi:i<vals.length:=by rw[<- hl]; exact(List.getElem?_eq_some_iff.mp hz).1
           have hvi:=hv i z _ hz (List.getElem?_eq_getElem hi);exact⟨_,rfl,_,rfl,z,_,x.d,x.kvs,rfl,s2 _ _ fx1,hvi,r2 _ H2 (zaj.refl _) ⟨z,hz,hvi⟩⟩
         . intro H3 ys s3 e3 ly ty;have ey:ys=vals:=by
             refine qcj λi=>?_;cases e:ys[i]? with
             | none=>rw[qbb (by have:=qb5.mp e; omega)]
             | some y =>
               obtain⟨a,h1,h2⟩:=ty i y e;have hi:i<vals.length:=by rw[<- hl]; exact(List.getElem?_eq_some_iff.mp h1).1
               have:=hv i a _ h1 (List.getElem?_eq_getElem hi);rw[h2] at this;rw[List.getElem?_eq_getElem hi,this]
           subst ey;have sH3:=sH.trans s3;refine⟨F,r0,u,ys,rfl,pk.fg.mono sH3,SqL.of e3,hFl,hvi,λl d H4 kvs hl4 hd4 hne s4 e4 e5 al=>?_⟩;have s34:=sH3.trans s4;let X':Lf:={ l:=l,d:=d,F:=F,at_:=0,kvs:=kvs }
           have st4:=st.push (x:=X') s34 (sH3.free hl4) (sH3.free hd4) e4 e5;refine⟨sk,_,_,rfl,rfl,s34 _ _ st.e,zbg (by rw[List.length_map,List.length_append,qa1]; omega),?_⟩;rw[show(((ls0++[x]).map λx:Lf=>V.ref x.l)++[V.ref l])=((ls0++[x]++[X']).map λx:Lf=>V.ref x.l) by rw[List.map_append (l₁:=ls0++[x])]; rfl];exact⟨_,rfl,zi1 (zjk.trans s34) A.1,(λz=>by omega),λ_=>⟨X',rfl,rfl,al,sH3.free hl4,sH3.free hd4,st4⟩⟩
       . refine zf7 (λz=>hij ?_) ⟨_,rfl,sE,λz=>s1 (by omega),λz=>s2 (by omega)⟩;have e:p0.1.name=F.name:=V.str.inj (of_decide_eq_true z);have ni:=pk.nm;rw[e] at ni;have:=(qb9 (List.getElem?_eq_some_iff.mp ni).1 nd).mp (ni.trans nj.symm);omega
     . rintro σ H' ⟨v6,rfl,sE,_,s2⟩;obtain⟨x',h1,h2,h3,h4,h5,h6⟩:=s2 (by rw[List.length_map]; exact jlt);exact q H' x' sE h1 h2 h3 h4 h5 h6
   | back a =>
     obtain⟨v,hv,qe,qc⟩:=q;refine⟨_,rfl,r.r,_,_,_,rfl,rfl,hq.it,at0,rfl,_,rfl,iN ⟨_,rfl,r.r,_,_,_,rfl,rfl,hq.it,at0,rfl,_,rfl,iP ⟨_,rfl,.inl ⟨rfl,_,SqL.of st.e⟩,sk,_,V.ref x.l,rfl,rfl,st.e,(by simp),?_⟩⟩⟩;rw[show((ls0++[x]).map λx:Lf=>V.ref x.l).dropLast=ls0.map λx:Lf=>V.ref x.l by rw[List.map_append]; exact List.dropLast_concat];have st1:=Stk.pop st;have s1:zaj (erO (adL sk (ls0++[x])) H) (upd H sk (.lst (ls0.map λx:Lf=>V.ref x.l))):=zi1 zjk A.1;have xd:upd H sk (.lst (ls0.map λx:Lf=>V.ref x.l)) x.d=some (.dK x.kvs):=(zag sd.symm).trans fx.2;generalize upd H sk (.lst (ls0.map λx:Lf=>V.ref x.l))=H1 at st1 s1 xd ⊢;have hls0:ls0=[]\/∃ls1 y,ls0=ls1++[y]:=by
       rcases qbj ls0 with h|⟨ls1,y,h⟩
       . exact .inl h
       . rw[qbk] at h; exact .inr ⟨ls1,y,h⟩
     rcases hls0 with rfl|⟨ls1,y,rfl⟩
     . exact⟨_,rfl,sk,_,rfl,.inl (SqL.of st1.e),_,_,rfl,rfl,_,rfl,jN (qe rfl _ s1 st1)⟩
     . obtain⟨hyk,rgsy,zn,g,pa,as,fgy,hry,qc⟩:=qc ls1 y rfl;have hym:y∈ls1++[y]:=ztu;have fy:=st1.fr y hym;have Ay:=zln (sk:=sk) (ls:=ls1++[y]++[x]) (x:=y) (qbe _ hym);have dly:y.d≠y.l:=λz=>by have:=fy.2; rw[z,fy.1] at this; cases this
       obtain⟨ry,hrey⟩:∃ry,y.F.rs[y.at_]?=some ry:=⟨_,List.getElem?_eq_getElem (by rw[fgy.len]; exact(List.getElem?_eq_some_iff.mp hry).1)⟩
       have haty:atI (y.F.rs.map λw=>V.ref w.r) (y.at_:Int)=some (.ref ry.r):=zc7 (by rw[List.getElem?_map,hrey]; rfl);have hqy:=fgy.row _ _ _ hrey hry;refine⟨_,rfl,sk,_,rfl,.inl (SqL.of st1.e),_,_,rfl,rfl,_,rfl,zhl (by rw[List.length_map,List.length_append,qa1,decide_eq_true_eq]; omega) ?_⟩;refine⟨_,rfl,_,rfl,sk,_,_,_,rfl,rfl,SqL.of st1.e,zhq _ _,?_⟩;refine⟨_,rfl,r.r,_,_,_,rfl,rfl,(zl1 st s1 hq.it),rfl,_,rfl,a,_,x.d,x.kvs,rfl,xd,hv,_,rfl,y.l,_,_,_,rfl,rfl,SqL.of fy.1,rfl,_,rfl,y.l,_,_,_,rfl,rfl,SqL.of fy.1,at0,y.F.fa,_,_,_,rfl,rfl,zl1 st s1 fgy.at_.fn,rfl,_,rfl,y.l,_,_,_,rfl,rfl,SqL.of fy.1,rfl,y.F.ra,_,_,_,rfl,rfl,zl1 st s1 fgy.at_.rw_,haty,ry.r,_,_,_,rfl,rfl,zl1 st s1 hqy.it,rfl,y.d,_,rfl,zn9.k (k:=(Sum.inr zn:Key)) fy.2 (zbg (by omega)),?_⟩;have st3:=st1.set (i:=ls1.length) (kvs:=zbx y.kvs (Sum.inr zn:Key) (.int v)) (n:=y.at_+1) (zdr _ _);rw[zxf] at st3;exact⟨_,rfl,y.l,_,_,_,rfl,rfl,SqL.of ((zag dly.symm).trans fy.1),rfl,_,_,rfl,rfl,_,rfl,y.l,_,1,1,rfl,rfl,(zag dly.symm).trans fy.1,rfl,qc _ (zi1 (zi1 s1 Ay.2) Ay.1) st3⟩
   | _=>exact q.elim
theorem zvo:FnScope ["_law_found"] ["_law_found"] (zai zkv):=by walk_at "s"
theorem zos (T:Txt K mg t):FnOk P w K mg base CX0 1 t.zrx t.zr4 ["_law_found"] (zve K):=by
 refine T.zp5.F.ok zvo (λvs H Q E h=>?_) (λcdv A outer s H vs Q E hr h=>?_)
 . obtain⟨z,rfl,q⟩:=h;rfl
 . obtain⟨z,rfl,q⟩:=h;refine⟨_,(@zac _ _ _ _ _ (@zas _ _ _ _ (zv2 (zbm zd7 (by rfl) T.b_isinstance zbe (@zaa _ _ _ _ _ (pv 0) (@zaa _ _ _ _ _ (zhy (v:=V.ty "int") rfl T.b_int zl3 rfl) zaf (by rfl)) (by rfl))) (zt5 (z3u (zbm zd7 (by rfl) T.b_isinstance zbe (@zaa _ _ _ _ _ (pv 0) (@zaa _ _ _ _ _ (zhy (v:=V.ty "bool") rfl T.b_bool z19 rfl) zaf (by rfl)) (by rfl))))))) zan),?_⟩;exact⟨_,rfl,_,_,_,true,rfl,.int _,rfl,_,rfl,zhl rfl ⟨_,rfl,_,_,_,false,rfl,.int _,rfl,_,rfl,q⟩⟩
theorem zgu:FnScope ["_law_walker","_law_level","_law_name","_law_word","e"] ["_law_walker","_law_level","_law_name"] (zai zhw):=by walk_at "s"
theorem zma (T:Txt K mg t):FnOk P w K mg base CX0 6 t.zn0 t.zn6 ["_law_walker","_law_level","_law_name"] (zrf K t):=by
 have G_Walker_told:=zg2 (P:=P) (w:=w) (base:=base) T;refine T.zlh.F.ok zgu (λvs H Q E h=>?_) (λcdv A outer s H vs Q E hr h=>?_)
 . obtain⟨Hb,w,fs,oc,sent,cn,z,n,fns,rfl,h,hFl,hall,hno,q⟩:=h;rfl
 . obtain⟨Hb,w,fs,oc,sent,cn,z,n,fns,rfl,h,hFl,hall,hno,q⟩:=h;refine⟨_,(@zac _ _ _ _ _ (@zay _ _ 3 _ _ _ _ zgu.nd rfl (Or.inl rfl) zaz (by rfl) (by first|exact .inl rfl|exact .inr rfl|assumption)) (@zac _ _ _ _ _ (z09 (j:=4) zgu.nd rfl rfl T.zeh rfl rfl (ztq (z1p (pv 0) T.zae.cl T.zcl.m G_Walker_told (hr.mono (by decide)) T.zcl.b (@zaa _ _ _ _ _ (pv 1) (@zaa _ _ _ _ _ (pv 2) zaf (by rfl)) (by rfl)))) (λ_=>(@zah _ _ _ (@zay _ _ 3 _ _ _ _ zgu.nd rfl (Or.inl rfl) (@zao _ _ _ _ _ _ _ _ ze3 (@zao _ _ _ _ _ _ _ _ ze3 (za6 zed (by rfl) T.b_str zju (@zaa _ _ _ _ _ (za6 zgb (by rfl) T.b_int zl3 (@zaa _ _ _ _ _ (zbm (show zha _ (.builtin "isinstance") (z1m K mg) from zji) (by rfl) T.b_isinstance zbe (@zaa _ _ _ _ _ (pv 4) (@zaa _ _ _ _ _ (zhb T.zby.g) zaf (by rfl)) (by rfl))) zaf (by rfl))) zaf (by rfl))) (za6 zed (by rfl) T.b_str zju (@zaa _ _ _ _ _ (za6 zgb (by rfl) T.b_int zl3 (@zaa _ _ _ _ _ (zbm (show zha _ (.builtin "isinstance") (z1m K mg) from zji) (by rfl) T.b_isinstance zbe (@zaa _ _ _ _ _ (pv 4) (@zaa _ _ _ _ _ (zhb T.zdl.g) zaf (by rfl)) (by rfl))) zaf (by rfl))) zaf (by rfl)))) (za6 zed (by rfl) T.b_str zju (@zaa _ _ _ _ _ (za6 zgb (by rfl) T.b_int zl3 (@zaa _ _ _ _ _ (zbm (show zha _ (.builtin "isinstance") (z1m K mg) from zji) (by rfl) T.b_isinstance zbe (@zaa _ _ _ _ _ (pv 4) (@zaa _ _ _ _ _ (zhy (v:=V.ty "ValueError") rfl T.b_ValueError zky rfl) zaf (by rfl)) (by rfl))) zaf (by rfl))) zaf (by rfl)))) (by rfl) (by first|exact .inl rfl|exact .inr rfl|assumption))))) (@zah _ _ _ (@zas _ _ _ _ (zg7 zcp (pv 3) zaz (zax _)))))),?_⟩;refine⟨_,rfl,w.a,_,_,rfl,h.o,rfl,_,rfl,_,rfl,Hb,w,fs,oc,sent,cn,z,n,fns,rfl,h,hFl,hall,λhT=>absurd hT hno,λ_ H1 s1=>?_⟩;refine⟨t.zby,_,rfl,T.zby,T.e_NoName,λea hea=>?_⟩;generalize e:upd H1 ea _=H2;have ⟨s2,hX⟩:=nw e hea;exact⟨_,rfl,ea,_,_,_,_,_,_,rfl,hX,(λdx z=>by cases z),T.zby,rfl,T.k_NoName_NoName,.inr ⟨_,rfl,_,rfl,by decide,_,rfl,ea,_,_,_,_,_,_,rfl,hX,(λdx z=>by cases z),T.zby,rfl,T.k_NoName_Ended,.inr ⟨_,rfl,_,rfl,by decide,_,_,rfl,rfl,(by decide +kernel),_,rfl,ea,_,_,_,_,_,_,rfl,hX,(λdx z=>by cases z),T.zby,rfl,T.v_NoName,.inr ⟨_,rfl,_,rfl,by decide,_,_,rfl,rfl,(by decide +kernel),_,rfl,rfl,vq (by decide +kernel) (q _ (s1.trans s2))⟩⟩⟩⟩
theorem zgs:FnScope ["_law_walker","_law_word","e"] ["_law_walker"] (zai zhu):=by walk_at "s"
theorem zqg (T:Txt K mg t):FnOk P w K mg base CX0 6 t.zn1 t.zn7 ["_law_walker"] (zqm K t):=by
 have G_Walker_step:=zg5 (P:=P) (w:=w) (base:=base) T;refine T.zr6.F.ok zgs (λvs H Q E h=>?_) (λcdv A outer s H vs Q E hr h=>?_)
 . obtain⟨Hb,w,oc,sent,cn,rfl,h,q⟩:=h;rfl
 . obtain⟨Hb,w,oc,sent,cn,rfl,h,q⟩:=h;refine⟨_,(@zac _ _ _ _ _ (@zay _ _ 1 _ _ _ _ zgs.nd rfl (Or.inl rfl) zaz (by rfl) (by first|exact .inl rfl|exact .inr rfl|assumption)) (@zac _ _ _ _ _ (z09 (j:=2) zgs.nd rfl rfl T.zeh rfl rfl (ztq (z0i (pv 0) T.zae.cl T.zd9.m G_Walker_step (hr.mono (by decide)) T.zd9.b)) (λ_=>(@zah _ _ _ (@zay _ _ 1 _ _ _ _ zgs.nd rfl (Or.inl rfl) (@zao _ _ _ _ _ _ _ _ ze3 (@zao _ _ _ _ _ _ _ _ ze3 (za6 zed (by rfl) T.b_str zju (@zaa _ _ _ _ _ (za6 zgb (by rfl) T.b_int zl3 (@zaa _ _ _ _ _ (zbm (show zha _ (.builtin "isinstance") (z1m K mg) from zji) (by rfl) T.b_isinstance zbe (@zaa _ _ _ _ _ (pv 2) (@zaa _ _ _ _ _ (zhb T.zby.g) zaf (by rfl)) (by rfl))) zaf (by rfl))) zaf (by rfl))) (za6 zed (by rfl) T.b_str zju (@zaa _ _ _ _ _ (za6 zgb (by rfl) T.b_int zl3 (@zaa _ _ _ _ _ (zbm (show zha _ (.builtin "isinstance") (z1m K mg) from zji) (by rfl) T.b_isinstance zbe (@zaa _ _ _ _ _ (pv 2) (@zaa _ _ _ _ _ (zhb T.zdl.g) zaf (by rfl)) (by rfl))) zaf (by rfl))) zaf (by rfl)))) (za6 zed (by rfl) T.b_str zju (@zaa _ _ _ _ _ (za6 zgb (by rfl) T.b_int zl3 (@zaa _ _ _ _ _ (zbm (show zha _ (.builtin "isinstance") (z1m K mg) from zji) (by rfl) T.b_isinstance zbe (@zaa _ _ _ _ _ (pv 2) (@zaa _ _ _ _ _ (zhy (v:=V.ty "ValueError") rfl T.b_ValueError zky rfl) zaf (by rfl)) (by rfl))) zaf (by rfl))) zaf (by rfl)))) (by rfl) (by first|exact .inl rfl|exact .inr rfl|assumption))))) (@zah _ _ _ (@zas _ _ _ _ (zg7 zcp (pv 1) zaz (zax _)))))),?_⟩;refine⟨_,rfl,w.a,_,_,rfl,h.o,rfl,w.a,rfl,.inr ⟨Hb,w,oc,sent,cn,rfl,h,λH1 s1=>?_⟩⟩;refine⟨t.zdl,_,rfl,T.zdl,T.e_Ended,λea hea=>?_⟩;generalize e:upd H1 ea _=H2;have ⟨s2,hX⟩:=nw e hea;exact⟨_,rfl,ea,_,_,_,_,_,_,rfl,hX,(λdx z=>by cases z),T.zdl,rfl,T.k_Ended_NoName,.inr ⟨_,rfl,_,rfl,by decide,_,rfl,ea,_,_,_,_,_,_,rfl,hX,(λdx z=>by cases z),T.zdl,rfl,T.k_Ended_Ended,.inr ⟨_,rfl,_,rfl,by decide,_,_,rfl,rfl,(by decide +kernel),_,rfl,ea,_,_,_,_,_,_,rfl,hX,(λdx z=>by cases z),T.zdl,rfl,T.v_Ended,.inr ⟨_,rfl,_,rfl,by decide,_,_,rfl,rfl,(by decide +kernel),_,rfl,rfl,vq (by decide +kernel) (q _ (s1.trans s2))⟩⟩⟩⟩
theorem zd6:FnScope ["_law_walker","_law_stack","_law_names_here","_law_pick","_law_due","_law_found","_law_level","_law_at","_law_name","_law_now"] ["_law_walker","_law_stack","_law_names_here","_law_pick"] (zai zec):=by walk_at "s"
theorem zsj (T:Txt K mg t):FnOk P w K mg base CX0 7 t.zlx t.zo9 ["_law_walker","_law_stack","_law_names_here","_law_pick"] (zs9 K t):=by
 have G_l_whole:=zos (P:=P) (w:=w) (base:=base) T;have G_l_no_name:=zma (P:=P) (w:=w) (base:=base) T;have G_Walker_frames:=zfn (P:=P) (w:=w) (base:=base) T;have G_Walker_ended:=zf8 (P:=P) (w:=w) (base:=base) T;have G_Walker_answer:=zh8 (P:=P) (w:=w) (base:=base) T;have G_Walker_told:=zg2 (P:=P) (w:=w) (base:=base) T;refine T.zuo.F.ok zd6 (λvs H Q E h=>?_) (λcdv A outer s H vs Q E hr h=>?_)
 . obtain⟨RF,H0,Hb,w,fs,fns,sk,nl,sl,ls,sent,sv,ns,z,rfl,S,hne,hnl,h6,hz,q⟩:=h;rfl
 . skip
   refine(let XX:Cx:=(zkk CX0 P w K mg base ["_law_walker","_law_stack","_law_names_here","_law_pick","_law_due","_law_found","_law_level","_law_at","_law_name","_law_now"] "_law_stands" (zai zec) t.zlx cdv A outer s H E).nox; ?_);refine(let W4_1:TS:=_; have hW4_1:PSs XX ((sB ((zaw zec).getD 4 (.Pass ⟨0,0,0,0⟩))).drop 1) W4_1:=(@zah _ _ _ (@zbd _ _ _ _ _ _ _ _ (zoz (zwu (u1' hr.units) (pv 8) (pv 9))) (@zah _ _ _ (@zbd _ _ _ _ _ _ _ _ (zjt (zf9 (zbv T.zlh G_l_no_name (hr.mono (by decide)) (@zaa _ _ _ _ _ (pv 0) (@zaa _ _ _ _ _ (pv 7) (@zaa _ _ _ _ _ (pv 8) zaf (by rfl)) (by rfl)) (by rfl))))) (@zah _ _ _ (@zas _ _ _ _ zj4)) zan)) (@zah _ _ _ (@zbd _ _ _ _ _ _ _ _ (@PW.pt _ _ _ (zob (zjt (zf9 (zbv T.zp5 G_l_whole (hr.mono (by decide)) (@zaa _ _ _ _ _ (zbb (pv 0) T.zae.cl T.zcl.m G_Walker_told (hr.mono (by decide)) T.zcl.b .nil zlq (@zaa _ _ _ _ _ (pv 7) (@zaa _ _ _ _ _ (pv 8) zaf (by rfl)) (by rfl))) zaf (by rfl))))) (zmy (@zar _ _ _ _ _ _ _ _ zwl (zbb (pv 0) T.zae.cl T.zcl.m G_Walker_told (hr.mono (by decide)) T.zcl.b .nil zlq (@zaa _ _ _ _ _ (pv 7) (@zaa _ _ _ _ _ (pv 8) zaf (by rfl)) (by rfl))) (ze1 (u1' hr.units) (pv 9) (pv 8) (λ_ _=>rfl)) (zax _))))) (@zah _ _ _ (@zas _ _ _ _ zj4)) zan)))); ?_);refine(let W3:TS:=_; have hW3:PSs XX ((zaw zec).drop 3) W3:=(@zac _ _ _ _ _ (@zay _ _ 6 _ _ _ _ zd6.nd rfl (Or.inl rfl) (@zao _ _ _ _ _ _ _ _ za5 (pv 3) (zbm zcb (by rfl) T.b_len zjs (@zaa _ _ _ _ _ (pv 1) zaf (by rfl)))) (by rfl) (by first|exact .inl rfl|exact .inr rfl|assumption)) (@zac _ _ _ _ _ (z2f (zea PassesOwn.never rfl (zgc (@zao _ _ _ _ _ _ _ _ z0s (@zc1 _ _ _ _ (@zaa _ _ _ _ _ (@zcc _ _ _ _ _ (@zaa _ _ _ _ _ (pv 6) (@zaa _ _ _ _ _ (@zal _ _ _ _ _ _ _ zap (pv 2) (@zao _ _ _ _ _ _ _ _ za5 (@zao _ _ _ _ _ _ _ _ zc6 (pv 3) zad) zad) (λ_ _=>rfl)) zaf (by rfl)) (by rfl))) zaf (by rfl))) (zh0 (N':=["_law_name","_law_stack"]) (js:=[none,some 1]) (by kernel_rfl) rfl (z6t (@zal _ _ _ _ _ _ _ zap (@zal _ _ _ _ _ _ _ zap (pv 1) (ziq zfd zad) (λ_ _=>rfl)) zad (λ_ _=>rfl))) zdz (λ_ _ _ _=>(za0 (i:=0) (show(["_law_name","_law_stack"]:List Str).Nodup by decide +kernel) rfl (Or.inl rfl) (.inr rfl))) (λ_ _ _ _=>zfm) (λ_ _ _ _=>(@zcc _ _ _ _ _ (@zaa _ _ _ _ _ (@zao _ _ _ _ _ _ _ _ zh6 (zbm (show zha _ (.builtin "len") (z5y K) from zcb) (by rfl) T.b_len zjs (@zaa _ _ _ _ _ (pv 1) zaf (by rfl))) zad) (@zaa _ _ _ _ _ (pv 0) zaf (by rfl)) (by rfl))))))) (zmd rfl (zb8 (za0 (i:=7) zd6.nd rfl (Or.inl rfl)) (zb8 (za0 (i:=8) zd6.nd rfl (Or.inl rfl)) zh2))) (@zac _ _ _ _ _ (@zay _ _ 9 _ _ _ _ zd6.nd rfl (Or.inl rfl) (@zal _ _ _ _ _ _ _ zap (@zal _ _ _ _ _ _ _ zap (pv 1) (pv 7) (λ_ _=>rfl)) zad (λ_ _=>rfl)) (by rfl) (by first|exact .inl rfl|exact .inr rfl|assumption)) hW4_1))) (@zah _ _ _ (@zas _ _ _ _ (zv2 (zg7 z3w (zdb (pv 0) T.zae.cl T.zds.m G_Walker_ended (hr.mono (by decide)) T.zds.b .nil zcq) zj4 (zax _)) (zt5 (z31 (z08 (zdb (pv 0) T.zae.cl T.zb9.m G_Walker_answer (hr.mono (by decide)) T.zb9.b .nil zcq))))))))); ?_);refine(let W2:TS:=_; have hW2:PSs XX ((zaw zec).drop 2) W2:=(@zac _ _ _ _ _ (@zbd _ _ _ _ _ _ _ _ (@PW.pt _ _ _ (zob (zjt (zf9 (zbm zd7 (by rfl) T.b_isinstance zbe (@zaa _ _ _ _ _ (pv 5) (@zaa _ _ _ _ _ (zhy (v:=V.ty "list") rfl T.b_list zj9 rfl) zaf (by rfl)) (by rfl))))) (zob (@zar _ _ _ _ _ _ _ _ (ztm hr.units) (pv 5) (pv 4) (zax _)) (zmy (zjt (zf9 (zbv T.zp5 G_l_whole (hr.mono (by decide)) (@zaa _ _ _ _ _ (@zal _ _ _ _ _ _ _ zaq (@zal _ _ _ _ _ _ _ zap (pv 5) (ziq zfd zad) (λ_ _=>rfl)) zad (λ_ _=>rfl)) zaf (by rfl))))))))) (@zah _ _ _ (@zas _ _ _ _ zj4)) zan) hW3); ?_);obtain⟨RF,H0,Hb,w,fs,fns,sk,nl,sl,ls,sent,sv,ns,z,rfl,S,hne,hnl,h6,hz,q⟩:=h;refine⟨_,(@zac _ _ _ _ _ (zpv (i:=4) zd6.nd rfl (Or.inl rfl) (N':=["_law_frame_here"]) (js:=[none]) (by kernel_rfl) rfl (zgc (pv 1)) zdz (λ_ _ _ _=>(za0 (i:=0) (show(["_law_frame_here"]:List Str).Nodup by decide +kernel) rfl (Or.inl rfl) (.inr rfl))) (λ_ _ _ _=>zfm) (λ_ _ _ _=>(@zcc _ _ _ _ _ (@zaa _ _ _ _ _ (@zal _ _ _ _ _ _ _ (show IxR _ (z4t K) from zaq) (@zal _ _ _ _ _ _ _ (show IxR _ (z5r K) from zap) (pv 0) zad (λ_ _=>rfl)) zad (λ_ _=>rfl)) (@zaa _ _ _ _ _ (@zal _ _ _ _ _ _ _ (show IxR _ (z5r K) from zap) (pv 0) zad (λ_ _=>rfl)) zaf (by rfl)) (by rfl)))) (by rfl)) (@zac _ _ _ _ _ (@zay _ _ 5 _ _ _ _ zd6.nd rfl (Or.inl rfl) (zdb (pv 0) T.zae.cl T.zdf.m G_Walker_frames (hr.mono (by decide)) T.zdf.b .nil zcq) (by rfl) (by first|exact .inl rfl|exact .inr rfl|assumption)) hW2)),?_⟩;have h:=S.wa;have few:=S.few;have len:=S.len;have at_i:∀i,i<ls.length->∃f x,fs[i]?=some f/\ls[i]?=some x/\x∈ls:=λi hi=>⟨_,_,List.getElem?_eq_getElem (by omega),List.getElem?_eq_getElem hi,qcb hi⟩
   have skH:=h.b _ _ S.st.e;refine⟨_,rfl,sk,rfl,⟨_,SqL.of skH⟩,λu hu=>zkt (K:=K) (λi Hq v=>∃tp x,ls[i]?=some x/\v=V.ref tp/\Hq tp=some (.tup [.str x.F.name,.int x.at_])) (λi v Ha Hc e z=>let ⟨tp,x,z1,z2,z3⟩:=z; ⟨tp,x,z1,z2,e _ _ z3⟩) (xs:=ls.map λx:Lf=>V.ref x.l) (by rw[List.length_map]; omega) (SqL.of skH) hu ?_ ?_⟩
   . intro i v H2 R hv s2 ⟨acc,hacc⟩ hR;obtain⟨x,hx,hxm,rfl⟩:=ziy hv;have hi:=(List.getElem?_eq_some_iff.mp hx).1;obtain⟨_,_,_,_,rgs,_,fg,_⟩:=S.tw i _ x (List.getElem?_eq_getElem (by omega)) hx;have hT:=s2.tup (h.b.tup (S.s0.tup fg.at_.fn));have hL:=s2 _ _ (h.b _ _ (S.st.fr x hxm).1);refine⟨_,rfl,x.l,_,_,_,rfl,rfl,SqL.of hL,at0,x.F.fa,_,_,_,rfl,rfl,hT,at0,_,rfl,x.l,_,_,_,rfl,rfl,SqL.of hL,rfl,le2,λtp htp=>hR _ _ (zaj.new htp) ⟨tp,x,hx,rfl,?_⟩⟩;rw[zcu (λz=>by rw[z,hacc] at htp; cases htp)];exact zab
   rintro H1 vs s1 e1 lv tv;rw[List.length_map] at lv;have h1:=h.grow s1;have g1:=zbj (H2:=H1) h.b;refine⟨_,rfl,w.a,_,_,rfl,h1.o,rfl,_,w,fs,.non,sent,⟨[],0⟩,rfl,h1,by omega,λl H2 tps hl s2 e2 hlen hat=>?_⟩;have s12:=s1.trans s2;have tw:Bg.Twin K H2 2 (.ref l) (.ref u):=Bg.Twin.lst (SqL.of e2) (SqL.of (s2 _ _ e1)) (Bg.TwinA.at (by rw[List.length_map]; omega) (λi v1 v2 h1 h2=>by
     obtain⟨tp1,g1,_,rfl⟩:=ziy h1;have hi:i<ls.length:=by have:=(List.getElem?_eq_some_iff.mp g1).1; omega
     obtain⟨f,x,hf,hx,_⟩:=at_i i hi;obtain⟨_,_,a3⟩:=hat i f tp1 hf g1;obtain⟨tp2,x2,z1,rfl,z3⟩:=tv i v2 h2;rw[hx] at z1;cases z1;obtain⟨n1,n2,_,_,rgs,_,fg,_⟩:=S.tw i f x hf hx;have z4:H2 tp2=some (.tup [.str f.fn,.int f.row]):=by rw[n1,n2]; exact s2 _ _ (zgt _ _ z3)
     exact Bg.Twin.tup (SqT.of a3) (SqT.of z4) (Bg.TwinA.of (.cons (.str (by rw[n1]; exact fg.sn)) (.cons .int .nil)))))
   obtain⟨dd,ld,d1,d2⟩:=tw;have hpos:0<ls.length:=List.length_pos_iff.mpr hne;obtain⟨fs0,ft,rfl⟩:∃fs0 ft,fs=fs0++[ft]:=by
     rcases qbj fs with e|⟨l0,x,e⟩
     . rw[e] at len; simp at len; omega
     . rw[qbk] at e; exact⟨l0,x,e⟩
   obtain⟨ls0,xt,rfl⟩:∃ls0 xt,ls=ls0++[xt]:=by
     rcases qbj ls with e|⟨l0,x,e⟩
     . rw[e] at hpos; simp at hpos
     . rw[qbk] at e; exact⟨l0,x,e⟩
   obtain⟨tps0,tpt,rfl⟩:∃tps0 tpt,tps=tps0++[tpt]:=by
     rcases qbj tps with e|⟨l0,x,e⟩
     . rw[e] at hlen; simp at hlen
     . rw[qbk] at e; exact⟨l0,x,e⟩
   have hl0:fs0.length=ls0.length:=by simpa using len
   have hl1:tps0.length=fs0.length:=by simpa using hlen
   obtain⟨_,_,a3⟩:=hat _ _ _ (zdr fs0 ft) (by rw[<- hl1]; exact zdr _ _);have atl:atI ((tps0++[tpt]).map V.ref) (-1)=some (.ref tpt):=by rw[List.map_append]; exact zmo _ _
   refine⟨_,rfl,_,"list",_,true,rfl,.lst e2,rfl,_,rfl,jN ⟨_,rfl,_,rfl,?_⟩⟩;refine zg8 (by decide) ld d1 d2 ⟨_,rfl,zf7 qam ?_⟩;refine⟨_,rfl,_,rfl,l,_,_,_,rfl,rfl,SqL.of e2,atl,tpt,_,_,_,rfl,rfl,SqT.of a3,rfl,_,rfl,_,rfl,jN ?_⟩;have h2:=h.grow s12;have g2:=zbj (H2:=H2) h.b;clear d1 d2 ld h1 g1 tv;generalize gr Hb H H2=B2 at h2 g2;have skB:=g2 _ _ S.st.e;have xtm:xt∈ls0++[xt]:=ztu;have hlp:(0:Int)<(((ls0++[xt]).map λx:Lf=>V.ref x.l).length:Nat):=by rw[List.length_map]; omega
   have bl:=zbz z (((ls0++[xt]).map λx:Lf=>V.ref x.l).length:Nat) hlp;refine⟨_,rfl,_,rfl,sk,_,rfl,.inl (SqL.of (h2.b _ _ skB)),_,_,rfl,rfl,hlp,?_⟩;have dB:=g2 _ _ (S.st.fr xt xtm).2;obtain⟨x6,hx6,_⟩:=nm6 (ns:=ns) h6 (z / 7);refine⟨xt.d,xt.kvs,h2.b _ _ dB,_,rfl,_,rfl,_,rfl,_,_,rfl,rfl,zk7 _ _ (by decide),_,_,rfl,rfl,(show(0:Int)<6 by decide),nl,_,_,_,rfl,rfl,h2.b.seq (g2.seq (S.s0.seq hnl)),hx6,le2,λt0 ht0=>?_⟩;have lm:((ls0++[xt]).map λx:Lf=>V.ref x.l).length=(ls0++[xt]).length:=List.length_map ..;rw[lm] at bl hlp ⊢;clear lm;generalize e:upd H2 t0 _=H3;have ⟨s3,k3⟩:=nw e ht0;refine⟨le1,λl1 hl1=>?_⟩;generalize e:upd H3 l1 _=H4;have ⟨s4,k4⟩:=nw e hl1;have s24:=s3.trans s4;have h4:=h2.grow s24;have g4:=g2.trans (zbj (H2:=H4) h2.b);generalize gr B2 H2 H4=B4 at h4 g4;have d4:=g4 _ _ (S.st.fr xt xtm).2;refine⟨_,rfl,_,rfl,sk,_,_,_,rfl,rfl,SqL.of (h4.b _ _ (g4 _ _ S.st.e)),zhq _ _,xt.l,_,_,_,rfl,rfl,SqL.of (h4.b _ _ (g4 _ _ (S.st.fr xt xtm).1)),rfl,xt.d,xt.kvs,rfl,h4.b _ _ d4,λo=>?_⟩;have hfz:=h4.put (o':=.frz o (.dK xt.kvs)) d4;have noD:H0 xt.d=none:=S.no xt.d (zln xtm).2;have hFl:F2.FlowsAt K t.za2 (upd B4 xt.d (.frz o (.dK xt.kvs))) w.fl fns:=S.fl.mono ((S.s0.trans g4).upd noD);have hD4:=h4.b _ _ d4;have ne4:∀{b:Addr} {v:HO},H4 b=some v->(∀ks,v≠.dK ks)->upd H4 xt.d (.frz o (.dK xt.kvs)) b=some v:=λhb hv=>by rw[zag (λy=>by rw[y,hD4] at hb; cases hb; exact hv _ rfl)]; exact hb
   have sk5:=ne4 (h4.b _ _ (g4 _ _ S.st.e)) (λ_ y=>by cases y);have k35:=ne4 (s4 _ _ k3) (λ_ y=>by cases y);have k45:=ne4 k4 (λ_ y=>by cases y);have xl5:∀x∈ls0++[xt],upd H4 xt.d (.frz o (.dK xt.kvs)) x.l=some (.lst [V.ref x.F.fa,V.int x.at_,V.ref x.d]):=λx hx=>ne4 (h4.b _ _ (g4 _ _ (S.st.fr x hx).1)) (λ_ y=>by cases y);have dg5:∀(k:Nat) x (n:Str) H',(ls0++[xt])[k]?=some x->zaj (upd H4 xt.d (.frz o (.dK xt.kvs))) H'->zok H' x.d (.str n) (zc9 x.kvs (Sum.inr n:Key)):=λk x n H' hx s'=>by
     have hxm:=List.mem_of_getElem? hx;have hx4:=h4.b _ _ (g4 _ _ (S.st.fr x hxm).2);by_cases y:x.d=xt.d
     . have e:x.kvs=xt.kvs:=by rw[y,hD4] at hx4; exact(HO.dK.inj (Option.some.inj hx4)).symm
       rw[y,e];exact .inl ⟨_,Sum.inr n,.inr ⟨o,s' _ _ zab⟩,rfl,rfl⟩
     . exact .inl ⟨_,Sum.inr n,.inl (s' _ _ (by rw[zag y]; exact hx4)),rfl,rfl⟩
   have fz5:=zab (H:=H4) (a:=xt.d) (o:=.frz o (.dK xt.kvs));have old5:∀b v,H b=some v->b≠xt.d->upd H4 xt.d (.frz o (.dK xt.kvs)) b=some v:=λb v hb hn=>by rw[zag hn]; exact(s12.trans s24) _ _ hb
   generalize upd H4 xt.d (.frz o (.dK xt.kvs))=H5 at hfz sk5 k35 k45 xl5 dg5 fz5 old5 ⊢;generalize upd B4 xt.d (.frz o (.dK xt.kvs))=B5 at hfz hFl;obtain⟨n1t,n2t,n3t,alt,_⟩:=S.tw ls0.length ft xt (by rw[<- hl0]; exact zdr _ _) (zdr _ _);have lkt:=alt.l;clear ne4 d4 g4 h4 s24 s3 s4 k3 k4 hD4 dB skB g2 h2 s12 s1 s2 e1 e2 hat;intro u2 hu2;refine zxu (λi G v=>∃tp kv,xt.kvs[i]?=some kv/\v=.ref tp/\G tp=some (.tup [.int (((ls0++[xt]).length:Nat) - 1),kV kv.1])) (λi v G G' e z=>let ⟨tp,kv,z1,z2,z3⟩:=z; ⟨tp,kv,z1,z2,e _ _ z3⟩) (by omega) fz5 hu2 ?_ ?_
   . intro i kv G R hkv sG ⟨acc,hacc⟩ hR;refine⟨_,rfl,sk,_,rfl,.inl (SqL.of (sG _ _ sk5)),_,_,rfl,rfl,_,rfl,le2,λtp htp=>hR _ _ (zaj.new htp) ⟨tp,kv,hkv,rfl,?_⟩⟩;rw[zcu (λy=>by rw[y,hacc] at htp; cases htp)];rw[zab];show some (HO.tup [V.int ((((ls0++[xt]).map λx:Lf=>V.ref x.l).length:Nat) - 1),kV kv.1])=_;rw[List.length_map]
   rintro H6 vs6 s6 e6 lv6 tv6;refine⟨l1,u2,_,_,rfl,rfl,s6 _ _ k45,e6,qb1 (zbg (by show 1+vs6.length<1000000; omega)),λl3 hl3=>?_⟩;have s7:=s6.trans (zaj.new (o:=.lst ([V.ref t0]++vs6)) hl3);have s67:=zaj.new (o:=.lst ([V.ref t0]++vs6)) hl3;have e7:=zab (H:=H6) (a:=l3) (o:=.lst ([V.ref t0]++vs6));have it:∀(i:Nat) v,([V.ref t0]++vs6)[i]?=some v->∃tp k n,v=.ref tp/\H6 tp=some (.tup [.int (k:Nat),.str n])/\k<(ls0++[xt]).length:=λi v hv=>by
     cases i with
     | zero =>
       cases hv;exact⟨t0,(z%((ls0++[xt]).length:Nat)).toNat,x6,rfl,by rw[qbv bl.1]; exact s6 _ _ k35,by have:=bl.2; omega⟩
     | succ i =>
       obtain⟨tp,kv,z1,z2,z3⟩:=tv6 i v (by simpa using hv);obtain⟨n,en,_⟩:=alt.k kv (List.mem_of_getElem? z1);rw[en] at z3;refine⟨tp,(ls0++[xt]).length - 1,n,z2,?_,by omega⟩;rw[show(((ls0++[xt]).length - 1:Nat):Int)=((ls0++[xt]).length:Nat) - 1 by omega];exact zgt _ _ z3
   generalize upd H6 l3 (.lst ([V.ref t0]++vs6))=H7 at s7 s67 e7 ⊢;refine⟨l3,rfl,⟨_,SqL.of e7⟩,(let Jv1:Nat->St->Hp->Prop:=λi σ H'=>∃v7 v8 v9:Option V,σ=[some (.ref w.a),some (.ref sk),some (.ref nl),some (.int z),some (.ref u),some (.ref l),some (.int (z%((ls0++[xt]).length:Nat))),v7,v8,v9]/\zaj H7 H'; zk5 (xs:=[V.ref t0]++vs6) Jv1 ⟨_,_,_,rfl,zaj.refl _⟩ ?_ ?_ ?_)⟩
   . rintro i σ H' hi ⟨v7,v8,v9,rfl,s8⟩;exact SqL.of (s8 _ _ e7)
   . rintro i v σ H' hv ⟨v7,v8,v9,rfl,s8⟩;obtain⟨tp,k,n,rfl,htp,hk⟩:=it i v hv;obtain⟨f,x,hf,hx⟩:=S.at hk;have hxm:=List.mem_of_getElem? hx;obtain⟨n1,n2,n3,al,_⟩:=S.tw k f x hf hx;have s58:=s7.trans s8;have h8:=hfz.grow s58;have fl8:=hFl.mono (zbj (H2:=H') hfz.b);generalize gr B5 H5 H'=B8 at h8 fl8;have hatk:atI ((ls0++[xt]).map λx:Lf=>V.ref x.l) (k:Int)=some (.ref x.l):=zc7 (by rw[List.getElem?_map,hx]; rfl);refine⟨tp,_,rfl,SqT.of (s8 _ _ (s67 _ _ htp)),rfl,_,_,rfl,_,_,rfl,rfl,?_⟩;refine⟨_,rfl,_,rfl,sk,_,_,_,rfl,rfl,SqL.of (s58 _ _ sk5),hatk,x.l,_,_,_,rfl,rfl,SqL.of (s58 _ _ (xl5 x hxm)),rfl,?_⟩;refine⟨_,rfl,_,rfl,x.d,_,rfl,dg5 k x n H' hx s58,_,rfl,?_⟩;by_cases hin:n∈F2.nms x.F
     . have hs:=al.has.mpr hin;obtain⟨y,_,hv1,hv2⟩:=al.v n hin;have hth:zqa (fs0++[ft]) fns (k:Int) n:=(S.there hx).mpr hin;refine zf7 (by rw[hs]; decide) ?_;refine⟨_,rfl,w.a,_,_,rfl,h8.o,rfl,_,rfl,_,rfl,B8,w,fs0++[ft],.non,sent,⟨[],0⟩,k,n,fns,rfl,h8,fl8,S.hall,(λ_=>⟨k,f,.int y,rfl,hf,hv1,λH9 s9=>?_⟩),λhno=>absurd hth hno⟩;have h9:=h8.grow s9;refine⟨y,rfl,_,rfl,jN ⟨_,rfl,w.a,_,_,rfl,h9.o,rfl,_,rfl,_,rfl,_,w,fs0++[ft],.non,sent,⟨[],0⟩,k,n,fns,rfl,h9,fl8.mono (zbj h8.b),S.hall,(λ_=>⟨k,f,.int y,rfl,hf,hv1,λHA sA=>?_⟩),λhno=>absurd hth hno⟩⟩;have dgA:=dg5 k x n HA hx ((s58.trans s9).trans sA);rw[hv2] at dgA;exact⟨_,rfl,_,rfl,x.d,_,rfl,dgA,rfl,_,rfl,zf7 (by simp) ⟨_,_,_,rfl,(s8.trans s9).trans sA⟩⟩
     . have hs:(zc9 x.kvs (Sum.inr n:Key)).isSome=false:=by
         cases e:(zc9 x.kvs (Sum.inr n:Key)).isSome with
         | false=>rfl
         | true=>exact absurd (al.has.mp e) hin
       refine zhl (by rw[hs]; decide) ⟨_,rfl,_,rfl,_,rfl,B8,w,fs0++[ft],.non,sent,⟨[],0⟩,k,n,fns,rfl,h8,fl8,S.hall,(λhT=>hin ((S.there hx).mp hT)),λH9 s9=>⟨_,rfl,jN ⟨_,_,_,rfl,s8.trans s9⟩⟩⟩
   . rintro σ H' ⟨v7,v8,v9,rfl,s8⟩;refine⟨o,(s7.trans s8) _ _ fz5,?_⟩;have sZ:zaj H (upd H' xt.d (.dK xt.kvs)):=λb v hb=>by
       by_cases y:b=xt.d
       . subst y;rw[h.b _ _ (S.st.fr xt xtm).2] at hb;rw[zab];exact hb
       . rw[zag y];exact(s7.trans s8) _ _ (old5 b v hb y)
     have hZ:=h.grow sZ;refine⟨_,rfl,w.a,_,_,rfl,hZ.o,rfl,_,w,fs0++[ft],.non,sent,⟨[],0⟩,rfl,hZ,_,_,rfl,rfl,_,rfl,?_⟩;exact zhl (by simp) ⟨_,rfl,w.a,_,_,rfl,hZ.o,rfl,_,w,fs0++[ft],.non,sent,⟨[],0⟩,rfl,hZ,q _ sZ⟩
theorem znk:FnScope ["_law_walker","_law_depth","_law_names_here","_law_pick","_law_level"] ["_law_walker","_law_depth","_law_names_here","_law_pick"] (zai zf6):=by walk_at "s"
theorem zsk (T:Txt K mg t):FnOk P w K mg base CX0 7 t.zlw t.zo8 ["_law_walker","_law_depth","_law_names_here","_law_pick"] (zsd K t):=by
 have G_l_no_name:=zma (P:=P) (w:=w) (base:=base) T;refine T.zp4.F.ok znk (λvs H Q E h=>?_) (λcdv A outer s H vs Q E hr h=>?_)
 . obtain⟨Hb,w,fs,oc,sent,cn,nl,ns,fns,z,rfl,h,hFl,hall,hnl,h12,nd,hT,hz,few,q⟩:=h;rfl
 . skip
   refine(let XX:Cx:=(zkk CX0 P w K mg base ["_law_walker","_law_depth","_law_names_here","_law_pick","_law_level"] "_law_absent" (zai zf6) t.zlw cdv A outer s H E).nox; ?_);refine(let W1:TS:=_; have hW1:PSs XX ((zaw zf6).drop 1) W1:=(@zah _ _ _ (@zas _ _ _ _ (zv2 (zbv T.zlh G_l_no_name (hr.mono (by decide)) (@zaa _ _ _ _ _ (pv 0) (@zaa _ _ _ _ _ (pv 4) (@zaa _ _ _ _ _ (@zal _ _ _ _ _ _ _ zap (pv 2) (@zao _ _ _ _ _ _ _ _ za5 (pv 3) zad) (λ_ _=>rfl)) zaf (by rfl)) (by rfl)) (by rfl))) (zt5 (zbv T.zlh G_l_no_name (hr.mono (by decide)) (@zaa _ _ _ _ _ (pv 0) (@zaa _ _ _ _ _ (zbm (zwy rfl) (by rfl) T.b_max z38 (@zaa _ _ _ _ _ zad (@zaa _ _ _ _ _ (@zao _ _ _ _ _ _ _ _ zh6 (pv 1) zad) zaf (by rfl)) (by rfl))) (@zaa _ _ _ _ _ (@zal _ _ _ _ _ _ _ zap (pv 2) zad (λ_ _=>rfl)) zaf (by rfl)) (by rfl)) (by rfl))))))); ?_);obtain⟨Hb,w,fs,oc,sent,cn,nl,ns,fns,z,rfl,h,hFl,hall,hnl,h12,nd,hT,hz,few,q⟩:=h;refine⟨_,(@zac _ _ _ _ _ (@zay _ _ 4 _ _ _ _ znk.nd rfl (Or.inl rfl) (@zal _ _ _ _ _ _ _ zap (@zc1 _ _ _ _ (@zaa _ _ _ _ _ (ziq zfd zad) (@zaa _ _ _ _ _ (pv 1) (@zaa _ _ _ _ _ (@zao _ _ _ _ _ _ _ _ zcv (@zao _ _ _ _ _ _ _ _ zcv (pv 1) zad) (@zao _ _ _ _ _ _ _ _ za5 (pv 3) zad)) (@zaa _ _ _ _ _ (@zao _ _ _ _ _ _ _ _ zh6 (ziq zfd zad) (@zao _ _ _ _ _ _ _ _ za5 (pv 3) zad)) zaf (by rfl)) (by rfl)) (by rfl)) (by rfl))) (@zao _ _ _ _ _ _ _ _ za5 (@zao _ _ _ _ _ _ _ _ zc6 (pv 3) zad) zad) (λ_ _=>rfl)) (by rfl) (by first|exact .inl rfl|exact .inr rfl|assumption)) hW1),?_⟩;have b50:=zbz z 50 (by decide);have b4:=zbz (z / 50) 4 (by decide);have b6:=zbz z 6 (by decide);obtain⟨n9,h9⟩:∃n9,ns[9]?=some n9:=⟨_,List.getElem?_eq_getElem (by omega)⟩
   have at9:atI (ns.map V.str) ((9:Nat):Int)=some (.str n9):=zc7 (by rw[List.getElem?_map,h9]; rfl);refine⟨_,rfl,_,rfl,_,rfl,_,_,rfl,rfl,_,rfl,_,_,rfl,rfl,(show(0:Int)<50 by decide),_,_,rfl,rfl,_,rfl,_,rfl,_,_,rfl,rfl,(show(0:Int)<50 by decide),_,_,rfl,rfl,le4,λl hl=>?_⟩;have s1:=zaj.new (o:=.lst [V.int (-1),V.int (fs.length:Nat),V.int ((fs.length:Nat)+1+z%50),V.int (-1 - z%50)]) hl;obtain⟨u,hu,hm⟩:=zmr (xs:=[V.int (-1),V.int (fs.length:Nat),V.int ((fs.length:Nat)+1+z%50),V.int (-1 - z%50)]) b4.1 b4.2;obtain⟨y,rfl,hy⟩:∃y,u=V.int y/\(y<0\/(fs.length:Int)<=y):=by simp only[List.mem_cons,qbi,or_false] at hm;rcases hm with h|h|h|h <;> exact⟨_,h,by omega⟩
   refine⟨_,rfl,_,_,rfl,rfl,zk7 _ _ (by decide),_,_,rfl,rfl,(show(0:Int)<4 by decide),l,_,_,_,rfl,rfl,SqL.of zab,hu,?_⟩;generalize upd H l (.lst [V.int (-1),V.int (fs.length:Nat),V.int ((fs.length:Nat)+1+z%50),V.int (-1 - z%50)])=H1 at s1 ⊢;have h1:=h.grow s1;have g1:=zbj (H2:=H1) h.b;generalize gr Hb H H1=B1 at h1 g1;obtain⟨x6,hx6,_⟩:=nm6 (ns:=ns) (by omega) z;refine⟨_,rfl,_,rfl,_,rfl,_,rfl,_,_,rfl,rfl,(show(0:Int)<6 by decide),nl,_,_,_,rfl,rfl,s1.seq hnl,hx6,B1,w,fs,oc,sent,cn,y,x6,fns,rfl,h1,hFl.mono g1,hall,(λ⟨i,f,_,e,hf,_⟩=>by have:=(List.getElem?_eq_some_iff.mp hf).1; omega),λH2 s2=>⟨_,rfl,z3i ?_⟩⟩;have h2:=h1.grow s2;have g2:=zbj (H2:=H2) h1.b;generalize gr B1 H1 H2=B2 at h2 g2;exact⟨_,rfl,_,rfl,_,_,rfl,rfl,_,_,rfl,_,rfl,nl,_,_,_,rfl,rfl,(s1.trans s2).seq hnl,at9,B2,w,fs,oc,sent,cn,_,n9,fns,rfl,h2,(hFl.mono g1).mono g2,hall,(λ⟨_,_,F,_,_,hF,_,hm⟩=>zze nd h9 (by decide) (hT F hF n9 hm)),λH3 s3=>q H3 ((s1.trans s2).trans s3)⟩
theorem zce:FnScope ["_law_names_here","_law_cell","_law_many","_law_steps","_law_base","_law_rows","_law_program_here","_law_k","_law_walker","_law_last","_law_due","_law_level"] ["_law_names_here","_law_cell"] (zai zd3):=by walk_at "s"
theorem zu1 (T:Txt K mg t):FnOk P w K mg base CX0 9 t.zn2 t.zr3 ["_law_names_here","_law_cell"] (zuu K t):=by
 have G_l_value_by:=zht (P:=P) (w:=w) (base:=base) T;have G_TextWalker_init:=zgv (P:=P) (w:=w) (base:=base) T;have G_Walker_step:=zg5 (P:=P) (w:=w) (base:=base) T;have G_Walker_frames:=zfn (P:=P) (w:=w) (base:=base) T;have G_Walker_told:=zg2 (P:=P) (w:=w) (base:=base) T;refine T.zyn.F.ok zce (λvs H Q E h=>?_) (λcdv A outer s H vs Q E hr h=>?_)
 . obtain⟨nl,ns,c,rfl,hnl,h12,nok,q⟩:=h;rfl
 . skip
   refine(let XX:Cx:=(zkk CX0 P w K mg base ["_law_names_here","_law_cell","_law_many","_law_steps","_law_base","_law_rows","_law_program_here","_law_k","_law_walker","_law_last","_law_due","_law_level"] "_law_tower" (zai zd3) t.zn2 cdv A outer s H E).nox; ?_);refine(let W12:TS:=_; have hW12:PSs XX ((zaw zd3).drop 12) W12:=(@zac _ _ _ _ _ (@zbd _ _ _ _ _ _ _ _ (@PW.pt _ _ _ (zob (@zar _ _ _ _ _ _ _ _ (ztm hr.units) (zdb (pv 8) T.zae.cl T.zdf.m G_Walker_frames (hr.mono (by decide)) T.zdf.b .nil zcq) (pv 10) (zax _)) (zmy (@zar _ _ _ _ _ _ _ _ zwl (zbb (pv 8) T.zae.cl T.zcl.m G_Walker_told (hr.mono (by decide)) T.zcl.b .nil zlq (@zaa _ _ _ _ _ (pv 9) (@zaa _ _ _ _ _ zaz zaf (by rfl)) (by rfl))) (@zao _ _ _ _ _ _ _ _ za5 (@zao _ _ _ _ _ _ _ _ zcv (@zao _ _ _ _ _ _ _ _ zcv (pv 4) (pv 9)) (@zao _ _ _ _ _ _ _ _ za5 (pv 3) zad)) (@zao _ _ _ _ _ _ _ _ zrl zad zad)) (zax _))))) (@zah _ _ _ (@zas _ _ _ _ zj4)) zan) (@zac _ _ _ _ _ (@zay _ _ 11 _ _ _ _ zce.nd rfl (Or.inl rfl) (@zao _ _ _ _ _ _ _ _ za5 (@zao _ _ _ _ _ _ _ _ zc6 (pv 1) zad) (@zao _ _ _ _ _ _ _ _ zcv (pv 9) zad)) (by rfl) (by first|exact .inl rfl|exact .inr rfl|assumption)) (@zah _ _ _ (@zas _ _ _ _ (z6a (zg7 zcp (pv 11) (pv 9) (zax _)) (zt5 (zg7 zcp (zbb (pv 8) T.zae.cl T.zcl.m G_Walker_told (hr.mono (by decide)) T.zcl.b .nil zlq (@zaa _ _ _ _ _ (pv 11) (@zaa _ _ _ _ _ zaz zaf (by rfl)) (by rfl))) (@zao _ _ _ _ _ _ _ _ za5 (@zao _ _ _ _ _ _ _ _ zcv (@zao _ _ _ _ _ _ _ _ zcv (pv 4) (pv 11)) zad) (@zao _ _ _ _ _ _ _ _ zrl zad zad)) (zax _)))))))); ?_);refine(let W9:TS:=_; have hW9:PSs XX ((zaw zd3).drop 9) W9:=(@zac _ _ _ _ _ (@zay _ _ 9 _ _ _ _ zce.nd rfl (Or.inl rfl) (@zao _ _ _ _ _ _ _ _ zc6 (pv 3) zad) (by rfl) (by first|exact .inl rfl|exact .inr rfl|assumption)) (@zac _ _ _ _ _ (zpv (i:=10) zce.nd rfl (Or.inl rfl) (N':=["_law_level","_law_names_here","_law_many"]) (js:=[none,some 0,some 2]) (by kernel_rfl) rfl (zfe rfl T.b_range (@zaa _ _ _ _ _ (pv 9) zaf (by rfl))) zdz (λ_ _ _ _=>(za0 (i:=0) (show(["_law_level","_law_names_here","_law_many"]:List Str).Nodup by decide +kernel) rfl (Or.inl rfl) (.inr rfl))) (λ_ _ _ _=>zfm) (λ_ _ _ _=>(@zcc _ _ _ _ _ (@zaa _ _ _ _ _ (@zal _ _ _ _ _ _ _ (show IxR _ (z5r K) from zap) (pv 1) (@zao _ _ _ _ _ _ _ _ za5 (@zao _ _ _ _ _ _ _ _ zh6 (@zao _ _ _ _ _ _ _ _ zh6 (pv 2) zad) (pv 0)) (pv 2)) (λ_ _=>rfl)) (@zaa _ _ _ _ _ zad zaf (by rfl)) (by rfl)))) (by rfl)) (@zac _ _ _ _ _ (@zbp _ _ _ _ (zhm qat qaz qa0 zb0 (pv 10) (@zaa _ _ _ _ _ (@zcc _ _ _ _ _ (@zaa _ _ _ _ _ (@zal _ _ _ _ _ _ _ zap (pv 0) (@zao _ _ _ _ _ _ _ _ za5 (@zao _ _ _ _ _ _ _ _ zh6 (@zao _ _ _ _ _ _ _ _ zh6 (pv 2) zad) (pv 9)) (pv 2)) (λ_ _=>rfl)) (@zaa _ _ _ _ _ (@zao _ _ _ _ _ _ _ _ za5 (pv 3) zad) zaf (by rfl)) (by rfl))) zaf (by rfl))) (by rfl)) hW12))); ?_);refine(let W8:TS:=_; have hW8:PSs XX ((zaw zd3).drop 8) W8:=(@zac _ _ _ _ _ (zea PassesOwn.never rfl (zfe rfl T.b_range (@zaa _ _ _ _ _ (pv 3) zaf (by rfl))) (za0 (i:=7) zce.nd rfl (Or.inl rfl)) (@zah _ _ _ (@zbd _ _ _ _ _ _ _ _ (zoz (zsm (zdb (pv 8) T.zae.cl T.zd9.m G_Walker_step (hr.mono (by decide)) T.zd9.b .nil zlq))) (@zah _ _ _ (@zas _ _ _ _ zj4)) zan))) hW9); ?_);refine(let W6:TS:=_; have hW6:PSs XX ((zaw zd3).drop 6) W6:=(@zac _ _ _ _ _ (zea PassesOwn.never rfl (zfe rfl T.b_range (@zaa _ _ _ _ _ (pv 2) zaf (by rfl))) (za0 (i:=7) zce.nd rfl (Or.inl rfl)) (@zac _ _ _ _ _ (zly (@zcc _ _ _ _ _ (@zaa _ _ _ _ _ zaz (@zaa _ _ _ _ _ zaz (@zaa _ _ _ _ _ (@zal _ _ _ _ _ _ _ zap (pv 0) (@zao _ _ _ _ _ _ _ _ za5 (@zao _ _ _ _ _ _ _ _ zh6 (pv 7) zad) (pv 2)) (λ_ _=>rfl)) (@zaa _ _ _ _ _ (@zcc _ _ _ _ _ (@zaa _ _ _ _ _ zaz zaf (by rfl))) zaf (by rfl)) (by rfl)) (by rfl)) (by rfl))) (zns (pv 5) zad zhs)) (@zah _ _ _ (@zbp _ _ _ _ (zhm qat qaz qa0 zb0 (pv 6) (@zaa _ _ _ _ _ (@zcc _ _ _ _ _ (@zaa _ _ _ _ _ (@zal _ _ _ _ _ _ _ zap (pv 0) (pv 7) (λ_ _=>rfl)) (@zaa _ _ _ _ _ (zg7 zcp (@zao _ _ _ _ _ _ _ _ za5 (pv 7) zad) zad (zax _)) (@zaa _ _ _ _ _ (@zcc _ _ _ _ _ (@zaa _ _ _ _ _ zaz zaf (by rfl))) (@zaa _ _ _ _ _ (za6 zf2 (by rfl) T.b_tuple zmu (@zaa _ _ _ _ _ (pv 5) zaf (by rfl))) zaf (by rfl)) (by rfl)) (by rfl)) (by rfl))) zaf (by rfl))) (by rfl))))) (@zac _ _ _ _ _ (@zay _ _ 8 _ _ _ _ zce.nd rfl (Or.inl rfl) (zzb T.zae T.zgi G_TextWalker_init (hr.mono (by decide)) (@zaa _ _ _ _ _ (pv 6) (@zaa _ _ _ _ _ (@zc1 _ _ _ _ (@zaa _ _ _ _ _ (pv 4) zaf (by rfl))) zaf (by rfl)) (by rfl))) (by rfl) (by first|exact .inl rfl|exact .inr rfl|assumption)) hW8)); ?_);refine(let W3:TS:=_; have hW3:PSs XX ((zaw zd3).drop 3) W3:=(@zac _ _ _ _ _ (@zay _ _ 4 _ _ _ _ zce.nd rfl (Or.inl rfl) (zbv T.zjl G_l_value_by (hr.mono (by decide)) (@zaa _ _ _ _ _ (@zao _ _ _ _ _ _ _ _ za5 (@zao _ _ _ _ _ _ _ _ zc6 (pv 1) zad) zad) zaf (by rfl))) (by rfl) (by first|exact .inl rfl|exact .inr rfl|assumption)) (@zac _ _ _ _ _ (@zay _ _ 5 _ _ _ _ zce.nd rfl (Or.inl rfl) (@zc1 _ _ _ _ (@zaa _ _ _ _ _ (@zw7 _ _ [V.str "op",V.str "n",V.str "+",V.str "n",V.int 1] (by kernel_rfl)) (@zaa _ _ _ _ _ (@zcc _ _ _ _ _ (@zaa _ _ _ _ _ zaz (@zaa _ _ _ _ _ zaz (@zaa _ _ _ _ _ zaz (@zaa _ _ _ _ _ (@zcc _ _ _ _ _ (@zaa _ _ _ _ _ zaz zaf (by rfl))) zaf (by rfl)) (by rfl)) (by rfl)) (by rfl))) (@zaa _ _ _ _ _ (@zcc _ _ _ _ _ (@zaa _ _ _ _ _ zaz (@zaa _ _ _ _ _ zaz zaf (by rfl)) (by rfl))) zaf (by rfl)) (by rfl)) (by rfl))) (by rfl) (by first|exact .inl rfl|exact .inr rfl|assumption)) (@zac _ _ _ _ _ (@zay _ _ 6 _ _ _ _ zce.nd rfl (Or.inl rfl) (@zc1 _ _ _ _ zaf) (by rfl) (by first|exact .inl rfl|exact .inr rfl|assumption)) hW6))); ?_);obtain⟨nl,ns,c,rfl,hnl,h12,nok,q⟩:=h;refine⟨_,(@zac _ _ _ _ _ (@zay _ _ 2 _ _ _ _ zce.nd rfl (Or.inr rfl) (@zao _ _ _ _ _ _ _ _ zcv zad (@zao _ _ _ _ _ _ _ _ za5 (pv 1) zad)) (by rfl) (by first|exact .inl rfl|exact .inr rfl|assumption)) (@zac _ _ _ _ _ (@zay _ _ 3 _ _ _ _ zce.nd rfl (Or.inl rfl) (@zao _ _ _ _ _ _ _ _ za5 (@zao _ _ _ _ _ _ _ _ zc6 (pv 1) zad) (@zal _ _ _ _ _ _ _ zap (@z1u _ _ [V.int 12,V.int 12,V.int 12,V.int 150] (by kernel_rfl)) (@zao _ _ _ _ _ _ _ _ za5 (@zao _ _ _ _ _ _ _ _ zc6 (pv 1) zad) zad) (λ_ _=>rfl))) (by rfl) (by first|exact .inl rfl|exact .inr rfl|assumption)) (@zpg _ _ _ _ _ (@zbd _ _ _ _ _ _ _ _ (@zar _ _ _ _ _ _ _ _ zcp (@zao _ _ _ _ _ _ _ _ za5 (@zao _ _ _ _ _ _ _ _ zc6 (pv 1) zad) zad) zad (zax _)) (@zah _ _ _ (@zay _ _ 3 _ _ _ _ zce.nd rfl (Or.inl rfl) zad (by rfl) (by first|exact .inl rfl|exact .inr rfl|assumption))) zan) hW3))),?_⟩;have nN:=ztr nok;have b12:=zbz c 12 (by decide);have b4:=zbz (c / 144) 4 (by decide);refine⟨_,rfl,_,_,rfl,rfl,(show(0:Int)<12 by decide),_,_,rfl,rfl,?_⟩;refine⟨_,rfl,_,_,rfl,rfl,zk7 _ _ (by decide),le4,λq1 hq1=>?_⟩;have s1:=zaj.new (o:=.lst [V.int 12,V.int 12,V.int 12,V.int 150]) hq1;obtain⟨u,hu,hum⟩:=zmr (xs:=[V.int 12,V.int 12,V.int 12,V.int 150]) b4.1 b4.2;obtain⟨d,rfl,hd0,hd1⟩:∃d,u=V.int d/\0<d/\d<=150:=by simp only[List.mem_cons,qbi,or_false] at hum;rcases hum with h|h|h|h <;> exact⟨_,h,by decide,by decide⟩
   have bd:=zbz (c / 12) d hd0;obtain⟨m,hm⟩:∃m:Nat,1+c%12=(m:Int):=⟨(1+c%12).toNat,by omega⟩
   have hm1:1<=m/\m<=12:=by omega
   refine⟨_,rfl,_,_,rfl,rfl,zk7 _ _ (by decide),_,_,rfl,rfl,(show(0:Int)<4 by decide),q1,_,_,_,rfl,rfl,SqL.of zab,hu,_,_,rfl,rfl,hd0,?_⟩;generalize upd H q1 (.lst [V.int 12,V.int 12,V.int 12,V.int 150])=H1 at s1 ⊢;refine⟨λσ' H'=>∃S:Nat,σ'=[some (.ref nl),some (.int c),some (.int m),some (.int S),none,none,none,none,none,none,none,none]/\S<=400/\H1=H',?_,?_⟩
   . refine⟨_,rfl,_,_,rfl,rfl,zk7 _ _ (by decide),_,_,rfl,rfl,(show(0:Int)<8 by decide),rfl,_,rfl,zvt (λ_=>⟨400,?_,by decide,rfl⟩) (λ_=>⟨(c / 12%d).toNat,?_,by omega,rfl⟩)⟩
     . rw[<- hm]; rfl
     . rw[<- hm,qbv bd.1]; rfl
   rintro σ' H' ⟨S,rfl,hS,rfl⟩;clear bd hd0 hd1 hu hum b4 hq1;refine⟨_,rfl,_,_,rfl,rfl,zk7 _ _ (by decide),_,_,rfl,rfl,(show(0:Int)<2147483647 by decide),_,rfl,λbs vb=>?_⟩;have n1:=s1.seq hnl;refine⟨le5,λr0 hr0=>?_⟩;generalize e:upd H1 r0 _=H2;have ⟨s2,k2⟩:=nw e hr0;refine⟨le1,λp0 hp0=>⟨le4,λrc0 hrc0=>?_⟩⟩;have s3:=(zaj.new (o:=.tup [V.str "n"]) hp0).trans (zaj.new (o:=.tup [V.str "call",V.str "n",V.str "n",V.ref p0]) hrc0);generalize upd (upd H2 p0 (.tup [V.str "n"])) rc0 (.tup [V.str "call",V.str "n",V.str "n",V.ref p0])=H3 at s3 ⊢;refine⟨le2,λrb hrb=>?_⟩;generalize e:upd H3 rb _=H4;have ⟨s4,k4⟩:=nw e hrb;refine⟨le3,λrl hrl=>?_⟩;generalize e:upd H4 rl _=H5;have ⟨s5,k5⟩:=nw e hrl;refine⟨le0,λpl hpl=>?_⟩;have s14:=(s2.trans s3).trans s4;have n4:=s14.seq n1;have k24:=(s3.trans s4) _ _ k2;have t4:=s1.trans s14;have hpl4:H4 pl=none:=s5.free hpl;have nrp:rl≠pl:=λz=>by rw[<- z,k5] at hpl; cases hpl
   clear k2 s1 s2 s3 s4 s14 n1 hr0 hp0 hrc0 hrb;refine⟨_,rfl,_,rfl,by omega,by omega,(let Jv1:Nat->St->Hp->Prop:=λi σ H'=>∃(v7:Option V) (rc:Addr) (fns:List F2.Fd),σ=[some (.ref nl),some (.int c),some (.int m),some (.int S),some (.int bs),some (.ref rl),some (.ref pl),v7,none,none,none,none]/\zaj H4 H'/\H' rl=some (.lst [V.ref r0,V.ref rc,V.ref rb])/\H' pl=some (.lst (fns.map λf=>V.ref f.fa))/\fns.length=i/\∀(k:Nat) F,fns[k]?=some F->TF K (erO [rl,pl] H') ns m k F; zix (lo:=0) (n:=(m:Int).toNat) Jv1 ⟨_,rc0,[],rfl,s5.trans (zaj.new hpl),zaj.new hpl _ _ k5,zab,rfl,λk F h=>by simp at h⟩ ?_ ?_)⟩
   . rintro i σ H' hi ⟨v7,rc1,fns,rfl,sH,eR,eP,lF,ok⟩;rw[qa9] at hi;have bp:=zbz (0+(i:Int) - 1) m (by omega);obtain⟨pn,hpn⟩:∃pn,ns[((0+(i:Int) - 1)%(m:Int)).toNat]?=some pn:=⟨_,List.getElem?_eq_getElem (by omega)⟩
     obtain⟨fn,hfn⟩:∃fn,ns[i]?=some fn:=⟨_,List.getElem?_eq_getElem (by omega)⟩
     have hatp:atI (ns.map V.str) ((0+(i:Int) - 1)%(m:Int))=some (.str pn):=zi0 bp.1 hpn;have hatf:atI (ns.map V.str) (0+(i:Int))=some (.str fn):=zi0 (by omega) (by rw[show(0+(i:Int)).toNat=i by omega]; exact hfn);refine⟨_,rfl,_,rfl,_,_,rfl,rfl,_,rfl,_,_,rfl,rfl,(by omega),nl,_,_,_,rfl,rfl,sH.seq n4,hatp,le1,λpa hpa=>?_⟩;generalize e:upd H' pa _=G1;have ⟨w1,k1⟩:=nw e hpa;refine⟨le4,λrc hrc=>?_⟩;generalize e:upd G1 rc _=G2;have ⟨w2,k2⟩:=nw e hrc;refine⟨_,rfl,rl,_,1,1,rfl,rfl,(w1.trans w2) _ _ eR,rfl,?_⟩;rw[show(upd G2 rl (.lst ([V.ref r0,V.ref rc1,V.ref rb].set 1 (V.ref rc))))=upd G2 rl (.lst [V.ref r0,V.ref rc,V.ref rb]) from rfl];have w12:=w1.trans w2;have r3:=zab (H:=G2) (a:=rl) (o:=.lst [V.ref r0,V.ref rc,V.ref rb]);have s3:zaj H4 (upd G2 rl (.lst [V.ref r0,V.ref rc,V.ref rb])):=(sH.trans w12).upd hrl;have z3:zaj (erO [rl,pl] G2) (upd G2 rl (.lst [V.ref r0,V.ref rc,V.ref rb])):=zi1 zjk (by simp);have p3:upd G2 rl (.lst [V.ref r0,V.ref rc,V.ref rb]) pl=_:=(zag nrp.symm).trans (w12 _ _ eP);have y3:erO [rl,pl] (upd G2 rl (.lst [V.ref r0,V.ref rc,V.ref rb]))=erO [rl,pl] G2:=ztp (by simp);have hl2:∀b∈[rl,pl],∃xs,G2 b=some (.lst xs):=λb hb=>by
       simp only[List.mem_cons,qbi,or_false] at hb;rcases hb with rfl|rfl
       . exact⟨_,w12 _ _ eR⟩
       . exact⟨_,w12 _ _ eP⟩
     have c3:=z3.tup (zin (K:=K) hl2 (SqT.of k2));have a3:=z3.tup (zin (K:=K) hl2 (SqT.of (w2 _ _ k1)));have ok3:∀(k:Nat) F,fns[k]?=some F->TF K (erO [rl,pl] (upd G2 rl (.lst [V.ref r0,V.ref rc,V.ref rb]))) ns m k F:=λk F h=>by rw[y3]; exact(ok k F h).mono (ztv w12)
     generalize upd G2 rl (.lst [V.ref r0,V.ref rc,V.ref rb])=G3 at r3 s3 p3 c3 a3 ok3 ⊢;refine⟨_,rfl,.inl ⟨rfl,_,SqL.of p3⟩,_,rfl,_,rfl,nl,_,_,_,rfl,rfl,s3.seq n4,hatf,_,rfl,_,_,rfl,rfl,(show(0:Int)<2 by decide),rfl,le1,λqC hqC=>?_⟩;generalize e:upd G3 qC _=G4;have ⟨w4,k6⟩:=nw e hqC;refine⟨_,rfl,rl,_,rfl,.inl ⟨SqL.of (w4 _ _ r3),λtr htr=>?_⟩⟩;generalize e:upd G4 tr _=G5;have ⟨w5,k7⟩:=nw e htr;refine⟨le4,λfa hfa=>?_⟩;generalize V.bl (decide (V.int ((0+(i:Int))%2)=V.int 0))=fo;generalize e:upd G5 fa _=G6;have ⟨w6,k8⟩:=nw e hfa;have w46:=(w4.trans w5).trans w6;have p6:=w46 _ _ p3;refine⟨pl,_,_,rfl,rfl,p6,zbg (by rw[List.length_map]; omega),?_⟩;have hl6:∀b∈[rl,pl],∃xs,G6 b=some (.lst xs):=λb hb=>by
       simp only[List.mem_cons,qbi,or_false] at hb;rcases hb with rfl|rfl
       . exact⟨_,w46 _ _ r3⟩
       . exact⟨_,p6⟩
     have rb6:erO [rl,pl] G6 rb=some (.tup [V.str "back",V.str "n"]):=by have e:=(s3.trans w46) _ _ k4;rw[zl5 (λz=>by obtain⟨xs,hx⟩:=hl6 rb z; rw[hx] at e; cases e)];exact e
     obtain⟨F,e1,e2,e3,fg⟩:=z3y (K:=K) (H:=erO [rl,pl] G6) (zin hl6 (SqT.of k8)) (zin hl6 (SqT.of (w6 _ _ k7))) (zin hl6 (SqT.of ((s3.trans w46) _ _ k24))) (zin hl6 (w46.tup c3)) (zin hl6 (w46.tup a3)) rb6 (zin hl6 (SqT.of ((w5.trans w6) _ _ k6))) (nN fn (List.mem_of_getElem? hfn)) (nN pn (List.mem_of_getElem? hpn));rw[show(fns.map λf=>V.ref f.fa)++[V.ref fa]=(fns++[F]).map λf=>V.ref f.fa by rw[List.map_append,<- e1]; rfl];refine⟨_,rc,fns++[F],rfl,(s3.trans w46).upd hpl4,(zag nrp).trans (w46 _ _ r3),zab,by rw[List.length_append,lF]; rfl,λk F' hF'=>?_⟩;rw[ztp (by simp)];rcases zd4 hF' with⟨_,h⟩|⟨h,rfl⟩
     . exact(ok3 k F' h).mono (ztv w46)
     . rw[h,lF];exact⟨by rw[e2]; exact hfn,e3,pn,pa,by rw[<- qdz (i:Int)]; exact hpn,fg⟩
   rintro σ H' ⟨v7,rc1,fns,rfl,sH,eR,eP,lF,ok⟩;rw[qa9] at lF;have okH:∀(k:Nat) F,fns[k]?=some F->TF K H' ns m k F:=λk F h=>(ok k F h).mono zjk;have tH:=t4.trans sH;clear ok eR sH t4 k24 k4 k5 n4 hpl hpl4 nrp s5 hrl;refine⟨_,rfl,_,rfl,le1,λal hal=>?_⟩;generalize e:upd H' al _=H6;have ⟨s6,k6⟩:=nw e hal;refine λx dx hx hdx ndx=>?_;have sX:=zqs (o1:=HO.own x) (o2:=HO.ins t.zak dx []) hx hdx;obtain⟨FL,hFL⟩:∃FL,fns[fns.length - 1]?=some FL:=⟨_,List.getElem?_eq_getElem (by omega)⟩
   have nlF:∀F∈fns,(F2.nms F).length<=1000/\F.ps.length<=1000:=λF hF=>by obtain⟨k,hk⟩:=qax hF;obtain⟨_,e,pn,pa,_,fg⟩:=okH k F hk;exact⟨Nat.le_trans fg.nl (by decide),by rw[e]; show 1<=1000; decide⟩
   refine⟨x,dx,pl,al,fns,FL,[.int bs],rfl,zab,SqL.of (sX _ _ (s6 _ _ eP)),(λz=>by rw[z] at lF; simp at lF; omega),by omega,(λf hf=>by obtain⟨k,hk⟩:=qax hf;obtain⟨_,_,_,_,_,fg⟩:=okH k f hk;exact fg.at_.mono (s6.trans sX)),?_,hFL,SqL.of (sX _ _ k6),by simp,(nlF FL (List.mem_of_getElem? hFL)).1,(nlF FL (List.mem_of_getElem? hFL)).2,λB0 w f Hw hw sb wa fl fn row kv=>⟨rfl,?_⟩⟩
   . have e:fns.map (·.name)=ns.take m:=by
       refine qcj λk=>?_;rw[List.getElem?_map];rcases qa7 k m with hk|hk
       . have hg:=List.getElem?_eq_getElem (l:=fns) (i:=k) (by omega);rw[hg,qbp hk,(okH k _ hg).nm];rfl
       . rw[qbb (by omega),qbb (by rw[qay]; omega)];rfl
     rw[e];exact nok.nd.sublist (qds _ _)
   subst hw;have sB:=(s6.trans sX).trans sb;have okB:∀(k:Nat) F,fns[k]?=some F->TF K B0 ns m k F:=λk F h=>(okH k F h).mono sB;have tB:=tH.trans sB;have nB:=tB.seq hnl;clear okH tH eP k6 hx hdx sX sb s6 hal sB;have fat:∀k:Nat,k<m->∃F,fns[k]?=some F/\F∈fns:=λk hk=>⟨_,List.getElem?_eq_getElem (by omega),qcb _⟩
   have beg:∀(k:Nat) F (z:Int),fns[k]?=some F->Val z->zc9 (zj7 F [.int z]) (Sum.inr "n":Key)=some (.int z)/\(zj7 F [.int z]).length<=2000:=λk F z hF hz=>by obtain⟨_,e,pn,pa,_,fg⟩:=okB k F hF;have al:=zqq (vals:=[.int z]) fg (λv hv=>by rw[List.mem_singleton.mp hv]; exact⟨z,rfl,hz⟩) (by rw[e]; rfl);refine⟨?_,al.l.1⟩;unfold zj7;rw[e];show zc9 (zbx _ (Sum.inr "n":Key) (.int z)) _=_;rw[zdm,if_pos rfl]
   have vW:∀z:Int,Val (z%281474976710656):=λz=>by unfold Val K21.wide; exact⟨by omega,by omega⟩
   refine⟨_,rfl,_,rfl,by omega,by omega,(let Jv2:Nat->St->Hp->Prop:=λj σ H'=>∃(Hb:Hp) (fs:List Fm) (v7:Option V),σ=[some (.ref nl),some (.int c),some (.int m),some (.int S),some (.int bs),some (.ref rl),some (.ref pl),v7,some (.ref w.a),none,none,none]/\WA t Hb H' w fs .non [] c0/\zaj B0 Hb/\Tow ns m bs j fs; zix (lo:=0) (n:=(S:Int).toNat) Jv2 ⟨B0,[f],_,rfl,wa,zaj.refl _,?_⟩ ?_ ?_)⟩
   . refine⟨rfl,λi g hg=>?_⟩;have hi:i=0:=by have:=(List.getElem?_eq_some_iff.mp hg).1; simp at this; exact this
     subst hi;cases hg;have b:=beg _ FL bs hFL vb;rw[kv];refine⟨?_,row,?_,b.2⟩
     . rw[fn];have:=(okB _ _ hFL).nm;rw[lF] at this;rw[show(ixT m 0).toNat=m - 1 by unfold ixT; rw[Int.emod_eq_of_lt (by omega) (by omega)]; omega];exact this
     . rw[b.1];unfold dvT;rw[if_neg (by omega)];have:bs%281474976710656=bs:=Int.emod_eq_of_lt vb.1 vb.2;simp [this]
   . rintro j σ H' hj ⟨Hb,fs,v7,rfl,h,sB,dp⟩;rw[qa9] at hj;have hl:=dp.len;obtain⟨fs0,g,rfl⟩:∃fs0 g,fs=fs0++[g]:=by
       rcases qbj fs with e|⟨fs0,g,e⟩
       . rw[e] at hl; simp at hl
       . rw[qbk] at e; exact⟨fs0,g,e⟩
     have hl0:fs0.length=j / 2:=by rw[List.length_append,qa1] at hl; omega
     obtain⟨g1,g2,g3,g4⟩:=dp.at_ _ g (zdr _ _);have bi:=zt3 (m:=m) (by omega) fs0.length;have bi2:=zt3 (m:=m) (by omega) (fs0.length+1);obtain⟨F,hF,hFm⟩:=fat (ixT m fs0.length).toNat (by omega);obtain⟨fnm,fps,pn,pa,hpn,fg⟩:=okB _ F hF;rw[qbv bi.1,zz8] at hpn;have hnF:F.name=g.fn:=by rw[fnm] at g1; exact Option.some.inj g1
     have fgb:=fg.mono sB;by_cases he:j%2=0
     . rw[if_neg (by omega)] at g2;unfold dvT at g3;rw[if_neg (by omega)] at g3;obtain⟨r,hr⟩:∃r,F.rs[0]?=some r:=⟨_,List.getElem?_eq_getElem (by rw[fgb.len]; show 0<3; decide)⟩
       have hq:=fgb.row 0 r (RG.op "n" "+" (.str "n") (.int 1)) hr rfl;have way:=(fgb.way 0 (RG.op "n" "+" (.str "n") (.int 1)) rfl (λ_ z=>by cases z)).1;have gv:(RG.op "n" "+" (.str "n") (.int 1)).gives g.kvs c0=some (("n":Str),V.int ((bs+(j / 2:Nat)+1)%281474976710656)):=by have vv:=vW (bs+fs0.length+0);have e:=zrq (y:="n") (s:="+") (cn:=c0) (a:=.str "n") (b:=.int 1) (j:=1) (show av g.kvs (.str "n")=_ from g3) rfl ⟨vv.1,by decide,vv.2,by decide⟩;rw[e];show some (("n":Str),V.int (((bs+fs0.length+0)%281474976710656+1)%281474976710656))=_;rw[hl0,show((bs+(j / 2:Nat)+0)%281474976710656+1)%281474976710656=(bs+(j / 2:Nat)+1)%281474976710656 by omega]
       exact⟨_,rfl,w.a,_,_,rfl,h.o,rfl,w.a,rfl,.inl ⟨Hb,w,fs0,g,[],c0,fns,F,r,RG.op "n" "+" (.str "n") (.int 1),rfl,h,fl.mono sB,hFm,hnF,by rw[g2]; exact hr,hq.it,by decide,by omega,1,by rw[g2]; exact way,"n",_,gv,λHb2 H2 s2 h2=>⟨_,rfl,jN ⟨Hb2,_,_,rfl,h2,sB.trans s2,dp.op he⟩⟩⟩⟩
     . rw[if_pos (by omega)] at g2;unfold dvT at g3;rw[if_pos (by omega)] at g3;obtain⟨r,hr⟩:∃r,F.rs[1]?=some r:=⟨_,List.getElem?_eq_getElem (by rw[fgb.len]; show 1<3; decide)⟩
       have hq:=fgb.row 1 r (RG.call "n" pn pa [.str "n"]) hr rfl;obtain⟨F',hF',hFm'⟩:=fat (ixT m (fs0.length+1)).toNat (by omega);have hn':F'.name=pn:=by have:=(okB _ F' hF').nm; rw[hpn] at this; exact(Option.some.inj this).symm
       have bg:=beg _ F' ((bs+(j / 2:Nat)+1)%281474976710656) hF' (vW _);refine⟨_,rfl,w.a,_,_,rfl,h.o,rfl,w.a,rfl,.inl ⟨Hb,w,fs0,g,[],c0,fns,F,r,RG.call "n" pn pa [.str "n"],rfl,h,fl.mono sB,hFm,hnF,by rw[g2]; exact hr,hq.it,by decide,by omega,F',[.int ((bs+(j / 2:Nat)+1)%281474976710656)],hFm',hn',hq.ar _ _ _ _ rfl,rfl,λi a v ha hv=>?_,by show 1<=100; decide,by omega,(nlF F' hFm').1,(nlF F' hFm').2,λHb2 H2 f2 s2 h2 e1 e2 e3=>⟨_,rfl,jN ⟨Hb2,_,_,rfl,h2,sB.trans s2,dp.call (by omega) (by rw[e1,hn']; exact hpn) e2 (by rw[e3]; exact bg.1) (by rw[e3]; exact bg.2)⟩⟩⟩⟩
       match i,ha,hv with
       | 0,ha,hv =>
         cases ha;cases hv;show zc9 g.kvs _=_;rw[g3,hl0]
       | i+1,ha,hv=>simp at ha
   rintro σ H1 ⟨B1,fs,v7,rfl,h,sB,dp⟩;rw[qa9] at dp;have hl:=dp.len;have hL:(S:Int) / 2=((S / 2:Nat):Int):=by omega
   have nH:=h.b.seq (sB.seq nB);refine⟨_,rfl,_,_,rfl,rfl,zk7 _ _ (by decide),?_⟩;show zql 9 (V.int ((S:Int) / 2)) _ _ _;rw[hL];have nmi:∀i:Nat,∃nm,ns[(ixT m i).toNat]?=some nm/\atI (ns.map V.str) (ixT m i)=some (.str nm):=λi=>by have bi:=zt3 (m:=m) (by omega) i;have e:=List.getElem?_eq_getElem (l:=ns) (i:=(ixT m i).toNat) (by omega);exact⟨_,e,zi0 bi.1 e⟩
   generalize hSL:S / 2=L at hl hL ⊢;have hL2:2 * L<=S/\S<=2 * L+1:=by omega
   have hid:∀i:Nat,((m:Int) - 1 - (0+(i:Int)))%(m:Int)=ixT m i:=λi=>by unfold ixT; rw[qdz]
   refine⟨_,rfl,_,rfl,by omega,by omega,λu hu=>znr (lo:=0) (n:=(L:Int).toNat) (λi G v=>∃tp nm,v=.ref tp/\G tp=some (.tup [.str nm,.int 1])/\ns[(ixT m i).toNat]?=some nm) (λi v G G' e z=>let ⟨tp,nm,z1,z2,z3⟩:=z; ⟨tp,nm,z1,e _ _ z2,z3⟩) (by omega) hu ?_ ?_⟩
   . intro i G R hi sG ⟨acc,hacc⟩ hR;obtain⟨nm,e1,e2⟩:=nmi i;refine⟨_,rfl,_,rfl,_,_,rfl,rfl,_,rfl,_,_,rfl,rfl,_,rfl,_,_,rfl,rfl,(by omega),nl,_,_,_,rfl,rfl,sG.seq nH,by rw[hid]; exact e2,le2,λtp htp=>hR _ _ (zaj.new htp) ⟨tp,nm,rfl,?_,e1⟩⟩;rw[zcu (λy=>by rw[y,hacc] at htp; cases htp)];exact zab
   rintro G vs sG eG lv tv;rw[qa9] at lv;obtain⟨nL,eL1,eL2⟩:=nmi L;have hidL:((m:Int) - 1 - (L:Int))%(m:Int)=ixT m L:=rfl;refine⟨_,rfl,.inl ⟨rfl,_,SqL.of eG⟩,_,rfl,_,rfl,_,_,rfl,rfl,_,rfl,_,_,rfl,rfl,_,rfl,_,_,rfl,rfl,(by omega),nl,_,_,_,rfl,rfl,sG.seq nH,eL2,_,rfl,_,_,rfl,rfl,(show(0:Int)<2 by decide),le2,λtl htl=>?_⟩;generalize e:upd G tl _=G1;have ⟨w1,k1⟩:=nw e htl;refine⟨u,_,_,rfl,rfl,w1 _ _ eG,zbg (by omega),?_⟩;have s2:zaj H1 (upd G1 u (.lst (vs++[V.ref tl]))):=(sG.trans w1).upd hu;have z2:zaj (ers u G) (upd G1 u (.lst (vs++[V.ref tl]))):=(zgt.trans w1).upd (by unfold ers; rw[if_pos rfl]);have k2:upd G1 u (.lst (vs++[V.ref tl])) tl=_:=(zag (λz=>by rw[z,eG] at htl; cases htl)).trans k1;have e2:=zab (H:=G1) (a:=u) (o:=.lst (vs++[V.ref tl]));generalize upd G1 u (.lst (vs++[V.ref tl]))=G2 at s2 z2 k2 e2 ⊢;have h2:=h.grow s2;have g2:=sB.trans (zbj (H2:=G2) h.b);generalize gr B1 H1 G2=B2 at h2 g2;clear w1 k1 eG sG;refine⟨_,rfl,w.a,_,_,rfl,h2.o,rfl,B2,w,fs,.non,[],c0,rfl,h2,by omega,λl G3 tps hl3 s3 e3 hlen hat=>⟨_,rfl,?_⟩⟩;have hfr:∀i:Nat,i<L+1->∃f nm,fs[i]?=some f/\f.fn=nm/\ns[(ixT m i).toNat]?=some nm/\f.row=(if 2 * i<S then 1 else 0)/\zc9 f.kvs (Sum.inr "n":Key)=some (.int (dvT bs S i)):=λi hi=>by have e:=List.getElem?_eq_getElem (l:=fs) (i:=i) (by omega);obtain⟨a1,a2,a3,a4⟩:=dp.at_ i _ e;exact⟨_,_,e,rfl,a1,a2,a3⟩
   obtain⟨dd,ld,d1,d2⟩:Bg.Twin K G3 2 (.ref l) (.ref u):=Bg.Twin.lst (SqL.of e3) (SqL.of (s3 _ _ e2)) (Bg.TwinA.at (by rw[List.length_map,List.length_append,qa1]; omega) (λi v1 v2 h1 h2=>by
     obtain⟨tp1,g1,_,rfl⟩:=ziy h1;have hi:i<L+1:=by have:=(List.getElem?_eq_some_iff.mp g1).1; omega
     obtain⟨f,nm,hf,rfl,hnm,hrow,_⟩:=hfr i hi;obtain⟨_,_,a3⟩:=hat i f tp1 hf g1;have sn:=(nN _ (List.mem_of_getElem? hnm)).2;rcases zd4 h2 with⟨hi2,h2⟩|⟨hi2,rfl⟩
     . obtain⟨tp2,nm2,rfl,z3,z4⟩:=tv i v2 h2;rw[hnm] at z4;cases z4;rw[if_pos (by omega)] at hrow;exact Bg.Twin.tup (SqT.of a3) (SqT.of (by rw[hrow]; exact s3 _ _ (z2 _ _ z3))) (Bg.TwinA.of (.cons (.str sn) (.cons .int .nil)))
     . rw[lv] at hi2;subst hi2;rw[eL1] at hnm;cases hnm;have er:(S:Int)%2=(f.row:Int):=by rw[hrow]; split <;> omega
       exact Bg.Twin.tup (SqT.of a3) (SqT.of (by rw[<- er]; exact s3 _ _ k2)) (Bg.TwinA.of (.cons (.str sn) (.cons .int .nil)))))
   refine zg8 (by decide) ld d1 d2 ⟨_,rfl,zf7 qam ?_⟩;have h3:=h2.grow s3;have g3:=g2.trans (zbj (H2:=G3) h2.b);generalize gr B2 G2 G3=B3 at h3 g3;have hall:∀f∈fs,∃F∈fns,F.name=f.fn:=λf hf=>by obtain⟨i,hi⟩:=qax hf;obtain⟨a1,_⟩:=dp.at_ i f hi;have bi:=zt3 (m:=m) (by omega) i;obtain⟨F,hF,hFm⟩:=fat (ixT m i).toNat (by omega);have:=(okB _ F hF).nm;rw[a1] at this;exact⟨F,hFm,(Option.some.inj this).symm⟩
   have tell:∀i:Nat,i<L+1->zqa fs fns (i:Int) "n":=λi hi=>by have e:=List.getElem?_eq_getElem (l:=fs) (i:=i) (by omega);obtain⟨F,hF,hn⟩:=hall _ (List.mem_of_getElem? e);obtain⟨k,hk⟩:=qax hF;obtain⟨_,ep,pn,pa,_,fg⟩:=okB k F hk;exact⟨i,_,F,rfl,e,hF,hn,(fg.nm _).mpr (.inl (by rw[ep]; simp))⟩
   obtain⟨fL,_,hfL,_,_,_,hvL⟩:=hfr L (by omega);refine⟨_,rfl,w.a,_,_,rfl,h3.o,rfl,_,rfl,B3,w,fs,.non,[],c0,L,"n",fns,rfl,h3,fl.mono g3,hall,(λ_=>⟨L,fL,_,rfl,hfL,hvL,λG4 s4=>?_⟩),λhno=>absurd (tell L (by omega)) hno⟩;have p48:(2:Int) ^ (48:Int).toNat=281474976710656:=by decide
   refine⟨_,rfl,_,rfl,_,_,rfl,rfl,_,rfl,_,_,rfl,rfl,(show(0:Int)<2 by decide),_,_,rfl,rfl,_,_,rfl,rfl,⟨by decide,by decide,by decide⟩,_,_,rfl,rfl,(show(0:Int)<2 ^ Int.toNat 48 by decide),rfl,_,rfl,zf7 ?_ ?_⟩
   . have:dvT bs S L=(bs+(L:Int)+(S:Int)%2)%(2:Int) ^ (48:Int).toNat:=by rw[p48];unfold dvT;split <;> omega
     simp [this]
   have h4:=h3.grow s4;have g4:=g3.trans (zbj (H2:=G4) h3.b);generalize gr B3 G3 G4=B4 at h4 g4;have bl:=zbz (c / 17) (L+1) (by omega);refine⟨_,rfl,_,_,rfl,rfl,zk7 _ _ (by decide),_,rfl,_,_,rfl,rfl,_,_,rfl,rfl,(by omega),?_⟩;obtain⟨lv2,hlv⟩:∃lv2:Nat,c / 17%((L:Int)+1)=(lv2:Int):=⟨(c / 17%((L:Int)+1)).toNat,by omega⟩
   show zql 11 (V.int (c / 17%((L:Int)+1))) _ _ _;rw[hlv];have hlt:lv2<L+1:=by omega
   have sF:∀G5,zaj G4 G5->zaj H G5:=λG5 s5=>((((tB.trans sB).trans h.b).trans s2).trans s3).trans (s4.trans s5);by_cases hz:lv2=L
   . subst hz;exact⟨_,rfl,_,rfl,rfl,_,rfl,zhl (by simp) (vq (by simp) (q G4 (sF G4 (zaj.refl _))))⟩
   refine⟨_,rfl,_,rfl,rfl,_,rfl,zf7 (by simp; omega) ?_⟩;obtain⟨f5,_,hf5,_,_,_,hv5⟩:=hfr lv2 hlt;have e5:dvT bs S lv2=(bs+(lv2:Int)+1)%(2:Int) ^ (48:Int).toNat:=by rw[p48];unfold dvT;rw[if_pos (by omega)]
   exact⟨_,rfl,w.a,_,_,rfl,h4.o,rfl,_,rfl,B4,w,fs,.non,[],c0,lv2,"n",fns,rfl,h4,fl.mono g4,hall,(λ_=>⟨lv2,f5,_,rfl,hf5,hv5,λG5 s5=>⟨_,rfl,_,rfl,_,_,rfl,rfl,_,_,rfl,rfl,_,_,rfl,rfl,⟨by decide,by decide,by decide⟩,_,_,rfl,rfl,(show(0:Int)<2 ^ Int.toNat 48 by decide),rfl,vq (by simp [e5]) (q G5 (sF G5 s5))⟩⟩),λhno=>absurd (tell lv2 hlt) hno⟩
theorem zio:FnScope ["_law_script","_law_names_here","_law_program_here","_law_args","_law_walker","_law_stack","_law_picks","_law_sent","_law_pick","_law_last","_law_due"] ["_law_script"] (zai zpp):=by walk_at "s"
theorem ok_law (T:Txt K mg t):FnOk P w K mg base CX0 10 t.z3d t.z0m ["_law_script"] (sp_law K):=by
 have G_l_names:=zvp (P:=P) (w:=w) (base:=base) T;have G_l_program:=zrd (P:=P) (w:=w) (base:=base) T;have G_TextWalker_init:=zgv (P:=P) (w:=w) (base:=base) T;have G_l_stream:=zkc (P:=P) (w:=w) (base:=base) T;have G_l_tower:=zu1 (P:=P) (w:=w) (base:=base) T;have G_l_value_by:=zht (P:=P) (w:=w) (base:=base) T;have G_l_frame:=zow (P:=P) (w:=w) (base:=base) T;have G_l_cell_at:=zl7 (P:=P) (w:=w) (base:=base) T;have G_l_worth:=zoq (P:=P) (w:=w) (base:=base) T;have G_l_moved:=zu4 (P:=P) (w:=w) (base:=base) T;have G_l_stands:=zsj (P:=P) (w:=w) (base:=base) T;have G_l_absent:=zsk (P:=P) (w:=w) (base:=base) T;have G_l_whole:=zos (P:=P) (w:=w) (base:=base) T;have G_l_no_step:=zqg (P:=P) (w:=w) (base:=base) T;have G_Walker_sent:=zoc (P:=P) (w:=w) (base:=base) T;have G_Walker_step:=zg5 (P:=P) (w:=w) (base:=base) T;have G_Walker_answer:=zh8 (P:=P) (w:=w) (base:=base) T;have G_Walker_ended:=zf8 (P:=P) (w:=w) (base:=base) T;have G_Walker_frames:=zfn (P:=P) (w:=w) (base:=base) T;refine T.law.F.ok zio (λvs H Q E h=>?_) (λcdv A outer s H vs Q E hr h=>?_)
 . obtain⟨a,sc,rfl,ha,hn,q⟩:=h;rfl
 . skip
   refine(let XX:Cx:=(zkk CX0 P w K mg base ["_law_script","_law_names_here","_law_program_here","_law_args","_law_walker","_law_stack","_law_picks","_law_sent","_law_pick","_law_last","_law_due"] "law" (zai zpp) t.z3d cdv A outer s H E).nox; ?_);refine(let W8_3:TS:=_; have hW8_3:PSs XX ((sB ((zaw zpp).getD 8 (.Pass ⟨0,0,0,0⟩))).drop 3) W8_3:=(@zac _ _ _ _ _ (@zbd _ _ _ _ _ _ _ _ (@zar _ _ _ _ _ _ _ _ (ztm hr.units) (zdb (pv 4) T.zae.cl T.zd9.m G_Walker_step (hr.mono (by decide)) T.zd9.b .nil zlq) (pv 10) (zax _)) (@zah _ _ _ (@zas _ _ _ _ zj4)) zan) (@zac _ _ _ _ _ (@zbd _ _ _ _ _ _ _ _ (zoz (zsm (pv 10))) (@zah _ _ _ (@zbp _ _ _ _ (zhm qat qaz qa0 zb0 (pv 7) (@zaa _ _ _ _ _ (@zal _ _ _ _ _ _ _ zaq (pv 10) zad (λ_ _=>rfl)) zaf (by rfl))) (by rfl))) zan) (@zah _ _ _ (@zbd _ _ _ _ _ _ _ _ (@zar _ _ _ _ _ _ _ _ (zuh hr.units) (pv 5) (@zc1 _ _ _ _ zaf) (zax _)) (@zah _ _ _ zyz) zan)))); ?_);refine(let W8_1:TS:=_; have hW8_1:PSs XX ((sB ((zaw zpp).getD 8 (.Pass ⟨0,0,0,0⟩))).drop 1) W8_1:=(@zac _ _ _ _ _ (@zay _ _ 9 _ _ _ _ zio.nd rfl (Or.inl rfl) (zbv T.zi9 G_l_worth (hr.mono (by decide)) (@zaa _ _ _ _ _ (@zal _ _ _ _ _ _ _ zaq (@zal _ _ _ _ _ _ _ zaq (@zal _ _ _ _ _ _ _ zaq (@zal _ _ _ _ _ _ _ zap (@zal _ _ _ _ _ _ _ zap (pv 5) (ziq zfd zad) (λ_ _=>rfl)) zad (λ_ _=>rfl)) zad (λ_ _=>rfl)) (@zal _ _ _ _ _ _ _ zap (@zal _ _ _ _ _ _ _ zap (pv 5) (ziq zfd zad) (λ_ _=>rfl)) zad (λ_ _=>rfl)) (λ_ _=>rfl)) zad (λ_ _=>rfl)) (@zaa _ _ _ _ _ (@zal _ _ _ _ _ _ _ zap (@zal _ _ _ _ _ _ _ zap (pv 5) (ziq zfd zad) (λ_ _=>rfl)) zad (λ_ _=>rfl)) zaf (by rfl)) (by rfl))) (by rfl) (by first|exact .inl rfl|exact .inr rfl|assumption)) (@zac _ _ _ _ _ (@zay _ _ 10 _ _ _ _ zio.nd rfl (Or.inl rfl) (zbv T.zyl G_l_moved (hr.mono (by decide)) (@zaa _ _ _ _ _ (pv 5) (@zaa _ _ _ _ _ (pv 2) zaf (by rfl)) (by rfl))) (by rfl) (by first|exact .inl rfl|exact .inr rfl|assumption)) hW8_3)); ?_);refine(let W8:TS:=_; have hW8:PSs XX ((zaw zpp).drop 8) W8:=(@zpg _ _ _ _ _ (zea PassesOwn.never rfl (zgc (pv 6)) (za0 (i:=8) zio.nd rfl (Or.inl rfl)) (@zac _ _ _ _ _ (@zbd _ _ _ _ _ _ _ _ (@PW.pt _ _ _ (zob (zjt (zf9 (zbv T.zuo G_l_stands (hr.mono (by decide)) (@zaa _ _ _ _ _ (pv 4) (@zaa _ _ _ _ _ (pv 5) (@zaa _ _ _ _ _ (pv 1) (@zaa _ _ _ _ _ (pv 8) zaf (by rfl)) (by rfl)) (by rfl)) (by rfl))))) (zmy (zjt (zf9 (zbv T.zp4 G_l_absent (hr.mono (by decide)) (@zaa _ _ _ _ _ (pv 4) (@zaa _ _ _ _ _ (zbm zcb (by rfl) T.b_len zjs (@zaa _ _ _ _ _ (pv 5) zaf (by rfl))) (@zaa _ _ _ _ _ (pv 1) (@zaa _ _ _ _ _ (pv 8) zaf (by rfl)) (by rfl)) (by rfl)) (by rfl)))))))) (@zah _ _ _ (@zas _ _ _ _ zj4)) zan) hW8_1)) (@zac _ _ _ _ _ (@zbd _ _ _ _ _ _ _ _ (@zar _ _ _ _ _ _ _ _ (zuh hr.units) (pv 5) (@zc1 _ _ _ _ zaf) (zax _)) (@zac _ _ _ _ _ (@zbd _ _ _ _ _ _ _ _ (@PW.pt _ _ _ (zob (@zar _ _ _ _ _ _ _ _ z1n (zdb (pv 4) T.zae.cl T.zds.m G_Walker_ended (hr.mono (by decide)) T.zds.b .nil zcq) zj4 (zax _)) (zob (zjt (zf9 (zbv T.zp5 G_l_whole (hr.mono (by decide)) (@zaa _ _ _ _ _ (zdb (pv 4) T.zae.cl T.zb9.m G_Walker_answer (hr.mono (by decide)) T.zb9.b .nil zcq) zaf (by rfl))))) (zmy (@zar _ _ _ _ _ _ _ _ zwl (zdb (pv 4) T.zae.cl T.zb9.m G_Walker_answer (hr.mono (by decide)) T.zb9.b .nil zcq) (pv 9) (zax _)))))) (@zah _ _ _ (@zas _ _ _ _ zj4)) zan) (@zac _ _ _ _ _ (@zbd _ _ _ _ _ _ _ _ (@PW.pt _ _ _ (zob (@zar _ _ _ _ _ _ _ _ (ztm hr.units) (zdb (pv 4) T.zae.cl T.zdf.m G_Walker_frames (hr.mono (by decide)) T.zdf.b .nil zcq) (@zc1 _ _ _ _ zaf) (zax _)) (zob (zjt (zf9 (zbv T.zr6 G_l_no_step (hr.mono (by decide)) (@zaa _ _ _ _ _ (pv 4) zaf (by rfl))))) (zmy (zjt (zf9 (zbv T.zp4 G_l_absent (hr.mono (by decide)) (@zaa _ _ _ _ _ (pv 4) (@zaa _ _ _ _ _ zad (@zaa _ _ _ _ _ (pv 1) (@zaa _ _ _ _ _ (@zal _ _ _ _ _ _ _ zap (pv 6) zad (λ_ _=>rfl)) zaf (by rfl)) (by rfl)) (by rfl)) (by rfl))))))))) (@zah _ _ _ (@zas _ _ _ _ zj4)) zan) (@zah _ _ _ (@zbd _ _ _ _ _ _ _ _ (@zar _ _ _ _ _ _ _ _ zwl (zdb (pv 4) T.zae.cl T.zb9.m G_Walker_answer (hr.mono (by decide)) T.zb9.b .nil zcq) (pv 9) (zax _)) (@zah _ _ _ (@zas _ _ _ _ zj4)) zan)))) zan) (@zah _ _ _ (@zas _ _ _ _ (zg7 (z4m hr.units) (zdb (pv 4) T.zae.cl T.zki.m G_Walker_sent (hr.mono (by decide)) T.zki.b .nil zcq) (pv 7) (zax _)))))); ?_);obtain⟨a,sc,rfl,ha,hn,q⟩:=h;refine⟨_,(@zac _ _ _ _ _ (@zay _ _ 1 _ _ _ _ zio.nd rfl (Or.inl rfl) (zbv T.zym G_l_names (hr.mono (by decide)) (@zaa _ _ _ _ _ (@zao _ _ _ _ _ _ _ _ zcv (@zao _ _ _ _ _ _ _ _ zjw (@zao _ _ _ _ _ _ _ _ zc6 (zbv T.zfl G_l_cell_at (hr.mono (by decide)) (@zaa _ _ _ _ _ (pv 0) (@zaa _ _ _ _ _ zad zaf (by rfl)) (by rfl))) zad) zad) (@zao _ _ _ _ _ _ _ _ za5 (zbv T.zfl G_l_cell_at (hr.mono (by decide)) (@zaa _ _ _ _ _ (pv 0) (@zaa _ _ _ _ _ zad zaf (by rfl)) (by rfl))) zad)) (@zaa _ _ _ _ _ zad zaf (by rfl)) (by rfl))) (by rfl) (by first|exact .inl rfl|exact .inr rfl|assumption)) (@zac _ _ _ _ _ (@zbd _ _ _ _ _ _ _ _ (zjt (zf9 (zbv T.zyn G_l_tower (hr.mono (by decide)) (@zaa _ _ _ _ _ (pv 1) (@zaa _ _ _ _ _ (zbv T.zfl G_l_cell_at (hr.mono (by decide)) (@zaa _ _ _ _ _ (pv 0) (@zaa _ _ _ _ _ zad zaf (by rfl)) (by rfl))) zaf (by rfl)) (by rfl))))) (@zah _ _ _ (@zas _ _ _ _ zj4)) zan) (@zac _ _ _ _ _ (@zay _ _ 2 _ _ _ _ zio.nd rfl (Or.inl rfl) (zbv T.zr7 G_l_program (hr.mono (by decide)) (@zaa _ _ _ _ _ (pv 0) (@zaa _ _ _ _ _ (pv 1) zaf (by rfl)) (by rfl))) (by rfl) (by first|exact .inl rfl|exact .inr rfl|assumption)) (@zac _ _ _ _ _ (@zay _ _ 3 _ _ _ _ zio.nd rfl (Or.inl rfl) (@zc1 _ _ _ _ (@zaa _ _ _ _ _ (zbv T.zjl G_l_value_by (hr.mono (by decide)) (@zaa _ _ _ _ _ (@zao _ _ _ _ _ _ _ _ za5 (zbv T.zfl G_l_cell_at (hr.mono (by decide)) (@zaa _ _ _ _ _ (pv 0) (@zaa _ _ _ _ _ zad zaf (by rfl)) (by rfl))) zad) zaf (by rfl))) zaf (by rfl))) (by rfl) (by first|exact .inl rfl|exact .inr rfl|assumption)) (@zac _ _ _ _ _ (@zay _ _ 4 _ _ _ _ zio.nd rfl (Or.inl rfl) (zzb T.zae T.zgi G_TextWalker_init (hr.mono (by decide)) (@zaa _ _ _ _ _ (pv 2) (@zaa _ _ _ _ _ (pv 3) zaf (by rfl)) (by rfl))) (by rfl) (by first|exact .inl rfl|exact .inr rfl|assumption)) (@zac _ _ _ _ _ (@zay _ _ 5 _ _ _ _ zio.nd rfl (Or.inl rfl) (@zc1 _ _ _ _ (@zaa _ _ _ _ _ (zbv T.zth G_l_frame (hr.mono (by decide)) (@zaa _ _ _ _ _ (@zal _ _ _ _ _ _ _ zap (pv 2) (ziq zfd zad) (λ_ _=>rfl)) (@zaa _ _ _ _ _ (pv 3) zaf (by rfl)) (by rfl))) zaf (by rfl))) (by rfl) (by first|exact .inl rfl|exact .inr rfl|assumption)) (@zac _ _ _ _ _ (@zay _ _ 6 _ _ _ _ zio.nd rfl (Or.inl rfl) (zbv T.zmv G_l_stream (hr.mono (by decide)) (@zaa _ _ _ _ _ (zbv T.zfl G_l_cell_at (hr.mono (by decide)) (@zaa _ _ _ _ _ (pv 0) (@zaa _ _ _ _ _ zad zaf (by rfl)) (by rfl))) (@zaa _ _ _ _ _ zad zaf (by rfl)) (by rfl))) (by rfl) (by first|exact .inl rfl|exact .inr rfl|assumption)) (@zac _ _ _ _ _ (@zay _ _ 7 _ _ _ _ zio.nd rfl (Or.inl rfl) (@zc1 _ _ _ _ zaf) (by rfl) (by first|exact .inl rfl|exact .inr rfl|assumption)) hW8)))))))),?_⟩;refine⟨_,rfl,a,sc,0,rfl,ha,hn,by decide,λk0=>⟨_,_,rfl,rfl,zk7 _ _ (by decide),_,_,rfl,rfl,.inr ⟨by decide,by decide⟩,?_⟩⟩;refine⟨_,rfl,a,sc,0,rfl,ha,hn,by decide,λk1=>⟨_,_,rfl,rfl,(show(0:Int)<4 by decide),_,_,rfl,rfl,_,12,rfl,by decide,λnl H1 ns hnl s1 e1 n12 nok=>?_⟩⟩;refine⟨_,rfl,_,rfl,a,sc,2,rfl,s1.seq ha,hn,by decide,λc2=>⟨nl,ns,c2,rfl,SqL.of e1,n12,nok,λH2 s2=>⟨_,rfl,jN ?_⟩⟩⟩;have s12:=s1.trans s2;refine⟨_,rfl,_,rfl,a,nl,sc,ns,rfl,s12.seq ha,hn,SqL.of (s2 _ _ e1),n12,nok,λpl H3 ps ar hpl s3 P har=>?_⟩;have s13:=s12.trans s3;refine⟨_,rfl,a,sc,0,rfl,s13.seq ha,hn,by decide,λc4=>⟨_,_,rfl,rfl,(show(0:Int)<2147483647 by decide),_,rfl,λv hv=>⟨le1,λal hal=>?_⟩⟩⟩;generalize e:upd H3 al _=H4;have ⟨s4,k4⟩:=nw e hal;have a4:=(s13.trans s4).seq ha;have n4:=(s3.trans s4) _ _ (s2 _ _ e1);have P4:=P.mono s4;refine⟨_,rfl,_,rfl,λx dx hx hdx ndx=>?_⟩;have sX:=zqs (o1:=HO.own x) (o2:=HO.ins t.zak dx []) hx hdx;have lps:=P.len;obtain⟨⟨F1,r1⟩,hp1⟩:∃p,ps[2]?=some p:=⟨_,List.getElem?_eq_getElem (by omega)⟩
   have ok1:=P4.ok 2 _ hp1;have hF1:(ps.map (·.1))[(ps.map (·.1)).length - 1]?=some F1:=by rw[List.length_map,lps,List.getElem?_map,hp1]; rfl
   have p1l:F1.ps.length=1:=by have:=ok1.pl; rw[har] at this; exact(Option.some.inj this).symm
   have ndF:((ps.map (·.1)).map (·.name)).Nodup:=by
     have e:(ps.map (·.1)).map (·.name)=(ns.drop 6).take 3:=by
       refine qcj λk=>?_;rw[List.getElem?_map,List.getElem?_map];rcases qa7 k 3 with hk|hk
       . have hg:=List.getElem?_eq_getElem (l:=ps) (i:=k) (by omega);rw[hg,qbp hk,List.getElem?_drop,(P4.ok k _ hg).nm];rfl
       . rw[qbb (by omega),qbb (by rw[qay]; omega)];rfl
     rw[e];exact nok.nd.sublist ((qds _ _).trans (List.drop_sublist _ _))
   refine⟨x,dx,pl,al,ps.map (·.1),F1,[.int v],rfl,zab,SqL.of (by show _=some (HO.lst ((ps.map (·.1)).map λf=>V.ref f.fa)); rw[qbt]; exact sX _ _ P4.e),(λz=>by have:=congrArg List.length z; rw[List.length_map,lps] at this; simp at this),by rw[List.length_map]; omega,(λf hf=>by obtain⟨p,hp,rfl⟩:=List.mem_map.mp hf;obtain⟨i,hi⟩:=qax hp;exact(P4.ok i p hi).fg.at_.mono sX),ndF,hF1,SqL.of (sX _ _ k4),by simp,Nat.le_trans ok1.fg.nl (by decide),by show F1.ps.length<=1000; omega,λB0 w f Hw hw sb wa fl fn row kv=>⟨rfl,?_⟩⟩
   subst hw;have sB:=sX.trans sb;have aB:=sB.seq a4;have nB:=sB _ _ n4;have PB:=P4.mono sB;have kB:=sB _ _ k4;have okB:=PB.ok 2 _ hp1;clear a4 n4 P4 k4 sX sb s4 s3 s2 s1 hx hdx e1 hpl hnl hal P sB s12 s13 ok1;have vi:∀u∈[V.int v],∃i,u=.int i/\Val i:=λu hu=>by rw[List.mem_singleton.mp hu]; exact⟨v,rfl,hv⟩
   have atp:atI (fas ps) (-1)=some (V.ref F1.fa):=by
     obtain⟨l0,e⟩:∃l0,ps=l0++[(F1,r1)]:=by
       rcases qbj ps with e|⟨l0,y,e⟩
       . rw[e] at lps; simp at lps
       . rw[qbk] at e;rw[e] at hp1 lps;have:l0.length=2:=by simpa using lps
         rw[<- this,zdr] at hp1;cases hp1;exact⟨l0,e⟩
     rw[e];show atI (List.map _ (l0++_)) _=_;rw[List.map_append];exact zmo _ _
   refine⟨_,rfl,_,rfl,pl,_,_,_,rfl,rfl,SqL.of (wa.b _ _ PB.e),atp,_,rfl,F1,r1,al,[.int v],rfl,okB.fg.mono wa.b,SqL.of (wa.b _ _ kB),by rw[p1l]; rfl,vi,λl d H5 kvs hl hd hld s5 e5l e5d alk=>⟨le1,λsk hsk=>?_⟩⟩;have s6:=s5.trans (zaj.new (o:=.lst [V.ref l]) hsk);have e6l:=(zaj.new (o:=.lst [V.ref l]) hsk) _ _ e5l;have e6d:=(zaj.new (o:=.lst [V.ref l]) hsk) _ _ e5d;have e6s:=zab (H:=H5) (a:=sk) (o:=.lst [V.ref l]);have hskw:Hw sk=none:=s5.free hsk;have nls:l≠sk:=λz=>by rw[z,hsk] at e5l; cases e5l
   generalize upd H5 sk (.lst [V.ref l])=H6 at s6 e6l e6d e6s ⊢;refine⟨_,rfl,a,sc,1,rfl,s6.seq (wa.b.seq aB),hn,by decide,λc3=>⟨c3,40,rfl,by decide,λzl H7 zs hzl s7 e7 lz nn=>?_⟩⟩;refine⟨le0,λsl hsl=>?_⟩;generalize e:upd H7 sl _=H8;have ⟨s8,e8⟩:=nw e hsl;have s68:=(s6.trans s7).trans s8;have s78:=s7.trans s8;have hzw:Hw zl=none:=s6.free hzl;have hlw:Hw sl=none:=(s6.trans s7).free hsl;have wa7:=wa.grow s68;have b7:=zbj (H2:=H8) wa.b;have gl:gr B0 Hw H8 l=_:=znn hl (s78 _ _ e6l);have gd:gr B0 Hw H8 d=_:=znn hd (s78 _ _ e6d);have gs:gr B0 Hw H8 sk=_:=znn hskw (s78 _ _ e6s);have gz:gr B0 Hw H8 zl=_:=znn hzw (s8 _ _ e7);have gS:gr B0 Hw H8 sl=_:=znn hlw e8;generalize gr B0 Hw H8=B7 at wa7 b7 gl gd gs gz gS;have z0:B0 zl=none:=wa.b.free hzw;have ne8:∀{b:Addr} {o:HO},H7 b=some o->b≠sl:=λh z=>by rw[z,hsl] at h; cases h
   have ne7:∀{b:Addr} {o:HO},H6 b=some o->b≠zl:=λh z=>by rw[z,hzl] at h; cases h
   have q0:zaj B0 (upd B0 zl (.lst (zs.map V.int))):=zaj.new z0;have q7:zaj (upd B0 zl (.lst (zs.map V.int))) B7:=λb o hb=>by
     by_cases z:b=zl
     . rw[z,zab] at hb; rw[z,gz]; exact hb
     . rw[zag z] at hb; exact b7 _ _ hb
   have qz:=zab (H:=B0) (a:=zl) (o:=.lst (zs.map V.int));have ql:upd B0 zl (.lst (zs.map V.int)) l=none:=by rw[zag (ne7 e6l)]; exact wa.b.free hl
   have qd:upd B0 zl (.lst (zs.map V.int)) d=none:=by rw[zag (ne7 e6d)]; exact wa.b.free hd
   have qs:upd B0 zl (.lst (zs.map V.int)) sk=none:=by rw[zag (ne7 e6s)]; exact wa.b.free hskw
   have qS:upd B0 zl (.lst (zs.map V.int)) sl=none:=by rw[zag (ne8 e7).symm]; exact wa.b.free hlw
   generalize upd B0 zl (.lst (zs.map V.int))=H0 at q0 q7 qz ql qd qs qS;have P0:=PB.mono q0;have n0:=q0 _ _ nB;have fl0:=fl.mono q0;have S0:Sta K t (RFp ps) H0 B7 H8 w [f] (ps.map (·.1)) sk [⟨l,d,F1,0,kvs⟩] sl [] []:=by
     refine⟨wa7,fl0,q7,⟨gs,(λy hy=>by rw[List.mem_singleton.mp hy]; exact⟨gl,gd⟩),by simp,by simp,(λy hy=>by rw[List.mem_singleton.mp hy]; exact nls)⟩,λb hb=>?_,rfl,by show 1<=100; decide,λi g y hg hy=>?_,gS,λhb=>?_,qS⟩
     . unfold adL at hb;simp only[qa2,qcm,List.mem_cons,List.mem_append,qbi,or_false] at hb;rcases hb with rfl|rfl|rfl
       . exact qs
       . exact ql
       . exact qd
     . have hi:i=0:=by have:=(List.getElem?_eq_some_iff.mp hg).1; simp at this; exact this
       subst hi;cases hg;cases hy;exact⟨fn,row,List.mem_map.mpr ⟨_,List.mem_of_getElem? hp1,rfl⟩,by rw[kv]; exact alk,r1,⟨2,hp1⟩,(P0.ok 2 _ hp1).fg,(P0.ok 2 _ hp1).l0,λz=>by simp at z⟩
     . unfold adL at hb;simp only[qa2,qcm,List.mem_cons,List.mem_append,qbi,or_false] at hb;rcases hb with h|h|h
       . exact ne8 (s7 _ _ e6s) h.symm
       . exact ne8 (s7 _ _ e6l) h.symm
       . exact ne8 (s7 _ _ e6d) h.symm
   clear gl gd gs gz gS b7 wa7 ql qd qs qS ne7 ne8 z0 e6l e6d e6s e5l e5d s5 s6 s7 s8 s68 s78 hzw hlw hskw nls hsk hsl hzl hl hd hld;have wT:∀F∈ps.map (·.1),∀n∈F2.nms F,n∈ns.take 6:=λF hF n hn=>by obtain⟨p,hp,rfl⟩:=List.mem_map.mp hF;obtain⟨i,hi⟩:=qax hp;exact(P0.ok i p hi).nT n hn
   refine⟨λσ H'=>∃(v8 v9 v10:Option V) (sent:List V),σ=[some (.ref a),some (.ref nl),some (.ref pl),some (.ref al),some (.ref w.a),some (.ref sk),some (.ref zl),some (.ref sl),v8,v9,v10]/\sent.length<=50/\(∀u∈sent,∃z,u=V.int z)/\((∃Hb fs xs,xs≠[]/\H' sk=some (.lst xs)/\WA t Hb H' w fs .non sent ⟨[],0⟩/\Hb sl=some (.lst sent))\/(H' sk=some (.lst [])/\∃Hb z,WA t Hb H' w [] (.int z) sent ⟨[],0⟩/\zaj H0 Hb/\Hb sl=some (.lst sent)/\v9=some (.int z))),?_,?_⟩
   . refine⟨_,rfl,zl,rfl,⟨_,SqL.of (S0.wa.b _ _ (S0.s0 _ _ qz))⟩,(let Jv1:Nat->St->Hp->Prop:=λi σ H'=>∃(v8 v9 v10:Option V) (Hb:Hp) (fs:List Fm) (ls:List Lf) (sent:List V),σ=[some (.ref a),some (.ref nl),some (.ref pl),some (.ref al),some (.ref w.a),some (.ref sk),some (.ref zl),some (.ref sl),v8,v9,v10]/\Sta K t (RFp ps) H0 Hb H' w fs (ps.map (·.1)) sk ls sl sent sent/\ls≠[]/\fs.length<=i+1/\sent.length<=i/\∀u∈sent,∃z,u=V.int z; zk5 (xs:=zs.map V.int) Jv1 ⟨_,_,_,B7,_,_,[],rfl,S0,by simp,qae _,qae _,λu hu=>by cases hu⟩ ?_ ?_ ?_)⟩
     . rintro i σ H' hi ⟨v8,v9,v10,Hb,fs,ls,sent,rfl,S,hne,hlf,hls,hin⟩;exact SqL.of (S.wa.b _ _ (S.s0 _ _ qz))
     . rintro i p σ H' hp ⟨v8,v9,v10,Hb,fs,ls,sent,rfl,S,hne,hlf,hls,hin⟩;obtain⟨z,hz,hzm,rfl⟩:=ziy hp;have hi40:i<40:=by rw[<- lz]; exact(List.getElem?_eq_some_iff.mp hz).1
       have hz0:=(nn z hzm).1;refine⟨_,rfl,_,rfl,_,rfl,_,rfl,RFp ps,H0,Hb,w,fs,ps.map (·.1),sk,nl,sl,ls,sent,sent,ns,z,rfl,S,hne,SqL.of n0,by omega,hz0,λH2 s2=>⟨_,rfl,jN ?_⟩⟩;have S2:=S.grow s2;generalize gr Hb H' H2=B2 at S2;have len2:=S2.len;refine⟨_,rfl,_,rfl,sk,_,rfl,.inl (SqL.of (S2.wa.b _ _ S2.st.e)),_,rfl,_,rfl,B2,w,fs,.non,sent,⟨[],0⟩,nl,ns,ps.map (·.1),z,(by show [V.ref w.a,V.int ((ls.map λx:Lf=>V.ref x.l).length:Nat),V.ref nl,V.int z]=_; rw[List.length_map,<- len2]),S2.wa,S2.fl.mono S2.s0,S2.hall,SqL.of (S2.wa.b _ _ (S2.s0 _ _ n0)),n12,nok.nd,wT,hz0,by omega,λH3 s3=>⟨_,rfl,jN ?_⟩⟩;have S3:=S2.grow s3;generalize gr B2 H2 H3=B3 at S3;clear S S2 s2 s3;obtain⟨ls0,x,rfl⟩:∃ls0 x,ls=ls0++[x]:=by
         rcases qbj ls with e|⟨l0,x,e⟩
         . exact absurd e hne
         . rw[qbk] at e; exact⟨l0,x,e⟩
       obtain⟨fs0,f3,rfl⟩:∃fs0 f3,fs=fs0++[f3]:=by
         rcases qbj fs with e|⟨l0,x,e⟩
         . rw[e] at len2; simp at len2
         . rw[qbk] at e; exact⟨l0,x,e⟩
       have hl03:fs0.length=ls0.length:=by simpa using len2
       have hl04:fs0.length<=i:=by rw[List.length_append,qa1] at hlf; omega
       obtain⟨m1,m2,m3,al3,rgs,hrf,fg,hlt,_⟩:=S3.tw ls0.length f3 x (by rw[<- hl03]; exact zdr _ _) (zdr _ _);obtain⟨rg,hrg⟩:∃rg,rgs[x.at_]?=some rg:=⟨_,List.getElem?_eq_getElem hlt⟩
       obtain⟨r,hr⟩:∃r,x.F.rs[x.at_]?=some r:=⟨_,List.getElem?_eq_getElem (by rw[fg.len]; exact hlt)⟩
       have hq:=fg.row _ _ _ hr hrg;obtain⟨u,zv,hu1,hu2,hu3⟩:=z1y fg (List.mem_of_getElem? hrg) al3;have s03:=S3.s0.trans S3.wa.b;have st3:=S3.st.mono S3.wa.b;have skH:=st3.e;have fx:=st3.fr x ztu;have hat:atI (x.F.rs.map λw=>V.ref w.r) (x.at_:Int)=some (.ref r.r):=zc7 (by rw[List.getElem?_map,hr]; rfl);have lk3:=al3.l;refine⟨_,rfl,_,rfl,sk,_,_,_,rfl,rfl,SqL.of skH,zhq _ _,x.l,_,_,_,rfl,rfl,SqL.of fx.1,at0,x.F.fa,_,_,_,rfl,rfl,s03.tup fg.at_.fn,rfl,_,rfl,_,rfl,sk,_,_,_,rfl,rfl,SqL.of skH,zhq _ _,x.l,_,_,_,rfl,rfl,SqL.of fx.1,rfl,x.F.ra,_,_,_,rfl,rfl,s03.tup fg.at_.rw_,hat,r.r,_,_,_,rfl,rfl,s03.tup hq.it,zc7 (j:=1) hu1,_,rfl,_,rfl,sk,_,_,_,rfl,rfl,SqL.of skH,zhq _ _,x.l,_,_,_,rfl,rfl,SqL.of fx.1,rfl,u,.int zv,x.d,x.kvs,rfl,fx.2,hu2,?_⟩;refine⟨_,rfl,_,rfl,sk,pl,ls0,x,rgs,rg,ps,ns,ar,rfl,st3,P0.mono s03,(λhb=>by have:=S3.no _ hb; rw[P0.e] at this; cases this),nok.nd,fg.mono s03,hrg,by omega,by omega,?_⟩;refine zw5 S3 P0 hrf fg hrg (by omega) (λHb1 H1 dv wa1 s1 st1=>⟨_,rfl,w.a,_,_,rfl,wa1.o,rfl,w.a,rfl,.inl ⟨Hb1,w,fs0,f3,sent,c0,ps.map (·.1),x.F,r,rg,rfl,wa1,S3.fl.mono s1,m3,m1.symm,by rw[m2]; exact hr,s1.tup hq.it,by omega,by omega,st1⟩⟩) ?_ ?_ ?_
       . intro Hb4 H4 fs4 ls4 S4 hne4 hl4;obtain⟨dd,ld,d1,d2⟩:Bg.Twin K H4 0 .non .non:=Bg.Twin.of .non;refine⟨_,rfl,zg8 (by decide) ld d1 d2 ⟨_,rfl,zf7 qam ⟨_,rfl,_,rfl,jN ?_⟩⟩⟩;refine⟨_,rfl,le0,λe he=>⟨sk,e,_,rfl,rfl,SqL.of ((zaj.new he) _ _ (S4.wa.b _ _ S4.st.e)),SqL.of zab,_,rfl,zf7 (by simpa using hne4) ?_⟩⟩;exact⟨_,_,_,_,_,_,sent,rfl,S4.grow (zaj.new he),hne4,by omega,by omega,hin⟩
       . intro Hb4 H4 fs4 ls4 tp tq v4 S4 hne4 hl4 etp etq;have etp4:=S4.wa.b _ _ etp;obtain⟨dd,ld,d1,d2⟩:Bg.Twin K H4 1 (.ref tq) (.ref tp):=Bg.Twin.tup (SqT.of (S4.wa.b _ _ etq)) (SqT.of etp4) (Bg.TwinA.of (.cons (.str (by decide +kernel)) (.cons .int .nil)));refine⟨_,rfl,zg8 (by decide) ld d1 d2 ⟨_,rfl,zf7 qam ⟨_,rfl,_,rfl,zhl (by simp) ?_⟩⟩⟩;refine⟨_,rfl,.inl ⟨rfl,_,SqL.of (S4.wa.b _ _ S4.se)⟩,_,rfl,tp,_,_,_,rfl,rfl,SqT.of etp4,rfl,sl,_,_,rfl,rfl,S4.wa.b _ _ S4.se,zbg (by omega),?_⟩;have S5:=S4.snd (sv':=sent++[.int v4]);generalize upd H4 sl (.lst (sent++[.int v4]))=H5 at S5 ⊢;generalize upd Hb4 sl (.lst (sent++[.int v4]))=B5 at S5;refine⟨_,rfl,le0,λe he=>⟨sk,e,_,rfl,rfl,SqL.of ((zaj.new he) _ _ (S5.wa.b _ _ S5.st.e)),SqL.of zab,_,rfl,zf7 (by simpa using hne4) ?_⟩⟩;refine⟨_,_,_,_,_,_,sent++[.int v4],rfl,S5.grow (zaj.new he),hne4,by omega,by rw[List.length_append,qa1]; omega,λy hy=>?_⟩;rcases List.mem_append.mp hy with hy|hy
         . exact hin y hy
         . exact⟨v4,List.mem_singleton.mp hy⟩
       . intro Hb4 H4 ba bv hb hbv wa4 s4 hsk4 hsl4;have:bv=.int zv:=by have:=hu3 ba hb;rw[<- this,hu2] at hbv;cases hbv;rfl
         subst this;obtain⟨dd,ld,d1,d2⟩:Bg.Twin K H4 0 .non .non:=Bg.Twin.of .non;refine⟨_,rfl,zg8 (by decide) ld d1 d2 ⟨_,rfl,zf7 qam ⟨_,rfl,_,rfl,jN ?_⟩⟩⟩;refine⟨_,rfl,le0,λe he=>⟨sk,e,_,rfl,rfl,SqL.of ((zaj.new he) _ _ (wa4.b _ _ hsk4)),SqL.of zab,_,rfl,zhl (by simp) ?_⟩⟩;have g4:=zbj (H2:=upd H4 e (.lst [])) wa4.b;exact⟨_,_,_,sent,rfl,by omega,hin,.inr ⟨(zaj.new he) _ _ (wa4.b _ _ hsk4),_,zv,wa4.grow (zaj.new he),s4.trans g4,g4 _ _ hsl4,rfl⟩⟩
     . rintro σ H' ⟨v8,v9,v10,Hb,fs,ls,sent,rfl,S,hne,hlf,hls,hin⟩;exact⟨_,_,_,sent,rfl,by rw[List.length_map,lz] at hls; omega,hin,.inl ⟨Hb,fs,_,by simpa using hne,S.wa.b _ _ S.st.e,S.wa,S.se⟩⟩
   rintro σ H' ⟨v8,v9,v10,sent,rfl,hls,hin,h⟩;have fin:∀Hb H2 fs oc,WA t Hb H2 w fs oc sent ⟨[],0⟩->Hb sl=some (.lst sent)->∀u,H2 u=none->Bg.Twin K (upd H2 u (.lst sent)) 1 (.ref u) (.ref sl):=λHb H2 fs oc hw hs u hu=>Bg.Twin.lst (SqL.of zab) (SqL.of (zaj.new hu _ _ (hw.b _ _ hs))) (Bg.TwinA.of (Bg.HasA.of λy hy=>by obtain⟨z,rfl⟩:=hin y hy; exact .int));rcases h with⟨Hb,fs,xs,hxs,hsk1,hw,hs1⟩|⟨hsk1,Hb,z,hw,sH,hs1,rfl⟩
   . refine⟨_,rfl,le0,λe he=>⟨sk,e,_,rfl,rfl,SqL.of ((zaj.new he) _ _ (hsk1)),SqL.of zab,_,rfl,zf7 (by simpa using hxs) ?_⟩⟩;have h2:=hw.grow (zaj.new (o:=.lst []) he);have g2:=zbj (H2:=upd H' e (.lst [])) hw.b;refine⟨_,rfl,w.a,_,_,rfl,h2.o,rfl,_,w,fs,.non,sent,⟨[],0⟩,rfl,h2,λu hu=>⟨_,rfl,?_⟩⟩;obtain⟨dd,ld,d1,d2⟩:=fin _ _ _ _ h2 (g2 _ _ hs1) u hu;exact zp9 (by decide) ld d1 d2 (q _)
   . refine⟨_,rfl,le0,λe he=>⟨sk,e,_,rfl,rfl,SqL.of ((zaj.new he) _ _ (hsk1)),SqL.of zab,_,rfl,zhl (by simp) ?_⟩⟩;have h2:=hw.grow (zaj.new (o:=.lst []) he);have g2:=zbj (H2:=upd H' e (.lst [])) hw.b;generalize upd H' e (.lst [])=H2 at h2 g2 ⊢;generalize gr Hb H' H2=B2 at h2 g2;have sH2:=sH.trans g2;have hs2:=g2 _ _ hs1;refine⟨_,rfl,w.a,_,_,rfl,h2.o,rfl,B2,w,[],.int z,sent,⟨[],0⟩,rfl,h2,_,_,rfl,rfl,_,rfl,jN ?_⟩;refine⟨_,rfl,w.a,_,_,rfl,h2.o,rfl,B2,w,[],.int z,sent,⟨[],0⟩,rfl,h2,z,rfl,_,rfl,jN ⟨_,rfl,w.a,_,_,rfl,h2.o,rfl,B2,w,[],.int z,sent,⟨[],0⟩,rfl,h2,_,rfl,rfl,_,rfl,zf7 (by simp) ?_⟩⟩;refine⟨_,rfl,w.a,_,_,rfl,h2.o,rfl,B2,w,[],.int z,sent,⟨[],0⟩,rfl,h2,qa4 _,λl3 H3 tps hl3 s3 e3 hlen hat=>⟨le0,λe2 he2=>?_⟩⟩;have et:tps=[]:=qde hlen;subst et;have s34:=s3.trans (zaj.new (o:=.lst []) he2);have e34:=zaj.new (o:=.lst []) he2 _ _ e3;have k34:=zab (H:=H3) (a:=e2) (o:=.lst []);generalize upd H3 e2 (.lst [])=H4 at s34 e34 k34 ⊢;obtain⟨dd,ld,d1,d2⟩:Bg.Twin K H4 1 (.ref l3) (.ref e2):=Bg.Twin.lst (SqL.of e34) (SqL.of k34) .nil;refine zg8 (by decide) ld d1 d2 ⟨_,rfl,zf7 qam ?_⟩;have h4:=h2.grow s34;have g4:=zbj (H2:=H4) h2.b;generalize gr B2 H2 H4=B4 at h4 g4;refine⟨_,rfl,B4,w,.int z,sent,⟨[],0⟩,rfl,h4,λH5 s5=>⟨_,rfl,jN ?_⟩⟩;have h5:=h4.grow s5;have g5:=g4.trans (zbj (H2:=H5) h4.b);generalize gr B4 H4 H5=B5 at h5 g5;have s05:=(sH2.trans g5).trans h5.b;obtain⟨y0,hy0⟩:∃y0,zs[0]?=some y0:=⟨_,List.getElem?_eq_getElem (by omega)⟩
     have aty:atI (zs.map V.int) ((0:Nat):Int)=some (.int y0):=zc7 (by rw[List.getElem?_map,hy0]; rfl);refine⟨_,rfl,_,rfl,_,rfl,zl,_,_,_,rfl,rfl,SqL.of (s05 _ _ qz),aty,B5,w,[],.int z,sent,⟨[],0⟩,nl,ns,ps.map (·.1),y0,rfl,h5,fl0.mono (sH2.trans g5),(λf hf=>by cases hf),SqL.of (s05 _ _ n0),n12,nok.nd,wT,(nn y0 (List.mem_of_getElem? hy0)).1,qa4 _,λH6 s6=>⟨_,rfl,jN ?_⟩⟩;have h6:=h5.grow s6;have g6:=g5.trans (zbj (H2:=H6) h5.b);generalize gr B5 H5 H6=B6 at h6 g6;refine⟨_,rfl,w.a,_,_,rfl,h6.o,rfl,B6,w,[],.int z,sent,⟨[],0⟩,rfl,h6,_,rfl,rfl,_,rfl,zf7 (by simp) ⟨_,rfl,w.a,_,_,rfl,h6.o,rfl,B6,w,[],.int z,sent,⟨[],0⟩,rfl,h6,λu hu=>⟨_,rfl,?_⟩⟩⟩;obtain⟨dd,ld,d1,d2⟩:=fin _ _ _ _ h6 (g6 _ _ hs2) u hu;exact zp9 (by decide) ld d1 d2 (q _)
end
end K24
namespace K24
open PySem L2
structure Fv where
 (oc kV dc pm cd ct:Value)
 (od an:Option Addr)
 sl:Array (Option Value)
abbrev Fv.fn (v:Fv) (n q:Str) (s:Stmt):=W.fnOf n q (zdi s) (zaw s) (zai s) .none v.kV v.dc v.pm v.an v.cd v.ct
def FL (K:W.Frag) (f:Addr) (v:Fv) (n q:Str) (s:Stmt):Prop:=K.lookup f=some ⟨v.oc,v.od,.func (v.fn n q s),v.sl⟩/\W.codeIn K v.cd q=true/\W.keepIn K (.ref f)=true
theorem fl_mk {K:W.Frag} {f:Addr} {n q:Str} {s:Stmt} {oc kV dc pm cd ct:Value} {od an:Option Addr} {sl:Array (Option Value)} (l:K.lookup f=some ⟨oc,od,.func (W.fnOf n q (zdi s) (zaw s) (zai s) .none kV dc pm an cd ct),sl⟩) (c:W.codeIn K cd q=true) (k:W.keepIn K (.ref f)=true):FL K f ⟨oc,kV,dc,pm,cd,ct,od,an,sl⟩ n q s:=⟨l,c,k⟩
set_option maxHeartbeats 4000000 in
theorem txt_mk {K:W.Frag} {h:Heap} {mg:Str->Option Value} (X:K.In h) (G:h.Ns mainGlobals mg)
   {C_Flows:Addr} (aC_Flows:W.nsIn K mainGlobals "Flows"=some (some (.ref C_Flows))) (pg_Flows:W.plainGet K C_Flows Str.empty=true) (hd_Flows:W.hasDictIn K C_Flows=true) (po_Flows:W.plainOver K C_Flows=true) (sa_Flows:W.findIn K (.ref C_Flows) "__setattr__"=some (some (.builtin "object.__setattr__"))) (mk_Flows:W.makesIn K C_Flows=true) (kc_Flows:W.keepIn K (.ref C_Flows)=true)
   (zeg:W.findIn K (.ref C_Flows) "last"=some none)
   (zcg:W.findIn K (.ref C_Flows) "number_of"=some none)
   (zcf:W.findIn K (.ref C_Flows) "folded_of"=some none)
   (zbw:W.findIn K (.ref C_Flows) "params_of"=some none)
   (zcm:W.findIn K (.ref C_Flows) "rows_of"=some none)
   (zbt:W.findIn K (.ref C_Flows) "names_in"=some none)
   (zcn:W.findIn K (.ref C_Flows) "ways_in"=some none)
   {C_Walker:Addr} (aC_Walker:W.nsIn K mainGlobals "Walker"=some (some (.ref C_Walker))) (pg_Walker:W.plainGet K C_Walker Str.empty=true) (hd_Walker:W.hasDictIn K C_Walker=true) (po_Walker:W.plainOver K C_Walker=true) (sa_Walker:W.findIn K (.ref C_Walker) "__setattr__"=some (some (.builtin "object.__setattr__"))) (mk_Walker:W.makesIn K C_Walker=true) (kc_Walker:W.keepIn K (.ref C_Walker)=true)
   {C_TextWalker:Addr} (aC_TextWalker:W.nsIn K mainGlobals "TextWalker"=some (some (.ref C_TextWalker))) (pg_TextWalker:W.plainGet K C_TextWalker Str.empty=true) (hd_TextWalker:W.hasDictIn K C_TextWalker=true) (po_TextWalker:W.plainOver K C_TextWalker=true) (sa_TextWalker:W.findIn K (.ref C_TextWalker) "__setattr__"=some (some (.builtin "object.__setattr__"))) (mk_TextWalker:W.makesIn K C_TextWalker=true) (kc_TextWalker:W.keepIn K (.ref C_TextWalker)=true)
   (za1:W.findIn K (.ref C_TextWalker) "flows"=some none)
   (zat:W.findIn K (.ref C_TextWalker) "stack"=some none)
   (zbi:W.findIn K (.ref C_TextWalker) "outcome"=some none)
   (zbc:W.findIn K (.ref C_TextWalker) "sendings"=some none)
   (zb1:W.findIn K (.ref C_TextWalker) "contents"=some none)
   (zb7:W.findIn K (.ref C_TextWalker) "records"=some none)
   {C_TextFrame:Addr} (aC_TextFrame:W.nsIn K mainGlobals "TextFrame"=some (some (.ref C_TextFrame))) (pg_TextFrame:W.plainGet K C_TextFrame Str.empty=true) (hd_TextFrame:W.hasDictIn K C_TextFrame=true) (po_TextFrame:W.plainOver K C_TextFrame=true) (sa_TextFrame:W.findIn K (.ref C_TextFrame) "__setattr__"=some (some (.builtin "object.__setattr__"))) (mk_TextFrame:W.makesIn K C_TextFrame=true) (kc_TextFrame:W.keepIn K (.ref C_TextFrame)=true)
   (za9:W.findIn K (.ref C_TextFrame) "function"=some none)
   (zbr:W.findIn K (.ref C_TextFrame) "row"=some none)
   (za7:W.findIn K (.ref C_TextFrame) "named"=some none)
   {X_GlassError NN_GlassError:Addr} {nm_GlassError qq_GlassError:Str} {bs_GlassError bm_GlassError:List Value} {sn_GlassError:List Str} {sub_GlassError:List Value} {ab_GlassError:Bool} {col_GlassError:Option Bool} {dd_GlassError:Option Addr} {k0_GlassError k1_GlassError k2_GlassError k3_GlassError k5_GlassError:Option Value}
   (xa_GlassError:W.nsIn K mainGlobals "GlassError"=some (some (.ref X_GlassError))) (xl_GlassError:K.lookup X_GlassError=some (excClassObj nm_GlassError qq_GlassError X_GlassError NN_GlassError bs_GlassError bm_GlassError true sn_GlassError sub_GlassError ab_GlassError col_GlassError dd_GlassError k0_GlassError k1_GlassError k2_GlassError k3_GlassError k5_GlassError "ValueError.__new__")) (xv_GlassError:Ex.veTail bm_GlassError=true) (xk_GlassError:W.keepIn K (.ref X_GlassError)=true) (xs_GlassError:W.findIn K (.ref X_GlassError) "__setattr__"=some (some (.builtin "object.__setattr__"))) (xg_GlassError:W.findIn K (.ref X_GlassError) "__getattribute__"=some (some (.builtin "BaseException.__getattribute__"))) (xt_GlassError:W.findIn K (.ref X_GlassError) "__getattr__"=some none) (xc_GlassError:W.findIn K (.ref X_GlassError) "__class__"=some (some (.builtin "object.__class__")))
   {X_NoName NN_NoName:Addr} {nm_NoName qq_NoName:Str} {bs_NoName bm_NoName:List Value} {sn_NoName:List Str} {sub_NoName:List Value} {ab_NoName:Bool} {col_NoName:Option Bool} {dd_NoName:Option Addr} {k0_NoName k1_NoName k2_NoName k3_NoName k5_NoName:Option Value}
   (xa_NoName:W.nsIn K mainGlobals "NoName"=some (some (.ref X_NoName))) (xl_NoName:K.lookup X_NoName=some (excClassObj nm_NoName qq_NoName X_NoName NN_NoName bs_NoName bm_NoName true sn_NoName sub_NoName ab_NoName col_NoName dd_NoName k0_NoName k1_NoName k2_NoName k3_NoName k5_NoName "ValueError.__new__")) (xv_NoName:Ex.veTail bm_NoName=true) (xk_NoName:W.keepIn K (.ref X_NoName)=true) (xs_NoName:W.findIn K (.ref X_NoName) "__setattr__"=some (some (.builtin "object.__setattr__"))) (xg_NoName:W.findIn K (.ref X_NoName) "__getattribute__"=some (some (.builtin "BaseException.__getattribute__"))) (xt_NoName:W.findIn K (.ref X_NoName) "__getattr__"=some none) (xc_NoName:W.findIn K (.ref X_NoName) "__class__"=some (some (.builtin "object.__class__")))
   {X_Ended NN_Ended:Addr} {nm_Ended qq_Ended:Str} {bs_Ended bm_Ended:List Value} {sn_Ended:List Str} {sub_Ended:List Value} {ab_Ended:Bool} {col_Ended:Option Bool} {dd_Ended:Option Addr} {k0_Ended k1_Ended k2_Ended k3_Ended k5_Ended:Option Value}
   (xa_Ended:W.nsIn K mainGlobals "Ended"=some (some (.ref X_Ended))) (xl_Ended:K.lookup X_Ended=some (excClassObj nm_Ended qq_Ended X_Ended NN_Ended bs_Ended bm_Ended true sn_Ended sub_Ended ab_Ended col_Ended dd_Ended k0_Ended k1_Ended k2_Ended k3_Ended k5_Ended "ValueError.__new__")) (xv_Ended:Ex.veTail bm_Ended=true) (xk_Ended:W.keepIn K (.ref X_Ended)=true) (xs_Ended:W.findIn K (.ref X_Ended) "__setattr__"=some (some (.builtin "object.__setattr__"))) (xg_Ended:W.findIn K (.ref X_Ended) "__getattribute__"=some (some (.builtin "BaseException.__getattribute__"))) (xt_Ended:W.findIn K (.ref X_Ended) "__getattr__"=some none) (xc_Ended:W.findIn K (.ref X_Ended) "__class__"=some (some (.builtin "object.__class__")))
   (sg0:W.specialIn K (.builtin "object.__class__") "__get__"=some (some (.builtin "getset_descriptor.__get__"))) (tkX0:W.takesIn K (.builtin "object.__class__")=some true)
   (i0_NoName:W.findIn K (.ref X_NoName) "__init__"=some (some (.builtin "ValueError.__init__")))
   (e_NoName:W.mroIn K X_NoName (.ref X_GlassError)=some true)
   (kk_NoName_NoName:W.kitOne K (.ref X_NoName) (.ref X_NoName)=some true)
   (kk_NoName_Ended:W.kitOne K (.ref X_NoName) (.ref X_Ended)=some false)
   (kv_NoName:W.kitOne K (.ref X_NoName) (.type "ValueError")=some true)
   (i0_Ended:W.findIn K (.ref X_Ended) "__init__"=some (some (.builtin "ValueError.__init__")))
   (e_Ended:W.mroIn K X_Ended (.ref X_GlassError)=some true)
   (kk_Ended_NoName:W.kitOne K (.ref X_Ended) (.ref X_NoName)=some false)
   (kk_Ended_Ended:W.kitOne K (.ref X_Ended) (.ref X_Ended)=some true)
   (kv_Ended:W.kitOne K (.ref X_Ended) (.type "ValueError")=some true)
   {f0:Addr} {y0:Fv} (a0:W.nsIn K mainGlobals "names_of"=some (some (.ref f0))) (l0:FL K f0 y0 "names_of" "names_of" zjb)
   {f1:Addr} {y1:Fv} (a1:W.nsIn K mainGlobals "reads"=some (some (.ref f1))) (l1:FL K f1 y1 "reads" "reads" zpc)
   {f2:Addr} {y2:Fv} (a2:W.nsIn K mainGlobals "gives"=some (some (.ref f2))) (l2:FL K f2 y2 "gives" "gives" zpe)
   {f3:Addr} {y3:Fv} (a3:W.nsIn K mainGlobals "atoms_of"=some (some (.ref f3))) (l3:FL K f3 y3 "atoms_of" "atoms_of" zjf)
   {f4:Addr} {y4:Fv} (a4:W.nsIn K mainGlobals "each_once"=some (some (.ref f4))) (l4:FL K f4 y4 "each_once" "each_once" zhn)
   {f5:Addr} {y5:Fv} (a5:W.nsIn K mainGlobals "ways"=some (some (.ref f5))) (l5:FL K f5 y5 "ways" "ways" znj)
   {f6:Addr} {y6:Fv} (a6:W.nsIn K mainGlobals "begins_of"=some (some (.ref f6))) (l6:FL K f6 y6 "begins_of" "begins_of" zh4)
   {f7:Addr} {y7:Fv} (a7:W.nsIn K mainGlobals "firsts_behind"=some (some (.ref f7))) (l7:FL K f7 y7 "firsts_behind" "firsts_behind" zch)
   {f8:Addr} {y8:Fv} (a8:W.findIn K (.ref C_Flows) "__init__"=some (some (.ref f8))) (i8:W.isFn K (.ref f8)=true) (l8:FL K f8 y8 "__init__" "Flows.__init__" zeb)
   {f9:Addr} {y9:Fv} (a9:W.nsIn K mainGlobals "value"=some (some (.ref f9))) (l9:FL K f9 y9 "value" "value" zpk)
   (ga10:W.specialIn K (.ref C_Walker) "__getattribute__"=some (some (.builtin "type.__getattribute__"))) (rd10:W.readsIn K C_Walker (.type "type")=true)
   {f10:Addr} {y10:Fv} (a10:W.findIn K (.ref C_Walker) "__init__"=some (some (.ref f10))) (i10:W.isFn K (.ref f10)=true) (l10:FL K f10 y10 "__init__" "Walker.__init__" zf1)
   (fc10:W.findCls K (.ref C_Walker) (.type "type") "__init__"=some (.val (.ref f10)))
   {f11:Addr} {y11:Fv} (a11:W.findIn K (.ref C_TextWalker) "ended"=some (some (.ref f11))) (i11:W.isFn K (.ref f11)=true) (l11:FL K f11 y11 "ended" "Walker.ended" ze7)
   {f12:Addr} {y12:Fv} (a12:W.findIn K (.ref C_TextWalker) "answer"=some (some (.ref f12))) (i12:W.isFn K (.ref f12)=true) (l12:FL K f12 y12 "answer" "Walker.answer" zel)
   {f13:Addr} {y13:Fv} (a13:W.findIn K (.ref C_TextWalker) "sent"=some (some (.ref f13))) (i13:W.isFn K (.ref f13)=true) (l13:FL K f13 y13 "sent" "Walker.sent" zf0)
   {f14:Addr} {y14:Fv} (a14:W.findIn K (.ref C_TextWalker) "field"=some (some (.ref f14))) (i14:W.isFn K (.ref f14)=true) (l14:FL K f14 y14 "field" "Walker.field" ze5)
   {f15:Addr} {y15:Fv} (a15:W.findIn K (.ref C_TextWalker) "frames"=some (some (.ref f15))) (i15:W.isFn K (.ref f15)=true) (l15:FL K f15 y15 "frames" "Walker.frames" zeo)
   {f16:Addr} {y16:Fv} (a16:W.findIn K (.ref C_TextWalker) "told"=some (some (.ref f16))) (i16:W.isFn K (.ref f16)=true) (l16:FL K f16 y16 "told" "Walker.told" zfz)
   {f17:Addr} {y17:Fv} (a17:W.findIn K (.ref C_TextWalker) "step"=some (some (.ref f17))) (i17:W.isFn K (.ref f17)=true) (l17:FL K f17 y17 "step" "Walker.step" zf4)
   {f18:Addr} {y18:Fv} (a18:W.findIn K (.ref C_TextWalker) "ask_for_level"=some (some (.ref f18))) (i18:W.isFn K (.ref f18)=true) (l18:FL K f18 y18 "ask_for_level" "Walker.ask_for_level" zco)
   {f19:Addr} {y19:Fv} (a19:W.findIn K (.ref C_TextWalker) "ask_for_name"=some (some (.ref f19))) (i19:W.isFn K (.ref f19)=true) (l19:FL K f19 y19 "ask_for_name" "Walker.ask_for_name" zcx)
   {f20:Addr} {y20:Fv} (a20:W.findIn K (.ref C_TextWalker) "names_at"=some (some (.ref f20))) (i20:W.isFn K (.ref f20)=true) (l20:FL K f20 y20 "names_at" "Walker.names_at" zdy)
   {f21:Addr} {y21:Fv} (a21:W.findIn K (.ref C_TextWalker) "send_out"=some (some (.ref f21))) (i21:W.isFn K (.ref f21)=true) (l21:FL K f21 y21 "send_out" "Walker.send_out" zdx)
   {f22:Addr} {y22:Fv} (a22:W.findIn K (.ref C_TextWalker) "put_field"=some (some (.ref f22))) (i22:W.isFn K (.ref f22)=true) (l22:FL K f22 y22 "put_field" "Walker.put_field" zdo)
   {f23:Addr} {y23:Fv} (a23:W.findIn K (.ref C_TextWalker) "make_record"=some (some (.ref f23))) (i23:W.isFn K (.ref f23)=true) (l23:FL K f23 y23 "make_record" "Walker.make_record" zc4)
   {f24:Addr} {y24:Fv} (a24:W.findIn K (.ref C_TextFrame) "__init__"=some (some (.ref f24))) (i24:W.isFn K (.ref f24)=true) (l24:FL K f24 y24 "__init__" "TextFrame.__init__" zd5)
   {f25:Addr} {y25:Fv} (a25:W.findIn K (.ref C_TextFrame) "value_of"=some (some (.ref f25))) (i25:W.isFn K (.ref f25)=true) (l25:FL K f25 y25 "value_of" "TextFrame.value_of" zc5)
   {f26:Addr} {y26:Fv} (a26:W.findIn K (.ref C_TextWalker) "__init__"=some (some (.ref f26))) (i26:W.isFn K (.ref f26)=true) (l26:FL K f26 y26 "__init__" "TextWalker.__init__" zdw)
   {f27:Addr} {y27:Fv} (a27:W.findIn K (.ref C_TextWalker) "chain_of"=some (some (.ref f27))) (i27:W.isFn K (.ref f27)=true) (l27:FL K f27 y27 "chain_of" "TextWalker.chain_of" zcr)
   {f28:Addr} {y28:Fv} (a28:W.findIn K (.ref C_TextWalker) "shown_at"=some (some (.ref f28))) (i28:W.isFn K (.ref f28)=true) (l28:FL K f28 y28 "shown_at" "TextWalker.shown_at" zcs)
   {f29:Addr} {y29:Fv} (a29:W.findIn K (.ref C_TextWalker) "tell"=some (some (.ref f29))) (i29:W.isFn K (.ref f29)=true) (l29:FL K f29 y29 "tell" "TextWalker.tell" zdt)
   {f30:Addr} {y30:Fv} (a30:W.findIn K (.ref C_TextWalker) "walk_on"=some (some (.ref f30))) (i30:W.isFn K (.ref f30)=true) (l30:FL K f30 y30 "walk_on" "TextWalker.walk_on" za8)
   {f31:Addr} {y31:Fv} (a31:W.findIn K (.ref C_TextWalker) "begin"=some (some (.ref f31))) (i31:W.isFn K (.ref f31)=true) (l31:FL K f31 y31 "begin" "TextWalker.begin" zb3)
   {f32:Addr} {y32:Fv} (a32:W.findIn K (.ref C_TextWalker) "row_of"=some (some (.ref f32))) (i32:W.isFn K (.ref f32)=true) (l32:FL K f32 y32 "row_of" "TextWalker.row_of" zda)
   {f33:Addr} {y33:Fv} (a33:W.findIn K (.ref C_TextWalker) "go_on"=some (some (.ref f33))) (i33:W.isFn K (.ref f33)=true) (l33:FL K f33 y33 "go_on" "TextWalker.go_on" zdn)
   {f34:Addr} {y34:Fv} (a34:W.findIn K (.ref C_TextWalker) "go_back"=some (some (.ref f34))) (i34:W.isFn K (.ref f34)=true) (l34:FL K f34 y34 "go_back" "TextWalker.go_back" zc3)
   {f35:Addr} {y35:Fv} (a35:W.findIn K (.ref C_TextWalker) "do_row"=some (some (.ref f35))) (i35:W.isFn K (.ref f35)=true) (l35:FL K f35 y35 "do_row" "TextWalker.do_row" zde)
   {f36:Addr} {y36:Fv} (a36:W.findIn K (.ref C_TextWalker) "value_given"=some (some (.ref f36))) (i36:W.isFn K (.ref f36)=true) (l36:FL K f36 y36 "value_given" "TextWalker.value_given" zb4)
   {f37:Addr} {y37:Fv} (a37:W.nsIn K mainGlobals "_law_cell_at"=some (some (.ref f37))) (l37:FL K f37 y37 "_law_cell_at" "_law_cell_at" zhv)
   {f38:Addr} {y38:Fv} (a38:W.nsIn K mainGlobals "_law_stream"=some (some (.ref f38))) (l38:FL K f38 y38 "_law_stream" "_law_stream" zjj)
   {f39:Addr} {y39:Fv} (a39:W.nsIn K mainGlobals "_law_names"=some (some (.ref f39))) (l39:FL K f39 y39 "_law_names" "_law_names" ze9)
   {f40:Addr} {y40:Fv} (a40:W.nsIn K mainGlobals "_law_value_by"=some (some (.ref f40))) (l40:FL K f40 y40 "_law_value_by" "_law_value_by" zgw)
   {f41:Addr} {y41:Fv} (a41:W.nsIn K mainGlobals "_law_atom"=some (some (.ref f41))) (l41:FL K f41 y41 "_law_atom" "_law_atom" zms)
   {f42:Addr} {y42:Fv} (a42:W.nsIn K mainGlobals "_law_row"=some (some (.ref f42))) (l42:FL K f42 y42 "_law_row" "_law_row" zij)
   {f43:Addr} {y43:Fv} (a43:W.nsIn K mainGlobals "_law_program"=some (some (.ref f43))) (l43:FL K f43 y43 "_law_program" "_law_program" zdc)
   {f44:Addr} {y44:Fv} (a44:W.nsIn K mainGlobals "_law_atoms"=some (some (.ref f44))) (l44:FL K f44 y44 "_law_atoms" "_law_atoms" zk6)
   {f45:Addr} {y45:Fv} (a45:W.nsIn K mainGlobals "_law_frame"=some (some (.ref f45))) (l45:FL K f45 y45 "_law_frame" "_law_frame" zgd)
   {f46:Addr} {y46:Fv} (a46:W.nsIn K mainGlobals "_law_worth"=some (some (.ref f46))) (l46:FL K f46 y46 "_law_worth" "_law_worth" zk2)
   {f47:Addr} {y47:Fv} (a47:W.nsIn K mainGlobals "_law_moved"=some (some (.ref f47))) (l47:FL K f47 y47 "_law_moved" "_law_moved" zei)
   {f48:Addr} {y48:Fv} (a48:W.nsIn K mainGlobals "_law_whole"=some (some (.ref f48))) (l48:FL K f48 y48 "_law_whole" "_law_whole" zkv)
   {f49:Addr} {y49:Fv} (a49:W.nsIn K mainGlobals "_law_no_name"=some (some (.ref f49))) (l49:FL K f49 y49 "_law_no_name" "_law_no_name" zhw)
   {f50:Addr} {y50:Fv} (a50:W.nsIn K mainGlobals "_law_no_step"=some (some (.ref f50))) (l50:FL K f50 y50 "_law_no_step" "_law_no_step" zhu)
   {f51:Addr} {y51:Fv} (a51:W.nsIn K mainGlobals "_law_stands"=some (some (.ref f51))) (l51:FL K f51 y51 "_law_stands" "_law_stands" zec)
   {f52:Addr} {y52:Fv} (a52:W.nsIn K mainGlobals "_law_absent"=some (some (.ref f52))) (l52:FL K f52 y52 "_law_absent" "_law_absent" zf6)
   {f53:Addr} {y53:Fv} (a53:W.nsIn K mainGlobals "_law_tower"=some (some (.ref f53))) (l53:FL K f53 y53 "_law_tower" "_law_tower" zd3)
   {f54:Addr} {y54:Fv} (a54:W.nsIn K mainGlobals "law"=some (some (.ref f54))) (l54:FL K f54 y54 "law" "law" zpp)
   {tk0:Tok} (w0:W.nsIn K mainGlobals "WIDE"=some (some (.int 281474976710656 tk0)))
   {aT0:Addr} {odT0:Option Addr} {itT0:Array Value} {nT0:Nat} {slT0:Array (Option Value)} (q0:W.nsIn K mainGlobals "GIVING_KINDS"=some (some (.ref aT0))) (m0:K.lookup aT0=some ⟨.type "tuple",odT0,.seq itT0 nT0,slT0⟩) (v0:zcw (K12.giving.map V.str) itT0.toList) (s0:itT0.size<=sizeLine)
   {aD0:Addr} (qD0:W.nsIn K mainGlobals "ATOM_PLACES"=some (some (.ref aD0))) (mD0:PyProof.Rows.KTD.tabLook (zpu K) (λa=>K.lookup a) aD0 K12.tabl=true)
   (z_ValueError:W.nsIn K mainGlobals "ValueError"=some none)
   (z_len:W.nsIn K mainGlobals "len"=some none)
   (z_list:W.nsIn K mainGlobals "list"=some none)
   (z_tuple:W.nsIn K mainGlobals "tuple"=some none)
   (z_isinstance:W.nsIn K mainGlobals "isinstance"=some none)
   (z_range:W.nsIn K mainGlobals "range"=some none)
   (z_enumerate:W.nsIn K mainGlobals "enumerate"=some none)
   (z_dict:W.nsIn K mainGlobals "dict"=some none)
   (z_str:W.nsIn K mainGlobals "str"=some none)
   (z_min:W.nsIn K mainGlobals "min"=some none)
   (z_max:W.nsIn K mainGlobals "max"=some none)
   (z_int:W.nsIn K mainGlobals "int"=some none)
   (z_zip:W.nsIn K mainGlobals "zip"=some none)
   (z_bool:W.nsIn K mainGlobals "bool"=some none)
   : ∃t,Txt K mg t:=by
 refine⟨⟨X_GlassError,X_NoName,X_Ended,C_Flows,C_Walker,C_TextWalker,C_TextFrame,f0,y0.fn "names_of" "names_of" zjb,f1,y1.fn "reads" "reads" zpc,f2,y2.fn "gives" "gives" zpe,f3,y3.fn "atoms_of" "atoms_of" zjf,f4,y4.fn "each_once" "each_once" zhn,f5,y5.fn "ways" "ways" znj,f6,y6.fn "begins_of" "begins_of" zh4,f7,y7.fn "firsts_behind" "firsts_behind" zch,f8,y8.fn "__init__" "Flows.__init__" zeb,f9,y9.fn "value" "value" zpk,f10,y10.fn "__init__" "Walker.__init__" zf1,f11,y11.fn "ended" "Walker.ended" ze7,f12,y12.fn "answer" "Walker.answer" zel,f13,y13.fn "sent" "Walker.sent" zf0,f14,y14.fn "field" "Walker.field" ze5,f15,y15.fn "frames" "Walker.frames" zeo,f16,y16.fn "told" "Walker.told" zfz,f17,y17.fn "step" "Walker.step" zf4,f18,y18.fn "ask_for_level" "Walker.ask_for_level" zco,f19,y19.fn "ask_for_name" "Walker.ask_for_name" zcx,f20,y20.fn "names_at" "Walker.names_at" zdy,f21,y21.fn "send_out" "Walker.send_out" zdx,f22,y22.fn "put_field" "Walker.put_field" zdo,f23,y23.fn "make_record" "Walker.make_record" zc4,f24,y24.fn "__init__" "TextFrame.__init__" zd5,f25,y25.fn "value_of" "TextFrame.value_of" zc5,f26,y26.fn "__init__" "TextWalker.__init__" zdw,f27,y27.fn "chain_of" "TextWalker.chain_of" zcr,f28,y28.fn "shown_at" "TextWalker.shown_at" zcs,f29,y29.fn "tell" "TextWalker.tell" zdt,f30,y30.fn "walk_on" "TextWalker.walk_on" za8,f31,y31.fn "begin" "TextWalker.begin" zb3,f32,y32.fn "row_of" "TextWalker.row_of" zda,f33,y33.fn "go_on" "TextWalker.go_on" zdn,f34,y34.fn "go_back" "TextWalker.go_back" zc3,f35,y35.fn "do_row" "TextWalker.do_row" zde,f36,y36.fn "value_given" "TextWalker.value_given" zb4,f37,y37.fn "_law_cell_at" "_law_cell_at" zhv,f38,y38.fn "_law_stream" "_law_stream" zjj,f39,y39.fn "_law_names" "_law_names" ze9,f40,y40.fn "_law_value_by" "_law_value_by" zgw,f41,y41.fn "_law_atom" "_law_atom" zms,f42,y42.fn "_law_row" "_law_row" zij,f43,y43.fn "_law_program" "_law_program" zdc,f44,y44.fn "_law_atoms" "_law_atoms" zk6,f45,y45.fn "_law_frame" "_law_frame" zgd,f46,y46.fn "_law_worth" "_law_worth" zk2,f47,y47.fn "_law_moved" "_law_moved" zei,f48,y48.fn "_law_whole" "_law_whole" zkv,f49,y49.fn "_law_no_name" "_law_no_name" zhw,f50,y50.fn "_law_no_step" "_law_no_step" zhu,f51,y51.fn "_law_stands" "_law_stands" zec,f52,y52.fn "_law_absent" "_law_absent" zf6,f53,y53.fn "_law_tower" "_law_tower" zd3,f54,y54.fn "law" "law" zpp,aT0,aD0⟩,?_⟩;have bl:∀(s:Shared) (u:Value),BindsTo s (y54.fn "law" "law" zpp) ⟨[u],[]⟩ [("_law_script",u)]:=λs u=>.of_eq rfl;exact⟨(zng X G xa_GlassError xl_GlassError xv_GlassError xk_GlassError xs_GlassError xg_GlassError xt_GlassError xc_GlassError sg0 tkX0),
   (zng X G xa_NoName xl_NoName xv_NoName xk_NoName xs_NoName xg_NoName xt_NoName xc_NoName sg0 tkX0),
   (zng X G xa_Ended xl_Ended xv_Ended xk_Ended xs_Ended xg_Ended xt_Ended xc_Ended sg0 tkX0),
   (i0_NoName),
   (e_NoName),
   (kk_NoName_NoName),
   (kk_NoName_Ended),
   (kv_NoName),
   (i0_Ended),
   (e_Ended),
   (kk_Ended_NoName),
   (kk_Ended_Ended),
   (kv_Ended),
   (zbf X G a0 l0.1 l0.2.1 l0.2.2 λ_ _ _ _ _ _ us hl=>match us,hl with | [_],_=>rfl),
   (zbf X G a1 l1.1 l1.2.1 l1.2.2 λ_ _ _ _ _ _ us hl=>match us,hl with | [_],_=>rfl),
   (zbf X G a2 l2.1 l2.2.1 l2.2.2 λ_ _ _ _ _ _ us hl=>match us,hl with | [_],_=>rfl),
   (zbf X G a3 l3.1 l3.2.1 l3.2.2 λ_ _ _ _ _ _ us hl=>match us,hl with | [_],_=>rfl),
   (zbf X G a4 l4.1 l4.2.1 l4.2.2 λ_ _ _ _ _ _ us hl=>match us,hl with | [_],_=>rfl),
   (zbf X G a5 l5.1 l5.2.1 l5.2.2 λ_ _ _ _ _ _ us hl=>match us,hl with | [_],_=>rfl),
   (zbf X G a6 l6.1 l6.2.1 l6.2.2 λ_ _ _ _ _ _ us hl=>match us,hl with | [_],_=>rfl),
   (zbf X G a7 l7.1 l7.2.1 l7.2.2 λ_ _ _ _ _ _ us hl=>match us,hl with | [_,_],_=>rfl),
   (zpj mk_Flows kc_Flows a8 i8 l8.1 l8.2.1 l8.2.2 λ_ _ _ _ _ _ us hl=>match us,hl with | [_,_],_=>rfl),
   (zbf X G a9 l9.1 l9.2.1 l9.2.2 λ_ _ _ _ _ _ us hl=>match us,hl with | [_,_,_],_=>rfl),
   (zyw ga10 rd10 fc10 l10.1 l10.2.1 l10.2.2 λ_ _ _ _ _ _ us hl=>match us,hl with | [_,_],_=>rfl),
   (zbn a11 i11 l11.1 l11.2.1 l11.2.2 λ_ _ _ _ _ _ us hl=>match us,hl with | [_],_=>rfl),
   (zbn a12 i12 l12.1 l12.2.1 l12.2.2 λ_ _ _ _ _ _ us hl=>match us,hl with | [_],_=>rfl),
   (zbn a13 i13 l13.1 l13.2.1 l13.2.2 λ_ _ _ _ _ _ us hl=>match us,hl with | [_],_=>rfl),
   (zbn a14 i14 l14.1 l14.2.1 l14.2.2 λ_ _ _ _ _ _ us hl=>match us,hl with | [_,_,_],_=>rfl),
   (zbn a15 i15 l15.1 l15.2.1 l15.2.2 λ_ _ _ _ _ _ us hl=>match us,hl with | [_],_=>rfl),
   (zbn a16 i16 l16.1 l16.2.1 l16.2.2 λ_ _ _ _ _ _ us hl=>match us,hl with | [_,_,_],_=>rfl),
   (zbn a17 i17 l17.1 l17.2.1 l17.2.2 λ_ _ _ _ _ _ us hl=>match us,hl with | [_],_=>rfl),
   (zbn a18 i18 l18.1 l18.2.1 l18.2.2 λ_ _ _ _ _ _ us hl=>match us,hl with | [_,_],_=>rfl),
   (zbn a19 i19 l19.1 l19.2.1 l19.2.2 λ_ _ _ _ _ _ us hl=>match us,hl with | [_,_,_],_=>rfl),
   (zbn a20 i20 l20.1 l20.2.1 l20.2.2 λ_ _ _ _ _ _ us hl=>match us,hl with | [_,_],_=>rfl),
   (zbn a21 i21 l21.1 l21.2.1 l21.2.2 λ_ _ _ _ _ _ us hl=>match us,hl with | [_,_],_=>rfl),
   (zbn a22 i22 l22.1 l22.2.1 l22.2.2 λ_ _ _ _ _ _ us hl=>match us,hl with | [_,_,_,_],_=>rfl),
   (zbn a23 i23 l23.1 l23.2.1 l23.2.2 λ_ _ _ _ _ _ us hl=>match us,hl with | [_],_=>rfl),
   (zpj mk_TextFrame kc_TextFrame a24 i24 l24.1 l24.2.1 l24.2.2 λ_ _ _ _ _ _ us hl=>match us,hl with | [_,_,_],_=>rfl),
   (zbn a25 i25 l25.1 l25.2.1 l25.2.2 λ_ _ _ _ _ _ us hl=>match us,hl with | [_,_],_=>rfl),
   (zpj mk_TextWalker kc_TextWalker a26 i26 l26.1 l26.2.1 l26.2.2 λ_ _ _ _ _ _ us hl=>match us,hl with | [_,_,_],_=>rfl),
   (zbn a27 i27 l27.1 l27.2.1 l27.2.2 λ_ _ _ _ _ _ us hl=>match us,hl with | [_,_],_=>rfl),
   (zbn a28 i28 l28.1 l28.2.1 l28.2.2 λ_ _ _ _ _ _ us hl=>match us,hl with | [_,_],_=>rfl),
   (zbn a29 i29 l29.1 l29.2.1 l29.2.2 λ_ _ _ _ _ _ us hl=>match us,hl with | [_,_,_],_=>rfl),
   (zbn a30 i30 l30.1 l30.2.1 l30.2.2 λ_ _ _ _ _ _ us hl=>match us,hl with | [_],_=>rfl),
   (zbn a31 i31 l31.1 l31.2.1 l31.2.2 λ_ _ _ _ _ _ us hl=>match us,hl with | [_,_,_],_=>rfl),
   (zbn a32 i32 l32.1 l32.2.1 l32.2.2 λ_ _ _ _ _ _ us hl=>match us,hl with | [_,_],_=>rfl),
   (zbn a33 i33 l33.1 l33.2.1 l33.2.2 λ_ _ _ _ _ _ us hl=>match us,hl with | [_,_,_],_=>rfl),
   (zbn a34 i34 l34.1 l34.2.1 l34.2.2 λ_ _ _ _ _ _ us hl=>match us,hl with | [_,_],_=>rfl),
   (zbn a35 i35 l35.1 l35.2.1 l35.2.2 λ_ _ _ _ _ _ us hl=>match us,hl with | [_,_,_],_=>rfl),
   (zbn a36 i36 l36.1 l36.2.1 l36.2.2 λ_ _ _ _ _ _ us hl=>match us,hl with | [_,_,_],_=>rfl),
   (zbf X G a37 l37.1 l37.2.1 l37.2.2 λ_ _ _ _ _ _ us hl=>match us,hl with | [_,_],_=>rfl),
   (zbf X G a38 l38.1 l38.2.1 l38.2.2 λ_ _ _ _ _ _ us hl=>match us,hl with | [_,_],_=>rfl),
   (zbf X G a39 l39.1 l39.2.1 l39.2.2 λ_ _ _ _ _ _ us hl=>match us,hl with | [_,_],_=>rfl),
   (zbf X G a40 l40.1 l40.2.1 l40.2.2 λ_ _ _ _ _ _ us hl=>match us,hl with | [_],_=>rfl),
   (zbf X G a41 l41.1 l41.2.1 l41.2.2 λ_ _ _ _ _ _ us hl=>match us,hl with | [_,_],_=>rfl),
   (zbf X G a42 l42.1 l42.2.1 l42.2.2 λ_ _ _ _ _ _ us hl=>match us,hl with | [_,_,_,_],_=>rfl),
   (zbf X G a43 l43.1 l43.2.1 l43.2.2 λ_ _ _ _ _ _ us hl=>match us,hl with | [_,_],_=>rfl),
   (zbf X G a44 l44.1 l44.2.1 l44.2.2 λ_ _ _ _ _ _ us hl=>match us,hl with | [_],_=>rfl),
   (zbf X G a45 l45.1 l45.2.1 l45.2.2 λ_ _ _ _ _ _ us hl=>match us,hl with | [_,_],_=>rfl),
   (zbf X G a46 l46.1 l46.2.1 l46.2.2 λ_ _ _ _ _ _ us hl=>match us,hl with | [_,_],_=>rfl),
   (zbf X G a47 l47.1 l47.2.1 l47.2.2 λ_ _ _ _ _ _ us hl=>match us,hl with | [_,_],_=>rfl),
   (zbf X G a48 l48.1 l48.2.1 l48.2.2 λ_ _ _ _ _ _ us hl=>match us,hl with | [_],_=>rfl),
   (zbf X G a49 l49.1 l49.2.1 l49.2.2 λ_ _ _ _ _ _ us hl=>match us,hl with | [_,_,_],_=>rfl),
   (zbf X G a50 l50.1 l50.2.1 l50.2.2 λ_ _ _ _ _ _ us hl=>match us,hl with | [_],_=>rfl),
   (zbf X G a51 l51.1 l51.2.1 l51.2.2 λ_ _ _ _ _ _ us hl=>match us,hl with | [_,_,_,_],_=>rfl),
   (zbf X G a52 l52.1 l52.2.1 l52.2.2 λ_ _ _ _ _ _ us hl=>match us,hl with | [_,_,_,_],_=>rfl),
   (zbf X G a53 l53.1 l53.2.1 l53.2.2 λ_ _ _ _ _ _ us hl=>match us,hl with | [_,_],_=>rfl),
   (zbf X G a54 l54.1 l54.2.1 l54.2.2 λ_ _ _ _ _ _ us hl=>match us,hl with | [_],_=>rfl),
   ⟨⟨pg_Flows,hd_Flows,po_Flows,sa_Flows⟩,W.mg_of X G aC_Flows⟩,
   ⟨⟨pg_Walker,hd_Walker,po_Walker,sa_Walker⟩,W.mg_of X G aC_Walker⟩,
   ⟨⟨pg_TextWalker,hd_TextWalker,po_TextWalker,sa_TextWalker⟩,W.mg_of X G aC_TextWalker⟩,
   ⟨⟨pg_TextFrame,hd_TextFrame,po_TextFrame,sa_TextFrame⟩,W.mg_of X G aC_TextFrame⟩,
   zeg,
   zcg,
   zcf,
   zbw,
   zcm,
   zbt,
   zcn,
   za1,
   zat,
   zbi,
   zbc,
   zb1,
   zb7,
   za9,
   zbr,
   za7,
   ⟨_,W.mg_of X G w0⟩,
   W.mg_of X G q0,
   (λH=>.inr ⟨_,itT0,nT0,m0,rfl,rfl,s0,v0⟩),
   W.mg_of X G qD0,
   zqc mD0,
   W.mg_none_of X G z_ValueError,
   W.mg_none_of X G z_len,
   W.mg_none_of X G z_list,
   W.mg_none_of X G z_tuple,
   W.mg_none_of X G z_isinstance,
   W.mg_none_of X G z_range,
   W.mg_none_of X G z_enumerate,
   W.mg_none_of X G z_dict,
   W.mg_none_of X G z_str,
   W.mg_none_of X G z_min,
   W.mg_none_of X G z_max,
   W.mg_none_of X G z_int,
   W.mg_none_of X G z_zip,
   W.mg_none_of X G z_bool,
   bl⟩
end K24
open PySem PySem.W PyProof.Rows
set_option maxRecDepth 100000 in
set_option maxHeartbeats 0 in
theorem PySem.Challenge.cw_stopglass_k24_calls_and_backs_holds : PySem.Challenge.rw_stopglass_k24_calls_and_backs.Holds := by
 refine Hd.pk.2 ?_
 unfold Hd.pk
 dsimp only
 k_fill
 refine L2.walk_ofK (l:=PySem.Challenge.rw_stopglass_k24_calls_and_backs) (n:=63) (k:=10) (x:="_law_script") (CX:=L2.CX0) (sp:=K24.sp_law) rfl (by decide) rfl ⟨rfl,by decide,by decide⟩ (λw h Y=>PySem.W.kIn_of Y) ?F ?S ?C
 case F =>
   intro w mg fa h KX G hmg;have T:∃t,K24.Txt (L2.KOf KX) mg t:=by
     dsimp only[L2.KOf]
     refine' K24.txt_mk KX G ?aC_Flows ?pg_Flows ?hd_Flows ?po_Flows ?sa_Flows ?mk_Flows ?kc_Flows ?zeg ?zcg ?zcf ?zbw ?zcm ?zbt ?zcn ?aC_Walker ?pg_Walker ?hd_Walker ?po_Walker ?sa_Walker ?mk_Walker ?kc_Walker ?aC_TextWalker ?pg_TextWalker ?hd_TextWalker ?po_TextWalker ?sa_TextWalker ?mk_TextWalker ?kc_TextWalker ?za1 ?zat ?zbi ?zbc ?zb1 ?zb7 ?aC_TextFrame ?pg_TextFrame ?hd_TextFrame ?po_TextFrame ?sa_TextFrame ?mk_TextFrame ?kc_TextFrame ?za9 ?zbr ?za7 ?xa_GlassError ?xl_GlassError ?xv_GlassError ?xk_GlassError ?xs_GlassError ?xg_GlassError ?xt_GlassError ?xc_GlassError ?xa_NoName ?xl_NoName ?xv_NoName ?xk_NoName ?xs_NoName ?xg_NoName ?xt_NoName ?xc_NoName ?xa_Ended ?xl_Ended ?xv_Ended ?xk_Ended ?xs_Ended ?xg_Ended ?xt_Ended ?xc_Ended ?sg0 ?tkX0 ?i0_NoName ?e_NoName ?kk_NoName_NoName ?kk_NoName_Ended ?kv_NoName ?i0_Ended ?e_Ended ?kk_Ended_NoName ?kk_Ended_Ended ?kv_Ended ?a0 ?l0 ?a1 ?l1 ?a2 ?l2 ?a3 ?l3 ?a4 ?l4 ?a5 ?l5 ?a6 ?l6 ?a7 ?l7 ?a8 ?i8 ?l8 ?a9 ?l9 ?ga10 ?rd10 ?a10 ?i10 ?l10 ?fc10 ?a11 ?i11 ?l11 ?a12 ?i12 ?l12 ?a13 ?i13 ?l13 ?a14 ?i14 ?l14 ?a15 ?i15 ?l15 ?a16 ?i16 ?l16 ?a17 ?i17 ?l17 ?a18 ?i18 ?l18 ?a19 ?i19 ?l19 ?a20 ?i20 ?l20 ?a21 ?i21 ?l21 ?a22 ?i22 ?l22 ?a23 ?i23 ?l23 ?a24 ?i24 ?l24 ?a25 ?i25 ?l25 ?a26 ?i26 ?l26 ?a27 ?i27 ?l27 ?a28 ?i28 ?l28 ?a29 ?i29 ?l29 ?a30 ?i30 ?l30 ?a31 ?i31 ?l31 ?a32 ?i32 ?l32 ?a33 ?i33 ?l33 ?a34 ?i34 ?l34 ?a35 ?i35 ?l35 ?a36 ?i36 ?l36 ?a37 ?l37 ?a38 ?l38 ?a39 ?l39 ?a40 ?l40 ?a41 ?l41 ?a42 ?l42 ?a43 ?l43 ?a44 ?l44 ?a45 ?l45 ?a46 ?l46 ?a47 ?l47 ?a48 ?l48 ?a49 ?l49 ?a50 ?l50 ?a51 ?l51 ?a52 ?l52 ?a53 ?l53 ?a54 ?l54 ?w0 ?q0 ?m0 ?v0 ?s0 ?qD0 ?mD0 ?z_ValueError ?z_len ?z_list ?z_tuple ?z_isinstance ?z_range ?z_enumerate ?z_dict ?z_str ?z_min ?z_max ?z_int ?z_zip ?z_bool
     (case aC_Flows=>k_is)
     (case pg_Flows=>k_is)
     (case hd_Flows=>k_is)
     (case po_Flows=>k_is)
     (case sa_Flows=>k_is)
     (case mk_Flows=>k_is)
     (case kc_Flows=>k_is)
     (case zeg=>k_is)
     (case zcg=>k_is)
     (case zcf=>k_is)
     (case zbw=>k_is)
     (case zcm=>k_is)
     (case zbt=>k_is)
     (case zcn=>k_is)
     (case aC_Walker=>k_is)
     (case pg_Walker=>k_is)
     (case hd_Walker=>k_is)
     (case po_Walker=>k_is)
     (case sa_Walker=>k_is)
     (case mk_Walker=>k_is)
     (case kc_Walker=>k_is)
     (case aC_TextWalker=>k_is)
     (case pg_TextWalker=>k_is)
     (case hd_TextWalker=>k_is)
     (case po_TextWalker=>k_is)
     (case sa_TextWalker=>k_is)
     (case mk_TextWalker=>k_is)
     (case kc_TextWalker=>k_is)
     (case za1=>k_is)
     (case zat=>k_is)
     (case zbi=>k_is)
     (case zbc=>k_is)
     (case zb1=>k_is)
     (case zb7=>k_is)
     (case aC_TextFrame=>k_is)
     (case pg_TextFrame=>k_is)
     (case hd_TextFrame=>k_is)
     (case po_TextFrame=>k_is)
     (case sa_TextFrame=>k_is)
     (case mk_TextFrame=>k_is)
     (case kc_TextFrame=>k_is)
     (case za9=>k_is)
     (case zbr=>k_is)
     (case za7=>k_is)
     (case xa_GlassError=>k_is)
     (case xl_GlassError=>k_is)
     (case xv_GlassError=>first|k_is|kernel_rfl)
     (case xk_GlassError=>k_is)
     (case xs_GlassError=>k_is)
     (case xg_GlassError=>k_is)
     (case xt_GlassError=>k_is)
     (case xc_GlassError=>k_is)
     (case xa_NoName=>k_is)
     (case xl_NoName=>k_is)
     (case xv_NoName=>first|k_is|kernel_rfl)
     (case xk_NoName=>k_is)
     (case xs_NoName=>k_is)
     (case xg_NoName=>k_is)
     (case xt_NoName=>k_is)
     (case xc_NoName=>k_is)
     (case xa_Ended=>k_is)
     (case xl_Ended=>k_is)
     (case xv_Ended=>first|k_is|kernel_rfl)
     (case xk_Ended=>k_is)
     (case xs_Ended=>k_is)
     (case xg_Ended=>k_is)
     (case xt_Ended=>k_is)
     (case xc_Ended=>k_is)
     (case sg0=>first|k_is|kernel_rfl)
     (case tkX0=>first|k_is|kernel_rfl)
     (case i0_NoName=>first|k_is|kernel_rfl)
     (case e_NoName=>first|k_is|kernel_rfl)
     (case kk_NoName_NoName=>first|k_is|kernel_rfl)
     (case kk_NoName_Ended=>first|k_is|kernel_rfl)
     (case kv_NoName=>first|k_is|kernel_rfl)
     (case i0_Ended=>first|k_is|kernel_rfl)
     (case e_Ended=>first|k_is|kernel_rfl)
     (case kk_Ended_NoName=>first|k_is|kernel_rfl)
     (case kk_Ended_Ended=>first|k_is|kernel_rfl)
     (case kv_Ended=>first|k_is|kernel_rfl)
     (case a0=>k_is)
     (case l0=>apply K24.fl_mk <;> k_is)
     (case a1=>k_is)
     (case l1=>apply K24.fl_mk <;> k_is)
     (case a2=>k_is)
     (case l2=>apply K24.fl_mk <;> k_is)
     (case a3=>k_is)
     (case l3=>apply K24.fl_mk <;> k_is)
     (case a4=>k_is)
     (case l4=>apply K24.fl_mk <;> k_is)
     (case a5=>k_is)
     (case l5=>apply K24.fl_mk <;> k_is)
     (case a6=>k_is)
     (case l6=>apply K24.fl_mk <;> k_is)
     (case a7=>k_is)
     (case l7=>apply K24.fl_mk <;> k_is)
     (case a8=>k_is)
     (case i8=>k_is)
     (case l8=>apply K24.fl_mk <;> k_is)
     (case a9=>k_is)
     (case l9=>apply K24.fl_mk <;> k_is)
     (case ga10=>first|k_is|kernel_rfl)
     (case rd10=>first|k_is|kernel_rfl)
     (case a10=>k_is)
     (case i10=>k_is)
     (case l10=>apply K24.fl_mk <;> k_is)
     (case fc10=>first|k_is|kernel_rfl)
     (case a11=>k_is)
     (case i11=>k_is)
     (case l11=>apply K24.fl_mk <;> k_is)
     (case a12=>k_is)
     (case i12=>k_is)
     (case l12=>apply K24.fl_mk <;> k_is)
     (case a13=>k_is)
     (case i13=>k_is)
     (case l13=>apply K24.fl_mk <;> k_is)
     (case a14=>k_is)
     (case i14=>k_is)
     (case l14=>apply K24.fl_mk <;> k_is)
     (case a15=>k_is)
     (case i15=>k_is)
     (case l15=>apply K24.fl_mk <;> k_is)
     (case a16=>k_is)
     (case i16=>k_is)
     (case l16=>apply K24.fl_mk <;> k_is)
     (case a17=>k_is)
     (case i17=>k_is)
     (case l17=>apply K24.fl_mk <;> k_is)
     (case a18=>k_is)
     (case i18=>k_is)
     (case l18=>apply K24.fl_mk <;> k_is)
     (case a19=>k_is)
     (case i19=>k_is)
     (case l19=>apply K24.fl_mk <;> k_is)
     (case a20=>k_is)
     (case i20=>k_is)
     (case l20=>apply K24.fl_mk <;> k_is)
     (case a21=>k_is)
     (case i21=>k_is)
     (case l21=>apply K24.fl_mk <;> k_is)
     (case a22=>k_is)
     (case i22=>k_is)
     (case l22=>apply K24.fl_mk <;> k_is)
     (case a23=>k_is)
     (case i23=>k_is)
     (case l23=>apply K24.fl_mk <;> k_is)
     (case a24=>k_is)
     (case i24=>k_is)
     (case l24=>apply K24.fl_mk <;> k_is)
     (case a25=>k_is)
     (case i25=>k_is)
     (case l25=>apply K24.fl_mk <;> k_is)
     (case a26=>k_is)
     (case i26=>k_is)
     (case l26=>apply K24.fl_mk <;> k_is)
     (case a27=>k_is)
     (case i27=>k_is)
     (case l27=>apply K24.fl_mk <;> k_is)
     (case a28=>k_is)
     (case i28=>k_is)
     (case l28=>apply K24.fl_mk <;> k_is)
     (case a29=>k_is)
     (case i29=>k_is)
     (case l29=>apply K24.fl_mk <;> k_is)
     (case a30=>k_is)
     (case i30=>k_is)
     (case l30=>apply K24.fl_mk <;> k_is)
     (case a31=>k_is)
     (case i31=>k_is)
     (case l31=>apply K24.fl_mk <;> k_is)
     (case a32=>k_is)
     (case i32=>k_is)
     (case l32=>apply K24.fl_mk <;> k_is)
     (case a33=>k_is)
     (case i33=>k_is)
     (case l33=>apply K24.fl_mk <;> k_is)
     (case a34=>k_is)
     (case i34=>k_is)
     (case l34=>apply K24.fl_mk <;> k_is)
     (case a35=>k_is)
     (case i35=>k_is)
     (case l35=>apply K24.fl_mk <;> k_is)
     (case a36=>k_is)
     (case i36=>k_is)
     (case l36=>apply K24.fl_mk <;> k_is)
     (case a37=>k_is)
     (case l37=>apply K24.fl_mk <;> k_is)
     (case a38=>k_is)
     (case l38=>apply K24.fl_mk <;> k_is)
     (case a39=>k_is)
     (case l39=>apply K24.fl_mk <;> k_is)
     (case a40=>k_is)
     (case l40=>apply K24.fl_mk <;> k_is)
     (case a41=>k_is)
     (case l41=>apply K24.fl_mk <;> k_is)
     (case a42=>k_is)
     (case l42=>apply K24.fl_mk <;> k_is)
     (case a43=>k_is)
     (case l43=>apply K24.fl_mk <;> k_is)
     (case a44=>k_is)
     (case l44=>apply K24.fl_mk <;> k_is)
     (case a45=>k_is)
     (case l45=>apply K24.fl_mk <;> k_is)
     (case a46=>k_is)
     (case l46=>apply K24.fl_mk <;> k_is)
     (case a47=>k_is)
     (case l47=>apply K24.fl_mk <;> k_is)
     (case a48=>k_is)
     (case l48=>apply K24.fl_mk <;> k_is)
     (case a49=>k_is)
     (case l49=>apply K24.fl_mk <;> k_is)
     (case a50=>k_is)
     (case l50=>apply K24.fl_mk <;> k_is)
     (case a51=>k_is)
     (case l51=>apply K24.fl_mk <;> k_is)
     (case a52=>k_is)
     (case l52=>apply K24.fl_mk <;> k_is)
     (case a53=>k_is)
     (case l53=>apply K24.fl_mk <;> k_is)
     (case a54=>k_is)
     (case l54=>apply K24.fl_mk <;> k_is)
     (case w0=>k_is)
     (case q0=>k_is)
     (case m0=>k_is)
     (case v0=>(repeat (first|exact .nil|refine .cons ⟨_,rfl⟩ ?_)))
     (case s0=>decide)
     (case qD0=>k_is)
     (case mD0=>kernel_rfl)
     (case z_ValueError=>k_is)
     (case z_len=>k_is)
     (case z_list=>k_is)
     (case z_tuple=>k_is)
     (case z_isinstance=>k_is)
     (case z_range=>k_is)
     (case z_enumerate=>k_is)
     (case z_dict=>k_is)
     (case z_str=>k_is)
     (case z_min=>k_is)
     (case z_max=>k_is)
     (case z_int=>k_is)
     (case z_zip=>k_is)
     (case z_bool=>k_is)
   obtain⟨t,T⟩:=T;have e0:=hmg.symm.trans T.law.g;cases e0;exact⟨t.z0m,T.bl,λbase kb nb=>K24.ok_law T⟩
 case S=>exact λK H a ns hl hO hS=>⟨a,ns,rfl,hS,hl,λ_=>rfl⟩
 case C=>exact λ_ _ _ _ z=>z
