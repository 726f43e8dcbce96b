import PyProof.Rows.All
import Wide.All
import OpenK.AllK
import Wide.FinOn
import Lean
import PyProof.EqAt
import PyProof.EqKinds
import PyProof.TupleCall
import KE.KDictLaws
import KE.KDictOf
import KE.KEqDict
import KE.BitLaws
import PyProof.ZipIter
import PyProof.Rows.ZipGen
import PyProof.Rows.StrSplitAre
import PySem.Challenge.RW_stopglass_k83_tables_packed
set_option Elab.async false
set_option linter.all false
set_option maxRecDepth 100000
section
namespace Hd
open PySem PySem.W PyProof.Rows
lay_quick PySem.W.topFrom
lay_quick PySem.Challenge.pw_stopglass_k83_tables_packed
noncomputable abbrev TQ := PySem.W.Fast.tw370005188180407882 PySem.W.Fast.tw14364793385576792824
noncomputable abbrev OQ := PySem.W.Fast.tw4187177175401517315
def keeps : PySem.Stmt -> Bool
 | .Assign [.Name x _] _ _ => !decide (x = "__name__")
 | _ => true
def viewOf (p : Program) : Program := { p with main := { p.main with body := p.main.body.filter keeps } }
noncomputable def S0 (w : World) (os : OsState) : Shared := ⟨boot_heap w.params, Array.mk [], boot_drawn, boot_toks, os⟩
theorem left_twin {p p' : Program} {F : Program -> Program} {X : Program -> Shared -> Bool} {loose : List Str} {α : Type} {Yf : Shared -> α} {Ya : World -> α} {N : Nat} {g0 : Bool} (row : String) (ep : p = p') (e : opening p = plainProg p.main.scope.names) (hN : Nat.ble 600 N = true) (f : ∀ s, fenceModules? p s = some s)
   (h0 : ∀ (w : World) (os : OsState), (TQ p' (w.withFollow row false) N (S0 (w.withFollow row false) os)).map (λ s => (OQ (F p') loose (importedModules p'.main.body) (X p') g0 s, Yf s)) = some (openGood (F p') loose, Ya (w.withFollow row false)))
   (h1 : ∀ (w : World) (os : OsState), (TQ p' (w.withFollow row true) N (S0 (w.withFollow row true) os)).map (λ s => (OQ (F p') loose (importedModules p'.main.body) (X p') g0 s, Yf s)) = some (openGood (F p') loose, Ya (w.withFollow row true))) : LeftO p (F p) loose (X p) Yf Ya N g0 := λ w => by
 subst ep
 have key : ∀ b, (openEnds treeTable p (w.withFollow row b) N).map (λ s => (openSeen (F p) loose (importedModules p.main.body) (X p) g0 s, Yf s)) = some (openGood (F p) loose, Ya (w.withFollow row b)) := by
   intro b
   obtain ⟨s, hs, hv⟩ := Option.map_eq_some_iff.mp (boot_open e hN f (w.withFollow row b))
   have es : s = S0 (w.withFollow row b) s.os := by
     cases s
     simp only [Prod.mk.injEq] at hv
     obtain ⟨a1, a2, a3, a4⟩ := hv
     subst a1 a2 a3 a4
     rfl
   unfold openEnds
   rw [hs, es, PySem.W.Fast.te370005188180407882, PySem.W.Fast.te14364793385576792824, PySem.W.Fast.te4187177175401517315]
   cases b
   . exact h0 w s.os
   . exact h1 w s.os
 have e0 := World.withFollow_self w row
 have := key (w.params.followText row)
 rwa [e0] at this
end Hd
open PySem PySem.W PyProof.Rows
local macro_rules | `(tactic| o_head $H) => `(tactic| (
 refine holds_open (q := Hd.viewOf PySem.Challenge.pw_stopglass_k83_tables_packed) (loose := [PySem.Str.ofString "ATOM_PLACES"]) (Xt := (λ p s => xlAt (Hd.viewOf p) [] s && recOk (RowW.records (OpenRow.toRowW (OpenLaw.row PySem.Challenge.rw_stopglass_k83_tables_packed))) s) PySem.Challenge.pw_stopglass_k83_tables_packed) (XP := XL (Hd.viewOf PySem.Challenge.pw_stopglass_k83_tables_packed) []) (Yf := Hook.obs $H) (Ya := Hook.val $H) (YP := Hook.says $H) (N := 20000) ?hl (Hook.of $H) (Hook.keeps $H) (λ s e => xl_of s (Bool.and_eq_true_iff.mp e).1) XL.keeps (by rfl) (by rfl) (by rfl) (λ s e => recFacts_of (Bool.and_eq_true_iff.mp e).2) (by rfl) (by assumption) (by decide +kernel) ⟨rfl, rfl, rfl, rfl, rfl, by decide +kernel⟩ ?hw ?hc
 (case hl => (refine Hd.left_twin (p := PySem.Challenge.pw_stopglass_k83_tables_packed) (F := Hd.viewOf) (X := λ p s => xlAt (Hd.viewOf p) [] s && recOk (RowW.records (OpenRow.toRowW (OpenLaw.row PySem.Challenge.rw_stopglass_k83_tables_packed))) s) "special-get-raises" PySem.W.Fast.te8261221966207587729 (by kernel_rfl) (by decide) (λ s => by kernel_rfl) ?_ ?_ <;> (intro w os; kernel_rfl)))))
set_option maxHeartbeats 0 in
noncomputable def Hd.pk : (G : Prop) ×' (G -> PySem.Challenge.rw_stopglass_k83_tables_packed.Holds) := by
 refine' ⟨_, λ h => _⟩
 rotate_left
 w_on; o_law; k_head; (case hw => w_witness2)
 exact h
end
namespace L2
open PySem PySem.Spec PyProof.Rows
abbrev Key := Sum Int Str
def keyIs : Key -> Value -> Bool
 | .inl k, v => Value.isInt k v
 | .inr x, v => Value.isStrOf x v
def keyH (w : World) : Key -> Int
 | .inl k => hashInt k
 | .inr x => hashStr w x
theorem keyIs_shape : ∀ {k : Key} {v : Value}, keyIs k v = true -> (∃ i t, k = Sum.inl i /\ v = Value.int i t) \/ (∃ x t, k = Sum.inr x /\ v = Value.str x t)
 | .inl i, v, h => by
   obtain ⟨t, e⟩ := Value.isInt_shape (k := i) (v := v) h
   exact .inl ⟨i, t, rfl, e⟩
 | .inr x, v, h => by
   obtain ⟨t, e⟩ := Value.isStrOf_shape (x := x) (v := v) h
   exact .inr ⟨x, t, rfl, e⟩
theorem keyIs_int (i : Int) (t : Tok) : keyIs (.inl i) (.int i t) = true := by simp [keyIs, Value.isInt]
theorem keyIs_str (x : Str) (t : Tok) : keyIs (.inr x) (.str x t) = true := by simp [keyIs, Value.isStrOf]
theorem key_ll (a b : Int) : decide ((Sum.inl a : Key) = Sum.inl b) = (a == b) := by
 by_cases e : a = b
 . subst e; simp
 . have h : ¬ (Sum.inl a : Key) = Sum.inl b := λ q => e (Sum.inl.inj q)
   rw [decide_eq_false h]
   exact (beq_eq_false_iff_ne.mpr e).symm
theorem key_rr (a b : Str) : decide ((Sum.inr a : Key) = Sum.inr b) = decide (a = b) := by
 by_cases e : a = b
 . subst e; simp
 . have h : ¬ (Sum.inr a : Key) = Sum.inr b := λ q => e (Sum.inr.inj q)
   rw [decide_eq_false h, decide_eq_false e]
theorem key_lr (a : Int) (b : Str) : decide ((Sum.inl a : Key) = Sum.inr b) = false := decide_eq_false (λ q => nomatch q)
theorem key_rl (a : Str) (b : Int) : decide ((Sum.inr a : Key) = Sum.inl b) = false := decide_eq_false (λ q => nomatch q)
def mixKind (prog : Program) (w : World) : PySem.KeyKind prog w Key where
 is := keyIs
 hash := keyH w
 inj := λ v a b ha hb => by
   rcases keyIs_shape ha with ⟨i, t, rfl, rfl⟩ | ⟨x, t, rfl, rfl⟩
   . rcases keyIs_shape hb with ⟨j, u, rfl, e⟩ | ⟨y, u, rfl, e⟩
     . injection e with e1 _; rw [e1]
     . exact nomatch e
   . rcases keyIs_shape hb with ⟨j, u, rfl, e⟩ | ⟨y, u, rfl, e⟩
     . exact nomatch e
     . injection e with e1 _; rw [e1]
 byValue := λ k v h => by
   rcases keyIs_shape h with ⟨i, t, rfl, rfl⟩ | ⟨x, t, rfl, rfl⟩ <;> rfl
 pyHash := λ hv h => by
   rcases keyIs_shape hv with ⟨i, t, rfl, rfl⟩ | ⟨x, t, rfl, rfl⟩
   . exact wpAny_pyHash_int h
   . exact wpAny_pyHash_str h
 eqBool := λ hu hv h => by
   rcases keyIs_shape hu with ⟨i, t, rfl, rfl⟩ | ⟨x, t, rfl, rfl⟩
   . rcases keyIs_shape hv with ⟨j, u, rfl, rfl⟩ | ⟨y, u, rfl, rfl⟩
     . rw [key_ll] at h; exact wpAny_eqBool_int h
     . rw [key_lr] at h; exact SeqAt.EqAt.int_str i t y u _ _ _ _ h
   . rcases keyIs_shape hv with ⟨j, u, rfl, rfl⟩ | ⟨y, u, rfl, rfl⟩
     . rw [key_rl] at h; exact SeqAt.EqAt.str_int x t j u _ _ _ _ h
     . rw [key_rr] at h; exact wpAny_eqBool_str h
 «strs» := λ k x t v h => by
   rcases keyIs_shape h with ⟨i, u, rfl, e⟩ | ⟨y, u, rfl, e⟩
   . exact nomatch e
   . injection e with e1 _
     subst e1
     cases v <;> rfl
theorem mixKind_int (prog : Program) (w : World) (i : Int) (t : Tok) : (mixKind prog w).is (.inl i) (.int i t) = true := keyIs_int i t
theorem mixKind_str (prog : Program) (w : World) (x : Str) (t : Tok) : (mixKind prog w).is (.inr x) (.str x t) = true := keyIs_str x t
end L2
namespace L2
open PySem PySem.Spec PyProof.Rows
inductive V where
 | non | bl (b : Bool) | int (i : Int) | str (x : Str) | byt (b : Array UInt8) | flt (b : UInt64) | ref (a : Addr) | ty (n : String)
 deriving DecidableEq
def RelV : V -> Value -> Prop
 | .non, u => u = Value.none
 | .bl b, u => u = Value.bool b
 | .int i, u => ∃ t, u = Value.int i t
 | .str x, u => ∃ t, u = Value.str x t
 | .byt b, u => ∃ t, u = Value.bytes b t
 | .flt b, u => ∃ t, u = Value.float b t
 | .ref a, u => u = Value.ref a
 | .ty n, u => u = Value.type n
abbrev Vals : List V -> List Value -> Prop := Paired RelV
theorem Vals.length {xs : List V} {us : List Value} (r : Vals xs us) : xs.length = us.length := Paired.length r
theorem Vals.get : ∀ {xs : List V} {us : List Value} {i : Nat} {x : V}, Vals xs us -> xs[i]? = some x -> ∃ u, us[i]? = some u /\ RelV x u
 | _, _, _, _, .nil, e => by simp at e
 | _, _, 0, _, .cons r _, e => by simp at e; subst e; exact ⟨_, rfl, r⟩
 | _, _, i + 1, x, .cons _ t, e => by
   obtain ⟨u, h1, h2⟩ := Vals.get (i := i) (x := x) t (by simpa using e)
   exact ⟨u, by simpa using h1, h2⟩
theorem Vals.set {x : V} {u : Value} (r : RelV x u) : ∀ {xs : List V} {us : List Value} (i : Nat), Vals xs us -> Vals (xs.set i x) (us.set i u)
 | _, _, _, .nil => .nil
 | _, _, 0, .cons _ t => .cons r t
 | _, _, i + 1, .cons q t => .cons q (Vals.set r i t)
theorem Vals.append : ∀ {xs ys : List V} {us ws : List Value}, Vals xs us -> Vals ys ws -> Vals (xs ++ ys) (us ++ ws)
 | _, _, _, _, .nil, s => s
 | _, _, _, _, .cons r t, s => .cons r (Vals.append t s)
theorem Vals.take : ∀ {xs : List V} {us : List Value} (n : Nat), Vals xs us -> Vals (xs.take n) (us.take n)
 | _, _, 0, _ => .nil
 | _, _, _ + 1, .nil => .nil
 | _, _, n + 1, .cons r t => .cons r (Vals.take n t)
theorem Vals.drop : ∀ {xs : List V} {us : List Value} (n : Nat), Vals xs us -> Vals (xs.drop n) (us.drop n)
 | _, _, 0, r => r
 | _, _, _ + 1, .nil => .nil
 | _, _, n + 1, .cons _ t => Vals.drop n t
theorem Vals.none_of : ∀ {xs : List V} {us : List Value} {i : Nat}, Vals xs us -> xs[i]? = none -> us[i]? = none := λ {xs us i} r e => by
 have h1 := r.length
 have h2 : xs.length <= i := List.getElem?_eq_none_iff.mp e
 exact List.getElem?_eq_none_iff.mpr (by omega)
def RelO : Option V -> Option Value -> Prop
 | some v, some u => RelV v u
 | none, none => True
 | _, _ => False
def KV {κ : Type} : List (κ × V) -> List (κ × Value) -> Prop := Paired λ (p : κ × V) (q : κ × Value) => p.1 = q.1 /\ RelV p.2 q.2
def kV : Key -> V
 | .inl i => .int i
 | .inr x => .str x
inductive HO where
 | lst (xs : List V)
 | tup (xs : List V)
 | dK (kvs : List (Key × V)) | dT (kvs : List (List Key × V))
 | set (S : Int -> Bool) (n : Nat)
 | ins (C dx : Addr) (fs : List (Str × V))
 | own (x : Addr)
 | xd (fs : List (Str × V))
 | met (f x : Addr)
 | rng (lo hi : Int)
 | frz (o : Obj) (u : HO)
 | tbl (ps : Array Value)
 | ext (φ : Heap -> Prop)
abbrev Hp := Addr -> Option HO
def upd (H : Hp) (a : Addr) (o : HO) : Hp := λ b => if b = a then some o else H b
theorem upd_same {H : Hp} {a : Addr} {o : HO} : upd H a o a = some o := by unfold upd; rw [if_pos rfl]
theorem upd_ne {H : Hp} {a b : Addr} {o : HO} (h : b ≠ a) : upd H a o b = H b := by unfold upd; rw [if_neg h]
theorem upd_upd {H : Hp} {a : Addr} {o u : HO} : upd (upd H a o) a u = upd H a u := by
 funext b; unfold upd; split <;> rfl
theorem ne_of {H : Hp} {a b : Addr} {o u : HO} (h : H a = some o) (h' : H b = some u) (d : o ≠ u) : a ≠ b := by
 intro e; subst e; rw [h] at h'; exact d (Option.some.inj h')
theorem ne_of_none {H : Hp} {a b : Addr} {o : HO} (h : H a = some o) (h' : H b = none) : a ≠ b := by
 intro e; subst e; rw [h] at h'; cases h'
section
variable (P : Program) (w : World)
def ObjOk (H : Hp) (h : Heap) (a : Addr) : HO -> Prop
 | .lst xs => xs.length <= sizeLine /\ ∃ (its : List Value) (n : Nat), Vals xs its /\ h.get? a = some { cls := .type "list", data := .seq its.toArray n }
 | .tup xs => xs.length <= sizeLine /\ ∃ its : List Value, Vals xs its /\ IsTup h a its.toArray
 | .dK kvs => kvs.length <= sizeLine /\ (a == sysModules) = false /\ ∃ vs, KV kvs vs /\ h.DictOf (mixKind P w) a vs
 | .dT kvs => kvs.length <= sizeLine /\ (a == sysModules) = false /\ ∃ xs : List (List Key × Addr × Value),
     Paired (λ (p : List Key × V) (q : List Key × Addr × Value) => p.1 = q.1 /\ H q.2.1 = some (.tup (p.1.map kV)) /\ RelV p.2 q.2.2) kvs xs /\
     ∃ o es ep, h.get? a = some o /\ o.ExactDict /\ o.data = .dict es ep /\ es.toList = xs.map (entryOfKey (tupleKind (mixKind P w))) /\ (xs.map (·.1)).Nodup
 | .set S n => h.SetOf (intKind P w) a S n
 | .ins C dx fs => H dx = some (.own a) /\ fs.length <= 1000 /\ dx ≠ a /\ h.get? a = some (PySem.W.instObj C dx) /\
     ∃ mA, h.Ns1 dx mA /\ (∀ f, RelO (fs.lookup f) (mA f)) /\ PySem.Within mA (fs.map (·.1))
 | .own _ => ∃ o, h.get? a = some o
 | .xd fs => ∃ mA, h.Ns1 a mA /\ ∀ f, RelO (fs.lookup f) (mA f)
 | .rng lo hi => ∃ t u v, h.get? a = some { cls := .type "range", data := .fields #[.int lo t, .int hi u, .int 1 v] }
 | .frz o u => h.get? a = some o /\ ObjOk H h a u
 | .tbl ps => h.get? a = some { cls := .none, data := .fields ps }
 | .met f x => h.get? a = some (PySem.W.methodObj (.ref f) (.ref x))
 | .ext φ => φ h /\ (∃ o, h.get? a = some o) /\ ∀ h1 h2 : Heap, φ h1 -> (∀ o, h1.get? a = some o -> h2.get? a = some o) -> φ h2
def HOk (H : Hp) (h : Heap) : Prop := ∀ a o, H a = some o -> ObjOk P w H h a o
end
section
variable {P : Program} {w : World} {H H' : Hp} {h h' : Heap} {a : Addr} {o : HO}
theorem ObjOk.lt (x : ObjOk P w H h a o) : a < h.objs.size := by
 cases o with
 | lst xs => obtain ⟨_, _, _, _, e⟩ := x; exact Heap.lt_size e
 | tup xs => obtain ⟨_, _, _, p⟩ := x; exact p.lt
 | dK kvs => obtain ⟨_, _, _, _, o, _, _, e, _⟩ := x; exact Heap.lt_size e
 | dT kvs => obtain ⟨_, _, _, _, o, _, _, e, _⟩ := x; exact Heap.lt_size e
 | set S n => obtain ⟨o, _, _, _, e, _⟩ := x; exact Heap.lt_size e
 | ins C dx fs => obtain ⟨_, _, _, e, _⟩ := x; exact Heap.lt_size e
 | own y => obtain ⟨_, e⟩ := x; exact Heap.lt_size e
 | xd fs => obtain ⟨_, ⟨_, _, _, e, _⟩, _⟩ := x; exact Heap.lt_size e
 | rng lo hi => obtain ⟨_, _, _, e⟩ := x; exact Heap.lt_size e
 | frz ob u => obtain ⟨e, _⟩ := x; exact Heap.lt_size e
 | tbl ps => exact Heap.lt_size (show h.get? a = some _ from x)
 | met f y => exact Heap.lt_size (show h.get? a = some _ from x)
 | ext φ => obtain ⟨_, ⟨_, e⟩, _⟩ := x; exact Heap.lt_size e
theorem Paired.mapP {α β : Type} {F G : α -> β -> Prop} : ∀ {l₁ : List α} {l₂ : List β}, Paired F l₁ l₂ -> (∀ a b, F a b -> G a b) -> Paired G l₁ l₂
 | _, _, .nil, _ => .nil
 | _, _, .cons r t, f => .cons (f _ _ r) (Paired.mapP t f)
theorem ObjOk.stay (x : ObjOk P w H h a o) (k : ∀ b u, (b = a \/ H b = some (.own a)) -> h.get? b = some u -> h'.get? b = some u)
   (ho : ∀ b, H b = some (.own a) -> H' b = some (.own a)) (ht : ∀ b xs, H b = some (.tup xs) -> H' b = some (.tup xs)) : ObjOk P w H' h' a o := by
 induction o with
 | lst xs => obtain ⟨z, its, n, r, e⟩ := x; exact ⟨z, its, n, r, k _ _ (.inl rfl) e⟩
 | tup xs => obtain ⟨z, its, r, ob, e, c⟩ := x; exact ⟨z, its, r, ob, k _ _ (.inl rfl) e, c⟩
 | dK kvs => obtain ⟨z, y, vs, r, ob, es, ep, e, c⟩ := x; exact ⟨z, y, vs, r, ob, es, ep, k _ _ (.inl rfl) e, c⟩
 | dT kvs =>
   obtain ⟨z, y, xs, r, ob, es, ep, e, c⟩ := x
   exact ⟨z, y, xs, Paired.mapP r λ p q z => ⟨z.1, ht _ _ z.2.1, z.2.2⟩, ob, es, ep, k _ _ (.inl rfl) e, c⟩
 | set S n => obtain ⟨ob, es, ep, t, e, c⟩ := x; exact ⟨ob, es, ep, t, k _ _ (.inl rfl) e, c⟩
 | ins C dx fs =>
   obtain ⟨d, z, ne, e, mA, ⟨od, es, ep, e2, c⟩, r⟩ := x
   exact ⟨ho _ d, z, ne, k _ _ (.inl rfl) e, mA, ⟨od, es, ep, k _ _ (.inr d) e2, c⟩, r⟩
 | own y => obtain ⟨ob, e⟩ := x; exact ⟨ob, k _ _ (.inl rfl) e⟩
 | xd fs => obtain ⟨mA, ⟨od, es, ep, e, c⟩, r⟩ := x; exact ⟨mA, ⟨od, es, ep, k _ _ (.inl rfl) e, c⟩, r⟩
 | rng lo hi => obtain ⟨t, u, v, e⟩ := x; exact ⟨t, u, v, k _ _ (.inl rfl) e⟩
 | frz ob u ih => obtain ⟨e, q⟩ := x; exact ⟨k _ _ (.inl rfl) e, ih q⟩
 | tbl ps =>
   have e : h.get? a = some { cls := .none, data := .fields ps } := x
   show h'.get? a = some { cls := .none, data := .fields ps }
   exact k a _ (.inl rfl) e
 | met f y =>
   have e : h.get? a = some (PySem.W.methodObj (.ref f) (.ref y)) := x
   show h'.get? a = some (PySem.W.methodObj (.ref f) (.ref y))
   exact k a _ (.inl rfl) e
 | ext φ => obtain ⟨p, ⟨o, e⟩, st⟩ := x; exact ⟨st _ _ p λ o q => k _ _ (.inl rfl) q, ⟨o, k _ _ (.inl rfl) e⟩, st⟩
theorem HOk.lt (x : HOk P w H h) (e : H a = some o) : a < h.objs.size := (x a o e).lt
theorem HOk.fresh (x : HOk P w H h) (e : h.objs.size <= a) : H a = none := by
 cases q : H a with
 | none => rfl
 | some u => exact absurd (Nat.lt_of_lt_of_le (x.lt q) e) (Nat.lt_irrefl _)
theorem HOk.kept (x : HOk P w H h) (k : ∀ b u, h.get? b = some u -> h'.get? b = some u) : HOk P w H h' := λ a o e =>
 (x a o e).stay (λ b u _ q => k b u q) (λ _ q => q) λ _ _ q => q
theorem HOk.laid (x : HOk P w H h) (k : ∀ b u, h.get? b = some u -> h'.get? b = some u) (hp : h.objs.size <= a) (new : ObjOk P w (upd H a o) h' a o) : HOk P w (upd H a o) h' := λ b u e => by
 have hn := x.fresh hp
 by_cases hb : b = a
 . subst hb; rw [upd_same] at e; cases e; exact new
 . rw [upd_ne hb] at e
   exact (x b u e).stay (λ c v _ q => k c v q) (λ c q => by rw [upd_ne (ne_of_none q hn)]; exact q) λ c xs q => by rw [upd_ne (ne_of_none q hn)]; exact q
end
def Rd (H : Hp) (a : Addr) (u : HO) : Prop := H a = some u \/ ∃ o, H a = some (.frz o u)
theorem Rd.ok {P : Program} {w : World} {H : Hp} {h : Heap} {a : Addr} {u : HO} (r : Rd H a u) (x : HOk P w H h) : ObjOk P w H h a u := by
 rcases r with r | ⟨o, r⟩
 . exact x a u r
 . obtain ⟨_, q⟩ := x a _ r
   exact q
def Mut : Option HO -> Prop
 | some (.lst _) => True
 | some (.dK _) => True
 | some (.dT _) => True
 | some (.set _ _) => True
 | some (.ins _ _ _) => True
 | some (.ext _) => True
 | _ => False
section
variable {P : Program} {w : World} {H : Hp} {h h' : Heap} {x e : Addr} {o' : HO}
theorem HOk.write (ok : HOk P w H h) (mu : Mut (H x)) (he : e = x \/ H e = some (.own x)) (k : ∀ b u, b ≠ e -> h.get? b = some u -> h'.get? b = some u) (heo : ∃ u, h'.get? e = some u)
   (new : ObjOk P w (upd H x o') h' x o') : HOk P w (upd H x o') h' := λ b u q => by
 have nown : ∀ c y, H c = some (.own y) -> c ≠ x := λ c y r z => by subst z; rw [r] at mu; exact mu
 have ntup : ∀ c xs, H c = some (.tup xs) -> c ≠ x := λ c xs r z => by subst z; rw [r] at mu; exact mu
 by_cases hb : b = x
 . subst hb; rw [upd_same] at q; cases q; exact new
 . rw [upd_ne hb] at q
   by_cases hbe : b = e
   . have q' : H b = some (.own x) := by
       rcases he with z | z
       . exact absurd (hbe.trans z) hb
       . rw [hbe]; exact z
     rw [q] at q'; cases q'
     obtain ⟨v, hv⟩ := heo
     exact ⟨v, by rw [hbe]; exact hv⟩
   . refine (ok b u q).stay (λ c v hc r => k c v ?_ r) (λ c r => by rw [upd_ne (nown c b r)]; exact r) λ c xs r => by rw [upd_ne (ntup c xs r)]; exact r
     rcases hc with rfl | hc
     . exact hbe
     . rintro rfl
       rcases he with z | z
       . exact nown c b hc z
       . rw [hc] at z; cases z; exact hb rfl
end
structure Un (fs ex : List Addr) (H H' : Hp) (h h' : Heap) : Prop where
 keep : ∀ b o, h.get? b = some o -> H b = none -> b ∉ fs -> b ∉ ex -> h'.get? b = some o
 slot : ∀ b o, h.get? b = some o -> H b = none -> b ∈ fs -> b ∉ ex -> ∃ sl, h'.get? b = some { o with slots := sl }
 free : ∀ b o, h.get? b = some o -> H b = none -> b ∉ ex -> H' b = none
 there : ∀ b o, h.get? b = some o -> b ∉ ex -> ∃ o', h'.get? b = some o'
 tups : ∀ b xs, H b = some (.tup xs) -> H' b = some (.tup xs)
 frzs : ∀ b o u, H b = some (.frz o u) -> H' b = some (.frz o u)
 tbls : ∀ b ps, H b = some (.tbl ps) -> ∃ more, H' b = some (.tbl (ps ++ more))
section
variable {fs fs' ex ex' : List Addr} {H H1 H2 : Hp} {h h1 h2 h' : Heap} {a x e : Addr} {o : HO}
theorem Un.any (u : Un fs ex H H1 h h1) {b : Addr} {ob : Obj} (q : h.get? b = some ob) (n : H b = none) (hx : b ∉ ex) : ∃ sl, h1.get? b = some { ob with slots := sl } := by
 by_cases hb : b ∈ fs
 . exact u.slot b ob q n hb hx
 . exact ⟨ob.slots, u.keep b ob q n hb hx⟩
theorem Un.kept (k : ∀ b u, h.get? b = some u -> h'.get? b = some u) : Un fs ex H H h h' :=
 ⟨λ b ob q _ _ _ => k b ob q, λ b ob q _ _ _ => ⟨ob.slots, k b ob q⟩, λ _ _ _ n _ => n, λ b ob q _ => ⟨ob, k b ob q⟩, λ _ _ q => q, λ _ _ _ q => q, λ _ ps q => ⟨#[], by rw [q]; simp⟩⟩
theorem Un.refl : Un fs ex H H h h := Un.kept λ _ _ q => q
theorem Un.laid (k : ∀ b u, h.get? b = some u -> h'.get? b = some u) (hp : h.objs.size <= a) (hn : H a = none) : Un fs ex H (upd H a o) h h' where
 keep := λ b u q _ _ _ => k b u q
 slot := λ b u q _ _ _ => ⟨u.slots, k b u q⟩
 free := λ b u q n _ => by rw [upd_ne (Nat.ne_of_lt (Nat.lt_of_lt_of_le (Heap.lt_size q) hp))]; exact n
 there := λ b u q _ => ⟨u, k b u q⟩
 tups := λ b xs q => by rw [upd_ne (ne_of_none q hn)]; exact q
 frzs := λ b u xs q => by rw [upd_ne (ne_of_none q hn)]; exact q
 tbls := λ b ps q => ⟨#[], by rw [upd_ne (ne_of_none q hn), q]; simp⟩
theorem Un.write (mu : Mut (H x)) (he : e = x \/ H e = some (.own x)) (k : ∀ b u, b ≠ e -> h.get? b = some u -> h'.get? b = some u) (heo : ∃ u, h'.get? e = some u) : Un fs ex H (upd H x o) h h' := by
 have hx : ∀ b, H b = none -> b ≠ x := λ b n z => by subst z; rw [n] at mu; exact mu
 have hb : ∀ b, H b = none -> b ≠ e := λ b n z => by
   subst z
   rcases he with r | r
   . exact hx b n r
   . rw [n] at r; cases r
 have hm : ∀ b u, H b = some u -> ¬ Mut (some u) -> b ≠ x := λ b u q nm z => by subst z; rw [q] at mu; exact nm mu
 refine ⟨λ b u q n _ _ => k b u (hb b n) q, λ b u q n _ _ => ⟨u.slots, k b u (hb b n) q⟩, λ b u q n _ => by rw [upd_ne (hx b n)]; exact n, λ b u q _ => ?_,
   λ b xs q => by rw [upd_ne (hm b _ q λ z => z)]; exact q, λ b u xs q => by rw [upd_ne (hm b _ q λ z => z)]; exact q, λ b ps q => ⟨#[], by rw [upd_ne (hm b _ q λ z => z), q]; simp⟩⟩
 by_cases hbe : b = e
 . subst hbe; exact heo
 . exact ⟨u, k b u hbe q⟩
end
def trk (h : Heap) (H : Hp) : List Addr := (List.range h.objs.size).filter λ a => (H a).isSome
def hidT (h : Heap) (H : Hp) : Heap := PySem.W.hideAll h (trk h H)
theorem hidT_size (h : Heap) (H : Hp) : (hidT h H).objs.size = h.objs.size := PySem.W.hideAll_size _ _
theorem hidT_get {h : Heap} {H : Hp} {b : Addr} {o : Obj} (e : h.get? b = some o) (n : H b = none) : (hidT h H).get? b = some o :=
 PySem.W.hideAll_get _ e λ hm => by
   have q : (H b).isSome = true := (List.mem_filter.mp hm).2
   rw [n] at q; simp at q
theorem of_hidT {h : Heap} {H : Hp} {b : Addr} {o : Obj} (e : (hidT h H).get? b = some o) : h.get? b = some o /\ H b = none := by
 have e' : h.get? b = some o := PySem.W.of_hideAll (trk h H) e
 refine ⟨e', ?_⟩
 cases q : H b with
 | none => rfl
 | some x =>
   have hm : b ∈ trk h H := List.mem_filter.mpr ⟨List.mem_range.mpr (Heap.lt_size e'), by simp [q]⟩
   have z : (hidT h H).get? b = none := PySem.W.hideAll_none (trk h H) hm
   rw [z] at e; cases e
end L2
namespace L2
open PySem PySem.Spec PyProof.Rows
structure Mod (K : W.Frag) (mg : Str -> Option Value) (base : Heap) : Prop where
 kin : K.In base
 glob : base.Ns mainGlobals mg
 blt : ∃ mb, base.Ns builtinsNs mb /\ ∀ x : Str, x ≠ "__name__" -> mb x = bootBuiltins x
 nolimit : base.NoLimit
structure Cx where
 prog : Program
 w : World
 K : W.Frag
 mg : Str -> Option Value
 base : Heap
 A : Around
 N : List Str
 s₀ : Shared
 H₀ : Hp
 env : Env
 outer : List Env
 stack : List Env
 ex : List Addr
 fn : Str -> Bool
 calm : Bool
 pn : List (Addr × Obj)
 xe : Value -> Shared -> Prop
def frs (l : List Env) : List Addr := l.filterMap (·.frame)
abbrev Cx.fs (X : Cx) : List Addr := frs X.outer
def Vis (sc : Scope) (x : Str) : Prop := sc.names.lookup x = some .local \/ sc.names.lookup x = some .cell \/ sc.names.lookup x = some .free
def Loc (sc : Scope) (x : Str) : Prop := sc.names.lookup x = some .local \/ sc.names.lookup x = some .cell
def Look (env : Env) (h : Heap) (m : Str -> Option Value) (x : Str) (u : Value) : Prop :=
 (env.kindOf x = some .local /\ m x = some u) \/ ((env.kindOf x = some .cell \/ env.kindOf x = some .free) /\ ∃ c, env.cells.lookup x = some c /\ h.IsCell c (some u))
structure Cx.Ok (X : Cx) : Prop where
 mod : Mod X.K X.mg X.base
 kind : X.env.scope.kind = .function
 glob : X.env.globals = mainGlobals
 blt : X.env.builtins = builtinsNs
 above : X.s₀.heap.objs.size <= X.env.locals
 inj : ∀ x y c, X.env.cells.lookup x = some c -> X.env.cells.lookup y = some c -> x = y
 has : ∀ x, (X.env.kindOf x = some .cell \/ X.env.kindOf x = some .free) -> ∃ c, X.env.cells.lookup x = some c
 cab : ∀ x c, X.fn x = true -> X.env.cells.lookup x = some c -> X.s₀.heap.objs.size <= c
 hd : X.calm = true -> X.A.handled = none
 frames : X.A.frames = some X.stack
 stk : X.stack = X.outer \/ (X.stack = X.env :: X.outer /\ X.env.frame = some X.env.locals)
 exf : ∀ b ∈ X.ex, b ≠ X.env.locals /\ ∀ x c, X.env.cells.lookup x = some c -> c ≠ b
 bs : ∀ b o, X.base.get? b = some o -> X.s₀.heap.get? b = some o /\ X.H₀ b = none
 bsz : X.base.objs.size <= X.s₀.heap.objs.size
 noex : ∀ b o, X.base.get? b = some o -> b ∉ X.ex
 exfs : ∀ b ∈ X.ex, b ∉ X.fs
 funs : X.s₀.heap.FunFrames X.base X.outer
 frf : ∀ b ∈ X.fs, X.H₀ b = none
structure Inv (X : Cx) (pins : List (Addr × Obj)) (σ : List (Option V)) (H : Hp) (s : Shared) : Prop where
 ok : X.Ok
 os : s.os = X.s₀.os
 bare : AllBare s.gens
 base : Un X.fs X.ex X.H₀ H X.s₀.heap s.heap
 loc : ∃ m, s.heap.Ns X.env.locals m /\ ∀ (i : Nat) (x : Str) (v : V), X.N[i]? = some x -> σ[i]? = some (some v) -> Vis X.env.scope x -> ∃ u, RelV v u /\ Look X.env s.heap m x u
 cell : ∀ x c, X.env.cells.lookup x = some c -> ∃ v, s.heap.IsCell c v
 free : H X.env.locals = none
 freeC : ∀ x c, X.env.cells.lookup x = some c -> H c = none
 pin : ∀ p ∈ X.pn ++ pins, s.heap.get? p.1 = some p.2 /\ H p.1 = none /\ p.1 ≠ X.env.locals /\ p.1 ∉ X.fs /\ ∀ v, p.2.data ≠ .cell v
 hok : HOk X.prog X.w H s.heap
 len : σ.length = X.N.length
section
variable {X : Cx} {pins : List (Addr × Obj)} {σ : List (Option V)} {H H' : Hp} {s : Shared} {h' : Heap}
theorem Cx.Ok.nofr (ok : X.Ok) {b : Addr} {o : Obj} (e : X.base.get? b = some o) : b ∉ X.fs := λ hb => by
 have := (ok.funs.mem hb).1
 rw [e] at this; cases this
theorem Inv.bs (I : Inv X pins σ H s) : ∀ b o, X.base.get? b = some o -> s.heap.get? b = some o /\ H b = none := λ b o e =>
 ⟨I.base.keep b o (I.ok.bs b o e).1 (I.ok.bs b o e).2 (I.ok.nofr e) (I.ok.noex b o e), I.base.free b o (I.ok.bs b o e).1 (I.ok.bs b o e).2 (I.ok.noex b o e)⟩
theorem Inv.bk (I : Inv X pins σ H s) : ∀ b o, X.base.get? b = some o -> s.heap.get? b = some o := λ b o e => (I.bs b o e).1
theorem Inv.mod (I : Inv X pins σ H s) : Mod X.K X.mg X.base := I.ok.mod
theorem Inv.kIn (I : Inv X pins σ H s) : X.K.In s.heap := I.ok.mod.kin.keeps I.bk
theorem Inv.fr (I : Inv X pins σ H s) : ∃ m, Fr X.base X.env.locals s.heap m :=
 let ⟨m, hn, _⟩ := I.loc
 ⟨m, hn, I.bk, Nat.le_trans I.ok.bsz I.ok.above⟩
theorem Inv.lt (I : Inv X pins σ H s) : X.env.locals < s.heap.objs.size := let ⟨_, hn, _⟩ := I.loc; hn.lt
theorem Inv.sz (I : Inv X pins σ H s) : X.s₀.heap.objs.size <= s.heap.objs.size := Nat.le_trans I.ok.above (Nat.le_of_lt I.lt)
theorem Inv.nofs (I : Inv X pins σ H s) {a : Addr} (h : s.heap.objs.size <= a) : a ∉ X.fs := λ hb => by
 obtain ⟨_, o, ho, _⟩ := I.ok.funs.mem hb
 exact absurd (Nat.lt_of_lt_of_le (Heap.lt_size ho) (Nat.le_trans I.sz h)) (Nat.lt_irrefl _)
theorem Inv.cne (I : Inv X pins σ H s) : ∀ x c, X.env.cells.lookup x = some c -> c ≠ X.env.locals := λ x c e z => by
 obtain ⟨v, o, ho, hd⟩ := I.cell x c e
 obtain ⟨m, ⟨o', es, ep, ho', hd', _⟩, _⟩ := I.loc
 rw [z, ho'] at ho; cases ho; rw [hd'] at hd; cases hd
theorem Inv.funs (I : Inv X pins σ H s) : s.heap.FunFrames X.base X.outer := by
 have all : ∀ (l : List Env), (∀ b ∈ frs l, b ∈ X.fs) -> X.s₀.heap.FunFrames X.base l -> s.heap.FunFrames X.base l := by
   intro l
   induction l with
   | nil => intro _ _; trivial
   | cons env r ih =>
     intro hs hl
     obtain ⟨hk, ⟨L, o, hf, hn, ho, hd⟩, hr⟩ := hl
     have hL : L ∈ X.fs := hs L (by unfold frs; rw [List.filterMap_cons, hf]; exact List.mem_cons_self)
     obtain ⟨sl, e⟩ := I.base.slot L o ho (I.ok.frf L hL) hL λ z => I.ok.exfs L z hL
     exact ⟨hk, ⟨L, _, hf, hn, e, hd⟩, ih (λ b hb => hs b (by unfold frs; rw [List.filterMap_cons, hf]; exact List.mem_cons_of_mem _ hb)) hr⟩
 exact all X.outer (λ _ hb => hb) I.ok.funs
theorem Inv.stack (I : Inv X pins σ H s) : s.heap.FunFrames X.base X.stack := by
 rcases I.ok.stk with e | ⟨e, hf⟩
 . rw [e]; exact I.funs
 . rw [e]
   obtain ⟨m, hn, _⟩ := I.loc
   refine .cons (by rw [I.ok.kind]; decide) hf hn ?_ I.funs
   exact Heap.get?_none_of_le (Nat.le_trans I.ok.bsz I.ok.above)
theorem Inv.stkSub (I : Inv X pins σ H s) : ∀ b ∈ frs X.stack, b ∈ X.env.locals :: X.fs := λ b hb => by
 rcases I.ok.stk with e | ⟨e, hf⟩
 . rw [e] at hb; exact List.mem_cons_of_mem _ hb
 . rw [e] at hb
   unfold frs at hb
   rw [List.filterMap_cons, hf] at hb
   exact hb
theorem Inv.stkFree (I : Inv X pins σ H s) : ∀ b ∈ frs X.stack, H b = none := λ b hb => by
 rcases List.mem_cons.mp (I.stkSub b hb) with e | hb
 . rw [e]; exact I.free
 . obtain ⟨_, o, ho, _⟩ := I.ok.funs.mem hb
   exact I.base.free b o ho (I.ok.frf b hb) λ z => I.ok.exfs b z hb
theorem Inv.step {g' : Array GenState} {t' : Nat} {d' : Drawn} {ch : List Addr} (I : Inv X pins σ H s)
   (hch : ∀ b ∈ ch, (b ∈ X.ex \/ X.s₀.heap.objs.size <= b) /\ b ≠ X.env.locals /\ (∀ x c, X.env.cells.lookup x = some c -> c ≠ b) /\ ∀ p ∈ X.pn ++ pins, p.1 ≠ b)
   (keep : ∀ b o, b ≠ X.env.locals -> b ∉ X.fs -> b ∉ ch -> s.heap.get? b = some o -> H b = none -> h'.get? b = some o)
   (slot : ∀ b o, b ≠ X.env.locals -> b ∈ X.fs -> b ∉ ch -> s.heap.get? b = some o -> H b = none -> ∃ sl, h'.get? b = some { o with slots := sl }) (free : ∀ b o, b ∉ ch -> s.heap.get? b = some o -> H b = none -> H' b = none)
   (there : ∀ b o, b ∉ ch -> s.heap.get? b = some o -> ∃ o', h'.get? b = some o')
   (tups : ∀ b xs, H b = some (.tup xs) -> H' b = some (.tup xs)) (frzs : ∀ b o u, H b = some (.frz o u) -> H' b = some (.frz o u)) (tbls : ∀ b ps, H b = some (.tbl ps) -> ∃ more, H' b = some (.tbl (ps ++ more)))
   (ns : ∀ m, s.heap.Ns X.env.locals m -> h'.Ns X.env.locals m) (hok : HOk X.prog X.w H' h') (hg : AllBare g') :
   Inv X pins σ H' { s with heap := h', gens := g', drawn := d', toks := t' } := by
 have neL : ∀ b o, X.s₀.heap.get? b = some o -> b ≠ X.env.locals := λ b o e => Nat.ne_of_lt (Nat.lt_of_lt_of_le (Heap.lt_size e) I.ok.above)
 have neC : ∀ b o, X.s₀.heap.get? b = some o -> b ∉ X.ex -> b ∉ ch := λ b o e hx hb => by
   rcases (hch b hb).1 with z | z
   . exact hx z
   . exact absurd (Nat.lt_of_lt_of_le (Heap.lt_size e) z) (Nat.lt_irrefl _)
 have cellK : ∀ x c, X.env.cells.lookup x = some c -> ∀ v, s.heap.IsCell c v -> h'.IsCell c v := λ x c e v ⟨o, ho, hd⟩ => by
   have nch : c ∉ ch := λ z => (hch c z).2.2.1 x c e rfl
   by_cases hc : c ∈ X.fs
   . obtain ⟨sl, q⟩ := slot c o (I.cne x c e) hc nch ho (I.freeC x c e)
     exact ⟨_, q, hd⟩
   . exact ⟨o, keep c o (I.cne x c e) hc nch ho (I.freeC x c e), hd⟩
 refine ⟨I.ok, I.os, hg, ⟨λ b o e n hb hx => ?_, λ b o e n hb hx => ?_, λ b o e n hx => ?_, λ b o e hx => ?_, λ b xs e => tups b xs (I.base.tups b xs e), λ b o xs e => frzs b o xs (I.base.frzs b o xs e), λ b ps e => ?_⟩, ?_, λ x c e => ?_, ?_, λ x c e => ?_, λ p hp => ?_, hok, I.len⟩
 . exact keep b o (neL b o e) hb (neC b o e hx) (I.base.keep b o e n hb hx) (I.base.free b o e n hx)
 . obtain ⟨sl, e1⟩ := I.base.slot b o e n hb hx
   obtain ⟨sl', e2⟩ := slot b _ (neL b o e) hb (neC b o e hx) e1 (I.base.free b o e n hx)
   exact ⟨sl', e2⟩
 . obtain ⟨o', e1⟩ := I.base.there b o e hx
   exact free b o' (neC b o e hx) e1 (I.base.free b o e n hx)
 . obtain ⟨o', e1⟩ := I.base.there b o e hx
   exact there b o' (neC b o e hx) e1
 . obtain ⟨m1, e1⟩ := I.base.tbls b ps e
   obtain ⟨m2, e2⟩ := tbls b _ e1
   exact ⟨m1 ++ m2, by rw [e2, Array.append_assoc]⟩
 . obtain ⟨m, hn, hl⟩ := I.loc
   refine ⟨m, ns m hn, λ i x v e1 e2 e3 => ?_⟩
   obtain ⟨u, r, l⟩ := hl i x v e1 e2 e3
   refine ⟨u, r, ?_⟩
   rcases l with l | ⟨k, c, e, z⟩
   . exact .inl l
   . exact .inr ⟨k, c, e, cellK x c e _ z⟩
 . obtain ⟨v, z⟩ := I.cell x c e
   exact ⟨v, cellK x c e v z⟩
 . obtain ⟨m, ⟨o, _, _, ho, _⟩, _⟩ := I.loc
   exact free _ o (λ z => (hch _ z).2.1 rfl) ho I.free
 . obtain ⟨v, o, ho, hd⟩ := I.cell x c e
   exact free c o (λ z => (hch c z).2.2.1 x c e rfl) ho (I.freeC x c e)
 . obtain ⟨e, n, ne, nf, d⟩ := I.pin p hp
   have nch : p.1 ∉ ch := λ z => (hch p.1 z).2.2.2 p hp rfl
   exact ⟨keep p.1 p.2 ne nf nch e n, free p.1 p.2 nch e n, ne, nf, d⟩
theorem Inv.un {t' : Nat} (I : Inv X pins σ H s) (u : Un X.fs [] H H' s.heap h') (hok : HOk X.prog X.w H' h') : Inv X pins σ H' { s with heap := h', toks := t' } := by
 obtain ⟨m, ⟨o, es, ep, ho, r⟩, _⟩ := id I.loc
 obtain ⟨sl, hL⟩ := u.any ho I.free (by simp)
 exact I.step (g' := s.gens) (d' := s.drawn) (ch := []) (λ _ z => nomatch z) (λ b o _ hb _ e n => u.keep b o e n hb (by simp)) (λ b o _ hb _ e n => u.slot b o e n hb (by simp)) (λ b o _ e n => u.free b o e n (by simp)) (λ b o _ e => u.there b o e (by simp)) u.tups u.frzs u.tbls (λ m' hm => by
   obtain ⟨o', es', ep', ho', r'⟩ := hm
   rw [ho] at ho'; cases ho'
   exact ⟨_, es', ep', hL, r'⟩) hok I.bare
theorem Inv.call {g' : Array GenState} {t' : Nat} {d' : Drawn} {ch : List Addr} (I : Inv X pins σ H s) (u : Un (frs X.stack) ch H H' s.heap h') (hok : HOk X.prog X.w H' h') (hg : AllBare g')
   (hch : ∀ b ∈ ch, (b ∈ X.ex \/ X.s₀.heap.objs.size <= b) /\ b ≠ X.env.locals /\ (∀ x c, X.env.cells.lookup x = some c -> c ≠ b) /\ ∀ p ∈ X.pn ++ pins, p.1 ≠ b) :
   Inv X pins σ H' { s with heap := h', gens := g', drawn := d', toks := t' } := by
 obtain ⟨m, ⟨o, es, ep, ho, r⟩, _⟩ := id I.loc
 obtain ⟨sl, hL⟩ := u.any ho I.free λ z => (hch _ z).2.1 rfl
 exact I.step (ch := ch) hch (λ b o hL hb hc e n => u.keep b o e n (λ z => (List.mem_cons.mp (I.stkSub b z)).elim hL hb) hc) (λ b o _ _ hc e n => u.any e n hc) (λ b o hc e n => u.free b o e n hc) (λ b o hc e => u.there b o e hc) u.tups u.frzs u.tbls (λ m' hm => by
   obtain ⟨o', es', ep', ho', r'⟩ := hm
   rw [ho] at ho'; cases ho'
   exact ⟨_, es', ep', hL, r'⟩) hok hg
theorem Inv.turned {t' : Nat} {it : Addr} (I : Inv X pins σ H s) (k : ∀ b o, b ≠ it -> s.heap.get? b = some o -> h'.get? b = some o) (hn : H it = none) (hL : it ≠ X.env.locals)
   (h1 : it ∈ X.ex \/ X.s₀.heap.objs.size <= it) (h2 : ∀ x c, X.env.cells.lookup x = some c -> c ≠ it) (h3 : ∀ p ∈ X.pn ++ pins, p.1 ≠ it) : Inv X pins σ H { s with heap := h', toks := t' } := by
 have nit : ∀ b u, H b = some u -> b ≠ it := λ b u e z => by rw [z, hn] at e; cases e
 refine I.step (g' := s.gens) (d' := s.drawn) (ch := [it]) (λ b hb => ?_) (λ b o _ _ hc e _ => k b o (λ z => hc (by simp [z])) e) (λ b o _ _ hc e _ => ⟨o.slots, k b o (λ z => hc (by simp [z])) e⟩) (λ _ _ _ _ n => n)
   (λ b o hc e => ⟨o, k b o (λ z => hc (by simp [z])) e⟩) (λ _ _ e => e) (λ _ _ _ e => e) (λ b ps e => ⟨#[], by rw [e]; simp⟩) (λ m hm => ?_) (λ b u e => ?_) I.bare
 . have e : b = it := by simpa using hb
   subst e
   exact ⟨h1, hL, h2, h3⟩
 . obtain ⟨o, es, ep, ho, r⟩ := hm
   exact ⟨o, es, ep, k _ o (Ne.symm hL) ho, r⟩
 . refine (I.hok b u e).stay (λ c v hc q => k c v ?_ q) (λ _ q => q) λ _ _ q => q
   rcases hc with z | z
   . rw [z]; exact nit b u e
   . exact nit c _ z
theorem Inv.tok (I : Inv X pins σ H s) (t : Nat) : Inv X pins σ H { s with toks := t } := I.un (h' := s.heap) (t' := t) Un.refl I.hok
theorem Inv.kept {t' : Nat} (I : Inv X pins σ H s) (k : ∀ b u, s.heap.get? b = some u -> h'.get? b = some u) : Inv X pins σ H { s with heap := h', toks := t' } := I.un (Un.kept k) (I.hok.kept k)
theorem Inv.laid {a : Addr} {o : HO} {t' : Nat} (I : Inv X pins σ H s) (k : ∀ b u, s.heap.get? b = some u -> h'.get? b = some u) (hp : s.heap.objs.size <= a) (new : ObjOk X.prog X.w (upd H a o) h' a o) :
   Inv X pins σ (upd H a o) { s with heap := h', toks := t' } := I.un (Un.laid k hp (I.hok.fresh hp)) (I.hok.laid k hp new)
theorem Inv.write {x e : Addr} {o : HO} {t' : Nat} (I : Inv X pins σ H s) (mu : Mut (H x)) (he : e = x \/ H e = some (.own x)) (k : ∀ b u, b ≠ e -> s.heap.get? b = some u -> h'.get? b = some u) (heo : ∃ u, h'.get? e = some u)
   (new : ObjOk X.prog X.w (upd H x o) h' x o) : Inv X pins σ (upd H x o) { s with heap := h', toks := t' } := I.un (Un.write mu he k heo) (I.hok.write mu he k heo new)
theorem Inv.weak {σ' : List (Option V)} (I : Inv X pins σ H s) (hl : σ'.length = σ.length) (w : ∀ (i : Nat) v, σ'[i]? = some (some v) -> σ[i]? = some (some v)) : Inv X pins σ' H s :=
 ⟨I.ok, I.os, I.bare, I.base, let ⟨m, hn, hl'⟩ := I.loc; ⟨m, hn, λ i x v e1 e2 e3 => hl' i x v e1 (w i v e2) e3⟩, I.cell, I.free, I.freeC, I.pin, I.hok, hl.trans I.len⟩
theorem Inv.pins_of {pins' : List (Addr × Obj)} (I : Inv X pins σ H s) (h : ∀ p ∈ pins', s.heap.get? p.1 = some p.2 /\ H p.1 = none /\ p.1 ≠ X.env.locals /\ p.1 ∉ X.fs /\ ∀ v, p.2.data ≠ .cell v) : Inv X pins' σ H s :=
 ⟨I.ok, I.os, I.bare, I.base, I.loc, I.cell, I.free, I.freeC, λ p hp => (List.mem_append.mp hp).elim (λ z => I.pin p (List.mem_append_left _ z)) (h p), I.hok, I.len⟩
theorem nodup_ix {N : List Str} (hN : N.Nodup) {i j : Nat} {x : Str} (a : N[i]? = some x) (b : N[j]? = some x) : i = j := by
 obtain ⟨h1, e1⟩ := List.getElem?_eq_some_iff.mp a
 obtain ⟨h2, e2⟩ := List.getElem?_eq_some_iff.mp b
 exact (List.getElem_inj hN).mp (e1.trans e2.symm)
theorem store_ok2 {M : Model} {A : Around} {E : Value -> Shared -> Prop} {i : Nat} {x : Str} {v : V} {u : Value} {Q : Unit -> Shared -> Prop} (I : Inv X pins σ H s) (hN : X.N.Nodup) (hi : X.N[i]? = some x) (hx : Loc X.env.scope x) (r : RelV v u)
   (h : ∀ s', Inv X pins (σ.set i (some v)) H s' -> (∃ a, Heap.SameBut a s.heap s'.heap /\ (a = X.env.locals \/ X.env.cells.lookup x = some a)) -> Q () s') (hf : X.fn x = true \/ X.env.scope.names.lookup x = some .local := by first | exact .inl rfl | exact .inr rfl | assumption) : wpAny M A (storeName X.env x u) Q E s := by
 obtain ⟨m, hn, hl⟩ := id I.loc
 have hcls : (X.env.scope.kind == .class || (X.env.scope.kind == .module && X.env.locals != X.env.globals)) = false := by rw [I.ok.kind]; rfl
 have hiσ : i < σ.length := by rw [I.len]; exact (List.getElem?_eq_some_iff.mp hi).1
 have cne := I.cne
 have tracked : ∀ {a : Addr} {h' : Heap}, (∃ o, s.heap.get? a = some o /\ H a = none) -> Heap.SameBut a s.heap h' -> HOk X.prog X.w H h' := λ {a h'} ha hs b ob e => by
   obtain ⟨_, _, hfree⟩ := ha
   refine (I.hok b ob e).stay (λ c w' hc q => (hs.2 c ?_).trans q) (λ _ q => q) λ _ _ q => q
   rintro rfl
   rcases hc with rfl | hc
   . rw [hfree] at e; cases e
   . rw [hfree] at hc; cases hc
 rcases hx with hk | hk
 . refine wpAny_storeName_local hk hn (λ h' hn' hs => ?_) hcls
   obtain ⟨oL, _, _, hoL, _⟩ := id hn
   refine h _ ⟨I.ok, I.os, I.bare, ⟨λ b o e n hb hx => ?_, λ b o e n hb hx => ?_, I.base.free, λ b o e hx => ?_, I.base.tups, I.base.frzs, I.base.tbls⟩, ⟨_, hn', λ j y v' e1 e2 e3 => ?_⟩, λ y c e => ?_, I.free, I.freeC, λ p hp => ?_, tracked ⟨oL, hoL, I.free⟩ hs, by simpa using I.len⟩ ⟨_, hs, .inl rfl⟩
   . exact (hs.2 b (Nat.ne_of_lt (Nat.lt_of_lt_of_le (Heap.lt_size e) I.ok.above))).trans (I.base.keep b o e n hb hx)
   . obtain ⟨sl, e1⟩ := I.base.slot b o e n hb hx
     exact ⟨sl, (hs.2 b (Nat.ne_of_lt (Nat.lt_of_lt_of_le (Heap.lt_size e) I.ok.above))).trans e1⟩
   . obtain ⟨o', e1⟩ := I.base.there b o e hx
     exact ⟨o', (hs.2 b (Nat.ne_of_lt (Nat.lt_of_lt_of_le (Heap.lt_size e) I.ok.above))).trans e1⟩
   . by_cases hj : j = i
     . subst hj
       rw [hi] at e1; cases e1
       rw [List.getElem?_set_self hiσ] at e2
       cases e2
       exact ⟨u, r, .inl ⟨hk, by simp⟩⟩
     . rw [List.getElem?_set_ne (Ne.symm hj)] at e2
       obtain ⟨u', r', q⟩ := hl j y v' e1 e2 e3
       refine ⟨u', r', ?_⟩
       rcases q with ⟨k, e⟩ | ⟨k, c, e, z⟩
       . refine .inl ⟨k, ?_⟩
         have : y ≠ x := λ e => hj (nodup_ix hN e1 (e ▸ hi))
         simp [this, e]
       . exact .inr ⟨k, c, e, z.sameBut hs (cne y c e)⟩
   . obtain ⟨w', z⟩ := I.cell y c e
     exact ⟨w', z.sameBut hs (cne y c e)⟩
   . obtain ⟨e, n, ne, nf, d⟩ := I.pin p hp
     exact ⟨(hs.2 p.1 ne).trans e, n, ne, nf, d⟩
 . have hfn : X.fn x = true := by
     rcases hf with z | z
     . exact z
     . rw [z] at hk; cases hk
   obtain ⟨c, hc⟩ := I.ok.has x (.inl hk)
   obtain ⟨w', z⟩ := I.cell x c hc
   refine wpAny_storeName_cell I.ok.kind hk hc z (λ h' hc' hs => ?_)
   obtain ⟨oc, hoc, hocd⟩ := id z
   refine h { s with heap := h' } ⟨I.ok, I.os, I.bare, ⟨λ b o e n hb hx => ?_, λ b o e n hb hx => ?_, I.base.free, λ b o e hx => ?_, I.base.tups, I.base.frzs, I.base.tbls⟩, ⟨m, hn.sameBut hs (Ne.symm (cne x c hc)), λ j y v' e1 e2 e3 => ?_⟩, λ y c' e => ?_, I.free, I.freeC, λ p hp => ?_, tracked ⟨oc, hoc, I.freeC x c hc⟩ hs, by simpa using I.len⟩ ⟨c, hs, .inr hc⟩
   . exact (hs.2 b (Nat.ne_of_lt (Nat.lt_of_lt_of_le (Heap.lt_size e) (I.ok.cab x c hfn hc)))).trans (I.base.keep b o e n hb hx)
   . obtain ⟨sl, e1⟩ := I.base.slot b o e n hb hx
     exact ⟨sl, (hs.2 b (Nat.ne_of_lt (Nat.lt_of_lt_of_le (Heap.lt_size e) (I.ok.cab x c hfn hc)))).trans e1⟩
   . obtain ⟨o', e1⟩ := I.base.there b o e hx
     exact ⟨o', (hs.2 b (Nat.ne_of_lt (Nat.lt_of_lt_of_le (Heap.lt_size e) (I.ok.cab x c hfn hc)))).trans e1⟩
   . by_cases hj : j = i
     . subst hj
       rw [hi] at e1; cases e1
       rw [List.getElem?_set_self hiσ] at e2
       cases e2
       exact ⟨u, r, .inr ⟨.inl hk, c, hc, hc'⟩⟩
     . rw [List.getElem?_set_ne (Ne.symm hj)] at e2
       obtain ⟨u', r', q⟩ := hl j y v' e1 e2 e3
       refine ⟨u', r', ?_⟩
       rcases q with q | ⟨k, c', e, z'⟩
       . exact .inl q
       . refine .inr ⟨k, c', e, z'.sameBut hs ?_⟩
         rintro rfl
         exact hj (nodup_ix hN e1 (I.ok.inj _ _ _ e hc ▸ hi))
   . by_cases hcc : c' = c
     . subst hcc; exact ⟨_, hc'⟩
     . obtain ⟨w2, z2⟩ := I.cell y c' e
       exact ⟨w2, z2.sameBut hs hcc⟩
   . obtain ⟨e, n, ne, nf, d⟩ := I.pin p hp
     refine ⟨(hs.2 p.1 ?_).trans e, n, ne, nf, d⟩
     intro q
     rw [q, hoc] at e
     have q' : oc = p.2 := Option.some.inj e
     exact d w' (by rw [<- q']; exact hocd)
theorem store_ok {M : Model} {A : Around} {E : Value -> Shared -> Prop} {i : Nat} {x : Str} {v : V} {u : Value} {Q : Unit -> Shared -> Prop} (I : Inv X pins σ H s) (hN : X.N.Nodup) (hi : X.N[i]? = some x) (hx : Loc X.env.scope x) (r : RelV v u)
   (h : ∀ s', Inv X pins (σ.set i (some v)) H s' -> Q () s') (hf : X.fn x = true \/ X.env.scope.names.lookup x = some .local := by first | exact .inl rfl | exact .inr rfl | assumption) : wpAny M A (storeName X.env x u) Q E s :=
 store_ok2 I hN hi hx r (λ s' I' _ => h s' I') hf
theorem Inv.call' {s' : Shared} {ch : List Addr} (I : Inv X pins σ H s) (ho : s'.os = s.os) (u : Un (frs X.stack) ch H H' s.heap s'.heap) (hok : HOk X.prog X.w H' s'.heap) (hg : AllBare s'.gens)
   (hch : ∀ b ∈ ch, (b ∈ X.ex \/ X.s₀.heap.objs.size <= b) /\ b ≠ X.env.locals /\ (∀ x c, X.env.cells.lookup x = some c -> c ≠ b) /\ ∀ p ∈ X.pn ++ pins, p.1 ≠ b) : Inv X pins σ H' s' := by
 obtain ⟨h', g', d', t', o'⟩ := s'
 have e : o' = s.os := ho
 subst e
 exact I.call (g' := g') (t' := t') (d' := d') u hok hg hch
end
abbrev XK := Value -> Option Addr -> Hp -> Prop
abbrev St := List (Option V)
abbrev VK := V -> Hp -> Prop
abbrev TE := St -> Hp -> VK -> Prop
abbrev TT := St -> Hp -> (Bool -> Hp -> Prop) -> Prop
abbrev TA := St -> Hp -> (List V -> Hp -> Prop) -> Prop
structure Ends where
 nx : St -> Hp -> Prop
 rt : VK
 bk : St -> Hp -> Prop := λ _ _ => False
 ct : St -> Hp -> Prop := λ _ _ => False
abbrev TS := Ends -> St -> Hp -> Prop
def EP (X : Cx) (pins : List (Addr × Obj)) (σ : St) (Q : VK) (u : Value) (s' : Shared) : Prop := ∃ v H', Inv X pins σ H' s' /\ RelV v u /\ Q v H'
def TP (X : Cx) (pins : List (Addr × Obj)) (σ : St) (Q : Bool -> Hp -> Prop) (b : Bool) (s' : Shared) : Prop := ∃ H', Inv X pins σ H' s' /\ Q b H'
def AP (X : Cx) (pins : List (Addr × Obj)) (σ : St) (Q : List V -> Hp -> Prop) (us : List Value) (s' : Shared) : Prop := ∃ vs H', Inv X pins σ H' s' /\ Vals vs us /\ Q vs H'
def SP (X : Cx) (pins : List (Addr × Obj)) (D : Ends) (f : Flow) (s' : Shared) : Prop :=
 match f with
 | .next => ∃ σ' H', Inv X pins σ' H' s' /\ D.nx σ' H'
 | .brk => ∃ σ' H', Inv X pins σ' H' s' /\ D.bk σ' H'
 | .cont => ∃ σ' H', Inv X pins σ' H' s' /\ D.ct σ' H'
 | .ret u => ∃ v σ' H', Inv X pins σ' H' s' /\ RelV v u /\ D.rt v H'
def PE (X : Cx) (e : Expr) (t : TE) : Prop :=
 ∀ (pins : List (Addr × Obj)) (s : Shared) (σ : St) (H : Hp) (Q : VK), Inv X pins σ H s -> t σ H Q -> wpAny (model X.prog X.w) X.A (eval e X.env) (EP X pins σ Q) X.xe s
def PT (X : Cx) (e : Expr) (t : TT) : Prop :=
 ∀ (pins : List (Addr × Obj)) (s : Shared) (σ : St) (H : Hp) (Q : Bool -> Hp -> Prop), Inv X pins σ H s -> t σ H Q -> wpAny (model X.prog X.w) X.A (isTrue e X.env (eval e X.env)) (TP X pins σ Q) X.xe s
def PW (X : Cx) (e : Expr) (t : TT) : Prop :=
 ∀ (whole : Sem Value) (pins : List (Addr × Obj)) (s : Shared) (σ : St) (H : Hp) (Q : Bool -> Hp -> Prop), Inv X pins σ H s -> t σ H Q -> wpAny (model X.prog X.w) X.A (isTrue e X.env whole) (TP X pins σ Q) X.xe s
theorem PW.pt {X : Cx} {e : Expr} {t : TT} (h : PW X e t) : PT X e t := h _
def PA (X : Cx) (es : List Expr) (t : TA) : Prop :=
 ∀ (pos : Pos) (pins : List (Addr × Obj)) (s : Shared) (σ : St) (H : Hp) (Q : List V -> Hp -> Prop), Inv X pins σ H s -> t σ H Q -> wpAny (model X.prog X.w) X.A (spliced (backTo pos (starEach es X.env))) (AP X pins σ Q) X.xe s
def PS (X : Cx) (st : Stmt) (t : TS) : Prop :=
 ∀ (pins : List (Addr × Obj)) (s : Shared) (σ : St) (H : Hp) (D : Ends), Inv X pins σ H s -> t D σ H -> wpAny (model X.prog X.w) X.A (exec st X.env) (SP X pins D) X.xe s
def PSs (X : Cx) (st : List Stmt) (t : TS) : Prop :=
 ∀ (pins : List (Addr × Obj)) (s : Shared) (σ : St) (H : Hp) (D : Ends), Inv X pins σ H s -> t D σ H -> wpAny (model X.prog X.w) X.A (execs st X.env) (SP X pins D) X.xe s
theorem thn {α : Type} {t : Sem α} {Q Q' : α -> Shared -> Prop} {M : Model} {A : Around} {E : Value -> Shared -> Prop} {s : Shared} (h : wpAny M A t Q E s) (hQ : ∀ a s, Q a s -> Q' a s) : wpAny M A t Q' E s := wpAny_mono h hQ λ _ _ x => x
end L2
namespace L2
open PySem PySem.Spec PyProof.Rows
section
variable {X : Cx}
def tVar (i : Nat) : TE := λ σ H Q => ∃ v, σ[i]? = some (some v) /\ Q v H
def tC (v : V) : TE := λ _ H Q => Q v H
theorem pe_var {i : Nat} {x : Str} {pos : Pos} (hN : X.N[i]? = some x) (hv : Vis X.env.scope x) (hd : (x == ("__debug__" : Str)) = false := by decide) (hcd : (x == ("__classdict__" : Str)) = false := by decide) : PE X (.Name x pos) (tVar i) := by
 intro pins s σ H Q I h
 obtain ⟨v, e, h⟩ := h
 obtain ⟨m, hn, hl⟩ := I.loc
 obtain ⟨u, r, l⟩ := hl i x v hN e hv
 have fin : EP X pins σ Q u s := ⟨v, H, I, r, h⟩
 rcases l with ⟨hk, hm⟩ | ⟨hk, c, hc, hcell⟩
 . exact wpAny_Name (wpAny_loadName_local I.ok.kind hk hn hm fin) hd
 . rcases hk with hk | hk
   . exact wpAny_Name (wpAny_loadName_cell I.ok.kind hk hc hcell fin) hd
   . exact wpAny_Name (wpAny_loadName_free I.ok.kind hk hc hcell fin hcd) hd
theorem pe_int {i j pos} : PE X (.Constant (.int i) j pos) (tC (.int i)) := λ _ _ _ H _ I h => wpAny_Constant_int ⟨.int i, H, I.tok _, ⟨_, rfl⟩, h⟩
theorem pe_bl {b j pos} : PE X (.Constant (.bool b) j pos) (tC (.bl b)) := λ _ _ _ H _ I h => Constant_bool ⟨.bl b, H, I, rfl, h⟩
theorem pe_non {j pos} : PE X (.Constant .none j pos) (tC .non) := λ _ _ _ H _ I h => Constant_none ⟨.non, H, I, rfl, h⟩
theorem pe_str {x j pos} : PE X (.Constant (.str x) j pos) (tC (.str x)) := λ _ _ _ H _ I h => Calls.Constant_str ⟨.str x, H, I.tok _, ⟨_, rfl⟩, h⟩
def Gl (X : Cx) (x : Str) : Prop := X.env.kindOf x = some .globalImplicit
theorem ld_glob {E : Value -> Shared -> Prop} {pins : List (Addr × Obj)} {s : Shared} {σ : St} {H : Hp} {x : Str} {u : Value} {pos : Pos} {Q : Value -> Shared -> Prop} (I : Inv X pins σ H s) (hg : Gl X x) (hm : X.mg x = some u) (h : Q u s)
   (hd : (x == ("__debug__" : Str)) = false := by decide) : wpAny (model X.prog X.w) X.A (eval (.Name x pos) X.env) Q E s :=
 Calls.Name_function_global I.ok.kind hg (Calls.loadGlobal_global (by rw [I.ok.glob]; exact I.mod.glob.keeps I.bk) hm h) hd
theorem ld_blt {E : Value -> Shared -> Prop} {pins : List (Addr × Obj)} {s : Shared} {σ : St} {H : Hp} {x : Str} {u : Value} {pos : Pos} {Q : Value -> Shared -> Prop} (I : Inv X pins σ H s) (hg : Gl X x) (hm : X.mg x = none) (hv : bootBuiltins x = some u) (h : Q u s)
   (hn : x ≠ "__name__" := by decide) (hd : (x == ("__debug__" : Str)) = false := by decide) : wpAny (model X.prog X.w) X.A (eval (.Name x pos) X.env) Q E s := by
 obtain ⟨mb, h1, h2⟩ := I.mod.blt
 exact Calls.Name_function_global I.ok.kind hg (Calls.loadGlobal_builtin (by rw [I.ok.glob]; exact I.mod.glob.keeps I.bk) hm (by rw [I.ok.blt]; exact h1.keeps I.bk) ((h2 x hn).trans hv) h) hd
theorem pe_glob {x : Str} {v : V} {u : Value} {pos : Pos} (hg : Gl X x) (hm : X.mg x = some u) (r : RelV v u) (hd : (x == ("__debug__" : Str)) = false := by decide) : PE X (.Name x pos) (tC v) :=
 λ _ _ _ H _ I h => ld_glob I hg hm ⟨v, H, I, r, h⟩ hd
theorem pe_bltn {x : Str} {v : V} {u : Value} {pos : Pos} (hg : Gl X x) (hm : X.mg x = none) (hv : bootBuiltins x = some u) (r : RelV v u) (hn : x ≠ "__name__" := by decide) (hd : (x == ("__debug__" : Str)) = false := by decide) : PE X (.Name x pos) (tC v) :=
 λ _ _ _ H _ I h => ld_blt I hg hm hv ⟨v, H, I, r, h⟩ hn hd
variable {a b : Expr} {ta tb : TE} {pos : Pos}
def PC (X : Cx) (op : CmpOp) (a b : Expr) (t : TE) : Prop :=
 ∀ (pins : List (Addr × Obj)) (s : Shared) (σ : St) (H : Hp) (Q : VK), Inv X pins σ H s -> t σ H Q ->
   wpAny (model X.prog X.w) X.A (eval a X.env) (λ v s₁ => wpAny (model X.prog X.w) X.A (eval b X.env) (λ u s₂ => wpAny (model X.prog X.w) X.A (compareOp op v u) (EP X pins σ Q) X.xe s₂) X.xe s₁) X.xe s
theorem nobehind (b : Expr) {op : CmpOp} (h : op ≠ .In) (h2 : op ≠ .NotIn) : behindInMarks op b = false := by
 have e1 : (op == CmpOp.In) = false := by cases op <;> first | rfl | exact absurd rfl h
 have e2 : (op == CmpOp.NotIn) = false := by cases op <;> first | rfl | exact absurd rfl h2
 cases b <;> simp [behindInMarks, e1, e2]
def tIsN (ta : TE) : TE := λ σ H Q => ta σ H λ x H1 => Q (.bl (decide (x = .non))) H1
def tNotN (ta : TE) : TE := λ σ H Q => ta σ H λ x H1 => Q (.bl (!decide (x = .non))) H1
theorem RelV.none_iff {x : V} {v : Value} (r : RelV x v) : (v == Value.none) = decide (x = .non) := by
 cases x with
 | non => cases r; rfl
 | bl _ => cases r; rfl
 | int _ => obtain ⟨t, rfl⟩ := r; rfl
 | str _ => obtain ⟨t, rfl⟩ := r; rfl
 | byt _ => obtain ⟨t, rfl⟩ := r; rfl
 | flt _ => obtain ⟨t, rfl⟩ := r; rfl
 | ref _ => cases r; rfl
 | ty _ => cases r; rfl
theorem pc_isN {j pos'} (ha : PE X a ta) : PC X .Is a (.Constant .none j pos') (tIsN ta) := by
 intro pins s σ H Q I h
 refine thn (ha pins s σ H _ I h) λ v s1 ⟨x, H1, I1, r1, q1⟩ => ?_
 exact Constant_none (is_none_gen ⟨.bl _, H1, I1, by rw [r1.none_iff]; rfl, q1⟩)
theorem pc_notN {j pos'} (ha : PE X a ta) : PC X .IsNot a (.Constant .none j pos') (tNotN ta) := by
 intro pins s σ H Q I h
 refine thn (ha pins s σ H _ I h) λ v s1 ⟨x, H1, I1, r1, q1⟩ => ?_
 exact Constant_none (isnot_none_gen ⟨.bl _, H1, I1, by rw [r1.none_iff]; rfl, q1⟩)
def tB (t : TE) : TT := λ σ H Q => t σ H λ x H1 => ∃ c, x = .bl c /\ Q c H1
theorem pt_cmp {op : CmpOp} {t : TE} (h : PC X op a b t) (h1 : behindInMarks op b = false := by first | exact nobehind _ (by decide) (by decide) | rfl) : PT X (.Compare a [op] [b] pos) (tB t) := by
 intro pins s σ H Q I hw
 refine wpAny_isTrue_Compare1 (thn (h pins s σ H _ I hw) λ v s1 h1 => thn h1 λ u s2 h2 => thn h2 λ c s3 ⟨x, H1, I1, r1, q1⟩ => ?_) h1
 obtain ⟨d, rfl, q⟩ := q1
 cases r1
 exact wpAny_truthy_bool ⟨H1, I1, q⟩
variable {tA tB' : TT} {rest : List Expr}
def tAnd (t u : TT) : TT := λ σ H Q => t σ H λ c H1 => if c = true then u σ H1 Q else Q false H1
def tOr (t u : TT) : TT := λ σ H Q => t σ H λ c H1 => if c = true then Q true H1 else u σ H1 Q
def tNot (t : TT) : TT := λ σ H Q => t σ H λ c H1 => Q (!c) H1
theorem pw_and1 (ha : PT X a tA) : PW X (.BoolOp .And [a] pos) tA := by
 intro wh pins s σ H Q I h
 refine isTrue_and (thn (ha pins s σ H Q I h) λ c s1 e => ?_)
 cases c with
 | true => exact isTrue_and_nil e
 | false => exact e
theorem pw_or1 (ha : PT X a tA) : PW X (.BoolOp .Or [a] pos) tA := by
 intro wh pins s σ H Q I h
 refine isTrue_or (thn (ha pins s σ H Q I h) λ c s1 e => ?_)
 cases c with
 | false => exact isTrue_or_nil e
 | true => exact e
theorem pw_and (ha : PT X a tA) (hb : PW X (.BoolOp .And (b :: rest) pos) tB') : PW X (.BoolOp .And (a :: b :: rest) pos) (tAnd tA tB') := by
 intro wh pins s σ H Q I h
 refine isTrue_and (thn (ha pins s σ H _ I h) λ c s1 ⟨H1, I1, q1⟩ => ?_)
 cases c with
 | true => exact hb wh pins s1 σ H1 Q I1 q1
 | false => exact ⟨H1, I1, q1⟩
theorem pw_or (ha : PT X a tA) (hb : PW X (.BoolOp .Or (b :: rest) pos) tB') : PW X (.BoolOp .Or (a :: b :: rest) pos) (tOr tA tB') := by
 intro wh pins s σ H Q I h
 refine isTrue_or (thn (ha pins s σ H _ I h) λ c s1 ⟨H1, I1, q1⟩ => ?_)
 cases c with
 | true => exact ⟨H1, I1, q1⟩
 | false => exact hb wh pins s1 σ H1 Q I1 q1
theorem pt_not (ha : PT X a tA) : PT X (.UnaryOp .Not a pos) (tNot tA) := by
 intro pins s σ H Q I h
 exact isTrue_not (ha pins s σ H (λ c H1 => Q (!c) H1) I h)
def tAndV (ta tb : TE) : TE := λ σ H Q => ta σ H λ x H1 => ∃ c, x = .bl c /\ if c = true then tb σ H1 Q else Q (.bl false) H1
theorem pe_one {op} {t : TE} (h : PE X a t) : PE X (.BoolOp op [a] pos) t := λ pins s σ H Q I hw => BoolOp_one (h pins s σ H Q I hw)
theorem pe_and (ha : PE X a ta) (hb : PE X (.BoolOp .And (b :: rest) pos) tb) : PE X (.BoolOp .And (a :: b :: rest) pos) (tAndV ta tb) := by
 intro pins s σ H Q I h
 refine BoolOp_and (thn (ha pins s σ H _ I h) λ v s1 ⟨x, H1, I1, r1, q1⟩ => ?_)
 obtain ⟨c, rfl, q1⟩ := q1
 cases r1
 refine wpAny_truthy_bool ?_
 cases c with
 | true => exact hb pins s1 σ H1 Q I1 q1
 | false => exact ⟨.bl false, H1, I1, rfl, q1⟩
def tIf (t : TT) (ta tb : TE) : TE := λ σ H Q => t σ H λ c H1 => if c = true then ta σ H1 Q else tb σ H1 Q
theorem pe_ifExp {c : Expr} (hc : PT X c tA) (ha : PE X a ta) (hb : PE X b tb) : PE X (.IfExp c a b pos) (tIf tA ta tb) := by
 intro pins s σ H Q I h
 refine wpAny_IfExp (thn (hc pins s σ H _ I h) λ d s1 ⟨H1, I1, q1⟩ => ?_)
 cases d with
 | true => exact ha pins s1 σ H1 Q I1 q1
 | false => exact hb pins s1 σ H1 Q I1 q1
end
end L2
namespace L2
open PySem PySem.Spec PyProof.Rows
def SqL (K : W.Frag) (H : Hp) (a : Addr) (xs : List V) : Prop :=
 Rd H a (.lst xs) \/
   ∃ (o : Obj) (its : Array Value) (n : Nat), K.lookup a = some o /\ o.cls = .type "list" /\ o.dict = none /\ o.data = .seq its n /\ its.size <= sizeLine /\ Vals xs its.toList
def SqT (K : W.Frag) (H : Hp) (a : Addr) (xs : List V) : Prop :=
 Rd H a (.tup xs) \/
   ∃ (o : Obj) (its : Array Value) (n : Nat), K.lookup a = some o /\ o.cls = .type "tuple" /\ o.data = .seq its n /\ its.size <= sizeLine /\ Vals xs its.toList
def absV : Value -> Option V
 | .none => some .non
 | .bool b => some (.bl b)
 | .int i _ => some (.int i)
 | .str x _ => some (.str x)
 | .bytes b _ => some (.byt b)
 | .float b _ => some (.flt b)
 | .ref a => some (.ref a)
 | .type n => some (.ty n)
 | _ => none
theorem RelV.abs {x : V} {u : Value} (r : RelV x u) : absV u = some x := by
 cases x with
 | non => cases r; rfl
 | bl _ => cases r; rfl
 | int _ => obtain ⟨t, rfl⟩ := r; rfl
 | str _ => obtain ⟨t, rfl⟩ := r; rfl
 | byt _ => obtain ⟨t, rfl⟩ := r; rfl
 | flt _ => obtain ⟨t, rfl⟩ := r; rfl
 | ref _ => cases r; rfl
 | ty _ => cases r; rfl
theorem RelV.inj {x y : V} {u : Value} (r : RelV x u) (q : RelV y u) : x = y := Option.some.inj (r.abs.symm.trans q.abs)
theorem Vals.inj : ∀ {xs ys : List V} {us : List Value}, Vals xs us -> Vals ys us -> xs = ys
 | _, _, _, .nil, .nil => rfl
 | _, _, _, .cons r t, .cons r' t' => by rw [r.inj r', Vals.inj t t']
section
variable {X : Cx} {pins : List (Addr × Obj)} {σ : St} {H : Hp} {s : Shared} {a : Addr} {xs ys : List V}
theorem SqL.of {K : W.Frag} (h : H a = some (.lst xs)) : SqL K H a xs := .inl (.inl h)
theorem SqT.of {K : W.Frag} (h : H a = some (.tup xs)) : SqT K H a xs := .inl (.inl h)
theorem Inv.list (I : Inv X pins σ H s) (h : SqL X.K H a xs) : ∃ its : List Value, Vals xs its /\ PlainL s.heap a its.toArray /\ xs.length <= sizeLine := by
 rcases h with h | ⟨o, its, n, hk, hc, hd, hs, hz, r⟩
 . obtain ⟨z, its, n, r, e⟩ := h.ok I.hok
   exact ⟨its, r, ⟨_, n, e, rfl, rfl, rfl⟩, z⟩
 . refine ⟨its.toList, r, ⟨o, n, I.kIn a o hk, hc, hd, by simpa using hs⟩, ?_⟩
   have e := r.length
   simp only [Array.length_toList] at e
   omega
theorem Inv.tuple (I : Inv X pins σ H s) (h : SqT X.K H a xs) : ∃ its : List Value, Vals xs its /\ IsTup s.heap a its.toArray /\ xs.length <= sizeLine := by
 rcases h with h | ⟨o, its, n, hk, hc, hs, hz, r⟩
 . obtain ⟨z, its, r, p⟩ := h.ok I.hok
   exact ⟨its, r, p, z⟩
 . refine ⟨its.toList, r, ⟨o, I.kIn a o hk, hc, n, by simpa using hs⟩, ?_⟩
   have e := r.length
   simp only [Array.length_toList] at e
   omega
theorem Inv.list_inj (I : Inv X pins σ H s) (h : SqL X.K H a xs) (h' : SqL X.K H a ys) : xs = ys := by
 obtain ⟨its, r, ⟨o, n, e, _, _, d⟩, _⟩ := I.list h
 obtain ⟨its', r', ⟨o', n', e', _, _, d'⟩, _⟩ := I.list h'
 rw [e] at e'; cases e'
 rw [d] at d'
 injection d' with d1 _
 have : its = its' := by simpa using congrArg Array.toList d1
 subst this
 exact r.inj r'
theorem Inv.tuple_inj (I : Inv X pins σ H s) (h : SqT X.K H a xs) (h' : SqT X.K H a ys) : xs = ys := by
 obtain ⟨its, r, ⟨o, e, _, n, d⟩, _⟩ := I.tuple h
 obtain ⟨its', r', ⟨o', e', _, n', d'⟩, _⟩ := I.tuple h'
 rw [e] at e'; cases e'
 rw [d] at d'
 injection d' with d1 _
 have : its = its' := by simpa using congrArg Array.toList d1
 subst this
 exact r.inj r'
end
abbrev Cx.wish (X : Cx) (E : Value -> Shared -> Prop) : Cx := { X with xe := E }
abbrev Cx.nox (X : Cx) : Cx := X.wish λ _ _ => False
theorem Cx.Ok.wish {X : Cx} (ok : X.Ok) (E : Value -> Shared -> Prop) : (X.wish E).Ok :=
 ⟨ok.mod, ok.kind, ok.glob, ok.blt, ok.above, ok.inj, ok.has, ok.cab, ok.hd, ok.frames, ok.stk, ok.exf, ok.bs, ok.bsz, ok.noex, ok.exfs, ok.funs, ok.frf⟩
theorem Cx.Ok.unwish {X : Cx} {E : Value -> Shared -> Prop} (ok : (X.wish E).Ok) : X.Ok :=
 ⟨ok.mod, ok.kind, ok.glob, ok.blt, ok.above, ok.inj, ok.has, ok.cab, ok.hd, ok.frames, ok.stk, ok.exf, ok.bs, ok.bsz, ok.noex, ok.exfs, ok.funs, ok.frf⟩
section
variable {X : Cx} {pins : List (Addr × Obj)} {σ : St} {H : Hp} {s : Shared} {E : Value -> Shared -> Prop}
theorem Inv.wish (I : Inv X pins σ H s) (E : Value -> Shared -> Prop) : Inv (X.wish E) pins σ H s := ⟨I.ok.wish E, I.os, I.bare, I.base, I.loc, I.cell, I.free, I.freeC, I.pin, I.hok, I.len⟩
theorem Inv.unwish (I : Inv (X.wish E) pins σ H s) : Inv X pins σ H s := ⟨I.ok.unwish, I.os, I.bare, I.base, I.loc, I.cell, I.free, I.freeC, I.pin, I.hok, I.len⟩
theorem SP.unwish {D : Ends} {f : Flow} {s' : Shared} (h : SP (X.wish E) pins D f s') : SP X pins D f s' := by
 cases f with
 | next => obtain ⟨σ', H', I, q⟩ := h; exact ⟨σ', H', I.unwish, q⟩
 | brk => obtain ⟨σ', H', I, q⟩ := h; exact ⟨σ', H', I.unwish, q⟩
 | cont => obtain ⟨σ', H', I, q⟩ := h; exact ⟨σ', H', I.unwish, q⟩
 | ret u => obtain ⟨v, σ', H', I, r, q⟩ := h; exact ⟨v, σ', H', I.unwish, r, q⟩
theorem PSs.nox {st : List Stmt} {t : TS} (h : PSs X.nox st t) : PSs X st t := λ pins s σ H D I hw =>
 wpAny_mono (h pins s σ H D (I.wish _) hw) (λ _ _ q => q.unwish) λ _ _ z => False.elim z
end
section
variable {X : Cx} {st : Stmt} {rest : List Stmt} {t u : TS} {e : Expr} {te : TE} {pos : Pos}
def tNext : TS := λ D σ H => D.nx σ H
def tSeq (t u : TS) : TS := λ D σ H => t { D with nx := u D } σ H
theorem pss_nil : PSs X [] tNext := λ _ _ σ H _ I h => wpAny_execs_nil ⟨σ, H, I, h⟩
theorem pss_cons (h1 : PS X st t) (h2 : PSs X rest u) : PSs X (st :: rest) (tSeq t u) := by
 intro pins s σ H D I h
 refine wpAny_execs_cons (thn (h1 pins s σ H { D with nx := u D } I h) λ f s1 q => ?_)
 cases f with
 | next =>
   obtain ⟨σ', H', I', q⟩ := q
   exact h2 pins s1 σ' H' D I' q
 | ret v => exact q
 | brk => exact q
 | cont => exact q
theorem pss_one (h1 : PS X st t) : PSs X [st] t := by
 intro pins s σ H D I h
 refine wpAny_execs_cons (thn (h1 pins s σ H D I h) λ f s1 q => ?_)
 cases f with
 | next => exact wpAny_execs_nil q
 | ret v => exact q
 | brk => exact q
 | cont => exact q
theorem Inv.quiet {pins : List (Addr × Obj)} {σ : St} {H : Hp} {s : Shared} (I : Inv X pins σ H s) : interactive X.env = false := by simp [interactive, I.ok.kind]
def tDrop (te : TE) : TS := λ D σ H => te σ H λ _ H1 => D.nx σ H1
theorem ps_expr (he : PE X e te) (hs : swapsWith e none pos.line X.env = pure false := by rfl) : PS X (.Expr e pos) (tDrop te) := by
 intro pins s σ H D I h
 exact wpAny_Expr_any (thn (he pins s σ H _ I h) λ v s1 ⟨x, H1, I1, r1, q1⟩ => ⟨σ, H1, I1, q1⟩) I.quiet hs
def tRet (te : TE) : TS := λ D σ H => te σ H D.rt
theorem ps_ret (he : PE X e te) : PS X (.Return (some e) pos) (tRet te) := by
 intro pins s σ H D I h
 exact wpAny_Return_some (thn (he pins s σ H _ I h) λ v s1 ⟨x, H1, I1, r1, q1⟩ => ⟨x, σ, H1, I1, r1, q1⟩)
def tIfS (c : TT) (t u : TS) : TS := λ D σ H => c σ H λ b H1 => if b = true then t D σ H1 else u D σ H1
theorem ps_if {c : Expr} {a b : List Stmt} {tc : TT} (hc : PT X c tc) (ha : PSs X a t) (hb : PSs X b u) : PS X (.If c a b pos) (tIfS tc t u) := by
 intro pins s σ H D I h
 refine wpAny_If (thn (hc pins s σ H _ I h) λ d s1 ⟨H1, I1, q1⟩ => ?_)
 cases d with
 | true => exact ha pins s1 σ H1 D I1 q1
 | false => exact hb pins s1 σ H1 D I1 q1
end
abbrev TG := V -> St -> Hp -> (St -> Hp -> Prop) -> Prop
abbrev TGs := List V -> St -> Hp -> (St -> Hp -> Prop) -> Prop
def PG (X : Cx) (target : Expr) (t : TG) : Prop :=
 ∀ (pins : List (Addr × Obj)) (s : Shared) (σ : St) (H : Hp) (v : V) (u : Value) (Q : St -> Hp -> Prop), Inv X pins σ H s -> RelV v u -> t v σ H Q ->
   wpAny (model X.prog X.w) X.A (assign target X.env u) (λ _ s' => ∃ σ' H', Inv X pins σ' H' s' /\ Q σ' H') X.xe s
def PGs (X : Cx) (ts : List Expr) (t : TGs) : Prop :=
 ∀ (pins : List (Addr × Obj)) (s : Shared) (σ : St) (H : Hp) (vs : List V) (us : List Value) (Q : St -> Hp -> Prop), Inv X pins σ H s -> Vals vs us -> t vs σ H Q ->
   wpAny (model X.prog X.w) X.A (assignInOrder ((assignEach ts X.env).map (·.2)) us) (λ _ s' => ∃ σ' H', Inv X pins σ' H' s' /\ Q σ' H') X.xe s
abbrev TSet := V -> V -> V -> Hp -> (Hp -> Prop) -> Prop
def PSet (X : Cx) (t : TSet) : Prop :=
 ∀ (pins : List (Addr × Obj)) (s : Shared) (σ : St) (H : Hp) (o i v : V) (ov iv u : Value) (Q : Hp -> Prop), Inv X pins σ H s -> RelV o ov -> RelV i iv -> RelV v u -> t o i v H Q ->
   wpAny (model X.prog X.w) X.A (setItem ov iv u) (λ _ s' => ∃ H', Inv X pins σ H' s' /\ Q H') X.xe s
section
variable {X : Cx} {pos : Pos}
def gName (i : Nat) : TG := λ v σ H Q => Q (σ.set i (some v)) H
theorem pg_name {i : Nat} {x : Str} (hN : X.N.Nodup) (hi : X.N[i]? = some x) (hx : Loc X.env.scope x) (hf : X.fn x = true \/ X.env.scope.names.lookup x = some .local := by first | exact .inl rfl | exact .inr rfl | assumption) : PG X (.Name x pos) (gName i) := by
 intro pins s σ H v u Q I r h
 exact wpAny_assign_Name (store_ok I hN hi hx r (λ s' I' => ⟨_, H, I', h⟩) hf)
def gNil : TGs := λ vs σ H Q => vs = [] /\ Q σ H
def gCons (t : TG) (u : TGs) : TGs := λ vs σ H Q => ∃ v r, vs = v :: r /\ t v σ H λ σ' H' => u r σ' H' Q
theorem pgs_nil : PGs X [] gNil := by
 intro pins s σ H vs us Q I r h
 obtain ⟨e, h⟩ := h
 subst e
 cases r
 exact assignInOrder_nil ⟨σ, H, I, h⟩
theorem pgs_cons {e : Expr} {es : List Expr} {t : TG} {u : TGs} (h1 : PG X e t) (h2 : PGs X es u)
   (hs : (assignEach (e :: es) X.env).map (·.2) = assign e X.env :: (assignEach es X.env).map (·.2) := by rfl) : PGs X (e :: es) (gCons t u) := by
 intro pins s σ H vs us Q I r h
 obtain ⟨v, vr, e1, h⟩ := h
 subst e1
 cases r with
 | cons r rr =>
   rw [hs]
   refine assignInOrder_cons (thn (h1 pins s σ H _ _ _ I r h) λ _ s1 ⟨σ1, H1, I1, q1⟩ => ?_)
   exact h2 pins s1 σ1 H1 _ _ Q I1 rr q1
def gTup (K : W.Frag) (n : Nat) (t : TGs) : TG := λ v σ H Q => ∃ a xs, v = .ref a /\ SqT K H a xs /\ xs.length = n /\ t xs σ H Q
theorem pg_tup {es : List Expr} {k : Nat} {t : TGs} {n : Nat} (hc : X.calm = true) (h : PGs X es t)
   (hn : (assignEach es X.env).length = n := by rfl) (hst : (assignEach es X.env).findIdx? (·.1) = none := by rfl) : PG X (.Tuple es k pos) (gTup X.K n t) := by
 intro pins s σ H v u Q I r hw
 obtain ⟨a, xs, e1, hq, hl, hw⟩ := hw
 subst e1
 cases r
 obtain ⟨its, rv, ht, hz⟩ := I.tuple hq
 refine assign_Tuple_tuple (I.ok.hd hc) ht (by simp [hn, <- hl, rv.length]) hst λ h' hx => ?_
 have I1 : Inv X pins σ H { s with heap := h' } := I.kept (t' := s.toks) λ b o e => hx b o (Nat.ne_of_lt (Heap.lt_size e)) e
 exact h pins _ σ H xs _ Q I1 (by simpa using rv) hw
def gSub (to ti : TE) (t : TSet) : TG := λ v σ H Q => to σ H λ o H1 => ti σ H1 λ i H2 => t o i v H2 λ H3 => Q σ H3
theorem pg_sub {o i : Expr} {to ti : TE} {t : TSet} (ho : PE X o to) (hi : PE X i ti) (hs : PSet X t)
   (ha : ∀ v, assign (.Subscript o i pos) X.env v = (do
     let ov <- holding [v] (eval o X.env)
     let iv <- holding [v, ov] (eval i X.env)
     standAt pos
     holding [v, ov, iv] (setItem ov iv v)
     release [v, ov, iv] []) := by intro _; rfl) : PG X (.Subscript o i pos) (gSub to ti t) := by
 intro pins s σ H v u Q I r h
 rw [ha]
 refine wpAny_bind (wpAny_holding (thn (ho pins s σ H _ I h) λ ov s1 ⟨x, H1, I1, r1, q1⟩ => ?_))
 refine wpAny_bind (wpAny_holding (thn (hi pins s1 σ H1 _ I1 q1) λ iv s2 ⟨y, H2, I2, r2, q2⟩ => ?_))
 refine wpAny_bind (wpAny_standAt (wpAny_bind (wpAny_holding (thn (hs pins s2 σ H2 x y v ov iv u _ I2 r1 r2 r q2) λ _ s3 ⟨H3, I3, q3⟩ => ?_))))
 exact wpAny_release ⟨σ, H3, I3, q3⟩
def tAsg (te : TE) (g : TG) : TS := λ D σ H => te σ H λ x H1 => g x σ H1 D.nx
theorem ps_asg {tg e : Expr} {te : TE} {g : TG} (he : PE X e te) (hg : PG X tg g) (hs : swapsWithSole [tg] e pos.line X.env = pure false := by rfl) (hw : swappedStores [tg] e X.env = pure none := by rfl)
   (h1 : (assignEach [tg] X.env).map (·.2) = [assign tg X.env] := by rfl) : PS X (.Assign [tg] e pos) (tAsg te g) := by
 intro pins s σ H D I h
 refine wpAny_Assign_stores (thn (he pins s σ H _ I h) λ v s1 ⟨x, H1, I1, r1, q1⟩ => ?_) hs hw
 rw [h1]
 exact thn (hg pins s1 σ H1 x v _ I1 r1 q1) λ _ s2 q => q
theorem ps_set {i : Nat} {x : Str} {e : Expr} {te : TE} {pos' : Pos} (hN : X.N.Nodup) (hi : X.N[i]? = some x) (hx : Loc X.env.scope x) (he : PE X e te) (hs : swapsWith e (some (.Name x pos')) pos.line X.env = pure false := by rfl) (hf : X.fn x = true \/ X.env.scope.names.lookup x = some .local := by first | exact .inl rfl | exact .inr rfl | assumption) :
   PS X (.Assign [.Name x pos'] e pos) (tAsg te (gName i)) := by
 intro pins s σ H D I h
 refine wpAny_Assign_Name (thn (he pins s σ H _ I h) λ v s1 ⟨y, H1, I1, r1, q1⟩ => ?_) hs
 exact store_ok I1 hN hi hx r1 (λ s2 I2 => ⟨_, H1, I2, q1⟩) hf
end
section
variable {X : Cx} {pos : Pos}
def tWhile (c : TT) (tb : TS) : TS := λ D σ H => ∃ W : Nat -> St -> Hp -> Prop, (∃ m, W m σ H) /\ ∀ m σ H, W m σ H ->
 c σ H λ b H1 => if b = true then ∃ N : St -> Hp -> Prop, (∀ σ' H', N σ' H' -> ∃ m', m' < m /\ W m' σ' H') /\ tb { D with nx := N, ct := N, bk := D.nx } σ H1 else D.nx σ H1
theorem ps_while {c : Expr} {body : List Stmt} {tc : TT} {tb : TS} (hp : PassesOwn (model X.prog X.w) X.A X.env X.xe) (hc : PT X c tc) (hb : PSs X body tb) : PS X (.While c body [] pos) (tWhile tc tb) := by
 intro pins s σ H D I h
 obtain ⟨W, ⟨m0, w0⟩, turn⟩ := h
 refine wpAny_While (codeAny_whileLoop (λ n s' => ∃ σ' H', Inv X pins σ' H' s' /\ W n σ' H') ?_ m0 ⟨σ, H, I, w0⟩)
 rintro n s1 ⟨σ1, H1, I1, w1⟩
 refine wpAny_passesOwn hp (thn (hc pins s1 σ1 H1 _ I1 (turn n σ1 H1 w1)) λ b s2 ⟨H2, I2, q2⟩ => ?_)
 cases b with
 | true =>
   obtain ⟨N, hN, q2⟩ := q2
   rw [if_pos rfl]
   refine wpAny_passesOwn hp (thn (hb pins s2 σ1 H2 _ I2 q2) λ f s3 q3 => ?_)
   cases f with
   | next =>
     obtain ⟨σ3, H3, I3, n3⟩ := q3
     obtain ⟨m', hm, w3⟩ := hN σ3 H3 n3
     exact ⟨m', hm, σ3, H3, I3, w3⟩
   | cont =>
     obtain ⟨σ3, H3, I3, n3⟩ := q3
     obtain ⟨m', hm, w3⟩ := hN σ3 H3 n3
     exact ⟨m', hm, σ3, H3, I3, w3⟩
   | brk => exact q3
   | ret v => exact q3
 | false =>
   rw [if_neg Bool.false_ne_true]
   exact wpAny_execs_nil ⟨σ1, H2, I2, q2⟩
end
structure It where
 go : Nat -> Hp -> Prop
 yld : Nat -> Hp -> V -> Hp -> Prop
 stop : Nat -> Hp -> Prop
def FpOk (X : Cx) (pins : List (Addr × Obj)) (H : Hp) (b : Addr) : Prop :=
 H b = none /\ b ≠ X.env.locals /\ b ∉ X.fs /\ (b ∈ X.ex \/ X.s₀.heap.objs.size <= b) /\ (∀ x c, X.env.cells.lookup x = some c -> c ≠ b) /\ ∀ p ∈ X.pn ++ pins, p.1 ≠ b
theorem Inv.fpOk {X : Cx} {pins : List (Addr × Obj)} {σ : St} {H H' : Hp} {s : Shared} {b : Addr} (I : Inv X pins σ H s) (hb : s.heap.objs.size <= b) (hn : H' b = none) : FpOk X pins H' b := by
 refine ⟨hn, Nat.ne_of_gt (Nat.lt_of_lt_of_le I.lt hb), I.nofs hb, .inr (Nat.le_trans I.sz hb), λ x c e z => ?_, λ p hp z => ?_⟩
 . obtain ⟨v, q⟩ := I.cell x c e
   exact absurd (Nat.lt_of_lt_of_le q.lt (by rw [z]; exact hb)) (Nat.lt_irrefl _)
 . exact absurd (Nat.lt_of_lt_of_le (Heap.lt_size (I.pin p hp).1) (by rw [z]; exact hb)) (Nat.lt_irrefl _)
structure Turn (P : Program) (w : World) (K : W.Frag) (tg : Expr) (J : It) (fp : List Addr) (it : Addr) (tn : Nat -> Heap -> Prop) : Prop where
 mem : it ∈ fp
 obj : ∀ i h, tn i h -> ∀ b ∈ fp, ∃ o, h.get? b = some o /\ ∀ v, o.data ≠ .cell v
 keep : ∀ i h h', tn i h -> (∀ b ∈ fp, ∀ o, h.get? b = some o -> h'.get? b = some o) -> tn i h'
 item : ∀ (X : Cx), X.prog = P -> X.w = w -> X.K = K -> X.calm = true -> ∀ (i : Nat) (pins : List (Addr × Obj)) (s : Shared) (σ : St) (H : Hp) (E : Value -> Shared -> Prop), Inv X pins σ H s -> (∀ b ∈ fp, FpOk X pins H b) -> tn i s.heap -> J.go i H ->
   wpAny (model P w) X.A (pyNext (.ref it)) (λ r s1 => ∃ u, r = some u /\
     wpAny (model P w) X.A (letOwnedTupleGo tg (.ref it) u) (λ _ s2 => ∃ x H', Inv X pins σ H' s2 /\ RelV x u /\ J.yld i H x H' /\ tn (i + 1) s2.heap /\ ∀ b ∈ fp, H' b = none) E s1) E s
 done : ∀ (X : Cx), X.prog = P -> X.w = w -> X.K = K -> X.calm = true -> ∀ (i : Nat) (pins : List (Addr × Obj)) (s : Shared) (σ : St) (H : Hp) (E : Value -> Shared -> Prop), Inv X pins σ H s -> (∀ b ∈ fp, FpOk X pins H b) -> tn i s.heap -> J.stop i H ->
   wpAny (model P w) X.A (pyNext (.ref it)) (λ r s1 => r = none /\ Inv X pins σ H s1) E s
 self : ∀ (A : Around) (i : Nat) (s : Shared) (Q : Value -> Shared -> Prop) (E : Value -> Shared -> Prop), tn i s.heap -> Q (.ref it) s -> wpAny (model P w) A (pyIter (.ref it)) Q E s
abbrev TI := St -> Hp -> (It -> Hp -> Prop) -> Prop
def PIE (X : Cx) (pins : List (Addr × Obj)) (σ : St) (tg : Expr) (R : It -> Hp -> Prop) (itv : Value) (s2 : Shared) : Prop :=
 ∃ (it : Addr) (fp : List Addr) (tn : Nat -> Heap -> Prop) (J : It) (H' : Hp), itv = .ref it /\ Inv X pins σ H' s2 /\ Turn X.prog X.w X.K tg J fp it tn /\ tn 0 s2.heap /\ (∀ b ∈ fp, FpOk X pins H' b) /\ R J H'
def PI (X : Cx) (tg iter : Expr) (wi : TI) : Prop :=
 ∀ (pins : List (Addr × Obj)) (s : Shared) (σ : St) (H : Hp) (R : It -> Hp -> Prop), Inv X pins σ H s -> wi σ H R ->
   wpAny (model X.prog X.w) X.A (eval iter X.env) (λ v s1 => wpAny (model X.prog X.w) X.A (pyIter v) (PIE X pins σ tg R) X.xe s1) X.xe s
theorem go_of {M : Model} {A : Around} {E : Value -> Shared -> Prop} {s : Shared} {tg : Expr} {it : Addr} {u : Value} {o : Obj} {n : String} {vs : Array Value} {Q : Unit -> Shared -> Prop} (ho : s.heap.get? it = some o) (hc : o.cls = .type n) (hd : o.data = .fields vs)
   (hn : ["enumerate", "zip", "dict_itemiterator", "dict_reverseitemiterator", "odict_iterator", "itertools.zip_longest", "itertools.pairwise"].contains n = false) (hQ : Q () s) : wpAny M A (letOwnedTupleGo tg (.ref it) u) Q E s := by
 unfold letOwnedTupleGo
 cases tg <;> first
   | exact wpAny_pure hQ
   | (cases u <;> first
       | exact wpAny_pure hQ
       | (refine wpAny_bind (wpAny_load ho ?_)
          rw [hc, hd]
          show wpAny M A (if (["enumerate", "zip", "dict_itemiterator", "dict_reverseitemiterator", "odict_iterator", "itertools.zip_longest", "itertools.pairwise"].contains n && vs[0]? == some (rawInt _)) = true then _ else _) Q E s
          rw [if_neg (by intro h; rw [hn, Bool.false_and] at h; cases h)]
          exact wpAny_pure hQ))
def Itl (K : W.Frag) (a : Addr) : It :=
 ⟨λ i H => ∃ xs x, SqL K H a xs /\ xs[i]? = some x, λ i H x H' => H' = H /\ ∀ xs, SqL K H a xs -> xs[i]? = some x, λ i H => ∃ xs, SqL K H a xs /\ xs.length <= i⟩
def Itt (K : W.Frag) (a : Addr) : It :=
 ⟨λ i H => ∃ xs x, SqT K H a xs /\ xs[i]? = some x, λ i H x H' => H' = H /\ ∀ xs, SqT K H a xs -> xs[i]? = some x, λ i H => ∃ xs, SqT K H a xs /\ xs.length <= i⟩
def Itr (lo : Int) (n : Nat) : It := ⟨λ i _ => i < n, λ i H x H' => H' = H /\ x = .int (lo + i), λ i _ => n <= i⟩
theorem turn_list {P : Program} {w : World} {K : W.Frag} {tg : Expr} (a it : Addr) : Turn P w K tg (Itl K a) [it] it (λ i h => h.IsListIter it a i) where
 mem := by simp
 obj := λ i h st b hb => by
   have e : b = it := by simpa using hb
   subst e
   obtain ⟨o, e, c, d⟩ := st
   exact ⟨o, e, λ v z => by rw [d] at z; cases z⟩
 keep := λ i h h' st k => st.at λ o e => k it (by simp) o e
 item := by
   intro X hP hw hK hc i pins s σ H E I hf st hg
   subst hP hw hK
   obtain ⟨xs, x, hq, hx⟩ := hg
   obtain ⟨its, rv, p, hz⟩ := I.list hq
   obtain ⟨u, hu, ru⟩ := rv.get hx
   obtain ⟨f0, f1, f2, f3, f4, f5⟩ := hf it (by simp)
   refine wpAny_pyNext_list_item st p.isList (x := u) (by simpa using hu) λ h' st' sb => ?_
   have I1 : Inv X pins σ H { s with heap := h' } := I.turned (t' := s.toks) (λ b o hb e => (sb.2 b hb).trans e) f0 f1 f3 f4 f5
   obtain ⟨o, e, c, d⟩ := id st'
   exact ⟨u, rfl, go_of (s := { s with heap := h' }) e c d (by decide) ⟨x, H, I1, ru, ⟨rfl, λ ys hy => by rw [I.list_inj hy hq]; exact hx⟩, st', λ b hb => (hf b hb).1⟩⟩
 done := by
   intro X hP hw hK hc i pins s σ H E I hf st hg
   subst hP hw hK
   obtain ⟨xs, hq, hx⟩ := hg
   obtain ⟨its, rv, p, hz⟩ := I.list hq
   obtain ⟨f0, f1, f2, f3, f4, f5⟩ := hf it (by simp)
   have hl := rv.length
   exact wpAny_pyNext_list_end (I.ok.hd hc) st p.isList (by simp; omega) λ h' eb => ⟨rfl, I.turned (t' := s.toks) (λ b o hb e => eb b o hb e) f0 f1 f3 f4 f5⟩
 self := λ _ _ _ _ _ st h => wpAny_pyIter_listiter st h
theorem turn_tuple {P : Program} {w : World} {K : W.Frag} {tg : Expr} (a it : Addr) : Turn P w K tg (Itt K a) [it] it (λ i h => h.IsTupleIter it a i) where
 mem := by simp
 obj := λ i h st b hb => by
   have e : b = it := by simpa using hb
   subst e
   obtain ⟨o, e, c, d⟩ := st
   exact ⟨o, e, λ v z => by rw [d] at z; cases z⟩
 keep := λ i h h' st k => st.at λ o e => k it (by simp) o e
 item := by
   intro X hP hw hK hc i pins s σ H E I hf st hg
   subst hP hw hK
   obtain ⟨xs, x, hq, hx⟩ := hg
   obtain ⟨its, rv, p, hz⟩ := I.tuple hq
   obtain ⟨u, hu, ru⟩ := rv.get hx
   obtain ⟨f0, f1, f2, f3, f4, f5⟩ := hf it (by simp)
   refine wpAny_pyNext_tuple_item st (show s.heap.IsTuple a its.toArray from p) (x := u) (by simpa using hu) λ h' st' sb => ?_
   have I1 : Inv X pins σ H { s with heap := h' } := I.turned (t' := s.toks) (λ b o hb e => (sb.2 b hb).trans e) f0 f1 f3 f4 f5
   obtain ⟨o, e, c, d⟩ := id st'
   exact ⟨u, rfl, go_of (s := { s with heap := h' }) e c d (by decide) ⟨x, H, I1, ru, ⟨rfl, λ ys hy => by rw [I.tuple_inj hy hq]; exact hx⟩, st', λ b hb => (hf b hb).1⟩⟩
 done := by
   intro X hP hw hK hc i pins s σ H E I hf st hg
   subst hP hw hK
   obtain ⟨xs, hq, hx⟩ := hg
   obtain ⟨its, rv, p, hz⟩ := I.tuple hq
   obtain ⟨f0, f1, f2, f3, f4, f5⟩ := hf it (by simp)
   have hl := rv.length
   exact wpAny_pyNext_tuple_end (I.ok.hd hc) st (show s.heap.IsTuple a its.toArray from p) (by simp; omega) λ h' eb => ⟨rfl, I.turned (t' := s.toks) (λ b o hb e => eb b o hb e) f0 f1 f3 f4 f5⟩
 self := λ _ _ _ _ _ st h => wpAny_pyIter_tupleiter st h
theorem turn_range {P : Program} {w : World} {K : W.Frag} {tg : Expr} (it : Addr) (lo : Int) (n : Nat) : Turn P w K tg (Itr lo n) [it] it (λ i h => IsRangeIter h it (lo + (i : Nat) * 1) ((n : Int) - (i : Nat)) 1) where
 mem := by simp
 obj := λ i h st b hb => by
   have e : b = it := by simpa using hb
   subst e
   exact ⟨_, st, λ v z => by
     have z' : Data.fields _ = Data.cell v := z
     cases z'⟩
 keep := λ i h h' st k => k it (by simp) _ st
 item := by
   intro X hP hw hK hc i pins s σ H E I hf st hg
   subst hP hw hK
   obtain ⟨f0, f1, f2, f3, f4, f5⟩ := hf it (by simp)
   have W := Walks.range (prog := X.prog) (w := X.w) (I.ok.hd hc) it lo 1 n
   refine W.item i s _ _ hg st λ v h' tk hv st' kk => ?_
   obtain ⟨t, rfl⟩ := hv
   have I1 : Inv X pins σ H { s with heap := h', toks := tk } := I.turned (λ b o hb e => kk b o (by simpa using hb) e) f0 f1 f3 f4 f5
   refine ⟨_, rfl, go_of (s := { s with heap := h', toks := tk }) (n := "range_iterator") st' rfl rfl (by decide) ⟨.int (lo + i), H, I1, ⟨t, ?_⟩, ⟨rfl, rfl⟩, st', λ b hb => (hf b hb).1⟩⟩
   rw [Int.mul_one]
 done := by
   intro X hP hw hK hc i pins s σ H E I hf st hg
   subst hP hw hK
   obtain ⟨f0, f1, f2, f3, f4, f5⟩ := hf it (by simp)
   exact wpAny_pyNext_range_end (I.ok.hd hc) st (by have : n <= i := hg; omega) λ h' eb => ⟨rfl, I.turned (t' := s.toks) (λ b o hb e => eb b o hb e) f0 f1 f3 f4 f5⟩
 self := λ _ _ _ _ _ st h => wpAny_pyIter_rangeiter st h
end L2
namespace L2
open PySem PySem.Spec PyProof.Rows
section
variable {X : Cx} {tg : Expr}
def iList (K : W.Frag) (tl : TE) : TI := λ σ H R => tl σ H λ x H1 => ∃ a, x = .ref a /\ (∃ xs, SqL K H1 a xs) /\ R (Itl K a) H1
def iTup (K : W.Frag) (tl : TE) : TI := λ σ H R => tl σ H λ x H1 => ∃ a, x = .ref a /\ (∃ xs, SqT K H1 a xs) /\ R (Itt K a) H1
theorem pi_list {l : Expr} {tl : TE} (hl : PE X l tl) : PI X tg l (iList X.K tl) := by
 intro pins s σ H R I h
 refine thn (hl pins s σ H _ I h) λ v s1 ⟨x, H1, I1, r1, q1⟩ => ?_
 obtain ⟨a, e, ⟨xs, hq⟩, q⟩ := q1
 subst e
 cases r1
 obtain ⟨its, rv, p, hz⟩ := I1.list hq
 refine wpAny_pyIter_list p.isList ?_
 refine ⟨s1.heap.objs.size, [s1.heap.objs.size], _, _, H1, rfl, I1.kept (t' := s1.toks) λ b o e => Heap.get?_push_of_some _ e, turn_list a _, ⟨_, Heap.get?_push_size _ rfl, rfl, rfl⟩, λ b hb => ?_, q⟩
 have e : b = s1.heap.objs.size := by simpa using hb
 subst e
 exact I1.fpOk (Nat.le_refl _) (I1.hok.fresh (Nat.le_refl _))
theorem pi_tup {l : Expr} {tl : TE} (hl : PE X l tl) : PI X tg l (iTup X.K tl) := by
 intro pins s σ H R I h
 refine thn (hl pins s σ H _ I h) λ v s1 ⟨x, H1, I1, r1, q1⟩ => ?_
 obtain ⟨a, e, ⟨xs, hq⟩, q⟩ := q1
 subst e
 cases r1
 obtain ⟨its, rv, p, hz⟩ := I1.tuple hq
 refine wpAny_pyIter_tuple (show s1.heap.IsTuple a its.toArray from p) ?_
 refine ⟨s1.heap.objs.size, [s1.heap.objs.size], _, _, H1, rfl, I1.kept (t' := s1.toks) λ b o e => Heap.get?_push_of_some _ e, turn_tuple a _, ⟨_, Heap.get?_push_size _ rfl, rfl, rfl⟩, λ b hb => ?_, q⟩
 have e : b = s1.heap.objs.size := by simpa using hb
 subst e
 exact I1.fpOk (Nat.le_refl _) (I1.hok.fresh (Nat.le_refl _))
theorem range_it {pins : List (Addr × Obj)} {σ : St} {H : Hp} {s : Shared} {R : It -> Hp -> Prop} {E : Value -> Shared -> Prop} {lo hi : Int} {t u v : Tok} {tk : Nat} (I : Inv X pins σ H s) (h1 : -(2 ^ 62) <= lo) (h2 : lo < 2 ^ 62) (h3 : -(2 ^ 62) <= hi) (h4 : hi < 2 ^ 62)
   (q : R (Itr lo (hi - lo).toNat) H) : wpAny (model X.prog X.w) X.A (pyIter (.ref s.heap.objs.size)) (PIE X pins σ tg R) E { s with heap := s.heap.push { cls := .type "range", data := .fields #[.int lo t, .int hi u, .int 1 v] }, toks := tk } := by
 refine wpAny_pyIter_range (IsRange.new ..) (small_one h1 h2 h3 h4) ?_
 have I1 : Inv X pins σ H { s with heap := s.heap.push { cls := .type "range", data := .fields #[.int lo t, .int hi u, .int 1 v] }, toks := tk } := I.kept λ b o e => Heap.get?_push_of_some _ e
 refine ⟨(s.heap.push { cls := .type "range", data := .fields #[.int lo t, .int hi u, .int 1 v] }).objs.size, [(s.heap.push { cls := .type "range", data := .fields #[.int lo t, .int hi u, .int 1 v] }).objs.size], _, _, H, rfl,
   I1.kept (t' := tk) λ b o e => Heap.get?_push_of_some _ e, turn_range _ lo (hi - lo).toNat, ?_, λ b hb => ?_, q⟩
 . have e1 : lo + ((0 : Nat) : Int) * 1 = lo := by simp
   have e2 : (((hi - lo).toNat : Nat) : Int) - ((0 : Nat) : Int) = Builtin.Range.rangeSize lo hi 1 := by rw [rangeSize_one]; split <;> omega
   show IsRangeIter _ _ (lo + ((0 : Nat) : Int) * 1) ((((hi - lo).toNat : Nat) : Int) - ((0 : Nat) : Int)) 1
   rw [e1, e2]
   exact Heap.get?_push_size _ rfl
 . have e : b = (s.heap.push { cls := .type "range", data := .fields #[.int lo t, .int hi u, .int 1 v] }).objs.size := by simpa using hb
   subst e
   exact I1.fpOk (Nat.le_refl _) (I1.hok.fresh (Nat.le_refl _))
def iRng1 (ta : TA) : TI := λ σ H R => ta σ H λ vs H1 => ∃ j : Int, vs = [.int j] /\ -(2 ^ 62) <= j /\ j < 2 ^ 62 /\ R (Itr 0 j.toNat) H1
theorem pi_range1 {a : Expr} {ta : TA} {p pos : Pos} (hg : Gl X "range") (hm : X.mg "range" = none) (ha : PA X [a] ta) (hs : starEach [a] X.env = [(false, eval a X.env)] := by rfl) : PI X tg (.Call (.Name "range" p) [a] [] pos) (iRng1 ta) := by
 intro pins s σ H R I h
 refine Call_ (ld_blt I hg hm boot_range (PyProof.Rows.callWith_type1 (thn (ha pos pins s σ H _ I h) λ us s1 ⟨vs, H1, I1, r1, q1⟩ => ?_) hs rfl))
 obtain ⟨j, e, q1, q2, q⟩ := q1
 subst e
 cases r1 with
 | cons r rr =>
   cases rr
   obtain ⟨t, rfl⟩ := r
   exact call_range_1 (range_it I1 (by omega) (by omega) q1 q2 (by simpa using q))
def tFor (wi : TI) (g : TG) (tb : TS) : TS := λ D σ H => wi σ H λ J H1 => ∃ W : Nat -> Nat -> St -> Hp -> Prop, (∃ m, W 0 m σ H1) /\ ∀ i m σ H, W i m σ H ->
 (J.stop i H /\ D.nx σ H) \/ (J.go i H /\ ∃ N : St -> Hp -> Prop, (∀ σ' H', N σ' H' -> ∃ m', m' < m /\ W (i + 1) m' σ' H') /\ ∀ x H', J.yld i H x H' -> g x σ H' λ σ2 H2 => tb { D with nx := N, ct := N, bk := D.nx } σ2 H2)
def pinsAt (fp : List Addr) (h : Heap) : List (Addr × Obj) := fp.filterMap λ b => (h.get? b).map λ o => (b, o)
theorem mem_pinsAt {fp : List Addr} {h : Heap} {b : Addr} {o : Obj} (hb : b ∈ fp) (e : h.get? b = some o) : (b, o) ∈ pinsAt fp h := List.mem_filterMap.mpr ⟨b, hb, by rw [e]; rfl⟩
theorem of_pinsAt {fp : List Addr} {h : Heap} {p : Addr × Obj} (hp : p ∈ pinsAt fp h) : p.1 ∈ fp /\ h.get? p.1 = some p.2 := by
 obtain ⟨b, hb, e⟩ := List.mem_filterMap.mp hp
 cases q : h.get? b with
 | none => rw [q] at e; cases e
 | some o =>
   rw [q] at e
   have e' : (b, o) = p := Option.some.inj e
   subst e'
   exact ⟨hb, q⟩
theorem Inv.pinned {pins : List (Addr × Obj)} {σ : St} {H : Hp} {s : Shared} {fp : List Addr} (I : Inv X pins σ H s) (hf : ∀ b ∈ fp, FpOk X pins H b) (ho : ∀ b ∈ fp, ∃ o, s.heap.get? b = some o /\ ∀ v, o.data ≠ .cell v) : Inv X (pins ++ pinsAt fp s.heap) σ H s :=
 I.pins_of λ p hp => (List.mem_append.mp hp).elim (λ z => I.pin p (List.mem_append_right _ z)) λ z => by
   obtain ⟨hb, e⟩ := of_pinsAt z
   obtain ⟨f0, f1, f2, _⟩ := hf p.1 hb
   obtain ⟨o, e', d⟩ := ho p.1 hb
   rw [e] at e'; cases e'
   exact ⟨e, f0, f1, f2, d⟩
theorem Inv.unpinned {pins pl : List (Addr × Obj)} {σ : St} {H : Hp} {s : Shared} (I : Inv X (pins ++ pl) σ H s) : Inv X pins σ H s := I.pins_of λ p hp => I.pin p (List.mem_append_right _ (List.mem_append_left _ hp))
theorem ps_for {iter : Expr} {body : List Stmt} {wi : TI} {g : TG} {tb : TS} {pos : Pos} (hp : PassesOwn (model X.prog X.w) X.A X.env X.xe) (hc : X.calm = true) (hi : PI X tg iter wi) (hg : PG X tg g) (hb : PSs X body tb)
   (hs : ∀ x, foldedSetIterable iter X.env x = pure x := by intro _; rfl) : PS X (.For tg iter body [] pos) (tFor wi g tb) := by
 intro pins s σ H D I h
 refine wpAny_For (thn (hi pins s σ H _ I h) λ v s1 h1 => thn h1 λ itv s2 h2 => ?_) hs
 obtain ⟨it, fp, tn, J, H2, e, I2, T, st2, f2, W, ⟨m0, w0⟩, turn⟩ := h2
 subst e
 -- what stays true of the iterator's objects through the loop
 have stat : ∀ {H' : Hp}, (∀ b ∈ fp, H' b = none) -> ∀ b ∈ fp, FpOk X pins H' b := λ hn b hb => ⟨hn b hb, (f2 b hb).2⟩
 refine codeAny_forLoop_any (λ n s' => ∃ i σ' H', Inv X pins σ' H' s' /\ tn i s'.heap /\ (∀ b ∈ fp, H' b = none) /\ W i n σ' H') ?_ m0 ⟨0, σ, H2, I2, st2, λ b hb => (f2 b hb).1, w0⟩
 rintro n s3 ⟨i, σ3, H3, I3, st3, fr3, w3⟩
 rcases turn i n σ3 H3 w3 with ⟨stop, qn⟩ | ⟨go, N, hN, step⟩
 . refine wpAny_passesOwn hp (thn (T.done X rfl rfl rfl hc i pins s3 σ3 H3 X.xe I3 (stat fr3) st3 stop) λ r s4 ⟨hr, I4⟩ => ?_)
   subst hr
   exact wpAny_execs_nil ⟨σ3, H3, I4, qn⟩
 . refine wpAny_passesOwn hp (thn (T.item X rfl rfl rfl hc i pins s3 σ3 H3 X.xe I3 (stat fr3) st3 go) λ r s4 ⟨u, hr, h4⟩ => ?_)
   subst hr
   refine wpAny_passesOwn hp (thn h4 λ _ s5 ⟨x, H5, I5, r5, y5, st5, fr5⟩ => ?_)
   have I5' := I5.pinned (stat fr5) (T.obj _ _ st5)
   refine wpAny_passesOwn hp (thn (hg _ s5 σ3 H5 x u _ I5' r5 (step x H5 y5)) λ _ s6 ⟨σ6, H6, I6, q6⟩ => ?_)
   refine wpAny_passesOwn hp (thn (hb _ s6 σ6 H6 _ I6 q6) λ f s7 q7 => ?_)
   have again : ∀ {σ7 : St} {H7 : Hp}, Inv X (pins ++ pinsAt fp s5.heap) σ7 H7 s7 -> N σ7 H7 -> ∃ m, m < n /\ ∃ i σ' H', Inv X pins σ' H' s7 /\ tn i s7.heap /\ (∀ b ∈ fp, H' b = none) /\ W i m σ' H' := λ {σ7 H7} I7 n7 => by
     obtain ⟨m', hm, w7⟩ := hN σ7 H7 n7
     refine ⟨m', hm, i + 1, σ7, H7, I7.unpinned, T.keep _ _ _ st5 λ b hb o e => (I7.pin (b, o) (List.mem_append_right _ (List.mem_append_right _ (mem_pinsAt hb e)))).1, λ b hb => ?_, w7⟩
     obtain ⟨o, e, d⟩ := T.obj _ _ st5 b hb
     exact (I7.pin (b, o) (List.mem_append_right _ (List.mem_append_right _ (mem_pinsAt hb e)))).2.1
   cases f with
   | next => obtain ⟨σ7, H7, I7, n7⟩ := q7; exact again I7 n7
   | cont => obtain ⟨σ7, H7, I7, n7⟩ := q7; exact again I7 n7
   | brk => obtain ⟨σ7, H7, I7, q7⟩ := q7; exact ⟨σ7, H7, I7.unpinned, q7⟩
   | ret v => obtain ⟨x7, σ7, H7, I7, r7, q7⟩ := q7; exact ⟨x7, σ7, H7, I7.unpinned, r7, q7⟩
end
theorem for_list {K : W.Frag} {a : Addr} {xs : List V} {g : TG} {tb : TS} {D : Ends} {σ : St} {H : Hp} (Pv : Nat -> St -> Hp -> Prop) (h0 : Pv 0 σ H) (hl : ∀ i σ H, i <= xs.length -> Pv i σ H -> SqL K H a xs)
   (hs : ∀ i x σ H, xs[i]? = some x -> Pv i σ H -> g x σ H λ σ2 H2 => tb { D with nx := Pv (i + 1), ct := Pv (i + 1), bk := D.nx } σ2 H2) (hd : ∀ σ H, Pv xs.length σ H -> D.nx σ H) :
   ∃ W : Nat -> Nat -> St -> Hp -> Prop, (∃ m, W 0 m σ H) /\ ∀ i m σ H, W i m σ H ->
     ((Itl K a).stop i H /\ D.nx σ H) \/ ((Itl K a).go i H /\ ∃ N : St -> Hp -> Prop, (∀ σ' H', N σ' H' -> ∃ m', m' < m /\ W (i + 1) m' σ' H') /\ ∀ x H', (Itl K a).yld i H x H' -> g x σ H' λ σ2 H2 => tb { D with nx := N, ct := N, bk := D.nx } σ2 H2) := by
 refine ⟨λ i m σ H => m = xs.length - i /\ i <= xs.length /\ Pv i σ H, ⟨xs.length, by simp, Nat.zero_le _, h0⟩, ?_⟩
 rintro i m σ H ⟨rfl, hi, p⟩
 have q := hl i σ H hi p
 by_cases hlt : i < xs.length
 . refine .inr ⟨⟨xs, xs[i], q, by simp [hlt]⟩, Pv (i + 1), λ σ' H' p' => ⟨xs.length - (i + 1), by omega, rfl, hlt, p'⟩, λ x H' y => ?_⟩
   obtain ⟨e, y⟩ := y
   subst e
   exact hs i x σ _ (y xs q) p
 . have e : i = xs.length := by omega
   subst e
   exact .inl ⟨⟨xs, q, Nat.le_refl _⟩, hd σ H p⟩
theorem for_tup {K : W.Frag} {a : Addr} {xs : List V} {g : TG} {tb : TS} {D : Ends} {σ : St} {H : Hp} (Pv : Nat -> St -> Hp -> Prop) (h0 : Pv 0 σ H) (hl : ∀ i σ H, i <= xs.length -> Pv i σ H -> SqT K H a xs)
   (hs : ∀ i x σ H, xs[i]? = some x -> Pv i σ H -> g x σ H λ σ2 H2 => tb { D with nx := Pv (i + 1), ct := Pv (i + 1), bk := D.nx } σ2 H2) (hd : ∀ σ H, Pv xs.length σ H -> D.nx σ H) :
   ∃ W : Nat -> Nat -> St -> Hp -> Prop, (∃ m, W 0 m σ H) /\ ∀ i m σ H, W i m σ H ->
     ((Itt K a).stop i H /\ D.nx σ H) \/ ((Itt K a).go i H /\ ∃ N : St -> Hp -> Prop, (∀ σ' H', N σ' H' -> ∃ m', m' < m /\ W (i + 1) m' σ' H') /\ ∀ x H', (Itt K a).yld i H x H' -> g x σ H' λ σ2 H2 => tb { D with nx := N, ct := N, bk := D.nx } σ2 H2) := by
 refine ⟨λ i m σ H => m = xs.length - i /\ i <= xs.length /\ Pv i σ H, ⟨xs.length, by simp, Nat.zero_le _, h0⟩, ?_⟩
 rintro i m σ H ⟨rfl, hi, p⟩
 have q := hl i σ H hi p
 by_cases hlt : i < xs.length
 . refine .inr ⟨⟨xs, xs[i], q, by simp [hlt]⟩, Pv (i + 1), λ σ' H' p' => ⟨xs.length - (i + 1), by omega, rfl, hlt, p'⟩, λ x H' y => ?_⟩
   obtain ⟨e, y⟩ := y
   subst e
   exact hs i x σ _ (y xs q) p
 . have e : i = xs.length := by omega
   subst e
   exact .inl ⟨⟨xs, q, Nat.le_refl _⟩, hd σ H p⟩
theorem for_range {lo : Int} {n : Nat} {g : TG} {tb : TS} {D : Ends} {σ : St} {H : Hp} (Pv : Nat -> St -> Hp -> Prop) (h0 : Pv 0 σ H)
   (hs : ∀ i σ H, i < n -> Pv i σ H -> g (.int (lo + i)) σ H λ σ2 H2 => tb { D with nx := Pv (i + 1), ct := Pv (i + 1), bk := D.nx } σ2 H2) (hd : ∀ σ H, Pv n σ H -> D.nx σ H) :
   ∃ W : Nat -> Nat -> St -> Hp -> Prop, (∃ m, W 0 m σ H) /\ ∀ i m σ H, W i m σ H ->
     ((Itr lo n).stop i H /\ D.nx σ H) \/ ((Itr lo n).go i H /\ ∃ N : St -> Hp -> Prop, (∀ σ' H', N σ' H' -> ∃ m', m' < m /\ W (i + 1) m' σ' H') /\ ∀ x H', (Itr lo n).yld i H x H' -> g x σ H' λ σ2 H2 => tb { D with nx := N, ct := N, bk := D.nx } σ2 H2) := by
 refine ⟨λ i m σ H => m = n - i /\ i <= n /\ Pv i σ H, ⟨n, by simp, Nat.zero_le _, h0⟩, ?_⟩
 rintro i m σ H ⟨rfl, hi, p⟩
 by_cases hlt : i < n
 . refine .inr ⟨hlt, Pv (i + 1), λ σ' H' p' => ⟨n - (i + 1), by omega, rfl, hlt, p'⟩, λ x H' y => ?_⟩
   obtain ⟨e, y⟩ := y
   subst e y
   exact hs i σ _ hlt p
 . have e : i = n := by omega
   subst e
   exact .inl ⟨Nat.le_refl _, hd σ H p⟩
theorem while_by {c : TT} {tb : TS} {D : Ends} {σ : St} {H : Hp} (Pv : St -> Hp -> Prop) (μ : St -> Hp -> Nat) (h0 : Pv σ H)
   (hs : ∀ σ H, Pv σ H -> c σ H λ b H1 => if b = true then tb { D with nx := λ σ' H' => Pv σ' H' /\ μ σ' H' < μ σ H, ct := λ σ' H' => Pv σ' H' /\ μ σ' H' < μ σ H, bk := D.nx } σ H1 else D.nx σ H1)
   (mono : ∀ σ H Q Q', (∀ b H1, Q b H1 -> Q' b H1) -> c σ H Q -> c σ H Q') : tWhile c tb D σ H := by
 refine ⟨λ m σ H => m = μ σ H /\ Pv σ H, ⟨_, rfl, h0⟩, ?_⟩
 rintro m σ H ⟨rfl, p⟩
 refine mono σ H _ _ (λ b H1 q => ?_) (hs σ H p)
 cases b with
 | true => exact ⟨_, λ σ' H' ⟨p', l⟩ => ⟨_, l, rfl, p'⟩, q⟩
 | false => exact q
end L2
namespace L2
open PySem PySem.Spec PyProof.Rows
abbrev R2 := V -> V -> Hp -> VK -> Prop
def OpR (X : Cx) (f : Value -> Value -> Sem Value) (r : R2) : Prop :=
 ∀ (pins : List (Addr × Obj)) (s : Shared) (σ : St) (H : Hp) (x y : V) (v u : Value) (Q : VK), Inv X pins σ H s -> RelV x v -> RelV y u -> r x y H Q ->
   wpAny (model X.prog X.w) X.A (f v u) (EP X pins σ Q) X.xe s
def UnR (X : Cx) (f : Value -> Sem Value) (r : V -> Hp -> VK -> Prop) : Prop :=
 ∀ (pins : List (Addr × Obj)) (s : Shared) (σ : St) (H : Hp) (x : V) (v : Value) (Q : VK), Inv X pins σ H s -> RelV x v -> r x H Q ->
   wpAny (model X.prog X.w) X.A (f v) (EP X pins σ Q) X.xe s
def CallR (X : Cx) (f : Value) (r : List V -> Hp -> VK -> Prop) : Prop :=
 ∀ (pins : List (Addr × Obj)) (s : Shared) (σ : St) (H : Hp) (xs : List V) (us : List Value) (Q : VK), Inv X pins σ H s -> Vals xs us -> r xs H Q ->
   wpAny (model X.prog X.w) X.A (call f us) (EP X pins σ Q) X.xe s
def TruR (X : Cx) (r : V -> Hp -> (Bool -> Hp -> Prop) -> Prop) : Prop :=
 ∀ (pins : List (Addr × Obj)) (s : Shared) (σ : St) (H : Hp) (x : V) (v : Value) (Q : Bool -> Hp -> Prop), Inv X pins σ H s -> RelV x v -> r x H Q ->
   wpAny (model X.prog X.w) X.A (truthy v) (TP X pins σ Q) X.xe s
def tOp (r : R2) (ta tb : TE) : TE := λ σ H Q => ta σ H λ x H1 => tb σ H1 λ y H2 => r x y H2 Q
def tUn (r : V -> Hp -> VK -> Prop) (ta : TE) : TE := λ σ H Q => ta σ H λ x H1 => r x H1 Q
def rI (C : Int -> Int -> Prop) (g : Int -> Int -> V) : R2 := λ x y H Q => ∃ i j, x = .int i /\ y = .int j /\ C i j /\ Q (g i j) H
def rI0 (g : Int -> Int -> V) : R2 := λ x y H Q => ∃ i j, x = .int i /\ y = .int j /\ Q (g i j) H
def rU (g : Int -> V) : V -> Hp -> VK -> Prop := λ x H Q => ∃ i, x = .int i /\ Q (g i) H
section
variable {X : Cx} {a b c : Expr} {ta tb tc : TE} {pos : Pos}
theorem binT (ha : PE X a ta) (hb : PE X b tb) {pins : List (Addr × Obj)} {s : Shared} {σ : St} {H : Hp} {R : V -> V -> Hp -> Prop} (I : Inv X pins σ H s)
   (h : ta σ H λ x H1 => tb σ H1 λ y H2 => R x y H2) {Q : Value -> Shared -> Prop} {f : Value -> Value -> Sem Value}
   (hf : ∀ v u s2 x y H2, Inv X pins σ H2 s2 -> RelV x v -> RelV y u -> R x y H2 -> wpAny (model X.prog X.w) X.A (f v u) Q X.xe s2) :
   wpAny (model X.prog X.w) X.A (eval a X.env) (λ v s₁ => wpAny (model X.prog X.w) X.A (eval b X.env) (λ u s₂ => wpAny (model X.prog X.w) X.A (f v u) Q X.xe s₂) X.xe s₁) X.xe s := by
 refine thn (ha pins s σ H _ I h) λ v s1 ⟨x, H1, I1, r1, q1⟩ => ?_
 refine thn (hb pins s1 σ H1 _ I1 q1) λ u s2 ⟨y, H2, I2, r2, q2⟩ => ?_
 exact hf v u s2 x y H2 I2 r1 r2 q2
theorem pe_op {op : Operator} {r : R2} (ho : OpR X (binaryOp op) r) (ha : PE X a ta) (hb : PE X b tb) : PE X (.BinOp a op b pos) (tOp r ta tb) := by
 intro pins s σ H Q I h
 exact wpAny_BinOp (binT ha hb I h λ v u s2 x y H2 I2 rx ry q => ho pins s2 σ H2 x y v u Q I2 rx ry q)
theorem pe_un {op : UnaryOp} {r : V -> Hp -> VK -> Prop} (ho : UnR X (unaryOp op) r) (ha : PE X a ta) : PE X (.UnaryOp op a pos) (tUn r ta) := by
 intro pins s σ H Q I h
 exact UnaryOp_ (thn (ha pins s σ H _ I h) λ v s1 ⟨x, H1, I1, r1, q1⟩ => ho pins s1 σ H1 x v Q I1 r1 q1)
theorem opI {f : Value -> Value -> Sem Value} {C : Int -> Int -> Prop} {g : Int -> Int -> Int}
   (rule : ∀ (i j : Int) (t u : Tok) (s : Shared) (Q : Value -> Shared -> Prop) (E : Value -> Shared -> Prop), C i j -> Q (.int (g i j) s.toks) { s with toks := s.toks + 1 } -> wpAny (model X.prog X.w) X.A (f (.int i t) (.int j u)) Q E s) :
   OpR X f (rI C λ i j => .int (g i j)) := by
 intro pins s σ H x y v u Q I rx ry h
 obtain ⟨i, j, rfl, rfl, hc, q⟩ := h
 obtain ⟨t, rfl⟩ := rx
 obtain ⟨t', rfl⟩ := ry
 exact rule i j t t' s _ _ hc ⟨.int (g i j), H, I.tok _, ⟨_, rfl⟩, q⟩
theorem opI0 {f : Value -> Value -> Sem Value} {g : Int -> Int -> Int}
   (rule : ∀ (i j : Int) (t u : Tok) (s : Shared) (Q : Value -> Shared -> Prop) (E : Value -> Shared -> Prop), Q (.int (g i j) s.toks) { s with toks := s.toks + 1 } -> wpAny (model X.prog X.w) X.A (f (.int i t) (.int j u)) Q E s) :
   OpR X f (rI0 λ i j => .int (g i j)) := by
 intro pins s σ H x y v u Q I rx ry h
 obtain ⟨i, j, rfl, rfl, q⟩ := h
 obtain ⟨t, rfl⟩ := rx
 obtain ⟨t', rfl⟩ := ry
 exact rule i j t t' s _ _ ⟨.int (g i j), H, I.tok _, ⟨_, rfl⟩, q⟩
theorem opB0 {f : Value -> Value -> Sem Value} {g : Int -> Int -> Bool}
   (rule : ∀ (i j : Int) (t u : Tok) (s : Shared) (Q : Value -> Shared -> Prop) (E : Value -> Shared -> Prop), Q (.bool (g i j)) s -> wpAny (model X.prog X.w) X.A (f (.int i t) (.int j u)) Q E s) :
   OpR X f (rI0 λ i j => .bl (g i j)) := by
 intro pins s σ H x y v u Q I rx ry h
 obtain ⟨i, j, rfl, rfl, q⟩ := h
 obtain ⟨t, rfl⟩ := rx
 obtain ⟨t', rfl⟩ := ry
 exact rule i j t t' s _ _ ⟨.bl (g i j), H, I, rfl, q⟩
def CDiv (i j : Int) : Prop := 0 < j /\ j < 1073741824
def CPow (i j : Int) : Prop := 0 <= j /\ j <= 1000000 /\ i.natAbs < 2 ^ 64
def CMul (i j : Int) : Prop := (-(2 ^ 64) < i /\ i < 2 ^ 64) \/ (-(2 ^ 64) < j /\ j < 2 ^ 64)
theorem CMul.ok {i j : Int} (h : CMul i j) : IntMulOk i j := by
 rcases h with ⟨h1, h2⟩ | ⟨h1, h2⟩
 . exact .of_left (intBits_le_64 h1 h2)
 . exact .of_right (intBits_le_64 h1 h2)
theorem two_pow_nn (k : Nat) : (0 : Int) <= 2 ^ k := by
 rw [two_pow_cast]
 exact Int.natCast_nonneg _
theorem op_add : OpR X (binaryOp .Add) (rI0 λ i j => .int (i + j)) := opI0 λ _ _ _ _ _ _ _ q => add_int q
theorem op_sub : OpR X (binaryOp .Sub) (rI0 λ i j => .int (i - j)) := opI0 λ _ _ _ _ _ _ _ q => sub_int q
theorem op_mul : OpR X (binaryOp .Mult) (rI CMul λ i j => .int (i * j)) := opI λ _ _ _ _ _ _ _ hc q => mul_int q hc.ok
theorem op_mod : OpR X (binaryOp .Mod) (rI (λ _ j => 0 < j) λ i j => .int (i % j)) := opI λ i j _ _ _ _ _ hc q => by
 have h1 : (0 : Int) < j := hc
 exact mod_int' (by omega) (by rw [Int.fmod_eq_emod_of_nonneg i (by omega)]; exact q)
theorem op_pow : OpR X (binaryOp .Pow) (rI CPow λ i j => .int (i ^ j.toNat)) := opI λ _ _ _ _ _ _ _ hc q => pow_int_small hc.1 hc.2.1 hc.2.2 q
theorem op_shr : OpR X (binaryOp .RShift) (rI (λ _ j => 0 <= j) λ i j => .int (i / 2 ^ j.toNat)) := opI λ i j _ _ _ _ _ hc q =>
 rshift_int hc (by rw [Int.fdiv_eq_ediv_of_nonneg i (two_pow_nn _)]; exact q)
theorem op_and : OpR X (binaryOp .BitAnd) (rI0 λ i j => .int (Builtin.bitAnd i j)) := opI0 λ _ _ _ _ _ _ _ q => and_int q
theorem unI {f : Value -> Sem Value} {g : Int -> Int}
   (rule : ∀ (i : Int) (t : Tok) (s : Shared) (Q : Value -> Shared -> Prop) (E : Value -> Shared -> Prop), Q (.int (g i) s.toks) { s with toks := s.toks + 1 } -> wpAny (model X.prog X.w) X.A (f (.int i t)) Q E s) :
   UnR X f (rU λ i => .int (g i)) := by
 intro pins s σ H x v Q I rx h
 obtain ⟨i, rfl, q⟩ := h
 obtain ⟨t, rfl⟩ := rx
 exact rule i t s _ _ ⟨.int (g i), H, I.tok _, ⟨_, rfl⟩, q⟩
theorem un_neg : UnR X (unaryOp .USub) (rU λ i => .int (-i)) := unI λ _ _ _ _ _ q => neg_int q
end
def scal : V -> V -> Bool
 | .non, .non => true | .non, .int _ => true | .int _, .non => true | .non, .bl _ => true | .bl _, .non => true | .non, .str _ => true | .str _, .non => true
 | .int _, .int _ => true | .bl _, .bl _ => true | .str _, .str _ => true | .byt _, .byt _ => true
 | .int _, .str _ => true | .str _, .int _ => true | .bl _, .str _ => true | .str _, .bl _ => true
 | _, _ => false
def rEq : R2 := λ x y H Q => scal x y = true /\ Q (.bl (decide (x = y))) H
theorem dec_int {i j : Int} : decide (V.int i = V.int j) = (i == j) := by
 rw [Bool.eq_iff_iff]
 simp
theorem dec_bl {i j : Bool} : decide (V.bl i = V.bl j) = (i == j) := by
 rw [Bool.eq_iff_iff]
 simp
theorem dec_str {i j : Str} : decide (V.str i = V.str j) = (i == j) := by
 rw [Bool.eq_iff_iff]
 simp
theorem dec_byt {i j : Array UInt8} : decide (V.byt i = V.byt j) = (i.toList == j.toList) := by
 rw [Bool.eq_iff_iff]
 cases i
 cases j
 simp
section
variable {X : Cx} {a b c : Expr} {ta tb tc : TE} {pos : Pos}
theorem fin_bl {pins : List (Addr × Obj)} {σ : St} {H : Hp} {s : Shared} {Q : VK} {k k' : Bool} (I : Inv X pins σ H s) (q : Q (.bl k) H) (e : k = k') : EP X pins σ Q (.bool k') s := by
 subst e
 exact ⟨.bl k, H, I, rfl, q⟩
theorem op_eq : OpR X (compareOp .Eq) rEq := by
 intro pins s σ H x y v u Q I rx ry h
 obtain ⟨hs, q⟩ := h
 cases x with
 | non =>
   cases rx
   cases y with
   | non => cases ry; exact PySem.EqNone.eq_none_none (fin_bl I q (by simp))
   | bl j => cases ry; exact PySem.EqNone.eq_none_bool (fin_bl I q (by simp))
   | int j => obtain ⟨t', rfl⟩ := ry; exact PySem.EqNone.eq_none_int (fin_bl I q (by simp))
   | str j => obtain ⟨t', rfl⟩ := ry; exact PySem.EqNone.eq_none_str (fin_bl I q (by simp))
   | _ => exact absurd (show false = true from hs) Bool.false_ne_true
 | bl i =>
   cases rx
   cases y with
   | non => cases ry; exact PySem.EqNone.eq_bool_none (fin_bl I q (by simp))
   | bl j => cases ry; exact eq_bool (fin_bl I q dec_bl)
   | str j => obtain ⟨t', rfl⟩ := ry; exact PySem.EqMixed.eq_bool_str (fin_bl I q (by simp))
   | _ => exact absurd (show false = true from hs) Bool.false_ne_true
 | int i =>
   obtain ⟨t, rfl⟩ := rx
   cases y with
   | non => cases ry; exact PySem.EqNone.eq_int_none (fin_bl I q (by simp))
   | int j => obtain ⟨t', rfl⟩ := ry; exact eq_int (fin_bl I q dec_int)
   | str j => obtain ⟨t', rfl⟩ := ry; exact PySem.EqMixed.eq_int_str (fin_bl I q (by simp))
   | _ => exact absurd (show false = true from hs) Bool.false_ne_true
 | str i =>
   obtain ⟨t, rfl⟩ := rx
   cases y with
   | non => cases ry; exact PySem.EqNone.eq_str_none (fin_bl I q (by simp))
   | bl j => cases ry; exact PySem.EqMixed.eq_str_bool (fin_bl I q (by simp))
   | int j => obtain ⟨t', rfl⟩ := ry; exact PySem.EqMixed.eq_str_int (fin_bl I q (by simp))
   | str j => obtain ⟨t', rfl⟩ := ry; exact eq_str (fin_bl I q dec_str)
   | _ => exact absurd (show false = true from hs) Bool.false_ne_true
 | byt i =>
   obtain ⟨t, rfl⟩ := rx
   cases y with
   | byt j => obtain ⟨t', rfl⟩ := ry; exact PySem.W.eq_bytes (fin_bl I q dec_byt)
   | _ => exact absurd (show false = true from hs) Bool.false_ne_true
 | _ => cases y <;> exact absurd (show false = true from hs) Bool.false_ne_true
theorem op_lt : OpR X (compareOp .Lt) (rI0 λ i j => .bl (decide (i < j))) := opB0 λ _ _ _ _ _ _ _ q => lt_int q
theorem op_gt : OpR X (compareOp .Gt) (rI0 λ i j => .bl (decide (j < i))) := opB0 λ _ _ _ _ _ _ _ q => gt_int q
theorem op_ge : OpR X (compareOp .GtE) (rI0 λ i j => .bl (decide (j <= i))) := opB0 λ _ _ _ _ _ _ _ q => ge_int q
theorem nomark (b : Expr) {op : CmpOp} (h : op ≠ .In := by decide) (h2 : op ≠ .NotIn := by decide) : behindInMarks op b = false := by
 have e1 : (op == CmpOp.In) = false := by cases op <;> first | rfl | exact absurd rfl h
 have e2 : (op == CmpOp.NotIn) = false := by cases op <;> first | rfl | exact absurd rfl h2
 cases b <;> simp [behindInMarks, e1, e2]
theorem pe_cmpR {op : CmpOp} {r : R2} (ho : OpR X (compareOp op) r) (ha : PE X a ta) (hb : PE X b tb) (hm : behindInMarks op b = false) : PE X (.Compare a [op] [b] pos) (tOp r ta tb) := by
 intro pins s σ H Q I h
 exact wpAny_Compare1 (binT ha hb I h λ v u s2 x y H2 I2 rx ry q => ho pins s2 σ H2 x y v u Q I2 rx ry q) hm
def tTest (t : TE) : TT := λ σ H Q => t σ H λ x H' => ∃ k, x = .bl k /\ Q k H'
theorem pt_cmpR {op : CmpOp} {r : R2} (ho : OpR X (compareOp op) r) (ha : PE X a ta) (hb : PE X b tb) (hm : behindInMarks op b = false) : PT X (.Compare a [op] [b] pos) (tTest (tOp r ta tb)) := by
 intro pins s σ H Q I h
 refine wpAny_isTrue_Compare1 (thn (ha pins s σ H _ I h) λ v s1 ⟨x, H1, I1, r1, q1⟩ => thn (hb pins s1 σ H1 _ I1 q1) λ u s2 ⟨y, H2, I2, r2, q2⟩ =>
   thn (ho pins s2 σ H2 x y v u _ I2 r1 r2 q2) λ c s3 ⟨z, H3, I3, r3, k, e, q3⟩ => ?_) hm
 subst e
 cases r3
 exact wpAny_truthy_bool ⟨H3, I3, q3⟩
def TruV (K : W.Frag) (x : V) (H : Hp) (k : Bool) : Prop :=
 match x with
 | .non => k = false
 | .bl b => k = b
 | .int i => k = (i != 0)
 | .str y => y.length <= sizeLine /\ k = ((y.length : Int) != 0)
 | .byt y => y.size <= sizeLine /\ k = ((y.size : Int) != 0)
 | .ref p => (∃ xs, SqL K H p xs /\ k = !xs.isEmpty) \/ (∃ xs, SqT K H p xs /\ k = !xs.isEmpty) \/ ∃ kvs, H p = some (.dK kvs) /\ k = !kvs.isEmpty
 | _ => False
theorem isEmpty_kv {κ : Type} {kvs : List (κ × V)} {vs : List (κ × Value)} (r : KV kvs vs) : (!vs.isEmpty) = !kvs.isEmpty := by
 cases r <;> rfl
theorem isEmpty_of {xs : List V} {its : List Value} (r : Vals xs its) : (!its.toArray.isEmpty) = !xs.isEmpty := by
 cases r <;> simp
theorem line63 : (sizeLine : Nat) < 2 ^ 63 := by rw [sizeLine_eq]; decide
theorem tru_ok : TruR X (λ x H Q => ∃ k, TruV X.K x H k /\ Q k H) := by
 intro pins s σ H x v Q I rx h
 obtain ⟨k, e, q⟩ := h
 have hl := line63
 have hs : sizeLine = 16777216 := sizeLine_eq
 cases x with
 | non =>
   cases rx
   have e' : k = false := e
   subst e'
   exact truthy_none ⟨H, I, q⟩
 | bl b =>
   cases rx
   have e' : k = b := e
   subst e'
   exact wpAny_truthy_bool ⟨H, I, q⟩
 | int i =>
   obtain ⟨t, rfl⟩ := rx
   have e' : k = (i != 0) := e
   subst e'
   exact PySem.P.truthy_int ⟨H, I, q⟩
 | str y =>
   obtain ⟨t, rfl⟩ := rx
   obtain ⟨hy, e'⟩ : y.length <= sizeLine /\ k = ((y.length : Int) != 0) := e
   subst e'
   exact PySem.P.truthy_str (by omega) ⟨H, I.tok _, q⟩
 | byt y =>
   obtain ⟨t, rfl⟩ := rx
   obtain ⟨hy, e'⟩ : y.size <= sizeLine /\ k = ((y.size : Int) != 0) := e
   subst e'
   exact PySem.W.truthy_bytes (by omega) ⟨H, I.tok _, q⟩
 | ref p =>
   cases rx
   have e' : (∃ xs, SqL X.K H p xs /\ k = !xs.isEmpty) \/ (∃ xs, SqT X.K H p xs /\ k = !xs.isEmpty) \/ ∃ kvs, H p = some (.dK kvs) /\ k = !kvs.isEmpty := e
   rcases e' with ⟨xs, hx, e'⟩ | ⟨xs, hx, e'⟩ | ⟨kvs, hx, e'⟩
   . subst e'
     obtain ⟨its, r, pl, hz⟩ := I.list hx
     have hlen := r.length
     exact wpAny_truthy_list pl.isList (by simp only [List.size_toArray]; omega) ⟨H, I.tok _, by rw [isEmpty_of r]; exact q⟩
   . subst e'
     obtain ⟨its, r, pl, hz⟩ := I.tuple hx
     have hlen := r.length
     exact truthy_tuple pl (by simp only [List.size_toArray]; omega) ⟨H, I.tok _, by rw [isEmpty_of r]; exact q⟩
   . subst e'
     obtain ⟨hz, hS, vs, r, m⟩ : kvs.length <= sizeLine /\ (p == sysModules) = false /\ ∃ vs, KV kvs vs /\ s.heap.DictOf (mixKind X.prog X.w) p vs := I.hok p _ hx
     have hlen : kvs.length = vs.length := Paired.length r
     exact wpAny_truthy_dict hS m (by omega) ⟨H, I.tok _, by rw [isEmpty_kv r]; exact q⟩
 | _ => exact (show False from e).elim
theorem pt_truth (ha : PE X a ta) (he : ∀ whole, isTrue a X.env whole = (do let v <- whole; standAt a.pos; holding [v] (truthy v))) :
   PT X a (λ σ H Q => ta σ H λ x H' => ∃ k, TruV X.K x H' k /\ Q k H') := by
 intro pins s σ H Q I h
 exact isTrue_plain (thn (ha pins s σ H _ I h) λ v s1 ⟨x, H1, I1, r1, q1⟩ => tru_ok pins s1 σ H1 x v Q I1 r1 q1) (he _)
theorem op_add_str : OpR X (binaryOp .Add) (λ x y H Q => ∃ i j, x = .str i /\ y = .str j /\ i.length + j.length <= sizeLine /\ Q (.str (i ++ j)) H) := by
 intro pins s σ H x y v u Q I rx ry h
 obtain ⟨i, j, rfl, rfl, hz, q⟩ := h
 obtain ⟨t, rfl⟩ := rx
 obtain ⟨t', rfl⟩ := ry
 exact add_str (λ t' tk => ⟨.str (i ++ j), H, I.tok _, ⟨_, rfl⟩, q⟩) hz
theorem vals1 {x : V} {us : List Value} (r : Vals [x] us) : ∃ u, us = [u] /\ RelV x u := by
 cases r with
 | cons r1 r2 => cases r2; exact ⟨_, rfl, r1⟩
theorem vals2 {x y : V} {us : List Value} (r : Vals [x, y] us) : ∃ u w', us = [u, w'] /\ RelV x u /\ RelV y w' := by
 cases r with
 | cons r1 r2 =>
   cases r2 with
   | cons r3 r4 => cases r4; exact ⟨_, _, rfl, r1, r3⟩
theorem call_divmod : CallR X (.builtin "divmod") (λ xs H Q => ∃ i j, xs = [.int i, .int j] /\ CDiv i j /\ ∀ p, H p = none -> Q (.ref p) (upd H p (.tup [.int (i / j), .int (i % j)]))) := by
 intro pins s σ H xs us Q I r h
 obtain ⟨i, j, rfl, ⟨h1, h2⟩, q⟩ := h
 obtain ⟨u, w', rfl, ⟨t, rfl⟩, ⟨t', rfl⟩⟩ := vals2 r
 refine divmod_int (by omega) ?_ (.inl (PyProof.noPylong_small (by omega)))
 rw [Int.fdiv_eq_ediv_of_nonneg i (by omega), Int.fmod_eq_emod_of_nonneg i (by omega)]
 have hn : H s.heap.objs.size = none := I.hok.fresh (Nat.le_refl _)
 refine ⟨.ref s.heap.objs.size, _, ?_, rfl, q _ hn⟩
 refine I.laid (λ b o e => Heap.get?_push_of_some _ e) (Nat.le_refl _) ⟨by simp only [List.length_cons, List.length_nil]; rw [sizeLine_eq]; decide, [.int (i / j) s.toks, .int (i % j) (s.toks + 1)], .cons ⟨_, rfl⟩ (.cons ⟨_, rfl⟩ .nil), ?_⟩
 exact ⟨_, Heap.get?_push_size s.heap rfl, rfl, 0, rfl⟩
end
end L2
namespace L2
open PySem PySem.Spec PyProof.Rows
structure ObjM (h : Heap) (x dx C : Addr) (mA : Str -> Option Value) : Prop where
 obj : h.get? x = some (PySem.W.instObj C dx)
 ns : h.Ns1 dx mA
 ne : dx ≠ x
theorem lookIn_ns {h : Heap} {dx : Addr} {mA : Str -> Option Value} (n : h.Ns1 dx mA) : ∃ od, h.get? dx = some od /\ ∀ name, PySem.W.lookIn name od = some (mA name) := by
 obtain ⟨o, es, ep, ho, hd, hk, _, hm⟩ := n
 refine ⟨o, ho, λ name => ?_⟩
 have e := hm name
 unfold nsFind findBy at e
 rw [<- Array.find?_toList] at e
 unfold PySem.W.lookIn
 rw [hd]
 dsimp only
 split
 . rename_i y q
   rw [q] at e
   exact congrArg some e
 . rename_i q
   rw [q] at e
   have a : es.toList.any (·.refKey) = false := by
     rw [List.any_eq_false]
     intro y hy
     obtain ⟨z, t, hkey⟩ := hk y (Array.mem_toList_iff.mp hy)
     simp [DictEntry.refKey, hkey]
   have a' : ¬ es.toList.any (·.refKey) = true := by rw [a]; exact Bool.false_ne_true
   rw [if_neg a']
   exact congrArg some e
theorem ObjM.look {h : Heap} {x dx C : Addr} {mA : Str -> Option Value} (I : ObjM h x dx C mA) : ∃ od, PySem.W.InstAt h x (PySem.W.instObj C dx) C (some od) /\ ∀ name, PySem.W.lookIn name od = some (mA name) :=
 let ⟨od, ho, hl⟩ := lookIn_ns I.ns
 ⟨od, ⟨I.obj, rfl, rfl, ho⟩, hl⟩
section
variable {prog : Program} {w : World} {A : Around} {E : Value -> Shared -> Prop} {s : Shared} {K : W.Frag} {x dx C f : Addr} {mA : Str -> Option Value} {name : Str} {v : Value}
theorem get_map {expr : Bool} {Q : Value -> Shared -> Prop} (X : K.In s.heap) (I : ObjM s.heap x dx C mA) (hg : PySem.W.plainGet K C name = true) (hh : PySem.W.hasDictIn K C = true)
   (ha : PySem.W.findIn K (.ref C) name = some none) (hv : mA name = some v) (hv' : PySem.W.handedIn v = true) (h : Q v { s with toks := s.toks + 1 }) :
   wpAny (model prog w) A (getAttr (.ref x) name expr) Q E s := by
 obtain ⟨od, J, hl⟩ := I.look
 exact PySem.W.get_value X J (PySem.W.plainGet_of hg).1 (PySem.W.findObj_own hh ha rfl (by rw [hl, hv])) hv' h
theorem set_map {ns : List Str} {Q : Unit -> Shared -> Prop} (X : K.In s.heap) (I : ObjM s.heap x dx C mA)
   (hs : PySem.W.findIn K (.ref C) "__setattr__" = some (some (.builtin "object.__setattr__"))) (hp : PySem.W.plainOver K C = true) (ht : PySem.W.takerIn K C name = some none) (hh : PySem.W.hasDictIn K C = true)
   (hw : PySem.Within mA ns) (hsz : ns.length <= sizeLine)
   (h : ∀ h', ObjM h' x dx C (λ y => if y = name then some v else mA y) -> Heap.SameBut dx s.heap h' -> Q () { s with heap := h', toks := s.toks + 2 }) :
   wpAny (model prog w) A (setAttr (.ref x) name v) Q E s := by
 obtain ⟨od, J, hl⟩ := I.look
 refine PySem.W.set_plain X J hs (PySem.W.osa_open (s := { s with toks := s.toks + 1 }) (r := none) X J hp ht λ b => ?_)
 obtain ⟨cd, hc, hd'⟩ := PySem.W.any_some hh
 have hx : s.heap.get? x = some ⟨.ref C, some dx, .plain, #[]⟩ := I.obj
 refine wpAny_bind (wpAny_pure (wpAny_bind (wpAny_bind (wpAny_loadPart hx (wpAny_bind (PySem.W.Looks.here (s := { s with toks := s.toks + 1 }) (PySem.W.looks_clsIn X hc) ?_))))))
 rw [hd']
 refine wpAny_pure (a := some dx) (wpAny_bind (wpAny_pure (wpAny_bind ?_)))
 refine wpAny_nsSet1 (s := { s with toks := s.toks + 1 }) I.ns λ h' hn2 hs2 => ?_
 obtain ⟨oD, esD, epD, hoD, hdD, hcD⟩ := hn2.count (PySem.Within.cons name v hw)
 refine wpAny_bind (wpAny_lookBehind hoD (by rw [hdD]; exact pastItsLine_dict (Nat.le_trans hcD (by rw [List.length_cons]; omega))) ?_)
 exact wpAny_pure (h _ ⟨(hs2.2 _ (Ne.symm I.ne)).trans I.obj, hn2, I.ne⟩ hs2)
theorem make_map {R : Result -> Shared -> Prop} {vs : List Value} {kw : List (Str × Value)} (X : K.In s.heap) (hm : PySem.W.makesIn K C = true)
   (hi : PySem.W.findIn K (.ref C) "__init__" = some (some (.ref f))) (hf : PySem.W.typeIn K (.ref f) = some (.type "function"))
   (h : codeAny (model prog w) (A.under (.builtin "type.__call__" ⟨.ref C :: vs, kw⟩)) (.call (.ref f) ⟨.ref (s.heap.objs.size + 1) :: vs, kw⟩) (PySem.W.InitBack (s.heap.objs.size + 1) R)
     { s with heap := (s.heap.push PySem.W.emptyDict).push (PySem.W.instObj C s.heap.objs.size) }) :
   codeAny (model prog w) A (.call (.ref C) ⟨vs, kw⟩) R s := by
 obtain ⟨hh, g, d, t, os⟩ := s
 exact PySem.W.make_core (PySem.W.makes_of X hm) (PySem.W.looks_findIn X hi) (λ self => PySem.W.bind_fn X self hf) (.inl rfl) h
end
def putF (f : Str) (v : V) : List (Str × V) -> List (Str × V)
 | [] => [(f, v)]
 | (g, x) :: r => if g = f then (g, v) :: r else (g, x) :: putF f v r
theorem lookup_putF (f g : Str) (v : V) : ∀ fs : List (Str × V), (putF f v fs).lookup g = if g = f then some v else fs.lookup g
 | [] => by
   show List.lookup g [(f, v)] = _
   by_cases h : g = f
   . have hb : (g == f) = true := beq_iff_eq.mpr h
     simp only [List.lookup, hb, if_pos h]
   . have hb : (g == f) = false := beq_eq_false_iff_ne.mpr h
     simp only [List.lookup, hb, if_neg h]
 | (k, x) :: r => by
   have ih := lookup_putF f g v r
   rw [show putF f v ((k, x) :: r) = (if k = f then (k, v) :: r else (k, x) :: putF f v r) from rfl]
   by_cases hk : k = f
   . rw [if_pos hk]
     by_cases h : g = k
     . have hb : (g == k) = true := beq_iff_eq.mpr h
       simp only [List.lookup, hb, if_pos (h.trans hk)]
     . have hb : (g == k) = false := beq_eq_false_iff_ne.mpr h
       simp only [List.lookup, hb, if_neg (λ e : g = f => h (e.trans hk.symm))]
   . rw [if_neg hk]
     by_cases h : g = k
     . have hb : (g == k) = true := beq_iff_eq.mpr h
       simp only [List.lookup, hb, if_neg (λ e : g = f => hk (h.symm.trans e))]
     . have hb : (g == k) = false := beq_eq_false_iff_ne.mpr h
       simp only [List.lookup, hb]
       exact ih
theorem keys_putF (f : Str) (v : V) : ∀ fs : List (Str × V), f ∈ (putF f v fs).map (·.1) /\ ∀ g, g ∈ fs.map (·.1) -> g ∈ (putF f v fs).map (·.1)
 | [] => ⟨by simp [putF], λ g h => by simp at h⟩
 | (k, x) :: r => by
   obtain ⟨i1, i2⟩ := keys_putF f v r
   rw [show putF f v ((k, x) :: r) = (if k = f then (k, v) :: r else (k, x) :: putF f v r) from rfl]
   by_cases hk : k = f
   . rw [if_pos hk]
     subst hk
     exact ⟨by simp, λ g h => by simpa using h⟩
   . rw [if_neg hk]
     refine ⟨?_, λ g h => ?_⟩
     . rw [List.map_cons]
       exact List.mem_cons_of_mem _ i1
     . rw [List.map_cons] at h ⊢
       rcases List.mem_cons.mp h with e | e
       . exact List.mem_cons.mpr (.inl e)
       . exact List.mem_cons_of_mem _ (i2 g e)
theorem length_putF (f : Str) (v : V) : ∀ fs : List (Str × V), (putF f v fs).length <= fs.length + 1
 | [] => by simp [putF]
 | (k, x) :: r => by
   have ih := length_putF f v r
   rw [show putF f v ((k, x) :: r) = (if k = f then (k, v) :: r else (k, x) :: putF f v r) from rfl]
   by_cases hk : k = f
   . rw [if_pos hk, List.length_cons, List.length_cons]; omega
   . rw [if_neg hk, List.length_cons, List.length_cons]; omega
theorem RelO.some_of {v : V} {o : Option Value} (r : RelO (some v) o) : ∃ u, o = some u /\ RelV v u := by
 cases o with
 | none => exact (show False from r).elim
 | some u => exact ⟨u, rfl, r⟩
theorem handed_of {v : V} {u : Value} (r : RelV v u) : PySem.W.handedIn u = true := by
 cases v with
 | non => cases (show u = Value.none from r); rfl
 | bl b => cases (show u = Value.bool b from r); rfl
 | int i => obtain ⟨t, e⟩ := (show ∃ t, u = Value.int i t from r); cases e; rfl
 | str x => obtain ⟨t, e⟩ := (show ∃ t, u = Value.str x t from r); cases e; rfl
 | byt b => obtain ⟨t, e⟩ := (show ∃ t, u = Value.bytes b t from r); cases e; rfl
 | flt b => obtain ⟨t, e⟩ := (show ∃ t, u = Value.float b t from r); cases e; rfl
 | ref a => cases (show u = Value.ref a from r); rfl
 | ty n => cases (show u = Value.type n from r); rfl
section
variable {P : Program} {w : World} {H H' : Hp} {h h' : Heap} {a C dx : Addr} {fs fs' : List (Str × V)}
theorem ins_get (hok : HOk P w H h) (e : H a = some (.ins C dx fs)) : ∃ mA, ObjM h a dx C mA /\ (∀ f, RelO (fs.lookup f) (mA f)) /\ PySem.Within mA (fs.map (·.1)) /\ fs.length <= 1000 /\ H dx = some (.own a) := by
 obtain ⟨d, z, ne, ob, mA, n, r, q⟩ := (show ObjOk P w H h a (.ins C dx fs) from hok a _ e)
 exact ⟨mA, ⟨ob, n, ne⟩, r, q, z, d⟩
end
structure Cls (K : W.Frag) (C : Addr) : Prop where
 pg : PySem.W.plainGet K C Str.empty = true
 hd : PySem.W.hasDictIn K C = true
 po : PySem.W.plainOver K C = true
 sa : PySem.W.findIn K (.ref C) "__setattr__" = some (some (.builtin "object.__setattr__"))
theorem Cls.get {K : W.Frag} {C : Addr} (c : Cls K C) (f : Str) : PySem.W.plainGet K C f = true := c.pg
def NoAttr (K : W.Frag) (C : Addr) (f : Str) : Prop := PySem.W.findIn K (.ref C) f = some none
theorem NoAttr.taker {K : W.Frag} {C : Addr} {f : Str} (n : NoAttr K C f) : PySem.W.takerIn K C f = some none := by
 unfold PySem.W.takerIn
 rw [show PySem.W.findIn K (.ref C) f = some none from n]
 rfl
section
variable {X : Cx} {pins : List (Addr × Obj)} {σ : St} {H : Hp} {s : Shared} {a C dx : Addr} {fs : List (Str × V)} {f : Str} {v : V} {A : Around} {E : Value -> Shared -> Prop}
theorem getattr_ok {b : Bool} {Q : Value -> Shared -> Prop} (I : Inv X pins σ H s) (e : H a = some (.ins C dx fs)) (c : Cls X.K C) (n : NoAttr X.K C f) (l : fs.lookup f = some v)
   (h : ∀ u s', Inv X pins σ H s' -> RelV v u -> Q u s') : wpAny (model X.prog X.w) A (getAttr (.ref a) f b) Q E s := by
 obtain ⟨mA, O, r, _, _, _⟩ := ins_get I.hok e
 obtain ⟨u, hu, ru⟩ := RelO.some_of (v := v) (o := mA f) (by rw [<- l]; exact r f)
 exact get_map I.kIn O (c.get f) c.hd n hu (handed_of ru) (h u _ (I.tok _) ru)
theorem setattr_ok {y : V} {u : Value} {Q : Unit -> Shared -> Prop} (I : Inv X pins σ H s) (e : H a = some (.ins C dx fs)) (c : Cls X.K C) (n : NoAttr X.K C f) (hl : fs.length < 1000) (ry : RelV y u)
   (h : ∀ s', Inv X pins σ (upd H a (.ins C dx (putF f y fs))) s' -> Q () s') : wpAny (model X.prog X.w) A (setAttr (.ref a) f u) Q E s := by
 obtain ⟨mA, O, r, wi, _, ho⟩ := ins_get I.hok e
 have hz : (fs.map (·.1)).length <= sizeLine := by rw [List.length_map, sizeLine_eq]; omega
 refine set_map I.kIn O c.sa c.po n.taker c.hd wi hz λ h' O' sb => h _ ?_
 have hd : ∃ o, h'.get? dx = some o := let ⟨o, _, _, e', _⟩ := O'.ns; ⟨o, e'⟩
 refine I.write (x := a) (e := dx) (by rw [e]; exact True.intro) (.inr ho) (λ b q hb z => (sb.2 b hb).trans z) hd ?_
 refine ⟨by rw [upd_ne O.ne]; exact ho, ?_, O.ne, O'.obj, _, O'.ns, λ g => ?_, λ g hg => ?_⟩
 . have := length_putF f y fs; omega
 . show RelO ((putF f y fs).lookup g) (if g = f then some u else mA g)
   rw [lookup_putF]
   by_cases q : g = f
   . rw [if_pos q, if_pos q]; exact ry
   . rw [if_neg q, if_neg q]; exact r g
 . by_cases q : g = f
   . rw [q]; exact (keys_putF f y fs).1
   . refine (keys_putF f y fs).2 g (wi g λ z => hg ?_)
     show (if g = f then some u else mA g) = none
     rw [if_neg q]; exact z
theorem Inv.made (I : Inv X pins σ H s) : Inv X pins σ (upd (upd H s.heap.objs.size (.own (s.heap.objs.size + 1))) (s.heap.objs.size + 1) (.ins C s.heap.objs.size []))
   { s with heap := (s.heap.push PySem.W.emptyDict).push (PySem.W.instObj C s.heap.objs.size) } := by
 have e1 : (s.heap.push PySem.W.emptyDict).get? s.heap.objs.size = some PySem.W.emptyDict := Heap.get?_push_size s.heap rfl
 have e2 : ((s.heap.push PySem.W.emptyDict).push (PySem.W.instObj C s.heap.objs.size)).get? (s.heap.objs.size + 1) = some (PySem.W.instObj C s.heap.objs.size) := by
   have := Heap.get?_push_size (s.heap.push PySem.W.emptyDict) (o := PySem.W.instObj C s.heap.objs.size) rfl
   rwa [Heap.size_push] at this
 have e3 : (s.heap.push PySem.W.emptyDict).Ns s.heap.objs.size (λ _ => none) := ⟨PySem.W.emptyDict, #[], _, e1, rfl, (λ e he => absurd he (by simp)), λ _ => rfl⟩
 have I1 := I.laid (a := s.heap.objs.size) (o := .own (s.heap.objs.size + 1)) (h' := s.heap.push PySem.W.emptyDict) (t' := s.toks) (λ b u q => Heap.get?_push_of_some _ q) (Nat.le_refl _) ⟨_, e1⟩
 refine I1.laid (a := s.heap.objs.size + 1) (o := .ins C s.heap.objs.size []) (t' := s.toks) (λ b u q => Heap.get?_push_of_some _ q) (Nat.le_of_eq (Heap.size_push _ _)) ?_
 have ne : s.heap.objs.size ≠ s.heap.objs.size + 1 := Nat.ne_of_lt (Nat.lt_succ_self _)
 refine ⟨by rw [upd_ne ne, upd_same], Nat.zero_le _, ne, e2, λ _ => none, (Heap.Ns1.of_empty e3).at λ o q => Heap.get?_push_of_some _ q, λ _ => True.intro, λ y hy => absurd rfl hy⟩
theorem attr_of {prog : Program} {w : World} {env : Env} {e : Expr} {f : Str} {pos : Pos} {s : Shared} {Q : Value -> Shared -> Prop} (hb : attributeBase e f env (eval e env) = eval e env)
   (h : wpAny (model prog w) A (eval e env) (λ o s₁ => wpAny (model prog w) A (getAttr o f true) Q E s₁) E s) : wpAny (model prog w) A (eval (.Attribute e f pos) env) Q E s :=
 Attribute_any_ h (by rw [arm_eval_Attribute, hb])
end
def tFld (K : W.Frag) (ta : TE) (f : Str) : TE := λ σ H Q => ta σ H λ x H1 => ∃ a C dx fs v, x = .ref a /\ H1 a = some (.ins C dx fs) /\ Cls K C /\ NoAttr K C f /\ fs.lookup f = some v /\ Q v H1
def sFld (K : W.Frag) (ta tv : TE) (f : Str) : TS := λ D σ H => tv σ H λ y H1 => ta σ H1 λ x H2 => ∃ a C dx fs, x = .ref a /\ H2 a = some (.ins C dx fs) /\ Cls K C /\ NoAttr K C f /\ fs.length < 1000 /\
 D.nx σ (upd H2 a (.ins C dx (putF f y fs)))
section
variable {X : Cx} {o e value : Expr} {f : Str} {pos pos' tpos : Pos} {ta tv : TE}
theorem pe_fld (he : PE X e ta) (hb : attributeBase e f X.env (eval e X.env) = eval e X.env) : PE X (.Attribute e f pos) (tFld X.K ta f) := by
 intro pins s σ H Q I h
 refine attr_of hb (thn (he pins s σ H _ I h) λ u s1 ⟨x, H1, I1, rx, a, C, dx, fs, v, ex, ea, c, n, l, q⟩ => ?_)
 subst ex
 obtain rfl : u = Value.ref a := rx
 exact getattr_ok I1 ea c n l λ u' s2 I2 ru => ⟨v, H1, I2, ru, q⟩
theorem ps_fld (ha : PE X o ta) (hv : PE X value tv) (hs : swapsWith value (some (.Attribute o f pos')) pos.line X.env = pure false) : PS X (.Assign [.Attribute o f pos'] value pos) (sFld X.K ta tv f) := by
 intro pins s σ H D I h
 refine plainObj_wpAny_Assign_Attribute (thn (hv pins s σ H _ I h) λ u s1 ⟨y, H1, I1, ry, q⟩ => thn (ha pins s1 σ H1 _ I1 q) λ ov s2 ⟨x, H2, I2, rx, a, C, dx, fs, ex, ea, c, n, l, q2⟩ => ?_) hs
 subst ex
 obtain rfl : ov = Value.ref a := rx
 exact setattr_ok I2 ea c n l ry λ s3 I3 => ⟨σ, _, I3, q2⟩
end
section
variable {X : Cx} {pins : List (Addr × Obj)} {σ : St} {H : Hp} {s : Shared} {A : Around} {E : Value -> Shared -> Prop} {Q : Value -> Shared -> Prop} {c : Value} {b : Bool}
inductive TyOf (K : W.Frag) (H : Hp) : V -> Value -> Prop where
 | non : TyOf K H .non (.type "NoneType")
 | bl (x : Bool) : TyOf K H (.bl x) (.type "bool")
 | int (i : Int) : TyOf K H (.int i) (.type "int")
 | str (x : Str) : TyOf K H (.str x) (.type "str")
 | flt (x : UInt64) : TyOf K H (.flt x) (.type "float")
 | lst {a : Addr} {xs : List V} (e : H a = some (.lst xs)) : TyOf K H (.ref a) (.type "list")
 | frz {a : Addr} {o : Obj} {xs : List V} (e : H a = some (.frz o (.lst xs))) : TyOf K H (.ref a) (.type "list")
 | tup {a : Addr} {xs : List V} (e : H a = some (.tup xs)) : TyOf K H (.ref a) (.type "tuple")
 | dK {a : Addr} {kvs : List (Key × V)} (e : H a = some (.dK kvs)) : TyOf K H (.ref a) (.type "dict")
 | dT {a : Addr} {kvs : List (List Key × V)} (e : H a = some (.dT kvs)) : TyOf K H (.ref a) (.type "dict")
 | ins {a C dx : Addr} {fs : List (Str × V)} (e : H a = some (.ins C dx fs)) (cl : Cls K C) (ha : PySem.W.findIn K (.ref C) "__class__" = some (some (.builtin "object.__class__")))
     (hn : PySem.W.specialIn K (.builtin "object.__class__") "__get__" = some (some (.builtin "getset_descriptor.__get__"))) (htk : PySem.W.takesIn K (.builtin "object.__class__") = some true)
     (hm : PySem.W.mroIn K C (.type "object") = some true) : TyOf K H (.ref a) (.ref C)
theorem isinst_ok {x : V} {u t : Value} (I : Inv X pins σ H s) (rx : RelV x u) (ty : TyOf X.K H x t) (e : PySem.W.kitOne X.K t c = some b) (h : ∀ tk, Q (.bool b) { s with toks := tk }) :
   wpAny (model X.prog X.w) A (call (.builtin "isinstance") [u, c]) Q E s := by
 cases ty with
 | non => cases (show u = Value.none from rx); exact PySem.W.kia_one PySem.W.kitx_none I.kIn True.intro e (λ z => nomatch z) h
 | bl y => cases (show u = Value.bool y from rx); exact PySem.W.kia_one PySem.W.kitx_bool I.kIn True.intro e (λ z => nomatch z) h
 | int i => obtain ⟨t, q⟩ := (show ∃ t, u = Value.int i t from rx); cases q; exact PySem.W.kia_one PySem.W.kitx_int I.kIn True.intro e (λ z => nomatch z) h
 | str y => obtain ⟨t, q⟩ := (show ∃ t, u = Value.str y t from rx); cases q; exact PySem.W.kia_one PySem.W.kitx_str I.kIn True.intro e (λ z => nomatch z) h
 | flt y => obtain ⟨t, q⟩ := (show ∃ t, u = Value.float y t from rx); cases q; exact PySem.W.kia_one PySem.W.kitx_float I.kIn True.intro e (λ z => nomatch z) h
 | @lst a xs ea =>
   cases (show u = Value.ref a from rx)
   obtain ⟨_, _, n, _, h1⟩ := (show ObjOk X.prog X.w H s.heap a (.lst xs) from I.hok a _ ea)
   exact PySem.W.kia_one PySem.W.kitx_list I.kIn ⟨_, h1, rfl⟩ e (λ z => nomatch z) h
 | @frz a ob xs ea =>
   cases (show u = Value.ref a from rx)
   obtain ⟨_, _, _, n, _, h1⟩ := (show ObjOk X.prog X.w H s.heap a (.frz ob (.lst xs)) from I.hok a _ ea)
   exact PySem.W.kia_one PySem.W.kitx_list I.kIn ⟨_, h1, rfl⟩ e (λ z => nomatch z) h
 | @tup a xs ea =>
   cases (show u = Value.ref a from rx)
   obtain ⟨_, _, _, p⟩ := (show ObjOk X.prog X.w H s.heap a (.tup xs) from I.hok a _ ea)
   obtain ⟨o, h1, h2, _⟩ := p
   exact PySem.W.kia_one PySem.W.kitx_tuple I.kIn ⟨o, h1, h2⟩ e (λ z => nomatch z) h
 | @dK a kvs ea =>
   cases (show u = Value.ref a from rx)
   obtain ⟨_, _, vs, _, p⟩ := (show ObjOk X.prog X.w H s.heap a (.dK kvs) from I.hok a _ ea)
   obtain ⟨o, es, ep, h1, h2, _⟩ := p
   exact PySem.W.kia_one PySem.W.kitx_dict I.kIn ⟨o, h1, h2.1⟩ e (λ z => nomatch z) h
 | @dT a kvs ea =>
   cases (show u = Value.ref a from rx)
   obtain ⟨_, _, xs, _, o, es, ep, h1, h2, _⟩ := (show ObjOk X.prog X.w H s.heap a (.dT kvs) from I.hok a _ ea)
   exact PySem.W.kia_one PySem.W.kitx_dict I.kIn ⟨o, h1, h2.1⟩ e (λ z => nomatch z) h
 | @ins a C dx fs ea cl ha hn htk hm =>
   cases (show u = Value.ref a from rx)
   obtain ⟨mA, O, _⟩ := ins_get I.hok ea
   obtain ⟨od, J, _⟩ := O.look
   exact PySem.W.kia_one (PySem.W.kitx_own (cl.get _) cl.hd ha hn htk hm) I.kIn J e (λ z => nomatch z) h
end
end L2
namespace L2
open PySem PySem.Spec PyProof.Rows
structure Room (k : Nat) (A : Around) : Prop where
 hd : A.handled = none
 dp : A.depth + 3 * k + 5 < recursionLimit
 un : A.units + 16 * k + 200 < cLine
theorem Room.mono {j k : Nat} {A : Around} (r : Room k A) (h : j <= k) : Room j A := ⟨r.hd, by have := r.dp; omega, by have := r.un; omega⟩
theorem Room.deeper {k : Nat} {A : Around} (r : Room (k + 1) A) (env : Env) : Room k (A.deeper env) :=
 ⟨r.hd, by have := r.dp; show A.depth + 1 + 3 * k + 5 < _; omega, by have := r.un; show A.units + 3 + 16 * k + 200 < _; omega⟩
theorem make_depth {A : Around} {C : Addr} {us : List Value} {kw : List (Str × Value)} : (A.under (.builtin "type.__call__" ⟨.ref C :: us, kw⟩)).depth = A.depth + 1 := by
 first | rfl | simp [Around.under, Code.weight, Code.isCreation, Code.isGuard, Code.isCaller, Code.frames, Code.isFrame, guardIds]
theorem make_units {A : Around} {C : Addr} {us : List Value} {kw : List (Str × Value)} : (A.under (.builtin "type.__call__" ⟨.ref C :: us, kw⟩)).units = A.units + 1 := by
 first | rfl | simp [Around.under, Code.cUnits, Code.frames, Code.isFrame]
theorem Room.make {k : Nat} {A : Around} (r : Room (k + 1) A) (C : Addr) (us : List Value) (kw : List (Str × Value)) : Room k (A.under (.builtin "type.__call__" ⟨.ref C :: us, kw⟩)) :=
 ⟨r.hd, by have := r.dp; rw [make_depth]; omega, by have := r.un; rw [make_units]; omega⟩
theorem Room.depth {k : Nat} {A : Around} (r : Room k A) : A.depth < recursionLimit := by have := r.dp; omega
theorem Room.units {k : Nat} {A : Around} (r : Room k A) : A.units + 64 < cLine := by have := r.un; omega
def tNil : TA := λ _ H Q => Q [] H
def tCons (ta : TE) (tr : TA) : TA := λ σ H Q => ta σ H λ x H1 => tr σ H1 λ xs H2 => Q (x :: xs) H2
section
variable {X : Cx} {e : Expr} {es : List Expr} {te : TE} {t : TA} {pos : Pos}
theorem pa_nil : PA X [] tNil := λ _ _ _ _ H Q I h => Calls.spliced_nil ⟨[], H, I, .nil, h⟩
theorem pa_cons (ha : PE X e te) (hr : PA X es t) (hs : starEach (e :: es) X.env = (false, eval e X.env) :: starEach es X.env := by rfl) : PA X (e :: es) (tCons te t) := by
 intro pos pins s σ H Q I h
 rw [hs]
 show wpAny _ _ (spliced ((false, eval e X.env) :: backTo pos (starEach es X.env))) _ _ s
 refine Calls.spliced_cons (thn (ha pins s σ H _ I h) λ u s1 ⟨x, H1, I1, r1, q1⟩ => ?_)
 exact thn (hr pos pins s1 σ H1 _ I1 q1) λ us s2 ⟨xs, H2, I2, r2, q2⟩ => ⟨x :: xs, H2, I2, .cons r1 r2, q2⟩
def tTup (t : TA) : TE := λ σ H Q => t σ H λ xs H1 => xs.length <= sizeLine /\ ∀ p, H1 p = none -> Q (.ref p) (upd H1 p (.tup xs))
def tLst (t : TA) : TE := λ σ H Q => t σ H λ xs H1 => xs.length <= sizeLine /\ ∀ p, H1 p = none -> Q (.ref p) (upd H1 p (.lst xs))
theorem pe_tup {x1} (h : PA X es t) : PE X (.Tuple es x1 pos) (tTup t) := by
 intro pins s σ H Q I hq
 refine wpAny_Tuple_spliced (thn (h pos pins s σ H _ I hq) λ us s1 ⟨xs, H1, I1, r, z, q⟩ => ⟨by rw [<- r.length]; exact z, ?_⟩)
 have hf : H1 s1.heap.objs.size = none := I1.hok.fresh (Nat.le_refl _)
 refine ⟨.ref s1.heap.objs.size, upd H1 s1.heap.objs.size (.tup xs), I1.laid (t' := s1.toks) (λ b u e => Heap.get?_push_of_some _ e) (Nat.le_refl _) ?_, rfl, q _ hf⟩
 exact ⟨z, us, r, ⟨_, Heap.get?_push_size _ rfl, rfl, _, rfl⟩⟩
theorem pe_lst (h : PA X es t) : PE X (.List es pos) (tLst t) := by
 intro pins s σ H Q I hq
 refine wpAny_List_spliced (thn (h pos pins s σ H _ I hq) λ us s1 ⟨xs, H1, I1, r, z, q⟩ => ⟨by rw [<- r.length]; exact z, ?_⟩)
 have hf : H1 s1.heap.objs.size = none := I1.hok.fresh (Nat.le_refl _)
 refine ⟨.ref s1.heap.objs.size, upd H1 s1.heap.objs.size (.lst xs), I1.laid (t' := s1.toks) (λ b u e => Heap.get?_push_of_some _ e) (Nat.le_refl _) ?_, rfl, q _ hf⟩
 exact ⟨z, us, 0, r, Heap.get?_push_size _ rfl⟩
end
abbrev Sp := List V -> Hp -> VK -> XK -> Prop
abbrev CXT := List Env -> Hp -> Shared -> XK -> Value -> Shared -> Prop
structure Env0 (P : Program) (w : World) (K : W.Frag) (mg : Str -> Option Value) (base : Heap) (A : Around) (outer : List Env) (s : Shared) (H : Hp) : Prop where
 frames : A.frames = some outer
 mod : Mod K mg base
 bs : ∀ b o, base.get? b = some o -> s.heap.get? b = some o /\ H b = none
 bsz : base.objs.size <= s.heap.objs.size
 funs : s.heap.FunFrames base outer
 frf : ∀ b ∈ frs outer, H b = none
 hok : HOk P w H s.heap
 bare : AllBare s.gens
def CE (outer : List Env) (P : Program) (w : World) (H : Hp) (s : Shared) (Q : VK) (u : Value) (s' : Shared) : Prop :=
 ∃ v H', s'.os = s.os /\ AllBare s'.gens /\ Un (frs outer) [] H H' s.heap s'.heap /\ HOk P w H' s'.heap /\ RelV v u /\ Q v H'
def CR (CX : CXT) (outer : List Env) (P : Program) (w : World) (H : Hp) (s : Shared) (Q : VK) (E : XK) (r : Result) (s' : Shared) : Prop :=
 match r with
 | .ok (.ret u) => CE outer P w H s Q u s'
 | .ok _ => False
 | .error e => CX outer H s E e s'
structure FnOk (P : Program) (w : World) (K : W.Frag) (mg : Str -> Option Value) (base : Heap) (CX : CXT) (k : Nat) (f : Addr) (fd : FuncData) (ps : List Str) (sp : Sp) : Prop where
 len : ∀ vs H Q E, sp vs H Q E -> vs.length = ps.length
 run : ∀ (A : Around) (outer : List Env) (s : Shared) (H : Hp) (args : Args) (us : List Value) (vs : List V) (Q : VK) (E : XK), Room k A -> Env0 P w K mg base A outer s H -> BindsTo s fd args (ps.zip us) -> Vals vs us -> sp vs H Q E ->
   codeAny (model P w) A (.call (.ref f) args) (CR CX outer P w H s Q E) s
theorem Env0.make {P : Program} {w : World} {K : W.Frag} {mg : Str -> Option Value} {base : Heap} {A : Around} {outer : List Env} {s : Shared} {H : Hp} (e : Env0 P w K mg base A outer s H) (C : Addr) (us : List Value) (kw : List (Str × Value)) :
   Env0 P w K mg base (A.under (.builtin "type.__call__" ⟨.ref C :: us, kw⟩)) outer s H := ⟨by first | exact e.frames | (simpa [Around.under, Code.envs, Code.isFrame, pushEnvs] using e.frames), e.mod, e.bs, e.bsz, e.funs, e.frf, e.hok, e.bare⟩
section
variable {X : Cx} {pins : List (Addr × Obj)} {σ : St} {H : Hp} {s s' : Shared}
theorem Inv.env0 (I : Inv X pins σ H s) : Env0 X.prog X.w X.K X.mg X.base X.A X.stack s H :=
 ⟨I.ok.frames, I.ok.mod, I.bs, Nat.le_trans I.ok.bsz I.sz, I.stack, I.stkFree, I.hok, I.bare⟩
theorem Inv.after {Q : VK} {u : Value} (I : Inv X pins σ H s) (h : CE X.stack X.prog X.w H s Q u s') : EP X pins σ Q u s' := by
 obtain ⟨v, H', os, bare, un, hok, r, q⟩ := h
 obtain ⟨hh, g, d, t, os'⟩ := s'
 obtain rfl : os' = s.os := os
 exact ⟨v, H', I.call (h' := hh) (g' := g) (d' := d) (t' := t) (ch := []) un hok bare (λ b z => absurd z (by simp)), r, q⟩
end
def tCall (sp : Sp) (dvs : List V) (E : XK) (t : TA) : TE := λ σ H Q => t σ H λ vs H1 => sp (vs ++ dvs) H1 Q E
def tMake (C : Addr) (sp : Sp) (dvs : List V) (E : XK) (t : TA) : TE := λ σ H Q => t σ H λ vs H1 => ∀ x dx, H1 x = none -> H1 dx = none -> dx ≠ x ->
 sp (.ref x :: (vs ++ dvs)) (upd (upd H1 dx (.own x)) x (.ins C dx [])) (λ v H2 => v = .non /\ Q (.ref x) H2) E
def Binds (K : W.Frag) (fd : FuncData) (ps : List Str) (ds : List Value) : Prop :=
 ∀ (s : Shared) (us : List Value), K.In s.heap -> (us ++ ds).length = ps.length -> BindsTo s fd ⟨us, []⟩ (ps.zip (us ++ ds))
theorem Binds.all {K : W.Frag} {fd : FuncData} {ps : List Str} (h : ∀ us : List Value, us.length = ps.length -> bindArgs fd ⟨us, []⟩ = pure (ps.zip us)) : Binds K fd ps [] := λ s us _ hl => by
 rw [List.append_nil] at hl ⊢
 exact .of_eq (h us hl)
def Passes (CX : CXT) (X : Cx) (E : XK) : Prop := ∀ (pins : List (Addr × Obj)) (σ : St) (H : Hp) (s : Shared) (e : Value) (s' : Shared), Inv X pins σ H s -> CX X.stack H s E e s' -> X.xe e s'
section
variable {X : Cx} {CX : CXT} {k : Nat} {f C : Addr} {fd : FuncData} {ps : List Str} {sp : Sp} {dvs : List V} {ds : List Value} {E : XK} {x m : Str} {p pos apos : Pos} {e o : Expr} {es : List Expr} {ta : TE} {t : TA}
theorem run_fn {pins : List (Addr × Obj)} {σ : St} {H : Hp} {s : Shared} {Q : VK} {us : List Value} {vs : List V} (F : FnOk X.prog X.w X.K X.mg X.base CX k f fd ps sp) (hr : Room k X.A) (hb : Binds X.K fd ps ds) (hd : Vals dvs ds) (hx : Passes CX X E)
   (I : Inv X pins σ H s) (r : Vals vs us) (h : sp (vs ++ dvs) H Q E) : wpAny (model X.prog X.w) X.A (call (.ref f) us) (EP X pins σ Q) X.xe s := by
 have r2 : Vals (vs ++ dvs) (us ++ ds) := r.append hd
 have hl : (us ++ ds).length = ps.length := by rw [<- r2.length]; exact F.len _ _ _ _ h
 refine wpAny_call (codeAny_mono (F.run X.A X.stack s H ⟨us, []⟩ (us ++ ds) (vs ++ dvs) Q E hr I.env0 (hb s us I.kIn hl) r2 h) λ r s' hq => ?_)
 cases r with
 | error e => exact hx pins σ H s e s' I hq
 | ok fl =>
   cases fl with
   | ret u => exact I.after hq
   | next => exact False.elim hq
   | brk => exact False.elim hq
   | cont => exact False.elim hq
theorem pe_call (F : FnOk X.prog X.w X.K X.mg X.base CX k f fd ps sp) (hr : Room k X.A) (hg : Gl X x) (hm : X.mg x = some (.ref f)) (hk : PySem.W.keepIn X.K (.ref f) = true) (hb : Binds X.K fd ps ds) (hd : Vals dvs ds) (hx : Passes CX X E)
   (ha : PA X (e :: es) t) (hdb : (x == ("__debug__" : Str)) = false := by decide) (he : starEach (e :: es) X.env = (false, eval e X.env) :: starEach es X.env := by rfl) (hpl : (backTo pos (starEach es X.env)).any (·.1) = false := by rfl) :
   PE X (.Call (.Name x p) (e :: es) [] pos) (tCall sp dvs E t) := by
 intro pins s σ H Q I h
 refine wpAny_Call_Name_kw (ld_glob I hg hm ?_ hdb)
 refine PySem.W.callWith_K (h₀ := X.base) I.ok.mod.kin hk (thn (ha pos pins s σ H _ I h) λ us s1 ⟨vs, H1, I1, r, q⟩ => ⟨I1.kIn, ?_⟩) he hpl
 exact run_fn F hr hb hd hx I1 r q
structure Mk (K : W.Frag) (C f : Addr) : Prop where
 makes : PySem.W.makesIn K C = true
 init : PySem.W.findIn K (.ref C) "__init__" = some (some (.ref f))
 fn : PySem.W.isFn K (.ref f) = true
 kp : PySem.W.keepIn K (.ref C) = true
theorem run_make {pins : List (Addr × Obj)} {σ : St} {H : Hp} {s : Shared} {Q : VK} {us : List Value} {vs : List V} (M : Mk X.K C f) (F : FnOk X.prog X.w X.K X.mg X.base CX k f fd ps sp) (hr : Room (k + 1) X.A) (hb : Binds X.K fd ps ds) (hd : Vals dvs ds)
   (hx : Passes CX X E) (I : Inv X pins σ H s) (r : Vals vs us)
   (h : ∀ x dx, H x = none -> H dx = none -> dx ≠ x -> sp (.ref x :: (vs ++ dvs)) (upd (upd H dx (.own x)) x (.ins C dx [])) (λ v H2 => v = .non /\ Q (.ref x) H2) E) :
   wpAny (model X.prog X.w) X.A (call (.ref C) us) (EP X pins σ Q) X.xe s := by
 have hq := h (s.heap.objs.size + 1) s.heap.objs.size (I.hok.fresh (Nat.le_succ _)) (I.hok.fresh (Nat.le_refl _)) (Nat.ne_of_lt (Nat.lt_succ_self _))
 have I2 := Inv.made (C := C) I
 have r2 : Vals (V.ref (s.heap.objs.size + 1) :: (vs ++ dvs)) (Value.ref (s.heap.objs.size + 1) :: (us ++ ds)) := .cons rfl (r.append hd)
 have hl : (Value.ref (s.heap.objs.size + 1) :: us ++ ds).length = ps.length := by
   have e := r2.length
   rw [F.len _ _ _ _ hq] at e
   exact e.symm
 refine wpAny_call (make_map (f := f) I.kIn M.makes M.init (beq_iff_eq.mp M.fn) (codeAny_mono (F.run _ X.stack _ _ ⟨Value.ref (s.heap.objs.size + 1) :: us, []⟩ (Value.ref (s.heap.objs.size + 1) :: (us ++ ds)) _ _ E (hr.make C us [])
   (I2.env0.make C us []) (hb _ (Value.ref (s.heap.objs.size + 1) :: us) I2.kIn hl) r2 hq) λ r s' hq' => ?_))
 cases r with
 | error e => exact hx pins σ _ _ e s' I2 hq'
 | ok fl =>
   cases fl with
   | ret u =>
     obtain ⟨v, H', I3, rv, ev, q3⟩ := I2.after hq'
     subst ev
     exact ⟨rv, ⟨V.ref (s.heap.objs.size + 1), H', I3, rfl, q3⟩⟩
   | next => exact False.elim hq'
   | brk => exact False.elim hq'
   | cont => exact False.elim hq'
theorem pe_make (M : Mk X.K C f) (F : FnOk X.prog X.w X.K X.mg X.base CX k f fd ps sp) (hr : Room (k + 1) X.A) (hg : Gl X x) (hm : X.mg x = some (.ref C)) (hb : Binds X.K fd ps ds) (hd : Vals dvs ds) (hx : Passes CX X E)
   (ha : PA X (e :: es) t) (hdb : (x == ("__debug__" : Str)) = false := by decide) (he : starEach (e :: es) X.env = (false, eval e X.env) :: starEach es X.env := by rfl) (hpl : (backTo pos (starEach es X.env)).any (·.1) = false := by rfl) :
   PE X (.Call (.Name x p) (e :: es) [] pos) (tMake C sp dvs E t) := by
 intro pins s σ H Q I h
 refine wpAny_Call_Name_kw (ld_glob I hg hm ?_ hdb)
 refine PySem.W.callWith_K (h₀ := X.base) I.ok.mod.kin M.kp (thn (ha pos pins s σ H _ I h) λ us s1 ⟨vs, H1, I1, r, q⟩ => ⟨I1.kIn, ?_⟩) he hpl
 exact run_make M F hr hb hd hx I1 r q
end
section
variable {X : Cx} {CX : CXT} {k : Nat} {f C : Addr} {fd : FuncData} {ps ks : List Str} {sp : Sp} {E : XK} {x m : Str} {p pos apos kpos : Pos} {e o : Expr} {es : List Expr} {kws : List Keyword} {te ta : TE} {t tk : TA} {nm : Option Str}
variable {g : List Value -> List Value -> List Value} {gV : List V -> List V -> List V}
end
structure FnScope (N P : List Str) (sc : Scope) : Prop where
 kind : sc.kind = .function
 co : sc.isCoroutine = false
 gen : sc.isGenerator = false
 nd : N.Nodup
 pre : N.take P.length = P
 par : ∀ x ∈ P, sc.names.lookup x = some .local \/ sc.names.lookup x = some .cell
 nofree : ∀ y ∈ sc.names, y.2 ≠ .free
theorem bindL_out {kindOf : Str -> Option NameKind} {x : Str} : ∀ {binds : List (Str × Value)} {m : Str -> Option Value}, (∀ v, (x, v) ∉ binds) -> bindL kindOf binds m x = m x
 | [], _, _ => rfl
 | (n, v) :: r, m, h => by
   unfold bindL
   rw [bindL_out λ w hw => h w (List.mem_cons_of_mem _ hw)]
   split
   . have : x ≠ n := by rintro rfl; exact h v List.mem_cons_self
     simp [this]
   . rfl
theorem bindC_out {kindOf : Str -> Option NameKind} {x : Str} : ∀ {binds : List (Str × Value)} {m : Str -> Option Value}, (∀ v, (x, v) ∉ binds) -> bindC kindOf binds m x = m x
 | [], _, _ => rfl
 | (n, v) :: r, m, h => by
   unfold bindC
   rw [bindC_out λ w hw => h w (List.mem_cons_of_mem _ hw)]
   split
   . rfl
   . have : x ≠ n := by rintro rfl; exact h v List.mem_cons_self
     simp [this]
theorem bindL_get {kindOf : Str -> Option NameKind} {x : Str} {v : Value} : ∀ {P : List Str} {vs : List Value} {i : Nat} {m : Str -> Option Value}, P.Nodup -> P[i]? = some x -> vs[i]? = some v -> kindOf x = some .local ->
   bindL kindOf (P.zip vs) m x = some v
 | [], _, _, _, _, h, _, _ => by simp at h
 | _ :: _, [], _, _, _, _, h, _ => by simp at h
 | p :: P, w :: vs, 0, m, nd, h1, h2, hk => by
   simp at h1 h2; subst h1; subst h2
   show bindL kindOf ((p, w) :: P.zip vs) m p = _
   unfold bindL
   rw [bindL_out λ v hv => (List.nodup_cons.mp nd).1 (List.of_mem_zip hv).1, if_pos hk]
   simp
 | p :: P, w :: vs, i + 1, m, nd, h1, h2, hk => by
   show bindL kindOf ((p, w) :: P.zip vs) m x = _
   unfold bindL
   exact bindL_get (i := i) (List.nodup_cons.mp nd).2 (by simpa using h1) (by simpa using h2) hk
theorem bindC_get {kindOf : Str -> Option NameKind} {x : Str} {v : Value} : ∀ {P : List Str} {vs : List Value} {i : Nat} {m : Str -> Option Value}, P.Nodup -> P[i]? = some x -> vs[i]? = some v -> kindOf x ≠ some .local ->
   bindC kindOf (P.zip vs) m x = some v
 | [], _, _, _, _, h, _, _ => by simp at h
 | _ :: _, [], _, _, _, _, h, _ => by simp at h
 | p :: P, w :: vs, 0, m, nd, h1, h2, hk => by
   simp at h1 h2; subst h1; subst h2
   show bindC kindOf ((p, w) :: P.zip vs) m p = _
   unfold bindC
   rw [bindC_out λ v hv => (List.nodup_cons.mp nd).1 (List.of_mem_zip hv).1, if_neg hk]
   simp
 | p :: P, w :: vs, i + 1, m, nd, h1, h2, hk => by
   show bindC kindOf ((p, w) :: P.zip vs) m x = _
   unfold bindC
   exact bindC_get (i := i) (List.nodup_cons.mp nd).2 (by simpa using h1) (by simpa using h2) hk
def start (N : List Str) (vs : List V) : St := vs.map some ++ List.replicate (N.length - vs.length) none
def cxOf (CX : CXT) (P : Program) (w : World) (K : W.Frag) (mg : Str -> Option Value) (base : Heap) (N : List Str) (qual : Str) (scope : Scope) (f : Addr) (cd : Value) (A : Around) (outer : List Env) (s : Shared) (H : Hp) (E : XK) : Cx where
 prog := P
 w := w
 K := K
 mg := mg
 base := base
 A := A.deeper (envOfC qual scope s.heap.objs.size f cd)
 N := N
 s₀ := s
 H₀ := H
 env := envOfC qual scope s.heap.objs.size f cd
 outer := outer
 stack := envOfC qual scope s.heap.objs.size f cd :: outer
 ex := []
 calm := true
 fn := λ _ => true
 pn := []
 xe := λ e s' => wpAny (model P w) (A.deeper (envOfC qual scope s.heap.objs.size f cd)) (leaving (envOfC qual scope s.heap.objs.size f cd) e) (λ _ s'' => CX outer H s E e s'') (λ e' s'' => CX outer H s E e' s'') s'
theorem cell_has {sc : Scope} {n : Nat} {x : Str} (h : sc.names.lookup x = some .cell) : ∃ c, (cellsFrom n sc.names []).lookup x = some c := by
 have q := PySem.W.cellsFrom_some sc.names n [] (.inl h)
 exact Option.isSome_iff_exists.mp q
theorem inv_start {CX : CXT} {P : Program} {w : World} {K : W.Frag} {mg : Str -> Option Value} {base : Heap} {N ps : List Str} {qual : Str} {scope : Scope} {f : Addr} {cd : Value} {A : Around} {outer : List Env} {s s1 : Shared} {H : Hp} {E : XK} {us : List Value} {vs : List V}
   (S : FnScope N ps scope) (hd : A.handled = none) (e0 : Env0 P w K mg base A outer s H) (hl : vs.length = ps.length) (r : Vals vs us)
   (x : InCallC s s.heap.objs.size (bindL (envOfC qual scope s.heap.objs.size f cd).kindOf (ps.zip us) λ _ => none) (cellsFrom (s.heap.objs.size + 1) scope.names []) (bindC (envOfC qual scope s.heap.objs.size f cd).kindOf (ps.zip us) λ _ => none) s1) :
   Inv (cxOf CX P w K mg base N qual scope f cd A outer s H E) [] (start N vs) H s1 := by
 have hpl : ps.length <= N.length := by have := congrArg List.length S.pre; rw [List.length_take] at this; omega
 obtain ⟨h1, tk, rfl, hk⟩ := x.done
 have noA : ∀ b : Addr, b ∉ (cxOf CX P w K mg base N qual scope f cd A outer s H E).ex := λ b z => absurd (show b ∈ ([] : List Addr) from z) (by simp)
 refine ⟨⟨e0.mod, S.kind, rfl, rfl, Nat.le_refl _, λ y z c h1 h2 => ?_, λ y hy => ?_, λ y c _ h => ?_, λ _ => hd, Around.frames_deeper e0.frames, .inr ⟨rfl, rfl⟩, λ b z => absurd z (noA b), e0.bs, e0.bsz, λ b _ _ => noA b, λ b z => absurd z (noA b), e0.funs, e0.frf⟩,
   rfl, e0.bare, Un.kept hk, ⟨_, x.toInCall.ns, λ i y v h1 h2 h3 => ?_⟩, λ y c h => ⟨_, x.cell y c h⟩, e0.hok.fresh (Nat.le_refl _), λ y c h => ?_, λ p hp => absurd (show p ∈ ([] : List (Addr × Obj)) from hp) (by simp), e0.hok.kept hk, ?_⟩
 . exact name_of_addr x.apart (PySem.mem_of_lookup h1) (PySem.mem_of_lookup h2)
 . have hy : scope.names.lookup y = some .cell \/ scope.names.lookup y = some .free := hy
   rcases hy with hy | hy
   . exact cell_has hy
   . exact absurd rfl (S.nofree _ (PySem.mem_of_lookup hy))
 . exact Nat.le_of_lt (x.above y c (PySem.mem_of_lookup h))
 . have hi : i < vs.length := by
     unfold start at h2
     by_cases hi : i < vs.length
     . exact hi
     . rw [List.getElem?_append_right (by simpa using hi)] at h2
       rw [List.getElem?_replicate] at h2
       split at h2 <;> cases h2
   have ha : vs[i]? = some v := by
     unfold start at h2
     rw [List.getElem?_append_left (by simpa using hi), List.getElem?_map] at h2
     cases e : vs[i]? with
     | none => rw [e] at h2; cases h2
     | some a => rw [e] at h2; cases h2; rfl
   obtain ⟨u, hu, rv⟩ := r.get ha
   have hp : ps[i]? = some y := by
     rw [<- S.pre, List.getElem?_take_of_lt (by omega)]; exact h1
   have ndP : ps.Nodup := by rw [<- S.pre]; exact S.nd.sublist (List.take_sublist _ _)
   refine ⟨u, rv, ?_⟩
   rcases S.par y (List.mem_of_getElem? hp) with k | k
   . exact .inl ⟨k, bindL_get ndP hp hu k⟩
   . obtain ⟨c, e⟩ := cell_has (n := s.heap.objs.size + 1) k
     refine .inr ⟨.inl k, c, e, ?_⟩
     have q := x.cell y c e
     rw [bindC_get ndP hp hu (by show scope.names.lookup y ≠ _; rw [k]; decide)] at q
     exact q
 . exact e0.hok.fresh (Nat.le_of_lt (x.above y c (PySem.mem_of_lookup h)))
 . unfold start
   show _ = N.length
   rw [List.length_append, List.length_map, List.length_replicate]
   omega
theorem fn_of {CX : CXT} {P : Program} {w : World} {K : W.Frag} {mg : Str -> Option Value} {base : Heap} {k : Nat} {f : Addr} {name qual : Str} {params : Arguments} {body : List Stmt} {scope : Scope} {dV kV doc pm cdv ct oc : Value} {an od : Option Addr}
   {osl : Array (Option Value)} {N ps : List Str} {sp : Sp} (lk : K.lookup f = some ⟨oc, od, .func (PySem.W.fnOf name qual params body scope dV kV doc pm an cdv ct), osl⟩) (hcd : PySem.W.codeIn K cdv qual = true) (S : FnScope N ps scope)
   (len : ∀ vs H Q E, sp vs H Q E -> vs.length = ps.length)
   (hbody : ∀ (A : Around) (outer : List Env) (s : Shared) (H : Hp) (vs : List V) (Q : VK) (E : XK), Room k (A.deeper (envOfC qual scope s.heap.objs.size f cdv)) -> sp vs H Q E ->
     ∃ t, PSs (cxOf CX P w K mg base N qual scope f cdv A outer s H E) body t /\ t { nx := λ _ H' => Q .non H', rt := Q } (start N vs) H) :
   FnOk P w K mg base CX (k + 1) f (PySem.W.fnOf name qual params body scope dV kV doc pm an cdv ct) ps sp := by
 refine ⟨len, λ A outer s H args us vs Q E hr e0 hb r hsp => ?_⟩
 have hl := len _ _ _ _ hsp
 have KX : K.In s.heap := e0.mod.kin.keeps λ b o e => (e0.bs b o e).1
 have lim : s.heap.NoLimit := e0.mod.nolimit.keeps λ b o e => (e0.bs b o e).1
 have hkind : ∀ y ∈ ps.zip us, scope.names.lookup y.1 = some .local \/ (scope.names.lookup y.1 = some .cell /\ ((cellsFrom (s.heap.objs.size + 1) scope.names []).lookup y.1).isSome = true) := λ ⟨n, v⟩ hy => by
   rcases S.par n (List.of_mem_zip hy).1 with q | q
   . exact .inl q
   . exact .inr ⟨q, PySem.W.cellsFrom_some _ _ _ (.inl q)⟩
 refine codeAny_call_function hr.depth (KX _ _ lk) rfl S.co S.gen rfl (PySem.W.codeRec_of KX hcd) (hb _ _ _ _ ?_)
 refine wpAny_newFunctionEnv_cells S.kind hkind λ env he s1 x => ?_
 subst he
 refine ⟨lim.keeps x.toInCall.keep, codeAny_func ?_⟩
 obtain ⟨t, ht, hq⟩ := hbody A outer s H vs Q E (hr.deeper _) hsp
 have I : Inv (cxOf CX P w K mg base N qual scope f cdv A outer s H E) [] (start N vs) H s1 := inv_start S hr.hd e0 hl r x
 refine wpAny_mono (ht [] s1 (start N vs) H _ I hq) (λ fl s' hs => ?_) λ e s' hs => hs
 have fin : ∀ {σ' : St} {H' : Hp} {v : V} {u : Value}, Inv (cxOf CX P w K mg base N qual scope f cdv A outer s H E) [] σ' H' s' -> RelV v u -> Q v H' -> CE outer P w H s Q u s' :=
   λ {σ' H' v u} J rv q => ⟨v, H', J.os, J.bare, J.base, J.hok, rv, q⟩
 cases fl with
 | ret u =>
   obtain ⟨v, σ', H', J, rv, q⟩ := hs
   exact fin J rv q
 | next =>
   obtain ⟨σ', H', J, q⟩ := hs
   exact fin (v := V.non) (u := Value.none) J rfl q
 | brk =>
   obtain ⟨_, _, _, q⟩ := hs
   exact False.elim q
 | cont =>
   obtain ⟨_, _, _, q⟩ := hs
   exact False.elim q
end L2
namespace L2
open PySem PySem.Spec PyProof.Rows
section
variable {X : Cx} {x : Str} {p pos : Pos} {e : Expr} {es : List Expr} {t : TA} {id T : String} {r : List V -> Hp -> VK -> Prop}
def tCB (r : List V -> Hp -> VK -> Prop) (t : TA) : TE := λ σ H Q => t σ H λ vs H1 => r vs H1 Q
theorem pe_callB (hc : CallR X (.builtin id) r) (hg : Gl X x) (hm : X.mg x = none) (hv : bootBuiltins x = some (.builtin id)) (ha : PA X (e :: es) t) (hn : x ≠ "__name__" := by decide) (hdb : (x == ("__debug__" : Str)) = false := by decide)
   (he : starEach (e :: es) X.env = (false, eval e X.env) :: starEach es X.env := by rfl) (hpl : (backTo pos (starEach es X.env)).any (·.1) = false := by rfl) : PE X (.Call (.Name x p) (e :: es) [] pos) (tCB r t) := by
 intro pins s σ H Q I h
 refine wpAny_Call_Name_kw (ld_blt I hg hm hv ?_ hn hdb)
 exact PyProof.Rows.callWith_builtin1 (thn (ha pos pins s σ H _ I h) λ us s1 ⟨vs, H1, I1, r1, q1⟩ => hc pins s1 σ H1 vs us Q I1 r1 q1) he hpl
theorem pe_callTy (hc : CallR X (.type T) r) (hg : Gl X x) (hm : X.mg x = none) (hv : bootBuiltins x = some (.type T)) (ha : PA X (e :: es) t) (hn : x ≠ "__name__" := by decide) (hdb : (x == ("__debug__" : Str)) = false := by decide)
   (he : starEach (e :: es) X.env = (false, eval e X.env) :: starEach es X.env := by rfl) (hpl : (backTo pos (starEach es X.env)).any (·.1) = false := by rfl) : PE X (.Call (.Name x p) (e :: es) [] pos) (tCB r t) := by
 intro pins s σ H Q I h
 refine wpAny_Call_Name_kw (ld_blt I hg hm hv ?_ hn hdb)
 exact PyProof.Rows.callWith_type1 (thn (ha pos pins s σ H _ I h) λ us s1 ⟨vs, H1, I1, r1, q1⟩ => hc pins s1 σ H1 vs us Q I1 r1 q1) he hpl
end
end L2
namespace HT
open PySem PyProof.Rows
section
open PySem.SeqAt
open PySem.AutoSeq1 (wpAny_loadPart')
open PySem.MeetsSeq PySem.MeetsSeq2 PySem.MeetsSeq3
end
section
variable {prog : Program} {w : World} {A : Around} {E : Value -> Shared -> Prop} {s : Shared}
theorem cat_tup {t b : Addr} {vs ws : List Value} {Q : Value -> Shared -> Prop} (ht : IsTup s.heap t vs.toArray) (hb : IsTup s.heap b ws.toArray) (hv : vs ≠ [])
   (h1 : ws = [] -> Q (.ref t) s) (h2 : ws ≠ [] -> Q (.ref s.heap.objs.size) { s with heap := s.heap.push { cls := .type "tuple", data := .seq (vs ++ ws).toArray } })
   (hsz : vs.length + ws.length <= sizeLine) : wpAny (model prog w) A (binaryOp .Add (.ref t) (.ref b)) Q E s := by
 obtain ⟨⟨cls, dd, data, sl⟩, ho, hc, n, hd⟩ := id ht
 obtain ⟨⟨cls2, dd2, data2, sl2⟩, ho2, hc2, n2, hd2⟩ := id hb
 simp only at hc hd hc2 hd2
 subst hc hd hc2 hd2
 have e : vs.toArray ++ ws.toArray = (vs ++ ws).toArray := by simp
 by_cases hw : ws = []
 . exact concat_meets ⟨_, ho, rfl⟩ ⟨_, ho2, rfl⟩ noFill_tuple_add seq_tuple_add PySem.F.slot_tuple_add PySem.F.entry_tuple_add (PySem.F.args_tuple_add_2 _ _)
     (tuple_addW1 t b vs.toArray ws.toArray n n2 dd dd2 sl sl2 (by simpa using hv) (by simp [hw])) ⟨ho, ho2, h1 hw⟩
 . refine concat_meets ⟨_, ho, rfl⟩ ⟨_, ho2, rfl⟩ noFill_tuple_add seq_tuple_add PySem.F.slot_tuple_add PySem.F.entry_tuple_add (PySem.F.args_tuple_add_2 _ _)
     (tuple_addW2 t b vs.toArray ws.toArray n n2 dd dd2 sl sl2 (by simpa using hv) (by simpa using hw) (by rw [List.size_toArray, List.size_toArray]; exact hsz)) ⟨ho, ho2, ?_⟩
   rw [e]
   exact h2 hw
def sIx (n d : Nat) : Option Int -> Nat
 | none => d
 | some v => if v < 0 then (v + (n : Int)).toNat else min v.toNat n
theorem sIx_nat (n d k : Nat) : sIx n d (some (k : Int)) = min k n := by
 show (if (k : Int) < 0 then ((k : Int) + (n : Int)).toNat else min (k : Int).toNat n) = min k n
 rw [if_neg (by omega), Int.toNat_natCast]
theorem sIx_le (n d : Nat) (hd : d <= n) (o : Option Int) : sIx n d o <= n := by
 cases o with
 | none => exact hd
 | some v =>
   show (if v < 0 then (v + (n : Int)).toNat else min v.toNat n) <= n
   by_cases hv : v < 0
   . rw [if_pos hv]; omega
   . rw [if_neg hv]; exact Nat.min_le_right _ _
theorem clip_eq (v : Int) (n d : Nat) : (if v < 0 then max (v + (n : Int)) 0 else min v (n : Int)) = ((sIx n d (some v) : Nat) : Int) := by
 show (if v < 0 then max (v + (n : Int)) 0 else min v (n : Int)) = (((if v < 0 then (v + (n : Int)).toNat else min v.toNat n) : Nat) : Int)
 by_cases hv : v < 0
 . simp only [if_pos hv]; omega
 . simp only [if_neg hv]; omega
theorem adjust_gen (lo hi : Option Int) (n : Nat) : Builtin.Slice.sliceAdjust lo hi 1 (n : Int) = (((sIx n 0 lo : Nat) : Int), ((sIx n n hi : Nat) : Int)) := by
 have h1 : ¬ ((1 : Int) < 0) := by omega
 unfold Builtin.Slice.sliceAdjust
 simp only [h1, if_false]
 refine Prod.ext ?_ ?_
 . cases lo with
   | none => rfl
   | some v => exact clip_eq v n 0
 . cases hi with
   | none => rfl
   | some v => exact clip_eq v n n
theorem places_gen (i j : Nat) : Builtin.Slice.slicePlaces (i : Int) (j : Int) 1 = j - i := by
 unfold Builtin.Slice.slicePlaces
 have h1 : (1 : Int) > 0 := by omega
 simp only [h1, if_true, Int.ediv_one]
 split <;> omega
theorem slicePart_ {v : Value} {o : Option Int} {Q : Option Int -> Shared -> Prop} (p : IsPart v o) (h : Q o s) : wpAny (model prog w) A (Builtin.Slice.slicePartIndex v) Q E s := by
 cases p with
 | none => exact slicePart_none h
 | int i t => exact slicePart_int h
theorem sliceApplied_gen {sl : Addr} {vl vu : Value} {lo hi : Option Int} {n : Nat} {Q : Int × Int × Nat -> Shared -> Prop} (hs : s.heap.IsSliceOf sl vl vu .none) (pl : IsPart vl lo) (pu : IsPart vu hi)
   (h : Q (((sIx n 0 lo : Nat) : Int), 1, sIx n n hi - sIx n 0 lo) s) : wpAny (model prog w) A (Builtin.Slice.sliceApplied (.ref sl) (pure (n : Int))) Q E s := by
 obtain ⟨os, hos, hcs, hds⟩ := id hs
 unfold Builtin.Slice.sliceApplied Builtin.Slice.sliceFields
 refine wpAny_bind (wpAny_bind (wpAny_field hos hds (x := vl) rfl (wpAny_bind (wpAny_field hos hds (x := vu) rfl (wpAny_bind (wpAny_field hos hds (x := .none) rfl (wpAny_pure ?_)))))))
 refine wpAny_bind (slicePart_none ?_)
 show wpAny _ _ (if ((1 : Int) == 0) = true then _ else _) _ _ s
 rw [if_neg (by decide)]
 refine wpAny_bind (slicePart_ pl (wpAny_bind (slicePart_ pu (wpAny_bind (wpAny_pure ?_)))))
 show wpAny _ _ (match Builtin.Slice.sliceAdjust lo hi 1 (n : Int) with | (lo, hi) => pure (lo, (1 : Int), Builtin.Slice.slicePlaces lo hi 1)) _ _ s
 rw [adjust_gen lo hi n]
 show wpAny _ _ (pure (((sIx n 0 lo : Nat) : Int), (1 : Int), Builtin.Slice.slicePlaces ((sIx n 0 lo : Nat) : Int) ((sIx n n hi : Nat) : Int) 1)) _ _ s
 rw [places_gen]
 exact wpAny_pure h
theorem pick_gen (xs : Array Value) (i k : Nat) : ((List.range k).filterMap λ (m : Nat) => xs[((i : Int) + (m : Int) * 1).toNat]?).toArray = ((xs.toList.drop i).take k).toArray := by
 have e : (λ (m : Nat) => xs[((i : Int) + (m : Int) * 1).toNat]?) = λ m => xs[i + m]? := by
   funext m
   have : ((i : Int) + (m : Int) * 1).toNat = i + m := by omega
   rw [this]
 rw [e]
 have := pick_run xs i k
 rw [List.filterMap_map] at this
 have e2 : ((λ x => xs[x]?) ∘ λ x => i + x) = λ m => xs[i + m]? := rfl
 rw [e2] at this
 rw [this]
theorem getItem_tuple_cut {t sl : Addr} {items : Array Value} {vl vu : Value} {lo hi : Option Int} {Q : Value -> Shared -> Prop} (ht : IsTup s.heap t items) (hs : s.heap.IsSliceOf sl vl vu .none) (pl : IsPart vl lo) (pu : IsPart vu hi)
   (hw : ¬ (sIx items.size 0 lo = 0 /\ sIx items.size items.size hi = items.size))
   (h : Q (.ref s.heap.objs.size) { s with heap := s.heap.push { cls := .type "tuple", data := .seq ((items.toList.drop (sIx items.size 0 lo)).take (sIx items.size items.size hi - sIx items.size 0 lo)).toArray } })
   (hsz : items.size <= sizeLine) : wpAny (model prog w) A (getItem (.ref t) (.ref sl)) Q E s := by
 have htake : sizeOk (.seq ((items.toList.drop (sIx items.size 0 lo)).take (sIx items.size items.size hi - sIx items.size 0 lo)).toArray) := by
   show ((items.toList.drop (sIx items.size 0 lo)).take (sIx items.size items.size hi - sIx items.size 0 lo)).toArray.size <= sizeLine
   rw [List.size_toArray, List.length_take, List.length_drop, Array.length_toList]
   omega
 have hj : sIx items.size items.size hi <= items.size := sIx_le _ _ (Nat.le_refl _) hi
 obtain ⟨os, hos, hcs, hds⟩ := id hs
 have hTs : s.TypeIs (.ref sl) "slice" := ⟨os, hos, hcs⟩
 unfold getItem
 try with_reducible refine wpAny_holding ?_
 first | refine wpAny_bind (wpAny_pure ?_) | skip
 refine wpAny_bind (wpAny_sequenceKey ht.typeIs (by decide) ?_)
 refine wpAny_bind (wpAny_callSpecial?_slot (name := Str.ofString "__getitem__") ht.typeIs PyProof.Rows.slot_tuple_getitem
   (wpAny_call_entry PyProof.Rows.slot_tuple_getitem ht.typeIs entry_tuple_getitem ?_ (args_tuple_getitem _ _)))
 show wpAny _ _ (Builtin.Tuple.tupleItemsOf (.ref t) >>= _) _ _ s
 refine wpAny_bind (tupleItemsOf_ ht ?_)
 refine wpAny_bind (wpAny_typeOf hTs ?_)
 rw [if_pos (by decide)]
 refine wpAny_bind (sliceApplied_gen hs pl pu ?_)
 have hno : ¬ ((((sIx items.size 0 lo : Nat) : Int) == 0 && (1 : Int) == 1 && (sIx items.size items.size hi - sIx items.size 0 lo) == items.size) = true) := by
   intro q
   rw [Bool.and_eq_true, Bool.and_eq_true] at q
   have q1 : ((sIx items.size 0 lo : Nat) : Int) = 0 := eq_of_beq q.1.1
   have q2 : sIx items.size items.size hi - sIx items.size 0 lo = items.size := eq_of_beq q.2
   exact hw ⟨by omega, by omega⟩
 show wpAny _ _ (if (((sIx items.size 0 lo : Nat) : Int) == 0 && (1 : Int) == 1 && (sIx items.size items.size hi - sIx items.size 0 lo) == items.size) = true then _ else _) _ _ s
 rw [if_neg hno, pick_gen]
 first
   | exact wpAny_bind (m := Builtin.Tuple.tupleExact _) (wpAny_newObj_type (wpAny_pure ⟨_, rfl, wpAny_pure h⟩) htake)
   | exact wpAny_bind (m := Builtin.Tuple.tupleExact _) (wpAny_newObj_type (wpAny_bind (wpAny_pure (wpAny_pure ⟨_, rfl, wpAny_pure h⟩))) htake)
   | exact wpAny_bind (wpAny_bind (m := Builtin.Tuple.tupleExact _) (wpAny_newObj_type (wpAny_pure (wpAny_pure ⟨_, rfl, wpAny_pure h⟩)) htake))
   | exact wpAny_bind (wpAny_bind (m := Builtin.Tuple.tupleExact _) (wpAny_newObj_type (wpAny_pure ⟨_, rfl, wpAny_pure h⟩) htake))
end
end HT
namespace L2
open PySem PySem.Spec PyProof.Rows
abbrev TO := St -> Hp -> (Option Int -> Hp -> Prop) -> Prop
def PO (X : Cx) (e : Option Expr) (t : TO) : Prop :=
 ∀ (pins : List (Addr × Obj)) (s : Shared) (σ : St) (H : Hp) (Q : Option Int -> Hp -> Prop), Inv X pins σ H s -> t σ H Q ->
   wpAny (model X.prog X.w) X.A (evalPart e X.env) (λ u s' => ∃ o H', Inv X pins σ H' s' /\ IsPart u o /\ Q o H') X.xe s
def tNoPart : TO := λ _ H Q => Q none H
def tPart (t : TE) : TO := λ σ H Q => t σ H λ x H1 => ∃ i, x = .int i /\ Q (some i) H1
section
variable {X : Cx} {e : Expr} {te : TE} {lo hi : Option Expr} {tl th : TO} {pos p2 : Pos}
theorem po_none : PO X none tNoPart := by
 intro pins s σ H Q I h
 rw [evalPart_none]
 exact wpAny_pure ⟨none, H, I, .none, h⟩
theorem po_some (h : PE X e te) : PO X (some e) (tPart te) := by
 intro pins s σ H Q I hw
 rw [evalPart_some]
 refine thn (h pins s σ H _ I hw) λ u s1 ⟨x, H1, I1, r1, q1⟩ => ?_
 obtain ⟨i, rfl, q⟩ := q1
 obtain ⟨t, rfl⟩ := r1
 exact ⟨some i, H1, I1, .int i t, q⟩
def SlR (X : Cx) (r : V -> Option Int -> Option Int -> Hp -> VK -> Prop) : Prop :=
 ∀ (pins : List (Addr × Obj)) (s : Shared) (σ : St) (H : Hp) (x : V) (v vl vu : Value) (lo hi : Option Int) (sl : Addr) (Q : VK), Inv X pins σ H s -> RelV x v -> s.heap.IsSliceOf sl vl vu .none -> IsPart vl lo -> IsPart vu hi -> r x lo hi H Q ->
   ∃ T id, typeLookup (.type T) "__getitem__" = pure (some (.builtin id)) /\ s.TypeIs v T /\ wpAny (model X.prog X.w) X.A (getItem v (.ref sl)) (EP X pins σ Q) X.xe s
theorem SlR.or {r r' : V -> Option Int -> Option Int -> Hp -> VK -> Prop} (h : SlR X r) (h' : SlR X r') : SlR X (λ x lo hi H Q => r x lo hi H Q \/ r' x lo hi H Q) := by
 intro pins s σ H x v vl vu lo hi sl Q I rx hs pl pu q
 rcases q with q | q
 . exact h pins s σ H x v vl vu lo hi sl Q I rx hs pl pu q
 . exact h' pins s σ H x v vl vu lo hi sl Q I rx hs pl pu q
def tSl (r : V -> Option Int -> Option Int -> Hp -> VK -> Prop) (te : TE) (tl th : TO) : TE := λ σ H Q => te σ H λ x H1 => tl σ H1 λ l H2 => th σ H2 λ u H3 => r x l u H3 Q
theorem pe_slice {r : V -> Option Int -> Option Int -> Hp -> VK -> Prop} (hr : SlR X r) (he : PE X e te) (hl : PO X lo tl) (hu : PO X hi th) : PE X (.Subscript e (.Slice lo hi none p2) pos) (tSl r te tl th) := by
 intro pins s σ H Q I h
 refine Subscript_ (thn (he pins s σ H _ I h) λ v s1 ⟨x, H1, I1, r1, q1⟩ => ?_)
 refine wpAny_Slice (thn (hl pins s1 σ H1 _ I1 q1) λ vl s2 ⟨l, H2, I2, pl, q2⟩ => thn (hu pins s2 σ H2 _ I2 q2) λ vu s3 ⟨u, H3, I3, pu, q3⟩ => ?_)
 rw [evalPart_none]
 refine wpAny_pure ?_
 have I4 : Inv X pins σ H3 { s3 with heap := s3.heap.push { cls := .type "slice", data := .fields #[vl, vu, .none] } } := I3.kept (t' := s3.toks) λ b ob q => Heap.get?_push_of_some _ q
 obtain ⟨T, id, hT, ht, hg⟩ := hr pins { s3 with heap := s3.heap.push { cls := .type "slice", data := .fields #[vl, vu, .none] } } σ H3 x v vl vu l u s3.heap.objs.size Q I4 r1 (Heap.IsSliceOf.new ..) pl pu q3
 show wpAny (model X.prog X.w) X.A (subscriptTail e (.Slice lo hi none p2) v (.ref s3.heap.objs.size)) (EP X pins σ Q) X.xe { s3 with heap := s3.heap.push { cls := .type "slice", data := .fields #[vl, vu, .none] } }
 exact tail_any (ops := [.ref s3.heap.objs.size, v]) ht hT hg (by with_unfolding_all rfl)
def cutV (xs : List V) (lo hi : Option Int) : List V := (xs.drop (HT.sIx xs.length 0 lo)).take (HT.sIx xs.length xs.length hi - HT.sIx xs.length 0 lo)
theorem cutV_length (xs : List V) (lo hi : Option Int) : (cutV xs lo hi).length <= xs.length := by
 unfold cutV
 rw [List.length_take, List.length_drop]
 omega
def rSlT (K : W.Frag) : V -> Option Int -> Option Int -> Hp -> VK -> Prop := λ x lo hi H Q => ∃ a xs, x = .ref a /\ SqT K H a xs /\
 ¬ (HT.sIx xs.length 0 lo = 0 /\ HT.sIx xs.length xs.length hi = xs.length) /\ ∀ p, H p = none -> Q (.ref p) (upd H p (.tup (cutV xs lo hi)))
theorem sl_tup : SlR X (rSlT X.K) := by
 intro pins s σ H x v vl vu lo hi sl Q I rx hs pl pu h
 obtain ⟨a, xs, rfl, hx, hw, q⟩ := h
 cases rx
 obtain ⟨its, r, ht, hz⟩ := I.tuple hx
 have hlen : its.toArray.size = xs.length := by rw [List.size_toArray]; exact r.length.symm
 refine ⟨"tuple", _, PyProof.Rows.slot_tuple_getitem.lookup, ht.typeIs, ?_⟩
 refine HT.getItem_tuple_cut ht hs pl pu (by rw [hlen]; exact hw) ?_ (by rw [hlen]; exact hz)
 rw [hlen]
 refine ⟨.ref s.heap.objs.size, _, I.laid (t' := s.toks) (o := .tup (cutV xs lo hi)) (λ b ob q => Heap.get?_push_of_some _ q) (Nat.le_refl _) ?_, rfl, q _ (I.hok.fresh (Nat.le_refl _))⟩
 exact ⟨Nat.le_trans (cutV_length xs lo hi) hz, _, (r.drop (HT.sIx xs.length 0 lo)).take (HT.sIx xs.length xs.length hi - HT.sIx xs.length 0 lo), IsTup.new _ _⟩
def rCatT (K : W.Frag) : R2 := λ x y H Q => ∃ a b xs ys, x = .ref a /\ y = .ref b /\ SqT K H a xs /\ SqT K H b ys /\ xs ≠ [] /\ xs.length + ys.length <= sizeLine /\
 (ys = [] -> Q (.ref a) H) /\ (ys ≠ [] -> ∀ p, H p = none -> Q (.ref p) (upd H p (.tup (xs ++ ys))))
theorem Vals.nil_iff {xs : List V} {us : List Value} (r : Vals xs us) : us = [] <-> xs = [] := by
 cases r with
 | nil => simp
 | cons _ _ => simp
theorem op_catT : OpR X (binaryOp .Add) (rCatT X.K) := by
 intro pins s σ H x y v u Q I rx ry h
 obtain ⟨a, b, xs, ys, rfl, rfl, ha, hb, hx, hz, q1, q2⟩ := h
 cases rx
 cases ry
 obtain ⟨its, r1, p1, _⟩ := I.tuple ha
 obtain ⟨its2, r2, p2, _⟩ := I.tuple hb
 refine HT.cat_tup p1 p2 (λ z => hx (r1.nil_iff.mp z)) (λ z => ⟨.ref a, H, I, rfl, q1 (r2.nil_iff.mp z)⟩) (λ z => ?_) (by rw [<- r1.length, <- r2.length]; exact hz)
 refine ⟨.ref s.heap.objs.size, _, I.laid (t' := s.toks) (o := .tup (xs ++ ys)) (λ b ob q => Heap.get?_push_of_some _ q) (Nat.le_refl _) ?_, rfl, q2 (λ w => z (r2.nil_iff.mpr w)) _ (I.hok.fresh (Nat.le_refl _))⟩
 exact ⟨by rw [List.length_append]; exact hz, _, r1.append r2, IsTup.new _ _⟩
end
end L2
namespace L2
open PySem PySem.Spec PyProof.Rows
def ixN (n : Nat) (i : Int) : Option Nat := if 0 <= i then (if i < n then some i.toNat else none) else if -(n : Int) <= i then some (i + n).toNat else none
def atI {α : Type} (xs : List α) (i : Int) : Option α := (ixN xs.length i).bind λ j => xs[j]?
theorem ixN_seq {n : Nat} {i : Int} {j : Nat} (h : ixN n i = some j) : seqIndex? i n = some j /\ j < n /\ -(n : Int) <= i /\ i < n := by
 unfold ixN at h
 by_cases h0 : 0 <= i
 . rw [if_pos h0] at h
   by_cases h1 : i < n
   . rw [if_pos h1] at h
     have e : i.toNat = j := Option.some.inj h
     exact ⟨by rw [seqIndex_of h0 h1, e], by omega, by omega, h1⟩
   . rw [if_neg h1] at h; cases h
 . rw [if_neg h0] at h
   by_cases h1 : -(n : Int) <= i
   . rw [if_pos h1] at h
     have e : (i + n).toNat = j := Option.some.inj h
     exact ⟨by rw [seqIndex_neg (by omega) h1, e], by omega, h1, by omega⟩
   . rw [if_neg h1] at h; cases h
theorem atI_get {α : Type} {xs : List α} {i : Int} {v : α} (h : atI xs i = some v) : ∃ j, seqIndex? i xs.length = some j /\ xs[j]? = some v /\ j < xs.length /\ -(xs.length : Int) <= i /\ i < xs.length := by
 unfold atI at h
 cases e : ixN xs.length i with
 | none => rw [e] at h; cases h
 | some j =>
   rw [e] at h
   obtain ⟨h1, h2, h3, h4⟩ := ixN_seq e
   exact ⟨j, h1, h, h2, h3, h4⟩
theorem atI_nat {α : Type} {xs : List α} {j : Nat} {v : α} (h : xs[j]? = some v) : atI xs (j : Int) = some v := by
 have hj : j < xs.length := (List.getElem?_eq_some_iff.mp h).1
 have e : ixN xs.length (j : Int) = some j := by
   unfold ixN
   rw [if_pos (by omega), if_pos (by omega)]; simp
 unfold atI; rw [e]; exact h
def PlainIx (b : Expr) : Prop := ∀ o i, subscripted b false o i = operate [o, i] (getItem o i)
def IxR (X : Cx) (r : R2) : Prop :=
 ∀ (value slice : Expr) (pins : List (Addr × Obj)) (s : Shared) (σ : St) (H : Hp) (x y : V) (v u : Value) (Q : VK), Inv X pins σ H s -> RelV x v -> RelV y u -> r x y H Q ->
   subscripted slice false v u = operate [v, u] (getItem v u) -> wpAny (model X.prog X.w) X.A (subscriptTail value slice v u) (EP X pins σ Q) X.xe s
def MtR (X : Cx) (id : String) (r : V -> List V -> Hp -> VK -> Prop) : Prop :=
 ∀ (pins : List (Addr × Obj)) (s : Shared) (σ : St) (H : Hp) (x : V) (xs : List V) (v : Value) (us : List Value) (Q : VK), Inv X pins σ H s -> RelV x v -> Vals xs us -> r x xs H Q ->
   wpAny (model X.prog X.w) X.A (call (.builtin id) (v :: us)) (EP X pins σ Q) X.xe s
section
variable {X : Cx} {a b : Expr} {ta tb : TE} {pos : Pos}
theorem pe_ix {r : R2} (hr : IxR X r) (ha : PE X a ta) (hb : PE X b tb) (hs : PlainIx b) : PE X (.Subscript a b pos) (tOp r ta tb) := by
 intro pins s σ H Q I h
 exact Subscript_ (binT ha hb I h λ v u s2 x y H2 I2 rx ry q => hr a b pins s2 σ H2 x y v u Q I2 rx ry q (hs _ _))
def rIxL (K : W.Frag) : R2 := λ x y H Q => ∃ p xs i v, x = .ref p /\ y = .int i /\ SqL K H p xs /\ atI xs i = some v /\ Q v H
def rIxT (K : W.Frag) : R2 := λ x y H Q => ∃ p xs i v, x = .ref p /\ y = .int i /\ SqT K H p xs /\ atI xs i = some v /\ Q v H
def rIxS : R2 := λ x y H Q => ∃ z i c, x = .str z /\ y = .int i /\ z.length <= sizeLine /\ atI z.cps.toList i = some c /\ Q (.str ⟨#[c]⟩) H
theorem ix_list : IxR X (rIxL X.K) := by
 intro value slice pins s σ H x y v u Q I rx ry h hs
 obtain ⟨p, xs, i, z, rfl, rfl, hq, he, q⟩ := h
 cases rx
 obtain ⟨t, rfl⟩ := ry
 obtain ⟨its, r, pl, hz⟩ := I.list hq
 obtain ⟨j, h1, h2, h3, h4, h5⟩ := atI_get he
 obtain ⟨w, ew, rw'⟩ := r.get h2
 have hl := r.length
 have hn := line63
 have fin : EP X pins σ Q w s := ⟨z, H, I, rw', q⟩
 by_cases h0 : 0 <= i
 . have hj : i.toNat = j := by
     rw [seqIndex_of h0 h5] at h1
     exact Option.some.inj h1
   exact item_listR pl.isList h0 (by omega) (by rw [hj]; simpa using ew) fin hs
 . have hj : (i + (its.toArray.size : Int)).toNat = j := by
     rw [seqIndex_neg (by omega) h4] at h1
     rw [List.size_toArray, <- hl]
     exact Option.some.inj h1
   exact subscriptTail_builtinR (x := w) pl.isList.typeIs slot_list_getitem.lookup
     (wpAny_getItem_list_neg (Q := λ r s' => r = w /\ EP X pins σ Q r s') pl.isList (by omega) (by rw [List.size_toArray] <;> omega) (by omega) (by rw [hj]; simpa using ew) ⟨rfl, fin⟩) hs
theorem ix_tup : IxR X (rIxT X.K) := by
 intro value slice pins s σ H x y v u Q I rx ry h hs
 obtain ⟨p, xs, i, z, rfl, rfl, hq, he, q⟩ := h
 cases rx
 obtain ⟨t, rfl⟩ := ry
 obtain ⟨its, r, pl, hz⟩ := I.tuple hq
 obtain ⟨j, h1, h2, h3, h4, h5⟩ := atI_get he
 obtain ⟨w, ew, rw'⟩ := r.get h2
 have hl := r.length
 have hn := line63
 have fin : EP X pins σ Q w s := ⟨z, H, I, rw', q⟩
 exact subscriptTail_builtinR (x := w) pl.typeIs slot_tuple_getitem.lookup
   (getItem_tuple (j := j) (Q := λ r s' => r = w /\ EP X pins σ Q r s') pl (by omega) (by omega) (by rw [List.size_toArray, <- hl]; exact h1) (by simpa using ew) ⟨rfl, fin⟩) hs
theorem ix_str : IxR X rIxS := by
 intro value slice pins s σ H x y v u Q I rx ry h hs
 obtain ⟨z, i, c, rfl, rfl, hz, he, q⟩ := h
 obtain ⟨t, rfl⟩ := rx
 obtain ⟨t', rfl⟩ := ry
 obtain ⟨j, h1, h2, h3, h4, h5⟩ := atI_get he
 have hl : z.cps.toList.length = z.length := by simp [Str.length]
 rw [hl] at h1 h4 h5
 have hn := line63
 exact tail_any (typeIs_str s z t) slot_str_getitem.lookup (getItem_str (c := c) (by
   have e1 : decide (i < -(2 ^ 63 : Int)) = false := decide_eq_false (by omega)
   have e2 : decide (i >= 2 ^ 63) = false := decide_eq_false (by omega)
   rw [e1, e2, Bool.or_false]) (by rw [h1]; simpa using h2) ⟨.str ⟨#[c]⟩, H, I.tok _, ⟨_, rfl⟩, q⟩) hs
theorem mapSeq_set (its : List Value) (n j : Nat) (u : Value) : Obj.mapSeq (·.setIfInBounds j u) { cls := .type "list", data := .seq its.toArray n } = { cls := .type "list", data := .seq (its.set j u).toArray n } := by
 simp [Obj.mapSeq]
theorem Inv.lst {pins : List (Addr × Obj)} {σ : St} {H : Hp} {s : Shared} {p : Addr} {xs : List V} (I : Inv X pins σ H s) (h : H p = some (.lst xs)) :
   ∃ (its : List Value) (n : Nat), Vals xs its /\ s.heap.get? p = some { cls := .type "list", data := .seq its.toArray n } /\ xs.length <= sizeLine := by
 obtain ⟨z, its, n, r, e⟩ := I.hok p _ h
 exact ⟨its, n, r, e, z⟩
theorem Inv.lstUpd {pins : List (Addr × Obj)} {σ : St} {H : Hp} {s : Shared} {p : Addr} {xs ys : List V} {its its' : List Value} {n n' : Nat} {f : Obj -> Obj} (I : Inv X pins σ H s) (h : H p = some (.lst xs))
   (ho : s.heap.get? p = some { cls := .type "list", data := .seq its.toArray n }) (hf : f { cls := .type "list", data := .seq its.toArray n } = { cls := .type "list", data := .seq its'.toArray n' }) (r : Vals ys its') (hz : ys.length <= sizeLine) (t : Nat) :
   Inv X pins σ (upd H p (.lst ys)) { s with heap := s.heap.update p f, toks := t } := by
 have e : (s.heap.update p f).get? p = some { cls := .type "list", data := .seq its'.toArray n' } := by
   rw [Heap.get?_update_self f ho (by rw [hf] <;> rfl), hf]
 refine I.write (x := p) (e := p) (by rw [h]; trivial) (.inl rfl) (λ b u hb q => (Heap.get?_update_other _ _ (Ne.symm hb)).trans q) ⟨_, e⟩ ?_
 exact ⟨hz, its', n', r, e⟩
def rSetL : V -> V -> V -> Hp -> (Hp -> Prop) -> Prop := λ o i v H Q => ∃ p xs k j, o = .ref p /\ i = .int k /\ H p = some (.lst xs) /\ ixN xs.length k = some j /\ Q (upd H p (.lst (xs.set j v)))
theorem set_list : PSet X rSetL := by
 intro pins s σ H o i v ov iv u Q I ro ri rv h
 obtain ⟨p, xs, k, j, rfl, rfl, hp, hj, q⟩ := h
 cases ro
 obtain ⟨t, rfl⟩ := ri
 obtain ⟨its, n, r, ho, hz⟩ := I.lst hp
 obtain ⟨h1, h2, h3, h4⟩ := ixN_seq hj
 have hl := r.length
 have hn := line63
 have I' : Inv X pins σ (upd H p (.lst (xs.set j v))) { s with heap := s.heap.update p (Obj.mapSeq (·.setIfInBounds j u)) } :=
   I.lstUpd hp ho (mapSeq_set its n j u) (r.set rv j) (by rw [List.length_set]; exact hz) s.toks
 by_cases h0 : 0 <= k
 . have hk : k.toNat = j := by
     rw [seqIndex_of h0 h4] at h1
     exact Option.some.inj h1
   exact PySem.W.ki_setAt ho h0 (by omega) (by rw [List.size_toArray, <- hl]; exact h4) (by rw [hk]; exact ⟨_, I', q⟩)
 . have hk : (k + (its.toArray.size : Int)).toNat = j := by
     rw [seqIndex_neg (by omega) h3] at h1
     rw [List.size_toArray, <- hl]
     exact Option.some.inj h1
   exact PySem.W.ki_setBack ho (by omega) (by rw [List.size_toArray, <- hl]; exact h3) (by omega) (by rw [hk]; exact ⟨_, I', q⟩)
theorem slice_bounds (lo hi : Option Int) (n : Nat) : (sliceBounds lo hi none n).1 = ((HT.sIx n 0 lo : Nat) : Int) /\ (sliceBounds lo hi none n).2.1 = ((HT.sIx n n hi : Nat) : Int) /\ (sliceBounds lo hi none n).2.2 = 1 := by
 refine ⟨?_, ?_, rfl⟩
 . cases lo with
   | none => simp [sliceBounds, HT.sIx]
   | some i =>
     simp only [sliceBounds, HT.sIx, Option.getD_none, show (1 : Int) > 0 by decide, if_true]
     by_cases h : i < 0
     . simp only [h, if_true] <;> omega
     . simp only [h, if_false] <;> omega
 . cases hi with
   | none => simp [sliceBounds, HT.sIx]
   | some i =>
     simp only [sliceBounds, HT.sIx, Option.getD_none, show (1 : Int) > 0 by decide, if_true]
     by_cases h : i < 0
     . simp only [h, if_true] <;> omega
     . simp only [h, if_false] <;> omega
theorem slicePick_cut (its : List Value) (lo hi : Option Int) : slicePick its.toArray lo hi none = ((its.drop (HT.sIx its.length 0 lo)).take (HT.sIx its.length its.length hi - HT.sIx its.length 0 lo)).toArray := by
 obtain ⟨h1, h2, h3⟩ := slice_bounds lo hi its.toArray.size
 unfold slicePick
 rw [h1, h2, h3]
 simp only [sliceRange_one, pick_run, List.size_toArray] <;> rfl
def rSlL (K : W.Frag) : V -> Option Int -> Option Int -> Hp -> VK -> Prop := λ x lo hi H Q => ∃ a xs, x = .ref a /\ SqL K H a xs /\ ∀ p, H p = none -> Q (.ref p) (upd H p (.lst (cutV xs lo hi)))
theorem sl_list : SlR X (rSlL X.K) := by
 intro pins s σ H x v vl vu lo hi sl Q I rx hs pl pu h
 obtain ⟨a, xs, rfl, hx, q⟩ := h
 cases rx
 obtain ⟨its, r, ht, hz⟩ := I.list hx
 have hlen := r.length
 refine ⟨"list", _, slot_list_getitem.lookup, ht.isList.typeIs, ?_⟩
 refine wpAny_getItem_list_slice ht.isList hs pl pu .none (by simp) ?_ (by rw [List.size_toArray] <;> omega)
 rw [slicePick_cut, <- hlen]
 refine ⟨.ref s.heap.objs.size, _, I.laid (t' := s.toks) (o := .lst (cutV xs lo hi)) (λ b ob q => Heap.get?_push_of_some _ q) (Nat.le_refl _) ?_, rfl, q _ (I.hok.fresh (Nat.le_refl _))⟩
 exact ⟨Nat.le_trans (cutV_length xs lo hi) hz, _, 0, (r.drop (HT.sIx xs.length 0 lo)).take (HT.sIx xs.length xs.length hi - HT.sIx xs.length 0 lo), Heap.get?_push_size _ rfl⟩
def flatV : V -> Bool
 | .non => true
 | .bl _ => true
 | .int _ => true
 | .str _ => true
 | _ => false
def eqV : V -> V -> Bool
 | .non, .non => true
 | .bl a, .bl b => a == b
 | .bl a, .int b => (if a then 1 else 0) == b
 | .int a, .bl b => a == (if b then 1 else 0)
 | .int a, .int b => a == b
 | .str a, .str b => a == b
 | _, _ => false
theorem eqAt_V {A : Around} {s : Shared} {y x : V} {u v : Value} (ry : RelV y u) (rx : RelV x v) (fy : flatV y = true) (fx : flatV x = true) : SeqAt.EqAt A s u v (eqV y x) := by
 cases y with
 | non =>
   cases ry
   cases x with
   | non => cases rx; exact SeqAt.EqAt.same _
   | bl b => cases rx; exact SeqAt.EqAt.none_bool b
   | int b => obtain ⟨t, rfl⟩ := rx; exact SeqAt.EqAt.none_int b t
   | str b => obtain ⟨t, rfl⟩ := rx; exact SeqAt.EqAt.none_str b t
   | _ => exact absurd (show false = true from fx) Bool.false_ne_true
 | bl a =>
   cases ry
   cases x with
   | non => cases rx; exact SeqAt.EqAt.bool_none a
   | bl b => cases rx; exact SeqAt.EqAt.bool_bool a b
   | int b => obtain ⟨t, rfl⟩ := rx; exact SeqAt.EqAt.bool_int a b t
   | str b => obtain ⟨t, rfl⟩ := rx; exact SeqAt.EqAt.bool_str a b t
   | _ => exact absurd (show false = true from fx) Bool.false_ne_true
 | int a =>
   obtain ⟨t', rfl⟩ := ry
   cases x with
   | non => cases rx; exact SeqAt.EqAt.int_none a t'
   | bl b => cases rx; exact SeqAt.EqAt.int_bool a t' b
   | int b => obtain ⟨t, rfl⟩ := rx; exact SeqAt.EqAt.int_int a t' b t
   | str b => obtain ⟨t, rfl⟩ := rx; exact SeqAt.EqAt.int_str a t' b t
   | _ => exact absurd (show false = true from fx) Bool.false_ne_true
 | str a =>
   obtain ⟨t', rfl⟩ := ry
   cases x with
   | non => cases rx; exact SeqAt.EqAt.str_none a t'
   | bl b => cases rx; exact SeqAt.EqAt.str_bool a t' b
   | int b => obtain ⟨t, rfl⟩ := rx; exact SeqAt.EqAt.str_int a t' b t
   | str b => obtain ⟨t, rfl⟩ := rx; exact SeqAt.EqAt.str_str a t' b t
   | _ => exact absurd (show false = true from fx) Bool.false_ne_true
 | _ => exact absurd (show false = true from fy) Bool.false_ne_true
def eqU (x : V) (u : Value) : Bool := match u with
 | .none => eqV .non x
 | .bool b => eqV (.bl b) x
 | .int i _ => eqV (.int i) x
 | .str z _ => eqV (.str z) x
 | _ => false
theorem eqU_of {x y : V} {u : Value} (r : RelV y u) (f : flatV y = true) : eqU x u = eqV y x := by
 cases y with
 | non => cases r; rfl
 | bl b => cases r; rfl
 | int i => obtain ⟨t, rfl⟩ := r; rfl
 | str z => obtain ⟨t, rfl⟩ := r; rfl
 | _ => exact absurd (show false = true from f) Bool.false_ne_true
theorem any_eqU {x : V} : ∀ {xs : List V} {us : List Value}, Vals xs us -> xs.all flatV = true -> us.any (eqU x) = xs.any λ y => eqV y x
 | _, _, .nil, _ => rfl
 | y :: xs, u :: us, .cons r t, f => by
   rw [List.all_cons, Bool.and_eq_true] at f
   rw [List.any_cons, List.any_cons, eqU_of r f.1, any_eqU t f.2]
theorem mem_eqAt {A : Around} {s : Shared} {x : V} {v : Value} (rx : RelV x v) (fx : flatV x = true) : ∀ {xs : List V} {us : List Value}, Vals xs us -> xs.all flatV = true -> ∀ u ∈ us, SeqAt.EqAt A s u v (eqU x u)
 | _, _, .nil, _ => λ u hu => by cases hu
 | y :: xs, u :: us, .cons r t, f => λ u' hu => by
   rw [List.all_cons, Bool.and_eq_true] at f
   rcases List.mem_cons.mp hu with rfl | hu
   . rw [eqU_of r f.1]; exact eqAt_V r rx f.1 fx
   . exact mem_eqAt rx fx t f.2 u' hu
def inV (x : V) (xs : List V) : Bool := xs.any λ y => eqV y x
def rIn (K : W.Frag) (neg : Bool) : R2 := λ x y H Q => ∃ p xs, y = .ref p /\ (SqL K H p xs \/ SqT K H p xs) /\ flatV x = true /\ xs.all flatV = true /\ Q (.bl (if neg then !inV x xs else inV x xs)) H
theorem op_in_seq : OpR X (compareOp .In) (rIn X.K false) := by
 intro pins s σ H x y v u Q I rx ry h
 obtain ⟨p, xs, rfl, hq, fx, fs, q⟩ := h
 cases ry
 rcases hq with hq | hq
 . obtain ⟨its, r, pl, hz⟩ := I.list hq
   refine SeqAt.in_listAt (eqU x) pl.isList (λ w hw => mem_eqAt rx fx r fs w (by simpa using hw)) ⟨.bl _, H, I, rfl, ?_⟩
   rw [show its.toArray.any (eqU x) = its.any (eqU x) by simp, any_eqU r fs]
   exact q
 . obtain ⟨its, r, pl, hz⟩ := I.tuple hq
   refine SeqAt.in_tupleAt (eqU x) pl (λ w hw => mem_eqAt rx fx r fs w (by simpa using hw)) ⟨.bl _, H, I, rfl, ?_⟩
   rw [show its.toArray.any (eqU x) = its.any (eqU x) by simp, any_eqU r fs]
   exact q
theorem call_len_seq : CallR X (.builtin "len") (λ xs H Q => ∃ p ys, xs = [.ref p] /\ (SqL X.K H p ys \/ SqT X.K H p ys) /\ Q (.int ys.length) H) := by
 intro pins s σ H xs us Q I r h
 obtain ⟨p, ys, rfl, hq, q⟩ := h
 obtain ⟨u, rfl, rx⟩ := vals1 r
 cases rx
 have hn := line63
 rcases hq with hq | hq
 . obtain ⟨its, r', pl, hz⟩ := I.list hq
   have hlen := r'.length
   exact Calls.call_len_list pl.isList (by simp only [List.size_toArray] <;> omega) ⟨.int ys.length, H, I.tok _, ⟨s.toks + 1, by rw [List.size_toArray, hlen]⟩, q⟩
 . obtain ⟨its, r', pl, hz⟩ := I.tuple hq
   have hlen := r'.length
   exact len_tuple pl (by simp only [List.size_toArray] <;> omega) ⟨.int ys.length, H, I.tok _, ⟨s.toks + 1, by rw [List.size_toArray, hlen]⟩, q⟩
theorem call_list_of : CallR X (.type "list") (λ xs H Q => ∃ p ys, xs = [.ref p] /\ (SqL X.K H p ys \/ SqT X.K H p ys) /\ ∀ l, H l = none -> Q (.ref l) (upd H l (.lst ys))) := by
 intro pins s σ H xs us Q I r h
 obtain ⟨p, ys, rfl, hq, q⟩ := h
 obtain ⟨u, rfl, rx⟩ := vals1 r
 cases rx
 have fin : ∀ (its : List Value), Vals ys its -> ys.length <= sizeLine -> ∀ (h' : Heap) (c' : Nat), (∀ b o', s.heap.get? b = some o' -> h'.get? b = some o') ->
     h'.get? s.heap.objs.size = some { cls := .type "list", dict := none, data := .seq its.toArray c', slots := #[] } -> EP X pins σ Q (.ref s.heap.objs.size) { s with heap := h' } := λ its r' hz h' c' kp e =>
   ⟨.ref s.heap.objs.size, _, I.laid (t' := s.toks) kp (Nat.le_refl _) (show ObjOk X.prog X.w _ h' _ (.lst ys) from ⟨hz, its, c', r', e⟩), rfl, q _ (I.hok.fresh (Nat.le_refl _))⟩
 rcases hq with hq | hq
 . obtain ⟨its, r', pl, hz⟩ := I.list hq
   have hlen := r'.length
   obtain ⟨o, ho, hc, n, hd⟩ := pl.isList
   exact call_list_seq p (.inl rfl) ho hc hd (λ h' c' kp e => fin its r' hz h' c' kp e) (by simp only [List.size_toArray] <;> omega)
 . obtain ⟨its, r', pl, hz⟩ := I.tuple hq
   have hlen := r'.length
   obtain ⟨o, ho, hc, n, hd⟩ := pl
   exact call_list_seq p (.inr rfl) ho hc hd (λ h' c' kp e => fin its r' hz h' c' kp e) (by simp only [List.size_toArray] <;> omega)
theorem call_tuple_of : CallR X (.type "tuple") (λ xs H Q => ∃ p ys, xs = [.ref p] /\ ((SqL X.K H p ys /\ ∀ l, H l = none -> Q (.ref l) (upd H l (.tup ys))) \/ (SqT X.K H p ys /\ Q (.ref p) H))) := by
 intro pins s σ H xs us Q I r h
 obtain ⟨p, ys, rfl, h⟩ := h
 obtain ⟨u, rfl, rx⟩ := vals1 r
 cases rx
 rcases h with ⟨hq, q⟩ | ⟨hq, q⟩
 . obtain ⟨its, r', pl, hz⟩ := I.list hq
   have hlen := r'.length
   refine call_tuple_list pl.isList (λ h' kp => ?_) (by simp only [List.size_toArray] <;> omega)
   have I1 : Inv X pins σ H { s with heap := h' } := I.kept (t' := s.toks) kp
   have I2 : Inv X pins σ (upd H h'.objs.size (.tup ys)) { s with heap := h'.push { cls := .type "tuple", data := .seq its.toArray } } :=
     I1.laid (t' := s.toks) (λ b o e => Heap.get?_push_of_some _ e) (Nat.le_refl _) (show ObjOk X.prog X.w _ _ _ (.tup ys) from ⟨hz, its, r', IsTup.new _ _⟩)
   exact ⟨.ref h'.objs.size, _, I2, rfl, q _ (I1.hok.fresh (Nat.le_refl _))⟩
 . obtain ⟨its, r', pl, hz⟩ := I.tuple hq
   exact call_tuple_same pl ⟨.ref p, H, I, rfl, q⟩
def tyV (K : W.Frag) (T : String) (x : V) (H : Hp) : Prop := match x with
 | .str _ => T = "str"
 | .int _ => T = "int"
 | .ref p => (T = "list" /\ ∃ xs, SqL K H p xs) \/ (T = "tuple" /\ ∃ o, K.lookup p = some o /\ o.cls = .type "tuple" /\ o.dict = none) \/
     (T = "dict" /\ ((∃ kvs, H p = some (.dK kvs)) \/ ∃ kvs, H p = some (.dT kvs))) \/ (T = "set" /\ ∃ S n, H p = some (.set S n))
 | _ => False
theorem tyV_is {pins : List (Addr × Obj)} {σ : St} {H : Hp} {s : Shared} {T : String} {x : V} {v : Value} (I : Inv X pins σ H s) (r : RelV x v) (ty : tyV X.K T x H) :
   s.TypeIs v T /\ ∀ a, v = .ref a -> ∃ ob, s.heap.get? a = some ob /\ ob.dict = none := by
 cases x with
 | str z =>
   obtain ⟨t, rfl⟩ := r
   cases (show T = "str" from ty)
   exact ⟨typeIs_str s z t, λ _ e => nomatch e⟩
 | int i =>
   obtain ⟨t, rfl⟩ := r
   cases (show T = "int" from ty)
   exact ⟨typeIs_int s i t, λ _ e => nomatch e⟩
 | ref p =>
   cases r
   rcases ty with ⟨rfl, xs, hq⟩ | ⟨rfl, o, hk, hc, hd⟩ | ⟨rfl, hk⟩ | ⟨rfl, S, n, hk⟩
   . obtain ⟨its, _, pl, _⟩ := I.list hq
     refine ⟨pl.isList.typeIs, λ a e => ?_⟩
     cases e
     obtain ⟨o, n, e, c, hd, _⟩ := pl
     exact ⟨o, e, hd⟩
   . refine ⟨⟨o, I.kIn p o hk, hc⟩, λ a e => ?_⟩
     cases e
     exact ⟨o, I.kIn _ o hk, hd⟩
   . have z : ∃ o, s.heap.get? p = some o /\ o.ExactDict := by
       rcases hk with ⟨kvs, hk⟩ | ⟨kvs, hk⟩
       . obtain ⟨_, _, _, _, o, _, _, e, ex, _⟩ := I.hok p _ hk
         exact ⟨o, e, ex⟩
       . obtain ⟨_, _, _, _, o, _, _, e, ex, _⟩ := I.hok p _ hk
         exact ⟨o, e, ex⟩
     obtain ⟨o, e, ex⟩ := z
     refine ⟨⟨o, e, ex.1⟩, λ a e2 => ?_⟩
     cases e2
     exact ⟨o, e, ex.2.1⟩
   . obtain ⟨o, _, _, _, e, ex, _⟩ := I.hok p _ hk
     refine ⟨⟨o, e, ex.1⟩, λ a e2 => ?_⟩
     cases e2
     exact ⟨o, e, ex.2.1⟩
 | _ => exact False.elim ty
def tBM0 (K : W.Frag) (T : String) (r : V -> List V -> Hp -> VK -> Prop) (to : TE) : TE := λ σ H Q => to σ H λ x H1 => tyV K T x H1 /\ r x [] H1 Q
def tBM (K : W.Frag) (T : String) (r : V -> List V -> Hp -> VK -> Prop) (to : TE) (t : TA) : TE := λ σ H Q => to σ H λ x H1 => tyV K T x H1 /\ t σ H1 λ xs H2 => r x xs H2 Q
variable {o e : Expr} {es : List Expr} {to : TE} {t : TA} {name : Str} {apos cpos : Pos} {T id : String} {r : V -> List V -> Hp -> VK -> Prop}
theorem pe_bm0 (pa : PlainAttrs T) (slot : Slot T name id) (hty : typeOf (.builtin id) = pure (.type "method_descriptor")) (hm : MtR X id r) (ho : PE X o to)
   (hbase : attributeBase o name X.env (eval o X.env) = eval o X.env := by rfl) (hline : (apos.endLine == cpos.line) = true := by rfl) : PE X (.Call (.Attribute o name apos) [] [] cpos) (tBM0 X.K T r to) := by
 intro pins s σ H Q I h
 refine wpAny_Call_method0_late hbase hline (thn (ho pins s σ H _ I h) λ v s1 ⟨x, H1, I1, r1, ty, q1⟩ => ?_)
 obtain ⟨h1, h2⟩ := tyV_is I1 r1 ty
 exact ⟨T, id, pa, slot, hty, h1, h2, Calls.callWith_builtin rfl (PySem.evalArgs_none (hm pins s1 σ H1 x [] v [] Q I1 r1 .nil q1))⟩
theorem pe_bm (pa : PlainAttrs T) (slot : Slot T name id) (hty : typeOf (.builtin id) = pure (.type "method_descriptor")) (hm : MtR X id r) (ho : PE X o to) (ha : PA X (e :: es) t)
   (hbase : attributeBase o name X.env (eval o X.env) = eval o X.env := by rfl)
   (hfew : ((backTo cpos (starEach (e :: es) X.env)).all (λ x => !x.1) && (backToKw cpos (keywordEach [] X.env)).all (λ x => x.1.isSome)
     && decide ((e :: es).length + ([] : List Keyword).length + (if ([] : List Keyword).isEmpty then 0 else 1) < 30)) = true := by rfl)
   (hline : (apos.endLine == cpos.line) = true := by rfl) (hs : starEach (e :: es) X.env = (false, eval e X.env) :: starEach es X.env := by rfl) (hplain : (backTo cpos (starEach es X.env)).any (·.1) = false := by rfl) :
   PE X (.Call (.Attribute o name apos) (e :: es) [] cpos) (tBM X.K T r to t) := by
 intro pins s σ H Q I h
 refine wpAny_Call_method_late hbase hfew hline rfl (thn (ho pins s σ H _ I h) λ v s1 ⟨x, H1, I1, r1, ty, q1⟩ => ?_)
 obtain ⟨h1, h2⟩ := tyV_is I1 r1 ty
 refine ⟨T, id, pa, slot, hty, h1, h2, ?_⟩
 have hA := ha cpos pins s1 σ H1 _ I1 q1
 rw [hs] at hA ⊢
 refine Calls.callWith_builtin (by show (false || (backTo cpos (starEach es X.env)).any (·.1)) = false; rw [hplain] <;> rfl) (Calls.evalArgs_plain ?_)
 exact thn hA λ us s2 ⟨vs, H2, I2, r2, q2⟩ => hm pins s2 σ H2 x vs v us Q I2 r1 r2 q2
end
end L2
namespace L2
open PySem PySem.Spec PyProof.Rows
def MtM (X : Cx) (id : String) (r : V -> List V -> Hp -> VK -> Prop) : Prop :=
 ∀ (pins : List (Addr × Obj)) (s : Shared) (σ : St) (H : Hp) (x : V) (xs : List V) (v : Value) (us : List Value) (Q : VK), Inv X pins σ H s -> RelV x v -> Vals xs us -> r x xs H Q ->
   wpAny (model X.prog X.w) X.A (call (.builtin id) (v :: us)) (EP X pins σ Q) X.xe s
theorem Vals.one : ∀ {x : V} {us : List Value}, Vals [x] us -> ∃ u, us = [u] /\ RelV x u
 | _, _, .cons r .nil => ⟨_, rfl, r⟩
theorem Vals.zero : ∀ {us : List Value}, Vals [] us -> us = []
 | _, .nil => rfl
theorem Vals.dropLast {xs : List V} {us : List Value} (h : Vals xs us) : Vals xs.dropLast us.dropLast := by
 induction h with
 | nil => exact .nil
 | cons r t ih =>
   cases t with
   | nil => exact .nil
   | cons q t' => exact .cons r ih
theorem Vals.rep {xs : List V} {us : List Value} (h : Vals xs us) : ∀ k : Nat, Vals (List.replicate k xs).flatten (List.replicate k us).flatten
 | 0 => .nil
 | k + 1 => by
   rw [List.replicate_succ, List.replicate_succ, List.flatten_cons, List.flatten_cons]
   exact Vals.append h (Vals.rep h k)
theorem erase_last {α : Type} (l : List α) : l.eraseIdx (l.length - 1) = l.dropLast := by
 induction l with
 | nil => rfl
 | cons a r ih =>
   cases r with
   | nil => rfl
   | cons b r =>
     have e : (a :: b :: r).length - 1 = ((b :: r).length - 1) + 1 := by
       have h1 : (a :: b :: r).length = r.length + 2 := rfl
       have h2 : (b :: r).length = r.length + 1 := rfl
       omega
     rw [e, List.eraseIdx_cons_succ, ih]
     all_goals rfl
theorem foldl_rep (its : List Value) : ∀ (k : Nat) (acc : List Value),
   List.foldl (λ x1 x2 => x1 ++ x2) acc.toArray (List.replicate k its.toArray) = (acc ++ (List.replicate k its).flatten).toArray
 | 0, acc => by simp
 | k + 1, acc => by
   have e : acc.toArray ++ its.toArray = (acc ++ its).toArray := by simp
   have e2 : (acc ++ its) ++ (List.replicate k its).flatten = acc ++ (List.replicate (k + 1) its).flatten := by
     rw [List.replicate_succ, List.flatten_cons, List.append_assoc]
   rw [<- e2, <- foldl_rep its k (acc ++ its), <- e, List.replicate_succ, List.foldl_cons]
section
variable {X : Cx} {pins : List (Addr × Obj)} {σ : St} {H : Hp} {s : Shared} {l b : Addr} {xs ys zs : List V}
theorem Inv.lset {its its' : List Value} {n : Nat} {f : Array Value -> Array Value} {t' : Nat} (I : Inv X pins σ H s) (hH : H l = some (.lst xs))
   (e : s.heap.get? l = some { cls := .type "list", data := .seq its.toArray n }) (hf : f its.toArray = its'.toArray) (hv : Vals ys its') (hz : ys.length <= sizeLine) :
   Inv X pins σ (upd H l (.lst ys)) { s with heap := s.heap.update l (Obj.mapSeq f), toks := t' } := by
 have q := PySem.IsL.update e f
 rw [hf] at q
 refine I.write (x := l) (e := l) (by rw [hH]; exact trivial) (.inl rfl) (λ b' u hb hu => (Heap.get?_update_other s.heap (Obj.mapSeq f) (Ne.symm hb)).trans hu) ⟨_, q⟩ ?_
 exact ⟨hz, its', _, hv, q⟩
theorem Inv.lnew {its : List Value} {t' : Nat} (I : Inv X pins σ H s) (hv : Vals ys its) (hz : ys.length <= sizeLine) :
   Inv X pins σ (upd H s.heap.objs.size (.lst ys)) { s with heap := s.heap.push { cls := .type "list", data := .seq its.toArray }, toks := t' } :=
 I.laid (λ _ _ q => Heap.get?_push_of_some _ q) (Nat.le_refl _) ⟨hz, its, 0, hv, Heap.get?_push_size _ rfl⟩
theorem Inv.fresh (I : Inv X pins σ H s) : H s.heap.objs.size = none := I.hok.fresh (Nat.le_refl _)
theorem Inv.lstM (I : Inv X pins σ H s) (hH : H l = some (.lst xs)) : xs.length <= sizeLine /\ ∃ (its : List Value) (n : Nat), Vals xs its /\ xs.length = its.length /\ s.heap.get? l = some { cls := .type "list", data := .seq its.toArray n } := by
 obtain ⟨z, its, n, r, e⟩ := I.hok l _ hH
 exact ⟨z, its, n, r, r.length, e⟩
theorem notLongL {n : Nat} (h : n <= sizeLine) : Builtin.List.listTooLong n = false := by
 unfold Builtin.List.listTooLong
 exact decide_eq_false (by omega)
end
section
variable {X : Cx}
def rAppend : V -> List V -> Hp -> VK -> Prop := λ x vs H Q => ∃ l xs y, x = .ref l /\ vs = [y] /\ H l = some (.lst xs) /\ xs.length < sizeLine /\ Q .non (upd H l (.lst (xs ++ [y])))
theorem mt_append : MtM X "list.append" rAppend := by
 intro pins s σ H x vs v us Q I rx rv h
 obtain ⟨l, xs, y, rfl, rfl, hH, hz, q⟩ := h
 cases rx
 obtain ⟨u, rfl, ru⟩ := rv.one
 obtain ⟨z, its, n, r, hl, e⟩ := I.lstM hH
 refine call_meets F.slot_list_append ⟨_, e, rfl⟩ F.entry_list_append (F.args_list_append_2 _ _) (PySem.list_append l its.toArray n u (by rw [List.size_toArray]; omega)) ⟨e, ?_⟩
 refine ⟨.non, _, I.lset (its' := its ++ [u]) hH e (by simp) (r.append (.cons ru .nil)) ?_, rfl, q⟩
 rw [List.length_append, List.length_singleton]
 omega
def rExtend : V -> List V -> Hp -> VK -> Prop := λ x vs H Q => ∃ l b xs zs, x = .ref l /\ vs = [.ref b] /\ H l = some (.lst xs) /\ H b = some (.lst zs) /\ xs.length + zs.length <= sizeLine /\ Q .non (upd H l (.lst (xs ++ zs)))
theorem mt_extend : MtM X "list.extend" rExtend := by
 intro pins s σ H x vs v us Q I rx rv h
 obtain ⟨l, b, xs, zs, rfl, rfl, hH, hB, hz, q⟩ := h
 cases rx
 obtain ⟨u, rfl, ru⟩ := rv.one
 cases ru
 obtain ⟨z, its, n, r, hl, e⟩ := I.lstM hH
 obtain ⟨z2, its2, n2, r2, hl2, e2⟩ := I.lstM hB
 have hsz : its.toArray.size + its2.toArray.size <= sizeLine := by rw [List.size_toArray, List.size_toArray]; omega
 have hlong : ¬ (!its.toArray.isEmpty && Builtin.List.listTooLong (its.toArray.size + its2.toArray.size)) = true := by
   rw [notLongL hsz, Bool.and_false]
   exact Bool.false_ne_true
 refine call_meets F.slot_list_extend ⟨_, e, rfl⟩ F.entry_list_extend (F.args_list_extend_2 _ _)
   (AutoSeq1.list_extend_list_list_0 l its.toArray n b its2.toArray n2 hlong (by rw [List.size_toArray]; omega) (by omega)) ⟨e, e2, ?_⟩
 refine ⟨.non, _, I.lset (its' := its ++ its2) hH e (by simp) (r.append r2) ?_, rfl, q⟩
 rw [List.length_append]
 omega
def rPop : V -> List V -> Hp -> VK -> Prop := λ x vs H Q => ∃ l xs y, x = .ref l /\ vs = [] /\ H l = some (.lst xs) /\ xs[xs.length - 1]? = some y /\ Q y (upd H l (.lst xs.dropLast))
theorem mt_pop : MtM X "list.pop" rPop := by
 intro pins s σ H x vs v us Q I rx rv h
 obtain ⟨l, xs, y, rfl, rfl, hH, hy, q⟩ := h
 cases rx
 have hus := rv.zero
 subst hus
 obtain ⟨z, its, n, r, hl, e⟩ := I.lstM hH
 obtain ⟨u, hu, ru⟩ := r.get hy
 have hy' : its.toArray[its.toArray.size - 1]? = some u := by
   show its.toArray[its.length - 1]? = some u
   rw [<- Array.getElem?_toList, <- hl]
   exact hu
 refine call_meets F.slot_list_pop ⟨_, e, rfl⟩ F.entry_list_pop (F.args_list_pop_1 _) (MeetsSeq.list_pop_last l its.toArray n u hy' (by rw [List.size_toArray]; omega)) ⟨e, ?_⟩
 refine ⟨y, _, I.lset (its' := its.dropLast) hH e ?_ r.dropLast ?_, ru, q⟩
 . show its.toArray.eraseIdxIfInBounds (its.toArray.size - 1) = its.dropLast.toArray
   rw [List.size_toArray, List.eraseIdxIfInBounds_toArray, erase_last]
 . rw [List.length_dropLast]
   omega
def rClear : V -> List V -> Hp -> VK -> Prop := λ x vs H Q => ∃ l xs, x = .ref l /\ vs = [] /\ H l = some (.lst xs) /\ Q .non (upd H l (.lst []))
theorem mt_clear : MtM X "list.clear" rClear := by
 intro pins s σ H x vs v us Q I rx rv h
 obtain ⟨l, xs, rfl, rfl, hH, q⟩ := h
 cases rx
 have hus := rv.zero
 subst hus
 obtain ⟨z, its, n, r, hl, e⟩ := I.lstM hH
 refine call_meets F.slot_list_clear ⟨_, e, rfl⟩ F.entry_list_clear (F.args_list_clear_1 _) (AutoSeq1.list_clear_list_0 l its.toArray n (by rw [List.size_toArray]; omega)) ⟨e, ?_⟩
 exact ⟨.non, _, I.lset (its' := []) (ys := []) hH e rfl .nil (Nat.zero_le _), rfl, q⟩
def rCat : R2 := λ x y H Q => ∃ l b xs zs, x = .ref l /\ y = .ref b /\ H l = some (.lst xs) /\ H b = some (.lst zs) /\ xs.length + zs.length <= sizeLine /\ ∀ p, H p = none -> Q (.ref p) (upd H p (.lst (xs ++ zs)))
theorem op_cat : OpR X (binaryOp .Add) rCat := by
 intro pins s σ H x y v u Q I rx ry h
 obtain ⟨l, b, xs, zs, rfl, rfl, hH, hB, hz, q⟩ := h
 cases rx
 cases ry
 obtain ⟨z, its, n, r, hl, e⟩ := I.lstM hH
 obtain ⟨z2, its2, n2, r2, hl2, e2⟩ := I.lstM hB
 refine PySem.P.add_list e e2 ?_ (by rw [List.size_toArray, List.size_toArray]; omega)
 have ea : its.toArray ++ its2.toArray = (its ++ its2).toArray := by simp
 rw [ea]
 exact ⟨.ref _, _, I.lnew (t' := s.toks) (r.append r2) (by rw [List.length_append]; omega), rfl, q _ I.fresh⟩
def rRep : R2 := λ x y H Q => ∃ l k xs, x = .ref l /\ y = .int k /\ H l = some (.lst xs) /\ -(2 ^ 63) <= k /\ k < 2 ^ 63 /\ xs.length * k.toNat <= sizeLine /\
 ∀ p, H p = none -> Q (.ref p) (upd H p (.lst (List.replicate k.toNat xs).flatten))
theorem len_rep {α : Type} (xs : List α) (k : Nat) : (List.replicate k xs).flatten.length = k * xs.length := by
 induction k with
 | zero => simp
 | succ k ih => rw [List.replicate_succ, List.flatten_cons, List.length_append, ih, Nat.succ_mul, Nat.add_comm]
theorem op_rep : OpR X (binaryOp .Mult) rRep := by
 intro pins s σ H x y v u Q I rx ry h
 obtain ⟨l, k, xs, rfl, rfl, hH, h1, h2, hz, q⟩ := h
 cases rx
 obtain ⟨t, rfl⟩ := ry
 obtain ⟨z, its, n, r, hl, e⟩ := I.lstM hH
 have hlen : its.toArray.size * k.toNat <= sizeLine := by rw [List.size_toArray, <- hl]; exact hz
 have hcap : ¬ its.toArray.size * k.toNat > (2 ^ 63 - 1) / 8 := by
   have : (sizeLine : Nat) <= (2 ^ 63 - 1) / 8 := by decide
   omega
 have hfit : ¬ (!Builtin.List.listFitsIndex k) = true := by
   rw [fitsIndex_both h1 h2]
   exact Bool.false_ne_true
 have hlong : ¬ Builtin.List.listTooLong (its.toArray.size * k.toNat) = true := by
   rw [notLongL hlen]
   exact Bool.false_ne_true
 have hnew : List.foldl (λ x1 x2 => x1 ++ x2) #[] (List.replicate (if its.toArray.isEmpty = true then 0 else k.toNat) its.toArray) = (List.replicate k.toNat its).flatten.toArray := by
   have f0 : ∀ m : Nat, List.foldl (λ x1 x2 => x1 ++ x2) #[] (List.replicate m its.toArray) = (List.replicate m its).flatten.toArray := λ m => by
     have := foldl_rep its m []
     rw [List.nil_append] at this
     exact this
   rw [f0]
   cases its with
   | nil => simp
   | cons a r' => rw [if_neg (by simp)]
 refine wpAny_binaryOp_repeat_ref (T := "list") (U := "int") (by decide) ⟨_, e, rfl⟩ (λ s' => typeIs_int s' k t) noFill_list_mul F.fills_int_mul F.slot_int_rmul repeat_list F.slot_int_index.lookup
   (call_meets F.slot_int_rmul (typeIs_int s k t) F.entry_int_rmul (F.args_int_rmul_2 _ _) (int___rmul___int_list k t l its.toArray n)
     ⟨e, rfl, ⟨_, e, rfl⟩, call_meets F.slot_list_mul ⟨_, e, rfl⟩ F.entry_list_mul (F.args_list_mul_2 _ _) (AutoListH.list___mul___list_int_3 l its.toArray n k t hfit hcap hlong) ⟨e, ?_⟩⟩)
 rw [hnew]
 exact ⟨.ref _, _, I.lnew (t' := s.toks) (r.rep k.toNat) (by rw [len_rep, Nat.mul_comm]; exact hz), rfl, q _ I.fresh⟩
end
section
variable {prog : Program} {w : World} {A : Around} {E : Value -> Shared -> Prop} {s : Shared}
end
section
variable {X : Cx}
end
end L2
namespace Att
open PySem PySem.W PySem.Calls PyProof.Rows
theorem ints_of_wellAll {P : Params} {h : Heap} : ∀ (ns : List Int) (vs : List Value), WellAll P h vs (ns.map WData.int) -> IntsAre vs ns := by
 intro ns
 induction ns with
 | nil =>
   intro vs w
   rw [List.map_nil] at w
   cases w
   exact .nil
 | cons n ns ih =>
   intro vs w
   rw [List.map_cons] at w
   cases w with
   | cons a b =>
     cases a
     exact .cons _ _ (ih _ b)
theorem script_of {l : OpenLaw} {n : Nat} (hn : l.most = some n) {P : Params} {h : Heap} {args : List WData} {vals : List Value}
   (hpre : l.row.toRowW.claim.pre args = true) (hwl : WellAll P h vals args) :
   ∃ a vs ns, vals = [Value.ref a] /\ args = [WData.list (ns.map WData.int)] /\ h.get? a = some { cls := .type "list", data := .seq vs.toArray } /\ IntsAre vs ns /\ ns.length <= n := by
 have hsh : WShape.hasAll [] args [.list .int] = true := (pre_splitW hpre).1
 have hc : l.pre.holds [] { args := args } = true := (pre_splitW hpre).2
 obtain ⟨d, r, rfl, h1, h2⟩ := hasAllW_cons hsh
 obtain rfl := hasAllW_nil h2
 obtain ⟨xs, rfl, h3⟩ := hasW_list h1
 obtain ⟨ns, rfl⟩ := items_int h3
 have hlen : ns.length <= n := by
   unfold OpenLaw.pre at hc
   have h4 : (WTm.not (.lt (.lit (.int (n : Int))) (.len (.arg 0)))).holds [] { args := [.list (ns.map .int)] } = true := by
     have h4 := (holds_andW hc).1
     rw [hn] at h4
     exact h4
   have h5 := condW_of h4 (w_not (w_lt w_lit (w_len_list (w_arg rfl))))
   rw [List.length_map] at h5
   refine Nat.le_of_not_lt λ q => ?_
   have q' : (n : Int) < ((ns.length : Nat) : Int) := by omega
   first
     | (rw [decide_eq_true q'] at h5; exact absurd h5 (by decide))
     | (simp at h5; omega)
 cases hwl with
 | cons w1 w2 =>
   cases w2
   cases w1 with
   | list ho hall => exact ⟨_, _, ns, rfl, rfl, ho, ints_of_wellAll ns _ hall, hlen⟩
theorem post_true (l : OpenLaw) (args : List WData) : l.row.toRowW.claim.post args (.bool true) args = true :=
 postW_of (r := l.row.toRowW) (X := (true == true))
   (show WShape.has [] (.bool true) .bool = true by first | rfl | decide | simp [WShape.has, WShape.arms, WShape.armsAll])
   (show (WTm.eq .res (.lit (.bool true))).value [] { args := args, res := some (.bool true), after := args } = some (.bool (true == true)) from w_eq_bool (w_res rfl) w_lit) rfl
theorem attach_call {l : OpenLaw} {n : Nat} {q : Program} {loose : List Str} {XP : (Str -> Option Value) -> Heap -> Prop} {YP : World -> Heap -> Prop} {d : DefRec}
   (hn : l.most = some n) (hdf : d.params.defaults = [])
   (call : ∀ (w : World) (s₀ s₁ : Shared) (mg mb : Str -> Option Value) (fa : Addr) (o : Obj) (pm cd doc : Value) (a : Addr) (vs : List Value) (ns : List Int),
     Ground q loose [] XP w s₀ mg mb s₁.heap -> YP w s₁.heap ->
     s₁.heap.get? fa = some o -> o.data = .func (docDef d.name d.params d.body d.scope pm cd doc) -> s₁.heap.CodeRec cd d.name -> mg d.name = some (.ref fa) ->
     s₁.heap.get? a = some { cls := .type "list", data := .seq vs.toArray } -> IntsAre vs ns -> ns.length <= n -> s₁.gens = #[] ->
     codeAny (model l.prog w) callerA (.call (.ref fa) ⟨[.ref a], []⟩) (λ r s' => r = .ok (.ret (.bool true)) /\ OldK s₁.heap s'.heap /\ s'.os = s₁.os /\ AllBare s'.gens) s₁) :
   WalkO q loose XP YP l.row.toRowW d [] (λ f vs => PySem.call f vs) := by
 intro w s₀ s₁ mg mb G Y fa o pm cd doc dV kV ho hd hcd hD hmg hg args vals as hpre hlay hrd hwl hlo
 obtain rfl : dV = .none := Dflts.none hD hdf
 obtain rfl : kV = .none := Dflts.noKw hD
 obtain ⟨a, vs, ns, rfl, rfl, hobj, hints, hlen⟩ := script_of hn hpre hwl
 refine enter_call (codeAny_mono (call w s₀ s₁ mg mb fa o pm cd doc a vs ns G Y ho (fd_plain hd) hcd hmg hobj hints hlen hg) λ r s' hq => ?_)
 obtain ⟨rfl, h2, h3, h4⟩ := hq
 exact ⟨.inl ⟨.bool true, .bool true, [], rfl, λ _ => rfl, .bool true, post_true l _, λ _ => ⟨List.Pairwise.nil, λ _ hm => (nomatch hm)⟩⟩, h2, h3, h4⟩
section
variable {prog : Program} {w : World} {A : Around} {E : Value -> Shared -> Prop} {s : Shared} {K : Frag}
end
end Att
namespace L2
open PySem PySem.Spec PyProof.Rows
theorem vals_ints : ∀ {vs : List Value} {ns : List Int}, IntsAre vs ns -> Vals (ns.map V.int) vs
 | _, _, .nil => .nil
 | _, _, .cons n t h => .cons ⟨t, rfl⟩ (vals_ints h)
def Only (H : Hp) : Prop := ∀ b, H b = none \/ ∃ o xs, H b = some (.frz o (.lst xs))
theorem law_call {P : Program} {w : World} {K : W.Frag} {mg mb : Str -> Option Value} {CX : CXT} {k : Nat} {fa a : Addr} {fd : FuncData} {x : Str} {sp : Sp} {s₁ : Shared} {vs : List Value} {ns : List Int}
   (KX : K.In s₁.heap) (hns : s₁.heap.Ns mainGlobals mg) (hb : s₁.heap.Ns builtinsNs mb) (hbb : ∀ x : Str, x ≠ "__name__" -> mb x = bootBuiltins x) (hlim : s₁.heap.NoLimit) (hg : s₁.gens = #[])
   (ha : s₁.heap.get? a = some { cls := .type "list", data := .seq vs.toArray }) (hi : IntsAre vs ns) (hl : ns.length <= sizeLine) (hr : Room k callerA)
   (F : ∀ base : Heap, K.In base -> base.Ns mainGlobals mg -> FnOk P w K mg base CX k fa fd [x] sp) (hbind : ∀ (s : Shared) (u : Value), BindsTo s fd ⟨[u], []⟩ [(x, u)])
   (hsp : ∀ H : Hp, Only H -> SqL K H a (ns.map V.int) -> sp [.ref a] H (λ v _ => v = .bl true) λ _ _ _ => False)
   (hCX : ∀ H e s', CX [] H s₁ (λ _ _ _ => False) e s' -> False) :
   codeAny (model P w) callerA (.call (.ref fa) ⟨[.ref a], []⟩) (λ r s' => r = .ok (.ret (.bool true)) /\ OldK s₁.heap s'.heap /\ s'.os = s₁.os /\ AllBare s'.gens) s₁ := by
 have rv := vals_ints hi
 have lenV := hi.length
 -- from an abstract heap in which nothing but the script may be tracked
 have core : ∀ H : Hp, Only H -> SqL K H a (ns.map V.int) -> HOk P w H s₁.heap -> (∀ b, H b ≠ none -> b = a) -> (H a ≠ none -> K.lookup a = none) ->
     codeAny (model P w) callerA (.call (.ref fa) ⟨[.ref a], []⟩) (λ r s' => r = .ok (.ret (.bool true)) /\ OldK s₁.heap s'.heap /\ s'.os = s₁.os /\ AllBare s'.gens) s₁ := by
   intro H hO hS hok hA hK
   have base_of : ∀ {b : Addr} {o : Obj}, s₁.heap.get? b = some o -> H b = none -> (hidT s₁.heap H).get? b = some o := λ e n => hidT_get e n
   have noA : ∀ {b : Addr} {o : Obj} {es : Array DictEntry} {ep : Nat}, s₁.heap.get? b = some o -> o.data = .dict es ep -> H b = none := λ {b o es ep} e d => by
     cases q : H b with
     | none => rfl
     | some u =>
       have e' : b = a := hA b (by rw [q]; simp)
       subst e'
       rw [ha] at e; cases e
       have d' : Data.seq vs.toArray _ = Data.dict es ep := d
       cases d'
   have nsK : ∀ {b : Addr} {m : Str -> Option Value}, s₁.heap.Ns b m -> (hidT s₁.heap H).Ns b m := λ {b m} ⟨o, es, ep, e, d, r⟩ => ⟨o, es, ep, base_of e (noA e d), d, r⟩
   have hKb : K.In (hidT s₁.heap H) := λ b o e => base_of (KX b o e) (by
     cases q : H b with
     | none => rfl
     | some u =>
       have e' : b = a := hA b (by rw [q]; simp)
       subst e'
       rw [hK (by rw [q]; simp)] at e; cases e)
   have hM : Mod K mg (hidT s₁.heap H) := ⟨hKb, nsK hns, ⟨mb, nsK hb, hbb⟩, let ⟨mc, h1, h2⟩ := hlim; ⟨mc, nsK h1, h2⟩⟩
   have e0 : Env0 P w K mg (hidT s₁.heap H) callerA [] s₁ H := ⟨rfl, hM, λ b o e => of_hidT e, Nat.le_of_eq (hidT_size _ _), trivial, λ b hb => absurd (show b ∈ ([] : List Addr) from hb) (by simp), hok, .of_eq hg⟩
   refine codeAny_mono ((F _ hKb (nsK hns)).run callerA [] s₁ H ⟨[.ref a], []⟩ [.ref a] [.ref a] _ _ hr e0 (hbind s₁ (.ref a)) (.cons rfl .nil) (hsp H hO hS)) λ r s' h => ?_
   cases r with
   | error e => exact (hCX H e s' h).elim
   | ok fl =>
     cases fl with
     | next => exact False.elim h
     | brk => exact False.elim h
     | cont => exact False.elim h
     | ret u =>
       obtain ⟨v, H', os, bare, un, hok', r', q⟩ := h
       have q' : v = .bl true := q
       subst q'
       obtain rfl : u = Value.bool true := r'
       refine ⟨rfl, OldK.of_keep λ b o e => ?_, os, bare⟩
       cases q : H b with
       | none => exact un.keep b o e q (by intro z; exact absurd (show b ∈ ([] : List Addr) from z) (by simp)) (by simp)
       | some u =>
         rcases hO b with z | ⟨ob, xs, z⟩
         . rw [q] at z; cases z
         . have z2 := un.frzs b ob _ z
           obtain ⟨e1, _⟩ := hok b _ z
           obtain ⟨e2, _⟩ := hok' b _ z2
           rw [e] at e1; cases e1
           exact e2
 cases hk : K.lookup a with
 | some o =>
   -- the script is one of the module's own objects
   have e := KX a o hk
   rw [ha] at e
   cases e
   refine core (λ _ => none) (λ _ => .inl rfl) (.inr ⟨_, vs.toArray, _, hk, rfl, rfl, rfl, by rw [List.size_toArray, lenV]; exact hl, by simpa using rv⟩) (λ b u z => by have z' : (none : Option HO) = some u := z; cases z') (λ b z => absurd rfl z) λ z => absurd rfl z
 | none =>
   refine core (λ b => if b = a then some (.frz { cls := .type "list", data := .seq vs.toArray } (.lst (ns.map V.int))) else none) (λ b => ?_) (.inl (.inr ⟨{ cls := .type "list", data := .seq vs.toArray }, if_pos rfl⟩)) (λ b u z => ?_) (λ b z => ?_) λ _ => hk
   . by_cases hb : b = a
     . exact .inr ⟨_, _, if_pos hb⟩
     . exact .inl (if_neg hb)
   . by_cases hb : b = a
     . have z' := (if_pos hb).symm.trans z
       cases z'
       subst hb
       exact ⟨ha, by rw [List.length_map]; exact hl, vs, _, rv, ha⟩
     . have z' := (if_neg hb).symm.trans z
       cases z'
   . by_cases hb : b = a
     . exact hb
     . exact absurd (if_neg hb) z
end L2
namespace L2
open PySem PySem.Spec PyProof.Rows
abbrev KOf {K : W.Frag} {h : Heap} (_ : K.In h) : W.Frag := K
theorem walk_of {l : PySem.W.OpenLaw} {n k : Nat} {q : Program} {loose : List Str} {XP : (Str -> Option Value) -> Heap -> Prop} {YP : World -> Heap -> Prop} {d : DefRec} {K : Params -> W.Frag} {CX : World -> CXT} {sp : World -> Sp} {x : Str}
   (hn : l.most = some n) (hn2 : n <= sizeLine) (hdf : d.params.defaults = []) (hr : Room k callerA)
   (hY : ∀ (w : World) (h : Heap), YP w h -> (K w.params).In h)
   (F : ∀ (w : World) (mg : Str -> Option Value) (fa : Addr) (h : Heap), (K w.params).In h -> h.Ns mainGlobals mg -> mg d.name = some (.ref fa) ->
     ∃ fd : FuncData, (∀ (s : Shared) (u : Value), BindsTo s fd ⟨[u], []⟩ [(x, u)]) /\
       ∀ base : Heap, (K w.params).In base -> base.Ns mainGlobals mg -> FnOk l.prog w (K w.params) mg base (CX w) k fa fd [x] (sp w))
   (hsp : ∀ (w : World) (H : Hp) (a : Addr) (ns : List Int), ns.length <= n -> Only H -> SqL (K w.params) H a (ns.map V.int) -> sp w [.ref a] H (λ v _ => v = .bl true) λ _ _ _ => False)
   (hCX : ∀ (w : World) (H : Hp) (s : Shared) (e : Value) (s' : Shared), CX w [] H s (λ _ _ _ => False) e s' -> False) :
   PySem.W.WalkO q loose XP YP l.row.toRowW d [] (λ f vs => PySem.call f vs) := by
 refine Att.attach_call hn hdf λ w s₀ s₁ mg mb fa o pm cd doc a vs ns G Y ho hd hcd hmg hobj hints hlen hg => ?_
 have KX := hY w _ Y
 obtain ⟨fd, hb, hF⟩ := F w mg fa _ KX G.T.g hmg
 exact law_call KX G.T.g G.T.b G.T.builtins G.T.nolimit hg hobj hints (Nat.le_trans hlen hn2) hr hF hb (λ H hO hS => hsp w H a ns hlen hO hS) λ H e s' => hCX w H s₁ e s'
theorem walk_ofK {l : PySem.W.OpenLaw} {n k : Nat} {q : Program} {loose : List Str} {XP : (Str -> Option Value) -> Heap -> Prop} {YP : World -> Heap -> Prop} {d : DefRec} {K : Params -> W.Frag} {CX : CXT} {sp : W.Frag -> Sp} {x : Str}
   (hn : l.most = some n) (hn2 : n <= sizeLine) (hdf : d.params.defaults = []) (hr : Room k callerA)
   (hY : ∀ (w : World) (h : Heap), YP w h -> (K w.params).In h)
   (F : ∀ (w : World) (mg : Str -> Option Value) (fa : Addr) (h : Heap), (K w.params).In h -> h.Ns mainGlobals mg -> mg d.name = some (.ref fa) ->
     ∃ fd : FuncData, (∀ (s : Shared) (u : Value), BindsTo s fd ⟨[u], []⟩ [(x, u)]) /\
       ∀ base : Heap, (K w.params).In base -> base.Ns mainGlobals mg -> FnOk l.prog w (K w.params) mg base CX k fa fd [x] (sp (K w.params)))
   (hsp : ∀ (K : W.Frag) (H : Hp) (a : Addr) (ns : List Int), ns.length <= n -> Only H -> SqL K H a (ns.map V.int) -> sp K [.ref a] H (λ v _ => v = .bl true) λ _ _ _ => False)
   (hCX : ∀ (H : Hp) (s : Shared) (e : Value) (s' : Shared), CX [] H s (λ _ _ _ => False) e s' -> False) :
   PySem.W.WalkO q loose XP YP l.row.toRowW d [] (λ f vs => PySem.call f vs) :=
 walk_of (K := K) (CX := λ _ => CX) (sp := λ w => sp (K w.params)) hn hn2 hdf hr hY F (λ w H a ns h1 h2 h3 => hsp (K w.params) H a ns h1 h2 h3) λ _ H s e s' => hCX H s e s'
end L2
namespace L2
open PySem PySem.Spec PyProof.Rows
def inClass (s : Stmt) (j : Nat) : Stmt := match s with
 | .ClassDef _ _ _ body _ _ _ _ _ _ _ => body.getD j (.Pass ⟨0, 0, 0, 0⟩)
 | _ => .Pass ⟨0, 0, 0, 0⟩
def defArgs (s : Stmt) : Arguments := match s with
 | .FunctionDef _ a _ _ _ _ _ _ _ _ => a
 | _ => { posonlyargs := [], args := [], vararg := none, kwonlyargs := [], kw_defaults := [], kwarg := none, defaults := [] }
def defBody (s : Stmt) : List Stmt := match s with
 | .FunctionDef _ _ b _ _ _ _ _ _ _ => b
 | _ => []
def defScope (s : Stmt) : Scope := match s with
 | .FunctionDef _ _ _ _ _ _ sc _ _ _ => sc
 | _ => { kind := .function, names := [], isGenerator := false, isCoroutine := false }
abbrev CX0 : CXT := λ _ _ _ _ _ _ => False
abbrev E0 : XK := λ _ _ _ => False
theorem pass0 {X : Cx} : Passes CX0 X E0 := λ _ _ _ _ _ _ _ h => h.elim
structure Fun (K : W.Frag) (x qual : Str) (st : Stmt) (f : Addr) (fd : FuncData) : Prop where
 ex : ∃ (oc : Value) (od : Option Addr) (kV doc pm : Value) (an : Option Addr) (cdv ct : Value) (osl : Array (Option Value)),
   fd = PySem.W.fnOf x qual (defArgs st) (defBody st) (defScope st) .none kV doc pm an cdv ct /\ K.lookup f = some ⟨oc, od, .func fd, osl⟩ /\ PySem.W.codeIn K cdv qual = true
 kp : PySem.W.keepIn K (.ref f) = true
section
variable {P : Program} {w : World} {K : W.Frag} {mg : Str -> Option Value} {base : Heap}
theorem Fun.ok {x qual : Str} {st : Stmt} {f : Addr} {fd : FuncData} {N ps : List Str} {k : Nat} {sp : Sp} (F : Fun K x qual st f fd) (S : FnScope N ps (defScope st)) (len : ∀ vs H Q E, sp vs H Q E -> vs.length = ps.length)
   (hbody : ∀ (cdv : Value) (A : Around) (outer : List Env) (s : Shared) (H : Hp) (vs : List V) (Q : VK) (E : XK), Room k (A.deeper (envOfC qual (defScope st) s.heap.objs.size f cdv)) -> sp vs H Q E ->
     ∃ t, PSs (cxOf CX0 P w K mg base N qual (defScope st) f cdv A outer s H E).nox (defBody st) t /\ t { nx := λ _ H' => Q .non H', rt := Q } (start N vs) H) : FnOk P w K mg base CX0 (k + 1) f fd ps sp := by
 obtain ⟨oc, od, kV, doc, pm, an, cdv, ct, osl, rfl, lk, hcd⟩ := F.ex
 refine fn_of lk hcd S len λ A outer s H vs Q E hr hsp => ?_
 obtain ⟨t, h, q⟩ := hbody cdv A outer s H vs Q E hr hsp
 exact ⟨t, h.nox, q⟩
theorem Fun.binds {x qual : Str} {st : Stmt} {f : Addr} {fd : FuncData} {ps : List Str} (F : Fun K x qual st f fd)
   (h : ∀ (kV doc pm : Value) (an : Option Addr) (cdv ct : Value) (us : List Value), us.length = ps.length -> bindArgs (PySem.W.fnOf x qual (defArgs st) (defBody st) (defScope st) .none kV doc pm an cdv ct) ⟨us, []⟩ = pure (ps.zip us)) : Binds K fd ps [] := by
 obtain ⟨oc, od, kV, doc, pm, an, cdv, ct, osl, rfl, lk, hcd⟩ := F.ex
 exact .all (h kV doc pm an cdv ct)
theorem fun_mk {x qual : Str} {st : Stmt} {f : Addr} {oc : Value} {od an : Option Addr} {osl : Array (Option Value)} {kV doc pm cdv ct : Value} (l : K.lookup f = some ⟨oc, od, .func (PySem.W.fnOf x qual (defArgs st) (defBody st) (defScope st) .none kV doc pm an cdv ct), osl⟩)
   (c : PySem.W.codeIn K cdv qual = true) (k : PySem.W.keepIn K (.ref f) = true) : Fun K x qual st f (PySem.W.fnOf x qual (defArgs st) (defBody st) (defScope st) .none kV doc pm an cdv ct) := ⟨⟨oc, od, kV, doc, pm, an, cdv, ct, osl, rfl, l, c⟩, k⟩
end
theorem small1000 {n : Nat} (h : n <= 1000) : n < sizeLine := Nat.lt_of_le_of_lt h (by decide)
section
variable {X : Cx}
theorem pv (i : Nat) {x : Str} {pos : Pos} (hN : X.N[i]? = some x := by rfl) (hv : Vis X.env.scope x := by first | exact Or.inl rfl | exact Or.inr (Or.inl rfl) | exact Or.inr (Or.inr rfl)) (hd : (x == ("__debug__" : Str)) = false := by decide)
   (hcd : (x == ("__classdict__" : Str)) = false := by decide) : PE X (.Name x pos) (tVar i) := pe_var hN hv hd hcd
end
theorem iteF {A B : Prop} (h : B) : if false = true then A else B := by
 rw [if_neg Bool.false_ne_true]
 exact h
theorem iteT {A B : Prop} (h : A) : if true = true then A else B := by
 rw [if_pos rfl]
 exact h
theorem ite2 {c A B : Prop} [Decidable c] (h1 : c -> A) (h2 : ¬ c -> B) : if c then A else B := by
 by_cases h : c
 . rw [if_pos h]
   exact h1 h
 . rw [if_neg h]
   exact h2 h
def Same (H H' : Hp) : Prop := ∀ b o, H b = some o -> H' b = some o
theorem Same.refl (H : Hp) : Same H H := λ _ _ h => h
theorem Same.trans {H H1 H2 : Hp} (a : Same H H1) (b : Same H1 H2) : Same H H2 := λ c o h => b c o (a c o h)
theorem Same.free {H H' : Hp} (e : Same H H') {l : Addr} (h : H' l = Option.none) : H l = Option.none := by
 cases q : H l with
 | none => rfl
 | some o =>
   rw [e l o q] at h
   cases h
theorem Same.seq {K : W.Frag} {H H' : Hp} {a : Addr} {xs : List V} (e : Same H H') (h : SqL K H a xs) : SqL K H' a xs := by
 rcases h with (h | ⟨o, h⟩) | h
 . exact .inl (.inl (e _ _ h))
 . exact .inl (.inr ⟨o, e _ _ h⟩)
 . exact .inr h
end L2
namespace L2
open PySem PySem.Spec PyProof.Rows
section
variable {κ : Type} [DecidableEq κ]
def valV (kvs : List (κ × V)) (k : κ) : Option V := (kvs.find? λ kv => decide (kv.1 = k)).map (·.2)
def putK (kvs : List (κ × V)) (k : κ) (v : V) : List (κ × V) :=
 if (kvs.any λ kv => decide (kv.1 = k)) = true then kvs.map (λ kv => if kv.1 = k then (kv.1, v) else kv) else kvs ++ [(k, v)]
theorem valV_pos {p : κ × V} {r : List (κ × V)} {k : κ} (e : p.1 = k) : valV (p :: r) k = some p.2 := by simp [valV, List.find?_cons, e]
theorem valV_neg {p : κ × V} {r : List (κ × V)} {k : κ} (e : ¬ p.1 = k) : valV (p :: r) k = valV r k := by simp [valV, List.find?_cons, e]
theorem valV_any (k : κ) : ∀ kvs : List (κ × V), (kvs.any λ kv => decide (kv.1 = k)) = (valV kvs k).isSome
 | [] => rfl
 | p :: r => by
   rw [List.any_cons]
   by_cases e : p.1 = k
   . simp only [valV_pos e, decide_eq_true e, Bool.true_or, Option.isSome_some]
   . rw [valV_neg e, decide_eq_false e, Bool.false_or]; exact valV_any k r
theorem valV_map (k j : κ) (y : V) : ∀ kvs : List (κ × V), valV (kvs.map λ kv => if kv.1 = k then (kv.1, y) else kv) j = (valV kvs j).map λ x => if j = k then y else x
 | [] => rfl
 | p :: r => by
   have ih := valV_map k j y r
   rw [List.map_cons]
   by_cases h : p.1 = k
   . rw [if_pos h]
     by_cases e : p.1 = j
     . rw [valV_pos (p := (p.1, y)) e, valV_pos e, Option.map_some, if_pos (e.symm.trans h)]
     . rw [valV_neg (p := (p.1, y)) e, valV_neg e, ih]
   . rw [if_neg h]
     by_cases e : p.1 = j
     . rw [valV_pos (p := p) e, valV_pos e, Option.map_some, if_neg (λ z => h (e.trans z))]
     . rw [valV_neg (p := p) e, valV_neg e, ih]
theorem valV_snoc (k j : κ) (y : V) : ∀ kvs : List (κ × V), valV kvs k = none -> valV (kvs ++ [(k, y)]) j = if j = k then some y else valV kvs j
 | [], _ => by
   by_cases e : k = j
   . rw [if_pos e.symm]; exact valV_pos (p := (k, y)) e
   . rw [if_neg (λ z => e z.symm)]; exact valV_neg (p := (k, y)) e
 | p :: r, hn => by
   rw [List.cons_append]
   have hk : ¬ p.1 = k := λ z => by rw [valV_pos z] at hn; cases hn
   rw [valV_neg hk] at hn
   have ih := valV_snoc k j y r hn
   by_cases e : p.1 = j
   . rw [valV_pos e, valV_pos e, if_neg (λ z => hk (e.trans z))]
   . rw [valV_neg e, valV_neg e, ih]
theorem valV_put (kvs : List (κ × V)) (k j : κ) (y : V) : valV (putK kvs k y) j = if j = k then some y else valV kvs j := by
 unfold putK
 by_cases a : (kvs.any λ kv => decide (kv.1 = k)) = true
 . rw [if_pos a, valV_map]
   rw [valV_any] at a
   by_cases e : j = k
   . obtain ⟨x, hx⟩ := Option.isSome_iff_exists.mp a
     rw [if_pos e, e, hx, Option.map_some, if_pos rfl]
   . rw [if_neg e]
     cases valV kvs j with
     | none => rfl
     | some x => rw [Option.map_some, if_neg e]
 . rw [if_neg a]
   refine valV_snoc k j y kvs ?_
   rw [valV_any] at a
   cases q : valV kvs k with
   | none => rfl
   | some x => rw [q] at a; exact (a rfl).elim
theorem length_putK (kvs : List (κ × V)) (k : κ) (v : V) : (putK kvs k v).length <= kvs.length + 1 := by
 unfold putK
 split
 . rw [List.length_map]; omega
 . rw [List.length_append, List.length_cons, List.length_nil]; omega
theorem putK_new {kvs : List (κ × V)} {k : κ} (v : V) (h : valV kvs k = none) : putK kvs k v = kvs ++ [(k, v)] := by
 unfold putK
 rw [valV_any, h]
 exact if_neg (by decide)
theorem RelO.isSome_eq {o : Option V} {u : Option Value} (r : RelO o u) : o.isSome = u.isSome := by
 cases o with
 | none => cases u with
   | none => rfl
   | some _ => exact (show False from r).elim
 | some _ => cases u with
   | none => exact (show False from r).elim
   | some _ => rfl
theorem KV.val {kvs : List (κ × V)} {vs : List (κ × Value)} (r : KV kvs vs) (k : κ) : RelO (valV kvs k) (valueAt vs k) := by
 unfold KV at r
 induction r with
 | nil => exact True.intro
 | @cons p q ps qs h t ih =>
   obtain ⟨h1, h2⟩ := h
   by_cases e : p.1 = k
   . have e' : q.1 = k := h1.symm.trans e
     have b : valueAt (q :: qs) k = some q.2 := by simp [valueAt, List.find?_cons, e']
     rw [valV_pos e, b]; exact h2
   . have e' : ¬ q.1 = k := λ z => e (h1.trans z)
     have b : valueAt (q :: qs) k = valueAt qs k := by simp [valueAt, List.find?_cons, e']
     rw [valV_neg e, b]; exact ih
theorem KV.any {kvs : List (κ × V)} {vs : List (κ × Value)} (r : KV kvs vs) (k : κ) : (kvs.any λ kv => decide (kv.1 = k)) = vs.any λ kv => decide (kv.1 = k) := by
 unfold KV at r
 induction r with
 | nil => rfl
 | cons h t ih => rw [List.any_cons, List.any_cons, ih, h.1]
theorem KV.repl {kvs : List (κ × V)} {vs : List (κ × Value)} (r : KV kvs vs) (k : κ) {y : V} {u : Value} (ry : RelV y u) :
   KV (kvs.map λ kv => if kv.1 = k then (kv.1, y) else kv) (vs.map λ kv => if kv.1 = k then (kv.1, u) else kv) := by
 unfold KV at r ⊢
 induction r with
 | nil => exact .nil
 | @cons p q ps qs h t ih =>
   rw [List.map_cons, List.map_cons]
   refine .cons ?_ ih
   obtain ⟨h1, h2⟩ := h
   by_cases e : p.1 = k
   . rw [if_pos e, if_pos (h1.symm.trans e)]; exact ⟨h1, ry⟩
   . rw [if_neg e, if_neg (λ z => e (h1.trans z))]; exact ⟨h1, h2⟩
theorem KV.put {kvs : List (κ × V)} {vs : List (κ × Value)} (r : KV kvs vs) (k : κ) {y : V} {u : Value} (ry : RelV y u) : KV (putK kvs k y) (stored vs k u) := by
 unfold putK stored
 rw [r.any k]
 by_cases e : (vs.any λ kv => decide (kv.1 = k)) = true
 . rw [if_pos e, if_pos e]; exact r.repl k ry
 . rw [if_neg e, if_neg e]; exact Paired.snoc r ⟨rfl, ry⟩
theorem KV.length {kvs : List (κ × V)} {vs : List (κ × Value)} (r : KV kvs vs) : kvs.length = vs.length := Paired.length r
end
theorem kV_is {P : Program} {w : World} {k : Key} {u : Value} (r : RelV (kV k) u) : (mixKind P w).is k u = true := by
 cases k with
 | inl i => obtain ⟨t, e⟩ := (show ∃ t, u = Value.int i t from r); subst e; exact mixKind_int P w i t
 | inr x => obtain ⟨t, e⟩ := (show ∃ t, u = Value.str x t from r); subst e; exact mixKind_str P w x t
theorem items_are {P : Program} {w : World} : ∀ {ks : List Key} {us : List Value}, Vals (ks.map kV) us -> ItemsAre (mixKind P w) ks us
 | [], _, r => by rw [List.map_nil] at r; cases r; exact .nil
 | k :: ks, _, r => by
   rw [List.map_cons] at r
   cases r with
   | cons h t => exact .cons (kV_is h) (items_are t)
abbrev KT (H : Hp) : List (List Key × V) -> List (List Key × Addr × Value) -> Prop := Paired λ p q => p.1 = q.1 /\ H q.2.1 = some (.tup (p.1.map kV)) /\ RelV p.2 q.2.2
theorem KT.val {H : Hp} {kvs : List (List Key × V)} {xs : List (List Key × Addr × Value)} (r : KT H kvs xs) (k : List Key) : RelO (valV kvs k) ((atKey xs k).map (·.2)) := by
 induction r with
 | nil => exact True.intro
 | @cons p q ps qs h t ih =>
   obtain ⟨h1, _, h2⟩ := h
   by_cases e : p.1 = k
   . have e' : q.1 = k := h1.symm.trans e
     have b : atKey (q :: qs) k = some q.2 := by simp [atKey, List.find?_cons, e']
     rw [valV_pos e, b]; exact h2
   . have e' : ¬ q.1 = k := λ z => e (h1.trans z)
     have b : atKey (q :: qs) k = atKey qs k := by simp [atKey, List.find?_cons, e']
     rw [valV_neg e, b]; exact ih
theorem KT.repl {H : Hp} {kvs : List (List Key × V)} {xs : List (List Key × Addr × Value)} (r : KT H kvs xs) (k : List Key) {y : V} {u : Value} (ry : RelV y u) :
   KT H (kvs.map λ kv => if kv.1 = k then (kv.1, y) else kv) (xs.map (putAt k u)) := by
 induction r with
 | nil => exact .nil
 | @cons p q ps qs h t ih =>
   rw [List.map_cons, List.map_cons]
   refine .cons ?_ ih
   obtain ⟨h1, h2, h3⟩ := h
   unfold putAt
   by_cases e : p.1 = k
   . rw [if_pos e, if_pos (h1.symm.trans e)]; exact ⟨h1, h2, ry⟩
   . rw [if_neg e, if_neg (λ z => e (h1.trans z))]; exact ⟨h1, h2, h3⟩
theorem KT.put {H : Hp} {kvs : List (List Key × V)} {xs : List (List Key × Addr × Value)} (r : KT H kvs xs) (k : List Key) {b : Addr} {y : V} {u : Value} (hb : H b = some (.tup (k.map kV))) (ry : RelV y u) :
   KT H (putK kvs k y) (storedH xs k b u) := by
 have e : (kvs.any λ kv => decide (kv.1 = k)) = (atKey xs k).isSome := by
   rw [valV_any, (r.val k).isSome_eq, Option.isSome_map]
 unfold putK storedH
 rw [e]
 by_cases q : (atKey xs k).isSome = true
 . rw [if_pos q, if_pos q]; exact r.repl k ry
 . rw [if_neg q, if_neg q]; exact Paired.snoc r ⟨rfl, hb, ry⟩
theorem KT.keeps {H H' : Hp} {kvs : List (List Key × V)} {xs : List (List Key × Addr × Value)} (r : KT H kvs xs) (ht : ∀ b ys, H b = some (.tup ys) -> H' b = some (.tup ys)) : KT H' kvs xs :=
 Paired.mapP r λ _ _ z => ⟨z.1, ht _ _ z.2.1, z.2.2⟩
section
variable {P : Program} {w : World} {H : Hp} {h : Heap} {a : Addr}
theorem rd_of {u : HO} (ok : HOk P w H h) (e : Rd H a u) : ObjOk P w H h a u := e.ok ok
theorem dk_rd {kvs : List (Key × V)} (ok : HOk P w H h) (e : Rd H a (.dK kvs)) : kvs.length <= sizeLine /\ (a == sysModules) = false /\ ∃ vs, KV kvs vs /\ h.DictOf (mixKind P w) a vs :=
 show ObjOk P w H h a (.dK kvs) from rd_of ok e
theorem dk_of {kvs : List (Key × V)} (ok : HOk P w H h) (e : H a = some (.dK kvs)) : kvs.length <= sizeLine /\ (a == sysModules) = false /\ ∃ vs, KV kvs vs /\ h.DictOf (mixKind P w) a vs := dk_rd ok (.inl e)
theorem key_of {ks : List Key} (ok : HOk P w H h) (e : H a = some (.tup (ks.map kV))) : (tupleKind (mixKind P w)).is h ks a := by
 obtain ⟨_, its, r, o, h1, h2, n, h3⟩ := (show ObjOk P w H h a (.tup (ks.map kV)) from ok a _ e)
 exact ⟨o, its.toArray, n, h1, h2, h3, by simpa using items_are r⟩
theorem dt_rd {kvs : List (List Key × V)} (ok : HOk P w H h) (e : Rd H a (.dT kvs)) : kvs.length <= sizeLine /\ (a == sysModules) = false /\
   ∃ xs, KT H kvs xs /\ h.DictOfH (tupleKind (mixKind P w)) a xs := by
 obtain ⟨z, y, xs, r, o, es, ep, h1, h2, h3, h4, h5⟩ := (show ObjOk P w H h a (.dT kvs) from rd_of ok e)
 refine ⟨z, y, xs, r, o, es, ep, h1, h2, h3, h4, λ x hx => ?_, h5⟩
 have all : ∀ {l : List (List Key × V)} {m : List (List Key × Addr × Value)}, KT H l m -> ∀ x ∈ m, (tupleKind (mixKind P w)).is h x.1 x.2.1 := by
   intro l m q
   induction q with
   | nil => intro x hx; exact nomatch hx
   | @cons p q ps qs hq t ih =>
     intro x hx
     rcases List.mem_cons.mp hx with e | hx
     . subst e
       exact key_of ok (by rw [<- hq.1]; exact hq.2.1)
     . exact ih x hx
 exact all r x hx
theorem dt_of {kvs : List (List Key × V)} (ok : HOk P w H h) (e : H a = some (.dT kvs)) : kvs.length <= sizeLine /\ (a == sysModules) = false /\
   ∃ xs, KT H kvs xs /\ h.DictOfH (tupleKind (mixKind P w)) a xs := dt_rd ok (.inl e)
end
def DGet (H : Hp) (a : Addr) (y : V) (r : Option V) : Prop :=
 (∃ kvs k, Rd H a (.dK kvs) /\ y = kV k /\ r = valV kvs k) \/ ∃ kvs k b, Rd H a (.dT kvs) /\ y = .ref b /\ H b = some (.tup (k.map kV)) /\ r = valV kvs k
def DPut (H : Hp) (a : Addr) (y v : V) (H' : Hp) : Prop :=
 (∃ kvs k, H a = some (.dK kvs) /\ y = kV k /\ kvs.length < sizeLine /\ H' = upd H a (.dK (putK kvs k v))) \/
 ∃ kvs k b, H a = some (.dT kvs) /\ y = .ref b /\ H b = some (.tup (k.map kV)) /\ kvs.length < sizeLine /\ H' = upd H a (.dT (putK kvs k v))
theorem DGet.k {H : Hp} {a : Addr} {kvs : List (Key × V)} {k : Key} (e : H a = some (.dK kvs)) : DGet H a (kV k) (valV kvs k) := .inl ⟨kvs, k, .inl e, rfl, rfl⟩
theorem DPut.k {H : Hp} {a : Addr} {kvs : List (Key × V)} {k : Key} {v : V} (e : H a = some (.dK kvs)) (hl : kvs.length < sizeLine) : DPut H a (kV k) v (upd H a (.dK (putK kvs k v))) := .inl ⟨kvs, k, e, rfl, hl, rfl⟩
section
variable {X : Cx} {pins : List (Addr × Obj)} {σ : St} {H : Hp} {s : Shared} {a : Addr} {y v : V} {u r : Value} {o : Option V} {A : Around} {E : Value -> Shared -> Prop}
theorem Inv.big (I : Inv X pins σ H s) : sysModules < s.heap.objs.size := by
 have h : mainGlobals < s.heap.objs.size := (I.mod.glob.keeps I.bk).lt
 exact Nat.lt_trans (by decide) h
theorem d_getItem {Q : Value -> Shared -> Prop} (hu : A.units + 1 < cLine) (I : Inv X pins σ H s) (g : DGet H a y (some v)) (ry : RelV y u) (h : ∀ w' s', Inv X pins σ H s' -> RelV v w' -> Q w' s') :
   wpAny (model X.prog X.w) A (getItem (.ref a) u) Q E s := by
 rcases g with ⟨kvs, k, e, ey, l⟩ | ⟨kvs, k, b, e, ey, eb, l⟩
 . subst ey
   obtain ⟨z, hd, vs, rel, dd⟩ := dk_rd I.hok e
   obtain ⟨w', hw, rw'⟩ := RelO.some_of (v := v) (o := valueAt vs k) (by rw [l]; exact rel.val k)
   exact wpAny_getItem_of (kV_is ry) dd.mapOf hw (h w' _ (I.tok _) rw')
 . subst ey
   cases (show u = Value.ref b from ry)
   obtain ⟨z, hd, xs, rel, dd⟩ := dt_rd I.hok e
   obtain ⟨w', hw, rw'⟩ := RelO.some_of (v := v) (o := (atKey xs k).map (·.2)) (by rw [l]; exact rel.val k)
   obtain ⟨p, hp, hp2⟩ := Option.map_eq_some_iff.mp hw
   refine wpAny_getItem_heap (tupleKind_room_in1 hu) (key_of I.hok eb) dd hp ?_
   rw [hp2]
   exact h w' _ (I.tok _) rw'
theorem d_in {Q : Value -> Shared -> Prop} (hu : A.units + 1 < cLine) (I : Inv X pins σ H s) (g : DGet H a y o) (ry : RelV y u) (h : ∀ s', Inv X pins σ H s' -> Q (.bool o.isSome) s') :
   wpAny (model X.prog X.w) A (compareOp .In u (.ref a)) Q E s := by
 rcases g with ⟨kvs, k, e, ey, l⟩ | ⟨kvs, k, b, e, ey, eb, l⟩
 . subst ey
   obtain ⟨z, hd, vs, rel, dd⟩ := dk_rd I.hok e
   refine wpAny_in_of (kV_is ry) hd dd.mapOf ?_
   rw [<- (rel.val k).isSome_eq, <- l]
   exact h _ (I.tok _)
 . subst ey
   cases (show u = Value.ref b from ry)
   obtain ⟨z, hd, xs, rel, dd⟩ := dt_rd I.hok e
   refine wpAny_in_heap (tupleKind_room_in1 hu) (key_of I.hok eb) hd dd ?_
   have q := (rel.val k).isSome_eq
   rw [Option.isSome_map] at q
   rw [<- q, <- l]
   exact h _ (I.tok _)
theorem d_write {h' : Heap} {t' : Nat} {ob : HO} (I : Inv X pins σ H s) (mu : Mut (H a)) (hs : Heap.SameBut a s.heap h') (he : ∃ q, h'.get? a = some q) (new : ObjOk X.prog X.w (upd H a ob) h' a ob) :
   Inv X pins σ (upd H a ob) { s with heap := h', toks := t' } :=
 I.write (x := a) (e := a) mu (.inl rfl) (λ b q hb z => (hs.2 b hb).trans z) he new
theorem dk_new {P : Program} {w : World} {H' : Hp} {h' : Heap} {kvs : List (Key × V)} {vs : List (Key × Value)} (z : kvs.length <= sizeLine) (hd : (a == sysModules) = false) (rel : KV kvs vs) (dd : h'.DictOf (mixKind P w) a vs) :
   ObjOk P w H' h' a (.dK kvs) := ⟨z, hd, vs, rel, dd⟩
theorem d_setItem {H' : Hp} {Q : Unit -> Shared -> Prop} (hu : A.units + 1 < cLine) (I : Inv X pins σ H s) (g : DPut H a y v H') (ry : RelV y u) (rv : RelV v r) (h : ∀ s', Inv X pins σ H' s' -> Q () s') :
   wpAny (model X.prog X.w) A (setItem (.ref a) u r) Q E s := by
 rcases g with ⟨kvs, k, e, ey, l, eH⟩ | ⟨kvs, k, b, e, ey, eb, l, eH⟩
 . subst ey eH
   obtain ⟨z, hd, vs, rel, dd⟩ := dk_of I.hok e
   have hz : vs.length <= sizeLine := by rw [<- rel.length]; exact z
   have hl : (putK kvs k v).length <= sizeLine := by have := length_putK kvs k v; omega
   refine wpAny_setItem_pairs (hsz := hz) (kV_is ry) dd λ h' dd' hs => h _ ?_
   have he : ∃ q, h'.get? a = some q := let ⟨q, _, _, hq, _⟩ := dd'; ⟨q, hq⟩
   exact d_write I (by rw [e]; exact True.intro) hs he (dk_new hl hd (rel.put k rv) dd')
 . subst ey eH
   cases (show u = Value.ref b from ry)
   obtain ⟨z, hd, xs, rel, dd⟩ := dt_of I.hok e
   have hz : xs.length <= sizeLine := by rw [<- Paired.length rel]; exact z
   have hl : (putK kvs k v).length <= sizeLine := by have := length_putK kvs k v; omega
   refine wpAny_setItem_heap (hsz := hz) (tupleKind_room_in1 hu) (key_of I.hok eb) dd λ h' dd' hs => h _ ?_
   obtain ⟨q, es, ep, hq, h2, h3, h4, _, h5⟩ := dd'
   refine d_write I (by rw [e]; exact True.intro) hs ⟨q, hq⟩ ⟨hl, hd, _, (rel.put k eb rv).keeps λ c ys ec => ?_, q, es, ep, hq, h2, h3, h4, h5⟩
   rw [upd_ne (ne_of ec e (λ z => nomatch z))]
   exact ec
end
section
variable {X : Cx} {pins : List (Addr × Obj)} {σ : St} {H : Hp} {s : Shared} {a : Addr} {kvs : List (Key × V)} {k : Key} {u : Value} {A : Around} {E : Value -> Shared -> Prop}
end
def NoSl (i : Expr) : Prop := ∀ ov iv, subscripted i false ov iv = operate [ov, iv] (getItem ov iv)
theorem subD_of {prog : Program} {w : World} {A : Around} {E : Value -> Shared -> Prop} {s : Shared} {env : Env} {value slice : Expr} {pos : Pos} {T id : String} {Q : Value -> Shared -> Prop}
   (hl : typeLookup (.type T) "__getitem__" = pure (some (.builtin id))) (hs : NoSl slice)
   (h : wpAny (model prog w) A (eval value env) (λ o s₁ => wpAny (model prog w) A (eval slice env) (λ i s₂ => s₂.TypeIs o T /\ wpAny (model prog w) A (getItem o i) Q E s₂) E s₁) E s) :
   wpAny (model prog w) A (eval (.Subscript value slice pos) env) Q E s := by
 refine Subscript_ (wpAny_mono h (λ o s₁ h₁ => wpAny_mono h₁ (λ i s₂ h₂ => ?_) λ _ _ x => x) λ _ _ x => x)
 obtain ⟨hT, h₂⟩ := h₂
 unfold subscriptTail
 refine wpAny_bind ?_
 rw [getitemInPython_of_ne hT.not_modules]
 refine wpAny_bind (wpAny_specialOf hT hl ?_)
 have fin : wpAny (model prog w) A (subscripted slice false o i) (λ r s₃ => wpAny (model prog w) A (letTemporaryGo value o r >>= λ _ => pure r) Q E s₃) E s₂ := by
   rw [hs o i]
   exact wpAny_operating (wpAny_mono h₂ (λ r s₃ h₃ => wpAny_bind (wpAny_letTemporaryGo (wpAny_pure h₃))) λ _ _ x => x)
 first
   | exact wpAny_pure (wpAny_bind fin)
   | exact wpAny_bind (wpAny_pure (wpAny_bind fin))
   | exact wpAny_bind fin
theorem dict_typeIs {X : Cx} {pins : List (Addr × Obj)} {σ : St} {H : Hp} {s : Shared} {a : Addr} {y : V} {o : Option V} (I : Inv X pins σ H s) (g : DGet H a y o) : s.TypeIs (.ref a) "dict" := by
 rcases g with ⟨kvs, k, e, _, _⟩ | ⟨kvs, k, b, e, _, _, _⟩
 . obtain ⟨_, _, vs, _, dd⟩ := dk_rd I.hok e
   exact dd.typeIs
 . obtain ⟨_, _, xs, _, dd⟩ := dt_rd I.hok e
   exact dd.typeIs
def tDGet (td ty : TE) : TE := λ σ H Q => td σ H λ x H1 => ty σ H1 λ y H2 => ∃ a v, x = .ref a /\ DGet H2 a y (some v) /\ Q v H2
def tDIn (ty td : TE) : TE := λ σ H Q => ty σ H λ y H1 => td σ H1 λ x H2 => ∃ a o, x = .ref a /\ DGet H2 a y o /\ Q (.bl o.isSome) H2
def sDPut (td ty tv : TE) : TS := λ D σ H => tv σ H λ v H1 => td σ H1 λ x H2 => ty σ H2 λ y H3 => ∃ a H4, x = .ref a /\ DPut H3 a y v H4 /\ D.nx σ H4
section
variable {X : Cx} {o i e value : Expr} {pos pos' tpos : Pos} {td ty tv : TE}
theorem pe_dget (hu : X.A.units + 1 < cLine) (ho : PE X o td) (hi : PE X i ty) (hs : NoSl i) : PE X (.Subscript o i pos) (tDGet td ty) := by
 intro pins s σ H Q I h
 refine subD_of PySem.F.slot_dict_getitem.lookup hs (thn (ho pins s σ H _ I h) λ u s1 ⟨x, H1, I1, rx, q1⟩ => thn (hi pins s1 σ H1 _ I1 q1) λ iv s2 ⟨y, H2, I2, ry, a, v, ex, g, q2⟩ => ?_)
 subst ex
 obtain rfl : u = Value.ref a := rx
 exact ⟨dict_typeIs I2 g, d_getItem hu I2 g ry λ w' s3 I3 rw' => ⟨v, H2, I3, rw', q2⟩⟩
theorem pc_din (hu : X.A.units + 1 < cLine) (hi : PE X i ty) (ho : PE X o td) : PC X .In i o (tDIn ty td) := by
 intro pins s σ H Q I h
 refine thn (hi pins s σ H _ I h) λ iv s1 ⟨y, H1, I1, ry, q1⟩ => thn (ho pins s1 σ H1 _ I1 q1) λ u s2 ⟨x, H2, I2, rx, a, ov, ex, g, q2⟩ => ?_
 subst ex
 obtain rfl : u = Value.ref a := rx
 exact d_in hu I2 g ry λ s3 I3 => ⟨.bl ov.isSome, H2, I3, rfl, q2⟩
theorem ps_dput (hu : X.A.units + 1 < cLine) (ho : PE X o td) (hi : PE X i ty) (hv : PE X value tv) (hs : swapsWith value (some (.Subscript o i pos')) pos.line X.env = pure false) :
   PS X (.Assign [.Subscript o i pos'] value pos) (sDPut td ty tv) := by
 intro pins s σ H D I h
 refine wpAny_Assign_Subscript (thn (hv pins s σ H _ I h) λ r s1 ⟨v, H1, I1, rv, q1⟩ => thn (ho pins s1 σ H1 _ I1 q1) λ u s2 ⟨x, H2, I2, rx, q2⟩ => thn (hi pins s2 σ H2 _ I2 q2) λ iv s3 ⟨y, H3, I3, ry, a, H4, ex, g, q3⟩ => ?_) hs
 subst ex
 obtain rfl : u = Value.ref a := rx
 exact d_setItem hu I3 g ry rv λ s4 I4 => ⟨σ, H4, I4, q3⟩
end
theorem dk_empty {P : Program} {w : World} {H : Hp} (h : Heap) (hb : sysModules < h.objs.size) : ObjOk P w H (h.push { cls := .type "dict", data := .dict #[] }) h.objs.size (.dK []) :=
 ⟨Nat.zero_le _, beq_eq_false_iff_ne.mpr (Ne.symm (Nat.ne_of_lt hb)), [], .nil, Heap.DictOf.new h⟩
def tDNewK : TE := λ _ H Q => ∀ p, H p = none -> Q (.ref p) (upd H p (.dK []))
section
variable {X : Cx} {pos : Pos}
theorem pe_dnewK : PE X (.Dict [] [] pos) tDNewK := λ pins s σ H Q I h =>
 wpAny_Dict_empty ⟨.ref s.heap.objs.size, _, I.laid (a := s.heap.objs.size) (o := .dK []) (t' := s.toks) (λ _ _ q => Heap.get?_push_of_some _ q) (Nat.le_refl _) (dk_empty s.heap I.big), rfl, h _ (I.hok.fresh (Nat.le_refl _))⟩
end
structure M2 (X : Cx) (o : Expr) (m : Str) (apos : Pos) (e f : Expr) (cpos : Pos) : Prop where
 base : attributeBase o m X.env (eval o X.env) = eval o X.env
 few : ((backTo cpos (starEach [e, f] X.env)).all (λ x => !x.1) && (backToKw cpos (keywordEach [] X.env)).all (λ x => x.1.isSome)
   && decide (([e, f] : List Expr).length + ([] : List Keyword).length + (if ([] : List Keyword).isEmpty then 0 else 1) < 30)) = true
 line : (apos.endLine == cpos.line) = true
 trees : backTo cpos (starEach [e, f] X.env) = [(false, eval e X.env), (false, eval f X.env)]
def IsD (H : Hp) (a : Addr) : Prop := (∃ kvs, Rd H a (.dK kvs)) \/ ∃ kvs, Rd H a (.dT kvs)
theorem isD_at {X : Cx} {pins : List (Addr × Obj)} {σ : St} {H : Hp} {s : Shared} {a : Addr} (I : Inv X pins σ H s) (d : IsD H a) :
   s.TypeIs (.ref a) "dict" /\ (∀ b, Value.ref a = .ref b -> ∃ ob, s.heap.get? b = some ob /\ ob.dict = none) /\ (a == sysModules) = false := by
 rcases d with ⟨kvs, e⟩ | ⟨kvs, e⟩
 . obtain ⟨_, hd, vs, _, dd⟩ := dk_rd I.hok e
   refine ⟨dd.typeIs, λ b q => ?_, hd⟩
   cases q
   obtain ⟨ob, _, _, h1, h2, _⟩ := dd
   exact ⟨ob, h1, h2.2.1⟩
 . obtain ⟨_, hd, xs, _, dd⟩ := dt_rd I.hok e
   refine ⟨dd.typeIs, λ b q => ?_, hd⟩
   cases q
   obtain ⟨ob, _, _, h1, h2, _⟩ := dd
   exact ⟨ob, h1, h2.2.1⟩
section
variable {X : Cx} {pins : List (Addr × Obj)} {σ : St} {H : Hp} {s : Shared} {a : Addr} {y d : V} {u r : Value} {o : Option V} {A : Around} {E : Value -> Shared -> Prop}
end
section
variable {X : Cx} {o e f : Expr} {apos cpos : Pos} {td ty tx : TE}
end
section
variable {X : Cx} {pins : List (Addr × Obj)} {σ : St} {H : Hp} {s : Shared} {a : Addr} {kvs : List (Key × V)} {A : Around} {E : Value -> Shared -> Prop}
end
section
variable {X : Cx} {pins : List (Addr × Obj)} {σ : St} {H : Hp} {s : Shared} {a : Addr} {y : V} {u : Value} {A : Around} {E : Value -> Shared -> Prop}
end
end L2
set_option maxHeartbeats 4000000
namespace L2
open PySem PySem.Spec PyProof.Rows
def closL : List (Str × NameKind) -> List (Str × Addr) -> List (Str × Addr) -> List (Str × Addr)
 | [], _, acc => acc
 | (n, k) :: r, cells, acc => if k == .free then closL r cells ((n, (cells.lookup n).getD 0) :: acc) else closL r cells acc
theorem closL_for {env : Env} : ∀ (names : List (Str × NameKind)) (acc : List (Str × Addr)), (∀ y ∈ names, y.2 = .free -> ∃ c, env.cells.lookup y.1 = some c) ->
   (forIn names acc λ x r => (match x with | (name, kind) => if (kind == NameKind.free) = true then do let a <- cellOf env name; pure (ForInStep.yield ((name, a) :: r)) else pure (ForInStep.yield r) : Sem (ForInStep (List (Str × Addr))))) = (pure (closL names env.cells acc) : Sem (List (Str × Addr)))
 | [], acc, _ => rfl
 | (n, k) :: r, acc, h => by
   have ih := λ acc => closL_for (env := env) r acc λ y hy => h y (List.mem_cons_of_mem _ hy)
   rw [List.forIn_cons]
   unfold closL
   cases hk : (k == NameKind.free) with
   | true =>
     obtain ⟨c, hc⟩ := h (n, k) List.mem_cons_self (by simpa using hk)
     have hc : env.cells.lookup n = some c := hc
     have e : cellOf env n = pure c := by unfold cellOf; rw [hc]
     simp only [hk, if_true, e, pure_bind, hc, Option.getD_some]
     exact ih _
   | false =>
     simp only [hk, Bool.false_eq_true, if_false, pure_bind]
     exact ih _
theorem closL_eq {scope : Scope} {env : Env} (h : ∀ y ∈ scope.names, y.2 = .free -> ∃ c, env.cells.lookup y.1 = some c) : closureFor scope env = pure (closL scope.names env.cells []) := by
 have e := closL_for (env := env) scope.names [] h
 unfold closureFor
 first
   | (rw [e]; rfl)
   | (simp only [e]; rfl)
   | exact (congrArg (λ t => t >>= λ r => pure r) e)
theorem closL_sub {cells : List (Str × Addr)} : ∀ (names : List (Str × NameKind)) (acc : List (Str × Addr)), (∀ y ∈ names, y.2 = .free -> ∃ c, cells.lookup y.1 = some c) -> (∀ x c, acc.lookup x = some c -> cells.lookup x = some c) ->
   ∀ x c, (closL names cells acc).lookup x = some c -> cells.lookup x = some c
 | [], acc, _, h2 => h2
 | (n, k) :: r, acc, h, h2 => by
   unfold closL
   cases hk : (k == NameKind.free) with
   | true =>
     rw [if_pos rfl]
     refine closL_sub r _ (λ y hy => h y (List.mem_cons_of_mem _ hy)) λ x c e => ?_
     obtain ⟨c', hc⟩ := h (n, k) List.mem_cons_self (by simpa using hk)
     have hc : cells.lookup n = some c' := hc
     rw [List.lookup_cons] at e
     cases hx : x == n with
     | true =>
       have hx' : x = n := by simpa using hx
       rw [hx] at e
       rw [hx', hc]
       simpa [hc] using e
     | false =>
       rw [hx] at e
       exact h2 x c e
   | false =>
     rw [if_neg (by simp)]
     exact closL_sub r _ (λ y hy => h y (List.mem_cons_of_mem _ hy)) h2
theorem closL_acc {cells : List (Str × Addr)} {x : Str} : ∀ (names : List (Str × NameKind)) (acc : List (Str × Addr)), (acc.lookup x).isSome = true -> ((closL names cells acc).lookup x).isSome = true
 | [], _, h => h
 | (n, k) :: r, acc, h => by
   unfold closL
   split
   . refine closL_acc r _ ?_
     rw [List.lookup_cons]
     cases x == n <;> simp [h]
   . exact closL_acc r _ h
theorem closL_has {cells : List (Str × Addr)} {x : Str} : ∀ (names : List (Str × NameKind)) (acc : List (Str × Addr)), (x, NameKind.free) ∈ names -> ((closL names cells acc).lookup x).isSome = true
 | (n, k) :: r, acc, h => by
   unfold closL
   rcases List.mem_cons.mp h with e | e
   . cases e
     rw [if_pos (by rfl)]
     exact closL_acc r _ (by rw [List.lookup_cons]; simp)
   . split
     . exact closL_has r _ e
     . exact closL_has r _ e
def compCx (X : Cx) (N' : List Str) (scope : Scope) (C : Addr) (s : Shared) (H : Hp) (fp : List Addr) : Cx :=
 { X with N := N', s₀ := s, H₀ := H, env := compEnvC scope (closL scope.names X.env.cells []) C X.env, outer := X.stack, stack := X.stack, ex := fp, fn := λ _ => false, pn := [], xe := λ _ _ => False }
def cap (js : List (Option Nat)) (σ : St) : St := js.map λ o => o.bind λ j => (σ[j]?).join
def compOk (scope osc : Scope) (N' N : List Str) (js : List (Option Nat)) : Bool :=
 (scope.kind == .function) && (scope.names.all λ y => y.2 != .cell && (if y.2 == .local then scope.names.lookup y.1 == some .local else true) &&
   (if y.2 == .free then osc.names.lookup y.1 == some .cell || osc.names.lookup y.1 == some .free else true)) &&
 js.length == N'.length && ((js.zip N').all λ q => match q.1 with
   | none => true
   | some j => N[j]? == some q.2 && (osc.names.lookup q.2 == some .cell || osc.names.lookup q.2 == some .free) && scope.names.lookup q.2 == some .free)
structure CompOk (scope osc : Scope) (N' N : List Str) (js : List (Option Nat)) : Prop where
 kind : scope.kind = .function
 nocell : ∀ y ∈ scope.names, y.2 ≠ .cell
 names : ∀ y ∈ scope.names, y.2 = .local -> scope.names.lookup y.1 = some .local
 free : ∀ y ∈ scope.names, y.2 = .free -> osc.names.lookup y.1 = some .cell \/ osc.names.lookup y.1 = some .free
 len : js.length = N'.length
 slots : ∀ (i j : Nat) (x : Str), js[i]? = some (some j) -> N'[i]? = some x -> N[j]? = some x /\ (osc.names.lookup x = some .cell \/ osc.names.lookup x = some .free) /\ scope.names.lookup x = some .free
theorem compOk_of {scope osc : Scope} {N' N : List Str} {js : List (Option Nat)} (h : compOk scope osc N' N js = true) : CompOk scope osc N' N js := by
 unfold compOk at h
 rw [Bool.and_eq_true, Bool.and_eq_true, Bool.and_eq_true, List.all_eq_true, List.all_eq_true] at h
 obtain ⟨⟨⟨h1, h2⟩, h3⟩, h4⟩ := h
 refine ⟨by cases hk : scope.kind <;> first | rfl | (rw [hk] at h1; cases h1), λ y hy e => ?_, λ y hy e => ?_, λ y hy e => ?_, by simpa using h3, λ i j x e1 e2 => ?_⟩
 . have q := h2 y hy
   rw [e] at q
   simp at q
 . have q := h2 y hy
   rw [Bool.and_eq_true, Bool.and_eq_true] at q
   have q2 := q.1.2
   rw [e] at q2
   simpa using q2
 . have q := h2 y hy
   rw [Bool.and_eq_true, Bool.and_eq_true] at q
   have q2 := q.2
   rw [e] at q2
   simpa using q2
 . have hm : (some j, x) ∈ js.zip N' := by
     refine List.mem_of_getElem? (i := i) ?_
     rw [List.getElem?_zip_eq_some]
     exact ⟨e1, e2⟩
   have q := h4 _ hm
   simp only [Bool.and_eq_true, Bool.or_eq_true, beq_iff_eq] at q
   exact ⟨q.1.1, q.1.2, q.2⟩
theorem relabel_lookup {env : Env} : ∀ (names : List (Str × NameKind)) (x : Str), names.lookup x = some .free ->
   ((names.map λ (n, k) => if (k == NameKind.free && env.scope.kind == .function && env.kindOf n == some .cell) then (n, NameKind.cell) else (n, k)).lookup x = some .cell \/
     (names.map λ (n, k) => if (k == NameKind.free && env.scope.kind == .function && env.kindOf n == some .cell) then (n, NameKind.cell) else (n, k)).lookup x = some .free)
 | [], x, h => by simp at h
 | (n, k) :: r, x, h => by
   have ih := relabel_lookup (env := env) r x
   rw [List.map_cons]
   rw [List.lookup_cons] at h
   by_cases hb : (k == NameKind.free && env.scope.kind == .function && env.kindOf n == some .cell) = true
   . have e1 : (if (k == NameKind.free && env.scope.kind == .function && env.kindOf n == some .cell) = true then (n, NameKind.cell) else (n, k)) = (n, NameKind.cell) := if_pos hb
     simp only [e1, List.lookup_cons]
     cases hx : x == n with
     | true => exact .inl rfl
     | false =>
       rw [hx] at h
       exact ih h
   . have e1 : (if (k == NameKind.free && env.scope.kind == .function && env.kindOf n == some .cell) = true then (n, NameKind.cell) else (n, k)) = (n, k) := if_neg hb
     simp only [e1, List.lookup_cons]
     cases hx : x == n with
     | true =>
       rw [hx] at h
       exact .inr h
     | false =>
       rw [hx] at h
       exact ih h
theorem relabel_free {scope : Scope} {env : Env} : ∀ (names : List (Str × NameKind)) (x : Str), (∀ y ∈ names, y.2 ≠ .cell) ->
   ((names.map λ (n, k) => if (k == NameKind.free && env.scope.kind == .function && env.kindOf n == some .cell) then (n, NameKind.cell) else (n, k)).lookup x = some .cell \/
     (names.map λ (n, k) => if (k == NameKind.free && env.scope.kind == .function && env.kindOf n == some .cell) then (n, NameKind.cell) else (n, k)).lookup x = some .free) -> (x, NameKind.free) ∈ names
 | [], x, _, h => by simp at h
 | (n, k) :: r, x, hc, h => by
   have ih := relabel_free (scope := scope) (env := env) r x λ y hy => hc y (List.mem_cons_of_mem _ hy)
   rw [List.map_cons] at h
   by_cases hb : (k == NameKind.free && env.scope.kind == .function && env.kindOf n == some .cell) = true
   . have hkf : k = .free := by
       rw [Bool.and_eq_true, Bool.and_eq_true] at hb
       simpa using hb.1.1
     have e1 : (if (k == NameKind.free && env.scope.kind == .function && env.kindOf n == some .cell) = true then (n, NameKind.cell) else (n, k)) = (n, NameKind.cell) := if_pos hb
     simp only [e1, List.lookup_cons] at h
     cases hx : x == n with
     | true =>
       have hx' : x = n := by simpa using hx
       rw [hx', hkf]
       exact List.mem_cons_self
     | false =>
       rw [hx] at h
       exact List.mem_cons_of_mem _ (ih h)
   . have e1 : (if (k == NameKind.free && env.scope.kind == .function && env.kindOf n == some .cell) = true then (n, NameKind.cell) else (n, k)) = (n, k) := if_neg hb
     simp only [e1, List.lookup_cons] at h
     cases hx : x == n with
     | true =>
       have hx' : x = n := by simpa using hx
       rw [hx] at h
       rcases h with h | h
       . exact absurd (Option.some.inj h) (hc (n, k) List.mem_cons_self)
       . have hkf : k = .free := Option.some.inj h
         rw [hx', hkf]
         exact List.mem_cons_self
     | false =>
       rw [hx] at h
       exact List.mem_cons_of_mem _ (ih h)
theorem Un.sameBut {fs ex : List Addr} {H H' : Hp} {h h1 h2 : Heap} {C : Addr} (u : Un fs ex H H' h h1) (hs : Heap.SameBut C h1 h2) (hC : h.objs.size <= C) : Un fs ex H H' h h2 := by
 have ne : ∀ b o, h.get? b = some o -> b ≠ C := λ b o e => Nat.ne_of_lt (Nat.lt_of_lt_of_le (Heap.lt_size e) hC)
 refine ⟨λ b o e n hb hx => (hs.2 b (ne b o e)).trans (u.keep b o e n hb hx), λ b o e n hb hx => ?_, u.free, λ b o e hx => ?_, u.tups, u.frzs, u.tbls⟩
 . obtain ⟨sl, q⟩ := u.slot b o e n hb hx
   exact ⟨sl, (hs.2 b (ne b o e)).trans q⟩
 . obtain ⟨o', q⟩ := u.there b o e hx
   exact ⟨o', (hs.2 b (ne b o e)).trans q⟩
theorem thn0 {α : Type} {t : Sem α} {Q Q' : α -> Shared -> Prop} {M : Model} {A : Around} {E : Value -> Shared -> Prop} {s : Shared} (h : wpAny M A t Q (λ _ _ => False) s) (hQ : ∀ a s, Q a s -> Q' a s) : wpAny M A t Q' E s := wpAny_mono h hQ λ _ _ f => f.elim
theorem comp_loop {prog : Program} {w : World} {A : Around} {R : Result -> Shared -> Prop} {s : Shared} {elt target iter : Expr} {ifs : List Expr} {scope : Scope} {pos : Pos} {it acc : Value} {env : Env} (I : Nat -> Shared -> Prop)
   (turn : ∀ n s, I n s -> wpAny (model prog w) A (pyNext it) (λ r s₁ => match r with
     | none => R (.ok .next) s₁
     | some v => wpAny (model prog w) A (letOwnedTupleGo target it v) (λ _ s₂ => wpAny (model prog w) A (assign target env v) (λ _ s₃ =>
         wpAny (model prog w) A (forIn ifs true λ c r => if r = true then do let ok <- isTrue c env (eval c env); pure (ForInStep.yield ok) else pure (ForInStep.yield r)) (λ ok s₄ =>
           if ok = true then wpAny (model prog w) A (eval elt env) (λ x s₅ =>
             wpAny (model prog w) A (call (.builtin "list.append") [acc, x]) (λ _ s₆ => ∃ m, m < n /\ I m s₆) (λ _ _ => False) s₅) (λ _ _ => False) s₄
           else ∃ m, m < n /\ I m s₄) (λ _ _ => False) s₃) (λ _ _ => False) s₂) (λ _ _ => False) s₁) (λ _ _ => False) s)
   (n : Nat) (h : I n s) : codeAny (model prog w) A (.compLoop (.ListComp elt [⟨target, iter, ifs, 0⟩] scope pos) 0 it acc env) R s := by
 refine codeAny_loop rfl I (λ n s hI => ?_) n h
 show wpAny _ A ((compTurn (.ListComp elt [⟨target, iter, ifs, 0⟩] scope pos) 0 it acc env).onRaise (λ x => do noteFrame x env; theTreesLotGoes x)) _ _ s
 refine wpAny_noted ?_
 rw [compTurn_list]
 refine wpAny_bind (wpAny_standAt (wpAny_bind (thn0 (turn n s hI) λ r s₁ h₁ => ?_)))
 cases r with
 | none => exact wpAny_pure h₁
 | some v =>
   refine wpAny_bind (thn0 h₁ λ _ s₂ h₂ => wpAny_bind (thn0 h₂ λ _ s₃ h₃ => wpAny_bind (thn0 h₃ λ ok s₄ h₄ => ?_)))
   cases ok with
   | false => exact wpAny_pure ⟨rfl, h₄⟩
   | true =>
     exact wpAny_bind (wpAny_bind (thn0 h₄ λ x s₅ h₅ => wpAny_bind (thn0 h₅ λ _ s₆ h₆ => wpAny_pure (wpAny_pure ⟨rfl, h₆⟩))))
def PIf (X : Cx) (ifs : List Expr) (t : TT) : Prop :=
 ∀ (pins : List (Addr × Obj)) (s : Shared) (σ : St) (H : Hp) (Q : Bool -> Hp -> Prop), Inv X pins σ H s -> t σ H Q ->
   wpAny (model X.prog X.w) X.A (forIn ifs true λ c r => if r = true then do let ok <- isTrue c X.env (eval c X.env); pure (ForInStep.yield ok) else pure (ForInStep.yield r)) (TP X pins σ Q) X.xe s
def tYes : TT := λ _ H Q => Q true H
theorem pif_nil {X : Cx} : PIf X [] tYes := λ _ _ _ H _ I h => wpAny_tests_nil ⟨H, I, h⟩
theorem pif_one {X : Cx} {c : Expr} {t : TT} (h : PT X c t) : PIf X [c] t := λ pins s σ H Q I hq => wpAny_tests_one (h pins s σ H Q I hq)
def OwnG (js : List (Option Nat)) (g : TG) : Prop := ∀ (x : V) (σ : St) (H : Hp) (Q : St -> Hp -> Prop), σ.length = js.length -> g x σ H Q -> g x σ H λ σ' H' => Q σ' H' /\ σ'.length = js.length /\ ∀ (i j : Nat), js[i]? = some (some j) -> σ'[i]? = σ[i]?
def OwnGs (js : List (Option Nat)) (g : TGs) : Prop := ∀ (x : List V) (σ : St) (H : Hp) (Q : St -> Hp -> Prop), σ.length = js.length -> g x σ H Q -> ∀ Q' : St -> Hp -> Prop, (∀ σ' H', Q σ' H' -> σ'.length = js.length -> (∀ (i j : Nat), js[i]? = some (some j) -> σ'[i]? = σ[i]?) -> Q' σ' H') -> g x σ H Q'
theorem own_name {js : List (Option Nat)} {i : Nat} (h : js[i]? = some none := by rfl) : OwnG js (gName i) := λ x σ H Q hl q => ⟨q, by rw [List.length_set]; exact hl, λ k j e => by
 rw [List.getElem?_set_ne]
 intro z
 subst z
 rw [h] at e
 cases e⟩
theorem own_nil {js : List (Option Nat)} : OwnGs js gNil := λ x σ H Q hl ⟨e, q⟩ Q' k => ⟨e, k _ _ q hl λ _ _ _ => rfl⟩
theorem own_cons {js : List (Option Nat)} {i : Nat} {u : TGs} (hu : OwnGs js u) (h : js[i]? = some none := by rfl) : OwnGs js (gCons (gName i) u) := λ x σ H Q hl ⟨v, r, e, q⟩ Q' k => ⟨v, r, e, by
 have hl' : (σ.set i (some v)).length = js.length := by rw [List.length_set]; exact hl
 exact hu r (σ.set i (some v)) H Q hl' q _ λ σ' H' z1 z2 z3 => k σ' H' z1 z2 λ n j e => (z3 n j e).trans (by
   rw [List.getElem?_set_ne]
   intro z
   subst z
   rw [h] at e
   cases e)⟩
theorem own_tup {js : List (Option Nat)} {K : W.Frag} {n : Nat} {t : TGs} (h : OwnGs js t) : OwnG js (gTup K n t) := λ x σ H Q hl ⟨a, xs, e, sq, l, q⟩ => ⟨a, xs, e, sq, l, h xs σ H Q hl q _ λ σ' H' z1 z2 z3 => ⟨z1, z2, z3⟩⟩
def CompW (J : It) (g : TG) (tif : TT) (te : TE) (js : List (Option Nat)) (σ : St) (Q : VK) (p : Addr) (H1 : Hp) : Prop :=
 ∃ W : Nat -> Nat -> List V -> Hp -> Prop, (∃ m, W 0 m [] (upd H1 p (.lst []))) /\ ∀ i m acc H2, W i m acc H2 -> H2 p = some (.lst acc) /\
   ((J.stop i H2 /\ Q (.ref p) H2) \/ (J.go i H2 /\ acc.length < sizeLine /\ ∃ N : List V -> Hp -> Prop, (∀ acc' H', N acc' H' -> ∃ m', m' < m /\ W (i + 1) m' acc' H') /\
     ∀ x H', J.yld i H2 x H' -> g x (cap js σ) H' λ σ2 H3 => tif σ2 H3 λ c H4 =>
       if c = true then te σ2 H4 λ y H5 => H5 p = some (.lst acc) /\ N (acc ++ [y]) (upd H5 p (.lst (acc ++ [y]))) else N acc H4))
def tComp (wi : TI) (g : TG) (tif : TT) (te : TE) (js : List (Option Nat)) : TE := λ σ H Q => wi σ H λ J H1 => ∀ p, H1 p = none -> CompW J g tif te js σ Q p H1
theorem comp_core {X : Cx} {use : Option (Value -> Sem Unit)} {Q' : Value -> Shared -> Prop} {Q : VK} {pins : List (Addr × Obj)} {s : Shared} {σ : St} {H : Hp} {elt target iter : Expr} {ifs : List Expr} {scope : Scope} {pos : Pos} {wi : TI} {g : TG} {tif : TT} {te : TE} {N' : List Str} {js : List (Option Nat)} (hok : compOk scope X.env.scope N' X.N js = true) (hc : X.calm = true)
   (hi : PI X target iter wi) (ho : OwnG js g) (hg : ∀ C s H fp, PG (compCx X N' scope C s H fp) target g) (hif : ∀ C s H fp, PIf (compCx X N' scope C s H fp) ifs tif) (he : ∀ C s H fp, PE (compCx X N' scope C s H fp) elt te)
   (hs : ∀ x, foldedSetIterable iter X.env x = pure x) (I : Inv X pins σ H s) (h : tComp wi g tif te js σ H Q)
   (hfin : ∀ (s2 : Shared) (H2 : Hp) (fp : List Addr) (C : Addr), Inv X pins σ H2 s2 -> (∀ b ∈ fp, FpOk X pins H2 b) -> s2.heap.objs.size <= C -> ∀ (σ' : St) (H' : Hp) (s' : Shared), Inv (compCx X N' scope C s2 H2 fp) [] σ' H' s' -> Q (.ref s2.heap.objs.size) H' ->
     compPost (model X.prog X.w) X.A X.xe use Q' (.ref s2.heap.objs.size) C (.ok .next) s') :
   wpAny (model X.prog X.w) X.A (comprehension (.ListComp elt [⟨target, iter, ifs, 0⟩] scope pos) scope X.env (firstIterPos [⟨target, iter, ifs, 0⟩] pos) (newList []) false (eval iter X.env) use) Q' X.xe s := by
 have O := compOk_of hok
 have hfr : ∀ y ∈ scope.names, y.2 = .free -> ∃ c, X.env.cells.lookup y.1 = some c := λ y hy e => I.ok.has y.1 (O.free y hy e)
 refine wpAny_comprehension_free (use := use) rfl hs (closL_eq hfr) O.kind O.names (thn (hi pins s σ H _ I h) λ v s1 h1 => thn h1 λ itv s2 h2 => ?_)
 obtain ⟨it, fp, tn, J, H2, e, I2, T, st2, f2, hq⟩ := h2
 subst e
 have hf0 : H2 s2.heap.objs.size = none := I2.hok.fresh (Nat.le_refl _)
 obtain ⟨W, ⟨m0, w0⟩, turn⟩ := hq _ hf0
 refine wpAny_newObj_type (wpAny_newFunctionEnv O.nocell (by intro y hy; simp at hy) (λ h₁ hns₁ hsb₁ => ?_) O.kind)
 dsimp only at hns₁ hsb₁ ⊢
 generalize hH2 : s2.heap.push { cls := .type "list", dict := none, data := .seq ([] : List Value).toArray } = B at hns₁ hsb₁ ⊢
 have hC : B.objs.size = s2.heap.objs.size + 1 := by rw [<- hH2, Heap.size_push]
 have hCle : s2.heap.objs.size <= B.objs.size := by rw [hC]; exact Nat.le_succ _
 have old : ∀ b o, s2.heap.get? b = some o -> h₁.get? b = some o := λ b o e => hsb₁.extBut b o (by rw [hC]; exact Nat.ne_of_lt (Nat.lt_succ_of_lt (Heap.lt_size e))) (Heap.get?_push_of_some _ (hH2 ▸ Heap.get?_push_of_some _ e))
 have hDC : s2.heap.objs.size ≠ B.objs.size := by rw [hC]; exact Nat.ne_of_lt (Nat.lt_succ_self _)
 have hacc : h₁.get? s2.heap.objs.size = some { cls := .type "list", dict := none, data := .seq ([] : List Value).toArray } := hsb₁.extBut _ _ hDC (Heap.get?_push_of_some _ (hH2 ▸ Heap.get?_push_size _ rfl))
 have fpO : ∀ b ∈ fp, b < s2.heap.objs.size := λ b hb => by
   obtain ⟨o, e, _⟩ := T.obj 0 _ st2 b hb
   exact Heap.lt_size e
 have sub : ∀ x c, (closL scope.names X.env.cells []).lookup x = some c -> X.env.cells.lookup x = some c := closL_sub scope.names [] hfr (λ x c e => by cases e)
 have hasC : ∀ x, ((relabel scope X.env).names.lookup x = some .cell \/ (relabel scope X.env).names.lookup x = some .free) -> ∃ c, (closL scope.names X.env.cells []).lookup x = some c := λ x hx =>
   Option.isSome_iff_exists.mp (closL_has scope.names [] (relabel_free (scope := scope) (env := X.env) scope.names x O.nocell hx))
 -- the block's context at its begin
 have IY : ∀ t, Inv (compCx X N' scope B.objs.size s2 H2 fp) [] (cap js σ) (upd H2 s2.heap.objs.size (.lst [])) { s2 with heap := h₁, toks := t } := by
   intro t
   refine ⟨⟨I2.ok.mod, O.kind, I2.ok.glob, I2.ok.blt, hCle, λ x y c h1 h2 => I2.ok.inj x y c (sub x c h1) (sub y c h2), λ x hx => hasC x hx, λ x c h => (by cases h), I2.ok.hd, I2.ok.frames, .inl rfl, λ b hb => ⟨Nat.ne_of_lt (Nat.lt_of_lt_of_le (fpO b hb) hCle), λ x c e => (f2 b hb).2.2.2.2.1 x c (sub x c e)⟩,
     I2.bs, Nat.le_trans I2.ok.bsz I2.sz, λ b o e hb => ?_, λ b hb z => ?_, I2.stack, I2.stkFree⟩, rfl, I2.bare, Un.laid old (Nat.le_refl _) hf0, ⟨_, hns₁, λ i x v e1 e2 e3 => ?_⟩, λ x c e => ?_, ?_, λ x c e => ?_, λ p hp => absurd (show p ∈ ([] : List (Addr × Obj)) from hp) (by simp), ?_, ?_⟩
   . rcases (f2 b hb).2.2.2.1 with z | z
     . exact I2.ok.noex b o e z
     . exact absurd (Nat.lt_of_lt_of_le (Nat.lt_of_lt_of_le (Heap.lt_size e) I2.ok.bsz) z) (Nat.lt_irrefl _)
   . rcases List.mem_cons.mp (I2.stkSub b z) with q | q
     . exact (f2 b hb).2.1 q
     . exact (f2 b hb).2.2.1 q
   . have e1 : N'[i]? = some x := e1
     unfold cap at e2
     rw [List.getElem?_map] at e2
     cases q : js[i]? with
     | none => rw [q] at e2; cases e2
     | some o =>
       rw [q] at e2
       cases o with
       | none => cases e2
       | some j =>
         have e2 : (σ[j]?).join = some v := by simpa using e2
         have e2' : σ[j]? = some (some v) := by
           cases z : σ[j]? with
           | none => rw [z] at e2; cases e2
           | some a => rw [z] at e2; cases a with
             | none => cases e2
             | some a => cases e2; rfl
         obtain ⟨hN, hk, hsf⟩ := O.slots i j x q e1
         obtain ⟨m, hn, hl⟩ := I2.loc
         obtain ⟨u, r, l⟩ := hl j x v hN e2' (.inr hk)
         refine ⟨u, r, ?_⟩
         have hkX : X.env.kindOf x = some .cell \/ X.env.kindOf x = some .free := hk
         rcases l with ⟨k, _⟩ | ⟨k, c, hc', hcell⟩
         . rcases hkX with z | z
           . rw [k] at z; cases z
           . rw [k] at z; cases z
         . have hky : (relabel scope X.env).names.lookup x = some .cell \/ (relabel scope X.env).names.lookup x = some .free := relabel_lookup (env := X.env) scope.names x hsf
           obtain ⟨c2, hc2⟩ := hasC x hky
           have : c2 = c := by
             have := sub x c2 hc2
             rw [hc'] at this
             exact (Option.some.inj this).symm
           subst this
           obtain ⟨ob, ho, hd⟩ := hcell
           exact .inr ⟨hky, c2, hc2, ob, old _ _ ho, hd⟩
   . obtain ⟨v, ob, ho, hd⟩ := I2.cell x c (sub x c e)
     exact ⟨v, ob, old _ _ ho, hd⟩
   . show upd H2 s2.heap.objs.size (.lst []) B.objs.size = none
     rw [upd_ne (Ne.symm hDC)]
     exact I2.hok.fresh hCle
   . obtain ⟨v, ob, ho, hd⟩ := I2.cell x c (sub x c e)
     rw [upd_ne (Nat.ne_of_lt (Heap.lt_size ho))]
     exact I2.freeC x c (sub x c e)
   . exact I2.hok.laid old (Nat.le_refl _) ⟨Nat.zero_le _, [], 0, .nil, hacc⟩
   . unfold cap
     rw [List.length_map]
     exact O.len
 have hcl : (cap js σ).length = js.length := by unfold cap; rw [List.length_map]
 have fin : ∀ {σ' : St} {H' : Hp} {s' : Shared}, Inv (compCx X N' scope B.objs.size s2 H2 fp) [] σ' H' s' -> Q (.ref s2.heap.objs.size) H' -> compPost (model X.prog X.w) X.A X.xe use Q' (.ref s2.heap.objs.size) B.objs.size (.ok .next) s' :=
   λ {σ' H' s'} J q => hfin s2 H2 fp B.objs.size I2 f2 hCle σ' H' s' J q
 have loop : ∀ t, codeAny (model X.prog X.w) X.A (.compLoop (.ListComp elt [⟨target, iter, ifs, 0⟩] scope pos) 0 (.ref it) (.ref s2.heap.objs.size) (compEnvC scope (closL scope.names X.env.cells []) B.objs.size X.env))
     (compPost (model X.prog X.w) X.A X.xe use Q' (.ref s2.heap.objs.size) B.objs.size) { s2 with heap := h₁, toks := t } := by
   intro t
   have stat : ∀ {H' : Hp}, (∀ b ∈ fp, H' b = none) -> ∀ b ∈ fp, FpOk (compCx X N' scope B.objs.size s2 H2 fp) [] H' b := λ hn b hb =>
     ⟨hn b hb, Nat.ne_of_lt (Nat.lt_of_lt_of_le (fpO b hb) hCle), (IY t).ok.exfs b hb, .inl hb, λ x c e => ((IY t).ok.exf b hb).2 x c e, λ p hp => absurd (show p ∈ ([] : List (Addr × Obj)) from hp) (by simp)⟩
   refine comp_loop (λ n s' => ∃ i acc H', Inv (compCx X N' scope B.objs.size s2 H2 fp) [] (cap js σ) H' s' /\ tn i s'.heap /\ (∀ b ∈ fp, H' b = none) /\ W i n acc H') ?_ m0
     ⟨0, [], _, IY t, T.keep 0 _ _ st2 (λ b _ o e => old b o e), λ b hb => by rw [upd_ne (Nat.ne_of_lt (fpO b hb))]; exact (f2 b hb).1, w0⟩
   rintro n s3 ⟨i, acc, H3, I3, st3, fr3, w3⟩
   obtain ⟨hD, turn⟩ := turn i n acc H3 w3
   rcases turn with ⟨stop, qn⟩ | ⟨go, hlen, N, hN, step⟩
   . refine thn (T.done (compCx X N' scope B.objs.size s2 H2 fp) rfl rfl rfl hc i [] s3 (cap js σ) H3 (λ _ _ => False) I3 (stat fr3) st3 stop) λ r s4 ⟨hr, I4⟩ => ?_
     subst hr
     exact fin I4 qn
   . refine thn (T.item (compCx X N' scope B.objs.size s2 H2 fp) rfl rfl rfl hc i [] s3 (cap js σ) H3 (λ _ _ => False) I3 (stat fr3) st3 go) λ r s4 ⟨u, hr, h4⟩ => ?_
     subst hr
     refine thn h4 λ _ s5 ⟨x, H5, I5, r5, y5, st5, fr5⟩ => ?_
     have I5' := I5.pinned (stat fr5) (T.obj _ _ st5)
     refine thn (hg _ _ _ _ _ s5 (cap js σ) H5 x u _ I5' r5 (ho x (cap js σ) H5 _ hcl (step x H5 y5))) λ _ s6 ⟨σ6, H6, I6, q6, hl6, hk6⟩ => ?_
     refine thn (hif _ _ _ _ _ s6 σ6 H6 _ I6 q6) λ ok s7 ⟨H7, I7, q7⟩ => ?_
     have again : ∀ {H8 : Hp} {acc8 : List V} {s8 : Shared}, Inv (compCx X N' scope B.objs.size s2 H2 fp) ([] ++ pinsAt fp s5.heap) σ6 H8 s8 -> N acc8 H8 ->
         ∃ m, m < n /\ ∃ i acc H', Inv (compCx X N' scope B.objs.size s2 H2 fp) [] (cap js σ) H' s8 /\ tn i s8.heap /\ (∀ b ∈ fp, H' b = none) /\ W i m acc H' := by
       intro H8 acc8 s8 I8 n8
       obtain ⟨m', hm, w8⟩ := hN acc8 H8 n8
       refine ⟨m', hm, i + 1, acc8, H8, ?_, T.keep _ _ _ st5 λ b hb o e => (I8.pin (b, o) (List.mem_append_right _ (List.mem_append_right _ (mem_pinsAt hb e)))).1, λ b hb => ?_, w8⟩
       . refine Inv.weak I8.unpinned (by rw [hl6, hcl]) λ k v e => ?_
         have e' := e
         unfold cap at e
         rw [List.getElem?_map] at e
         cases q : js[k]? with
         | none => rw [q] at e; cases e
         | some o =>
           cases o with
           | none => rw [q] at e; cases e
           | some j => rw [hk6 k j q]; exact e'
       . obtain ⟨o, e, d⟩ := T.obj _ _ st5 b hb
         exact (I8.pin (b, o) (List.mem_append_right _ (List.mem_append_right _ (mem_pinsAt hb e)))).2.1
     cases ok with
     | false => exact again I7 q7
     | true =>
       refine thn (he _ _ _ _ _ s7 σ6 H7 _ I7 q7) λ y s8 ⟨yv, H8, I8, r8, hD8, q8⟩ => ?_
       refine thn (mt_append _ s8 σ6 H8 (.ref s2.heap.objs.size) [yv] (.ref s2.heap.objs.size) [y] (λ _ H9 => N (acc ++ [yv]) H9) I8 rfl (.cons r8 .nil) ⟨_, acc, yv, rfl, rfl, hD8, hlen, q8⟩) λ _ s9 ⟨_, H9, I9, _, q9⟩ => ?_
       exact again I9 q9
 exact codeAny_compStart_list (loop _) (T.self X.A 0 _ _ _ (T.keep 0 _ _ st2 (λ b _ o e => old b o e)) (loop _))
theorem pe_comp {X : Cx} {elt target iter : Expr} {ifs : List Expr} {scope : Scope} {pos : Pos} {wi : TI} {g : TG} {tif : TT} {te : TE} {N' : List Str} {js : List (Option Nat)} (hok : compOk scope X.env.scope N' X.N js = true) (hc : X.calm = true)
   (hi : PI X target iter wi) (ho : OwnG js g) (hg : ∀ C s H fp, PG (compCx X N' scope C s H fp) target g) (hif : ∀ C s H fp, PIf (compCx X N' scope C s H fp) ifs tif) (he : ∀ C s H fp, PE (compCx X N' scope C s H fp) elt te)
   (hs : ∀ x, foldedSetIterable iter X.env x = pure x := by intro _; rfl) : PE X (.ListComp elt [⟨target, iter, ifs, 0⟩] scope pos) (tComp wi g tif te js) := by
 intro pins s σ H Q I h
 rw [eval_ListComp]
 refine comp_core (use := none) hok hc hi ho hg hif he hs I h λ s2 H2 fp C I2 f2 hCle σ' H' s' J q => ?_
 obtain ⟨m, hn, _⟩ := J.loc
 refine ⟨m, hn, λ h' hs' => ⟨.ref s2.heap.objs.size, H', ?_, rfl, q⟩⟩
 refine I2.call' (s' := { s' with heap := h' }) (ch := fp) J.os (J.base.sameBut hs' hCle) (λ b ob e => ?_) J.bare λ b hb => ⟨(f2 b hb).2.2.2.1, (f2 b hb).2.1, (f2 b hb).2.2.2.2.1, (f2 b hb).2.2.2.2.2⟩
 refine (J.hok b ob e).stay (λ c w' hc q => (hs'.2 c ?_).trans q) (λ _ q => q) λ _ _ q => q
 have hfree : H' C = none := J.free
 intro hcC
 rw [hcC] at hc
 rcases hc with z | z
 . rw [<- z, hfree] at e; cases e
 . rw [hfree] at z; cases z
theorem ps_setc {X : Cx} {i : Nat} {y : Str} {elt target iter : Expr} {ifs : List Expr} {scope : Scope} {pos py spos : Pos} {wi : TI} {g : TG} {tif : TT} {te : TE} {N' : List Str} {js : List (Option Nat)} (hN : X.N.Nodup) (hi' : X.N[i]? = some y) (hx : Loc X.env.scope y)
   (hok : compOk scope X.env.scope N' X.N js = true) (hc : X.calm = true)
   (hi : PI X target iter wi) (ho : OwnG js g) (hg : ∀ C s H fp, PG (compCx X N' scope C s H fp) target g) (hif : ∀ C s H fp, PIf (compCx X N' scope C s H fp) ifs tif) (he : ∀ C s H fp, PE (compCx X N' scope C s H fp) elt te)
   (hsw : swapsWith (.ListComp elt [⟨target, iter, ifs, 0⟩] scope pos) (some (.Name y py)) spos.line X.env = pure true)
   (hs : ∀ x, foldedSetIterable iter X.env x = pure x := by intro _; rfl) (hf : X.fn y = true \/ X.env.scope.names.lookup y = some .local := by first | exact .inl rfl | exact .inr rfl | assumption) :
   PS X (.Assign [.Name y py] (.ListComp elt [⟨target, iter, ifs, 0⟩] scope pos) spos) (tAsg (tComp wi g tif te js) (gName i)) := by
 intro pins s σ H D I h
 rw [exec_Assign_Name_used _ _ _ _ hsw]
 refine wpAny_bind (wpAny_standAt (wpAny_bind ?_))
 show wpAny _ X.A (do let _ <- comprehension (.ListComp elt [⟨target, iter, ifs, 0⟩] scope pos) scope X.env _ (newList []) false (eval iter X.env) (some (assign (.Name y py) X.env))) _ _ s
 refine wpAny_bind (thn (comp_core (use := some (assign (.Name y py) X.env)) (Q' := λ _ s' => SP X pins D .next s') hok hc hi ho hg hif he hs I h λ s2 H2 fp C I2 f2 hCle σ' H' s' J q => ?_) λ _ s' q => ?_)
 . obtain ⟨m, hn, _⟩ := J.loc
   have I3 : Inv X pins σ H' s' := I2.call' (ch := fp) J.os J.base J.hok J.bare λ b hb => ⟨(f2 b hb).2.2.2.1, (f2 b hb).2.1, (f2 b hb).2.2.2.2.1, (f2 b hb).2.2.2.2.2⟩
   have hCL : C ≠ X.env.locals := λ z => absurd (Nat.lt_of_lt_of_le I2.lt hCle) (by rw [z]; exact Nat.lt_irrefl _)
   have hCc : ∀ x c, X.env.cells.lookup x = some c -> c ≠ C := λ x c e z => by
     obtain ⟨v, ob, ho, _⟩ := I2.cell x c e
     exact absurd (Nat.lt_of_lt_of_le (Heap.lt_size ho) hCle) (by rw [z]; exact Nat.lt_irrefl _)
   have hCp : ∀ p ∈ X.pn ++ pins, p.1 ≠ C := λ p hp z => by
     have e := (I2.pin p hp).1
     exact absurd (Nat.lt_of_lt_of_le (Heap.lt_size e) hCle) (by rw [z]; exact Nat.lt_irrefl _)
   show wpAny _ X.A (assign (.Name y py) X.env (.ref s2.heap.objs.size)) _ _ s'
   refine wpAny_assign_Name (store_ok2 I3 hN hi' hx (v := .ref s2.heap.objs.size) rfl (λ s'' I4 ⟨a, hsb, ha⟩ => ?_) hf)
   have hna : C ≠ a := by
     rcases ha with z | z
     . rw [z]; exact hCL
     . exact (hCc _ _ z).symm
   refine ⟨m, hn.sameBut hsb hna, λ h' hs' => ⟨_, H', ?_, q⟩⟩
   exact I4.turned (t' := s''.toks) (h' := h') (it := C) (λ b o hb e => (hs'.2 b hb).trans e) J.free hCL (.inr (Nat.le_trans I2.sz hCle)) hCc hCp
 . exact wpAny_pure (wpAny_pure q)
end L2
namespace L2
open PySem PySem.Spec PyProof.Rows
section
variable {X : Cx} {tg : Expr}
end
section
variable {g : TG} {tif : TT} {te : TE} {js : List (Option Nat)} {σ : St} {H : Hp} {Q : VK}
def cTurn (g : TG) (tif : TT) (te : TE) (σ : St) (p : Addr) (acc : List V) (N : List V -> Hp -> Prop) (x : V) (H : Hp) : Prop :=
 g x σ H λ σ2 H3 => tif σ2 H3 λ c H4 => if c = true then te σ2 H4 λ y H5 => H5 p = some (.lst acc) /\ N (acc ++ [y]) (upd H5 p (.lst (acc ++ [y]))) else N acc H4
theorem comp_range {lo : Int} {n : Nat} {p : Addr} (hn : n <= 1000000) (Pv : Nat -> List V -> Hp -> Prop) (h0 : Pv 0 [] (upd H p (.lst [])))
   (hl : ∀ i acc H2, i <= n -> Pv i acc H2 -> H2 p = some (.lst acc) /\ acc.length <= i)
   (hs : ∀ i acc H2, i < n -> Pv i acc H2 -> cTurn g tif te (cap js σ) p acc (Pv (i + 1)) (.int (lo + i)) H2) (hd : ∀ acc H2, Pv n acc H2 -> Q (.ref p) H2) :
   CompW (Itr lo n) g tif te js σ Q p H := by
 refine ⟨λ i m acc H => m = n - i /\ i <= n /\ Pv i acc H, ⟨n, by simp, Nat.zero_le _, h0⟩, ?_⟩
 rintro i m acc H2 ⟨rfl, hi, q⟩
 obtain ⟨q1, q2⟩ := hl i acc H2 hi q
 refine ⟨q1, ?_⟩
 by_cases hlt : i < n
 . refine .inr ⟨hlt, ?_, Pv (i + 1), λ acc' H' p' => ⟨n - (i + 1), by omega, rfl, hlt, p'⟩, λ x H' y => ?_⟩
   . have : (1000000 : Nat) < sizeLine := by decide
     omega
   . obtain ⟨e, y⟩ := y
     subst e y
     exact hs i acc _ hlt q
 . have e : i = n := by omega
   subst e
   exact .inl ⟨Nat.le_refl _, hd acc H2 q⟩
theorem comp_list {K : W.Frag} {a : Addr} {xs : List V} {p : Addr} (hn : xs.length <= 1000000) (Pv : Nat -> List V -> Hp -> Prop) (h0 : Pv 0 [] (upd H p (.lst [])))
   (hl : ∀ i acc H2, i <= xs.length -> Pv i acc H2 -> H2 p = some (.lst acc) /\ acc.length <= i /\ SqL K H2 a xs)
   (hs : ∀ i x acc H2, xs[i]? = some x -> Pv i acc H2 -> cTurn g tif te (cap js σ) p acc (Pv (i + 1)) x H2) (hd : ∀ acc H2, Pv xs.length acc H2 -> Q (.ref p) H2) :
   CompW (Itl K a) g tif te js σ Q p H := by
 refine ⟨λ i m acc H => m = xs.length - i /\ i <= xs.length /\ Pv i acc H, ⟨xs.length, by simp, Nat.zero_le _, h0⟩, ?_⟩
 rintro i m acc H2 ⟨rfl, hi, q⟩
 obtain ⟨q1, q2, q3⟩ := hl i acc H2 hi q
 refine ⟨q1, ?_⟩
 by_cases hlt : i < xs.length
 . refine .inr ⟨⟨xs, xs[i], q3, by simp [hlt]⟩, ?_, Pv (i + 1), λ acc' H' p' => ⟨xs.length - (i + 1), by omega, rfl, hlt, p'⟩, λ x H' y => ?_⟩
   . have : (1000000 : Nat) < sizeLine := by decide
     omega
   . obtain ⟨e, y⟩ := y
     subst e
     exact hs i x acc _ (y xs q3) q
 . have e : i = xs.length := by omega
   subst e
   exact .inl ⟨⟨xs, q3, Nat.le_refl _⟩, hd acc H2 q⟩
theorem comp_tup {K : W.Frag} {a : Addr} {xs : List V} {p : Addr} (hn : xs.length <= 1000000) (Pv : Nat -> List V -> Hp -> Prop) (h0 : Pv 0 [] (upd H p (.lst [])))
   (hl : ∀ i acc H2, i <= xs.length -> Pv i acc H2 -> H2 p = some (.lst acc) /\ acc.length <= i /\ SqT K H2 a xs)
   (hs : ∀ i x acc H2, xs[i]? = some x -> Pv i acc H2 -> cTurn g tif te (cap js σ) p acc (Pv (i + 1)) x H2) (hd : ∀ acc H2, Pv xs.length acc H2 -> Q (.ref p) H2) :
   CompW (Itt K a) g tif te js σ Q p H := by
 refine ⟨λ i m acc H => m = xs.length - i /\ i <= xs.length /\ Pv i acc H, ⟨xs.length, by simp, Nat.zero_le _, h0⟩, ?_⟩
 rintro i m acc H2 ⟨rfl, hi, q⟩
 obtain ⟨q1, q2, q3⟩ := hl i acc H2 hi q
 refine ⟨q1, ?_⟩
 by_cases hlt : i < xs.length
 . refine .inr ⟨⟨xs, xs[i], q3, by simp [hlt]⟩, ?_, Pv (i + 1), λ acc' H' p' => ⟨xs.length - (i + 1), by omega, rfl, hlt, p'⟩, λ x H' y => ?_⟩
   . have : (1000000 : Nat) < sizeLine := by decide
     omega
   . obtain ⟨e, y⟩ := y
     subst e
     exact hs i x acc _ (y xs q3) q
 . have e : i = xs.length := by omega
   subst e
   exact .inl ⟨⟨xs, q3, Nat.le_refl _⟩, hd acc H2 q⟩
end
section
variable {X : Cx}
theorem strs_of {ys : List Str} : ∀ {us : List Value}, Vals (ys.map V.str) us -> StrsAre us ys := by
 induction ys with
 | nil => intro us h; cases h; exact .nil
 | cons y r ih =>
   intro us h
   cases h with
   | cons r1 h =>
     obtain ⟨t, rfl⟩ := r1
     exact .cons y t (ih h)
def rJoin (K : W.Frag) : V -> List V -> Hp -> VK -> Prop := λ x xs H Q => ∃ sep p ys, x = .str sep /\ xs = [.ref p] /\ SqL K H p (ys.map V.str) /\ (ys.map (·.length)).sum + ys.length * sep.length <= 16777216 /\ Q (.str (Txt.join sep ys)) H
theorem mt_join : MtR X "str.join" (rJoin X.K) := by
 intro pins s σ H x xs v us Q I rx r h
 obtain ⟨sep, p, ys, rfl, rfl, hp, hl, q⟩ := h
 obtain ⟨t, rfl⟩ := rx
 obtain ⟨u, rfl, ru⟩ := vals1 r
 cases (show u = Value.ref p from ru)
 obtain ⟨its, rv, pl, hz⟩ := I.list hp
 exact join_list pl.isList (by simpa using strs_of rv) hl λ t' k => ⟨.str (Txt.join sep ys), H, I.tok _, ⟨_, rfl⟩, q⟩
theorem call_isinst : CallR X (.builtin "isinstance") (λ xs H Q => ∃ x c t b, xs = [x, .ty c] /\ TyOf X.K H x t /\ PySem.W.kitOne X.K t (.type c) = some b /\ Q (.bl b) H) := by
 intro pins s σ H xs us Q I r h
 obtain ⟨x, c, t, b, rfl, ty, hk, q⟩ := h
 obtain ⟨u, w', rfl, rx, rc⟩ := vals2 r
 cases (show w' = Value.type c from rc)
 exact isinst_ok I rx ty hk λ tk => ⟨.bl b, H, I.tok _, rfl, q⟩
end
def litV : Expr -> Option V
 | .Constant (.str x) _ _ => some (.str x)
 | .Constant (.int i) _ _ => some (.int i)
 | .Constant (.bool b) _ _ => some (.bl b)
 | .Constant .none _ _ => some .non
 | _ => none
def litsOf : List Expr -> Option (List V)
 | [] => some []
 | e :: r => match litV e, litsOf r with
   | some v, some vs => some (v :: vs)
   | _, _ => none
theorem pe_lit {X : Cx} {e : Expr} {v : V} (h : litV e = some v) : PE X e (tC v) := by
 unfold litV at h
 split at h
 . cases h; exact pe_str
 . cases h; exact pe_int
 . cases h; exact pe_bl
 . cases h; exact pe_non
 . cases h
theorem star_lit {X : Cx} {e : Expr} {es : List Expr} {v : V} (h : litV e = some v) : starEach (e :: es) X.env = (false, eval e X.env) :: starEach es X.env := by
 unfold litV at h
 split at h <;> first | rfl | cases h
theorem pa_lits {X : Cx} : ∀ {es : List Expr} {vs : List V}, litsOf es = some vs -> PA X es (λ _ H Q => Q vs H)
 | [], vs, h => by
   cases h
   exact pa_nil
 | e :: r, vs, h => by
   unfold litsOf at h
   split at h
   . rename_i v vs' h1 h2
     cases h
     exact pa_cons (pe_lit h1) (pa_lits h2) (star_lit h1)
   . cases h
theorem Same.tup {K : W.Frag} {H H' : Hp} {a : Addr} {xs : List V} (e : Same H H') (h : SqT K H a xs) : SqT K H' a xs := by
 rcases h with (h | ⟨o, h⟩) | h
 . exact .inl (.inl (e _ _ h))
 . exact .inl (.inr ⟨o, e _ _ h⟩)
 . exact .inr h
theorem Same.new {H : Hp} {p : Addr} {o : HO} (h : H p = none) : Same H (upd H p o) := λ b u e => by
 rw [upd_ne (ne_of_none e h)]
 exact e
theorem Same.upd {H H' : Hp} {p : Addr} {o : HO} (e : Same H H') (h : H p = none) : Same H (upd H' p o) := λ b u q => by
 rw [upd_ne (ne_of_none q h)]
 exact e b u q
end L2
namespace L2
open PySem PySem.Spec PyProof.Rows
structure DefOk (K : W.Frag) (mg : Str -> Option Value) (name : Str) (st : Stmt) (ps : List Str) (f : Addr) (fd : FuncData) : Prop where
 F : Fun K name name st f fd
 g : mg name = some (.ref f)
 b : Binds K fd ps []
section
variable {X : Cx} {k : Nat} {f : Addr} {fd : FuncData} {ps : List Str} {sp : Sp} {x : Str} {st : Stmt} {p pos : Pos} {e : Expr} {es : List Expr} {t : TA}
theorem callD (D : DefOk X.K X.mg x st ps f fd) (G : FnOk X.prog X.w X.K X.mg X.base CX0 k f fd ps sp) (hr : Room k X.A) (ha : PA X (e :: es) t) (hg : Gl X x := by rfl)
   (hdb : (x == ("__debug__" : Str)) = false := by decide) (he : starEach (e :: es) X.env = (false, eval e X.env) :: starEach es X.env := by rfl) (hpl : (backTo pos (starEach es X.env)).any (·.1) = false := by rfl) :
   PE X (.Call (.Name x p) (e :: es) [] pos) (tCall sp [] E0 t) := pe_call G hr hg D.g D.F.kp D.b .nil pass0 ha hdb he hpl
theorem pe_gstr {z : Str} (h : ∃ t, X.mg x = some (.str z t)) (hg : Gl X x := by rfl) (hd : (x == ("__debug__" : Str)) = false := by decide) : PE X (.Name x pos) (tC (.str z)) := by
 obtain ⟨t, h⟩ := h
 exact pe_glob hg h ⟨t, rfl⟩ hd
theorem pe_gint {z : Int} (h : ∃ t, X.mg x = some (.int z t)) (hg : Gl X x := by rfl) (hd : (x == ("__debug__" : Str)) = false := by decide) : PE X (.Name x pos) (tC (.int z)) := by
 obtain ⟨t, h⟩ := h
 exact pe_glob hg h ⟨t, rfl⟩ hd
theorem pe_gtuple {a : Addr} (h : X.mg x = some (.ref a)) (hg : Gl X x := by rfl) (hd : (x == ("__debug__" : Str)) = false := by decide) : PE X (.Name x pos) (tC (.ref a)) := pe_glob hg h rfl hd
end
theorem defOk_mk {K : W.Frag} {mg : Str -> Option Value} {h : Heap} {name : Str} {st : Stmt} {ps : List Str} {f : Addr} {oc : Value} {od an : Option Addr} {osl : Array (Option Value)} {kV doc pm cdv ct : Value} (X : K.In h) (G : h.Ns mainGlobals mg)
   (a : PySem.W.nsIn K mainGlobals name = some (some (.ref f))) (l : K.lookup f = some ⟨oc, od, .func (PySem.W.fnOf name name (defArgs st) (defBody st) (defScope st) .none kV doc pm an cdv ct), osl⟩) (c : PySem.W.codeIn K cdv name = true) (k : PySem.W.keepIn K (.ref f) = true)
   (b : ∀ (kV doc pm : Value) (an : Option Addr) (cdv ct : Value) (us : List Value), us.length = ps.length -> bindArgs (PySem.W.fnOf name name (defArgs st) (defBody st) (defScope st) .none kV doc pm an cdv ct) ⟨us, []⟩ = pure (ps.zip us)) :
   DefOk K mg name st ps f (PySem.W.fnOf name name (defArgs st) (defBody st) (defScope st) .none kV doc pm an cdv ct) :=
 ⟨fun_mk l c k, PySem.W.mg_of X G a, (fun_mk l c k).binds b⟩
theorem dec_true {p : Prop} [Decidable p] (h : decide p = true) : p := of_decide_eq_true h
end L2
namespace L2
open PySem PySem.Spec PyProof.Rows
theorem iteP {c A B : Prop} [Decidable c] (hc : c) (h : A) : if c then A else B := by
 rw [if_pos hc]
 exact h
theorem iteN {c A B : Prop} [Decidable c] (hc : ¬ c) (h : B) : if c then A else B := by
 rw [if_neg hc]
 exact h
end L2
namespace L2
open PySem
theorem bt_len : bootBuiltins "len" = some (.builtin "len") := by decide +kernel
theorem bt_isinstance : bootBuiltins "isinstance" = some (.builtin "isinstance") := by decide +kernel
theorem bt_str : bootBuiltins "str" = some (.type "str") := by decide +kernel
theorem bt_list : bootBuiltins "list" = some (.type "list") := by decide +kernel
theorem bt_tuple : bootBuiltins "tuple" = some (.type "tuple") := by decide +kernel
theorem bt_dict : bootBuiltins "dict" = some (.type "dict") := by decide +kernel
theorem bt_enumerate : bootBuiltins "enumerate" = some (.type "enumerate") := by decide +kernel
theorem bt_zip : bootBuiltins "zip" = some (.type "zip") := by decide +kernel
theorem falseN {b : Bool} (h : b = false) : ¬ b = true := by rw [h]; decide
end L2
namespace L2
open PySem PySem.Spec PyProof.Rows
mutual
def DatV (K : W.Frag) (H : Hp) : PyData -> V -> Prop
 | .none, v => v = .non
 | .bool b, v => v = .bl b
 | .int i, v => v = .int i
 | .str x, v => v = .str x
 | .list ds, v => ∃ a xs, v = .ref a /\ SqL K H a xs /\ DatAll K H ds xs
 | .tuple ds, v => ∃ a xs, v = .ref a /\ SqT K H a xs /\ DatAll K H ds xs
 | .dict _, _ => False
def DatAll (K : W.Frag) (H : Hp) : List PyData -> List V -> Prop
 | [], xs => xs = []
 | d :: ds, xs => ∃ x r, xs = x :: r /\ DatV K H d x /\ DatAll K H ds r
end
section
variable {X : Cx} {pins : List (Addr × Obj)} {σ : St} {H : Hp} {s : Shared}
mutual
theorem reads_of (I : Inv X pins σ H s) : ∀ (d : PyData) (v : V) (u : Value), DatV X.K H d v -> RelV v u -> ∃ as, Reads s.heap u d as
 | .none, v, u, h, r => by
   unfold DatV at h
   subst h
   cases (show u = Value.none from r)
   exact ⟨_, .none⟩
 | .bool b, v, u, h, r => by
   unfold DatV at h
   subst h
   cases (show u = Value.bool b from r)
   exact ⟨_, .bool b⟩
 | .int i, v, u, h, r => by
   unfold DatV at h
   subst h
   obtain ⟨t, rfl⟩ := (show ∃ t, u = Value.int i t from r)
   exact ⟨_, .int i t⟩
 | .str x, v, u, h, r => by
   unfold DatV at h
   subst h
   obtain ⟨t, rfl⟩ := (show ∃ t, u = Value.str x t from r)
   exact ⟨_, .str x t⟩
 | .list ds, v, u, h, r => by
   unfold DatV at h
   obtain ⟨a, xs, rfl, hq, hd⟩ := h
   cases (show u = Value.ref a from r)
   obtain ⟨its, rv, ⟨o, n, ho, hc, _, hdt⟩, _⟩ := I.list hq
   obtain ⟨as, ra⟩ := readsAll_of I ds xs its hd rv
   exact ⟨_, .list ho hc hdt (by simpa using ra)⟩
 | .tuple ds, v, u, h, r => by
   unfold DatV at h
   obtain ⟨a, xs, rfl, hq, hd⟩ := h
   cases (show u = Value.ref a from r)
   obtain ⟨its, rv, ⟨o, ho, hc, n, hdt⟩, _⟩ := I.tuple hq
   obtain ⟨as, ra⟩ := readsAll_of I ds xs its hd rv
   exact ⟨_, .tuple ho hc hdt (by simpa using ra)⟩
 | .dict _, v, u, h, r => by
   unfold DatV at h
   exact h.elim
theorem readsAll_of (I : Inv X pins σ H s) : ∀ (ds : List PyData) (xs : List V) (us : List Value), DatAll X.K H ds xs -> Vals xs us -> ∃ as, ReadsAll s.heap us ds as
 | [], xs, us, h, r => by
   unfold DatAll at h
   subst h
   cases r
   exact ⟨_, .nil⟩
 | d :: ds, xs, us, h, r => by
   unfold DatAll at h
   obtain ⟨x, rest, rfl, hd, hds⟩ := h
   cases r with
   | cons r1 r2 =>
     obtain ⟨as, ra⟩ := reads_of I d _ _ hd r1
     obtain ⟨bs, rb⟩ := readsAll_of I ds _ _ hds r2
     exact ⟨_, .cons ra rb⟩
end
end
def rEqD (K : W.Frag) : R2 := λ x y H Q => ∃ d e, DatV K H d x /\ DatV K H e y /\ SeqAt.shaped d = true /\ SeqAt.shaped e = true /\ Q (.bl (PyData.eqv d e)) H
def rNeD (K : W.Frag) : R2 := λ x y H Q => ∃ d e, DatV K H d x /\ DatV K H e y /\ SeqAt.shaped d = true /\ SeqAt.shaped e = true /\ Q (.bl (!PyData.eqv d e)) H
theorem op_eqD {X : Cx} (hu : X.A.units + 64 < cLine) : OpR X (compareOp .Eq) (rEqD X.K) := by
 intro pins s σ H x y v u Q I rx ry h
 obtain ⟨d, e, hd, he, sd, se, q⟩ := h
 obtain ⟨as, ra⟩ := reads_of I d x v hd rx
 obtain ⟨bs, rb⟩ := reads_of I e y u he ry
 exact SeqAt.compareEq_shaped ra rb sd se hu ⟨.bl _, H, I, rfl, q⟩
theorem op_neD {X : Cx} (hu : X.A.units + 64 < cLine) : OpR X (compareOp .NotEq) (rNeD X.K) := by
 intro pins s σ H x y v u Q I rx ry h
 obtain ⟨d, e, hd, he, sd, se, q⟩ := h
 obtain ⟨as, ra⟩ := reads_of I d x v hd rx
 obtain ⟨bs, rb⟩ := reads_of I e y u he ry
 exact SeqAt.compareNe_shaped ra rb sd se hu ⟨.bl _, H, I, rfl, q⟩
section
variable {prog : Program} {w : World} {A : Around} {E : Value -> Shared -> Prop}
end
end L2
namespace L2
open PySem PySem.Spec PyProof.Rows
end L2
namespace PySem
theorem gx_keys_list : typeLookup (.type "list") "keys" = pure none := by rw [typeLookup_type, builtinLookup_eq_fast]; kernel_rfl
theorem gx_entry_loop : entryFor table "dict.update.loop" = some Builtin.«dict.update.loop» := entryFor_of_tree (by kernel_rfl)
theorem gx_plain_loop : plainId "dict.update.loop" = true := by decide +kernel
theorem gx_noKeys {prog : Program} {w : World} {A : Around} {E : Value -> Shared -> Prop} {s : Shared} {a : Addr} {o : Obj} {xs : Array Value} {k : Nat} {Q : Option Value -> Shared -> Prop}
   (hx : s.heap.get? a = some o) (hc : o.cls = .type "list") (hdat : o.data = .seq xs k) (hd : o.dict = none) (hA : A.handled = none)
   (h : ∀ h' tk, (∀ b ob, s.heap.get? b = some ob -> h'.get? b = some ob) -> Q none { s with heap := h', toks := tk }) :
   wpAny (model prog w) A (getAttr? (.ref a) "keys") Q E s := by
 obtain ⟨c, dct, dat, sl⟩ := o
 simp only at hc hdat hd
 subst hc hdat hd
 obtain ⟨hp, g, d, tk, os⟩ := s
 have hT : ∀ tk', (⟨hp, g, d, tk', os⟩ : Shared).TypeIs (.ref a) "list" := λ _ => ⟨_, hx, rfl⟩
 have f1 := sub_AttributeError
 have f3 := F.slot_list_getattribute.lookup
 have f4 := F.slot_list_getattribute.bind (.ref a)
 have f5 := am_list_getattr_none
 unfold getAttr? getAttrBy? getAttrBy
 repeat (any_goals (first | assumption | exact hT _ | ((with_reducible show wpAny _ _ (call (Value.builtin "list.__getattribute__") _ _) _ _ _); refine call_meets F.slot_list_getattribute (hT _) am_entry_list_getattribute (F.args_list_getattribute_2 _ _) (meets_getattribute_miss_list a xs k sl "keys" _ gx_keys_list (by decide +kernel) (by decide +kernel)) ⟨hx, hA, λ h' tk' e hx' => ?_⟩) | wp_step))
 obtain ⟨t', u', he⟩ := hx'.there
 try (show wpAny _ _ (getattributeRaised _ _ _ _ _ _ _) _ _ _)
 try unfold getattributeRaised
 repeat (any_goals (first | assumption | wp_step))
 all_goals (first | exact h _ _ hx'.keeps | trace_state)
end PySem
namespace L2
open PySem PySem.Spec PyProof.Rows
section
variable {X : Cx} {pins : List (Addr × Obj)} {σ : St} {H : Hp}
theorem paired_at {α β : Type} {F : α -> β -> Prop} : ∀ {l : List α} {m : List β}, Paired F l m -> ∀ {i : Nat} (h1 : i < l.length) (h2 : i < m.length), F l[i] m[i]
 | _, _, .cons h _, 0, _, _ => h
 | _, _, .cons _ t, i + 1, h1, h2 => by
   have := paired_at t (i := i) (by simpa using h1) (by simpa using h2)
   simpa using this
theorem dict_loop {A : Around} {R : Result -> Shared -> Prop} {p D it : Addr} {ps : List Addr} {kvs : List (Key × V)} (hA : A.handled = none) (hpD : p ≠ D) (hS : SqL X.K H p (ps.map V.ref)) (hps : Paired (λ a (kv : Key × V) => SqT X.K H a [kV kv.1, kv.2]) ps kvs)
   (hD : H D = none) (hz : kvs.length <= 100000) (hit0 : it ≠ D)
   (hR : ∀ s', Inv X pins σ (upd H D (.dK (kvs.foldl (λ acc kv => putK acc kv.1 kv.2) []))) s' -> R (.ok (.ret .none)) s') :
   ∀ (k i : Nat) (t : Tok) (s : Shared), kvs.length - i = k -> i <= kvs.length -> Inv X pins σ (upd H D (.dK ((kvs.take i).foldl (λ acc kv => putK acc kv.1 kv.2) []))) s -> s.heap.IsListIter it p i ->
     (∀ H', H' it = none -> FpOk X pins H' it) -> H it = none -> codeAny (model X.prog X.w) A (.builtin "dict.update.loop" ⟨[.ref D, .ref it, .int (i : Nat) t, .none], []⟩) R s := by
 have sameD : ∀ o, Same H (upd H D o) := λ o => Same.new hD
 have hlen : ps.length = kvs.length := hps.length
 have flen : ∀ (l : List (Key × V)) (acc : List (Key × V)), (l.foldl (λ acc kv => putK acc kv.1 kv.2) acc).length <= acc.length + l.length := by
   intro l
   induction l with
   | nil => intro acc; simp
   | cons x r ih =>
     intro acc
     rw [List.foldl_cons]
     have h1 := ih (putK acc x.1 x.2)
     have h2 := length_putK acc x.1 x.2
     simp only [List.length_cons]
     omega
 have big : (100000 : Nat) < sizeLine := by decide
 intro k
 induction k with
 | zero =>
   intro i t s hk hi I hit hfp hHit
   have e : i = kvs.length := by omega
   subst e
   rw [List.take_length] at I
   obtain ⟨its, rv, pl, hz'⟩ := I.list ((sameD _).seq hS)
   obtain ⟨f0, f1, f2, f3, f4, f5⟩ := hfp (upd H D (.dK (kvs.foldl (λ acc kv => putK acc kv.1 kv.2) []))) (by rw [upd_ne hit0]; exact hHit)
   refine codeAny_builtin gx_entry_loop ?_
   rw [Around.under_plainId gx_plain_loop _]
   show wpAny _ A.in1 (pyNext (.ref it) >>= _) _ _ s
   have hl := rv.length
   rw [List.length_map] at hl
   refine wpAny_bind (wpAny_pyNext_list_end hA hit pl.isList (by simp; omega) λ h' eb => ?_)
   have I1 : Inv X pins σ (upd H D (.dK (kvs.foldl (λ acc kv => putK acc kv.1 kv.2) []))) { s with heap := h' } := I.turned (t' := s.toks) (λ b o hb e => eb b o hb e) f0 f1 f3 f4 f5
   show wpAny _ _ (Builtin.Dict.addKeywords D [] >>= _) _ _ _
   exact wpAny_bind (wpAny_pure (wpAny_pure (hR _ I1)))
 | succ k ih =>
   intro i t s hk hi I hit hfp hHit
   have hlt : i < kvs.length := by omega
   obtain ⟨its, rv, pl, hz'⟩ := I.list ((sameD _).seq hS)
   have hpi : (ps.map V.ref)[i]? = some (.ref (ps[i]'(by omega))) := by simp [show i < ps.length by omega]
   obtain ⟨u, hu, ru⟩ := rv.get hpi
   cases (show u = Value.ref _ from ru)
   obtain ⟨f0, f1, f2, f3, f4, f5⟩ := hfp (upd H D (.dK ((kvs.take i).foldl (λ acc kv => putK acc kv.1 kv.2) []))) (by rw [upd_ne hit0]; exact hHit)
   refine codeAny_builtin gx_entry_loop ?_
   rw [Around.under_plainId gx_plain_loop _]
   show wpAny _ A.in1 (pyNext (.ref it) >>= _) _ _ s
   refine wpAny_bind (wpAny_pyNext_list_item hit pl.isList (x := .ref ps[i]) (by simpa using hu) λ h' hit' sb => ?_)
   have I1 : Inv X pins σ (upd H D (.dK ((kvs.take i).foldl (λ acc kv => putK acc kv.1 kv.2) []))) { s with heap := h' } := I.turned (t' := s.toks) (λ b o hb e => (sb.2 b hb).trans e) f0 f1 f3 f4 f5
   have hpair : SqT X.K H ps[i] [kV (kvs[i]).1, (kvs[i]).2] := paired_at hps (by omega) hlt
   obtain ⟨its2, rv2, ⟨o2, ho2, hc2, n2, hd2⟩, _⟩ := I1.tuple ((sameD _).tup hpair)
   cases rv2 with
   | cons r1 rr =>
     cases rr with
     | cons r2 rr =>
       cases rr
       rename_i ku vu
       refine wpAny_bind (wpAny_holding (wpAny_bind (wpAny_tryCatch ?_)))
       show wpAny _ _ (Builtin.Dict.pairItems (.ref ps[i])) _ _ _
       unfold Builtin.Dict.pairItems
       refine wpAny_bind (wpAny_typeOf (T := "tuple") ⟨o2, ho2, hc2⟩ ?_)
       rw [if_pos (by decide)]
       refine wpAny_bind ?_
       show wpAny _ _ (load ps[i] >>= _) _ _ _
       refine wpAny_bind (wpAny_load ho2 ?_)
       rw [hd2]
       refine wpAny_pure (wpAny_pure ?_)
       show wpAny _ _ (holding [ku, vu] (dictSet D ku vu)) _ _ _
       refine wpAny_holding ?_
       obtain ⟨z, hd, vs, rel, dd⟩ := dk_of I1.hok upd_same
       have hl1 := flen (kvs.take i) []
       have hl2 : (kvs.take i).length <= kvs.length := by rw [List.length_take]; omega
       simp only [List.length_nil, Nat.zero_add] at hl1
       have hzv : vs.length <= sizeLine := by rw [<- rel.length]; exact z
       refine wpAny_dictSet_pairs (hsz := hzv) (kV_is r1) dd λ h2 dd2 hs2 => ?_
       have he : ∃ q, h2.get? D = some q := let ⟨q, _, _, hq, _⟩ := dd2; ⟨q, hq⟩
       have hl3 : (putK ((kvs.take i).foldl (λ acc kv => putK acc kv.1 kv.2) []) (kvs[i]).1 (kvs[i]).2).length <= sizeLine := by
         have := length_putK ((kvs.take i).foldl (λ acc kv => putK acc kv.1 kv.2) []) (kvs[i]).1 (kvs[i]).2
         omega
       have I2 := d_write (t' := ({ s with heap := h' } : Shared).toks + 1) I1 (by rw [upd_same]; exact True.intro) hs2 he (dk_new hl3 hd (rel.put (kvs[i]).1 r2) dd2)
       rw [upd_upd] at I2
       have e3 : (kvs.take (i + 1)).foldl (λ acc kv => putK acc kv.1 kv.2) [] = putK ((kvs.take i).foldl (λ acc kv => putK acc kv.1 kv.2) []) (kvs[i]).1 (kvs[i]).2 := by
         rw [List.take_add_one, List.foldl_append]
         simp [hlt]
       rw [<- e3] at I2
       have hit2 : h2.IsListIter it p (i + 1) := by
         obtain ⟨oi, hoi, ri⟩ := hit'
         exact ⟨oi, (hs2.2 it hit0).trans hoi, ri⟩
       refine wpAny_pure ⟨plainId_quiet gx_plain_loop _, ?_⟩
       have := ih (i + 1) 0 _ (by omega) (by omega) I2 hit2 hfp hHit
       exact this
end
end L2
namespace L2
open PySem PySem.Spec PyProof.Rows
section
variable {X : Cx}
def rDictOf (K : W.Frag) : List V -> Hp -> VK -> Prop := λ xs H Q => ∃ (p : Addr) (ps : List Addr) (kvs : List (Key × V)), xs = [.ref p] /\ SqL K H p (ps.map V.ref) /\ Paired (λ a (kv : Key × V) => SqT K H a [kV kv.1, kv.2]) ps kvs /\ kvs.length <= 100000 /\
 ∀ d, H d = none -> Q (.ref d) (upd H d (.dK (kvs.foldl (λ acc kv => putK acc kv.1 kv.2) [])))
theorem call_dict_of (hc : X.calm = true) : CallR X (.type "dict") (rDictOf X.K) := by
 intro pins s σ H xs us Q I r h
 obtain ⟨p, ps, kvs, rfl, hS, hps, hz, q⟩ := h
 obtain ⟨u, rfl, ru⟩ := vals1 r
 cases (show u = Value.ref p from ru)
 have hA := I.ok.hd hc
 have hD : H s.heap.objs.size = none := I.hok.fresh (Nat.le_refl _)
 obtain ⟨its, rv, pl, _⟩ := I.list hS
 have hplt : p < s.heap.objs.size := pl.lt
 have I0 : Inv X pins σ (upd H s.heap.objs.size (.dK [])) { s with heap := s.heap.push { cls := .type "dict", data := .dict #[] } } :=
   I.laid (a := s.heap.objs.size) (o := .dK []) (t' := s.toks) (λ _ _ q => Heap.get?_push_of_some _ q) (Nat.le_refl _) (dk_empty s.heap I.big)
 refine callType_codes (Q₁ := λ obj s₁ => obj = .ref s.heap.objs.size /\ s₁ = { s with heap := s.heap.push { cls := .type "dict", data := .dict #[] } }) PySem.F.kt_called_dict (PySem.F.kt_typeCall_dict_1 _) PySem.F.entry_dict_init (kt_code_dict_new _ ⟨rfl, rfl⟩) ?_
 rintro obj s₁ ⟨rfl, rfl⟩
 have hnew : (s.heap.push { cls := .type "dict", data := .dict #[] }).DictOf (mixKind X.prog X.w) s.heap.objs.size [] := Heap.DictOf.new s.heap
 refine ⟨hnew.typeIs, PySem.F.args_dict_init_2 _ _, ?_⟩
 unfold Builtin.«dict.__init__»
 refine wpAny_bind ?_
 unfold Builtin.Dict.selfAndRest
 refine wpAny_bind (wpAny_notOrdered_dict hnew.typeIs ?_)
 show wpAny _ _ (pure (s.heap.objs.size, [Value.ref p])) _ _ _
 refine wpAny_pure ?_
 show wpAny _ _ (Builtin.Dict.updateFrom "dict.__init__" s.heap.objs.size (.ref p) [] .none) _ _ _
 unfold Builtin.Dict.updateFrom
 obtain ⟨o, n, ho, hcl, hdi, hda⟩ := pl
 have ho1 : (s.heap.push { cls := .type "dict", data := .dict #[] }).get? p = some o := Heap.get?_push_of_some _ ho
 refine wpAny_bind (wpAny_typeOf (T := "list") ⟨o, ho1, hcl⟩ ?_)
 rw [if_pos (by decide)]
 refine wpAny_bind (gx_noKeys (s := { s with heap := s.heap.push { cls := .type "dict", data := .dict #[] } }) ho1 hcl hda hdi hA λ h' tk hk => ?_)
 have I1 : Inv X pins σ (upd H s.heap.objs.size (.dK [])) { s with heap := h', toks := tk } := I0.kept hk
 rw [if_pos (by rfl)]
 refine wpAny_bind (wpAny_rule ?_)
 have ho2 : h'.get? p = some o := hk _ _ ho1
 refine wpAny_bind (wpAny_pyIter_list (s := { s with heap := h', toks := tk }) (items := its.toArray) ⟨o, ho2, hcl, n, hda⟩ ?_)
 have I2 : Inv X pins σ (upd H s.heap.objs.size (.dK [])) { s with heap := h'.push { cls := .type "list_iterator", data := .fields #[.ref p, .int 0 0] }, toks := tk } := I1.kept (t' := tk) λ b o e => Heap.get?_push_of_some _ e
 have hsz : s.heap.objs.size < h'.objs.size := by
   have e : (s.heap.push { cls := .type "dict", data := .dict #[] }).get? s.heap.objs.size = some { cls := .type "dict", data := .dict #[] } := Heap.get?_push_size _ rfl
   exact Heap.lt_size (hk _ _ e)
 have hit0 : h'.objs.size ≠ s.heap.objs.size := Nat.ne_of_gt hsz
 have hHit : H h'.objs.size = none := I.hok.fresh (Nat.le_of_lt hsz)
 refine wpAny_pure ⟨plainId_quiet gx_plain_loop _, ?_⟩
 refine dict_loop (A := X.A.in1) (it := h'.objs.size) hA (Nat.ne_of_lt hplt) hS hps hD hz hit0 (λ s' J => ⟨rfl, .ref s.heap.objs.size, _, J, rfl, q _ hD⟩) kvs.length 0 0 _ (by omega) (Nat.zero_le _) (by simpa using I2) ⟨_, Heap.get?_push_size _ rfl, rfl, rfl⟩ (λ H' hn => I1.fpOk (Nat.le_refl _) hn) hHit
theorem vals_at : ∀ (xs : List V) (us : List Value), xs.length = us.length -> (∀ (i : Nat) (x : V) (u : Value), xs[i]? = some x -> us[i]? = some u -> RelV x u) -> Vals xs us
 | [], [], _, _ => .nil
 | [], _ :: _, h, _ => by simp at h
 | _ :: _, [], h, _ => by simp at h
 | x :: xs, u :: us, h, k => .cons (k 0 x u rfl rfl) (vals_at xs us (by simpa using h) λ i y v e1 e2 => k (i + 1) y v (by simpa using e1) (by simpa using e2))
theorem is_rel {P : Program} {w : World} {k : Key} {v : Value} (h : (mixKind P w).is k v = true) : RelV (kV k) v := by
 rcases keyIs_shape (show keyIs k v = true from h) with ⟨i, t, rfl, rfl⟩ | ⟨x, t, rfl, rfl⟩
 . exact ⟨t, rfl⟩
 . exact ⟨t, rfl⟩
theorem keys_vals {P : Program} {w : World} {kvs : List (Key × V)} {vs : List (Key × Value)} {acc : Array Value} (rel : KV kvs vs) (h : ItemsOf (λ i v => ∃ k x, vs[i]? = some (k, x) /\ (mixKind P w).is k v = true) acc vs.length) :
   Vals (kvs.map λ kv => kV kv.1) acc.toList := by
 have hl := rel.length
 have el : acc.toList.length = acc.size := by simp
 have hlen : (kvs.map λ kv => kV kv.1).length = acc.toList.length := by rw [List.length_map, el, h.1]; exact hl
 refine vals_at _ _ hlen λ i x u e1 e2 => ?_
 obtain ⟨k, y, e3, e4⟩ := h.2 i u (by simpa using e2)
 rw [List.getElem?_map] at e1
 cases e5 : kvs[i]? with
 | none => rw [e5] at e1; cases e1
 | some kv =>
   rw [e5] at e1
   have e1 : kV kv.1 = x := by simpa using e1
   have e6 : kv.1 = k := by
     have h1 : i < kvs.length := (List.getElem?_eq_some_iff.mp e5).1
     have h2 : i < vs.length := by omega
     have e7 := paired_at rel h1 h2
     have e8 : kvs[i] = kv := by have := List.getElem?_eq_some_iff.mp e5; exact this.2
     have e9 : vs[i] = (k, y) := by have := List.getElem?_eq_some_iff.mp e3; exact this.2
     rw [e8, e9] at e7
     exact e7.1
   rw [<- e1, e6]
   exact is_rel e4
theorem call_list_dk (hc : X.calm = true) : CallR X (.type "list") (λ xs H Q => ∃ d kvs, xs = [.ref d] /\ H d = some (.dK kvs) /\ ∀ l, H l = none -> Q (.ref l) (upd H l (.lst (kvs.map λ kv => kV kv.1)))) := by
 intro pins s σ H xs us Q I r h
 obtain ⟨d, kvs, rfl, hd, q⟩ := h
 obtain ⟨u, rfl, ru⟩ := vals1 r
 cases (show u = Value.ref d from ru)
 obtain ⟨z, lo, vs, rel, dd⟩ := dk_of I.hok hd
 have hlen := rel.length
 obtain ⟨ep, dat⟩ : ∃ ep, s.heap.DictAt (mixKind X.prog X.w) d vs ep := dd.dictAt
 refine PySem.W.kdl_call (PySem.W.kdl_dict (knd := mixKind X.prog X.w) (kvs := vs) (ep := ep) lo) (I.ok.hd hc) dat (by rw [<- hlen]; exact z) λ h' tk acc' c' hk hS hit => ?_
 have hv : Vals (kvs.map λ kv => kV kv.1) acc'.toList := keys_vals rel hit
 refine ⟨.ref s.heap.objs.size, _, I.laid (a := s.heap.objs.size) (o := .lst (kvs.map λ kv => kV kv.1)) hk (Nat.le_refl _) ⟨by rw [List.length_map]; exact z, acc'.toList, c', hv, by simpa using hS⟩, rfl, q _ (I.hok.fresh (Nat.le_refl _))⟩
end
end L2
namespace L2
open PySem PySem.Spec PyProof.Rows PySem.W
section
variable {prog : Program} {w : World} {A : Around} {E : Value -> Shared -> Prop} {s : Shared} {δ : Type} {R : δ -> Value -> Prop} {a : Addr} {D : List (Str × δ)} {k : Str} {tk : Tok} {d : δ}
theorem tab_typeIs (T : KTD.TabOf R s.heap a D) : s.TypeIs (.ref a) "dict" := let ⟨_, o, _, _, ho, hc, _⟩ := T; ⟨o, ho, hc.1⟩
theorem getItem_tab {Q : Value -> Shared -> Prop} (T : KTD.TabOf R s.heap a D) (hd : KTD.datumAt k D = some d) (h : ∀ v, R d v -> Q v { s with toks := s.toks + 1 }) :
   wpAny (model prog w) A (getItem (.ref a) (.str k tk)) Q E s := by
 have ty := tab_typeIs T
 obtain ⟨_, o, es, ep, ho, hc, hdt, hr⟩ := T
 unfold getItem
 try with_reducible refine wpAny_holding ?_
 refine wpAny_bind (wpAny_sequenceKey ty (by decide) ?_)
 refine wpAny_bind (wpAny_callSpecial?_slot (name := Str.ofString "__getitem__") ty slot_dict_getitem
   (wpAny_call_entry slot_dict_getitem ty entry_dict_getitem ?_ (args_dict_getitem _ _)))
 show wpAny _ _ (dictGet a (.str k tk) >>= _) _ _ s
 refine wpAny_bind ?_
 unfold dictGet
 try with_reducible refine wpAny_holding ?_
 refine wpAny_bind (wpAny_pyHash_str (wpAny_bind (KTD.kt_dictFind_strs (s := { s with toks := s.toks + 1 }) ho hdt (by obtain ⟨l⟩ := es; simpa using hr.exact) ?_)))
 have hq : ∃ v, findBy (λ k v => v.isStr k) es k = some v /\ R d v := by
   have hf : findBy (λ k v => v.isStr k) es k = (es.toList.find? λ e => e.key.isStr k).map (·.val) := by
     obtain ⟨l⟩ := es
     simp [findBy]
   rw [hf]
   exact hr.find_some hd
 obtain ⟨v, hv, hR⟩ := hq
 rw [findBy_of_findIdx?] at hv
 cases hi : es.findIdx? λ e => e.key.isStr k with
 | none => rw [hi] at hv; cases hv
 | some i =>
   rw [hi] at hv
   have hv : es[i]?.map (·.val) = some v := hv
   refine wpAny_bind (wpAny_dictEntries (s := { s with toks := s.toks + 1 }) ho hdt (wpAny_pure ?_))
   show wpAny _ _ _ _ _ _
   rw [hv]
   exact wpAny_pure ⟨v, rfl, wpAny_pure (h v hR)⟩
end
def TabK (K : W.Frag) (d : Addr) (rows : List (Str × List V)) : Prop :=
 ∃ (o : Obj) (es : Array DictEntry) (ep : Nat), K.lookup d = some o /\ (d == sysModules) = false /\ o.ExactDict /\ o.data = .dict es ep /\ KTD.Rows (λ (xs : List V) v => ∃ a, v = .ref a /\ ∀ H : Hp, SqT K H a xs) es.toList rows
def rIxTab (K : W.Frag) : R2 := λ x y H Q => ∃ d rows k xs, x = .ref d /\ y = .str k /\ TabK K d rows /\ KTD.datumAt k rows = some xs /\ ∀ a, SqT K H a xs -> Q (.ref a) H
theorem ix_tab {X : Cx} : IxR X (rIxTab X.K) := by
 intro value slice pins s σ H x y v u Q I rx ry h hs
 obtain ⟨d, rows, k, xs, rfl, rfl, ⟨o, es, ep, ho, lo, hc, hd, hr⟩, hk, q⟩ := h
 cases (show v = Value.ref d from rx)
 obtain ⟨t, rfl⟩ := (show ∃ t, u = Value.str k t from ry)
 have T : KTD.TabOf (λ (xs : List V) v => ∃ a, v = .ref a /\ ∀ H : Hp, SqT X.K H a xs) s.heap d rows := ⟨lo, o, es, ep, I.kIn d o ho, hc, hd, hr⟩
 refine tail_any (tab_typeIs T) slot_dict_getitem.lookup (getItem_tab T hk λ v hv => ?_) hs
 obtain ⟨a, rfl, hsq⟩ := hv
 exact ⟨.ref a, H, I.tok _, rfl, q a (hsq H)⟩
end L2
namespace L2
open PySem PySem.Spec PyProof.Rows
def relLook : V -> Value -> Bool
 | .non, .none => true
 | .bl b, .bool c => b == c
 | .int i, .int j _ => i == j
 | .str x, .str y _ => x == y
 | _, _ => false
theorem rel_of_look : ∀ {x : V} {v : Value}, relLook x v = true -> RelV x v := by
 intro x v h
 unfold relLook at h
 split at h
 . rfl
 . obtain rfl := beq_iff_eq.mp h; rfl
 . obtain rfl := beq_iff_eq.mp h; exact ⟨_, rfl⟩
 . obtain rfl := beq_iff_eq.mp h; exact ⟨_, rfl⟩
 . cases h
def relsLook : List V -> List Value -> Bool
 | [], [] => true
 | x :: xs, v :: vs => relLook x v && relsLook xs vs
 | _, _ => false
theorem rels_of_look : ∀ {xs : List V} {vs : List Value}, relsLook xs vs = true -> Vals xs vs
 | [], [], _ => .nil
 | x :: xs, v :: vs, h => by
   simp only [relsLook, Bool.and_eq_true] at h
   exact .cons (rel_of_look h.1) (rels_of_look h.2)
 | [], _ :: _, h => by simp [relsLook] at h
 | _ :: _, [], h => by simp [relsLook] at h
def tupLook (K : W.Frag) (xs : List V) (v : Value) : Bool := match v with
 | .ref a => match K.lookup a with
   | some o => o.cls == .type "tuple" && (match o.data with | .seq its _ => decide (its.size <= sizeLine) && relsLook xs its.toList | _ => false)
   | none => false
 | _ => false
theorem tup_of_look {K : W.Frag} (xs : List V) (v : Value) (h : tupLook K xs v = true) : ∃ a, v = .ref a /\ ∀ H : Hp, SqT K H a xs := by
 unfold tupLook at h
 split at h
 . rename_i a
   split at h
   . rename_i o ho
     rw [Bool.and_eq_true] at h
     obtain ⟨h1, h2⟩ := h
     split at h2
     . rename_i its n hd
       rw [Bool.and_eq_true] at h2
       exact ⟨a, rfl, λ H => .inr ⟨o, its, n, ho, beq_iff_eq.mp h1, hd, of_decide_eq_true h2.1, rels_of_look h2.2⟩⟩
     . cases h2
   . cases h
 . cases h
theorem tabK_of_look {K : W.Frag} {d : Addr} {rows : List (Str × List V)} (h : KTD.tabLook (tupLook K) (λ a => K.lookup a) d rows = true) : TabK K d rows := by
 simp only [KTD.tabLook, Bool.and_eq_true] at h
 obtain ⟨h0, hl⟩ := h
 split at hl
 . rename_i o ho
   simp only [Bool.and_eq_true] at hl
   obtain ⟨⟨⟨e1, e2⟩, e3⟩, e4⟩ := hl
   split at e4
   . rename_i es ep hd
     exact ⟨o, es, ep, ho, by simpa using h0, ⟨beq_iff_eq.mp e1, by simpa using e2, by simpa using e3⟩, hd, KTD.rows_of_look tup_of_look e4⟩
   . cases e4
 . cases hl
end L2
namespace L2
open PySem
def isLitL : Expr -> Option (List V)
 | .List es _ => litsOf es
 | _ => none
def isLitT : Expr -> Option (List V)
 | .Tuple es _ _ => litsOf es
 | _ => none
theorem pe_litL {X : Cx} {e : Expr} {vs : List V} (h : isLitL e = some vs) : PE X e (tLst λ _ H Q => Q vs H) := by
 unfold isLitL at h
 split at h
 . exact pe_lst (pa_lits h)
 . cases h
theorem pe_litT {X : Cx} {e : Expr} {vs : List V} (h : isLitT e = some vs) : PE X e (tTup λ _ H Q => Q vs H) := by
 unfold isLitT at h
 split at h
 . exact pe_tup (pa_lits h)
 . cases h
end L2
namespace L2
open PySem PySem.Spec PyProof.Rows
section
variable {prog : Program} {w : World} {A : Around} {E : Value -> Shared -> Prop} {s : Shared}
theorem gx_nextOf_tup {it t : Addr} {i : Nat} {items : Array Value} {x : Value} {Q : Value -> Shared -> Prop} (hit : s.heap.IsTupleIter it t i) (ht : s.heap.IsTuple t items) (hx : items[i]? = some x)
   (hQ : ∀ h', h'.IsTupleIter it t (i + 1) -> Heap.SameBut it s.heap h' -> Q x { s with heap := h' }) : wpAny (model prog w) A (Builtin.SmallTypes.nextOf (.ref it)) Q E s := by
 obtain ⟨⟨o, ho, hc, hd⟩, ⟨ol, hol, _, nl, hdl⟩⟩ := (⟨id hit, ht⟩ : _ /\ _)
 unfold Builtin.SmallTypes.nextOf; refine wpAny_bind (wpAny_callSpecial?_slot (name := Str.ofString "__next__") hit.typeIs F.slot_tuple_iterator_next (wpAny_call_entry F.slot_tuple_iterator_next hit.typeIs F.entry_tuple_iterator_next ?_ (F.args_tuple_iterator_next_1 _)))
 show wpAny (model prog w) _ (field (.ref it) 0 >>= _) _ _ s; refine wpAny_bind (wpAny_field ho hd (x := .ref t) rfl ?_)
 show wpAny (model prog w) _ (if (Value.ref t == Value.none) = true then _ else _) _ _ s; rw [if_neg (by exact Bool.false_ne_true)]
 show wpAny (model prog w) _ (field (.ref it) 1 >>= _) _ _ s; refine wpAny_bind (wpAny_field ho hd (x := .int i 0) rfl ?_)
 show wpAny (model prog w) _ (seqItems? (.ref t) >>= _) _ _ s; refine wpAny_bind (wpAny_seqItems hol hdl ?_); simp only [Int.toNat_natCast, hx]
 refine wpAny_bind (wpAny_setField ho hd (by simp) (wpAny_pure ⟨x, rfl, wpAny_pure (hQ _ ⟨_, Heap.get?_update_self _ ho (Obj.isFreed_of_fields (Obj.data_mapFields hd _)), (Obj.cls_mapFields ..).trans hc, by rw [Obj.data_mapFields hd]; simp [rawInt]⟩ (Heap.SameBut.update ..))⟩))
theorem gx_nextOf_tup_end {it t : Addr} {i : Nat} {items : Array Value} {Q : Value -> Shared -> Prop} (hh : A.handled = none) (hit : s.heap.IsTupleIter it t i) (ht : s.heap.IsTuple t items) (hx : items[i]? = none)
   (hE : ∀ h' e, Heap.ExtBut it s.heap h' -> (∃ o, h'.get? e = some o /\ o.cls = .type "StopIteration") -> E (.ref e) { s with heap := h' }) : wpAny (model prog w) A (Builtin.SmallTypes.nextOf (.ref it)) Q E s := by
 obtain ⟨⟨o, ho, hc, hd⟩, ⟨ol, hol, _, nl, hdl⟩⟩ := (⟨id hit, ht⟩ : _ /\ _)
 unfold Builtin.SmallTypes.nextOf; refine wpAny_bind (wpAny_callSpecial?_slot (name := Str.ofString "__next__") hit.typeIs F.slot_tuple_iterator_next (wpAny_call_entry F.slot_tuple_iterator_next hit.typeIs F.entry_tuple_iterator_next ?_ (F.args_tuple_iterator_next_1 _)))
 show wpAny (model prog w) _ (field (.ref it) 0 >>= _) _ _ s; refine wpAny_bind (wpAny_field ho hd (x := .ref t) rfl ?_)
 show wpAny (model prog w) _ (if (Value.ref t == Value.none) = true then _ else _) _ _ s; rw [if_neg (by exact Bool.false_ne_true)]
 show wpAny (model prog w) _ (field (.ref it) 1 >>= _) _ _ s; refine wpAny_bind (wpAny_field ho hd (x := .int i 0) rfl ?_)
 show wpAny (model prog w) _ (seqItems? (.ref t) >>= _) _ _ s; refine wpAny_bind (wpAny_seqItems hol hdl ?_); simp only [Int.toNat_natCast, hx]
 refine wpAny_bind (wpAny_rule (wpAny_bind (wpAny_setField ho hd (by simp) ?_))); show wpAny (model prog w) _ (newExc (.type "StopIteration") [] >>= _) _ _ _
 refine wpAny_bind ?_; simp only [newExc, newTuple]; refine wpAny_bind (wpAny_newObj_type ?_ (by size_fits))
 refine wpAny_bind (m := firstArgMember _ _) (wpAny_of_eq (a := Value.none) (by first | rfl | (simp only [firstArgMember]; rfl)) (wpAny_newObj_type ?_ (by size_fits)))
 simp only [raiseNew]; refine wpAny_bind (wpAny_handled ?_); first | rw [show A.in1.handled = none from hh] | rw [hh]
 refine wpAny_bind (wpAny_pure (wpAny_throw (hE _ _ (((Heap.SameBut.update ..).extBut.push _).push _) ⟨_, Heap.get?_push_size _ rfl, rfl⟩)))
end
theorem gx_draws_tup {prog : Program} {w : World} {A : Around} (hh : A.handled = none) (it t : Addr) (hne : t ≠ it) (items : Array Value) :
   Draws prog w A it [it, t] items.size (λ i v => items[i]? = some v) (λ i h => h.IsTupleIter it t i /\ h.IsTuple t items) where
 live := λ _ _ ⟨⟨o, ho, _⟩, _⟩ => ⟨o, ho⟩
 frame := λ _ _ _ ⟨⟨o, ho, r⟩, ⟨o2, ho2, r2⟩⟩ hk => ⟨⟨o, hk it (by simp) o ho, r⟩, ⟨o2, hk t (by simp) o2 ho2, r2⟩⟩
 item := λ i s Q E hi ⟨s1, s2⟩ hQ => gx_nextOf_tup s1 s2 (x := items[i]) (by simp [hi]) λ h' hit' hs' => hQ _ h' s.toks (by simp [hi]) ⟨hit', s2.extBut hs'.extBut hne⟩ hs'
 done := λ s Q E ⟨s1, s2⟩ hE => gx_nextOf_tup_end hh s1 s2 (by simp) hE
end L2
namespace L2
open PySem PySem.Spec PyProof.Rows
section
variable {X : Cx} {pins : List (Addr × Obj)} {σ : St} {H : Hp} {s : Shared} {h' : Heap}
theorem Inv.turnedL {t' : Nat} {ch : List Addr} (I : Inv X pins σ H s) (k : ∀ b o, b ∉ ch -> s.heap.get? b = some o -> h'.get? b = some o) (hf : ∀ b ∈ ch, FpOk X pins H b) : Inv X pins σ H { s with heap := h', toks := t' } := by
 have nit : ∀ b u, H b = some u -> b ∉ ch := λ b u e z => by rw [(hf b z).1] at e; cases e
 refine I.step (g' := s.gens) (d' := s.drawn) (ch := ch) (λ b hb => ⟨(hf b hb).2.2.2.1, (hf b hb).2.1, (hf b hb).2.2.2.2.1, (hf b hb).2.2.2.2.2⟩) (λ b o _ _ hc e _ => k b o hc e) (λ b o _ _ hc e _ => ⟨o.slots, k b o hc e⟩) (λ _ _ _ _ n => n) (λ b o hc e => ⟨o, k b o hc e⟩) (λ _ _ e => e) (λ _ _ _ e => e) (λ b ps e => ⟨#[], by rw [e]; simp⟩) (λ m hm => ?_) (λ b u e => ?_) I.bare
 . obtain ⟨o, es, ep, ho, r⟩ := hm
   exact ⟨o, es, ep, k _ _ (λ z => (hf _ z).2.1 rfl) ho, r⟩
 . have key : ∀ c, c = b \/ H c = some (.own b) -> c ∉ ch := λ c hc => by
     rcases hc with z | z
     . subst z; exact nit _ u e
     . exact nit c _ z
   exact (I.hok b u e).stay (λ c v hc q => k c v (key c hc) q) (λ _ q => q) λ _ _ q => q
theorem Inv.turnLaid {t' : Nat} {ch : List Addr} {a : Addr} {o : HO} (I : Inv X pins σ H s) (k : ∀ b o, b ∉ ch -> s.heap.get? b = some o -> h'.get? b = some o) (hf : ∀ b ∈ ch, FpOk X pins H b) (hp : s.heap.objs.size <= a) (new : ObjOk X.prog X.w (upd H a o) h' a o) :
   Inv X pins σ (upd H a o) { s with heap := h', toks := t' } := by
 have nit : ∀ b u, H b = some u -> b ∉ ch := λ b u e z => by rw [(hf b z).1] at e; cases e
 have hn : H a = none := I.hok.fresh hp
 refine I.step (g' := s.gens) (d' := s.drawn) (ch := ch) (λ b hb => ⟨(hf b hb).2.2.2.1, (hf b hb).2.1, (hf b hb).2.2.2.2.1, (hf b hb).2.2.2.2.2⟩) (λ b o _ _ hc e _ => k b o hc e) (λ b o _ _ hc e _ => ⟨o.slots, k b o hc e⟩) (λ b u _ q n => by rw [upd_ne (λ z => by subst z; exact absurd (Nat.lt_of_lt_of_le (Heap.lt_size q) hp) (Nat.lt_irrefl _))]; exact n) (λ b o hc e => ⟨o, k b o hc e⟩) (λ b xs q => by rw [upd_ne (ne_of_none q hn)]; exact q) (λ b u xs q => by rw [upd_ne (ne_of_none q hn)]; exact q) (λ b ps q => ⟨#[], by rw [upd_ne (ne_of_none q hn), q]; simp⟩) (λ m hm => ?_) (λ b u e => ?_) I.bare
 . obtain ⟨o, es, ep, ho, r⟩ := hm
   exact ⟨o, es, ep, k _ _ (λ z => (hf _ z).2.1 rfl) ho, r⟩
 . by_cases hb : b = a
   . subst hb
     rw [upd_same] at e
     cases e
     exact new
   . rw [upd_ne hb] at e
     have key : ∀ c, c = b \/ H c = some (.own b) -> c ∉ ch := λ c hc => by
       rcases hc with z | z
       . subst z; exact nit _ u e
       . exact nit c _ z
     exact (I.hok b u e).stay (λ c v hc q => k c v (key c hc) q) (λ c q => (upd_ne (ne_of_none q hn)).trans q) λ c xs q => (upd_ne (ne_of_none q hn)).trans q
end
theorem gx_meets_enum_tup (l : Addr) (items : Array Value) (n : Nat) (dct : Option Addr) (sl : Array (Option Value)) :
   Meets (Builtin.«enumerate.__new__» ⟨[.type "enumerate", .ref l], []⟩) (λ _ R s => s.heap.get? l = some { cls := .type "tuple", dict := dct, data := .seq items n, slots := sl } /\
     R (.ok (.ret (.ref (s.heap.push { cls := .type "tuple_iterator", data := .fields #[.ref l, .int 0 0] }).objs.size)))
       { s with heap := (s.heap.push { cls := .type "tuple_iterator", data := .fields #[.ref l, .int 0 0] }).push { cls := .type "enumerate", data := .fields #[.none, .bool false, .ref s.heap.objs.size, rawInt 0, .none, .none] } }) :=
 .of_wp λ prog w A R s h => by
   obtain ⟨h0, g0, d0, t0, o0⟩ := s
   obtain ⟨hl, h⟩ := h
   have hsub := sub_enumerate
   have hL : Heap.IsTuple (Shared.heap ⟨h0, g0, d0, t0, o0⟩) l items := ⟨_, hl, rfl, n, rfl⟩
   wp_walk using AutoSeq1.wpAny_loadPart' hl
   refine wpAny_stack_any λ st => wpAny_pure ?_
   split
   . rename_i c _ _ _ _ _
     cases (c == Value.type "enumerate") <;> (wp_walk using AutoSeq1.wpAny_loadPart' hl, wpAny_pyIter_tuple hL; exact ⟨_, rfl, h⟩)
   . wp_walk using AutoSeq1.wpAny_loadPart' hl, wpAny_pyIter_tuple hL; exact ⟨_, rfl, h⟩
theorem gx_call_enum_tup {prog : Program} {w : World} {A : Around} {E : Value -> Shared -> Prop} {s : Shared} {l : Addr} {items : Array Value} {Q : Value -> Shared -> Prop} (hL : s.heap.IsTuple l items)
   (h : ∀ h', IsEnum h' (s.heap.objs.size + 1) s.heap.objs.size 0 .none -> h'.IsTupleIter s.heap.objs.size l 0 -> (∀ b o, s.heap.get? b = some o -> h'.get? b = some o) -> Q (.ref (s.heap.objs.size + 1)) { s with heap := h' }) :
   wpAny (model prog w) A (call (.type "enumerate") [.ref l]) Q E s := by
 obtain ⟨⟨c, dct, dt, sl⟩, hl, hc, n, hd⟩ := hL
 cases (show c = .type "tuple" from hc); cases (show dt = .seq items n from hd)
 refine callType_new F.called_enumerate (by decide) (F.typeCall_enumerate_1 _) (F.newCall_enumerate_1 _) (λ obj => F.args_object_init_2 obj _) F.entry_enumerate_new (gx_meets_enum_tup l items n dct sl) ⟨hl, ?_⟩
 have hz : (s.heap.push { cls := .type "tuple_iterator", data := .fields #[.ref l, .int 0 0] }).objs.size = s.heap.objs.size + 1 := Heap.size_push ..
 have he : IsEnum ((s.heap.push { cls := .type "tuple_iterator", data := .fields #[.ref l, .int 0 0] }).push { cls := .type "enumerate", data := .fields #[.none, .bool false, .ref s.heap.objs.size, rawInt 0, .none, .none] }) (s.heap.objs.size + 1) s.heap.objs.size 0 .none := by
   have e := Heap.get?_push_size (s.heap.push { cls := .type "tuple_iterator", data := .fields #[.ref l, .int 0 0] }) (o := { cls := .type "enumerate", data := .fields #[.none, .bool false, .ref s.heap.objs.size, rawInt 0, .none, .none] }) rfl
   rw [hz] at e
   exact e
 show _ /\ _
 rw [hz]
 exact ⟨⟨_, he, rfl⟩, h _ he ⟨_, Heap.get?_push_of_some _ (Heap.get?_push_size _ rfl), rfl, rfl⟩ λ b o x => Heap.get?_push_of_some _ (Heap.get?_push_of_some _ x)⟩
def Ite (K : W.Frag) (a : Addr) : It :=
 ⟨λ i H => ∃ xs x, SqT K H a xs /\ xs[i]? = some x, λ i H y H' => ∃ b, y = .ref b /\ H b = none /\ ∀ xs x, SqT K H a xs -> xs[i]? = some x -> H' = upd H b (.tup [.int i, x]), λ i H => ∃ xs, SqT K H a xs /\ xs.length = i⟩
theorem turn_enum {P : Program} {w : World} {K : W.Frag} {elts : List Expr} {k : Nat} {pos : Pos} (a e it : Addr) (hne : e ≠ it) : Turn P w K (.Tuple elts k pos) (Ite K a) [e, it] e (λ i h => (∃ old, IsEnum h e it i old) /\ h.IsTupleIter it a i) where
 mem := by simp
 obj := λ i h st b hb => by
   obtain ⟨⟨old, he⟩, ⟨o, ho, hc, hd⟩⟩ := st
   rcases List.mem_cons.mp hb with z | z
   . subst z
     exact ⟨_, he, λ v z => by cases (show Data.fields _ = Data.cell v from z)⟩
   . have z : b = it := by simpa using z
     subst z
     exact ⟨o, ho, λ v z => by rw [hd] at z; cases z⟩
 keep := λ i h h' st kk => by
   obtain ⟨⟨old, he⟩, ⟨o, ho, r⟩⟩ := st
   exact ⟨⟨old, kk e (by simp) _ he⟩, ⟨o, kk it (by simp) o ho, r⟩⟩
 item := by
   intro X hP hw hK hc i pins s σ H E I hf st hg
   subst hP hw hK
   obtain ⟨⟨old, he⟩, hit⟩ := st
   obtain ⟨xs, x, hq, hx⟩ := hg
   obtain ⟨its, rv, p, hz⟩ := I.tuple hq
   have pt : s.heap.IsTuple a its.toArray := p
   obtain ⟨u, hu, ru⟩ := rv.get hx
   have hia : a ≠ it := λ z => by
     subst z
     obtain ⟨o1, h1, c1, _⟩ := hit
     obtain ⟨o2, h2, c2, _⟩ := pt
     rw [h1] at h2
     cases h2
     rw [c1] at c2
     injection c2 with c2
     exact absurd c2 (by decide)
   have hea : e ∉ [it, a] := λ z => by
     rcases List.mem_cons.mp z with z | z
     . exact hne z
     . have z : e = a := by simpa using z
       subst z
       obtain ⟨o2, h2, c2, _⟩ := pt
       rw [he] at h2
       cases h2
       injection (show Value.type "enumerate" = Value.type "tuple" from c2) with c2
       exact absurd c2 (by decide)
   have hlt : i < its.toArray.size := by
     have := (List.getElem?_eq_some_iff.mp hu).1
     simpa using this
   refine wpAny_pyNext_enum_itemD (gx_draws_tup (A := X.A.in1) (I.ok.hd hc) it a hia its.toArray) he ⟨hit, pt⟩ hlt hne hea λ y h' tk hy hout hst hT hsz hk => ?_
   refine ⟨_, rfl, wpAny_letOwnedTupleGo_enum hout λ h2 he2 hs2 => ?_⟩
   have hs2 : Heap.SameBut e h' h2 := hs2
   have hyu : y = u := by
     have hy : its.toArray[i]? = some y := hy
     have : its[i]? = some y := by simpa using hy
     rw [hu] at this
     exact (Option.some.inj this).symm
   subst hyu
   have helt : e < s.heap.objs.size := Heap.lt_size he
   have hfr : H s.heap.objs.size = none := I.hok.fresh (Nat.le_refl _)
   have hnS : s.heap.objs.size ≠ e := Nat.ne_of_gt helt
   have hT2 : h2.get? s.heap.objs.size = some { cls := .type "tuple", data := .seq #[.int i tk, y] } := (hs2.2 _ hnS).trans hT
   refine ⟨.ref s.heap.objs.size, upd H s.heap.objs.size (.tup [.int i, x]), I.turnLaid (t' := tk + 1) (ch := [e, it]) (λ b o hb q => ?_) hf (Nat.le_refl _) ?_, rfl, ⟨s.heap.objs.size, rfl, hfr, λ xs' x' hq' hx' => ?_⟩, ⟨⟨y, by exact_mod_cast he2⟩, ?_⟩, λ b hb => ?_⟩
   . have h1 : b ≠ e := λ z => hb (by simp [z])
     have h3 : b ≠ it := λ z => hb (by simp [z])
     exact (hs2.2 b h1).trans (hk b o h1 h3 q)
   . exact ⟨by show 2 <= sizeLine; decide, [.int i tk, y], .cons ⟨tk, rfl⟩ (.cons ru .nil), ⟨_, hT2, rfl, _, rfl⟩⟩
   . have := I.tuple_inj hq' hq
     subst this
     rw [hx] at hx'
     cases hx'
     rfl
   . obtain ⟨⟨o, ho, r⟩, _⟩ := hst
     exact ⟨o, (hs2.2 it hne.symm).trans ho, r⟩
   . have hb0 := (hf b hb).1
     rw [upd_ne]
     . exact hb0
     . intro z
       subst z
       obtain ⟨o, ho, _⟩ := hit
       rcases List.mem_cons.mp hb with z | z
       . exact hnS z
       . have z : s.heap.objs.size = it := by simpa using z
         exact absurd (Heap.lt_size ho) (by rw [<- z]; exact Nat.lt_irrefl _)
 done := by
   intro X hP hw hK hc i pins s σ H E I hf st hg
   subst hP hw hK
   obtain ⟨⟨old, he⟩, hit⟩ := st
   obtain ⟨xs, hq, hx⟩ := hg
   obtain ⟨its, rv, p, hz⟩ := I.tuple hq
   have pt : s.heap.IsTuple a its.toArray := p
   have hl := rv.length
   have hia : a ≠ it := λ z => by
     subst z
     obtain ⟨o1, h1, c1, _⟩ := hit
     obtain ⟨o2, h2, c2, _⟩ := pt
     rw [h1] at h2
     cases h2
     rw [c1] at c2
     injection c2 with c2
     exact absurd c2 (by decide)
   have hi : i = its.toArray.size := by simp; omega
   refine wpAny_pyNext_enum_endD (gx_draws_tup (A := X.A.in1) (I.ok.hd hc) it a hia its.toArray) he (by rw [<- hi]; exact ⟨hit, pt⟩) λ h' eb => ⟨rfl, ?_⟩
   exact I.turnedL (t' := s.toks) (ch := [e, it]) (λ b o hb q => eb b o (λ z => hb (by simp [z])) q) hf
 self := λ _ _ _ _ _ st h => by
   obtain ⟨⟨old, he⟩, _⟩ := st
   exact wpAny_pyIter_enum he h
end L2
namespace L2
open PySem PySem.Spec PyProof.Rows
section
variable {X : Cx}
theorem boot_enum : bootBuiltins "enumerate" = some (.type "enumerate") := bt_enumerate
def iEnumT (K : W.Frag) (ta : TA) : TI := λ σ H R => ta σ H λ vs H1 => ∃ a, vs = [.ref a] /\ (∃ xs, SqT K H1 a xs) /\ R (Ite K a) H1
theorem pi_enumT {a : Expr} {ta : TA} {p pos tpos : Pos} {elts : List Expr} {k : Nat} (hg : Gl X "enumerate") (hm : X.mg "enumerate" = none) (ha : PA X [a] ta) (hs : starEach [a] X.env = [(false, eval a X.env)] := by rfl) : PI X (.Tuple elts k tpos) (.Call (.Name "enumerate" p) [a] [] pos) (iEnumT X.K ta) := by
 intro pins s σ H R I h
 refine Call_ (ld_blt I hg hm boot_enum (PyProof.Rows.callWith_type1 (thn (ha pos pins s σ H _ I h) λ us s1 ⟨vs, H1, I1, r1, q1⟩ => ?_) hs rfl))
 obtain ⟨a, e, ⟨xs, hq⟩, q⟩ := q1
 subst e
 cases r1 with
 | cons r rr =>
   cases rr
   cases r
   obtain ⟨its, rv, p, hz⟩ := I1.tuple hq
   refine gx_call_enum_tup (show s1.heap.IsTuple a its.toArray from p) λ h' he hit hk => ?_
   refine wpAny_pyIter_enum he ?_
   refine ⟨s1.heap.objs.size + 1, [s1.heap.objs.size + 1, s1.heap.objs.size], _, _, H1, rfl, I1.kept (t' := s1.toks) hk, turn_enum a (s1.heap.objs.size + 1) s1.heap.objs.size (Nat.succ_ne_self _), ⟨⟨.none, he⟩, hit⟩, λ b hb => ?_, q⟩
   rcases List.mem_cons.mp hb with z | z
   . subst z
     exact I1.fpOk (Nat.le_succ _) (I1.hok.fresh (Nat.le_succ _))
   . have z : b = s1.heap.objs.size := by simpa using z
     subst z
     exact I1.fpOk (Nat.le_refl _) (I1.hok.fresh (Nat.le_refl _))
theorem for_enumT {K : W.Frag} {a : Addr} {xs : List V} {g : TG} {tb : TS} {D : Ends} {σ : St} {H : Hp} (Pv : Nat -> St -> Hp -> Prop) (h0 : Pv 0 σ H) (hl : ∀ i σ H, i <= xs.length -> Pv i σ H -> SqT K H a xs)
   (hs : ∀ i x σ H b, xs[i]? = some x -> Pv i σ H -> H b = none -> g (.ref b) σ (upd H b (.tup [.int i, x])) λ σ2 H2 => tb { D with nx := Pv (i + 1), ct := Pv (i + 1), bk := D.nx } σ2 H2) (hd : ∀ σ H, Pv xs.length σ H -> D.nx σ H) :
   ∃ W : Nat -> Nat -> St -> Hp -> Prop, (∃ m, W 0 m σ H) /\ ∀ i m σ H, W i m σ H -> ((Ite K a).stop i H /\ D.nx σ H) \/ ((Ite K a).go i H /\ ∃ N : St -> Hp -> Prop, (∀ σ' H', N σ' H' -> ∃ m', m' < m /\ W (i + 1) m' σ' H') /\ ∀ x H', (Ite K a).yld i H x H' -> g x σ H' λ σ2 H2 => tb { D with nx := N, ct := N, bk := D.nx } σ2 H2) := by
 refine ⟨λ i m σ H => m = xs.length - i /\ i <= xs.length /\ Pv i σ H, ⟨xs.length, by simp, Nat.zero_le _, h0⟩, ?_⟩
 rintro i m σ H ⟨rfl, hi, p⟩
 have q := hl i σ H hi p
 by_cases hlt : i < xs.length
 . refine .inr ⟨⟨xs, xs[i], q, by simp [hlt]⟩, Pv (i + 1), λ σ' H' p' => ⟨xs.length - (i + 1), by omega, rfl, hlt, p'⟩, λ x H' y => ?_⟩
   obtain ⟨b, rfl, hb, y⟩ := y
   rw [y xs xs[i] q (by simp [hlt])]
   exact hs i xs[i] σ H b (by simp [hlt]) p hb
 . have e : i = xs.length := by omega
   subst e
   exact .inl ⟨⟨xs, q, rfl⟩, hd σ H p⟩
end
end L2
namespace L2
open PySem PySem.Spec PyProof.Rows
section
variable {X : Cx} {pins : List (Addr × Obj)} {σ : St} {H : Hp} {s : Shared}
theorem Inv.freeze {d : Addr} {kvs : List (Key × V)} (I : Inv X pins σ H s) (e : H d = some (.dK kvs)) : ∃ o, s.heap.get? d = some o /\ Inv X pins σ (upd H d (.frz o (.dK kvs))) s := by
 obtain ⟨z, hd, vs, rel, ⟨o, es, ep, ho, r⟩⟩ := I.hok d _ e
 refine ⟨o, ho, ?_⟩
 have nd : ∀ b u, H b = some u -> u ≠ .dK kvs -> b ≠ d := λ b u q n z => by
   subst z
   rw [e] at q
   cases q
   exact n rfl
 refine I.step (g' := s.gens) (t' := s.toks) (d' := s.drawn) (h' := s.heap) (ch := []) (λ _ z => nomatch z) (λ b o _ _ _ q _ => q) (λ b o _ _ _ q _ => ⟨o.slots, q⟩) (λ b o _ _ n => ?_) (λ b o _ q => ⟨o, q⟩) (λ b xs q => ?_) (λ b o u q => ?_) (λ b ps q => ⟨#[], ?_⟩) (λ m hm => hm) (λ b u q => ?_) I.bare
 . rw [upd_ne (λ z => by subst z; rw [e] at n; cases n)]
   exact n
 . rw [upd_ne (nd b _ q (by intro z; cases z))]
   exact q
 . rw [upd_ne (nd b _ q (by intro z; cases z))]
   exact q
 . rw [upd_ne (nd b _ q (by intro z; cases z)), q]
   simp
 . have own : ∀ c b, H c = some (.own b) -> (upd H d (.frz o (.dK kvs))) c = some (.own b) := λ c b q => (upd_ne (nd c _ q (by intro z; cases z))).trans q
   have tup : ∀ c xs, H c = some (.tup xs) -> (upd H d (.frz o (.dK kvs))) c = some (.tup xs) := λ c xs q => (upd_ne (nd c _ q (by intro z; cases z))).trans q
   by_cases hb : b = d
   . subst hb
     rw [upd_same] at q
     cases q
     exact ⟨ho, (I.hok _ _ e).stay (λ _ _ _ q => q) (λ c q => own c _ q) tup⟩
   . rw [upd_ne hb] at q
     exact (I.hok b u q).stay (λ _ _ _ q => q) (λ c q => own c _ q) tup
end
theorem gx_entry_iiter : entryFor table "dict_itemiterator.__iter__" = some Builtin.«dict_keyiterator.__iter__» := entryFor_alias (id' := "dict_keyiterator.__iter__") (by kernel_rfl) (by first | rfl | decide +kernel | (unfold String.splitOn; simp +decide [String.splitOnAux])) (by decide +kernel) (by kernel_rfl)
def Itd (o : Obj) (d : Addr) (kvs : List (Key × V)) : It :=
 ⟨λ i H => H d = some (.frz o (.dK kvs)) /\ i < kvs.length, λ i H y H' => ∃ b, y = .ref b /\ H b = none /\ ∀ kv, kvs[i]? = some kv -> H' = upd H b (.tup [kV kv.1, kv.2]), λ i H => H d = some (.frz o (.dK kvs)) /\ i = kvs.length⟩
theorem frz_at {X : Cx} {pins : List (Addr × Obj)} {σ : St} {H : Hp} {s : Shared} {o : Obj} {d : Addr} {kvs : List (Key × V)} (I : Inv X pins σ H s) (e : H d = some (.frz o (.dK kvs))) {es0 : Array DictEntry} {ep : Nat} (hep : o.data = .dict es0 ep) :
   ∃ vs, KV kvs vs /\ s.heap.DictAt (mixKind X.prog X.w) d vs ep := by
 obtain ⟨h1, z, hd, vs, rel, ⟨o', es, ep', ho, hx, hdat, r⟩⟩ := I.hok d _ e
 rw [h1] at ho
 cases ho
 rw [hep] at hdat
 cases hdat
 exact ⟨vs, rel, o, es0, h1, hx, hep, r⟩
theorem turn_items {P : Program} {w : World} {K : W.Frag} {elts : List Expr} {k : Nat} {pos : Pos} (o : Obj) (d it : Addr) (kvs : List (Key × V)) (es0 : Array DictEntry) (ep : Nat) (hep : o.data = .dict es0 ep) :
   Turn P w K (.Tuple elts k pos) (Itd o d kvs) [it] it (λ i h => ∃ ok ov, IsItemIter h it d i kvs.length ep ok ov) where
 mem := by simp
 obj := λ i h st b hb => by
   obtain ⟨ok, ov, he⟩ := st
   have z : b = it := by simpa using hb
   subst z
   exact ⟨_, he, λ v z => by cases (show Data.fields _ = Data.cell v from z)⟩
 keep := λ i h h' st kk => by
   obtain ⟨ok, ov, he⟩ := st
   exact ⟨ok, ov, kk it (by simp) _ he⟩
 item := by
   intro X hP hw hK hc i pins s σ H E I hf st hg
   subst hP hw hK
   obtain ⟨ok, ov, he⟩ := st
   obtain ⟨hfz, hi⟩ := hg
   obtain ⟨vs, rel, hD⟩ := frz_at I hfz hep
   have hlen : kvs.length = vs.length := KV.length rel
   have hi' : i < vs.length := by omega
   have rk : kvs[i].1 = vs[i].1 /\ RelV kvs[i].2 vs[i].2 := paired_at rel hi hi'
   refine wpAny_pyNext_items_item (knd := mixKind X.prog X.w) (k := vs[i].1) (v := vs[i].2) (kvs := vs) (by rw [<- hlen]; exact he) hD (by simp [hi']) λ key h' hkey hout hT hsz hk => ?_
   refine ⟨_, rfl, wpAny_letOwnedTupleGo_items hout λ h2 he2 hs2 => ?_⟩
   have hs2 : Heap.SameBut it h' h2 := hs2
   have hilt : it < s.heap.objs.size := Heap.lt_size he
   have hnS : s.heap.objs.size ≠ it := Nat.ne_of_gt hilt
   have hfr : H s.heap.objs.size = none := I.hok.fresh (Nat.le_refl _)
   have hT2 : h2.get? s.heap.objs.size = some { cls := .type "tuple", data := .seq #[key, vs[i].2] } := (hs2.2 _ hnS).trans hT
   refine ⟨.ref s.heap.objs.size, upd H s.heap.objs.size (.tup [kV kvs[i].1, kvs[i].2]), I.turnLaid (t' := s.toks) (ch := [it]) (λ b o hb q => ?_) hf (Nat.le_refl _) ?_, rfl, ⟨s.heap.objs.size, rfl, hfr, λ kv hkv => ?_⟩, ⟨_, _, by rw [hlen]; exact he2⟩, λ b hb => ?_⟩
   . have h1 : b ≠ it := λ z => hb (by simp [z])
     exact (hs2.2 b h1).trans (hk b o h1 q)
   . exact ⟨by show 2 <= sizeLine; decide, [key, vs[i].2], .cons (by rw [rk.1]; exact is_rel hkey) (.cons rk.2 .nil), ⟨_, hT2, rfl, _, rfl⟩⟩
   . have : kvs[i] = kv := by simpa [hi] using hkv
     rw [<- this]
   . have z : b = it := by simpa using hb
     subst z
     rw [upd_ne hnS.symm]
     exact (hf _ hb).1
 done := by
   intro X hP hw hK hc i pins s σ H E I hf st hg
   subst hP hw hK
   obtain ⟨ok, ov, he⟩ := st
   obtain ⟨hfz, hi⟩ := hg
   obtain ⟨vs, rel, hD⟩ := frz_at I hfz hep
   have hlen : kvs.length = vs.length := KV.length rel
   refine wpAny_pyNext_items_end (knd := mixKind X.prog X.w) (kvs := vs) (I.ok.hd hc) (by rw [<- hlen]; exact he) hD (by simp; omega) λ h' eb => ⟨rfl, ?_⟩
   exact I.turnedL (t' := s.toks) (ch := [it]) (λ b o hb q => eb b o (λ z => hb (by simp [z])) q) hf
 self := λ A i s Q E st h => by
   obtain ⟨ok, ov, he⟩ := st
   have hT : s.TypeIs (.ref it) "dict_itemiterator" := ⟨_, he, rfl⟩
   exact wpAny_pyIter_slot hT F.slot_dict_itemiterator_iter (wpAny_call_entry F.slot_dict_itemiterator_iter hT gx_entry_iiter (show wpAny _ _ (ret (.ref it)) _ _ s from wpAny_pure ⟨_, rfl, "dict_itemiterator", _, hT, F.slot_dict_itemiterator_next.lookup, h⟩) (F.args_dict_itemiterator_iter_1 _))
section
variable {X : Cx}
def iItems (td : TE) : TI := λ σ H R => td σ H λ x H1 => ∃ d kvs, x = .ref d /\ ((H1 d = some (.dK kvs) /\ ∀ o, R (Itd o d kvs) (upd H1 d (.frz o (.dK kvs)))) \/ ∃ o, H1 d = some (.frz o (.dK kvs)) /\ R (Itd o d kvs) H1)
theorem pi_items {l : Expr} {td : TE} {apos cpos tpos : Pos} {elts : List Expr} {k : Nat} (hl : PE X l td) (hbase : attributeBase l "items" X.env (eval l X.env) = eval l X.env := by rfl) (hline : (apos.endLine == cpos.line) = true := by rfl) :
   PI X (.Tuple elts k tpos) (.Call (.Attribute l "items" apos) [] [] cpos) (iItems td) := by
 intro pins s σ H R I h
 refine wpAny_Call_method0_late hbase hline (thn (hl pins s σ H _ I h) λ v s1 ⟨x, H1, I1, r1, q1⟩ => ?_)
 obtain ⟨d, kvs, rfl, q1⟩ := q1
 cases r1
 have key : ∃ o H2, Inv X pins σ H2 s1 /\ H2 d = some (.frz o (.dK kvs)) /\ R (Itd o d kvs) H2 := by
   rcases q1 with ⟨e, q⟩ | ⟨o, e, q⟩
   . obtain ⟨o, ho, I2⟩ := I1.freeze e
     exact ⟨o, _, I2, upd_same, q o⟩
   . exact ⟨o, H1, I1, e, q⟩
 obtain ⟨o, H2, I2, e2, q⟩ := key
 obtain ⟨ho, z, hd, vs, rel, dd⟩ := I2.hok d _ e2
 obtain ⟨o', es, ep, ho', hx, hdat, r⟩ := id dd
 rw [ho] at ho'
 cases ho'
 refine ⟨"dict", "dict.items", PySem.F.plainAttrs_dict, PySem.F.slot_dict_items, PySem.F.type_dict_items, dd.typeIs, λ b q => ?_, Calls.callWith_builtin rfl (PySem.evalArgs_none ?_)⟩
 . cases q
   exact ⟨o, ho, hx.2.1⟩
 refine call_meetsIn PySem.F.slot_dict_items dd.typeIs PySem.F.entry_dict_items (PySem.F.args_dict_items_1 _) (meets_dict_items (mixKind X.prog X.w) d hd) ⟨⟨vs, dd⟩, ?_⟩
 have I3 : Inv X pins σ H2 { s1 with heap := s1.heap.push { cls := .type "dict_items", data := .fields #[.ref d] } } := I2.kept (t' := s1.toks) λ b o e => Heap.get?_push_of_some _ e
 obtain ⟨vs3, rel3, hD3⟩ := frz_at I3 e2 hdat
 refine wpAny_pyIter_items (knd := mixKind X.prog X.w) (kvs := vs3) (ep := ep) ⟨_, Heap.get?_push_size _ rfl, rfl, rfl⟩ hD3 ?_
 have hlen : kvs.length = vs3.length := KV.length rel3
 rw [<- hlen]
 generalize hh3 : s1.heap.push { cls := .type "dict_items", data := .fields #[.ref d] } = h3 at I3 ⊢
 refine ⟨h3.objs.size, [h3.objs.size], _, _, H2, rfl, I3.kept (t' := s1.toks) λ b o e => Heap.get?_push_of_some _ e, turn_items o d h3.objs.size kvs es ep hdat, ⟨_, _, Heap.get?_push_size _ rfl⟩, λ b hb => ?_, q⟩
 have z : b = h3.objs.size := by simpa using hb
 subst z
 exact I3.fpOk (Nat.le_refl _) (I3.hok.fresh (Nat.le_refl _))
theorem for_items {o : Obj} {d : Addr} {kvs : List (Key × V)} {g : TG} {tb : TS} {D : Ends} {σ : St} {H : Hp} (Pv : Nat -> St -> Hp -> Prop) (h0 : Pv 0 σ H) (hl : ∀ i σ H, i <= kvs.length -> Pv i σ H -> H d = some (.frz o (.dK kvs)))
   (hs : ∀ i kv σ H b, kvs[i]? = some kv -> Pv i σ H -> H b = none -> g (.ref b) σ (upd H b (.tup [kV kv.1, kv.2])) λ σ2 H2 => tb { D with nx := Pv (i + 1), ct := Pv (i + 1), bk := D.nx } σ2 H2) (hd : ∀ σ H, Pv kvs.length σ H -> D.nx σ H) :
   ∃ W : Nat -> Nat -> St -> Hp -> Prop, (∃ m, W 0 m σ H) /\ ∀ i m σ H, W i m σ H -> ((Itd o d kvs).stop i H /\ D.nx σ H) \/ ((Itd o d kvs).go i H /\ ∃ N : St -> Hp -> Prop, (∀ σ' H', N σ' H' -> ∃ m', m' < m /\ W (i + 1) m' σ' H') /\ ∀ x H', (Itd o d kvs).yld i H x H' -> g x σ H' λ σ2 H2 => tb { D with nx := N, ct := N, bk := D.nx } σ2 H2) := by
 refine ⟨λ i m σ H => m = kvs.length - i /\ i <= kvs.length /\ Pv i σ H, ⟨kvs.length, by simp, Nat.zero_le _, h0⟩, ?_⟩
 rintro i m σ H ⟨rfl, hi, p⟩
 have q := hl i σ H hi p
 by_cases hlt : i < kvs.length
 . refine .inr ⟨⟨q, hlt⟩, Pv (i + 1), λ σ' H' p' => ⟨kvs.length - (i + 1), by omega, rfl, hlt, p'⟩, λ x H' y => ?_⟩
   obtain ⟨b, rfl, hb, y⟩ := y
   rw [y kvs[i] (by simp [hlt])]
   exact hs i kvs[i] σ H b (by simp [hlt]) p hb
 . have e : i = kvs.length := by omega
   subst e
   exact .inl ⟨⟨q, rfl⟩, hd σ H p⟩
end
section
variable {X : Cx} {o e f : Expr} {apos cpos : Pos} {td ty tx : TE}
def tDSetd (td ty tx : TE) : TE := λ σ H Q => td σ H λ x H1 => ∃ a, x = .ref a /\ IsD H1 a /\ ty σ H1 λ y H2 => tx σ H2 λ z H3 => ∃ kvs k, H3 a = some (.dK kvs) /\ y = kV k /\ kvs.length < sizeLine /\
 (∀ v, valV kvs k = some v -> Q v H3) /\ (valV kvs k = none -> Q z (upd H3 a (.dK (putK kvs k z))))
theorem pe_dsetd (ho : PE X o td) (he : PE X e ty) (hf : PE X f tx) (m : M2 X o "setdefault" apos e f cpos) : PE X (.Call (.Attribute o "setdefault" apos) [e, f] [] cpos) (tDSetd td ty tx) := by
 intro pins s σ H Q I h
 refine wpAny_Call_method m.base m.few m.line PySem.F.plainAttrs_dict PySem.F.slot_dict_setdefault PySem.F.type_dict_setdefault (thn (ho pins s σ H _ I h) λ u s1 ⟨x, H1, I1, rx, a, ex, d, q1⟩ => ?_)
 subst ex
 obtain rfl : u = Value.ref a := rx
 obtain ⟨t1, t2, _⟩ := isD_at I1 d
 refine ⟨t1, t2, ?_⟩
 rw [m.trees]
 refine Calls.callWith_builtin rfl (Calls.evalArgs_plain (Calls.spliced_cons (thn (he pins s1 σ H1 _ I1 q1) λ iv s2 ⟨y, H2, I2, ry, q2⟩ => Calls.spliced_cons (thn (hf pins s2 σ H2 _ I2 q2) λ fv s3 ⟨z, H3, I3, rz, kvs, k, ea, ey, hl, q3, q4⟩ => Calls.spliced_nil ?_))))
 subst ey
 obtain ⟨hz, hd, vs, rel, dd⟩ := dk_of I3.hok ea
 refine call_meetsIn PySem.F.slot_dict_setdefault dd.typeIs PySem.F.entry_dict_setdefault (PySem.F.args_dict_setdefault_3 _ _ _) (kt_meets_setdefault (mixKind X.prog X.w) a (kV_is ry) hd fv) ⟨vs, dd, by rw [<- rel.length]; exact hz, λ v hv => ?_, λ hn h' dd' hs => ?_⟩
 . have rv := rel.val k
   rw [hv] at rv
   cases l : valV kvs k with
   | none => rw [l] at rv; exact absurd rv (by intro z; cases z)
   | some v' =>
     rw [l] at rv
     exact ⟨v', H3, I3.tok _, rv, q3 v' l⟩
 . have rv := rel.val k
   rw [hn] at rv
   have l : valV kvs k = none := by
     cases l : valV kvs k with
     | none => rfl
     | some v' => rw [l] at rv; exact absurd rv (by intro z; cases z)
   have hex : ∃ q, h'.get? a = some q := let ⟨q, _, _, hq, _⟩ := dd'; ⟨q, hq⟩
   have hlp : (putK kvs k z).length <= sizeLine := by have := length_putK kvs k z; omega
   exact ⟨z, _, d_write I3 (by rw [ea]; exact True.intro) hs hex (dk_new hlp hd (rel.put k rz) dd'), rz, q4 l⟩
end
end L2
namespace L2
open PySem PySem.Spec PyProof.Rows
def Itn (hi : Int) (n : Nat) : It := ⟨λ i _ => i < n, λ i H x H' => H' = H /\ x = .int (hi - i), λ i _ => n <= i⟩
theorem turn_down {P : Program} {w : World} {K : W.Frag} {tg : Expr} (it : Addr) (hi : Int) (n : Nat) : Turn P w K tg (Itn hi n) [it] it (λ i h => IsRangeIter h it (hi + (i : Nat) * (-1)) ((n : Int) - (i : Nat)) (-1)) where
 mem := by simp
 obj := λ i h st b hb => by
   have e : b = it := by simpa using hb
   subst e
   exact ⟨_, st, λ v z => by cases (show Data.fields _ = Data.cell v from z)⟩
 keep := λ i h h' st k => k it (by simp) _ st
 item := by
   intro X hP hw hK hc i pins s σ H E I hf st hg
   subst hP hw hK
   refine (Walks.range (prog := X.prog) (w := X.w) (I.ok.hd hc) it hi (-1) n).item i s _ _ hg st λ v h' tk hv st' kk => ?_
   obtain ⟨t, rfl⟩ := hv
   have I1 : Inv X pins σ H { s with heap := h', toks := tk } := I.turnedL (ch := [it]) (λ b o hb e => kk b o hb e) hf
   have e : hi + (i : Int) * (-1) = hi - (i : Int) := by omega
   exact ⟨_, rfl, go_of (s := { s with heap := h', toks := tk }) (n := "range_iterator") st' rfl rfl (by decide) ⟨.int (hi - i), H, I1, ⟨t, by rw [e]⟩, ⟨rfl, rfl⟩, st', λ b hb => (hf b hb).1⟩⟩
 done := by
   intro X hP hw hK hc i pins s σ H E I hf st hg
   subst hP hw hK
   exact wpAny_pyNext_range_end (I.ok.hd hc) st (by have : n <= i := hg; omega) λ h' eb => ⟨rfl, I.turnedL (t' := s.toks) (ch := [it]) (λ b o hb e => eb b o (λ z => hb (by simp [z])) e) hf⟩
 self := λ _ _ _ _ _ st h => wpAny_pyIter_rangeiter st h
theorem rangeSize_down (a b : Int) : Builtin.Range.rangeSize a b (-1) = if b < a then a - b else 0 := by
 unfold Builtin.Range.rangeSize
 rw [if_neg (by decide)]
 have : (-(-1) : Int) = 1 := by decide
 rw [this]
 rw [Int.ediv_one]
 by_cases h : b < a
 . rw [if_pos h, if_pos h]; omega
 . rw [if_neg h, if_neg h]
theorem small_down {a b : Int} (ha : -(2 ^ 60) <= a) (ha' : a < 2 ^ 60) (hb : -(2 ^ 60) <= b) (hb' : b < 2 ^ 60) : Builtin.Range.small a b (-1) = true := by
 unfold Builtin.Range.small
 rw [rangeSize_down]
 simp only [Builtin.Range.rangeFitsLong, Bool.and_eq_true, Bool.or_eq_true, decide_eq_true_eq, beq_iff_eq, show ¬ ((-1 : Int) > 0) by decide, if_false]
 by_cases h : b < a
 . simp only [if_pos h]; omega
 . simp only [if_neg h]; omega
section
variable {X : Cx} {tg : Expr}
def iDown (ta : TA) : TI := λ σ H R => ta σ H λ vs H1 => ∃ i j : Int, vs = [.int i, .int j, .int (-1)] /\ (-(2 ^ 60) <= i /\ i < 2 ^ 60 /\ -(2 ^ 60) <= j /\ j < 2 ^ 60) /\ R (Itn i (i - j).toNat) H1
theorem pi_down {a b c : Expr} {ta : TA} {p pos : Pos} (hg : Gl X "range") (hm : X.mg "range" = none) (ha : PA X [a, b, c] ta) (hs : starEach [a, b, c] X.env = (false, eval a X.env) :: starEach [b, c] X.env := by rfl) (hs2 : (backTo pos (starEach [b, c] X.env)).any (·.1) = false := by rfl) :
   PI X tg (.Call (.Name "range" p) [a, b, c] [] pos) (iDown ta) := by
 intro pins s σ H R I h
 refine Call_ (ld_blt I hg hm boot_range (PyProof.Rows.callWith_type1 (thn (ha pos pins s σ H _ I h) λ us s1 ⟨vs, H1, I1, r1, q1⟩ => ?_) hs hs2))
 obtain ⟨i, j, e, ⟨q1, q2, q3, q4⟩, q⟩ := q1
 subst e
 cases r1 with
 | cons r rr =>
   cases rr with
   | cons r' rr =>
     cases rr with
     | cons r'' rr =>
       cases rr
       obtain ⟨t, rfl⟩ := r
       obtain ⟨t', rfl⟩ := r'
       obtain ⟨t'', rfl⟩ := r''
       refine call_range_3 (by decide) ?_ (.inl (PyProof.noPylong_small (by omega)))
       refine wpAny_pyIter_range (IsRange.new ..) (small_down q1 q2 q3 q4) ?_
       have I2 : Inv X pins σ H1 { s1 with heap := s1.heap.push { cls := .type "range", data := .fields #[.int i t, .int j t', .int (-1) t''] }, toks := s1.toks } := I1.kept λ b o e => Heap.get?_push_of_some _ e
       refine ⟨_, [(s1.heap.push { cls := .type "range", data := .fields #[.int i t, .int j t', .int (-1) t''] }).objs.size], _, _, H1, rfl, I2.kept (t' := s1.toks) λ b o e => Heap.get?_push_of_some _ e, turn_down _ i (i - j).toNat, ?_, λ b hb => ?_, q⟩
       . have e1 : i + ((0 : Nat) : Int) * (-1) = i := by omega
         have e2 : (((i - j).toNat : Nat) : Int) - ((0 : Nat) : Int) = Builtin.Range.rangeSize i j (-1) := by rw [rangeSize_down]; split <;> omega
         show IsRangeIter _ _ (i + ((0 : Nat) : Int) * (-1)) ((((i - j).toNat : Nat) : Int) - ((0 : Nat) : Int)) (-1)
         rw [e1, e2]
         exact Heap.get?_push_size _ rfl
       . have e : b = (s1.heap.push { cls := .type "range", data := .fields #[.int i t, .int j t', .int (-1) t''] }).objs.size := by simpa using hb
         subst e
         exact I2.fpOk (Nat.le_refl _) (I2.hok.fresh (Nat.le_refl _))
theorem for_down {hi : Int} {n : Nat} {g : TG} {tb : TS} {D : Ends} {σ : St} {H : Hp} (Pv : Nat -> St -> Hp -> Prop) (h0 : Pv 0 σ H) (hs : ∀ i σ H, i < n -> Pv i σ H -> g (.int (hi - i)) σ H λ σ2 H2 => tb { D with nx := Pv (i + 1), ct := Pv (i + 1), bk := D.nx } σ2 H2) (hd : ∀ σ H, Pv n σ H -> D.nx σ H) :
   ∃ W : Nat -> Nat -> St -> Hp -> Prop, (∃ m, W 0 m σ H) /\ ∀ i m σ H, W i m σ H -> ((Itn hi n).stop i H /\ D.nx σ H) \/ ((Itn hi n).go i H /\ ∃ N : St -> Hp -> Prop, (∀ σ' H', N σ' H' -> ∃ m', m' < m /\ W (i + 1) m' σ' H') /\ ∀ x H', (Itn hi n).yld i H x H' -> g x σ H' λ σ2 H2 => tb { D with nx := N, ct := N, bk := D.nx } σ2 H2) := by
 refine ⟨λ i m σ H => m = n - i /\ i <= n /\ Pv i σ H, ⟨n, by simp, Nat.zero_le _, h0⟩, ?_⟩
 rintro i m σ H ⟨rfl, hi', p⟩
 by_cases hlt : i < n
 . refine .inr ⟨hlt, Pv (i + 1), λ σ' H' p' => ⟨n - (i + 1), by omega, rfl, hlt, p'⟩, λ x H' y => ?_⟩
   obtain ⟨e, y⟩ := y
   subst e y
   exact hs i σ _ hlt p
 . have e : i = n := by omega
   subst e
   exact .inl ⟨Nat.le_refl _, hd σ H p⟩
end
end L2
namespace L2
open PySem PySem.Spec PyProof.Rows
theorem pss_cut {X : Cx} {st : Stmt} {rest : List Stmt} {t u : TS} (h1 : PS X st t) (h2 : PSs X rest u) : PSs X (st :: rest) (λ D σ H => ∃ M : St -> Hp -> Prop, t { D with nx := M } σ H /\ ∀ σ' H', M σ' H' -> u D σ' H') := by
 intro pins s σ H D I h
 obtain ⟨M, h, hm⟩ := h
 refine wpAny_execs_cons (thn (h1 pins s σ H { D with nx := M } I h) λ f s1 q => ?_)
 cases f with
 | next =>
   obtain ⟨σ', H', I', q⟩ := q
   exact h2 pins s1 σ' H' D I' (hm _ _ q)
 | ret v => exact q
 | brk => exact q
 | cont => exact q
end L2
namespace L2
open PySem PySem.Spec PyProof.Rows
end L2
namespace L2
open PySem PySem.Spec PyProof.Rows PySem.W
end L2
namespace L2
open PySem PySem.Spec PyProof.Rows
end L2
namespace L2
open PySem PySem.Spec PyProof.Rows
def Lay (n : Nat) (d : PyData) : Prop := PyData.canLay0 d = true /\ PyData.depth d <= n
theorem Lay.int {n : Nat} (i : Int) : Lay n (.int i) := ⟨by unfold PyData.canLay0; rfl, by unfold PyData.depth; exact Nat.zero_le _⟩
theorem Lay.bool {n : Nat} (b : Bool) : Lay n (.bool b) := ⟨by unfold PyData.canLay0; rfl, by unfold PyData.depth; exact Nat.zero_le _⟩
theorem Lay.none {n : Nat} : Lay n .none := ⟨by unfold PyData.canLay0; rfl, by unfold PyData.depth; exact Nat.zero_le _⟩
theorem Lay.str {n : Nat} {x : Str} (h : PyData.strOk x = true) : Lay n (.str x) := ⟨by unfold PyData.canLay0; exact h, by unfold PyData.depth; exact Nat.zero_le _⟩
theorem lays {n : Nat} : ∀ {ds : List PyData}, (∀ d ∈ ds, Lay n d) -> PyData.canLayAll0 ds = true /\ PyData.depthAll ds <= n
 | [], _ => ⟨by unfold PyData.canLayAll0; rfl, by unfold PyData.depthAll; exact Nat.zero_le _⟩
 | d :: ds, h => by
   have h1 := h d List.mem_cons_self
   have h2 := lays (λ x hx => h x (List.mem_cons_of_mem _ hx))
   constructor
   . unfold PyData.canLayAll0; rw [h1.1, h2.1]; rfl
   . unfold PyData.depthAll; exact Nat.max_le.mpr ⟨h1.2, h2.2⟩
theorem Lay.list {n : Nat} {ds : List PyData} (h : ∀ d ∈ ds, Lay n d) : Lay (n + 1) (.list ds) := by
 have h2 := lays h
 exact ⟨by unfold PyData.canLay0; exact h2.1, by unfold PyData.depth; have := h2.2; omega⟩
theorem Lay.tuple {n : Nat} {ds : List PyData} (h : ∀ d ∈ ds, Lay n d) : Lay (n + 1) (.tuple ds) := by
 have h2 := lays h
 exact ⟨by unfold PyData.canLay0; exact h2.1, by unfold PyData.depth; have := h2.2; omega⟩
theorem Lay.shaped {n : Nat} {d : PyData} (h : Lay n d) (hn : n <= 64) : SeqAt.shaped d = true := by
 unfold SeqAt.shaped
 rw [h.1, decide_eq_true (Nat.le_trans h.2 hn)]
 rfl
theorem Lay.refl {n : Nat} {d : PyData} (h : Lay n d) : PyData.eqv d d = true := SeqAt.eqv_refl d h.1
theorem Lay.mono {n m : Nat} {d : PyData} (h : Lay n d) (hn : n <= m) : Lay m d := ⟨h.1, Nat.le_trans h.2 hn⟩
theorem rEqD_same {K : W.Frag} {x y : V} {H : Hp} {Q : VK} {d : PyData} {n : Nat} (hn : n <= 64) (l : Lay n d) (hx : DatV K H d x) (hy : DatV K H d y) (q : Q (.bl true) H) : rEqD K x y H Q :=
 ⟨d, d, hx, hy, l.shaped hn, l.shaped hn, by rw [l.refl]; exact q⟩
theorem rNeD_same {K : W.Frag} {x y : V} {H : Hp} {Q : VK} {d : PyData} {n : Nat} (hn : n <= 64) (l : Lay n d) (hx : DatV K H d x) (hy : DatV K H d y) (q : Q (.bl false) H) : rNeD K x y H Q :=
 ⟨d, d, hx, hy, l.shaped hn, l.shaped hn, by rw [l.refl]; exact q⟩
theorem datV_list {K : W.Frag} {H : Hp} {a : Addr} {xs : List V} {ds : List PyData} (h : SqL K H a xs) (hd : DatAll K H ds xs) : DatV K H (.list ds) (.ref a) := by
 unfold DatV; exact ⟨a, xs, rfl, h, hd⟩
theorem datV_tuple {K : W.Frag} {H : Hp} {a : Addr} {xs : List V} {ds : List PyData} (h : SqT K H a xs) (hd : DatAll K H ds xs) : DatV K H (.tuple ds) (.ref a) := by
 unfold DatV; exact ⟨a, xs, rfl, h, hd⟩
theorem datV_int {K : W.Frag} {H : Hp} (i : Int) : DatV K H (.int i) (.int i) := by unfold DatV; rfl
theorem datV_bl {K : W.Frag} {H : Hp} (b : Bool) : DatV K H (.bool b) (.bl b) := by unfold DatV; rfl
theorem datV_str {K : W.Frag} {H : Hp} (x : Str) : DatV K H (.str x) (.str x) := by unfold DatV; rfl
theorem datV_non {K : W.Frag} {H : Hp} : DatV K H .none .non := by unfold DatV; rfl
theorem datAll_nil {K : W.Frag} {H : Hp} : DatAll K H [] [] := by unfold DatAll; rfl
theorem datAll_cons {K : W.Frag} {H : Hp} {d : PyData} {ds : List PyData} {x : V} {xs : List V} (h : DatV K H d x) (hs : DatAll K H ds xs) : DatAll K H (d :: ds) (x :: xs) := by
 unfold DatAll; exact ⟨x, xs, rfl, h, hs⟩
theorem datAll_map {K : W.Frag} {H : Hp} {α : Type} {f : α -> PyData} {g : α -> V} : ∀ {l : List α}, (∀ a ∈ l, DatV K H (f a) (g a)) -> DatAll K H (l.map f) (l.map g)
 | [], _ => datAll_nil
 | a :: l, h => datAll_cons (h a List.mem_cons_self) (datAll_map λ b hb => h b (List.mem_cons_of_mem _ hb))
mutual
theorem DatV.mono {K : W.Frag} {H H' : Hp} (e : Same H H') : ∀ (d : PyData) (v : V), DatV K H d v -> DatV K H' d v
 | .none, v, h => by unfold DatV at h ⊢; exact h
 | .bool b, v, h => by unfold DatV at h ⊢; exact h
 | .int i, v, h => by unfold DatV at h ⊢; exact h
 | .str x, v, h => by unfold DatV at h ⊢; exact h
 | .list ds, v, h => by
   unfold DatV at h ⊢
   obtain ⟨a, xs, rfl, hq, hd⟩ := h
   exact ⟨a, xs, rfl, e.seq hq, DatAll.mono e ds xs hd⟩
 | .tuple ds, v, h => by
   unfold DatV at h ⊢
   obtain ⟨a, xs, rfl, hq, hd⟩ := h
   exact ⟨a, xs, rfl, e.tup hq, DatAll.mono e ds xs hd⟩
 | .dict _, v, h => by unfold DatV at h; exact h.elim
theorem DatAll.mono {K : W.Frag} {H H' : Hp} (e : Same H H') : ∀ (ds : List PyData) (xs : List V), DatAll K H ds xs -> DatAll K H' ds xs
 | [], xs, h => by unfold DatAll at h ⊢; exact h
 | d :: ds, xs, h => by
   unfold DatAll at h ⊢
   obtain ⟨x, r, rfl, hd, hds⟩ := h
   exact ⟨x, r, rfl, DatV.mono e d x hd, DatAll.mono e ds r hds⟩
end
def ers (l : Addr) (H : Hp) : Hp := λ b => if b = l then none else H b
theorem ers_ne {l b : Addr} {H : Hp} (h : b ≠ l) : ers l H b = H b := by unfold ers; rw [if_neg h]
theorem ers_same {l : Addr} {H : Hp} : Same (ers l H) H := λ b o h => by
 unfold ers at h
 split at h
 . cases h
 . exact h
theorem ers_upd {l : Addr} {H : Hp} {o : HO} : ers l (upd H l o) = ers l H := by
 funext b
 unfold ers upd
 split <;> rfl
theorem Same.ers {l : Addr} {H H' : Hp} (e : Same H H') : Same (ers l H) (ers l H') := λ b o h => by
 unfold L2.ers at h ⊢
 split at h
 . cases h
 . rename_i hb
   rw [if_neg hb]
   exact e b o h
theorem ix0 {n : Nat} (h : 0 < n) : ixN n 0 = some 0 := by
 unfold ixN
 rw [if_pos (Int.le_refl 0), if_pos (by omega)]
 rfl
theorem ixI {n : Nat} {i : Int} (h0 : 0 <= i) (h : i < n) : ixN n i = some i.toNat := by
 unfold ixN
 rw [if_pos h0, if_pos h]
theorem at_int {cs : List Int} {i : Int} (h0 : 0 <= i) (h : i < cs.length) : atI (cs.map V.int) i = some (V.int (cs.getD i.toNat 0)) := by
 obtain ⟨j, rfl⟩ := Int.eq_ofNat_of_zero_le h0
 have hj : j < cs.length := by omega
 refine atI_nat ?_
 rw [List.getElem?_map, List.getElem?_eq_getElem hj, Int.toNat_natCast, List.getD_eq_getElem?_getD, List.getElem?_eq_getElem hj]
 rfl
end L2
namespace L2
open PySem PySem.Spec PyProof.Rows
section
variable {g : TG} {tif : TT} {te : TE} {js : List (Option Nat)} {σ : St} {H : Hp} {Q : VK}
end
end L2
namespace Gx
open PySem L2
theorem le0 : 0 <= sizeLine := by decide
theorem le1 : 1 <= sizeLine := by decide
theorem le2 : 2 <= sizeLine := by decide
theorem le3 : 3 <= sizeLine := by decide
theorem le4 : 4 <= sizeLine := by decide
theorem le6 : 6 <= sizeLine := by decide
theorem le8 : 8 <= sizeLine := by decide
theorem le9 : 9 <= sizeLine := by decide
theorem lt_line {n : Nat} (h : n < 1000000) : n <= sizeLine := by
 have : (1000000 : Nat) < sizeLine := by decide
 omega
theorem at0 {x : V} {r : List V} : atI (x :: r) 0 = some x := by
 unfold atI ixN
 rw [if_pos (by decide), if_pos (by simp)]
 rfl
theorem vq {Q : VK} {H : Hp} {x y : V} (h : x = y) (q : Q y H) : Q x H := by subst h; exact q
theorem pw48 : ((2 : Int) ^ (48 : Int).toNat) = 281474976710656 := by decide
theorem pos48 : (0 : Int) < (2 : Int) ^ (48 : Int).toNat := by decide
theorem sg_fit : ("+-*/<=&|^" : Str).length <= sizeLine := by decide +kernel
theorem emod_bd (z n : Int) (h : 0 < n) : 0 <= z % n /\ z % n < n := ⟨Int.emod_nonneg _ (by omega), Int.emod_lt_of_pos _ h⟩
theorem map_at {α : Type} {es : List α} {f : α -> V} {i : Nat} {x : V} (h : (es.map f)[i]? = some x) : ∃ e, es[i]? = some e /\ e ∈ es /\ x = f e := by
 rw [List.getElem?_map] at h
 cases he : es[i]? with
 | none => rw [he] at h; cases h
 | some e => rw [he] at h; cases h; exact ⟨e, rfl, List.mem_of_getElem? he, rfl⟩
end Gx
namespace L2
open PySem PySem.Spec PyProof.Rows
section
variable {X : Cx} {tg : Expr}
end
section
variable {g : TG} {tif : TT} {te : TE} {js : List (Option Nat)} {σ : St} {H : Hp} {Q : VK}
theorem comp_mapD {hi : Int} {n : Nat} {p : Addr} (f : Nat -> V) (hn : n <= 1000000) (hp : H p = none)
   (hs : ∀ i H2 (R : VK), i < n -> Same H H2 -> R (f i) H2 -> g (.int (hi - i)) (cap js σ) H2 λ σ2 H3 => tif σ2 H3 λ c H4 => if c = true then te σ2 H4 R else False)
   (hd : ∀ H2, Same H H2 -> H2 p = some (.lst ((List.range n).map f)) -> Q (.ref p) H2) (mono : ∀ x H2 (M M' : St -> Hp -> Prop), (∀ σ' H', M σ' H' -> M' σ' H') -> g x (cap js σ) H2 M -> g x (cap js σ) H2 M' := by intro _ _ _ _ h z; exact h _ _ z) (mon2 : ∀ σ2 H2 (M M' : Bool -> Hp -> Prop), (∀ c H', M c H' -> M' c H') -> tif σ2 H2 M -> tif σ2 H2 M' := by intro _ _ _ _ h z; exact h _ _ z) :
   CompW (Itn hi n) g tif te js σ Q p H := by
 refine ⟨λ i m acc H2 => m = n - i /\ i <= n /\ Same H H2 /\ H2 p = some (.lst acc) /\ acc = (List.range i).map f, ⟨n, by simp, Nat.zero_le _, Same.new hp, upd_same, rfl⟩, ?_⟩
 rintro i m acc H2 ⟨rfl, hi', s2, e2, rfl⟩
 refine ⟨e2, ?_⟩
 by_cases hlt : i < n
 . refine .inr ⟨hlt, ?_, λ acc' H' => Same H H' /\ H' p = some (.lst acc') /\ acc' = (List.range (i + 1)).map f, λ acc' H' p' => ⟨n - (i + 1), by omega, rfl, hlt, p'⟩, λ x H' y => ?_⟩
   . have : (1000000 : Nat) < sizeLine := by decide
     rw [List.length_map, List.length_range]
     omega
   . obtain ⟨e, y⟩ := y
     subst e y
     refine mono _ _ _ _ (λ σ' H'' z => ?_) (hs i _ (λ y H5 => H5 p = some (.lst ((List.range i).map f)) /\ (Same H (upd H5 p (.lst ((List.range i).map f ++ [y]))) /\ upd H5 p (.lst ((List.range i).map f ++ [y])) p = some (.lst ((List.range i).map f ++ [y])) /\ (List.range i).map f ++ [y] = (List.range (i + 1)).map f)) hlt s2 ⟨e2, s2.upd hp, upd_same, ?_⟩)
     . refine mon2 _ _ _ _ (λ c H'' zz => ?_) z
       cases c with
       | true => exact zz
       | false => exact zz.elim
     . rw [List.range_succ, List.map_append]
       rfl
 . have e : i = n := by omega
   subst e
   exact .inl ⟨Nat.le_refl _, hd H2 s2 e2⟩
end
def tTru (K : W.Frag) (ta : TE) : TT := λ σ H Q => ta σ H λ x H' => ∃ k, TruV K x H' k /\ Q k H'
theorem pt_tru {X : Cx} {K : W.Frag} {a : Expr} {ta : TE} (hK : X.K = K) (ha : PE X a ta) (he : ∀ whole, isTrue a X.env whole = (do let v <- whole; standAt a.pos; holding [v] (truthy v))) : PT X a (tTru K ta) := by
 subst hK
 exact pt_truth ha he
end L2
namespace Gx
open PySem L2
def tx (l : List Nat) : Str := ⟨l.toArray⟩
theorem tx_cps (l : List Nat) : (tx l).cps.toList = l := by unfold tx; simp
theorem tx_len (l : List Nat) : (tx l).length = l.length := by unfold tx Str.length; simp
theorem tx_app (a b : List Nat) : tx a ++ tx b = tx (a ++ b) := by
 show (⟨_ ++ _⟩ : Str) = _
 unfold tx
 simp
theorem tx_inj {a b : List Nat} (h : tx a = tx b) : a = b := by rw [<- tx_cps a, h, tx_cps]
theorem join_cons (y : Str) (ys : List Str) : PySem.Txt.join "" (y :: ys) = y ++ PySem.Txt.join "" ys := by
 show PySem.Builtin.Str.glued ("" : Str) (y :: ys) = y ++ PySem.Builtin.Str.glued ("" : Str) ys
 rw [PySem.StrLaws.glued_eq_join, PySem.StrLaws.glued_eq_join]
 cases ys with
 | nil =>
   show y = y ++ Str.empty
   cases y
   show _ = (⟨_ ++ #[]⟩ : Str)
   simp
 | cons z zs =>
   show y ++ "" ++ Str.join "" (z :: zs) = _
   have : y ++ ("" : Str) = y := by
     cases y
     show (⟨_ ++ #[]⟩ : Str) = _
     simp
   rw [this]
theorem tx_join : ∀ (ls : List (List Nat)), PySem.Txt.join "" (ls.map tx) = tx ls.flatten
 | [] => by
   show PySem.Builtin.Str.glued ("" : Str) [] = _
   rw [PySem.StrLaws.glued_eq_join]
   rfl
 | l :: ls => by rw [List.map_cons, join_cons, tx_join ls, tx_app, List.flatten_cons]
end Gx
namespace PySem
open PySem.SeqAt
theorem gx_forIn_range {M : Model} {A : Around} {E : Value -> Shared -> Prop} {s : Shared} {β : Type} (f : Nat -> β -> Sem (ForInStep β)) (I : Nat -> β -> Shared -> Prop) (Q : β -> Shared -> Prop) (n : Nat)
   (turn : ∀ i b s, i < n -> I i b s -> wpAny M A (f i b) (λ r s' => match r with | .yield b' => I (i + 1) b' s' | .done b' => Q b' s') E s)
   (fin : ∀ b s, I n b s -> Q b s) (b : β) (h : I 0 b s) : wpAny M A (forIn ([0:n] : Std.Legacy.Range) b f) Q E s := by
 rw [Std.Legacy.Range.forIn_eq_forIn_range']
 have hsz : ([0:n] : Std.Legacy.Range).size = n := by simp [Std.Legacy.Range.size]
 show wpAny M A (forIn (List.range' 0 ([0:n] : Std.Legacy.Range).size 1) b f) Q E s
 rw [hsz]
 refine wpAny_forIn_list f (λ l c st => ∃ i, i <= n /\ l = List.range' i (n - i) 1 /\ I i c st) Q ?_ ?_ _ b ⟨0, Nat.zero_le _, rfl, h⟩
 . rintro x rest c st ⟨i, hib, hl, hI⟩
   have hlt : i < n := by
     rcases Nat.lt_or_ge i n with h' | h'
     . exact h'
     . rw [show n - i = 0 by omega] at hl; simp at hl
   obtain ⟨m, hm⟩ : ∃ m, n - i = m + 1 := ⟨n - i - 1, by omega⟩
   rw [hm, List.range'_succ] at hl
   obtain ⟨rfl, rfl⟩ := List.cons.inj hl
   refine wpAny_mono (turn x c st hlt hI) (λ r st' h' => ?_) λ _ _ e => e
   cases r with
   | done c' => exact h'
   | yield c' => exact ⟨x + 1, by omega, by congr 1; omega, h'⟩
 . rintro c st ⟨i, hib, hl, hI⟩
   have : i = n := by
     rcases Nat.lt_or_ge i n with h' | h'
     . obtain ⟨m, hm⟩ : ∃ m, n - i = m + 1 := ⟨n - i - 1, by omega⟩
       rw [hm, List.range'_succ] at hl; simp at hl
     . omega
   subst this; exact fin _ _ hI
theorem gx_tuple_index (l : Addr) (items : Array Value) (n : Nat) (dd : Option Addr) (sl : Array (Option Value)) (x : Value) (e : Value -> Bool) (j : Nat) (hj : j < items.size) (hit : e items[j] = true) (hno : ∀ m (hm : m < items.size), m < j -> e items[m] = false) :
   Meets (Builtin.«tuple.index» ⟨[.ref l, x], []⟩)
     (λ A R s => s.heap.get? l = some { cls := .type "tuple", dict := dd, data := .seq items n, slots := sl } /\ (∀ y, y ∈ items -> EqAt A.in1 s y x (e y)) /\ R (.ok (.ret (.int j s.toks))) { s with toks := s.toks + 1 }) :=
 .of_wp λ prog w A R s h => by
   obtain ⟨hp, g, d, tk, os⟩ := s; obtain ⟨hl, he, h⟩ := h
   wp_walk using wpAny_loadPart' hl, gx_forIn_range _ (λ i b s' => b.1 = none /\ s' = ⟨hp, g, d, tk, os⟩ /\ i <= j) _ _
   case turn =>
     rintro i ⟨b1, b2⟩ s' hi ⟨hb, rfl, hij⟩
     have hi : i < items.size := by simpa using hi
     simp only at hb
     subst hb
     have hx : items[i]? = some items[i] := Array.getElem?_eq_getElem hi
     rw [hx]
     refine wpAny_bind (he _ (Array.getElem_mem hi) prog w _ _ ?_)
     by_cases hij' : i = j
     . subst hij'
       rw [hit]
       wp_walk
       exact ⟨_, rfl, h⟩
     . rw [hno i hi (by omega)]
       wp_walk
       exact ⟨rfl, rfl, by omega⟩
   case fin =>
     rintro ⟨b1, b2⟩ s' ⟨hb, rfl, hij⟩
     have : items.size <= j := by simpa using hij
     omega
   case h =>
     exact ⟨rfl, rfl, Nat.zero_le _⟩
end PySem
namespace L2
open PySem PySem.Spec PyProof.Rows
def rTIx (K : W.Frag) : V -> List V -> Hp -> VK -> Prop := λ x xs H Q => ∃ p ys y j, x = .ref p /\ xs = [y] /\ SqT K H p ys /\ flatV y = true /\ ys.all flatV = true /\ (∃ z, ys[j]? = some z /\ eqV z y = true) /\ (∀ m z, m < j -> ys[m]? = some z -> eqV z y = false) /\ Q (.int (j : Nat)) H
theorem mt_tindex {X : Cx} : MtR X "tuple.index" (rTIx X.K) := by
 intro pins s σ H x vs v us Q I rx rv h
 obtain ⟨p, ys, y, j, rfl, rfl, hT, fy, fs, ⟨z, hz, ez⟩, hno, q⟩ := h
 cases rx
 obtain ⟨u, rfl, ru⟩ := rv.one
 obtain ⟨its, r, ⟨⟨cls, dd, data, sl⟩, ho, hc, n, hd⟩, hl⟩ := I.tuple hT
 simp only at hc hd
 subst hc hd
 obtain ⟨uz, huz, rz⟩ := r.get hz
 have hj : j < its.toArray.size := by
   rw [List.size_toArray]
   exact (List.getElem?_eq_some_iff.mp huz).1
 have eU : ∀ (m : Nat) (hm : m < its.toArray.size) (zz : V), ys[m]? = some zz -> eqU y its.toArray[m] = eqV zz y := λ m hm zz hzz => by
   obtain ⟨uu, huu, ruu⟩ := r.get hzz
   have : its.toArray[m] = uu := by
     have h2 := (List.getElem?_eq_some_iff.mp huu).2
     simpa using h2
   rw [this]
   exact eqU_of ruu (List.all_eq_true.mp fs zz (List.mem_of_getElem? hzz))
 refine call_meets F.slot_tuple_index ⟨_, ho, rfl⟩ F.entry_tuple_index (F.args_tuple_index_2 _ _) (gx_tuple_index p its.toArray n dd sl u (eqU y) j hj (by rw [eU j hj z hz]; exact ez) λ m hm hmj => ?_) ⟨ho, λ w hw => mem_eqAt ru fy r fs w (by simpa using hw), ?_⟩
 . have hm' : m < ys.length := by rw [r.length]; simpa using hm
   rw [eU m hm ys[m] (List.getElem?_eq_getElem hm')]
   exact hno m _ hmj (List.getElem?_eq_getElem hm')
 . exact ⟨.int j, H, I.tok _, ⟨_, rfl⟩, q⟩
def rSIx : V -> List V -> Hp -> VK -> Prop := λ x xs H Q => ∃ z y i rest, x = .str z /\ xs = [.str y] /\ Builtin.Str.occurrences z y 0 z.length 1 = i :: rest /\ Q (.int (i : Nat)) H
theorem mt_sindex {X : Cx} : MtR X "str.index" rSIx := by
 intro pins s σ H x xs v us Q I rx r h
 obtain ⟨z, y, i, rest, rfl, rfl, ho, q⟩ := h
 obtain ⟨t, rfl⟩ := rx
 obtain ⟨u, rfl, t', rfl⟩ := vals1 r
 exact SC.index ho ⟨.int i, H, I.tok _, ⟨_, rfl⟩, q⟩
end L2
namespace L2
open PySem PySem.Spec PyProof.Rows
def ItE (K : W.Frag) (a : Addr) : It :=
 ⟨λ i H => ∃ xs x, SqL K H a xs /\ xs[i]? = some x, λ i H y H' => ∃ b, y = .ref b /\ H b = none /\ ∀ xs x, SqL K H a xs -> xs[i]? = some x -> H' = upd H b (.tup [.int i, x]), λ i H => ∃ xs, SqL K H a xs /\ xs.length = i⟩
theorem turn_enumL {P : Program} {w : World} {K : W.Frag} {elts : List Expr} {k : Nat} {pos : Pos} (a e it : Addr) (hne : e ≠ it) : Turn P w K (.Tuple elts k pos) (ItE K a) [e, it] e (λ i h => (∃ old, IsEnum h e it i old) /\ h.IsListIter it a i) where
 mem := by simp
 obj := λ i h st b hb => by
   obtain ⟨⟨old, he⟩, ⟨o, ho, hc, hd⟩⟩ := st
   rcases List.mem_cons.mp hb with z | z
   . subst z
     exact ⟨_, he, λ v z => by cases (show Data.fields _ = Data.cell v from z)⟩
   . have z : b = it := by simpa using z
     subst z
     exact ⟨o, ho, λ v z => by rw [hd] at z; cases z⟩
 keep := λ i h h' st kk => by
   obtain ⟨⟨old, he⟩, ⟨o, ho, r⟩⟩ := st
   exact ⟨⟨old, kk e (by simp) _ he⟩, ⟨o, kk it (by simp) o ho, r⟩⟩
 item := by
   intro X hP hw hK hc i pins s σ H E I hf st hg
   subst hP hw hK
   obtain ⟨⟨old, he⟩, hit⟩ := st
   obtain ⟨xs, x, hq, hx⟩ := hg
   obtain ⟨its, rv, p, hz⟩ := I.list hq
   have pt : s.heap.IsList a its.toArray := p.isList
   obtain ⟨u, hu, ru⟩ := rv.get hx
   have hia : a ≠ it := λ z => by
     subst z
     obtain ⟨o1, h1, c1, _⟩ := hit
     obtain ⟨o2, h2, c2, _⟩ := pt
     rw [h1] at h2
     cases h2
     rw [c1] at c2
     injection c2 with c2
     exact absurd c2 (by decide)
   have hea : e ∉ [it, a] := λ z => by
     rcases List.mem_cons.mp z with z | z
     . exact hne z
     . have z : e = a := by simpa using z
       subst z
       obtain ⟨o2, h2, c2, _⟩ := pt
       rw [he] at h2
       cases h2
       injection (show Value.type "enumerate" = Value.type "list" from c2) with c2
       exact absurd c2 (by decide)
   have hlt : i < its.toArray.size := by
     have := (List.getElem?_eq_some_iff.mp hu).1
     simpa using this
   refine wpAny_pyNext_enum_itemD (Draws.list (A := X.A.in1) (I.ok.hd hc) it a hia its.toArray) he ⟨hit, pt⟩ hlt hne hea λ y h' tk hy hout hst hT hsz hk => ?_
   refine ⟨_, rfl, wpAny_letOwnedTupleGo_enum hout λ h2 he2 hs2 => ?_⟩
   have hs2 : Heap.SameBut e h' h2 := hs2
   have hyu : y = u := by
     have hy : its.toArray[i]? = some y := hy
     have : its[i]? = some y := by simpa using hy
     rw [hu] at this
     exact (Option.some.inj this).symm
   subst hyu
   have helt : e < s.heap.objs.size := Heap.lt_size he
   have hfr : H s.heap.objs.size = none := I.hok.fresh (Nat.le_refl _)
   have hnS : s.heap.objs.size ≠ e := Nat.ne_of_gt helt
   have hT2 : h2.get? s.heap.objs.size = some { cls := .type "tuple", data := .seq #[.int i tk, y] } := (hs2.2 _ hnS).trans hT
   refine ⟨.ref s.heap.objs.size, upd H s.heap.objs.size (.tup [.int i, x]), I.turnLaid (t' := tk + 1) (ch := [e, it]) (λ b o hb q => ?_) hf (Nat.le_refl _) ?_, rfl, ⟨s.heap.objs.size, rfl, hfr, λ xs' x' hq' hx' => ?_⟩, ⟨⟨y, by exact_mod_cast he2⟩, ?_⟩, λ b hb => ?_⟩
   . have h1 : b ≠ e := λ z => hb (by simp [z])
     have h3 : b ≠ it := λ z => hb (by simp [z])
     exact (hs2.2 b h1).trans (hk b o h1 h3 q)
   . exact ⟨by show 2 <= sizeLine; decide, [.int i tk, y], .cons ⟨tk, rfl⟩ (.cons ru .nil), ⟨_, hT2, rfl, _, rfl⟩⟩
   . have := I.list_inj hq' hq
     subst this
     rw [hx] at hx'
     cases hx'
     rfl
   . obtain ⟨⟨o, ho, r⟩, _⟩ := hst
     exact ⟨o, (hs2.2 it hne.symm).trans ho, r⟩
   . have hb0 := (hf b hb).1
     rw [upd_ne]
     . exact hb0
     . intro z
       subst z
       obtain ⟨o, ho, _⟩ := hit
       rcases List.mem_cons.mp hb with z | z
       . exact hnS z
       . have z : s.heap.objs.size = it := by simpa using z
         exact absurd (Heap.lt_size ho) (by rw [<- z]; exact Nat.lt_irrefl _)
 done := by
   intro X hP hw hK hc i pins s σ H E I hf st hg
   subst hP hw hK
   obtain ⟨⟨old, he⟩, hit⟩ := st
   obtain ⟨xs, hq, hx⟩ := hg
   obtain ⟨its, rv, p, hz⟩ := I.list hq
   have pt : s.heap.IsList a its.toArray := p.isList
   have hl := rv.length
   have hia : a ≠ it := λ z => by
     subst z
     obtain ⟨o1, h1, c1, _⟩ := hit
     obtain ⟨o2, h2, c2, _⟩ := pt
     rw [h1] at h2
     cases h2
     rw [c1] at c2
     injection c2 with c2
     exact absurd c2 (by decide)
   have hi : i = its.toArray.size := by simp; omega
   refine wpAny_pyNext_enum_endD (Draws.list (A := X.A.in1) (I.ok.hd hc) it a hia its.toArray) he (by rw [<- hi]; exact ⟨hit, pt⟩) λ h' eb => ⟨rfl, ?_⟩
   exact I.turnedL (t' := s.toks) (ch := [e, it]) (λ b o hb q => eb b o (λ z => hb (by simp [z])) q) hf
 self := λ _ _ _ _ _ st h => by
   obtain ⟨⟨old, he⟩, _⟩ := st
   exact wpAny_pyIter_enum he h
end L2
namespace L2
open PySem PySem.Spec PyProof.Rows
section
variable {X : Cx}
def iEnumL (K : W.Frag) (ta : TA) : TI := λ σ H R => ta σ H λ vs H1 => ∃ a, vs = [.ref a] /\ (∃ xs, SqL K H1 a xs) /\ R (ItE K a) H1
theorem pi_enumL {a : Expr} {ta : TA} {p pos tpos : Pos} {elts : List Expr} {k : Nat} (hg : Gl X "enumerate") (hm : X.mg "enumerate" = none) (ha : PA X [a] ta) (hs : starEach [a] X.env = [(false, eval a X.env)] := by rfl) : PI X (.Tuple elts k tpos) (.Call (.Name "enumerate" p) [a] [] pos) (iEnumL X.K ta) := by
 intro pins s σ H R I h
 refine Call_ (ld_blt I hg hm boot_enum (PyProof.Rows.callWith_type1 (thn (ha pos pins s σ H _ I h) λ us s1 ⟨vs, H1, I1, r1, q1⟩ => ?_) hs rfl))
 obtain ⟨a, e, ⟨xs, hq⟩, q⟩ := q1
 subst e
 cases r1 with
 | cons r rr =>
   cases rr
   cases r
   obtain ⟨its, rv, p, hz⟩ := I1.list hq
   refine call_enumerate_list p.isList λ h' he hit _ hk => ?_
   refine wpAny_pyIter_enum he ?_
   refine ⟨s1.heap.objs.size + 1, [s1.heap.objs.size + 1, s1.heap.objs.size], _, _, H1, rfl, I1.kept (t' := s1.toks) hk, turn_enumL a (s1.heap.objs.size + 1) s1.heap.objs.size (Nat.succ_ne_self _), ⟨⟨.none, he⟩, hit⟩, λ b hb => ?_, q⟩
   rcases List.mem_cons.mp hb with z | z
   . subst z
     exact I1.fpOk (Nat.le_succ _) (I1.hok.fresh (Nat.le_succ _))
   . have z : b = s1.heap.objs.size := by simpa using z
     subst z
     exact I1.fpOk (Nat.le_refl _) (I1.hok.fresh (Nat.le_refl _))
theorem for_enumL {K : W.Frag} {a : Addr} {xs : List V} {g : TG} {tb : TS} {D : Ends} {σ : St} {H : Hp} (Pv : Nat -> St -> Hp -> Prop) (h0 : Pv 0 σ H) (hl : ∀ i σ H, i <= xs.length -> Pv i σ H -> SqL K H a xs)
   (hs : ∀ i x σ H b, xs[i]? = some x -> Pv i σ H -> H b = none -> g (.ref b) σ (upd H b (.tup [.int i, x])) λ σ2 H2 => tb { D with nx := Pv (i + 1), ct := Pv (i + 1), bk := D.nx } σ2 H2) (hd : ∀ σ H, Pv xs.length σ H -> D.nx σ H) :
   ∃ W : Nat -> Nat -> St -> Hp -> Prop, (∃ m, W 0 m σ H) /\ ∀ i m σ H, W i m σ H -> ((ItE K a).stop i H /\ D.nx σ H) \/ ((ItE K a).go i H /\ ∃ N : St -> Hp -> Prop, (∀ σ' H', N σ' H' -> ∃ m', m' < m /\ W (i + 1) m' σ' H') /\ ∀ x H', (ItE K a).yld i H x H' -> g x σ H' λ σ2 H2 => tb { D with nx := N, ct := N, bk := D.nx } σ2 H2) := by
 refine ⟨λ i m σ H => m = xs.length - i /\ i <= xs.length /\ Pv i σ H, ⟨xs.length, by simp, Nat.zero_le _, h0⟩, ?_⟩
 rintro i m σ H ⟨rfl, hi, p⟩
 have q := hl i σ H hi p
 by_cases hlt : i < xs.length
 . refine .inr ⟨⟨xs, xs[i], q, by simp [hlt]⟩, Pv (i + 1), λ σ' H' p' => ⟨xs.length - (i + 1), by omega, rfl, hlt, p'⟩, λ x H' y => ?_⟩
   obtain ⟨b, rfl, hb, y⟩ := y
   rw [y xs xs[i] q (by simp [hlt])]
   exact hs i xs[i] σ H b (by simp [hlt]) p hb
 . have e : i = xs.length := by omega
   subst e
   exact .inl ⟨⟨xs, q, rfl⟩, hd σ H p⟩
end
end L2
namespace PySem
open Sem (wp)
def ItB (b : Bool) (h : Heap) (it l : Addr) (k : Nat) : Prop := match b with | true => h.IsTupleIter it l k | false => h.IsListIter it l k
def SqB (b : Bool) (h : Heap) (l : Addr) (xs : Array Value) : Prop := match b with | true => h.IsTuple l xs | false => h.IsList l xs
theorem ItB.at {b : Bool} {h h' : Heap} {it l : Addr} {k : Nat} (p : ItB b h it l k) (e : ∀ o, h.get? it = some o -> h'.get? it = some o) : ItB b h' it l k := by
 cases b <;> (obtain ⟨o, ho, r⟩ := p; exact ⟨o, e o ho, r⟩)
theorem SqB.at {b : Bool} {h h' : Heap} {l : Addr} {xs : Array Value} (p : SqB b h l xs) (e : ∀ o, h.get? l = some o -> h'.get? l = some o) : SqB b h' l xs := by
 cases b <;> (obtain ⟨o, ho, r⟩ := p; exact ⟨o, e o ho, r⟩)
theorem ItB.extBut {b : Bool} {h h' : Heap} {it l c : Addr} {k : Nat} (p : ItB b h it l k) (e : Heap.ExtBut c h h') (n : it ≠ c) : ItB b h' it l k := p.at λ o ho => e _ _ n ho
theorem SqB.extBut {b : Bool} {h h' : Heap} {l c : Addr} {xs : Array Value} (p : SqB b h l xs) (e : Heap.ExtBut c h h') (n : l ≠ c) : SqB b h' l xs := p.at λ o ho => e _ _ n ho
theorem ItB.lt {b : Bool} {h : Heap} {it l : Addr} {k : Nat} (p : ItB b h it l k) : it < h.objs.size := by
 cases b <;> (obtain ⟨o, ho, r⟩ := p; exact Heap.lt_size ho)
section
variable {prog : Program} {w : World} {A : Around} {E : Value -> Shared -> Prop} {s : Shared}
theorem nextB_item {b : Bool} {it l : Addr} {i : Nat} {items : Array Value} {x : Value} {Q : Value -> Shared -> Prop} (p : ItB b s.heap it l i) (q : SqB b s.heap l items) (hx : items[i]? = some x)
   (hQ : ∀ h', ItB b h' it l (i + 1) -> Heap.SameBut it s.heap h' -> Q x { s with heap := h' }) : wpAny (model prog w) A (Builtin.SmallTypes.nextOf (.ref it)) Q E s := by
 cases b with
 | true => exact L2.gx_nextOf_tup p q hx hQ
 | false => exact wpAny_nextOf_list_item p q hx hQ
theorem nextB_end {b : Bool} {it l : Addr} {i : Nat} {items : Array Value} {Q : Value -> Shared -> Prop} (hh : A.handled = none) (p : ItB b s.heap it l i) (q : SqB b s.heap l items) (hx : items[i]? = none)
   (hE : ∀ h' e, Heap.ExtBut it s.heap h' -> (∃ o, h'.get? e = some o /\ o.cls = .type "StopIteration") -> E (.ref e) { s with heap := h' }) : wpAny (model prog w) A (Builtin.SmallTypes.nextOf (.ref it)) Q E s := by
 cases b with
 | true => exact L2.gx_nextOf_tup_end hh p q hx hE
 | false => exact wpAny_nextOf_list_end hh p q hx hE
theorem gx_zipN_item {b1 b2 : Bool} {z TI TO i1 i2 l1 l2 : Addr} {k1 k2 : Nat} {xs ys : Array Value} {x y a b : Value} {Q : Value -> Shared -> Prop} (D : ZipApart z TI TO i1 i2 l1 l2)
   (zZ : IsZip s.heap z TI TO .none) (zI : IsPair s.heap TI (.ref i1) (.ref i2)) (zO : IsPair s.heap TO a b)
   (p1 : ItB b1 s.heap i1 l1 k1) (p2 : ItB b2 s.heap i2 l2 k2) (q1 : SqB b1 s.heap l1 xs) (q2 : SqB b2 s.heap l2 ys) (hx : xs[k1]? = some x) (hy : ys[k2]? = some y)
   (hQ : ∀ h', IsZip h' z TI TO (rawInt s.heap.objs.size) -> IsPair h' TO x y -> ItB b1 h' i1 l1 (k1 + 1) -> ItB b2 h' i2 l2 (k2 + 1) -> IsPair h' s.heap.objs.size x y -> h'.objs.size = s.heap.objs.size + 1 ->
     (∀ c o, c ≠ z -> c ≠ TO -> c ≠ i1 -> c ≠ i2 -> s.heap.get? c = some o -> h'.get? c = some o) -> Q (.ref s.heap.objs.size) { s with heap := h' }) :
   wpAny (model prog w) A (Builtin.«zip.__next__» ⟨[.ref z], []⟩) (λ fin s' => ∃ v, fin = .done (.ret v) /\ Q v s') E s := by
 show wpAny _ _ (field (.ref z) 2 >>= _) _ _ _; refine wpAny_bind (wpAny_field zZ rfl (x := .bool false) rfl ?_); show wpAny _ _ (field (.ref z) 3 >>= _) _ _ _; refine wpAny_bind (wpAny_field zZ rfl (x := .ref TI) rfl ?_); refine wpAny_bind (wpAny_seqItems zI rfl ?_); show wpAny _ _ (Builtin.SmallTypes.ownedTupleIsFree (.ref z) >>= _) _ _ _; refine wpAny_bind ?_; unfold Builtin.SmallTypes.ownedTupleIsFree; refine wpAny_bind (wpAny_field zZ rfl (x := .none) rfl (wpAny_pure ?_)); simp only [if_true]; refine wpAny_bind (wpAny_rule ?_); refine wpAny_bind (wpAny_field zZ rfl (x := .ref TO) rfl ?_)
 refine wpAny_bind (wpAny_setField_rec zZ (by simp) λ h₁ zZ₁ hs₁ => ?_); replace zZ₁ : IsZip h₁ z TI TO .ellipsis := zZ₁; refine wpAny_bind ?_; simp only [List.zipIdx_cons, List.zipIdx_nil, List.forIn_cons, List.forIn_nil]
 refine wpAny_bind (wpAny_bind (wpAny_onRaise ?_)); show wpAny _ _ (Builtin.SmallTypes.nextOf (.ref i1) >>= _) _ _ _; refine wpAny_bind (nextB_item (p1.extBut hs₁.extBut D.i1z) (q1.extBut hs₁.extBut D.l1z) hx λ h₂ h1₂ hs₂ => wpAny_pure ?_); have hTO₂ : IsPair h₂ TO a b := hs₂.extBut _ _ D.TOi1 (hs₁.extBut _ _ D.TOz zO); refine wpAny_bind (wpAny_seqItems hTO₂ rfl ?_); refine wpAny_bind (wpAny_updateSeq_pair hTO₂ λ h₃ hTO₃ hs₃ => ?_); replace hTO₃ : IsPair h₃ TO x b := hTO₃; refine wpAny_bind (wpAny_letGo (wpAny_pure ?_))
 refine wpAny_bind (wpAny_bind (wpAny_onRaise ?_)); show wpAny _ _ (Builtin.SmallTypes.nextOf (.ref i2) >>= _) _ _ _; refine wpAny_bind (nextB_item (((p2.extBut hs₁.extBut D.i2z).extBut hs₂.extBut D.i12.symm).extBut hs₃.extBut D.TOi2.symm)
   (((q2.extBut hs₁.extBut D.l2z).extBut hs₂.extBut D.l2i1).extBut hs₃.extBut D.l2TO) hy λ h₄ h2₄ hs₄ => wpAny_pure ?_)
 have hTO₄ : IsPair h₄ TO x b := hs₄.extBut _ _ D.TOi2 hTO₃; refine wpAny_bind (wpAny_seqItems hTO₄ rfl ?_); refine wpAny_bind (wpAny_updateSeq_pair hTO₄ λ h₅ hTO₅ hs₅ => ?_); replace hTO₅ : IsPair h₅ TO x y := hTO₅; refine wpAny_bind (wpAny_letGo (wpAny_pure (wpAny_pure ?_)))
 refine wpAny_bind (wpAny_seqItems hTO₅ rfl ?_); refine wpAny_bind (wpAny_newTuple ?_); have hsz : h₅.objs.size = s.heap.objs.size := (by rw [hs₅.1, hs₄.1, hs₃.1, hs₂.1, hs₁.1]); have hz₅ : IsZip h₅ z TI TO .ellipsis := hs₅.extBut _ _ D.TOz.symm (hs₄.extBut _ _ D.i2z.symm (hs₃.extBut _ _ D.TOz.symm (hs₂.extBut _ _ D.i1z.symm zZ₁))); have hk₅ : ∀ c o, c ≠ z -> c ≠ TO -> c ≠ i1 -> c ≠ i2 -> s.heap.get? c = some o -> h₅.get? c = some o := λ c o c1 c2 c3 c4 e =>
   hs₅.extBut _ _ c2 (hs₄.extBut _ _ c4 (hs₃.extBut _ _ c2 (hs₂.extBut _ _ c3 (hs₁.extBut _ _ c1 e))))
 have h1₅ : ItB b1 h₅ i1 l1 (k1 + 1) := ((h1₂.extBut hs₃.extBut D.TOi1.symm).extBut hs₄.extBut D.i12).extBut hs₅.extBut D.TOi1.symm; have h2₅ : ItB b2 h₅ i2 l2 (k2 + 1) := h2₄.extBut hs₅.extBut D.TOi2.symm; have hzlt : z < h₅.objs.size := Heap.lt_size hz₅; have hTOlt : TO < h₅.objs.size := Heap.lt_size hTO₅; have hi1lt : i1 < h₅.objs.size := ItB.lt h1₅; have hi2lt : i2 < h₅.objs.size := ItB.lt h2₅; show wpAny _ _ (Builtin.SmallTypes.ownedTupleHandOut (.ref z) (.ref h₅.objs.size) >>= _) _ _ _; refine wpAny_bind ?_; unfold Builtin.SmallTypes.ownedTupleHandOut; have hz₆ : IsZip (h₅.push { cls := .type "tuple", data := .seq #[x, y] }) z TI TO .ellipsis := Heap.get?_push_of_some _ hz₅
 refine wpAny_bind (wpAny_setField_rec hz₆ (by simp) λ h₇ hz₇ hs₇ => ?_); replace hz₇ : IsZip h₇ z TI TO (rawInt h₅.objs.size) := hz₇; refine wpAny_setField_rec hz₇ (by simp) λ h₈ hz₈ hs₈ => ?_; replace hz₈ : IsZip h₈ z TI TO (rawInt h₅.objs.size) := hz₈; have up : ∀ c o, c ≠ z -> h₅.get? c = some o -> h₈.get? c = some o := λ c o c1 e => hs₈.extBut _ _ c1 (hs₇.extBut _ _ c1 (Heap.get?_push_of_some _ e)); have hT₈ : IsPair h₈ h₅.objs.size x y := hs₈.extBut _ _ (Nat.ne_of_gt hzlt) (hs₇.extBut _ _ (Nat.ne_of_gt hzlt) (Heap.get?_push_size _ rfl)); have hz8 : h₈.objs.size = h₅.objs.size + 1 := (by rw [hs₈.1, hs₇.1, Heap.size_push])
 rw [hsz] at hz₈ hT₈ hz8
 refine wpAny_pure ⟨_, rfl, ?_⟩; show Q (.ref h₅.objs.size) _
 rw [hsz]
 exact hQ h₈ hz₈ (up _ _ D.TOz hTO₅) (h1₅.at λ o e => up _ o D.i1z e) (h2₅.at λ o e => up _ o D.i2z e) hT₈ hz8 λ c o c1 c2 c3 c4 e => up c o c1 (hk₅ c o c1 c2 c3 c4 e)
theorem gx_zipN_end {b1 b2 : Bool} {z TI TO i1 i2 l1 l2 : Addr} {k1 k2 : Nat} {xs ys : Array Value} {a b : Value} {Q : Fin -> Shared -> Prop} (hh : A.handled = none) (D : ZipApart z TI TO i1 i2 l1 l2)
   (zZ : IsZip s.heap z TI TO .none) (zI : IsPair s.heap TI (.ref i1) (.ref i2)) (zO : IsPair s.heap TO a b)
   (p1 : ItB b1 s.heap i1 l1 k1) (p2 : ItB b2 s.heap i2 l2 k2) (q1 : SqB b1 s.heap l1 xs) (q2 : SqB b2 s.heap l2 ys) (hend : xs[k1]? = none \/ ys[k2]? = none)
   (hE : ∀ h' e, (∀ c o, c ≠ z -> c ≠ TO -> c ≠ i1 -> c ≠ i2 -> s.heap.get? c = some o -> h'.get? c = some o) -> (∃ o, h'.get? e = some o /\ o.cls = .type "StopIteration") -> E (.ref e) { s with heap := h' }) :
   wpAny (model prog w) A (Builtin.«zip.__next__» ⟨[.ref z], []⟩) Q E s := by
 show wpAny _ _ (field (.ref z) 2 >>= _) _ _ _; refine wpAny_bind (wpAny_field zZ rfl (x := .bool false) rfl ?_); show wpAny _ _ (field (.ref z) 3 >>= _) _ _ _; refine wpAny_bind (wpAny_field zZ rfl (x := .ref TI) rfl ?_); refine wpAny_bind (wpAny_seqItems zI rfl ?_); show wpAny _ _ (Builtin.SmallTypes.ownedTupleIsFree (.ref z) >>= _) _ _ _; refine wpAny_bind ?_; unfold Builtin.SmallTypes.ownedTupleIsFree; refine wpAny_bind (wpAny_field zZ rfl (x := .none) rfl (wpAny_pure ?_)); simp only [if_true]; refine wpAny_bind (wpAny_rule ?_); refine wpAny_bind (wpAny_field zZ rfl (x := .ref TO) rfl ?_)
 refine wpAny_bind (wpAny_setField_rec zZ (by simp) λ h₁ zZ₁ hs₁ => ?_); replace zZ₁ : IsZip h₁ z TI TO .ellipsis := zZ₁; refine wpAny_bind ?_; simp only [List.zipIdx_cons, List.zipIdx_nil, List.forIn_cons, List.forIn_nil]; refine wpAny_bind (wpAny_bind (wpAny_onRaise ?_)); show wpAny _ _ (Builtin.SmallTypes.nextOf (.ref i1) >>= _) _ _ _
 cases hx : xs[k1]? with
 | none =>
   refine wpAny_bind (nextB_end hh (p1.extBut hs₁.extBut D.i1z) (q1.extBut hs₁.extBut D.l1z) hx λ h₂ e hs₂ he => ?_); obtain ⟨oe, hoe, hce⟩ := he; have hz₂ : IsZip h₂ z TI TO .ellipsis := hs₂ _ _ D.i1z.symm zZ₁; have hez : e ≠ z := (λ x => by subst x; rw [hz₂] at hoe; cases hoe; simp at hce); refine wpAny_setField_rec hz₂ (by simp) λ h₃ _ hs₃ => hE h₃ e (λ c o c1 _ c3 _ x => hs₃.extBut _ _ c1 (hs₂ _ _ c3 (hs₁.extBut _ _ c1 x))) ⟨oe, hs₃.extBut _ _ hez hoe, hce⟩
 | some x =>
   have hy : ys[k2]? = none := (by rcases hend with h | h; rw [hx] at h; cases h; exact h); refine wpAny_bind (nextB_item (p1.extBut hs₁.extBut D.i1z) (q1.extBut hs₁.extBut D.l1z) hx λ h₂ h1₂ hs₂ => wpAny_pure ?_); have hTO₂ : IsPair h₂ TO a b := hs₂.extBut _ _ D.TOi1 (hs₁.extBut _ _ D.TOz zO); refine wpAny_bind (wpAny_seqItems hTO₂ rfl ?_); refine wpAny_bind (wpAny_updateSeq_pair hTO₂ λ h₃ hTO₃ hs₃ => ?_); refine wpAny_bind (wpAny_letGo (wpAny_pure ?_)); refine wpAny_bind (wpAny_bind (wpAny_onRaise ?_)); show wpAny _ _ (Builtin.SmallTypes.nextOf (.ref i2) >>= _) _ _ _; refine wpAny_bind (nextB_end hh (((p2.extBut hs₁.extBut D.i2z).extBut hs₂.extBut D.i12.symm).extBut hs₃.extBut D.TOi2.symm)
     (((q2.extBut hs₁.extBut D.l2z).extBut hs₂.extBut D.l2i1).extBut hs₃.extBut D.l2TO) hy λ h₄ e hs₄ he => ?_)
   obtain ⟨oe, hoe, hce⟩ := he; have hz₄ : IsZip h₄ z TI TO .ellipsis := hs₄ _ _ D.i2z.symm (hs₃.extBut _ _ D.TOz.symm (hs₂.extBut _ _ D.i1z.symm zZ₁)); have hez : e ≠ z := (λ x => by subst x; rw [hz₄] at hoe; cases hoe; simp at hce); refine wpAny_setField_rec hz₄ (by simp) λ h₅ _ hs₅ => hE h₅ e (λ c o c1 c2 c3 c4 x => hs₅.extBut _ _ c1 (hs₄ _ _ c4 (hs₃.extBut _ _ c2 (hs₂.extBut _ _ c3 (hs₁.extBut _ _ c1 x))))) ⟨oe, hs₅.extBut _ _ hez hoe, hce⟩
theorem gx_zipB_item {b1 b2 : Bool} {z TI TO i1 i2 l1 l2 : Addr} {k1 k2 : Nat} {xs ys : Array Value} {x y a b : Value} {Q : Option Value -> Shared -> Prop} (D : ZipApart z TI TO i1 i2 l1 l2)
   (zZ : IsZip s.heap z TI TO .none) (zI : IsPair s.heap TI (.ref i1) (.ref i2)) (zO : IsPair s.heap TO a b)
   (p1 : ItB b1 s.heap i1 l1 k1) (p2 : ItB b2 s.heap i2 l2 k2) (q1 : SqB b1 s.heap l1 xs) (q2 : SqB b2 s.heap l2 ys) (hx : xs[k1]? = some x) (hy : ys[k2]? = some y)
   (hQ : ∀ h', IsZip h' z TI TO (rawInt s.heap.objs.size) -> IsPair h' TO x y -> ItB b1 h' i1 l1 (k1 + 1) -> ItB b2 h' i2 l2 (k2 + 1) -> IsPair h' s.heap.objs.size x y -> h'.objs.size = s.heap.objs.size + 1 ->
     (∀ c o, c ≠ z -> c ≠ TO -> c ≠ i1 -> c ≠ i2 -> s.heap.get? c = some o -> h'.get? c = some o) -> Q (some (.ref s.heap.objs.size)) { s with heap := h' }) :
   wpAny (model prog w) A (pyNext (.ref z)) Q E s := by
 have hT : s.TypeIs (.ref z) "zip" := ⟨_, zZ, rfl⟩; unfold pyNext
 exact wpAny_bind (wpAny_attempt (wpAny_callSpecial?_slot (name := Str.ofString "__next__") hT F.slot_zip_next
   (wpAny_call_entry F.slot_zip_next hT F.entry_zip_next
     (gx_zipN_item D zZ zI zO p1 p2 q1 q2 hx hy λ h' a1 a2 a3 a4 a5 a6 a7 => wpAny_pure (hQ h' a1 a2 a3 a4 a5 a6 a7)) (F.args_zip_next_1 _))))
theorem gx_zipB_end {b1 b2 : Bool} {z TI TO i1 i2 l1 l2 : Addr} {k1 k2 : Nat} {xs ys : Array Value} {a b : Value} {Q : Option Value -> Shared -> Prop} (hh : A.handled = none) (D : ZipApart z TI TO i1 i2 l1 l2)
   (zZ : IsZip s.heap z TI TO .none) (zI : IsPair s.heap TI (.ref i1) (.ref i2)) (zO : IsPair s.heap TO a b)
   (p1 : ItB b1 s.heap i1 l1 k1) (p2 : ItB b2 s.heap i2 l2 k2) (q1 : SqB b1 s.heap l1 xs) (q2 : SqB b2 s.heap l2 ys) (hend : xs[k1]? = none \/ ys[k2]? = none)
   (hQ : ∀ h', (∀ c o, c ≠ z -> c ≠ TO -> c ≠ i1 -> c ≠ i2 -> s.heap.get? c = some o -> h'.get? c = some o) -> Q none { s with heap := h' }) : wpAny (model prog w) A (pyNext (.ref z)) Q E s := by
 have hT : s.TypeIs (.ref z) "zip" := ⟨_, zZ, rfl⟩; unfold pyNext; refine wpAny_bind (wpAny_attempt (wpAny_callSpecial?_slot (name := Str.ofString "__next__") hT F.slot_zip_next
   (wpAny_call_entry F.slot_zip_next hT F.entry_zip_next (gx_zipN_end hh D zZ zI zO p1 p2 q1 q2 hend λ h' e hk he => ?_) (F.args_zip_next_1 _))))
 obtain ⟨o, ho, hc⟩ := he; refine wpAny_bind (wpAny_isInstance (T := "StopIteration") (b := true) ⟨o, ho, hc⟩ isSubtype_stop ?_)
 exact wpAny_pure (hQ _ hk)
end
end PySem
namespace PySem
open Sem (wp)
def itO (b : Bool) (l : Addr) : Obj := { cls := .type (match b with | true => "tuple_iterator" | false => "list_iterator"), data := .fields #[.ref l, .int 0 0] }
theorem gx_zip_new (b1 b2 : Bool) (l1 l2 : Addr) (xs ys : Array Value) :
   Meets (Builtin.«zip.__new__» ⟨[.type "zip", .ref l1, .ref l2], []⟩) (λ _ R s => SqB b1 s.heap l1 xs /\ SqB b2 s.heap l2 ys /\
     R (.ok (.ret (.ref ((((s.heap.push (itO b1 l1)).push (itO b2 l2)).push { cls := .type "tuple", data := .seq #[.ref s.heap.objs.size, .ref (s.heap.push (itO b1 l1)).objs.size] }).push { cls := .type "tuple", data := .seq #[.none, .none] }).objs.size)))
       { s with heap := (((((s.heap.push (itO b1 l1)).push (itO b2 l2)).push { cls := .type "tuple", data := .seq #[.ref s.heap.objs.size, .ref (s.heap.push (itO b1 l1)).objs.size] }).push { cls := .type "tuple", data := .seq #[.none, .none] }).push
         { cls := .type "zip", data := .fields #[.none, .bool false, .bool false, .ref ((s.heap.push (itO b1 l1)).push (itO b2 l2)).objs.size, .ref (((s.heap.push (itO b1 l1)).push (itO b2 l2)).push { cls := .type "tuple", data := .seq #[.ref s.heap.objs.size, .ref (s.heap.push (itO b1 l1)).objs.size] }).objs.size] }) }) :=
 .of_wp λ prog w A R s h => by
   obtain ⟨hp, g, d, tk, os⟩ := s; obtain ⟨q1, q2, h⟩ := h
   have hsub := sub_zip
   have q2' : SqB b2 (hp.push (itO b1 l1)) l2 ys := q2.at λ o e => Heap.get?_push_of_some _ e
   cases b1 with
   | true =>
     have hL1 : Heap.IsTuple (Shared.heap ⟨hp, g, d, tk, os⟩) l1 xs := q1
     cases b2 with
     | true =>
       have hL2 : Heap.IsTuple (Shared.heap ⟨hp.push { cls := .type "tuple_iterator", data := .fields #[.ref l1, .int 0 0] }, g, d, tk, os⟩) l2 ys := q2'
       wp_walk using wpAny_pyIter_tuple hL1, wpAny_pyIter_tuple hL2; exact ⟨_, rfl, h⟩
     | false =>
       have hL2 : Heap.IsList (Shared.heap ⟨hp.push { cls := .type "tuple_iterator", data := .fields #[.ref l1, .int 0 0] }, g, d, tk, os⟩) l2 ys := q2'
       wp_walk using wpAny_pyIter_tuple hL1, wpAny_pyIter_list hL2; exact ⟨_, rfl, h⟩
   | false =>
     have hL1 : Heap.IsList (Shared.heap ⟨hp, g, d, tk, os⟩) l1 xs := q1
     cases b2 with
     | true =>
       have hL2 : Heap.IsTuple (Shared.heap ⟨hp.push { cls := .type "list_iterator", data := .fields #[.ref l1, .int 0 0] }, g, d, tk, os⟩) l2 ys := q2'
       wp_walk using wpAny_pyIter_list hL1, wpAny_pyIter_tuple hL2; exact ⟨_, rfl, h⟩
     | false =>
       have hL2 : Heap.IsList (Shared.heap ⟨hp.push { cls := .type "list_iterator", data := .fields #[.ref l1, .int 0 0] }, g, d, tk, os⟩) l2 ys := q2'
       wp_walk using wpAny_pyIter_list hL1, wpAny_pyIter_list hL2; exact ⟨_, rfl, h⟩
end PySem
namespace PySem
open Sem (wp)
section
variable {prog : Program} {w : World} {A : Around} {E : Value -> Shared -> Prop} {s : Shared}
theorem itO_at {b : Bool} {h : Heap} {it l : Addr} (e : h.get? it = some (itO b l)) : ItB b h it l 0 := by cases b <;> exact ⟨_, e, rfl, rfl⟩
theorem gx_call_zip {b1 b2 : Bool} {l1 l2 : Addr} {xs ys : Array Value} {Q : Value -> Shared -> Prop} (q1 : SqB b1 s.heap l1 xs) (q2 : SqB b2 s.heap l2 ys)
   (h : ∀ h' (n : Nat), n = s.heap.objs.size -> IsZip h' (n + 4) (n + 2) (n + 3) .none -> IsPair h' (n + 2) (.ref n) (.ref (n + 1)) -> IsPair h' (n + 3) .none .none -> ItB b1 h' n l1 0 -> ItB b2 h' (n + 1) l2 0 ->
     (∀ c o, s.heap.get? c = some o -> h'.get? c = some o) -> Q (.ref (n + 4)) { s with heap := h' }) :
   wpAny (model prog w) A (call (.type "zip") [.ref l1, .ref l2]) Q E s := by
 refine callType_new F.called_zip (by decide) (F.typeCall_zip_2 _ _) (F.newCall_zip_2 _ _) (λ obj => F.args_object_init_3 obj _ _) F.entry_zip_new (gx_zip_new b1 b2 l1 l2 xs ys) ⟨q1, q2, ?_⟩
 generalize ho1 : itO b1 l1 = o1
 generalize ho2 : itO b2 l2 = o2
 have z1 : (s.heap.push o1).objs.size = s.heap.objs.size + 1 := Heap.size_push ..
 have z2 : ((s.heap.push o1).push o2).objs.size = s.heap.objs.size + 2 := by rw [Heap.size_push, z1]
 rw [z1, z2]
 generalize hT1 : ({ cls := .type "tuple", data := .seq #[.ref s.heap.objs.size, .ref (s.heap.objs.size + 1)] } : Obj) = t1
 generalize hT2 : ({ cls := .type "tuple", data := .seq #[.none, .none] } : Obj) = t2
 have z3 : (((s.heap.push o1).push o2).push t1).objs.size = s.heap.objs.size + 3 := by rw [Heap.size_push, z2]
 have z4 : ((((s.heap.push o1).push o2).push t1).push t2).objs.size = s.heap.objs.size + 4 := by rw [Heap.size_push, z3]
 rw [z3, z4]
 generalize hZ : ({ cls := .type "zip", data := .fields #[.none, .bool false, .bool false, .ref (s.heap.objs.size + 2), .ref (s.heap.objs.size + 3)] } : Obj) = tz
 have g5 := Heap.get?_push_size ((((s.heap.push o1).push o2).push t1).push t2) (o := tz) (by rw [<- hZ]; rfl)
 have g4 := Heap.get?_push_of_some tz (Heap.get?_push_size (((s.heap.push o1).push o2).push t1) (o := t2) (by rw [<- hT2]; rfl))
 have g3 := Heap.get?_push_of_some tz (Heap.get?_push_of_some t2 (Heap.get?_push_size ((s.heap.push o1).push o2) (o := t1) (by rw [<- hT1]; rfl)))
 have g2 := Heap.get?_push_of_some tz (Heap.get?_push_of_some t2 (Heap.get?_push_of_some t1 (Heap.get?_push_size (s.heap.push o1) (o := o2) (by rw [<- ho2]; rfl))))
 have g1 := Heap.get?_push_of_some tz (Heap.get?_push_of_some t2 (Heap.get?_push_of_some t1 (Heap.get?_push_of_some o2 (Heap.get?_push_size s.heap (o := o1) (by rw [<- ho1]; rfl)))))
 rw [z4] at g5
 rw [z3] at g4
 rw [z2] at g3
 rw [z1] at g2
 subst hZ hT1 hT2 ho1 ho2
 exact ⟨⟨_, g5, rfl⟩, h _ s.heap.objs.size rfl g5 g3 g4 (itO_at g1) (itO_at g2) λ c o x =>
   Heap.get?_push_of_some _ (Heap.get?_push_of_some _ (Heap.get?_push_of_some _ (Heap.get?_push_of_some _ (Heap.get?_push_of_some _ x))))⟩
end
end PySem
namespace L2
open PySem PySem.Spec PyProof.Rows
def SqV (b : Bool) (K : W.Frag) (H : Hp) (l : Addr) (xs : List V) : Prop := match b with | true => SqT K H l xs | false => SqL K H l xs
theorem Inv.sqv {X : Cx} {pins : List (Addr × Obj)} {σ : St} {H : Hp} {s : Shared} {b : Bool} {l : Addr} {xs : List V} (I : Inv X pins σ H s) (h : SqV b X.K H l xs) : ∃ its : List Value, Vals xs its /\ SqB b s.heap l its.toArray := by
 cases b with
 | true => obtain ⟨its, r, p, _⟩ := I.tuple h; exact ⟨its, r, p⟩
 | false => obtain ⟨its, r, p, _⟩ := I.list h; exact ⟨its, r, p.isList⟩
theorem Inv.sqv_inj {X : Cx} {pins : List (Addr × Obj)} {σ : St} {H : Hp} {s : Shared} {b : Bool} {l : Addr} {xs ys : List V} (I : Inv X pins σ H s) (h : SqV b X.K H l xs) (h' : SqV b X.K H l ys) : xs = ys := by
 cases b with
 | true => exact I.tuple_inj h h'
 | false => exact I.list_inj h h'
theorem SqB.lt {b : Bool} {h : Heap} {l : Addr} {xs : Array Value} (p : SqB b h l xs) : l < h.objs.size := by
 cases b <;> (obtain ⟨o, ho, r⟩ := p; exact Heap.lt_size ho)
def Itz (K : W.Frag) (b1 b2 : Bool) (l1 l2 : Addr) : It :=
 ⟨λ i H => ∃ xs ys x y, SqV b1 K H l1 xs /\ SqV b2 K H l2 ys /\ xs[i]? = some x /\ ys[i]? = some y,
  λ i H v H' => ∃ b, v = .ref b /\ H b = none /\ ∀ xs ys x y, SqV b1 K H l1 xs -> SqV b2 K H l2 ys -> xs[i]? = some x -> ys[i]? = some y -> H' = upd H b (.tup [x, y]),
  λ i H => ∃ xs ys, SqV b1 K H l1 xs /\ SqV b2 K H l2 ys /\ (xs[i]? = none \/ ys[i]? = none)⟩
theorem turn_zip {P : Program} {w : World} {K : W.Frag} {elts : List Expr} {k : Nat} {pos : Pos} (b1 b2 : Bool) (z TI TO i1 i2 l1 l2 : Addr) (D : ZipApart z TI TO i1 i2 l1 l2) :
   Turn P w K (.Tuple elts k pos) (Itz K b1 b2 l1 l2) [z, TI, TO, i1, i2] z (λ i h => IsZip h z TI TO .none /\ IsPair h TI (.ref i1) (.ref i2) /\ (∃ a b, IsPair h TO a b) /\ ItB b1 h i1 l1 i /\ ItB b2 h i2 l2 i) where
 mem := by simp
 obj := λ i h st b hb => by
   obtain ⟨hz, hTI, ⟨a, c, hTO⟩, h1, h2⟩ := st
   simp only [List.mem_cons, List.not_mem_nil, or_false] at hb
   rcases hb with rfl | rfl | rfl | rfl | rfl
   . exact ⟨_, hz, λ v z => by cases (show Data.fields _ = Data.cell v from z)⟩
   . exact ⟨_, hTI, λ v z => by cases (show Data.seq _ _ = Data.cell v from z)⟩
   . exact ⟨_, hTO, λ v z => by cases (show Data.seq _ _ = Data.cell v from z)⟩
   . cases b1 <;> (obtain ⟨o, ho, hc, hd⟩ := h1; exact ⟨o, ho, λ v z => by rw [hd] at z; cases z⟩)
   . cases b2 <;> (obtain ⟨o, ho, hc, hd⟩ := h2; exact ⟨o, ho, λ v z => by rw [hd] at z; cases z⟩)
 keep := λ i h h' st kk => by
   obtain ⟨hz, hTI, ⟨a, c, hTO⟩, h1, h2⟩ := st
   exact ⟨kk _ (by simp) _ hz, kk _ (by simp) _ hTI, ⟨a, c, kk _ (by simp) _ hTO⟩, h1.at λ o e => kk _ (by simp) o e, h2.at λ o e => kk _ (by simp) o e⟩
 item := by
   intro X hP hw hK hc i pins s σ H E I hf st hg
   subst hP hw hK
   obtain ⟨hz, hTI, ⟨oa, ob, hTO⟩, h1, h2⟩ := st
   obtain ⟨xs, ys, x, y, e1, e2, hx, hy⟩ := hg
   obtain ⟨is1, r1, p1⟩ := I.sqv e1
   obtain ⟨is2, r2, p2⟩ := I.sqv e2
   obtain ⟨u, hu, ru⟩ := r1.get hx
   obtain ⟨v, hv, rv⟩ := r2.get hy
   refine gx_zipB_item D hz hTI hTO h1 h2 p1 p2 (by simpa using hu) (by simpa using hv) λ h' a1 a2 a3 a4 a5 a6 hk => ?_
   refine ⟨_, rfl, wpAny_letOwnedTupleGo_zip a1 λ h3 hz3 hs3 => ?_⟩
   have hs3 : Heap.SameBut z h' h3 := hs3
   have hzlt : z < s.heap.objs.size := Heap.lt_size hz
   have hfr : H s.heap.objs.size = none := I.hok.fresh (Nat.le_refl _)
   have hnS : s.heap.objs.size ≠ z := Nat.ne_of_gt hzlt
   have hT3 : IsPair h3 s.heap.objs.size u v := (hs3.2 _ hnS).trans a5
   refine ⟨.ref s.heap.objs.size, upd H s.heap.objs.size (.tup [x, y]), I.turnLaid (t' := s.toks) (ch := [z, TI, TO, i1, i2]) (λ b o hb q => ?_) hf (Nat.le_refl _) ?_, rfl, ⟨s.heap.objs.size, rfl, hfr, λ xs' ys' x' y' q1 q2 hx' hy' => ?_⟩, ⟨hz3, ?_, ⟨u, v, ?_⟩, ?_, ?_⟩, λ b hb => ?_⟩
   . have n1 : b ≠ z := λ zz => hb (by simp [zz])
     have n3 : b ≠ TO := λ zz => hb (by simp [zz])
     have n4 : b ≠ i1 := λ zz => hb (by simp [zz])
     have n5 : b ≠ i2 := λ zz => hb (by simp [zz])
     exact (hs3.2 b n1).trans (hk b o n1 n3 n4 n5 q)
   . exact ⟨by show 2 <= sizeLine; decide, [u, v], .cons ru (.cons rv .nil), ⟨_, hT3, rfl, _, rfl⟩⟩
   . have t1 := I.sqv_inj q1 e1
     have t2 := I.sqv_inj q2 e2
     subst t1 t2
     rw [hx] at hx'
     rw [hy] at hy'
     cases hx'
     cases hy'
     rfl
   . exact (hs3.2 _ D.TIz).trans (hk _ _ D.TIz D.TITO D.TIi1 D.TIi2 hTI)
   . exact (hs3.2 _ D.TOz).trans a2
   . exact a3.at λ o e => (hs3.2 _ D.i1z).trans e
   . exact a4.at λ o e => (hs3.2 _ D.i2z).trans e
   . have hb0 := (hf b hb).1
     rw [upd_ne]
     . exact hb0
     . intro zz
       subst zz
       simp only [List.mem_cons, List.not_mem_nil, or_false] at hb
       rcases hb with e | e | e | e | e
       . exact hnS e
       . exact absurd (Heap.lt_size hTI) (by rw [<- e]; exact Nat.lt_irrefl _)
       . exact absurd (Heap.lt_size hTO) (by rw [<- e]; exact Nat.lt_irrefl _)
       . exact absurd h1.lt (by rw [<- e]; exact Nat.lt_irrefl _)
       . exact absurd h2.lt (by rw [<- e]; exact Nat.lt_irrefl _)
 done := by
   intro X hP hw hK hc i pins s σ H E I hf st hg
   subst hP hw hK
   obtain ⟨hz, hTI, ⟨oa, ob, hTO⟩, h1, h2⟩ := st
   obtain ⟨xs, ys, e1, e2, hend⟩ := hg
   obtain ⟨is1, r1, p1⟩ := I.sqv e1
   obtain ⟨is2, r2, p2⟩ := I.sqv e2
   refine gx_zipB_end (I.ok.hd hc) D hz hTI hTO h1 h2 p1 p2 ?_ λ h' hk => ⟨rfl, ?_⟩
   . rcases hend with h | h
     . left; have := r1.none_of h; simpa using this
     . right; have := r2.none_of h; simpa using this
   . exact I.turnedL (t' := s.toks) (ch := [z, TI, TO, i1, i2]) (λ b o hb q => hk b o (λ zz => hb (by simp [zz])) (λ zz => hb (by simp [zz])) (λ zz => hb (by simp [zz])) (λ zz => hb (by simp [zz])) q) hf
 self := λ _ _ _ _ _ st h => wpAny_pyIter_zip st.1 h
section
variable {X : Cx}
def iZip (b1 b2 : Bool) (K : W.Frag) (ta : TA) : TI := λ σ H R => ta σ H λ vs H1 => ∃ l1 l2, vs = [.ref l1, .ref l2] /\ (∃ xs, SqV b1 K H1 l1 xs) /\ (∃ ys, SqV b2 K H1 l2 ys) /\ R (Itz K b1 b2 l1 l2) H1
theorem pi_zip (b1 b2 : Bool) {a b : Expr} {ta : TA} {p pos tpos : Pos} {elts : List Expr} {k : Nat} (hg : Gl X "zip") (hm : X.mg "zip" = none) (ha : PA X [a, b] ta) (hs : starEach [a, b] X.env = (false, eval a X.env) :: starEach [b] X.env := by rfl) (hs2 : (backTo pos (starEach [b] X.env)).any (·.1) = false := by rfl) :
   PI X (.Tuple elts k tpos) (.Call (.Name "zip" p) [a, b] [] pos) (iZip b1 b2 X.K ta) := by
 intro pins s σ H R I h
 refine Call_ (ld_blt I hg hm bt_zip (PyProof.Rows.callWith_type1 (thn (ha pos pins s σ H _ I h) λ us s1 ⟨vs, H1, I1, r1, q1⟩ => ?_) hs hs2))
 obtain ⟨l1, l2, e, ⟨xs, hx⟩, ⟨ys, hy⟩, q⟩ := q1
 subst e
 cases r1 with
 | cons r rr =>
   cases rr with
   | cons r' rr =>
     cases rr
     cases r
     cases r'
     obtain ⟨is1, v1, p1⟩ := I1.sqv hx
     obtain ⟨is2, v2, p2⟩ := I1.sqv hy
     refine gx_call_zip p1 p2 λ h' n hn hz hTI hTO h1 h2 hk => ?_
     subst hn
     refine wpAny_pyIter_zip hz ?_
     refine ⟨s1.heap.objs.size + 4, [s1.heap.objs.size + 4, s1.heap.objs.size + 2, s1.heap.objs.size + 3, s1.heap.objs.size, s1.heap.objs.size + 1], _, _, H1, rfl, I1.kept (t' := s1.toks) hk, turn_zip b1 b2 _ _ _ _ _ l1 l2 (zipApart_new (SqB.lt p1) (SqB.lt p2)), ⟨hz, hTI, ⟨_, _, hTO⟩, h1, h2⟩, λ b hb => ?_, q⟩
     have hb' : s1.heap.objs.size <= b := by
       simp only [List.mem_cons, List.not_mem_nil, or_false] at hb
       rcases hb with e | e | e | e | e <;> rw [e] <;> first | exact Nat.le_refl _ | exact Nat.le_add_right _ _
     exact I1.fpOk hb' (I1.hok.fresh hb')
theorem for_zip {b1 b2 : Bool} {K : W.Frag} {l1 l2 : Addr} {xs ys : List V} {g : TG} {tb : TS} {D : Ends} {σ : St} {H : Hp} (Pv : Nat -> St -> Hp -> Prop) (h0 : Pv 0 σ H) (hl : ∀ i σ H, i <= min xs.length ys.length -> Pv i σ H -> SqV b1 K H l1 xs /\ SqV b2 K H l2 ys)
   (hs : ∀ i x y σ H b, xs[i]? = some x -> ys[i]? = some y -> Pv i σ H -> H b = none -> g (.ref b) σ (upd H b (.tup [x, y])) λ σ2 H2 => tb { D with nx := Pv (i + 1), ct := Pv (i + 1), bk := D.nx } σ2 H2) (hd : ∀ σ H, Pv (min xs.length ys.length) σ H -> D.nx σ H) :
   ∃ W : Nat -> Nat -> St -> Hp -> Prop, (∃ m, W 0 m σ H) /\ ∀ i m σ H, W i m σ H -> ((Itz K b1 b2 l1 l2).stop i H /\ D.nx σ H) \/ ((Itz K b1 b2 l1 l2).go i H /\ ∃ N : St -> Hp -> Prop, (∀ σ' H', N σ' H' -> ∃ m', m' < m /\ W (i + 1) m' σ' H') /\ ∀ x H', (Itz K b1 b2 l1 l2).yld i H x H' -> g x σ H' λ σ2 H2 => tb { D with nx := N, ct := N, bk := D.nx } σ2 H2) := by
 refine ⟨λ i m σ H => m = min xs.length ys.length - i /\ i <= min xs.length ys.length /\ Pv i σ H, ⟨min xs.length ys.length, by simp, Nat.zero_le _, h0⟩, ?_⟩
 rintro i m σ H ⟨rfl, hi, p⟩
 obtain ⟨q1, q2⟩ := hl i σ H hi p
 by_cases hlt : i < min xs.length ys.length
 . have l1' : i < xs.length := by omega
   have l2' : i < ys.length := by omega
   refine .inr ⟨⟨xs, ys, xs[i], ys[i], q1, q2, by simp [l1'], by simp [l2']⟩, Pv (i + 1), λ σ' H' p' => ⟨min xs.length ys.length - (i + 1), by omega, rfl, hlt, p'⟩, λ x H' y => ?_⟩
   obtain ⟨b, rfl, hb, y⟩ := y
   rw [y xs ys xs[i] ys[i] q1 q2 (by simp [l1']) (by simp [l2'])]
   exact hs i xs[i] ys[i] σ H b (by simp [l1']) (by simp [l2']) p hb
 . have e : i = min xs.length ys.length := by omega
   subst e
   refine .inl ⟨⟨xs, ys, q1, q2, ?_⟩, hd σ H p⟩
   rcases Nat.le_total xs.length ys.length with h | h
   . left; rw [Nat.min_eq_left h]; exact List.getElem?_eq_none (Nat.le_refl _)
   . right; rw [Nat.min_eq_right h]; exact List.getElem?_eq_none (Nat.le_refl _)
end
end L2
namespace L2
open PySem PySem.Spec PyProof.Rows
structure ClsOk (K : W.Frag) (mg : Str -> Option Value) (name : Str) (C : Addr) : Prop where
 cl : Cls K C
 g : mg name = some (.ref C)
structure IniOk (K : W.Frag) (C : Addr) (qual : Str) (st : Stmt) (ps : List Str) (f : Addr) (fd : FuncData) : Prop where
 F : Fun K "__init__" qual st f fd
 b : Binds K fd ps []
 M : Mk K C f
section
variable {X : Cx} {k : Nat} {C f : Addr} {fd : FuncData} {ps : List Str} {sp : Sp} {x m qual : Str} {st : Stmt} {p pos apos : Pos} {o e : Expr} {es : List Expr} {ta : TE} {t : TA}
theorem makeD (Cc : ClsOk X.K X.mg x C) (D : IniOk X.K C qual st ps f fd) (G : FnOk X.prog X.w X.K X.mg X.base CX0 k f fd ps sp) (hr : Room (k + 1) X.A) (ha : PA X (e :: es) t) (hg : Gl X x := by rfl)
   (hdb : (x == ("__debug__" : Str)) = false := by decide) (he : starEach (e :: es) X.env = (false, eval e X.env) :: starEach es X.env := by rfl) (hpl : (backTo pos (starEach es X.env)).any (·.1) = false := by rfl) :
   PE X (.Call (.Name x p) (e :: es) [] pos) (tMake C sp [] E0 t) := pe_make D.M G hr hg Cc.g D.b .nil pass0 ha hdb he hpl
theorem iniOk_mk {K : W.Frag} {C : Addr} {qual : Str} {st : Stmt} {ps : List Str} {f : Addr} {oc : Value} {od an : Option Addr} {osl : Array (Option Value)} {kV doc pm cdv ct : Value}
   (mk : PySem.W.makesIn K C = true) (kc : PySem.W.keepIn K (.ref C) = true) (a : PySem.W.findIn K (.ref C) "__init__" = some (some (.ref f))) (i : PySem.W.isFn K (.ref f) = true) (l : K.lookup f = some ⟨oc, od, .func (PySem.W.fnOf "__init__" qual (defArgs st) (defBody st) (defScope st) .none kV doc pm an cdv ct), osl⟩) (c : PySem.W.codeIn K cdv qual = true) (k : PySem.W.keepIn K (.ref f) = true)
   (b : ∀ (kV doc pm : Value) (an : Option Addr) (cdv ct : Value) (us : List Value), us.length = ps.length -> bindArgs (PySem.W.fnOf "__init__" qual (defArgs st) (defBody st) (defScope st) .none kV doc pm an cdv ct) ⟨us, []⟩ = pure (ps.zip us)) :
   IniOk K C qual st ps f (PySem.W.fnOf "__init__" qual (defArgs st) (defBody st) (defScope st) .none kV doc pm an cdv ct) :=
 ⟨fun_mk l c k, (fun_mk l c k).binds b, ⟨mk, a, i, kc⟩⟩
end
theorem u1' {A : Around} (h : A.units + 64 < cLine) : A.units + 1 < cLine := by omega
end L2
namespace L2
open PySem PySem.Spec PyProof.Rows
section
variable {prog : Program} {w : World} {A : Around} {E : Value -> Shared -> Prop} {s : Shared}
open HT in
theorem getItem_tuple_all {t sl : Addr} {items : Array Value} {vl vu : Value} {lo hi : Option Int} {Q : Value -> Shared -> Prop} (ht : IsTup s.heap t items) (hs : s.heap.IsSliceOf sl vl vu .none) (pl : IsPart vl lo) (pu : IsPart vu hi)
   (hw : sIx items.size 0 lo = 0 /\ sIx items.size items.size hi = items.size) (h : Q (.ref t) s) : wpAny (model prog w) A (getItem (.ref t) (.ref sl)) Q E s := by
 obtain ⟨os, hos, hcs, hds⟩ := id hs
 have tS : s.TypeIs (.ref sl) "slice" := ⟨os, hos, hcs⟩
 unfold getItem; try with_reducible refine wpAny_holding ?_
 first | refine wpAny_bind (wpAny_pure ?_) | skip
 refine wpAny_bind (wpAny_sequenceKey ht.typeIs (by decide) ?_); refine wpAny_bind (wpAny_callSpecial?_slot (name := Str.ofString "__getitem__") ht.typeIs PyProof.Rows.slot_tuple_getitem (wpAny_call_entry PyProof.Rows.slot_tuple_getitem ht.typeIs entry_tuple_getitem ?_ (args_tuple_getitem _ _)))
 show wpAny _ _ (Builtin.Tuple.tupleItemsOf (.ref t) >>= _) _ _ s; refine wpAny_bind (tupleItemsOf_ ht ?_); refine wpAny_bind (wpAny_typeOf tS ?_); rw [if_pos (by decide)]; refine wpAny_bind (sliceApplied_gen hs pl pu ?_)
 have yes : (((sIx items.size 0 lo : Nat) : Int) == 0 && (1 : Int) == 1 && (sIx items.size items.size hi - sIx items.size 0 lo) == items.size) = true := by
   rw [hw.1, hw.2]
   simp
 show wpAny _ _ (if (((sIx items.size 0 lo : Nat) : Int) == 0 && (1 : Int) == 1 && (sIx items.size items.size hi - sIx items.size 0 lo) == items.size) = true then _ else _) _ _ s; rw [if_pos yes]
 show wpAny _ _ (Builtin.Tuple.tupleIsExact (.ref t) >>= _) _ _ s
 unfold Builtin.Tuple.tupleIsExact
 refine wpAny_bind (wpAny_bind (wpAny_typeOf ht.typeIs (wpAny_pure ?_)))
 rw [if_pos (by decide)]
 exact wpAny_bind (wpAny_rule (wpAny_bind (wpAny_pure (wpAny_pure ⟨_, rfl, wpAny_pure h⟩))))
end
def rSlW (K : W.Frag) : V -> Option Int -> Option Int -> Hp -> VK -> Prop := λ x lo hi H Q => ∃ a xs, x = .ref a /\ SqT K H a xs /\
 (HT.sIx xs.length 0 lo = 0 /\ HT.sIx xs.length xs.length hi = xs.length) /\ Q (.ref a) H
theorem sl_tupW {X : Cx} : SlR X (rSlW X.K) := by
 intro pins s σ H x v vl vu lo hi sl Q I rx hs pl pu h
 obtain ⟨a, xs, rfl, hx, hw, q⟩ := h
 cases rx
 obtain ⟨its, r, ht, hz⟩ := I.tuple hx
 have hlen : its.toArray.size = xs.length := by rw [List.size_toArray]; exact r.length.symm
 refine ⟨"tuple", _, PyProof.Rows.slot_tuple_getitem.lookup, ht.typeIs, getItem_tuple_all ht hs pl pu (by rw [hlen]; exact hw) ⟨.ref a, H, I, rfl, q⟩⟩
def rSlA (K : W.Frag) : V -> Option Int -> Option Int -> Hp -> VK -> Prop := λ x lo hi H Q => rSlT K x lo hi H Q \/ rSlW K x lo hi H Q
theorem sl_tupA {X : Cx} : SlR X (rSlA X.K) := sl_tup.or sl_tupW
theorem rSlA_of {K : W.Frag} {H : Hp} {Q : VK} {a : Addr} {xs : List V} {lo hi : Option Int} (h : SqT K H a xs) (q : ∀ p H', Same H H' -> SqT K H' p (cutV xs lo hi) -> Q (.ref p) H') : rSlA K (.ref a) lo hi H Q := by
 by_cases hw : HT.sIx xs.length 0 lo = 0 /\ HT.sIx xs.length xs.length hi = xs.length
 . refine .inr ⟨a, xs, rfl, h, hw, q a H (Same.refl _) ?_⟩
   have : cutV xs lo hi = xs := by
     unfold cutV
     rw [hw.1, hw.2, List.drop_zero, Nat.sub_zero, List.take_length]
   rw [this]
   exact h
 . exact .inl ⟨a, xs, rfl, h, hw, λ p hp => q p _ (Same.new hp) (SqT.of upd_same)⟩
end L2
namespace L2
open PySem PySem.Spec PyProof.Rows
theorem bt_divmod : bootBuiltins "divmod" = some (.builtin "divmod") := by decide +kernel
section
variable {g : TG} {tif : TT} {te : TE} {js : List (Option Nat)} {σ : St} {H : Hp} {Q : VK}
theorem comp_enumL {K : W.Frag} {a : Addr} {xs : List V} {p : Addr} (hn : xs.length <= 1000000) (Pv : Nat -> List V -> Hp -> Prop) (h0 : Pv 0 [] (upd H p (.lst [])))
   (hl : ∀ i acc H2, i <= xs.length -> Pv i acc H2 -> H2 p = some (.lst acc) /\ acc.length <= i /\ SqL K H2 a xs)
   (hs : ∀ i x acc H2 b, xs[i]? = some x -> Pv i acc H2 -> H2 b = none -> cTurn g tif te (cap js σ) p acc (Pv (i + 1)) (.ref b) (upd H2 b (.tup [.int i, x]))) (hd : ∀ acc H2, Pv xs.length acc H2 -> Q (.ref p) H2) :
   CompW (ItE K a) g tif te js σ Q p H := by
 refine ⟨λ i m acc H => m = xs.length - i /\ i <= xs.length /\ Pv i acc H, ⟨xs.length, by simp, Nat.zero_le _, h0⟩, ?_⟩
 rintro i m acc H2 ⟨rfl, hi, q⟩
 obtain ⟨q1, q2, q3⟩ := hl i acc H2 hi q
 refine ⟨q1, ?_⟩
 by_cases hlt : i < xs.length
 . refine .inr ⟨⟨xs, xs[i], q3, by simp [hlt]⟩, ?_, Pv (i + 1), λ acc' H' p' => ⟨xs.length - (i + 1), by omega, rfl, hlt, p'⟩, λ x H' y => ?_⟩
   . have : (1000000 : Nat) < sizeLine := by decide
     omega
   . obtain ⟨b, rfl, hb, y⟩ := y
     rw [y xs xs[i] q3 (by simp [hlt])]
     exact hs i xs[i] acc H2 b (by simp [hlt]) q hb
 . have e : i = xs.length := by omega
   subst e
   exact .inl ⟨⟨xs, q3, rfl⟩, hd acc H2 q⟩
end
end L2
namespace L2
open PySem PySem.Spec PyProof.Rows
inductive WVar (i : Nat) (σ : St) (H : Hp) (Q : VK) : Prop
 | mk (v : V) (h : σ[i]? = some (some v)) (q : Q v H) : WVar i σ H Q
def cVar (i : Nat) : TE := λ σ H Q => WVar i σ H Q
theorem pvC {X : Cx} (i : Nat) {x : Str} {pos : Pos} (hN : X.N[i]? = some x := by rfl) (hv : Vis X.env.scope x := by first | exact Or.inl rfl | exact Or.inr (Or.inl rfl) | exact Or.inr (Or.inr rfl)) (hd : (x == ("__debug__" : Str)) = false := by decide)
   (hcd : (x == ("__classdict__" : Str)) = false := by decide) : PE X (.Name x pos) (cVar i) := λ pins s σ H Q I h => pv i hN hv hd hcd pins s σ H Q I (let ⟨v, e, q⟩ := h; ⟨v, e, q⟩)
inductive WIxL (K : W.Frag) (x y : V) (H : Hp) (Q : VK) : Prop
 | mk (p : Addr) (xs : List V) (i : Int) (v : V) (h1 : x = .ref p) (h2 : y = .int i) (h3 : SqL K H p xs) (h4 : atI xs i = some v) (q : Q v H) : WIxL K x y H Q
inductive WIxT (K : W.Frag) (x y : V) (H : Hp) (Q : VK) : Prop
 | mk (p : Addr) (xs : List V) (i : Int) (v : V) (h1 : x = .ref p) (h2 : y = .int i) (h3 : SqT K H p xs) (h4 : atI xs i = some v) (q : Q v H) : WIxT K x y H Q
def cIxL (K : W.Frag) : R2 := λ x y H Q => WIxL K x y H Q
def cIxT (K : W.Frag) : R2 := λ x y H Q => WIxT K x y H Q
theorem IxR.imp {X : Cx} {r r' : R2} (h : IxR X r) (f : ∀ x y H Q, r' x y H Q -> r x y H Q) : IxR X r' := λ a b pins s σ H x y v u Q I r1 r2 q z => h a b pins s σ H x y v u Q I r1 r2 (f x y H Q q) z
theorem OpR.imp {X : Cx} {g : Value -> Value -> Sem Value} {r r' : R2} (h : OpR X g r) (f : ∀ x y H Q, r' x y H Q -> r x y H Q) : OpR X g r' := λ pins s σ H x y v u Q I r1 r2 q => h pins s σ H x y v u Q I r1 r2 (f x y H Q q)
theorem CallR.imp {X : Cx} {g : Value} {r r' : List V -> Hp -> VK -> Prop} (h : CallR X g r) (f : ∀ xs H Q, r' xs H Q -> r xs H Q) : CallR X g r' := λ pins s σ H xs us Q I r1 q => h pins s σ H xs us Q I r1 (f xs H Q q)
theorem ixC_list {X : Cx} : IxR X (cIxL X.K) := ix_list.imp λ x y H Q h => let ⟨p, xs, i, v, h1, h2, h3, h4, q⟩ := h; ⟨p, xs, i, v, h1, h2, h3, h4, q⟩
theorem ixC_tup {X : Cx} : IxR X (cIxT X.K) := ix_tup.imp λ x y H Q h => let ⟨p, xs, i, v, h1, h2, h3, h4, q⟩ := h; ⟨p, xs, i, v, h1, h2, h3, h4, q⟩
inductive WI (C : Int -> Int -> Prop) (g : Int -> Int -> V) (x y : V) (H : Hp) (Q : VK) : Prop
 | mk (i j : Int) (h1 : x = .int i) (h2 : y = .int j) (h3 : C i j) (q : Q (g i j) H) : WI C g x y H Q
inductive WI0 (g : Int -> Int -> V) (x y : V) (H : Hp) (Q : VK) : Prop
 | mk (i j : Int) (h1 : x = .int i) (h2 : y = .int j) (q : Q (g i j) H) : WI0 g x y H Q
def cI (C : Int -> Int -> Prop) (g : Int -> Int -> V) : R2 := λ x y H Q => WI C g x y H Q
def cI0 (g : Int -> Int -> V) : R2 := λ x y H Q => WI0 g x y H Q
theorem opC1 {X : Cx} {f : Value -> Value -> Sem Value} {C : Int -> Int -> Prop} {g : Int -> Int -> V} (h : OpR X f (rI C g)) : OpR X f (cI C g) := h.imp λ x y H Q h => let ⟨i, j, h1, h2, h3, q⟩ := h; ⟨i, j, h1, h2, h3, q⟩
theorem opC0 {X : Cx} {f : Value -> Value -> Sem Value} {g : Int -> Int -> V} (h : OpR X f (rI0 g)) : OpR X f (cI0 g) := h.imp λ x y H Q h => let ⟨i, j, h1, h2, q⟩ := h; ⟨i, j, h1, h2, q⟩
inductive WLen (K : W.Frag) (xs : List V) (H : Hp) (Q : VK) : Prop
 | mk (p : Addr) (ys : List V) (h1 : xs = [.ref p]) (h2 : SqL K H p ys \/ SqT K H p ys) (q : Q (.int ys.length) H) : WLen K xs H Q
def cLen (K : W.Frag) : List V -> Hp -> VK -> Prop := λ xs H Q => WLen K xs H Q
theorem callC_len {X : Cx} : CallR X (.builtin "len") (cLen X.K) := call_len_seq.imp λ xs H Q h => let ⟨p, ys, h1, h2, q⟩ := h; ⟨p, ys, h1, h2, q⟩
inductive WApp (x : V) (vs : List V) (H : Hp) (Q : VK) : Prop
 | mk (l : Addr) (xs : List V) (y : V) (h1 : x = .ref l) (h2 : vs = [y]) (h3 : H l = some (.lst xs)) (h4 : xs.length < sizeLine) (q : Q .non (upd H l (.lst (xs ++ [y])))) : WApp x vs H Q
def cApp : V -> List V -> Hp -> VK -> Prop := λ x vs H Q => WApp x vs H Q
theorem mtC_append {X : Cx} : MtM X "list.append" cApp := λ pins s σ H x xs v us Q I r1 r2 q => mt_append pins s σ H x xs v us Q I r1 r2 (let ⟨l, xs, y, h1, h2, h3, h4, q⟩ := q; ⟨l, xs, y, h1, h2, h3, h4, q⟩)
inductive WBl (x : V) (H : Hp) (Q : Bool -> Hp -> Prop) : Prop
 | mk (k : Bool) (h : x = .bl k) (q : Q k H) : WBl x H Q
def cTest (t : TE) : TT := λ σ H Q => t σ H λ x H' => WBl x H' Q
section
variable {X : Cx} {a b : Expr} {ta tb : TE} {pos : Pos}
theorem ptC_cmpR {op : CmpOp} {r : R2} (ho : OpR X (compareOp op) r) (ha : PE X a ta) (hb : PE X b tb) (hm : behindInMarks op b = false) : PT X (.Compare a [op] [b] pos) (cTest (tOp r ta tb)) := by
 intro pins s σ H Q I h
 refine wpAny_isTrue_Compare1 (thn (ha pins s σ H _ I h) λ v s1 ⟨x, H1, I1, r1, q1⟩ => thn (hb pins s1 σ H1 _ I1 q1) λ u s2 ⟨y, H2, I2, r2, q2⟩ =>
   thn (ho pins s2 σ H2 x y v u _ I2 r1 r2 q2) λ c s3 ⟨z, H3, I3, r3, w⟩ => ?_) hm
 obtain ⟨k, e, q3⟩ := w
 subst e
 cases r3
 exact wpAny_truthy_bool ⟨H3, I3, q3⟩
theorem ptC_val {e : Expr} {t : TE} (h : PE X e t) (he : ∀ whole, isTrue e X.env whole = (do let v <- whole; standAt e.pos; holding [v] (truthy v)) := by intro _; rfl) : PT X e (cTest t) := by
 intro pins s σ H Q I hw
 refine isTrue_plain (thn (h pins s σ H _ I hw) λ v s1 ⟨x, H1, I1, r1, q1⟩ => ?_) (he _)
 obtain ⟨d, rfl, q⟩ := q1
 cases r1
 exact wpAny_truthy_bool ⟨H1, I1, q⟩
end
def tCut (t u : TS) : TS := λ D σ H => ∃ M : St -> Hp -> Prop, t { D with nx := M } σ H /\ ∀ σ' H', M σ' H' -> u D σ' H'
theorem pss_cutN {X : Cx} {st : Stmt} {rest : List Stmt} {t u : TS} (h1 : PS X st t) (h2 : PSs X rest u) : PSs X (st :: rest) (tCut t u) := pss_cut h1 h2
end L2
namespace L2
open PySem PySem.Spec PyProof.Rows PySem.Builtin PySem.Builtin.Str
section
variable {X : Cx}
end
end L2
namespace Bt
open PySem L2 Gx
def pb (n c : Nat) : List Nat := (List.range c).map λ i => if n / 2 ^ (c - 1 - i) % 2 = 1 then 49 else 48
theorem pb_len (n c : Nat) : (pb n c).length = c := by unfold pb; rw [List.length_map, List.length_range]
theorem pb_bit {n c x : Nat} (h : x ∈ pb n c) : x = 48 \/ x = 49 := by
 unfold pb at h
 obtain ⟨i, _, rfl⟩ := List.mem_map.mp h
 split
 . exact .inr rfl
 . exact .inl rfl
def nb (n : Nat) : List Nat := if n < 8 then 48 :: pb n 3 else 49 :: pb (n % 8) 3 ++ nb (n / 8)
termination_by n
decreasing_by omega
theorem nb_low {n : Nat} (h : n < 8) : nb n = 48 :: pb n 3 := by rw [nb, if_pos h]
theorem nb_high {n : Nat} (h : ¬ n < 8) : nb n = 49 :: pb (n % 8) 3 ++ nb (n / 8) := by rw [nb, if_neg h]
theorem nb_len : ∀ (k n : Nat), n < 8 ^ (k + 1) -> (nb n).length <= 4 * (k + 1)
 | 0, n, h => by
   rw [nb_low (by simpa using h), List.length_cons, pb_len]
   exact Nat.le_refl _
 | k + 1, n, h => by
   by_cases c : n < 8
   . rw [nb_low c, List.length_cons, pb_len]; omega
   . have h' : n / 8 < 8 ^ (k + 1) := by
       have : 8 ^ (k + 1 + 1) = 8 * 8 ^ (k + 1) := by rw [Nat.pow_succ]; omega
       omega
     have ih := nb_len k (n / 8) h'
     rw [nb_high c, List.length_append, List.length_cons, pb_len]
     omega
theorem shr_bit (n k : Nat) : Builtin.bitAnd ((n : Int) / 2 ^ ((k : Int)).toNat) 1 = ((n / 2 ^ k % 2 : Nat) : Int) := by
 rw [PyProof.Rows.bitAnd_m1, Int.toNat_natCast]
 have : (2 : Int) ^ k = ((2 ^ k : Nat) : Int) := by simp
 rw [this]
 omega
theorem and7 (n : Nat) : Builtin.bitAnd (n : Int) 7 = ((n % 8 : Nat) : Int) := by
 rw [PyProof.Rows.bitAnd_m3]
 omega
theorem one_tx (l : List Nat) : ("1" : Str) ++ tx l = tx (49 :: l) := tx_app [49] l
theorem zero_tx : ("0" : Str) = tx [48] := rfl
theorem flat_one (f : Nat -> Nat) : ∀ l : List Nat, (l.map λ i => [f i]).flatten = l.map f
 | [] => rfl
 | x :: l => by rw [List.map_cons, List.flatten_cons, flat_one f l]; rfl
theorem sum_one (f : Nat -> Nat) : ∀ l : List Nat, (((l.map λ i => [f i]).map tx).map (·.length)).sum = l.length
 | [] => rfl
 | x :: l => by rw [List.map_cons, List.map_cons, List.map_cons, List.sum_cons, sum_one f l, tx_len, List.length_cons]; simp; omega
end Bt
namespace K21
open PySem L2
end K21
namespace Rk2
open PySem L2 K21
variable {α : Type} {R R' : α -> V -> Prop}
end Rk2
namespace Rk2
open PySem L2 K21
end Rk2
namespace Rk2
open PySem L2 K21
end Rk2
namespace K12
open PySem L2
def step (acc : List Str) (s : Str) : List Str := if s ∈ acc then acc else acc ++ [s]
def onceL (ss : List Str) : List Str := ss.foldl step []
def strsOf (as : List V) : List Str := as.filterMap λ v => match v with | .str s => some s | _ => none
theorem strsOf_append (a b : List V) : strsOf (a ++ b) = strsOf a ++ strsOf b := List.filterMap_append ..
theorem strsOf_int (i : Int) : strsOf [.int i] = [] := rfl
theorem step_sub (acc : List Str) (s : Str) : ∀ x ∈ acc, x ∈ step acc s := λ x hx => by
 unfold step
 split
 . exact hx
 . exact List.mem_append_left _ hx
theorem step_has (acc : List Str) (s : Str) : s ∈ step acc s := by
 unfold step
 split
 . assumption
 . exact List.mem_append_right _ (by simp)
theorem fold_sub : ∀ (ss acc : List Str), ∀ x ∈ acc, x ∈ ss.foldl step acc
 | [], acc, x, hx => hx
 | s :: ss, acc, x, hx => fold_sub ss _ x (step_sub acc s x hx)
theorem fold_has : ∀ (ss acc : List Str), ∀ x ∈ ss, x ∈ ss.foldl step acc
 | s :: ss, acc, x, hx => by
   rcases List.mem_cons.mp hx with e | e
   . subst e
     exact fold_sub ss _ _ (step_has acc _)
   . exact fold_has ss _ x e
theorem fold_once : ∀ (B : List Str) (acc C : List Str), (B.foldl step C).foldl step acc = B.foldl step (C.foldl step acc)
 | [], acc, C => rfl
 | s :: B, acc, C => by
   rw [List.foldl_cons, fold_once B acc (step C s), List.foldl_cons]
   congr 1
   unfold step
   by_cases h : s ∈ C
   . rw [if_pos h]
     have h2 : s ∈ C.foldl step acc := fold_has C acc s h
     have h2' : s ∈ List.foldl (λ acc s => if s ∈ acc then acc else acc ++ [s]) acc C := h2
     rw [if_pos h2']
   . rw [if_neg h, List.foldl_append]
     rfl
theorem onceL_mid (A B C : List Str) : onceL (A ++ onceL B ++ C) = onceL (A ++ B ++ C) := by
 unfold onceL
 rw [List.foldl_append, List.foldl_append, List.foldl_append, List.foldl_append]
 have e := fold_once B (A.foldl step []) []
 rw [e]
 rfl
theorem step_len (acc : List Str) (s : Str) : (step acc s).length <= acc.length + 1 := by
 unfold step
 split
 . omega
 . simp
theorem onceL_len (ss : List Str) : (onceL ss).length <= ss.length := by
 have key : ∀ (ss acc : List Str), (ss.foldl step acc).length <= acc.length + ss.length := by
   intro ss
   induction ss with
   | nil => intro acc; simp
   | cons s ss ih =>
     intro acc
     have h1 := ih (step acc s)
     have h2 := step_len acc s
     rw [List.foldl_cons]
     simp only [List.length_cons]
     omega
 have := key ss []
 unfold onceL
 simpa using this
def tru (ss : List Str) : List (Key × V) := ss.map λ s => (Sum.inr s, V.bl true)
theorem tru_put (acc : List Str) (s : Str) : putK (tru acc) (Sum.inr s) (.bl true) = tru (step acc s) := by
 unfold putK step
 have e : ((tru acc).any λ kv => decide (kv.1 = (Sum.inr s : Key))) = decide (s ∈ acc) := by
   unfold tru
   rw [List.any_map]
   rw [Bool.eq_iff_iff, List.any_eq_true]
   simp only [Function.comp, decide_eq_true_eq]
   constructor
   . rintro ⟨x, hx, h⟩
     have : x = s := Sum.inr.inj h
     rw [<- this]
     exact hx
   . intro h
     exact ⟨s, h, rfl⟩
 rw [e]
 by_cases h : s ∈ acc
 . rw [decide_eq_true h, if_pos rfl, if_pos h]
   unfold tru
   rw [List.map_map]
   apply List.map_congr_left
   intro x _
   show (if (Sum.inr x : Key) = Sum.inr s then ((Sum.inr x : Key), V.bl true) else (Sum.inr x, V.bl true)) = _
   split <;> rfl
 . rw [decide_eq_false h, if_neg (by decide), if_neg h]
   unfold tru
   rw [List.map_append]
   rfl
theorem tru_fold : ∀ (ss acc : List Str), (tru ss).foldl (λ acc kv => putK acc kv.1 kv.2) (tru acc) = tru (ss.foldl step acc)
 | [], acc => rfl
 | s :: ss, acc => by
   show (tru ss).foldl _ (putK (tru acc) (Sum.inr s) (.bl true)) = _
   rw [tru_put]
   exact tru_fold ss (step acc s)
theorem tru_once (ss : List Str) : (tru ss).foldl (λ acc kv => putK acc kv.1 kv.2) [] = tru (onceL ss) := tru_fold ss []
theorem tru_keys (ss : List Str) : ((tru ss).map λ kv => kV kv.1) = ss.map V.str := by
 unfold tru
 rw [List.map_map]
 rfl
theorem sqT_lst {K : W.Frag} {H : Hp} {a q : Addr} {xs l l' : List V} (h : SqT K H a xs) (hq : H q = some (.lst l)) : SqT K (upd H q (.lst l')) a xs := by
 rcases h with (h | ⟨o, h⟩) | h
 . exact .inl (.inl (by rw [upd_ne (ne_of h hq (by intro z; cases z))]; exact h))
 . exact .inl (.inr ⟨o, by rw [upd_ne (ne_of h hq (by intro z; cases z))]; exact h⟩)
 . exact .inr h
def Nm (s : Str) : Prop := s.length <= 1000 /\ PyData.strOk s = true
end K12
namespace K12
open PySem L2 PySem.W PyProof.Rows
inductive RowS (K : W.Frag) (H : Hp) : List V -> Option Str -> List V -> Prop
 | copy (x : Str) (a : V) : RowS K H [.str "copy", .str x, a] (some x) [a]
 | op (x s : Str) (a b : V) : RowS K H [.str "op", .str x, .str s, a, b] (some x) [a, b]
 | new (x : Str) : RowS K H [.str "new", .str x] (some x) []
 | get (x : Str) (a : V) (f : Str) : RowS K H [.str "get", .str x, a, .str f] (some x) [a]
 | put (a : V) (f : Str) (b : V) : RowS K H [.str "put", a, .str f, b] none [a, b]
 | call (x f : Str) (p : Addr) (as : List V) : SqT K H p as -> RowS K H [.str "call", .str x, .str f, .ref p] (some x) as
 | out (a : V) : RowS K H [.str "out", a] none [a]
 | back (a : V) : RowS K H [.str "back", a] none [a]
 | ifs (a : V) : RowS K H [.str "if", a] none [a]
 | whl (a : V) : RowS K H [.str "while", a] none [a]
 | els : RowS K H [.str "else"] none []
 | fin : RowS K H [.str "end"] none []
theorem RowS.mono {K : W.Frag} {H H' : Hp} {xs : List V} {g : Option Str} {as : List V} (h : RowS K H xs g as) (e : Same H H') : RowS K H' xs g as := by
 cases h with
 | call x f p as hp => exact .call x f p as (e.tup hp)
 | copy x a => exact .copy x a
 | op x s a b => exact .op x s a b
 | new x => exact .new x
 | get x a f => exact .get x a f
 | put a f b => exact .put a f b
 | out a => exact .out a
 | back a => exact .back a
 | ifs a => exact .ifs a
 | whl a => exact .whl a
 | els => exact .els
 | fin => exact .fin
def tabl : List (Str × List V) := [("copy", [.int 2]), ("op", [.int 3, .int 4]), ("new", []), ("get", [.int 2]), ("put", [.int 1, .int 3]), ("out", [.int 1]), ("back", [.int 1]), ("if", [.int 1]), ("while", [.int 1]), ("else", []), ("end", [])]
def giving : List Str := ["copy", "op", "new", "get", "call"]
theorem row_places {K : W.Frag} {H : Hp} {xs : List V} {g : Option Str} {as : List V} (h : RowS K H xs g as) : ∃ kd : Str, atI xs 0 = some (.str kd) /\
   ((kd = "call" /\ ∃ p, atI xs 3 = some (.ref p) /\ SqT K H p as) \/ (kd ≠ "call" /\ ∃ pl : List Int, KTD.datumAt kd tabl = some (pl.map V.int) /\ pl.length = as.length /\ ∀ (i : Nat) (a : V), as[i]? = some a -> ∃ p, pl[i]? = some p /\ atI xs p = some a)) := by
 cases h with
 | call x f p as hp => exact ⟨"call", rfl, .inl ⟨rfl, p, rfl, hp⟩⟩
 | copy x a => exact ⟨"copy", rfl, .inr ⟨by decide +kernel, [2], by decide +kernel, rfl, λ i a' e => by match i, e with | 0, e => exact ⟨2, rfl, e⟩⟩⟩
 | op x s a b => exact ⟨"op", rfl, .inr ⟨by decide +kernel, [3, 4], by decide +kernel, rfl, λ i a' e => by match i, e with | 0, e => exact ⟨3, rfl, e⟩ | 1, e => exact ⟨4, rfl, e⟩⟩⟩
 | new x => exact ⟨"new", rfl, .inr ⟨by decide +kernel, [], by decide +kernel, rfl, λ i a' e => by simp at e⟩⟩
 | get x a f => exact ⟨"get", rfl, .inr ⟨by decide +kernel, [2], by decide +kernel, rfl, λ i a' e => by match i, e with | 0, e => exact ⟨2, rfl, e⟩⟩⟩
 | put a f b => exact ⟨"put", rfl, .inr ⟨by decide +kernel, [1, 3], by decide +kernel, rfl, λ i a' e => by match i, e with | 0, e => exact ⟨1, rfl, e⟩ | 1, e => exact ⟨3, rfl, e⟩⟩⟩
 | out a => exact ⟨"out", rfl, .inr ⟨by decide +kernel, [1], by decide +kernel, rfl, λ i a' e => by match i, e with | 0, e => exact ⟨1, rfl, e⟩⟩⟩
 | back a => exact ⟨"back", rfl, .inr ⟨by decide +kernel, [1], by decide +kernel, rfl, λ i a' e => by match i, e with | 0, e => exact ⟨1, rfl, e⟩⟩⟩
 | ifs a => exact ⟨"if", rfl, .inr ⟨by decide +kernel, [1], by decide +kernel, rfl, λ i a' e => by match i, e with | 0, e => exact ⟨1, rfl, e⟩⟩⟩
 | whl a => exact ⟨"while", rfl, .inr ⟨by decide +kernel, [1], by decide +kernel, rfl, λ i a' e => by match i, e with | 0, e => exact ⟨1, rfl, e⟩⟩⟩
 | els => exact ⟨"else", rfl, .inr ⟨by decide +kernel, [], by decide +kernel, rfl, λ i a' e => by simp at e⟩⟩
 | fin => exact ⟨"end", rfl, .inr ⟨by decide +kernel, [], by decide +kernel, rfl, λ i a' e => by simp at e⟩⟩
def xv : Option Str -> V
 | some x => .str x
 | none => .non
theorem row_gives {K : W.Frag} {H : Hp} {xs : List V} {g : Option Str} {as : List V} (h : RowS K H xs g as) : ∃ kd : Str, atI xs 0 = some (.str kd) /\
   ((∃ x, g = some x /\ inV (.str kd) (giving.map V.str) = true /\ atI xs 1 = some (.str x)) \/ (g = none /\ inV (.str kd) (giving.map V.str) = false)) := by
 cases h with
 | call x f p as hp => exact ⟨"call", rfl, .inl ⟨x, rfl, by decide +kernel, rfl⟩⟩
 | copy x a => exact ⟨"copy", rfl, .inl ⟨x, rfl, by decide +kernel, rfl⟩⟩
 | op x s a b => exact ⟨"op", rfl, .inl ⟨x, rfl, by decide +kernel, rfl⟩⟩
 | new x => exact ⟨"new", rfl, .inl ⟨x, rfl, by decide +kernel, rfl⟩⟩
 | get x a f => exact ⟨"get", rfl, .inl ⟨x, rfl, by decide +kernel, rfl⟩⟩
 | put a f b => exact ⟨"put", rfl, .inr ⟨rfl, by decide +kernel⟩⟩
 | out a => exact ⟨"out", rfl, .inr ⟨rfl, by decide +kernel⟩⟩
 | back a => exact ⟨"back", rfl, .inr ⟨rfl, by decide +kernel⟩⟩
 | ifs a => exact ⟨"if", rfl, .inr ⟨rfl, by decide +kernel⟩⟩
 | whl a => exact ⟨"while", rfl, .inr ⟨rfl, by decide +kernel⟩⟩
 | els => exact ⟨"else", rfl, .inr ⟨rfl, by decide +kernel⟩⟩
 | fin => exact ⟨"end", rfl, .inr ⟨rfl, by decide +kernel⟩⟩
theorem giving_flat : (giving.map V.str).all flatV = true := by decide +kernel
def Atom (v : V) : Prop := (∃ s, v = .str s /\ Nm s) \/ ∃ i, v = .int i
structure RowD where
 r : Addr
 e : Addr
 a : Addr
 gx : Option Str
 as : List V
structure RowAt (K : W.Frag) (H : Hp) (d : RowD) : Prop where
 row : ∃ xs, SqT K H d.r xs /\ RowS K H xs d.gx d.as
 ats : ∀ v ∈ d.as, Atom v
 len : d.as.length <= 10
 nm : ∀ x, d.gx = some x -> Nm x
theorem RowAt.mono {K : W.Frag} {H H' : Hp} {d : RowD} (h : RowAt K H d) (e : Same H H') : RowAt K H' d :=
 ⟨let ⟨xs, h1, h2⟩ := h.row; ⟨xs, e.tup h1, h2.mono e⟩, h.ats, h.len, h.nm⟩
structure FunAt (K : W.Frag) (H : Hp) (f : Addr) (ps : List Str) (ds : List RowD) : Prop where
 fn : ∃ n b p r, SqT K H f [n, b, .ref p, .ref r] /\ SqT K H p (ps.map V.str) /\ SqT K H r (ds.map λ d => V.ref d.r)
 rows : ∀ d ∈ ds, RowAt K H d
 pn : ∀ s ∈ ps, Nm s
 pl : ps.length <= 100
 dl : ds.length <= 100
theorem FunAt.mono {K : W.Frag} {H H' : Hp} {f : Addr} {ps : List Str} {ds : List RowD} (h : FunAt K H f ps ds) (e : Same H H') : FunAt K H' f ps ds :=
 ⟨let ⟨n, b, p, r, h1, h2, h3⟩ := h.fn; ⟨n, b, p, r, e.tup h1, e.tup h2, e.tup h3⟩, λ d hd => (h.rows d hd).mono e, h.pn, h.pl, h.dl⟩
def rowStrs (d : RowD) : List Str := d.gx.toList ++ strsOf d.as
def allOf (ps : List Str) (ds : List RowD) : List Str := ps ++ ds.flatMap rowStrs
theorem strsOf_len (as : List V) : (strsOf as).length <= as.length := List.length_filterMap_le _ _
end K12
namespace K13
open PySem L2
def isO (s : Str) : Bool := decide (s = "if") || decide (s = "while")
def isE (s : Str) : Bool := decide (s = "else") || decide (s = "end")
def push (st : List Nat) (i : Nat) (s : Str) : List Nat := if isO s = true then i :: st else if s = "end" then st.tail else st
def kd (ks : List Str) (i : Nat) : Str := ks.getD i ""
def stk (ks : List Str) : Nat -> List Nat
 | 0 => []
 | i + 1 => push (stk ks i) i (kd ks i)
theorem stk_succ (ks : List Str) (i : Nat) : stk ks (i + 1) = push (stk ks i) i (kd ks i) := rfl
theorem stk_lt (ks : List Str) : ∀ i, ∀ x ∈ stk ks i, x < i /\ isO (kd ks x) = true
 | 0, x, h => by cases h
 | i + 1, x, h => by
   rw [stk_succ] at h
   unfold push at h
   split at h
   . rcases List.mem_cons.mp h with e | e
     . subst e
       exact ⟨Nat.lt_succ_self _, by assumption⟩
     . have := stk_lt ks i x e
       exact ⟨by omega, this.2⟩
   . split at h
     . have := stk_lt ks i x (List.mem_of_mem_tail h)
       exact ⟨by omega, this.2⟩
     . have := stk_lt ks i x h
       exact ⟨by omega, this.2⟩
theorem isO_not_end {s : Str} (h : isO s = true) : ¬ s = "end" := by
 intro e
 subst e
 revert h
 decide +kernel
theorem isO_not_else {s : Str} (h : isO s = true) : ¬ s = "else" := by
 intro e
 subst e
 revert h
 decide +kernel
theorem end_not_O : isO ("end" : Str) = false := by decide +kernel
structure Wf (ks : List Str) : Prop where
 open_ : ∀ i, i < ks.length -> isE (kd ks i) = true -> stk ks i ≠ []
 els : ∀ i b r, i < ks.length -> kd ks i = "else" -> stk ks i = b :: r -> kd ks b = "if"
 shut : stk ks ks.length = []
 last : ∀ i, i + 1 = ks.length -> kd ks i = "back"
 pos : 0 < ks.length
def At (ks : List Str) (b j d : Nat) : Prop := ∃ pre, stk ks j = pre ++ b :: stk ks b /\ pre.length + 1 = d
theorem at_start {ks : List Str} {b : Nat} (h : isO (kd ks b) = true) : At ks b (b + 1) 1 := ⟨[], by rw [stk_succ]; unfold push; rw [if_pos h]; rfl, rfl⟩
theorem at_open {ks : List Str} {b j d : Nat} (h : At ks b j d) (ho : isO (kd ks j) = true) : At ks b (j + 1) (d + 1) := by
 obtain ⟨pre, e, l⟩ := h
 exact ⟨j :: pre, by rw [stk_succ]; unfold push; rw [if_pos ho, e]; rfl, by simp [l]⟩
theorem at_end {ks : List Str} {b j d : Nat} (h : At ks b j (d + 1)) (hd : 0 < d) (he : kd ks j = "end") : At ks b (j + 1) d := by
 obtain ⟨pre, e, l⟩ := h
 cases pre with
 | nil => simp at l; omega
 | cons p pre =>
   refine ⟨pre, ?_, by simpa using l⟩
   rw [stk_succ]
   unfold push
   rw [he, if_neg (by rw [end_not_O]; decide), if_pos rfl, e]
   rfl
theorem at_other {ks : List Str} {b j d : Nat} (h : At ks b j d) (ho : ¬ isO (kd ks j) = true) (he : ¬ kd ks j = "end") : At ks b (j + 1) d := by
 obtain ⟨pre, e, l⟩ := h
 exact ⟨pre, by rw [stk_succ]; unfold push; rw [if_neg ho, if_neg he, e], l⟩
theorem at_one {ks : List Str} {b j : Nat} (h : At ks b j 1) : stk ks j = b :: stk ks b := by
 obtain ⟨pre, e, l⟩ := h
 cases pre with
 | nil => exact e
 | cons p pre => simp at l
theorem at_lt {ks : List Str} (w : Wf ks) {b j d : Nat} (h : At ks b j d) (hj : j <= ks.length) : j < ks.length := by
 rcases Nat.lt_or_ge j ks.length with q | q
 . exact q
 . have e : j = ks.length := by omega
   subst e
   obtain ⟨pre, e, _⟩ := h
   rw [w.shut] at e
   simp at e
theorem at_pos {ks : List Str} {b j d : Nat} (h : At ks b j d) : 0 < d := by
 obtain ⟨pre, _, l⟩ := h
 omega
def Ends (ks : List Str) (b e : Nat) : Prop := b < e /\ e < ks.length /\ kd ks e = "end" /\ stk ks e = b :: stk ks b /\ ∀ j, b < j -> j <= e -> ∃ d, At ks b j d
theorem ends_from {ks : List Str} (w : Wf ks) {b : Nat} : ∀ (m j d : Nat), m = ks.length - j -> j <= ks.length -> b < j -> (∀ i, b < i -> i <= j -> ∃ d, At ks b i d) -> At ks b j d -> ∃ e, j <= e /\ Ends ks b e
 | 0, j, d, hm, hj, hb, hall, h => absurd (at_lt w h hj) (by omega)
 | m + 1, j, d, hm, hj, hb, hall, h => by
   have hlt := at_lt w h hj
   have go : ∀ d', At ks b (j + 1) d' -> ∃ e, j <= e /\ Ends ks b e := λ d' h' => by
     obtain ⟨e, he, q⟩ := ends_from w m (j + 1) d' (by omega) (by omega) (by omega) (λ i h1 h2 => by
       rcases Nat.lt_or_ge j i with z | z
       . have : i = j + 1 := by omega
         subst this
         exact ⟨d', h'⟩
       . exact hall i h1 z) h'
     exact ⟨e, by omega, q⟩
   by_cases ho : isO (kd ks j) = true
   . exact go _ (at_open h ho)
   by_cases he : kd ks j = "end"
   . have hp := at_pos h
     by_cases hd : d = 1
     . subst hd
       exact ⟨j, Nat.le_refl _, hb, hlt, he, at_one h, hall⟩
     . obtain ⟨d', rfl⟩ : ∃ d', d = d' + 1 := ⟨d - 1, by omega⟩
       exact go _ (at_end h (by omega) he)
   . exact go _ (at_other h ho he)
theorem ends_ex {ks : List Str} (w : Wf ks) {b : Nat} (hb : b < ks.length) (ho : isO (kd ks b) = true) : ∃ e, Ends ks b e := by
 obtain ⟨e, _, h⟩ := ends_from w (ks.length - (b + 1)) (b + 1) 1 rfl (by omega) (by omega) (λ i h1 h2 => by
   have : i = b + 1 := by omega
   subst this
   exact ⟨1, at_start ho⟩) (at_start ho)
 exact ⟨e, h⟩
def Hit (ks : List Str) (b k : Nat) : Prop := isE (kd ks k) = true /\ (stk ks k).head? = some b
theorem hit_lt {ks : List Str} {b k : Nat} (h : Hit ks b k) : b < k /\ isO (kd ks b) = true := stk_lt ks k b (List.mem_of_mem_head? h.2)
theorem hit_end {ks : List Str} {b e : Nat} (h : Ends ks b e) : Hit ks b e := by
 refine ⟨?_, ?_⟩
 . rw [h.2.2.1]; decide +kernel
 . rw [h.2.2.2.1]; rfl
theorem gone {ks : List Str} {b e : Nat} (h : Ends ks b e) : ∀ j, e < j -> b ∉ stk ks j
 | 0, hj, _ => by omega
 | j + 1, hj, hm => by
   rcases Nat.lt_or_ge e j with q | q
   . have ih := gone h j q
     rw [stk_succ] at hm
     unfold push at hm
     split at hm
     . rcases List.mem_cons.mp hm with z | z
       . have := h.1
         omega
       . exact ih z
     . split at hm
       . exact ih (List.mem_of_mem_tail hm)
       . exact ih hm
   . have e1 : j = e := by omega
     subst e1
     rw [stk_succ] at hm
     unfold push at hm
     rw [h.2.2.1, if_neg (by rw [end_not_O]; decide), if_pos rfl, h.2.2.2.1] at hm
     have := (stk_lt ks b b hm).1
     omega
theorem hit_le {ks : List Str} {b e k : Nat} (h : Ends ks b e) (hk : Hit ks b k) : k <= e := by
 rcases Nat.lt_or_ge e k with q | q
 . exact absurd (List.mem_of_mem_head? hk.2) (gone h k q)
 . exact q
def one (ks : List Str) (i : Nat) : List (Nat × Nat) := if isE (kd ks i) = true then (match stk ks i with | [] => [] | b :: _ => [(i, b)]) else []
def prs (ks : List Str) : Nat -> List (Nat × Nat)
 | 0 => []
 | i + 1 => prs ks i ++ one ks i
def lastOf (L : List (Nat × Nat)) (b : Nat) : Option Nat := L.foldl (λ acc p => if p.2 = b then some p.1 else acc) none
def firstOf (L : List (Nat × Nat)) (b : Nat) : Option Nat := L.foldl (λ acc p => if acc.isSome = true then acc else if p.2 = b then some p.1 else none) none
theorem one_cases (ks : List Str) (i : Nat) : (∃ b, one ks i = [(i, b)] /\ Hit ks b i) \/ (one ks i = [] /\ ∀ b, ¬ Hit ks b i) := by
 unfold one Hit
 by_cases h : isE (kd ks i) = true
 . rw [if_pos h]
   cases q : stk ks i with
   | nil => exact .inr ⟨rfl, λ b z => by simp at z⟩
   | cons b r => exact .inl ⟨b, rfl, h, rfl⟩
 . rw [if_neg h]
   exact .inr ⟨rfl, λ b z => h z.1⟩
theorem lastOf_snoc (L : List (Nat × Nat)) (p : Nat × Nat) (b : Nat) : lastOf (L ++ [p]) b = if p.2 = b then some p.1 else lastOf L b := by unfold lastOf; rw [List.foldl_append]; rfl
theorem firstOf_snoc (L : List (Nat × Nat)) (p : Nat × Nat) (b : Nat) : firstOf (L ++ [p]) b = if (firstOf L b).isSome = true then firstOf L b else if p.2 = b then some p.1 else none := by unfold firstOf; rw [List.foldl_append]; rfl
theorem hit_inj {ks : List Str} {b b' k : Nat} (h : Hit ks b k) (h' : Hit ks b' k) : b = b' := by
 have := h.2.symm.trans h'.2
 simpa using this
theorem last_spec (ks : List Str) (b : Nat) : ∀ i, (∀ m, lastOf (prs ks i) b = some m -> m < i /\ Hit ks b m /\ ∀ k, m < k -> k < i -> ¬ Hit ks b k) /\ (lastOf (prs ks i) b = none -> ∀ k, k < i -> ¬ Hit ks b k)
 | 0 => ⟨λ m h => (by cases h), λ _ k hk => (by omega)⟩
 | i + 1 => by
   obtain ⟨ih1, ih2⟩ := last_spec ks b i
   show (∀ m, lastOf (prs ks i ++ one ks i) b = some m -> _) /\ (lastOf (prs ks i ++ one ks i) b = none -> _)
   rcases one_cases ks i with ⟨b', e, hh⟩ | ⟨e, hn⟩
   . rw [e, lastOf_snoc]
     by_cases hb : b' = b
     . rw [if_pos hb]
       subst hb
       exact ⟨λ m h => by cases h; exact ⟨Nat.lt_succ_self _, hh, λ k h1 h2 => by omega⟩, λ h => by cases h⟩
     . rw [if_neg hb]
       refine ⟨λ m h => ?_, λ h k hk => ?_⟩
       . obtain ⟨h1, h2, h3⟩ := ih1 m h
         refine ⟨by omega, h2, λ k q1 q2 hk => ?_⟩
         rcases Nat.lt_or_ge k i with z | z
         . exact h3 k q1 z hk
         . have : k = i := by omega
           subst this
           exact hb (hit_inj hh hk)
       . intro hk'
         rcases Nat.lt_or_ge k i with z | z
         . exact ih2 h k z hk'
         . have : k = i := by omega
           subst this
           exact hb (hit_inj hh hk')
   . rw [e, List.append_nil]
     refine ⟨λ m h => ?_, λ h k hk hk' => ?_⟩
     . obtain ⟨h1, h2, h3⟩ := ih1 m h
       refine ⟨by omega, h2, λ k q1 q2 hk => ?_⟩
       rcases Nat.lt_or_ge k i with z | z
       . exact h3 k q1 z hk
       . have : k = i := by omega
         subst this
         exact hn b hk
     . rcases Nat.lt_or_ge k i with z | z
       . exact ih2 h k z hk'
       . have : k = i := by omega
         subst this
         exact hn b hk'
theorem first_spec (ks : List Str) (b : Nat) : ∀ i, (∀ m, firstOf (prs ks i) b = some m -> m < i /\ Hit ks b m /\ ∀ k, k < m -> ¬ Hit ks b k) /\ (firstOf (prs ks i) b = none -> ∀ k, k < i -> ¬ Hit ks b k)
 | 0 => ⟨λ m h => (by cases h), λ _ k hk => (by omega)⟩
 | i + 1 => by
   obtain ⟨ih1, ih2⟩ := first_spec ks b i
   show (∀ m, firstOf (prs ks i ++ one ks i) b = some m -> _) /\ (firstOf (prs ks i ++ one ks i) b = none -> _)
   rcases one_cases ks i with ⟨b', e, hh⟩ | ⟨e, hn⟩
   . rw [e, firstOf_snoc]
     cases hf : firstOf (prs ks i) b with
     | some m0 =>
       rw [if_pos (show (some m0).isSome = true from rfl)]
       obtain ⟨h1, h2, h3⟩ := ih1 m0 hf
       exact ⟨λ m h => by cases h; exact ⟨by omega, h2, h3⟩, λ h => by cases h⟩
     | none =>
       rw [if_neg (show ¬ (none : Option Nat).isSome = true by decide)]
       have hno := ih2 hf
       by_cases hb : b' = b
       . rw [if_pos hb]
         subst hb
         exact ⟨λ m h => by cases h; exact ⟨Nat.lt_succ_self _, hh, λ k hk => hno k hk⟩, λ h => by cases h⟩
       . rw [if_neg hb]
         refine ⟨λ m h => (by cases h), λ _ k hk hk' => ?_⟩
         rcases Nat.lt_or_ge k i with z | z
         . exact hno k z hk'
         . have : k = i := by omega
           subst this
           exact hb (hit_inj hh hk')
   . rw [e, List.append_nil]
     refine ⟨λ m h => ?_, λ h k hk hk' => ?_⟩
     . obtain ⟨h1, h2, h3⟩ := ih1 m h
       exact ⟨by omega, h2, h3⟩
     . rcases Nat.lt_or_ge k i with z | z
       . exact ih2 h k z hk'
       . have : k = i := by omega
         subst this
         exact hn b hk'
theorem last_end {ks : List Str} {b e : Nat} (h : Ends ks b e) : lastOf (prs ks ks.length) b = some e := by
 obtain ⟨h1, h2⟩ := last_spec ks b ks.length
 cases q : lastOf (prs ks ks.length) b with
 | none => exact absurd (hit_end h) (h2 q e h.2.1)
 | some m =>
   obtain ⟨q1, q2, q3⟩ := h1 m q
   have := hit_le h q2
   rcases Nat.lt_or_ge m e with z | z
   . exact absurd (hit_end h) (q3 e z h.2.1)
   . have : m = e := by omega
     rw [this]
def First (ks : List Str) (b f : Nat) : Prop := f < ks.length /\ Hit ks b f /\ ∀ k, k < f -> ¬ Hit ks b k
theorem first_uniq {ks : List Str} {b f f' : Nat} (h : First ks b f) (h' : First ks b f') : f = f' := by
 rcases Nat.lt_trichotomy f f' with z | z | z
 . exact absurd h.2.1 (h'.2.2 f z)
 . exact z
 . exact absurd h'.2.1 (h.2.2 f' z)
theorem first_of {ks : List Str} {b f : Nat} (h : First ks b f) : firstOf (prs ks ks.length) b = some f := by
 obtain ⟨h1, h2⟩ := first_spec ks b ks.length
 cases q : firstOf (prs ks ks.length) b with
 | none => exact absurd h.2.1 (h2 q f h.1)
 | some m =>
   obtain ⟨q1, q2, q3⟩ := h1 m q
   rw [first_uniq (⟨q1, q2, q3⟩ : First ks b m) h]
theorem first_none {ks : List Str} {b : Nat} (h : ¬ isO (kd ks b) = true) : firstOf (prs ks ks.length) b = none := by
 obtain ⟨h1, h2⟩ := first_spec ks b ks.length
 cases q : firstOf (prs ks ks.length) b with
 | none => rfl
 | some m => exact absurd (hit_lt (h1 m q).2.1).2 h
inductive Beh (ks : List Str) : Nat -> Nat -> Prop
 | els {k b e r : Nat} : kd ks (k + 1) = "else" -> (stk ks (k + 1)).head? = some b -> Ends ks b e -> Beh ks e r -> Beh ks k r
 | whl {k b : Nat} : kd ks (k + 1) = "end" -> (stk ks (k + 1)).head? = some b -> kd ks b = "while" -> Beh ks k b
 | fin {k b r : Nat} : kd ks (k + 1) = "end" -> (stk ks (k + 1)).head? = some b -> ¬ kd ks b = "while" -> Beh ks (k + 1) r -> Beh ks k r
 | oth {k : Nat} : ¬ kd ks (k + 1) = "else" -> ¬ kd ks (k + 1) = "end" -> Beh ks k (k + 1)
theorem els_fin : ¬ (("else" : Str) = "end") := by decide +kernel
theorem back_ne : ¬ (("back" : Str) = "else") /\ ¬ (("back" : Str) = "end") := by decide +kernel
theorem isO_not_E {s : Str} (h : isO s = true) : ¬ isE s = true := by
 unfold isE
 rw [decide_eq_false (isO_not_else h), decide_eq_false (isO_not_end h)]
 decide
theorem isE_or {s : Str} (h1 : ¬ s = "else") (h2 : ¬ s = "end") : ¬ isE s = true := by
 unfold isE
 rw [decide_eq_false h1, decide_eq_false h2]
 decide
inductive Due (ks : List Str) : Nat -> Option (List Nat) -> Prop
 | no {k : Nat} : isE (kd ks k) = true -> Due ks k none
 | back {k : Nat} : kd ks k = "back" -> Due ks k (some [])
 | two {k f r1 r2 : Nat} : isO (kd ks k) = true -> First ks k f -> Beh ks k r1 -> Beh ks f r2 -> Due ks k (some [r1, r2])
 | one {k r : Nat} : ¬ isE (kd ks k) = true -> ¬ kd ks k = "back" -> ¬ isO (kd ks k) = true -> Beh ks k r -> Due ks k (some [r])
theorem back_E : ¬ isE ("back" : Str) = true := by decide +kernel
theorem back_O : ¬ isO ("back" : Str) = true := by decide +kernel
theorem first_ex {ks : List Str} {b e : Nat} (h : Ends ks b e) : ∃ f, First ks b f := by
 obtain ⟨h1, h2⟩ := first_spec ks b ks.length
 cases q : firstOf (prs ks ks.length) b with
 | none => exact absurd (hit_end h) (h2 q e h.2.1)
 | some m =>
   obtain ⟨q1, q2, q3⟩ := h1 m q
   exact ⟨m, q1, q2, q3⟩
theorem not_last {ks : List Str} (w : Wf ks) {k : Nat} (hk : k < ks.length) (h : ¬ kd ks k = "back") : k + 1 < ks.length := by
 rcases Nat.lt_or_ge (k + 1) ks.length with z | z
 . exact z
 . exact absurd (w.last k (by omega)) h
theorem first_last {ks : List Str} (w : Wf ks) {b f : Nat} (h : First ks b f) : f + 1 < ks.length := by
 refine not_last w h.1 λ z => ?_
 have := h.2.1.1
 rw [z] at this
 exact back_E this
theorem kd_left {ks ys : List Str} {i : Nat} (h : i < ks.length) : kd (ks ++ ys) i = kd ks i := by
 unfold kd
 rw [List.getD_eq_getElem?_getD, List.getD_eq_getElem?_getD, List.getElem?_append_left h]
theorem kd_right (ks ys : List Str) (i : Nat) : kd (ks ++ ys) (ks.length + i) = kd ys i := by
 unfold kd
 rw [List.getD_eq_getElem?_getD, List.getD_eq_getElem?_getD, List.getElem?_append_right (Nat.le_add_right _ _), Nat.add_sub_cancel_left]
theorem kd_last (ks : List Str) (x : Str) : kd (ks ++ [x]) ks.length = x := by
 have := kd_right ks [x] 0
 rw [Nat.add_zero] at this
 rw [this]
 rfl
theorem stk_left (ks ys : List Str) : ∀ i, i <= ks.length -> stk (ks ++ ys) i = stk ks i
 | 0, _ => rfl
 | i + 1, h => by
   rw [stk_succ, stk_succ, stk_left ks ys i (by omega), kd_left (by omega)]
structure Good (ks os : List Str) : Prop where
 open_ : ∀ i, i < ks.length -> isE (kd ks i) = true -> stk ks i ≠ []
 els : ∀ i b r, i < ks.length -> kd ks i = "else" -> stk ks i = b :: r -> kd ks b = "if"
 len : (stk ks ks.length).length = os.length
 mt : ∀ (i b : Nat), (stk ks ks.length)[i]? = some b -> os[i]? = some "if" -> kd ks b = "if"
theorem good_nil : Good [] [] := ⟨λ i h => absurd h (Nat.not_lt_zero i), λ i _ _ h => absurd h (Nat.not_lt_zero i), rfl, λ i b h => by cases h⟩
theorem stk_snoc (ks : List Str) (x : Str) : stk (ks ++ [x]) (ks ++ [x]).length = push (stk ks ks.length) ks.length x := by
 rw [List.length_append]
 show stk (ks ++ [x]) (ks.length + 1) = _
 rw [stk_succ, stk_left _ _ _ (Nat.le_refl _), kd_last]
theorem Good.snoc {ks os os' : List Str} {x : Str} (g : Good ks os) (ho : isE x = true -> os ≠ []) (he : x = "else" -> ∃ r, os = ("if" : Str) :: r)
   (hl : (push (stk ks ks.length) ks.length x).length = os'.length) (hm : ∀ (i b : Nat), (push (stk ks ks.length) ks.length x)[i]? = some b -> os'[i]? = some "if" -> kd (ks ++ [x]) b = "if") : Good (ks ++ [x]) os' := by
 have hn : (ks ++ [x]).length = ks.length + 1 := by rw [List.length_append]; rfl
 refine ⟨λ i h hE => ?_, λ i b r h hE hs => ?_, by rw [stk_snoc]; exact hl, by rw [stk_snoc]; exact hm⟩
 . rw [stk_left _ _ _ (by omega)]
   rcases Nat.lt_or_ge i ks.length with z | z
   . rw [kd_left z] at hE
     exact g.open_ i z hE
   . have : i = ks.length := by omega
     subst this
     rw [kd_last] at hE
     intro e
     have := g.len
     rw [e] at this
     exact ho hE (List.length_eq_zero_iff.mp this.symm)
 . rw [stk_left _ _ _ (by omega)] at hs
   rcases Nat.lt_or_ge i ks.length with z | z
   . rw [kd_left z] at hE
     have hb := (stk_lt ks i b (by rw [hs]; exact List.mem_cons_self)).1
     rw [kd_left (by omega)]
     exact g.els i b r z hE hs
   . have : i = ks.length := by omega
     subst this
     rw [kd_last] at hE
     obtain ⟨r', e⟩ := he hE
     have hb := (stk_lt ks ks.length b (by rw [hs]; exact List.mem_cons_self)).1
     rw [kd_left hb]
     exact g.mt 0 b (by rw [hs]; rfl) (by rw [e]; rfl)
theorem Good.keep {ks os : List Str} (g : Good ks os) (x : Str) {i b : Nat} (h : (stk ks ks.length)[i]? = some b) (h' : os[i]? = some "if") : kd (ks ++ [x]) b = "if" := by
 have hb := (stk_lt ks ks.length b (List.mem_of_getElem? h)).1
 rw [kd_left hb]
 exact g.mt i b h h'
theorem Good.opn {ks os : List Str} {x : Str} (g : Good ks os) (ho : isO x = true) : Good (ks ++ [x]) (x :: os) := by
 have e : push (stk ks ks.length) ks.length x = ks.length :: stk ks ks.length := by unfold push; rw [if_pos ho]
 refine g.snoc (λ z => absurd z (isO_not_E ho)) (λ z => absurd z (isO_not_else ho)) (by rw [e, List.length_cons, List.length_cons, g.len]) ?_
 rw [e]
 intro i b h h'
 cases i with
 | zero =>
   have h1 : ks.length = b := by simpa using h
   have h2 : x = "if" := by simpa using h'
   rw [<- h1, kd_last]
   exact h2
 | succ i => exact g.keep x (by simpa using h) (by simpa using h')
theorem Good.plain {ks os : List Str} {x : Str} (g : Good ks os) (h1 : ¬ isO x = true) (h2 : ¬ isE x = true) (h3 : ¬ x = "end") : Good (ks ++ [x]) os := by
 have e : push (stk ks ks.length) ks.length x = stk ks ks.length := by unfold push; rw [if_neg h1, if_neg h3]
 refine g.snoc (λ z => absurd z h2) (λ z => absurd (by rw [z]; decide +kernel) h2) (by rw [e, g.len]) ?_
 rw [e]
 intro i b h h'
 exact g.keep x h h'
theorem Good.els' {ks r : List Str} (g : Good ks (("if" : Str) :: r)) : Good (ks ++ [("else" : Str)]) (("else" : Str) :: r) := by
 have e : push (stk ks ks.length) ks.length "else" = stk ks ks.length := by unfold push; rw [if_neg (by decide +kernel), if_neg els_fin]
 refine g.snoc (λ _ => List.cons_ne_nil _ _) (λ _ => ⟨r, rfl⟩) (by rw [e, g.len]; rfl) ?_
 rw [e]
 intro i b h h'
 cases i with
 | zero =>
   have : ("else" : Str) = "if" := by simpa using h'
   exact absurd this (by decide +kernel)
 | succ i => exact g.keep _ h (by simpa using h')
theorem Good.fin {ks r : List Str} {o : Str} (g : Good ks (o :: r)) : Good (ks ++ [("end" : Str)]) r := by
 have e : push (stk ks ks.length) ks.length "end" = (stk ks ks.length).tail := by unfold push; rw [if_neg (by decide +kernel), if_pos rfl]
 have l := g.len
 rw [List.length_cons] at l
 refine g.snoc (λ _ => List.cons_ne_nil _ _) (λ z => absurd z.symm els_fin) (by rw [e, List.length_tail]; omega) ?_
 rw [e]
 intro i b h h'
 rw [List.getElem?_tail] at h
 exact g.keep _ h (by simpa using h')
theorem Good.back {ks : List Str} (g : Good ks []) : Wf (ks ++ [("back" : Str)]) := by
 have hs : stk ks ks.length = [] := List.length_eq_zero_iff.mp g.len
 have g' := g.plain back_O back_E (by decide +kernel)
 refine ⟨g'.open_, g'.els, List.length_eq_zero_iff.mp g'.len, λ i h => ?_, by rw [List.length_append]; exact Nat.succ_pos _⟩
 have : i = ks.length := by rw [List.length_append] at h; simpa using h
 rw [this, kd_last]
end K13
namespace K12
open PySem L2
section
variable {P : Program} {w : World} {K : W.Frag} {mg : Str -> Option Value} {base : Heap}
def Gives (H : Hp) (Q : VK) (vs : List V) : Prop := ∀ l H', Same H H' -> H l = none -> H' l = some (.lst vs) -> Q (.ref l) H'
def sp_gives (K : W.Frag) : Sp := λ vs H Q _ => ∃ (r : Addr) (xs : List V) (g : Option Str) (as : List V), vs = [.ref r] /\ SqT K H r xs /\ RowS K H xs g as /\ Q (xv g) H
def sp_atoms_of (K : W.Frag) : Sp := λ vs H Q _ => ∃ (r : Addr) (xs : List V) (g : Option Str) (as : List V), vs = [.ref r] /\ SqT K H r xs /\ RowS K H xs g as /\ as.length <= 10 /\ Gives H Q as
def sp_each_once (K : W.Frag) : Sp := λ vs H Q _ => ∃ (p : Addr) (ss : List Str), vs = [.ref p] /\ SqL K H p (ss.map V.str) /\ ss.length <= 5000 /\ Gives H Q ((onceL ss).map V.str)
def sp_reads (K : W.Frag) : Sp := λ vs H Q _ => ∃ (r : Addr) (xs : List V) (g : Option Str) (as : List V), vs = [.ref r] /\ SqT K H r xs /\ RowS K H xs g as /\ as.length <= 10 /\ (∀ v ∈ as, Atom v) /\ Gives H Q ((onceL (strsOf as)).map V.str)
def sp_names_of (K : W.Frag) : Sp := λ vs H Q _ => ∃ (f : Addr) (ps : List Str) (ds : List RowD), vs = [.ref f] /\ FunAt K H f ps ds /\ Gives H Q ((onceL (allOf ps ds)).map V.str)
theorem lt_line {n : Nat} (h : n < 1000000) : n <= sizeLine := by
 have : (1000000 : Nat) < sizeLine := by decide
 omega
theorem lt_line' {n : Nat} (h : n < 1000000) : n < sizeLine := by
 have : (1000000 : Nat) < sizeLine := by decide
 omega
theorem once_row {fs P G B : List Str} (h : onceL fs = onceL P) : onceL (fs ++ G ++ onceL B) = onceL (P ++ (G ++ B)) := by
 have e := onceL_mid (fs ++ G) B []
 rw [List.append_nil, List.append_nil] at e
 rw [e, List.append_assoc]
 unfold onceL at h ⊢
 rw [List.foldl_append, h, <- List.foldl_append]
def lets : Str := "abcdefghijklmnopqrstuvwxyz"
theorem lets_ok : PyData.strOk lets = true := by decide +kernel
end
end K12
namespace K13
open PySem L2
structure RowsAt (K : W.Frag) (H : Hp) (a : Addr) (ks : List Str) : Prop where
 ex : ∃ rs : List Addr, SqT K H a (rs.map V.ref) /\ rs.length = ks.length /\ ∀ i r, rs[i]? = some r -> ∃ rest, SqT K H r (V.str (kd ks i) :: rest)
theorem RowsAt.mono {K : W.Frag} {H H' : Hp} {a : Addr} {ks : List Str} (h : RowsAt K H a ks) (e : Same H H') : RowsAt K H' a ks :=
 ⟨let ⟨rs, h1, h2, h3⟩ := h.ex; ⟨rs, e.tup h1, h2, λ i r q => let ⟨rest, z⟩ := h3 i r q; ⟨rest, e.tup z⟩⟩⟩
theorem at0 {x : V} {r : List V} : atI (x :: r) 0 = some x := by
 unfold atI ixN
 rw [if_pos (by decide), if_pos (by simp)]
 rfl
theorem ixk {K : W.Frag} {H : Hp} {Q : VK} {a : Addr} {ks : List Str} {i : Int} (h : RowsAt K H a ks) (h0 : 0 <= i) (h1 : i < ks.length) (q : Q (.str (kd ks i.toNat)) H) : rIxT K (.ref a) (.int i) H λ x H1 => rIxT K x (.int 0) H1 Q := by
 obtain ⟨rs, e1, e2, e3⟩ := h.ex
 have hi : i.toNat < rs.length := by omega
 obtain ⟨rest, hr⟩ := e3 i.toNat rs[i.toNat] (by simp [hi])
 refine ⟨a, _, i, .ref rs[i.toNat], rfl, rfl, e1, ?_, rs[i.toNat], _, 0, _, rfl, rfl, hr, at0, q⟩
 have e : atI (rs.map V.ref) i = some (V.ref rs[i.toNat]) := by
   unfold atI ixN
   rw [if_pos h0, if_pos (by rw [List.length_map]; omega), Option.bind_some, List.getElem?_map]
   simp [hi]
 exact e
def bgOf (L : List (Nat × Nat)) : List (Key × V) := L.map λ p => (Sum.inl (p.1 : Int), V.int (p.2 : Int))
def bg (ks : List Str) (i : Nat) : List (Key × V) := bgOf (prs ks i)
theorem prs_lt (ks : List Str) : ∀ i, ∀ p ∈ prs ks i, p.1 < i
 | 0, p, h => by cases h
 | i + 1, p, h => by
   rcases List.mem_append.mp h with h | h
   . have := prs_lt ks i p h
     omega
   . rcases one_cases ks i with ⟨b, e, _⟩ | ⟨e, _⟩
     . rw [e] at h
       have : p = (i, b) := by simpa using h
       rw [this]
       exact Nat.lt_succ_self _
     . rw [e] at h
       cases h
theorem bg_new (ks : List Str) (i : Nat) : valV (bg ks i) (Sum.inl (i : Int) : Key) = none := by
 have h := valV_any (Sum.inl (i : Int) : Key) (bg ks i)
 cases q : valV (bg ks i) (Sum.inl (i : Int) : Key) with
 | none => rfl
 | some v =>
   rw [q] at h
   obtain ⟨kv, hm, e⟩ := List.any_eq_true.mp h
   obtain ⟨p, hp, rfl⟩ := List.mem_map.mp hm
   have e := of_decide_eq_true e
   have : (p.1 : Int) = (i : Int) := Sum.inl.inj e
   have := prs_lt ks i p hp
   omega
theorem bg_put {ks : List Str} {i b : Nat} (h : Hit ks b i) : putK (bg ks i) (Sum.inl (i : Int) : Key) (V.int (b : Int)) = bg ks (i + 1) := by
 rw [putK_new _ (bg_new ks i)]
 rcases one_cases ks i with ⟨b', e, h'⟩ | ⟨e, h'⟩
 . show bgOf (prs ks i) ++ _ = bgOf (prs ks i ++ one ks i)
   rw [e, hit_inj h h']
   unfold bgOf
   rw [List.map_append]
   rfl
 . exact absurd h (h' b)
theorem bg_same {ks : List Str} {i : Nat} (h : ¬ isE (kd ks i) = true) : bg ks (i + 1) = bg ks i := by
 rcases one_cases ks i with ⟨b', e, h'⟩ | ⟨e, h'⟩
 . exact absurd h'.1 h
 . show bgOf (prs ks i ++ one ks i) = _
   rw [e, List.append_nil]
   rfl
theorem prs_len (ks : List Str) : ∀ i, (prs ks i).length <= i
 | 0 => Nat.le_refl _
 | i + 1 => by
   have := prs_len ks i
   show (prs ks i ++ one ks i).length <= i + 1
   rw [List.length_append]
   rcases one_cases ks i with ⟨b', e, h'⟩ | ⟨e, h'⟩ <;> rw [e] <;> simp <;> omega
theorem bg_len (ks : List Str) (i : Nat) : (bg ks i).length <= i := by unfold bg bgOf; rw [List.length_map]; exact prs_len ks i
def stkV (ks : List Str) (i : Nat) : List V := (stk ks i).reverse.map λ (n : Nat) => V.int (n : Int)
theorem stkV_len (ks : List Str) : ∀ i, (stkV ks i).length <= i := by
 intro i
 unfold stkV
 rw [List.length_map, List.length_reverse]
 induction i with
 | zero => exact Nat.le_refl _
 | succ i ih =>
   rw [stk_succ]
   unfold push
   split
   . simp; omega
   . split
     . simp; omega
     . omega
theorem inO (s : Str) : inV (.str s) [V.str "if", V.str "while"] = isO s := by
 show ((("if" : Str) == s) || ((("while" : Str) == s) || false)) = isO s
 unfold isO
 rw [Bool.or_false]
 congr 1 <;> (rw [Bool.eq_iff_iff, beq_iff_eq, decide_eq_true_eq]; exact eq_comm)
theorem inE (s : Str) : inV (.str s) [V.str "else", V.str "end"] = isE s := by
 show ((("else" : Str) == s) || ((("end" : Str) == s) || false)) = isE s
 unfold isE
 rw [Bool.or_false]
 congr 1 <;> (rw [Bool.eq_iff_iff, beq_iff_eq, decide_eq_true_eq]; exact eq_comm)
theorem le0 : 0 <= sizeLine := by decide
theorem le1 : 1 <= sizeLine := by decide
theorem le2 : 2 <= sizeLine := by decide
theorem lt_line' {n : Nat} (h : n < 1000000) : n < sizeLine := by
 have : (1000000 : Nat) < sizeLine := by decide
 omega
theorem stkV_top {ks : List Str} {i b : Nat} {r : List Nat} (h : stk ks i = b :: r) : atI (stkV ks i) (-1) = some (.int (b : Int)) /\ (stkV ks i)[(stkV ks i).length - 1]? = some (.int (b : Int)) /\ (stkV ks i).dropLast = r.reverse.map λ (n : Nat) => V.int (n : Int) := by
 have e : stkV ks i = (r.reverse.map λ (n : Nat) => V.int (n : Int)) ++ [V.int (b : Int)] := by
   unfold stkV
   rw [h, List.reverse_cons, List.map_append]
   rfl
 rw [e]
 refine ⟨?_, by simp, by simp⟩
 unfold atI ixN
 rw [if_neg (by decide), if_pos (by simp; omega), Option.bind_some]
 have : ((-1 : Int) + (((r.reverse.map λ (n : Nat) => V.int (n : Int)) ++ [V.int (b : Int)]).length : Int)).toNat = (r.reverse.map λ (n : Nat) => V.int (n : Int)).length := by
   rw [List.length_append]
   simp
   omega
 rw [this]
 simp
theorem sqT_frz {K : W.Frag} {H : Hp} {a q : Addr} {xs : List V} {kvs : List (Key × V)} {o : HO} (h : SqT K H a xs) (hq : H q = some (.dK kvs)) : SqT K (upd H q o) a xs := by
 rcases h with (h | ⟨o, h⟩) | h
 . exact .inl (.inl (by rw [upd_ne (ne_of h hq (by intro z; cases z))]; exact h))
 . exact .inl (.inr ⟨o, by rw [upd_ne (ne_of h hq (by intro z; cases z))]; exact h⟩)
 . exact .inr h
theorem RowsAt.frz {K : W.Frag} {H : Hp} {a q : Addr} {ks : List Str} {kvs : List (Key × V)} {o : HO} (h : RowsAt K H a ks) (hq : H q = some (.dK kvs)) : RowsAt K (upd H q o) a ks :=
 ⟨let ⟨rs, h1, h2, h3⟩ := h.ex; ⟨rs, sqT_frz h1 hq, h2, λ i r z => let ⟨rest, y⟩ := h3 i r z; ⟨rest, sqT_frz y hq⟩⟩⟩
def BehL (H : Hp) (l : Addr) (ks : List Str) : Prop := ∃ bs, H l = some (.lst bs) /\ bs.length = ks.length /\ ∀ k, k + 1 < ks.length -> ∃ r : Nat, Beh ks k r /\ bs[k]? = some (.int (r : Int))
def nones (n : Nat) : List V := (List.replicate n [V.non]).flatten
theorem nones_len (n : Nat) : (nones n).length = n := by unfold nones; rw [len_rep]; simp
theorem bg_at {ks : List Str} {b k : Nat} (n : Nat) (hk : k < n) (h : Hit ks b k) : valV (bg ks n) (Sum.inl (k : Int) : Key) = some (.int (b : Int)) := by
 induction n with
 | zero => omega
 | succ n ih =>
   rcases Nat.lt_or_ge k n with z | z
   . rcases one_cases ks n with ⟨b', e, h'⟩ | ⟨e, h'⟩
     . rw [<- bg_put h', valV_put, if_neg (λ z' => by have : (k : Int) = (n : Int) := Sum.inl.inj z'; omega)]
       exact ih z
     . have : bg ks (n + 1) = bg ks n := by
         show bgOf (prs ks n ++ one ks n) = _
         rw [e, List.append_nil]
         rfl
       rw [this]
       exact ih z
   . have : k = n := by omega
     subst this
     rw [<- bg_put h, valV_put, if_pos rfl]
theorem prs_at {ks : List Str} {n i : Nat} {kv : Key × V} (h : (bg ks n)[i]? = some kv) : ∃ p : Nat × Nat, (prs ks n)[i]? = some p /\ kv = (Sum.inl (p.1 : Int), V.int (p.2 : Int)) := by
 unfold bg bgOf at h
 rw [List.getElem?_map] at h
 cases q : (prs ks n)[i]? with
 | none => rw [q] at h; cases h
 | some p => rw [q] at h; exact ⟨p, rfl, by simpa using h.symm⟩
def natsV (l : List Nat) : List V := l.map λ (n : Nat) => V.int (n : Int)
def ValO (H : Hp) (v : V) : Option (List Nat) -> Prop
 | none => v = .non
 | some l => ∃ p, v = .ref p /\ H p = some (.tup (natsV l))
theorem ValO.mono {H H' : Hp} {v : V} {o : Option (List Nat)} (h : ValO H v o) (e : Same H H') : ValO H' v o := by
 cases o with
 | none => exact h
 | some l => obtain ⟨p, h1, h2⟩ := h; exact ⟨p, h1, e _ _ h2⟩
theorem ValO.lst {H : Hp} {q : Addr} {l l' : List V} {v : V} {o : Option (List Nat)} (h : ValO H v o) (hq : H q = some (.lst l)) : ValO (upd H q (.lst l')) v o := by
 cases o with
 | none => exact h
 | some l => obtain ⟨p, h1, h2⟩ := h; exact ⟨p, h1, by rw [upd_ne (ne_of h2 hq (by intro z; cases z))]; exact h2⟩
def FoundN (H : Hp) (l : Addr) (ks : List Str) (i : Nat) : Prop := ∃ vs : List V, H l = some (.lst vs) /\ vs.length = i /\ ∀ k v, vs[k]? = some v -> ∃ o, Due ks k o /\ ValO H v o
theorem FoundN.mono {H H' : Hp} {l : Addr} {ks : List Str} {i : Nat} (h : FoundN H l ks i) (e : Same H H') : FoundN H' l ks i :=
 let ⟨vs, h1, h2, h3⟩ := h; ⟨vs, e _ _ h1, h2, λ k v q => let ⟨o, d, z⟩ := h3 k v q; ⟨o, d, z.mono e⟩⟩
theorem FoundN.push {H : Hp} {l : Addr} {ks : List Str} {i : Nat} {vs : List V} {v : V} {o : Option (List Nat)} (h1 : H l = some (.lst vs)) (h2 : vs.length = i) (h3 : ∀ k v, vs[k]? = some v -> ∃ o, Due ks k o /\ ValO H v o) (hd : Due ks i o) (hv : ValO H v o) : FoundN (upd H l (.lst (vs ++ [v]))) l ks (i + 1) := by
 refine ⟨_, upd_same, by rw [List.length_append, h2]; rfl, λ k v' q => ?_⟩
 rcases Nat.lt_or_ge k vs.length with z | z
 . rw [List.getElem?_append_left z] at q
   obtain ⟨o', d, y⟩ := h3 k v' q
   exact ⟨o', d, y.lst h1⟩
 . rw [List.getElem?_append_right z] at q
   have hk : k - vs.length = 0 := by
     rcases Nat.eq_zero_or_pos (k - vs.length) with y | y
     . exact y
     . rw [List.getElem?_eq_none (by simp; omega)] at q
       cases q
   rw [hk] at q
   have hv' : v = v' := by simpa using q
   subst hv'
   have : k = i := by omega
   subst this
   exact ⟨o, hd, hv.lst h1⟩
section
variable {P : Program} {w : World} {K : W.Frag} {mg : Str -> Option Value} {base : Heap}
def sp_begins_of (K : W.Frag) : Sp := λ vs H Q _ => ∃ (a : Addr) (ks : List Str), vs = [.ref a] /\ RowsAt K H a ks /\ Wf ks /\ ks.length <= 1000 /\ ∀ d H', Same H H' -> H d = none -> H' d = some (.dK (bg ks ks.length)) -> Q (.ref d) H'
def sp_firsts_behind (K : W.Frag) : Sp := λ vs H Q _ => ∃ (a d : Addr) (ks : List Str), vs = [.ref a, .ref d] /\ RowsAt K H a ks /\ Wf ks /\ ks.length <= 1000 /\ H d = some (.dK (bg ks ks.length)) /\ ∀ l o H', Same (upd H d (.frz o (.dK (bg ks ks.length)))) H' -> H l = none -> BehL H' l ks -> Q (.ref l) H'
def sp_ways (K : W.Frag) : Sp := λ vs H Q _ => ∃ (a : Addr) (ks : List Str), vs = [.ref a] /\ RowsAt K H a ks /\ Wf ks /\ ks.length <= 1000 /\ ∀ l H', Same H H' -> H l = none -> FoundN H' l ks ks.length -> Q (.ref l) H'
theorem lt_line {n : Nat} (h : n < 1000000) : n <= sizeLine := by
 have : (1000000 : Nat) < sizeLine := by decide
 omega
theorem sqT_lst {K : W.Frag} {H : Hp} {a q : Addr} {xs l : List V} {o : HO} (h : SqT K H a xs) (hq : H q = some (.lst l)) : SqT K (upd H q o) a xs := by
 rcases h with (h | ⟨o, h⟩) | h
 . exact .inl (.inl (by rw [upd_ne (ne_of h hq (by intro z; cases z))]; exact h))
 . exact .inl (.inr ⟨o, by rw [upd_ne (ne_of h hq (by intro z; cases z))]; exact h⟩)
 . exact .inr h
end
end K13
namespace Fl
open PySem L2 Gx
structure Rw where
 r : Addr
 k : Str
 c : Str
structure Fd where
 name : Str
 fa : Addr
 ra : Addr
 rs : List Rw
def RowK (K : W.Frag) (H : Hp) (w : Rw) : Prop := ∃ rest, SqT K H w.r (V.str w.k :: rest) /\ (w.k = "call" -> ∃ x y, rest = [x, .str w.c, y])
theorem RowK.mono {K : W.Frag} {H H' : Hp} {w : Rw} (e : Same H H') (h : RowK K H w) : RowK K H' w := let ⟨rest, h1, h2⟩ := h; ⟨rest, e.tup h1, h2⟩
structure FnAt (K : W.Frag) (H : Hp) (f : Fd) : Prop where
 fn : ∃ fo pa, SqT K H f.fa [.str f.name, fo, .ref pa, .ref f.ra]
 rw_ : SqT K H f.ra (f.rs.map λ w => V.ref w.r)
 rk : ∀ w ∈ f.rs, RowK K H w
 fu : ∃ ps ds, K12.FunAt K H f.fa ps ds
 wf : K13.Wf (f.rs.map (·.k))
 len : f.rs.length <= 100
theorem FnAt.mono {K : W.Frag} {H H' : Hp} {f : Fd} (e : Same H H') (h : FnAt K H f) : FnAt K H' f :=
 ⟨let ⟨a, b, z⟩ := h.fn; ⟨a, b, e.tup z⟩, e.tup h.rw_, λ w hw => (h.rk w hw).mono e, let ⟨a, b, z⟩ := h.fu; ⟨a, b, z.mono e⟩, h.wf, h.len⟩
theorem FnAt.rows {K : W.Frag} {H : Hp} {f : Fd} (h : FnAt K H f) : K13.RowsAt K H f.ra (f.rs.map (·.k)) := by
 refine ⟨f.rs.map (·.r), by rw [List.map_map]; exact h.rw_, by rw [List.length_map, List.length_map], λ i r hr => ?_⟩
 rw [List.getElem?_map] at hr
 cases e : f.rs[i]? with
 | none => rw [e] at hr; cases hr
 | some w =>
   rw [e] at hr
   cases hr
   obtain ⟨rest, h1, _⟩ := h.rk w (List.mem_of_getElem? e)
   refine ⟨rest, ?_⟩
   have : K13.kd (f.rs.map (·.k)) i = w.k := by
     unfold K13.kd
     rw [List.getD_eq_getElem?_getD, List.getElem?_map, e]
     rfl
   rw [this]
   exact h1
structure FS (C : Addr) (H : Hp) (x dx : Addr) (fs : List (Str × V)) (d : Nat -> Addr) (kv : Nat -> List (Key × V)) : Prop where
 ob : H x = some (.ins C dx fs)
 dc : ∀ j, j < 6 -> H (d j) = some (.dK (kv j))
theorem FS.mono {C : Addr} {H H' : Hp} {x dx : Addr} {fs : List (Str × V)} {d : Nat -> Addr} {kv : Nat -> List (Key × V)} (e : Same H H') (h : FS C H x dx fs d kv) : FS C H' x dx fs d kv := ⟨e _ _ h.ob, λ j hj => e _ _ (h.dc j hj)⟩
theorem FS.put {C : Addr} {H : Hp} {x dx : Addr} {fs : List (Str × V)} {d : Nat -> Addr} {kv : Nat -> List (Key × V)} (h : FS C H x dx fs d kv) (inj : ∀ i j, i < 6 -> j < 6 -> d i = d j -> i = j) (j : Nat) (hj : j < 6) (k' : List (Key × V)) : FS C (upd H (d j) (.dK k')) x dx fs d (λ i => if i = j then k' else kv i) := by
 refine ⟨?_, λ i hi => ?_⟩
 . rw [upd_ne (ne_of h.ob (h.dc j hj) (by intro z; cases z))]; exact h.ob
 . by_cases e : i = j
   . subst e
     rw [upd_same, if_pos rfl]
   . rw [upd_ne (λ z => e (inj i j hi hj z)), if_neg e]
     exact h.dc i hi
def flds (v : V) (d : Nat -> Addr) : List (Str × V) := putF "ways_in" (.ref (d 5)) (putF "names_in" (.ref (d 4)) (putF "rows_of" (.ref (d 3)) (putF "params_of" (.ref (d 2)) (putF "folded_of" (.ref (d 1)) (putF "number_of" (.ref (d 0)) (putF "last" v []))))))
theorem lk_number (v : V) (d : Nat -> Addr) : (flds v d).lookup ("number_of" : Str) = some (.ref (d 0)) := by
 unfold flds
 rw [lookup_putF, if_neg (by decide +kernel), lookup_putF, if_neg (by decide +kernel), lookup_putF, if_neg (by decide +kernel), lookup_putF, if_neg (by decide +kernel), lookup_putF, if_neg (by decide +kernel), lookup_putF, if_pos rfl]
theorem lk_folded (v : V) (d : Nat -> Addr) : (flds v d).lookup ("folded_of" : Str) = some (.ref (d 1)) := by
 unfold flds
 rw [lookup_putF, if_neg (by decide +kernel), lookup_putF, if_neg (by decide +kernel), lookup_putF, if_neg (by decide +kernel), lookup_putF, if_neg (by decide +kernel), lookup_putF, if_pos rfl]
theorem lk_params (v : V) (d : Nat -> Addr) : (flds v d).lookup ("params_of" : Str) = some (.ref (d 2)) := by
 unfold flds
 rw [lookup_putF, if_neg (by decide +kernel), lookup_putF, if_neg (by decide +kernel), lookup_putF, if_neg (by decide +kernel), lookup_putF, if_pos rfl]
theorem lk_rows (v : V) (d : Nat -> Addr) : (flds v d).lookup ("rows_of" : Str) = some (.ref (d 3)) := by
 unfold flds
 rw [lookup_putF, if_neg (by decide +kernel), lookup_putF, if_neg (by decide +kernel), lookup_putF, if_pos rfl]
theorem lk_names (v : V) (d : Nat -> Addr) : (flds v d).lookup ("names_in" : Str) = some (.ref (d 4)) := by
 unfold flds
 rw [lookup_putF, if_neg (by decide +kernel), lookup_putF, if_pos rfl]
theorem lk_ways (v : V) (d : Nat -> Addr) : (flds v d).lookup ("ways_in" : Str) = some (.ref (d 5)) := by
 unfold flds
 rw [lookup_putF, if_pos rfl]
def dd (d0 d1 d2 d3 d4 d5 : Addr) : Nat -> Addr
 | 0 => d0
 | 1 => d1
 | 2 => d2
 | 3 => d3
 | 4 => d4
 | _ => d5
theorem new_ne {H : Hp} {a b : Addr} {o : HO} (h : upd H a o b = none) : b ≠ a /\ H b = none := by
 have hn : b ≠ a := λ z => by rw [z, upd_same] at h; cases h
 rw [upd_ne hn] at h
 exact ⟨hn, h⟩
theorem upd_at {H : Hp} {a b : Addr} {o o' : HO} (h : H b = some o) (hn : b ≠ a) : upd H a o' b = some o := by rw [upd_ne hn]; exact h
theorem fld_len (f : Str) (v : V) (l : List (Str × V)) (k : Nat) (h : l.length <= k) : (putF f v l).length <= k + 1 := Nat.le_trans (length_putF f v l) (by omega)
end Fl
namespace L2
open PySem
def hl (H : Hp) : Hp := λ b => match H b with
 | some (.lst xs) => some (.lst xs)
 | some (.tup xs) => some (.tup xs)
 | _ => none
theorem hl_same {H : Hp} : Same (hl H) H := λ b o h => by
 unfold hl at h
 split at h
 . rename_i e; rw [e]; exact h
 . rename_i e; rw [e]; exact h
 . cases h
theorem hl_lst {H : Hp} {b : Addr} {xs : List V} (h : H b = some (.lst xs)) : hl H b = some (.lst xs) := by unfold hl; rw [h]
theorem hl_tup {H : Hp} {b : Addr} {xs : List V} (h : H b = some (.tup xs)) : hl H b = some (.tup xs) := by unfold hl; rw [h]
theorem Same.hl {H H' : Hp} (e : Same H H') : Same (hl H) (hl H') := λ b o h => by
 have h1 := hl_same _ _ h
 have h2 := e _ _ h1
 unfold L2.hl at h ⊢
 rw [h1] at h
 rw [h2]
 exact h
theorem hl_upd {H : Hp} {a : Addr} {o : HO} (h : ∀ xs, H a ≠ some (.lst xs) /\ H a ≠ some (.tup xs)) (ho : ∀ xs, o ≠ .lst xs /\ o ≠ .tup xs) : hl (upd H a o) = hl H := by
 funext b
 unfold hl upd
 by_cases hb : b = a
 . subst hb
   rw [if_pos rfl]
   cases o with
   | lst xs => exact absurd rfl (ho xs).1
   | tup xs => exact absurd rfl (ho xs).2
   | _ =>
     cases e : H b with
     | none => rfl
     | some u => cases u with
       | lst xs => exact absurd e (h xs).1
       | tup xs => exact absurd e (h xs).2
       | _ => rfl
 . rw [if_neg hb]
theorem hl_dK {H : Hp} {a : Addr} {kvs kvs' : List (Key × V)} (h : H a = some (.dK kvs)) : hl (upd H a (.dK kvs')) = hl H :=
 hl_upd (λ xs => ⟨(by rw [h]; intro z; cases z), (by rw [h]; intro z; cases z)⟩) λ xs => ⟨(by intro z; cases z), (by intro z; cases z)⟩
end L2
namespace K13
open PySem L2
theorem FoundN.hl {H : Hp} {l : Addr} {ks : List Str} {i : Nat} (h : FoundN H l ks i) : FoundN (L2.hl H) l ks i := by
 obtain ⟨vs, h1, h2, h3⟩ := h
 refine ⟨vs, hl_lst h1, h2, λ k v q => ?_⟩
 obtain ⟨o, d, z⟩ := h3 k v q
 refine ⟨o, d, ?_⟩
 cases o with
 | none => exact z
 | some l => obtain ⟨p, z1, z2⟩ := z; exact ⟨p, z1, hl_tup z2⟩
end K13
namespace F2
open PySem L2 Gx Fl
structure Fd where
 name : Str
 fo : V
 fa : Addr
 pa : Addr
 ra : Addr
 ps : List Str
 rs : List Rw
 ds : List K12.RowD
structure FnAt (K : W.Frag) (H : Hp) (f : Fd) : Prop where
 fn : SqT K H f.fa [.str f.name, f.fo, .ref f.pa, .ref f.ra]
 pr : SqT K H f.pa (f.ps.map V.str)
 rw_ : SqT K H f.ra (f.rs.map λ w => V.ref w.r)
 rk : ∀ w ∈ f.rs, RowK K H w
 fu : K12.FunAt K H f.fa f.ps f.ds
 wf : K13.Wf (f.rs.map (·.k))
 len : f.rs.length <= 100
theorem FnAt.mono {K : W.Frag} {H H' : Hp} {f : Fd} (e : Same H H') (h : FnAt K H f) : FnAt K H' f :=
 ⟨e.tup h.fn, e.tup h.pr, e.tup h.rw_, λ w hw => (h.rk w hw).mono e, h.fu.mono e, h.wf, h.len⟩
def toF (f : Fd) : Fl.Fd := ⟨f.name, f.fa, f.ra, f.rs⟩
theorem FnAt.old {K : W.Frag} {H : Hp} {f : Fd} (h : FnAt K H f) : Fl.FnAt K H (toF f) := ⟨⟨_, _, h.fn⟩, h.rw_, h.rk, ⟨_, _, h.fu⟩, h.wf, h.len⟩
def nms (f : Fd) : List Str := K12.onceL (K12.allOf f.ps f.ds)
def kds (f : Fd) : List Str := f.rs.map (·.k)
def kD (g : Nat -> Fd -> V) (fns : List Fd) : List (Key × V) := fns.mapIdx λ i f => (Sum.inr f.name, g i f)
theorem kD_snoc (g : Nat -> Fd -> V) (fns : List Fd) (f : Fd) : kD g (fns ++ [f]) = kD g fns ++ [(Sum.inr f.name, g fns.length f)] := by
 unfold kD
 rw [List.mapIdx_append]
 simp
theorem kD_congr {g g' : Nat -> Fd -> V} {fns : List Fd} (h : ∀ i f, i < fns.length -> g i f = g' i f) : kD g fns = kD g' fns := by
 unfold kD
 refine List.ext_getElem (by simp) λ i h1 h2 => ?_
 simp only [List.getElem_mapIdx]
 rw [h i _ (by simpa using h1)]
theorem kD_none (g : Nat -> Fd -> V) {fns : List Fd} {s : Str} (h : s ∉ fns.map (·.name)) : valV (kD g fns) (Sum.inr s : Key) = none := by
 unfold valV
 rw [Option.map_eq_none_iff, List.find?_eq_none]
 intro kv hkv z
 unfold kD at hkv
 obtain ⟨i, hi, e⟩ := List.mem_mapIdx.mp hkv
 subst e
 have z : (Sum.inr fns[i].name : Key) = Sum.inr s := by simpa using z
 exact h (List.mem_map.mpr ⟨fns[i], List.getElem_mem hi, Sum.inr.inj z⟩)
theorem not_before {fns : List Fd} {f : Fd} {i : Nat} (h : fns[i]? = some f) (nd : (fns.map (·.name)).Nodup) : f.name ∉ (fns.take i).map (·.name) := by
 intro z
 obtain ⟨g, hg, e⟩ := List.mem_map.mp z
 obtain ⟨j, hj⟩ := List.getElem?_of_mem hg
 have hji : j < i := by
   have := (List.getElem?_eq_some_iff.mp hj).1
   rw [List.length_take] at this
   omega
 rw [List.getElem?_take_of_lt hji] at hj
 have h1 : (fns.map (·.name))[i]? = some f.name := by rw [List.getElem?_map, h]; rfl
 have h2 : (fns.map (·.name))[j]? = some f.name := by rw [List.getElem?_map, hj]; exact congrArg some e
 have := (List.getElem?_inj (List.getElem?_eq_some_iff.mp h2).1 nd).mp (h2.trans h1.symm)
 omega
theorem kD_put {g g' : Nat -> Fd -> V} {fns : List Fd} {f : Fd} {i : Nat} {v : V} (h : fns[i]? = some f) (nd : (fns.map (·.name)).Nodup) (hg : ∀ j f, j < i -> g j f = g' j f) (hv : v = g' i f) : putK (kD g (fns.take i)) (Sum.inr f.name : Key) v = kD g' (fns.take (i + 1)) := by
 have hi : i < fns.length := (List.getElem?_eq_some_iff.mp h).1
 have hl : (fns.take i).length = i := by rw [List.length_take]; omega
 rw [putK_new _ (kD_none g (not_before h nd)), List.take_add_one, h]
 show _ = kD g' (fns.take i ++ [f])
 rw [kD_snoc, hl, <- hv, kD_congr (g := g) (g' := g') λ j f hj => hg j f (by omega)]
theorem kD_at (g : Nat -> Fd -> V) : ∀ {fns : List Fd} {i : Nat} {f : Fd}, (fns.map (·.name)).Nodup -> fns[i]? = some f -> valV (kD g fns) (Sum.inr f.name : Key) = some (g i f) := by
 intro fns i f nd h
 have hi : i < fns.length := (List.getElem?_eq_some_iff.mp h).1
 have key : ∀ k, i < k -> k <= fns.length -> valV (kD g (fns.take k)) (Sum.inr f.name : Key) = some (g i f) := by
   intro k
   induction k with
   | zero => intro h0; exact absurd h0 (Nat.not_lt_zero _)
   | succ k ih =>
     intro hk hk'
     obtain ⟨f', hf'⟩ : ∃ f', fns[k]? = some f' := ⟨fns[k], List.getElem?_eq_getElem (by omega)⟩
     rw [<- kD_put (g := g) (g' := g) hf' nd (λ _ _ _ => rfl) rfl, valV_put]
     by_cases e : i = k
     . subst e
       rw [h] at hf'
       cases hf'
       rw [if_pos rfl]
     . have hn : ¬ (Sum.inr f.name : Key) = Sum.inr f'.name := λ z => not_before hf' nd (List.mem_map.mpr ⟨f, List.mem_of_getElem? (by rw [List.getElem?_take_of_lt (show i < k by omega)]; exact h), Sum.inr.inj z⟩)
       rw [if_neg hn]
       exact ih (by omega) (by omega)
 have := key fns.length hi (Nat.le_refl _)
 rw [List.take_length] at this
 exact this
structure FlowsAt (K : W.Frag) (C : Addr) (H : Hp) (x : Addr) (fns : List Fd) : Prop where
 all : ∀ f ∈ fns, FnAt K H f
 nd : (fns.map (·.name)).Nodup
 ob : ∃ dx fz d kv, ∃ nl wl : Nat -> Addr, fns[fns.length - 1]? = some fz /\ FS C H x dx (flds (V.str fz.name) d) d kv /\ kv 0 = kD (λ i _ => .int i) fns /\ kv 1 = kD (λ _ f => f.fo) fns /\ kv 2 = kD (λ _ f => .ref f.pa) fns /\ kv 3 = kD (λ _ f => .ref f.ra) fns /\
   kv 4 = kD (λ i _ => .ref (nl i)) fns /\ kv 5 = kD (λ i _ => .ref (wl i)) fns /\ ∀ i f, fns[i]? = some f -> H (nl i) = some (.lst ((nms f).map V.str)) /\ K13.FoundN H (wl i) (kds f) (kds f).length
theorem FlowsAt.mono {K : W.Frag} {C : Addr} {H H' : Hp} {x : Addr} {fns : List Fd} (e : Same H H') (h : FlowsAt K C H x fns) : FlowsAt K C H' x fns := by
 obtain ⟨dx, fz, d, kv, nl, wl, h0, h1, h2, h3, h4, h5, h6, h7, h8⟩ := h.ob
 exact ⟨λ f hf => (h.all f hf).mono e, h.nd, ⟨dx, fz, d, kv, nl, wl, h0, h1.mono e, h2, h3, h4, h5, h6, h7, λ i f hi => ⟨e _ _ (h8 i f hi).1, (h8 i f hi).2.mono e⟩⟩⟩
end F2
namespace K41
open PySem L2 Gx Fl
structure RR where
 w : Rw
 d : K12.RowD
def RRok (K : W.Frag) (H : Hp) (x : RR) : Prop := x.w.r = x.d.r /\ RowK K H x.w /\ K12.RowAt K H x.d
theorem at_i (i : Int) : K12.Atom (.int i) := .inr ⟨i, rfl⟩
theorem mem1 {p : V -> Prop} {a : V} (h : p a) : ∀ v ∈ [a], p v := λ v hv => by rw [List.mem_singleton.mp hv]; exact h
def rone (k : Str) (r : Addr) (a : V) : RR := ⟨⟨r, k, ""⟩, ⟨r, 0, 0, none, [a]⟩⟩
def rnone (k : Str) (r : Addr) : RR := ⟨⟨r, k, ""⟩, ⟨r, 0, 0, none, []⟩⟩
theorem ok_if {K : W.Frag} {H : Hp} {r : Addr} {a : V} (h : SqT K H r [.str "if", a]) (ha : K12.Atom a) : RRok K H (rone "if" r a) :=
 ⟨rfl, ⟨_, h, λ z => absurd z (by show ¬ (("if" : Str) = "call"); decide +kernel)⟩, ⟨⟨_, h, .ifs a⟩, mem1 ha, by show 1 <= 10; decide, λ x hx => by cases hx⟩⟩
theorem ok_back {K : W.Frag} {H : Hp} {r : Addr} {a : V} (h : SqT K H r [.str "back", a]) (ha : K12.Atom a) : RRok K H (rone "back" r a) :=
 ⟨rfl, ⟨_, h, λ z => absurd z (by show ¬ (("back" : Str) = "call"); decide +kernel)⟩, ⟨⟨_, h, .back a⟩, mem1 ha, by show 1 <= 10; decide, λ x hx => by cases hx⟩⟩
theorem ok_else {K : W.Frag} {H : Hp} {r : Addr} (h : SqT K H r [.str "else"]) : RRok K H (rnone "else" r) :=
 ⟨rfl, ⟨_, h, λ z => absurd z (by show ¬ (("else" : Str) = "call"); decide +kernel)⟩, ⟨⟨_, h, .els⟩, (λ v hv => by cases hv), Nat.zero_le _, λ x hx => by cases hx⟩⟩
theorem ok_end {K : W.Frag} {H : Hp} {r : Addr} (h : SqT K H r [.str "end"]) : RRok K H (rnone "end" r) :=
 ⟨rfl, ⟨_, h, λ z => absurd z (by show ¬ (("end" : Str) = "call"); decide +kernel)⟩, ⟨⟨_, h, .fin⟩, (λ v hv => by cases hv), Nat.zero_le _, λ x hx => by cases hx⟩⟩
theorem good_rep {ks os : List Str} {x : Str} (g : K13.Good ks os) (h1 : ¬ K13.isO x = true) (h2 : ¬ K13.isE x = true) (h3 : ¬ x = "end") : ∀ n, K13.Good (ks ++ List.replicate n x) os
 | 0 => by rw [List.replicate_zero, List.append_nil]; exact g
 | n + 1 => by rw [List.replicate_succ', <- List.append_assoc]; exact (good_rep g h1 h2 h3 n).plain h1 h2 h3
def lc (z : Int) : Nat := K12.lets.cps.toList.getD z.toNat 0
theorem lets26 : K12.lets.cps.toList.length = 26 := by decide +kernel
theorem lc_at {z : Int} (h0 : 0 <= z) (h1 : z < 26) : atI K12.lets.cps.toList z = some (lc z) := by
 obtain ⟨j, rfl⟩ := Int.eq_ofNat_of_zero_le h0
 have hj : j < K12.lets.cps.toList.length := by rw [lets26]; omega
 refine atI_nat ?_
 unfold lc
 rw [Int.toNat_natCast, List.getD_eq_getElem?_getD, List.getElem?_eq_getElem hj]
 rfl
theorem lc_mem {z : Int} (h0 : 0 <= z) (h1 : z < 26) : lc z ∈ K12.lets.cps.toList := by
 have hj : z.toNat < K12.lets.cps.toList.length := by rw [lets26]; omega
 unfold lc
 rw [List.getD_eq_getElem?_getD, List.getElem?_eq_getElem hj]
 exact List.getElem_mem hj
theorem lc_inj {x y : Int} (x0 : 0 <= x) (x1 : x < 26) (y0 : 0 <= y) (y1 : y < 26) (h : lc x = lc y) : x = y := by
 have key : ∀ i < 26, ∀ j < 26, K12.lets.cps.toList.getD i 0 = K12.lets.cps.toList.getD j 0 -> i = j := by decide +kernel
 have := key x.toNat (by omega) y.toNat (by omega) h
 omega
theorem ok_lets {l : List Nat} (h : ∀ c ∈ l, c ∈ K12.lets.cps.toList) : PyData.strOk (tx l) = true := by
 have hz := K12.lets_ok
 unfold PyData.strOk at hz ⊢
 rw [Array.all_eq_true'] at hz ⊢
 intro x hx
 have hx : x ∈ l := by simpa [tx] using hx
 exact hz x (by simpa using h x hx)
def tkV : List V := [V.str "fn", V.str "in", V.str "new", V.str "get", V.str "put", V.str "call", V.str "out", V.str "if", V.str "while", V.str "else", V.str "end", V.str "back"]
end K41
namespace Bg
open PySem L2 Gx Rk2
end Bg
namespace Bg
open PySem L2 Gx K41
theorem RRok.mono {K : W.Frag} {H H' : Hp} {x : RR} (h : RRok K H x) (e : Same H H') : RRok K H' x := ⟨h.1, h.2.1.mono e, h.2.2.mono e⟩
theorem fn_mk2 {K : W.Frag} {H : Hp} {nk : Str} {fa tr qC : Addr} {fo : V} {ps : List Str} (rr : List RR) (h1 : SqT K H fa [.str nk, fo, .ref qC, .ref tr]) (h2 : SqT K H tr (rr.map λ x => V.ref x.w.r)) (h3 : ∀ x ∈ rr, RRok K H x) (h4 : SqT K H qC (ps.map V.str)) (h5 : ∀ s ∈ ps, K12.Nm s) (h6 : ps.length <= 100) (h7 : rr.length <= 100) (wf : K13.Wf (rr.map λ x => x.w.k)) :
   F2.FnAt K H ⟨nk, fo, fa, qC, tr, ps, rr.map (·.w), rr.map (·.d)⟩ := by
 refine ⟨h1, h4, by show SqT K H tr ((rr.map (·.w)).map λ w => V.ref w.r); rw [List.map_map]; exact h2, λ w hw => ?_, ⟨⟨_, _, _, _, h1, h4, ?_⟩, λ d hd => ?_, h5, h6, by show (rr.map (·.d)).length <= 100; rw [List.length_map]; exact h7⟩, by show K13.Wf ((rr.map (·.w)).map (·.k)); rw [List.map_map]; exact wf, by show (rr.map (·.w)).length <= 100; rw [List.length_map]; exact h7⟩
 . obtain ⟨x, hx, rfl⟩ := List.mem_map.mp hw
   exact (h3 x hx).2.1
 . show SqT K H tr ((rr.map (·.d)).map λ d => V.ref d.r)
   rw [List.map_map]
   have : (rr.map λ x => V.ref x.w.r) = rr.map ((λ d => V.ref d.r) ∘ (·.d)) := List.map_congr_left λ x hx => by
     show V.ref x.w.r = V.ref x.d.r
     rw [(h3 x hx).1]
   rw [<- this]
   exact h2
 . obtain ⟨x, hx, rfl⟩ := List.mem_map.mp hd
   exact (h3 x hx).2.2
def rcopyV (r : Addr) (nm : Str) (i : Int) : RR := ⟨⟨r, "copy", ""⟩, ⟨r, 0, 0, some nm, [.int i]⟩⟩
theorem ok_copyV {K : W.Frag} {H : Hp} {r : Addr} {nm : Str} {i : Int} (h : SqT K H r [.str "copy", .str nm, .int i]) (hn : K12.Nm nm) : RRok K H (rcopyV r nm i) :=
 ⟨rfl, ⟨_, h, λ z => absurd z (by show ¬ (("copy" : Str) = "call"); decide +kernel)⟩, ⟨⟨_, h, .copy nm _⟩, mem1 (at_i i), by show 1 <= 10; decide, λ x hx => by cases hx; exact hn⟩⟩
end Bg
namespace K81
open PySem L2 Gx Bt
end K81
namespace Bt
open PySem L2 Gx
inductive BTr where
 | box (k : Nat) : BTr
 | num (v : Nat) : BTr
 | op (i : Nat) (l r : BTr) : BTr
def codes : List Nat := [43, 45, 42, 47, 60, 61, 38, 124, 94]
def sgn (i : Nat) : Str := tx [codes.getD i 0]
def rb : BTr -> List Nat
 | .box k => 48 :: nb k
 | .num v => 49 :: 48 :: nb v
 | .op i l r => 49 :: 49 :: pb i 4 ++ rb l ++ rb r
def lv : BTr -> Nat
 | .box _ => 1
 | .num _ => 1
 | .op _ l r => lv l + lv r
def bdp : BTr -> Nat
 | .box _ => 0
 | .num _ => 0
 | .op _ l r => max (bdp l) (bdp r) + 1
theorem bdp_lt : ∀ t : BTr, bdp t < lv t
 | .box _ => Nat.zero_lt_one
 | .num _ => Nat.zero_lt_one
 | .op _ l r => by
   have h1 := bdp_lt l
   have h2 := bdp_lt r
   show max (bdp l) (bdp r) + 1 < lv l + lv r
   omega
def bok : BTr -> Prop
 | .box k => k < 8 ^ 16
 | .num v => v < 8 ^ 16
 | .op _ l r => bok l /\ bok r
theorem rb_len : ∀ {t : BTr}, bok t -> (rb t).length + 6 <= 72 * lv t
 | .box k, h => by
   have := nb_len 15 k h
   show (48 :: nb k).length + 6 <= 72 * 1
   rw [List.length_cons]; omega
 | .num k, h => by
   have := nb_len 15 k h
   show (49 :: 48 :: nb k).length + 6 <= 72 * 1
   rw [List.length_cons, List.length_cons]; omega
 | .op i l r, h => by
   have h1 := rb_len h.1
   have h2 := rb_len h.2
   show (49 :: 49 :: pb i 4 ++ rb l ++ rb r).length + 6 <= 72 * (lv l + lv r)
   rw [List.length_append, List.length_append, List.length_cons, List.length_cons, pb_len]
   omega
theorem sgn_box : ∀ i < 9, ¬ sgn i = "box" /\ ¬ sgn i = "num" := by decide +kernel
def sgTup : List V := [V.str "+", V.str "-", V.str "*", V.str "/", V.str "<", V.str "=", V.str "&", V.str "|", V.str "^"]
theorem sg_hit : ∀ i < 9, ∃ z, sgTup[i]? = some z /\ eqV z (V.str (sgn i)) = true := by
 intro i hi
 have : ∀ i < 9, sgTup[i]? = some (V.str (sgn i)) := by decide +kernel
 refine ⟨_, this i hi, ?_⟩
 have : ∀ i < 9, eqV (V.str (sgn i)) (V.str (sgn i)) = true := by decide +kernel
 exact this i hi
theorem sg_miss : ∀ i < 9, ∀ m z, m < i -> sgTup[m]? = some z -> eqV z (V.str (sgn i)) = false := by
 have key : ∀ i < 9, ∀ m < i, (sgTup[m]?.map λ z => eqV z (V.str (sgn i))) = some false := by decide +kernel
 intro i hi m z hm hz
 have := key i hi m hm
 rw [hz] at this
 exact Option.some.inj this
def tabS : List V := [V.str "0000", V.str "0001", V.str "0010", V.str "0011", V.str "0100", V.str "0101", V.str "0110", V.str "0111", V.str "1000"]
theorem tabS_at : ∀ d < 9, atI tabS (d : Nat) = some (V.str (tx (pb d 4))) := by decide +kernel
theorem occ_at : ∀ i < 9, (Builtin.Str.occurrences ("+-*/<=&|^" : Str) (sgn i) 0 ("+-*/<=&|^" : Str).length 1).head? = some i := by decide +kernel
theorem sg_pick : ∀ i < 9, atI ("+-*/<=&|^" : Str).cps.toList (i : Nat) = some (codes.getD i 0) := by decide +kernel
theorem nul_tx (l : List Nat) : ("0" : Str) ++ tx l = tx (48 :: l) := tx_app [48] l
theorem ten_tx (l : List Nat) : ("10" : Str) ++ tx l = tx (49 :: 48 :: l) := tx_app [49, 48] l
theorem elf_tx (l : List Nat) : ("11" : Str) ++ tx l = tx (49 :: 49 :: l) := tx_app [49, 49] l
theorem fit2 (a b : List Nat) (h : a.length + b.length < 1000000) : (tx a).length + (tx b).length <= sizeLine := by rw [tx_len, tx_len]; exact lt_line h
theorem num16 : (8 : Nat) ^ 16 = 281474976710656 := by decide
end Bt
namespace Pk
open PySem L2 Gx Bt Bg
section
variable {K : W.Frag} {H H' : Hp}
theorem da_len : ∀ {ds : List PyData} {xs : List V}, DatAll K H ds xs -> xs.length = ds.length
 | [], xs, h => by unfold DatAll at h; rw [h]; rfl
 | d :: ds, xs, h => by
   unfold DatAll at h
   obtain ⟨x, r, rfl, _, h2⟩ := h
   rw [List.length_cons, List.length_cons, da_len h2]
theorem da_at : ∀ {ds : List PyData} {xs : List V} {i : Nat} {d : PyData}, DatAll K H ds xs -> ds[i]? = some d -> ∃ x, xs[i]? = some x /\ DatV K H d x
 | [], xs, i, d, h, e => by cases i <;> cases e
 | d' :: ds, xs, i, d, h, e => by
   unfold DatAll at h
   obtain ⟨x, r, rfl, h1, h2⟩ := h
   cases i with
   | zero => cases e; exact ⟨x, rfl, h1⟩
   | succ i =>
     obtain ⟨y, e2, hy⟩ := da_at (i := i) h2 (by simpa using e)
     exact ⟨y, by simpa using e2, hy⟩
theorem da_at' {ds : List PyData} {xs : List V} {i : Nat} {x : V} (h : DatAll K H ds xs) (e : xs[i]? = some x) : ∃ d, ds[i]? = some d /\ DatV K H d x := by
 have hi : i < ds.length := by rw [<- da_len h]; exact (List.getElem?_eq_some_iff.mp e).1
 obtain ⟨y, e2, hy⟩ := da_at h (List.getElem?_eq_getElem hi)
 rw [e] at e2
 cases e2
 exact ⟨_, List.getElem?_eq_getElem hi, hy⟩
theorem da_snoc : ∀ {ds : List PyData} {xs : List V} {d : PyData} {x : V}, DatAll K H ds xs -> DatV K H d x -> DatAll K H (ds ++ [d]) (xs ++ [x])
 | [], xs, d, x, h, hx => by unfold DatAll at h; subst h; exact datAll_cons hx datAll_nil
 | d' :: ds, xs, d, x, h, hx => by
   unfold DatAll at h
   obtain ⟨y, r, rfl, h1, h2⟩ := h
   exact datAll_cons h1 (da_snoc h2 hx)
theorem da_of : ∀ {ds : List PyData} {xs : List V}, xs.length = ds.length -> (∀ (i : Nat) d x, ds[i]? = some d -> xs[i]? = some x -> DatV K H d x) -> DatAll K H ds xs
 | [], [], _, _ => datAll_nil
 | d :: ds, x :: xs, e, h => datAll_cons (h 0 d x rfl rfl) (da_of (by simpa using e) λ i d' x' h1 h2 => h (i + 1) d' x' (by simpa using h1) (by simpa using h2))
 | [], _ :: _, e, _ => by cases e
 | _ :: _, [], e, _ => by cases e
theorem da_map {α : Type} {f : α -> PyData} {l : List α} {xs : List V} {i : Nat} {x : V} (h : DatAll K H (l.map f) xs) (e : xs[i]? = some x) : ∃ a, l[i]? = some a /\ DatV K H (f a) x := by
 obtain ⟨d, hd, hx⟩ := da_at' h e
 rw [List.getElem?_map] at hd
 cases ha : l[i]? with
 | none => rw [ha] at hd; cases hd
 | some a => rw [ha] at hd; cases hd; exact ⟨a, rfl, hx⟩
theorem da_get {α : Type} {f : α -> PyData} {l : List α} {xs : List V} {i : Nat} {a : α} (h : DatAll K H (l.map f) xs) (e : l[i]? = some a) : ∃ x, xs[i]? = some x /\ DatV K H (f a) x := da_at h (by rw [List.getElem?_map, e]; rfl)
theorem da_take {α : Type} {f : α -> PyData} {l : List α} {xs : List V} {i : Nat} {a : α} {x : V} (h : DatAll K H ((l.take i).map f) xs) (e : l[i]? = some a) (hx : DatV K H (f a) x) : DatAll K H ((l.take (i + 1)).map f) (xs ++ [x]) := by
 rw [List.take_add_one, e, List.map_append]
 exact da_snoc h hx
theorem da_drop {ds : List PyData} {xs : List V} (h : DatAll K H ds xs) : DatAll K H ds.dropLast xs.dropLast := by
 have hl := da_len h
 refine da_of (by rw [List.length_dropLast, List.length_dropLast, hl]) λ i d x h1 h2 => ?_
 have hi : i < ds.length - 1 := by have := (List.getElem?_eq_some_iff.mp h1).1; rwa [List.length_dropLast] at this
 rw [List.dropLast_eq_take, List.getElem?_take_of_lt hi] at h1
 rw [List.dropLast_eq_take, List.getElem?_take_of_lt (by omega)] at h2
 obtain ⟨y, e2, hy⟩ := da_at h h1
 rw [h2] at e2
 cases e2
 exact hy
theorem dl_un {ds : List PyData} {v : V} (h : DatV K H (.list ds) v) : ∃ a xs, v = .ref a /\ SqL K H a xs /\ DatAll K H ds xs := by unfold DatV at h; exact h
theorem dt_un {ds : List PyData} {v : V} (h : DatV K H (.tuple ds) v) : ∃ a xs, v = .ref a /\ SqT K H a xs /\ DatAll K H ds xs := by unfold DatV at h; exact h
theorem dat2 {d e : PyData} {xs : List V} (h : DatAll K H [d, e] xs) : ∃ x y, xs = [x, y] /\ DatV K H d x /\ DatV K H e y := by
 unfold DatAll at h
 obtain ⟨x, r, rfl, h1, h2⟩ := h
 unfold DatAll at h2
 obtain ⟨y, r, rfl, h2, h3⟩ := h2
 unfold DatAll at h3
 subst h3
 exact ⟨x, y, rfl, h1, h2⟩
theorem dat3 {d e f : PyData} {xs : List V} (h : DatAll K H [d, e, f] xs) : ∃ x y z, xs = [x, y, z] /\ DatV K H d x /\ DatV K H e y /\ DatV K H f z := by
 unfold DatAll at h
 obtain ⟨x, r, rfl, h1, h2⟩ := h
 obtain ⟨y, z, rfl, h3, h4⟩ := dat2 h2
 exact ⟨x, y, z, rfl, h1, h3, h4⟩
theorem ds_un {s : Str} {v : V} (h : DatV K H (.str s) v) : v = .str s := by unfold DatV at h; exact h
theorem di_un {s : Int} {v : V} (h : DatV K H (.int s) v) : v = .int s := by unfold DatV at h; exact h
theorem dn_un {v : V} (h : DatV K H .none v) : v = .non := by unfold DatV at h; exact h
theorem dt2 {d e : PyData} {v : V} (h : DatV K H (.tuple [d, e]) v) : ∃ a x y, v = .ref a /\ SqT K H a [x, y] /\ DatV K H d x /\ DatV K H e y := by
 obtain ⟨a, xs, rfl, h1, h2⟩ := dt_un h
 obtain ⟨x, y, rfl, h3, h4⟩ := dat2 h2
 exact ⟨a, x, y, rfl, h1, h3, h4⟩
theorem dt2_mk {d e : PyData} {a : Addr} {x y : V} (h : SqT K H a [x, y]) (h1 : DatV K H d x) (h2 : DatV K H e y) : DatV K H (.tuple [d, e]) (.ref a) := datV_tuple h (datAll_cons h1 (datAll_cons h2 datAll_nil))
mutual
def tupd : PyData -> Bool
 | .tuple ds => tupdAll ds
 | .list _ => false
 | .dict _ => false
 | _ => true
def tupdAll : List PyData -> Bool
 | [] => true
 | d :: ds => tupd d && tupdAll ds
end
def NoT (H : Hp) (z : Addr) : Prop := H z = none \/ ∃ ys, H z = some (.lst ys)
theorem NoT.lst {z : Addr} {ys : List V} (h : H z = some (.lst ys)) : NoT H z := .inr ⟨ys, h⟩
theorem NoT.ers {z y : Addr} (h : NoT H z) : NoT (ers y H) z := by
 by_cases e : z = y
 . left; unfold L2.ers; rw [if_pos e]
 . unfold NoT; rw [ers_ne e]; exact h
theorem sqT_ers {a z : Addr} {xs : List V} (h : SqT K H a xs) (hz : NoT H z) : SqT K (ers z H) a xs := by
 have key : ∀ o : HO, H a = some o -> (∀ ys, o ≠ .lst ys) -> a ≠ z := λ o ho hn e => by
   subst e
   rcases hz with hz | ⟨ys, hz⟩
   . rw [ho] at hz; cases hz
   . rw [ho] at hz; exact hn ys (Option.some.inj hz)
 rcases h with (h | ⟨o, h⟩) | h
 . exact .inl (.inl (by rw [ers_ne (key _ h (by intro ys z; cases z))]; exact h))
 . exact .inl (.inr ⟨o, by rw [ers_ne (key _ h (by intro ys z; cases z))]; exact h⟩)
 . exact .inr h
mutual
theorem DatV.ersT {z : Addr} (hz : NoT H z) : ∀ (d : PyData) (v : V), tupd d = true -> DatV K H d v -> DatV K (ers z H) d v
 | .none, v, t, h => by unfold DatV at h ⊢; exact h
 | .bool b, v, t, h => by unfold DatV at h ⊢; exact h
 | .int i, v, t, h => by unfold DatV at h ⊢; exact h
 | .str x, v, t, h => by unfold DatV at h ⊢; exact h
 | .list ds, v, t, h => by unfold tupd at t; cases t
 | .tuple ds, v, t, h => by
   unfold DatV at h ⊢
   unfold tupd at t
   obtain ⟨a, xs, rfl, hq, hd⟩ := h
   exact ⟨a, xs, rfl, sqT_ers hq hz, DatAll.ersT hz ds xs t hd⟩
 | .dict _, v, t, h => by unfold tupd at t; cases t
theorem DatAll.ersT {z : Addr} (hz : NoT H z) : ∀ (ds : List PyData) (xs : List V), tupdAll ds = true -> DatAll K H ds xs -> DatAll K (ers z H) ds xs
 | [], xs, t, h => by unfold DatAll at h ⊢; exact h
 | d :: ds, xs, t, h => by
   unfold DatAll at h ⊢
   unfold tupdAll at t
   rw [Bool.and_eq_true] at t
   obtain ⟨x, r, rfl, hd, hds⟩ := h
   exact ⟨x, r, rfl, DatV.ersT hz d x t.1 hd, DatAll.ersT hz ds r t.2 hds⟩
end
theorem sqL_ers {a z : Addr} {xs : List V} (h : H a = some (.lst xs)) (hz : a ≠ z) : SqL K (ers z H) a xs := SqL.of (by rw [ers_ne hz]; exact h)
theorem same_ers {z : Addr} (e : Same H H') (h : H z = none) : Same H (ers z H') := λ b o hb => by rw [ers_ne (ne_of_none hb h)]; exact e _ _ hb
theorem ers_put {z : Addr} {o : HO} : Same (ers z H) (upd H z o) := by rw [<- ers_upd (o := o)]; exact ers_same
end
def btD : BTr -> PyData
 | .box k => .tuple [.str "box", .int k]
 | .num k => .tuple [.str "num", .int k]
 | .op i l r => .tuple [.str (sgn i), btD l, btD r]
def btO : Option BTr -> PyData
 | none => .none
 | some t => btD t
def tok : BTr -> Prop
 | .box k => k < 8 ^ 16
 | .num k => k < 8 ^ 16
 | .op i l r => i < 9 /\ tok l /\ tok r
def pok : Option BTr -> Prop
 | none => True
 | some t => tok t /\ lv t <= 8
theorem bt_tup : ∀ t : BTr, tupd (btD t) = true
 | .box k => by unfold btD tupd tupdAll tupdAll tupdAll; unfold tupd; rfl
 | .num k => by unfold btD tupd tupdAll tupdAll tupdAll; unfold tupd; rfl
 | .op i l r => by unfold btD tupd tupdAll tupdAll tupdAll; rw [bt_tup l, bt_tup r]; unfold tupdAll tupd; rfl
theorem bo_tup : ∀ o : Option BTr, tupd (btO o) = true
 | none => by unfold btO tupd; rfl
 | some t => bt_tup t
theorem tok_bok : ∀ {t : BTr}, tok t -> bok t
 | .box k, h => h
 | .num k, h => h
 | .op i l r, h => ⟨tok_bok h.2.1, tok_bok h.2.2⟩
theorem sgn_ok : ∀ i < 9, PyData.strOk (sgn i) = true := by decide +kernel
theorem bt_lay : ∀ {t : BTr}, tok t -> Lay (bdp t + 1) (btD t)
 | .box k, h => Lay.tuple (n := 0) λ d hd => by
   rcases List.mem_cons.mp hd with e | hd
   . rw [e]; exact .str (by decide +kernel)
   . rw [List.mem_singleton.mp hd]; exact .int _
 | .num k, h => Lay.tuple (n := 0) λ d hd => by
   rcases List.mem_cons.mp hd with e | hd
   . rw [e]; exact .str (by decide +kernel)
   . rw [List.mem_singleton.mp hd]; exact .int _
 | .op i l r, h => Lay.tuple (n := max (bdp l) (bdp r) + 1) λ d hd => by
   rcases List.mem_cons.mp hd with e | hd
   . rw [e]; exact .str (sgn_ok i h.1)
   . rcases List.mem_cons.mp hd with e | hd
     . rw [e]; exact (bt_lay h.2.1).mono (by omega)
     . rw [List.mem_singleton.mp hd]; exact (bt_lay h.2.2).mono (by omega)
theorem bo_lay {o : Option BTr} (h : pok o) : Lay 8 (btO o) := by
 cases o with
 | none => exact .none
 | some t => exact (bt_lay h.1).mono (by have := bdp_lt t; have := h.2; omega)
theorem bo_shaped {o : Option BTr} (h : pok o) : SeqAt.shaped (btO o) = true := (bo_lay h).shaped (by decide)
def ob : Option BTr -> List Nat
 | none => [48, 48]
 | some tr => 49 :: rb tr
theorem ob_len {o : Option BTr} (h : pok o) : (ob o).length <= 600 := by
 cases o with
 | none => show 2 <= 600; decide
 | some t =>
   have := rb_len (tok_bok h.1)
   have := h.2
   show (49 :: rb t).length <= 600
   rw [List.length_cons]
   omega
theorem bo_non {K : W.Frag} {H : Hp} {o : Option BTr} {v : V} (h : DatV K H (btO o) v) : v = .non <-> o = none := by
 cases o with
 | none => exact ⟨λ _ => rfl, λ _ => dn_un h⟩
 | some t =>
   refine ⟨λ e => ?_, λ e => by cases e⟩
   subst e
   cases t <;> (obtain ⟨a, xs, h1, _⟩ := dt_un h; cases h1)
def lk (ah : List (Option BTr)) (o : Option BTr) (i : Nat) : Bool := match ah[i]? with
 | some a => PyData.eqv (btO a) (btO o)
 | none => false
def vb1 (ah pl : List (Option BTr)) (i : Nat) : List Nat := if lk ah (pl.getD i none) i = true then [48, 49] else ob (pl.getD i none)
def vbL (ah pl : List (Option BTr)) (n : Nat) : List (List Nat) := (List.range n).map (vb1 ah pl)
def vb (ah pl : List (Option BTr)) : List Nat := (vbL ah pl pl.length).flatten
theorem vbL_succ (ah pl : List (Option BTr)) (n : Nat) : vbL ah pl (n + 1) = vbL ah pl n ++ [vb1 ah pl n] := by unfold vbL; rw [List.range_succ, List.map_append]; rfl
theorem vb1_len {ah pl : List (Option BTr)} (h : ∀ o ∈ pl, pok o) (i : Nat) : (vb1 ah pl i).length <= 600 := by
 unfold vb1
 split
 . show 2 <= 600; decide
 . refine ob_len ?_
   rw [List.getD_eq_getElem?_getD]
   cases e : pl[i]? with
   | none => exact True.intro
   | some o => exact h o (List.mem_of_getElem? e)
theorem sum_le {l : List (List Nat)} {c : Nat} (h : ∀ x ∈ l, x.length <= c) : (l.map (·.length)).sum <= l.length * c := by
 induction l with
 | nil => simp
 | cons x l ih =>
   have h1 := h x List.mem_cons_self
   have h2 := ih λ y hy => h y (List.mem_cons_of_mem _ hy)
   rw [List.map_cons, List.sum_cons, List.length_cons, Nat.succ_mul]
   omega
theorem sum_tx (l : List (List Nat)) : ((l.map tx).map (·.length)).sum = (l.map (·.length)).sum := by
 have e : (l.map ((λ x : Str => x.length) ∘ tx)) = l.map (·.length) := List.map_congr_left λ x _ => tx_len x
 rw [List.map_map, e]
theorem flat_le {l : List (List Nat)} {c : Nat} (h : ∀ x ∈ l, x.length <= c) : l.flatten.length <= l.length * c := by
 rw [List.length_flatten]
 exact sum_le h
theorem vbL_le {ah pl : List (Option BTr)} (h : ∀ o ∈ pl, pok o) (n : Nat) : ∀ x ∈ vbL ah pl n, x.length <= 600 := λ x hx => by
 obtain ⟨i, _, rfl⟩ := List.mem_map.mp hx
 exact vb1_len h i
theorem vbL_len (ah pl : List (Option BTr)) (n : Nat) : (vbL ah pl n).length = n := by unfold vbL; rw [List.length_map, List.length_range]
theorem vb_len {ah pl : List (Option BTr)} (h : ∀ o ∈ pl, pok o) : (vb ah pl).length <= pl.length * 600 := by
 have := flat_le (vbL_le (ah := ah) h pl.length)
 rw [vbL_len] at this
 exact this
theorem cut_one {xs : List V} {k : Nat} : cutV xs (some (k : Int)) (some ((k : Int) + 1)) = (xs[k]?).toList := by
 have e : ((k : Int) + 1) = ((k + 1 : Nat) : Int) := by omega
 rw [e]
 unfold cutV
 rw [HT.sIx_nat, HT.sIx_nat]
 by_cases h : k < xs.length
 . rw [Nat.min_eq_left (by omega), Nat.min_eq_left (by omega), List.getElem?_eq_getElem h, Nat.add_sub_cancel_left, <- List.getElem_cons_drop (h := h)]
   rfl
 . rw [List.drop_eq_nil_of_le (by omega), List.getElem?_eq_none (by omega)]
   simp
end Pk
namespace Pk
open PySem L2 Gx Bt Bg K41
def prmL : List Int := [10007, 10009, 10037, 10039, 10061, 10067, 10069, 10079]
def prm (j : Int) : Int := prmL.getD (j % 8).toNat 1
theorem prm_at (j : Int) : atI (prmL.map V.int) (j % 8) = some (V.int (prm j)) := by
 have b := emod_bd j 8 (by decide)
 exact at_int b.1 (by show j % 8 < 8; exact b.2) |>.trans (by
   unfold prm
   have : (j % 8).toNat < prmL.length := by show (j % 8).toNat < 8; omega
   rw [List.getD_eq_getElem?_getD, List.getD_eq_getElem?_getD, List.getElem?_eq_getElem this]
   rfl)
theorem prm_pos (j : Int) : 0 < prm j := by
 have b := emod_bd j 8 (by decide)
 have key : ∀ i < 8, 0 < prmL.getD i 1 := by decide
 exact key _ (by omega)
def part (c j m : Int) : Int := (c * 48271 + 7919 * j) % prm j % m
theorem part_bd (c j m : Int) (h : 0 < m) : 0 <= part c j m /\ part c j m < m := emod_bd _ m h
def wsz (b : Int) : Nat := (1 + part b 8 8).toNat
theorem wsz_bd (b : Int) : 1 <= wsz b /\ wsz b <= 8 /\ (wsz b : Int) = 1 + part b 8 8 := by
 have h := part_bd b 8 8 (by decide)
 unfold wsz
 omega
def wd (b : Int) : List Nat := (List.range (wsz b)).map λ j : Nat => lc (part b j 26)
def wat (b : Int) : Nat := (part b 9 (1 + part b 8 8)).toNat
theorem wat_bd (b : Int) : wat b < wsz b /\ (wat b : Int) = part b 9 (1 + part b 8 8) := by
 have h1 := wsz_bd b
 have h2 := part_bd b 9 (1 + part b 8 8) (by omega)
 unfold wat
 omega
def wk (b k : Int) : List Nat := (wd b).set (wat b) (lc ((part b 10 26 + k) % 26))
def nmL (b k : Int) : Str := if inV (.str (tx (wk b k))) tkV = true then tx (wk b k ++ [122]) else tx (wk b k)
theorem wd_len (b : Int) : (wd b).length = wsz b := by unfold wd; rw [List.length_map, List.length_range]
theorem wk_len (b k : Int) : (wk b k).length = wsz b := by unfold wk; rw [List.length_set, wd_len]
theorem wk_inj {b k k' : Int} (h : wk b k = wk b k') : (part b 10 26 + k) % 26 = (part b 10 26 + k') % 26 := by
 have hl : wat b < (wd b).length := by rw [wd_len]; exact (wat_bd b).1
 have h1 : (wk b k)[wat b]? = some (lc ((part b 10 26 + k) % 26)) := by unfold wk; rw [List.getElem?_set_self hl]
 have h2 : (wk b k')[wat b]? = some (lc ((part b 10 26 + k') % 26)) := by unfold wk; rw [List.getElem?_set_self hl]
 rw [h, h2] at h1
 have b1 := emod_bd (part b 10 26 + k) 26 (by decide)
 have b2 := emod_bd (part b 10 26 + k') 26 (by decide)
 exact lc_inj b1.1 b1.2 b2.1 b2.2 (Option.some.inj h1).symm
theorem nmL_inj {b k k' : Int} (h : nmL b k = nmL b k') : (part b 10 26 + k) % 26 = (part b 10 26 + k') % 26 := by
 have l1 := wk_len b k
 have l2 := wk_len b k'
 unfold nmL at h
 split at h
 . split at h
   . exact wk_inj (List.append_cancel_right (tx_inj h))
   . have := congrArg List.length (tx_inj h)
     rw [List.length_append] at this
     simp at this
     omega
 . split at h
   . have := congrArg List.length (tx_inj h)
     rw [List.length_append] at this
     simp at this
     omega
   . exact wk_inj (tx_inj h)
theorem wk_mem {b k : Int} : ∀ c ∈ wk b k, c ∈ K12.lets.cps.toList := λ c hc => by
 unfold wk at hc
 rcases List.mem_or_eq_of_mem_set hc with h | h
 . unfold wd at h
   obtain ⟨j, _, rfl⟩ := List.mem_map.mp h
   have b1 := part_bd b j 26 (by decide)
   exact lc_mem b1.1 b1.2
 . rw [h]
   have b1 := emod_bd (part b 10 26 + k) 26 (by decide)
   exact lc_mem b1.1 b1.2
theorem nmL_nm (b k : Int) : K12.Nm (nmL b k) := by
 have l1 := wk_len b k
 have l2 := wsz_bd b
 unfold nmL
 split
 . refine ⟨by rw [tx_len, List.length_append, l1]; simp; omega, ok_lets λ c hc => ?_⟩
   rcases List.mem_append.mp hc with h | h
   . exact wk_mem c h
   . rw [List.mem_singleton.mp h]; decide +kernel
 . exact ⟨by rw [tx_len, l1]; omega, ok_lets wk_mem⟩
def HasT (K : W.Frag) (H : Hp) (n : Nat) (v : V) : Prop := ∃ d, tupd d = true /\ Lay n d /\ DatV K H d v
def HasTA (K : W.Frag) (H : Hp) (n : Nat) (xs : List V) : Prop := ∃ ds, tupdAll ds = true /\ (∀ d ∈ ds, Lay n d) /\ DatAll K H ds xs
section
variable {K : W.Frag} {H H' : Hp} {n m : Nat}
theorem HasT.mono {v : V} (h : HasT K H n v) (e : Same H H') : HasT K H' n v := let ⟨d, t, l, z⟩ := h; ⟨d, t, l, DatV.mono e d v z⟩
theorem HasT.up {v : V} (h : HasT K H n v) (e : n <= m) : HasT K H m v := let ⟨d, t, l, z⟩ := h; ⟨d, t, l.mono e, z⟩
theorem HasT.str {s : Str} (h : PyData.strOk s = true) : HasT K H n (.str s) := ⟨.str s, by unfold tupd; rfl, Lay.str h, datV_str s⟩
theorem HasT.int {i : Int} : HasT K H n (.int i) := ⟨.int i, by unfold tupd; rfl, Lay.int i, datV_int i⟩
theorem HasT.bl {b : Bool} : HasT K H n (.bl b) := ⟨.bool b, by unfold tupd; rfl, Lay.bool b, datV_bl b⟩
theorem HasTA.mono {xs : List V} (h : HasTA K H n xs) (e : Same H H') : HasTA K H' n xs := let ⟨d, t, l, z⟩ := h; ⟨d, t, l, DatAll.mono e d xs z⟩
theorem HasTA.ers {z : Addr} {xs : List V} (h : HasTA K H n xs) (hz : NoT H z) : HasTA K (ers z H) n xs := let ⟨d, t, l, y⟩ := h; ⟨d, t, l, DatAll.ersT hz d xs t y⟩
theorem HasTA.nil : HasTA K H n [] := ⟨[], by unfold tupdAll; rfl, λ d h => (by cases h), datAll_nil⟩
theorem HasTA.cons {x : V} {xs : List V} (h : HasT K H n x) (t : HasTA K H n xs) : HasTA K H n (x :: xs) := by
 obtain ⟨d, u, l, z⟩ := h
 obtain ⟨ds, us, ls, zs⟩ := t
 exact ⟨d :: ds, by unfold tupdAll; rw [u, us]; rfl, λ e he => (List.mem_cons.mp he).elim (λ z => z ▸ l) (ls e), datAll_cons z zs⟩
theorem HasTA.of : ∀ {xs : List V}, (∀ x ∈ xs, HasT K H n x) -> HasTA K H n xs
 | [], _ => .nil
 | x :: xs, h => .cons (h x List.mem_cons_self) (HasTA.of λ y hy => h y (List.mem_cons_of_mem _ hy))
theorem HasT.tup {a : Addr} {xs : List V} (h : SqT K H a xs) (t : HasTA K H n xs) : HasT K H (n + 1) (.ref a) := by
 obtain ⟨ds, us, ls, zs⟩ := t
 exact ⟨.tuple ds, by unfold tupd; exact us, Lay.tuple ls, datV_tuple h zs⟩
def RowT (K : W.Frag) (H : Hp) (x : RR) : Prop := RRok K H x /\ HasT K H 3 (.ref x.w.r)
theorem RowT.mono {x : RR} (h : RowT K H x) (e : Same H H') : RowT K H' x := ⟨Bg.RRok.mono h.1 e, h.2.mono e⟩
theorem rowS_ers {z : Addr} {xs : List V} {g : Option Str} {as : List V} (h : K12.RowS K H xs g as) (hz : NoT H z) : K12.RowS K (ers z H) xs g as := by
 cases h with
 | call x f p as hp => exact .call x f p as (sqT_ers hp hz)
 | copy x a => exact .copy x a
 | op x s a b => exact .op x s a b
 | new x => exact .new x
 | get x a f => exact .get x a f
 | put a f b => exact .put a f b
 | out a => exact .out a
 | back a => exact .back a
 | ifs a => exact .ifs a
 | whl a => exact .whl a
 | els => exact .els
 | fin => exact .fin
theorem fn_ers {z : Addr} {f : F2.Fd} (h : F2.FnAt K H f) (hz : NoT H z) : F2.FnAt K (ers z H) f := by
 have tt : ∀ {a : Addr} {xs : List V}, SqT K H a xs -> SqT K (ers z H) a xs := λ h => sqT_ers h hz
 refine ⟨tt h.fn, tt h.pr, tt h.rw_, λ w hw => ?_, ?_, h.wf, h.len⟩
 . obtain ⟨rest, h1, h2⟩ := h.rk w hw
   exact ⟨rest, tt h1, h2⟩
 . obtain ⟨n, b, pp, r, z1, z2, z3⟩ := h.fu.fn
   refine ⟨⟨n, b, pp, r, tt z1, tt z2, tt z3⟩, λ d hd => ?_, h.fu.pn, h.fu.pl, h.fu.dl⟩
   have hr := h.fu.rows d hd
   exact ⟨let ⟨xs, h1, h2⟩ := hr.row; ⟨xs, tt h1, rowS_ers h2 hz⟩, hr.ats, hr.len, hr.nm⟩
end
theorem good_blk {ks : List Str} (g : K13.Good ks []) : ∀ n, K13.Good (ks ++ (List.replicate n [("if" : Str), "else", "end"]).flatten) []
 | 0 => by rw [List.replicate_zero, List.flatten_nil, List.append_nil]; exact g
 | n + 1 => by
   have g0 := good_blk g n
   have g1 := ((g0.opn (x := "if") (by decide +kernel)).els').fin
   rw [List.replicate_succ', List.flatten_append]
   have e : ks ++ ((List.replicate n [("if" : Str), "else", "end"]).flatten ++ [[("if" : Str), "else", "end"]].flatten) = ks ++ (List.replicate n [("if" : Str), "else", "end"]).flatten ++ [("if" : Str)] ++ [("else" : Str)] ++ [("end" : Str)] := by simp
   rw [e]
   exact g1
theorem wf_pack (a n : Nat) : K13.Wf (List.replicate a ("copy" : Str) ++ (List.replicate n [("if" : Str), "else", "end"]).flatten ++ [("back" : Str)]) := by
 have g0 := good_rep K13.good_nil (x := "copy") (by decide +kernel) (by decide +kernel) (by decide +kernel) a
 rw [List.nil_append] at g0
 exact (good_blk g0 n).back
structure Bd where
 f : F2.Fd
 cnt : Nat
 e : Addr
structure EntAt (K : W.Frag) (H : Hp) (x : Bd) : Prop where
 en : SqL K H x.e [.ref x.f.fa, .int x.cnt]
 fn : F2.FnAt K H x.f
 hd : HasTA K H 4 [x.f.fo, .ref x.f.pa, .ref x.f.ra]
 ne : x.f.rs ≠ []
 cn : x.cnt <= 24
 ok : PyData.strOk x.f.name = true
 dr : SqT K H x.f.ra (x.f.ds.map λ d => V.ref d.r)
theorem EntAt.mono {K : W.Frag} {H H' : Hp} {x : Bd} (h : EntAt K H x) (e : Same H H') : EntAt K H' x := ⟨e.seq h.en, h.fn.mono e, h.hd.mono e, h.ne, h.cn, h.ok, e.tup h.dr⟩
theorem EntAt.has {K : W.Frag} {H : Hp} {x : Bd} (h : EntAt K H x) : HasT K H 5 (.ref x.f.fa) := HasT.tup h.fn.fn (.cons (.str h.ok) h.hd)
structure BuiltAt (K : W.Frag) (H : Hp) (b : Addr) (bs : List Bd) : Prop where
 ls : SqL K H b (bs.map λ x => V.ref x.e)
 all : ∀ x ∈ bs, EntAt K H x
 n0 : bs ≠ []
 n12 : bs.length <= 12
 nd : (bs.map λ x => x.f.name).Nodup
theorem BuiltAt.mono {K : W.Frag} {H H' : Hp} {b : Addr} {bs : List Bd} (h : BuiltAt K H b bs) (e : Same H H') : BuiltAt K H' b bs := ⟨e.seq h.ls, λ x hx => (h.all x hx).mono e, h.n0, h.n12, h.nd⟩
def nmF (fns : List F2.Fd) (k : Nat) : Str := (fns[k]?.map (·.name)).getD ""
theorem nmF_at {fns : List F2.Fd} {k : Nat} {f : F2.Fd} (h : fns[k]? = some f) : nmF fns k = f.name := by unfold nmF; rw [h]; rfl
theorem nmF_inj {fns : List F2.Fd} (nd : (fns.map (·.name)).Nodup) {i j : Nat} (hi : i < fns.length) (hj : j < fns.length) (h : nmF fns i = nmF fns j) : i = j := by
 rw [nmF_at (List.getElem?_eq_getElem hi), nmF_at (List.getElem?_eq_getElem hj)] at h
 have h1 : (fns.map (·.name))[i]? = some fns[i].name := by rw [List.getElem?_map, List.getElem?_eq_getElem hi]; rfl
 have h2 : (fns.map (·.name))[j]? = some fns[j].name := by rw [List.getElem?_map, List.getElem?_eq_getElem hj]; rfl
 rw [h] at h1
 exact (List.getElem?_inj (List.getElem?_eq_some_iff.mp h1).1 nd).mp (h1.trans h2.symm)
structure Mk where
 ch : List (Nat × Nat)
 vs : List (List (Option BTr))
def mk0 : Mk := ⟨[], []⟩
structure MOk (n : Nat) (m : Mk) : Prop where
 l3 : m.ch.length <= 3
 ix : ∀ c ∈ m.ch, c.1 < n /\ c.2 < 100
 vl : m.vs.length = m.ch.length
 c24 : ∀ v ∈ m.vs, v.length <= 24
 ok : ∀ v ∈ m.vs, ∀ o ∈ v, pok o
def CnOk (cn : Nat -> Nat) (m : Mk) : Prop := ∀ (l : Nat) c v, m.ch[l]? = some c -> m.vs[l]? = some v -> v.length = cn c.1
theorem mk0_ok (n : Nat) : MOk n mk0 := ⟨Nat.zero_le _, (λ c h => by cases h), rfl, (λ v h => by cases h), (λ v h => by cases h)⟩
theorem mk0_cn (cn : Nat -> Nat) : CnOk cn mk0 := λ l c v h => by cases h
def like (m0 : Mk) (l k : Nat) : Bool := match m0.ch[l]? with
 | some c => decide (c.1 = k)
 | none => false
def ahd (m0 : Mk) (l k : Nat) : List (Option BTr) := if like m0 l k = true then m0.vs.getD l [] else []
def fB (c : Nat × Nat) : List Nat := nb c.1 ++ nb c.2
def kAt (m : Mk) (l : Nat) : Nat := (m.ch.getD l (0, 0)).1
def vAt (m : Mk) (l : Nat) : List (Option BTr) := m.vs.getD l []
def wB (m0 m : Mk) (l : Nat) : List Nat := vb (ahd m0 l (kAt m l)) (vAt m l)
def mb (m0 m : Mk) : List Nat := nb m.ch.length ++ (m.ch.map fB).flatten ++ ((List.range m.ch.length).map (wB m0 m)).flatten
def prv (ms : List Mk) : Nat -> Mk
 | 0 => mk0
 | j + 1 => ms.getD j mk0
def mbs (ms : List Mk) (n : Nat) : List (List Nat) := (List.range n).map λ j => mb (prv ms j) (ms.getD j mk0)
def rowB (ms : List Mk) : List Nat := nb ms.length ++ (mbs ms ms.length).flatten
theorem mbs_succ (ms : List Mk) (n : Nat) : mbs ms (n + 1) = mbs ms n ++ [mb (prv ms n) (ms.getD n mk0)] := by unfold mbs; rw [List.range_succ, List.map_append]; rfl
theorem mbs_len (ms : List Mk) (n : Nat) : (mbs ms n).length = n := by unfold mbs; rw [List.length_map, List.length_range]
def wP (m0 m : Mk) (n : Nat) : List (List Nat) := ((List.range n).map λ l => vbL (ahd m0 l (kAt m l)) (vAt m l) (vAt m l).length).flatten
def mP (m0 m : Mk) : List (List Nat) := nb m.ch.length :: (m.ch.map fB ++ wP m0 m m.ch.length)
def rP (ms : List Mk) (n : Nat) : List (List Nat) := ((List.range n).map λ j => mP (prv ms j) (ms.getD j mk0)).flatten
theorem wP_succ (m0 m : Mk) (n : Nat) : wP m0 m (n + 1) = wP m0 m n ++ vbL (ahd m0 n (kAt m n)) (vAt m n) (vAt m n).length := by unfold wP; rw [List.range_succ, List.map_append, List.flatten_append]; simp
theorem rP_succ (ms : List Mk) (n : Nat) : rP ms (n + 1) = rP ms n ++ mP (prv ms n) (ms.getD n mk0) := by unfold rP; rw [List.range_succ, List.map_append, List.flatten_append]; simp
theorem wP_flat (m0 m : Mk) (n : Nat) : (wP m0 m n).flatten = ((List.range n).map (wB m0 m)).flatten := by
 induction n with
 | zero => rfl
 | succ n ih =>
   rw [wP_succ, List.flatten_append, ih, List.range_succ, List.map_append, List.flatten_append]
   congr 1
   simp [wB, vb]
theorem mP_flat (m0 m : Mk) : (mP m0 m).flatten = mb m0 m := by
 unfold mP mb
 rw [List.flatten_cons, List.flatten_append, wP_flat, List.append_assoc]
theorem rP_flat (ms : List Mk) (n : Nat) : (rP ms n).flatten = (mbs ms n).flatten := by
 induction n with
 | zero => rfl
 | succ n ih =>
   rw [rP_succ, List.flatten_append, ih, mP_flat, mbs_succ, List.flatten_append]
   simp
theorem nb64 {n : Nat} (h : n < 8 ^ 16) : (nb n).length <= 64 := nb_len 15 n h
theorem nb_small {n : Nat} (h : n < 1000) : (nb n).length <= 64 := nb64 (by rw [num16]; omega)
theorem fB_len {n : Nat} {m : Mk} (h : MOk n m) (hn : n <= 12) : ∀ x ∈ m.ch.map fB, x.length <= 128 := λ x hx => by
 obtain ⟨c, hc, rfl⟩ := List.mem_map.mp hx
 have h1 := h.ix c hc
 have h2 := nb_small (n := c.1) (by omega)
 have h3 := nb_small (n := c.2) (by omega)
 unfold fB
 rw [List.length_append]
 omega
theorem vAt_ok {n : Nat} {m : Mk} (h : MOk n m) (l : Nat) : (vAt m l).length <= 24 /\ ∀ o ∈ vAt m l, pok o := by
 unfold vAt
 rw [List.getD_eq_getElem?_getD]
 cases e : m.vs[l]? with
 | none => exact ⟨Nat.zero_le _, λ o h => by cases h⟩
 | some v => exact ⟨h.c24 v (List.mem_of_getElem? e), h.ok v (List.mem_of_getElem? e)⟩
theorem ahd_ok {n : Nat} {m : Mk} (h : MOk n m) (l k : Nat) : (ahd m l k).length <= 24 /\ ∀ o ∈ ahd m l k, pok o := by
 unfold ahd
 split
 . exact vAt_ok h l
 . exact ⟨Nat.zero_le _, λ o h => by cases h⟩
theorem wB_len {n : Nat} {m0 m : Mk} (h : MOk n m) (l : Nat) : (wB m0 m l).length <= 14400 := by
 have h1 := vAt_ok h l
 have h2 := vb_len (ah := ahd m0 l (kAt m l)) h1.2
 have : (vAt m l).length * 600 <= 24 * 600 := Nat.mul_le_mul_right _ h1.1
 unfold wB
 omega
theorem mb_len {n : Nat} {m0 m : Mk} (h : MOk n m) (hn : n <= 12) : (mb m0 m).length <= 43700 := by
 have h1 := nb_small (n := m.ch.length) (by have := h.l3; omega)
 have h2 := flat_le (fB_len h hn)
 have h3 := flat_le (l := (List.range m.ch.length).map (wB m0 m)) (c := 14400) λ x hx => by
   obtain ⟨l, _, rfl⟩ := List.mem_map.mp hx
   exact wB_len h l
 rw [List.length_map, List.length_range] at h3
 rw [List.length_map] at h2
 have := h.l3
 have a1 : m.ch.length * 14400 <= 3 * 14400 := Nat.mul_le_mul_right _ this
 have a2 : m.ch.length * 128 <= 3 * 128 := Nat.mul_le_mul_right _ this
 unfold mb
 rw [List.length_append, List.length_append]
 omega
theorem mbs_le {n : Nat} {ms : List Mk} (h : ∀ m ∈ ms, MOk n m) (hn : n <= 12) (k : Nat) (hk : k <= ms.length) : ∀ x ∈ mbs ms k, x.length <= 43700 := λ x hx => by
 obtain ⟨j, hj, rfl⟩ := List.mem_map.mp hx
 have hj := List.mem_range.mp hj
 refine mb_len (h _ ?_) hn
 rw [List.getD_eq_getElem?_getD, List.getElem?_eq_getElem (by omega)]
 exact List.getElem_mem _
theorem rowB_len {n : Nat} {ms : List Mk} (h : ∀ m ∈ ms, MOk n m) (hn : n <= 12) (hl : ms.length <= 200) : (rowB ms).length <= 8800000 := by
 have h1 := nb_small (n := ms.length) (by omega)
 have h2 := flat_le (mbs_le h hn ms.length (Nat.le_refl _))
 rw [mbs_len] at h2
 have a1 : ms.length * 43700 <= 200 * 43700 := Nat.mul_le_mul_right _ hl
 unfold rowB
 rw [List.length_append]
 omega
def plD (v : List (Option BTr)) : PyData := .list (v.map btO)
def frD (c : Nat × Nat) : PyData := .tuple [.int c.1, .int c.2]
def mkD (m : Mk) : PyData := .tuple [.list (m.ch.map frD), .list (m.vs.map plD)]
def tfD (nm : Nat -> Str) (c : Nat × Nat) : PyData := .tuple [.str (nm c.1), .int c.2]
def tmD (nm : Nat -> Str) (m : Mk) : PyData := .tuple [.tuple (m.ch.map (tfD nm)), .list (m.vs.map plD)]
def teD (nm : Nat -> Str) (e : Str × List Mk) : PyData := .tuple [.str e.1, .list (e.2.map (tmD nm))]
theorem lay_map {α : Type} {n : Nat} {f : α -> PyData} {l : List α} (h : ∀ a ∈ l, Lay n (f a)) : ∀ d ∈ l.map f, Lay n d := λ d hd => by
 obtain ⟨a, ha, rfl⟩ := List.mem_map.mp hd
 exact h a ha
theorem lay_two {n : Nat} {a b : PyData} (h1 : Lay n a) (h2 : Lay n b) : ∀ d ∈ [a, b], Lay n d := λ d hd => by
 rcases List.mem_cons.mp hd with e | hd
 . rw [e]; exact h1
 . rw [List.mem_singleton.mp hd]; exact h2
theorem pl_lay {v : List (Option BTr)} (h : ∀ o ∈ v, pok o) : Lay 9 (plD v) := Lay.list (lay_map λ o ho => bo_lay (h o ho))
theorem tm_lay {n : Nat} {nm : Nat -> Str} {m : Mk} (h : MOk n m) (hs : ∀ k < n, PyData.strOk (nm k) = true) : Lay 11 (tmD nm m) :=
 Lay.tuple (lay_two (Lay.tuple (n := 9) (lay_map λ c hc => Lay.tuple (n := 8) (lay_two (.str (hs _ (h.ix c hc).1)) (.int _)))) (Lay.list (lay_map λ v hv => pl_lay (h.ok v hv))))
theorem te_lay {n : Nat} {nm : Nat -> Str} {e : Str × List Mk} (h : ∀ m ∈ e.2, MOk n m) (hs : ∀ k < n, PyData.strOk (nm k) = true) (h1 : PyData.strOk e.1 = true) : Lay 13 (teD nm e) :=
 Lay.tuple (lay_two (.str h1) (Lay.list (lay_map λ m hm => tm_lay (h m hm) hs)))
theorem tf_tup (nm : Nat -> Str) (c : Nat × Nat) : tupd (tfD nm c) = true := by unfold tfD tupd tupdAll tupdAll tupdAll; unfold tupd; rfl
theorem fr_tup (c : Nat × Nat) : tupd (frD c) = true := by unfold frD tupd tupdAll tupdAll tupdAll; unfold tupd; rfl
theorem tupdAll_map {α : Type} {f : α -> PyData} (h : ∀ a, tupd (f a) = true) : ∀ l : List α, tupdAll (l.map f) = true
 | [] => by show tupdAll [] = true; unfold tupdAll; rfl
 | a :: l => by rw [List.map_cons]; unfold tupdAll; rw [h a, tupdAll_map h l]; rfl
theorem ch_tup (nm : Nat -> Str) (ch : List (Nat × Nat)) : tupd (.tuple (ch.map (tfD nm))) = true := by unfold tupd; exact tupdAll_map (tf_tup nm) ch
end Pk
namespace Pk
open PySem L2 Gx Bt Bg K41
theorem dat_cut {K : W.Frag} {H : Hp} {ah : List (Option BTr)} {ys : List V} (h : DatAll K H (ah.map btO) ys) (i : Nat) : DatAll K H ((ah[i]?).toList.map btO) (ys[i]?).toList := by
 cases e : ah[i]? with
 | none =>
   have : ys[i]? = none := List.getElem?_eq_none (by
     have := List.getElem?_eq_none_iff.mp e
     rw [da_len h, List.length_map]
     exact this)
   rw [this]
   exact datAll_nil
 | some a =>
   obtain ⟨x, hx, hd⟩ := da_get h e
   rw [hx]
   exact datAll_cons hd datAll_nil
theorem eqv1 (x y : PyData) : PyData.eqv (.list [x]) (.list [y]) = PyData.eqv x y := by rw [show PyData.eqv (.list [x]) (.list [y]) = PyData.eqvAll [x] [y] by rw [PyData.eqv], PyData.eqvAll, PyData.eqvAll, Bool.and_true]
theorem lk_eqv (ah : List (Option BTr)) (o : Option BTr) (i : Nat) : PyData.eqv (.list ((ah[i]?).toList.map btO)) (.list [btO o]) = lk ah o i := by
 unfold lk
 cases ah[i]? with
 | none => show PyData.eqv (.list []) _ = _; unfold PyData.eqv PyData.eqvAll; rfl
 | some a => exact eqv1 _ _
theorem lay1 {n : Nat} {l : List (Option BTr)} (h : ∀ o ∈ l, pok o) : SeqAt.shaped (.list (l.map btO)) = true := (Lay.list (lay_map λ o ho => bo_lay (h o ho))).shaped (by decide : 9 <= 64)
theorem strs_snoc (l : List (List Nat)) (x : List Nat) : ((l ++ [x]).map tx).map V.str = (l.map tx).map V.str ++ [V.str (tx x)] := by rw [List.map_append, List.map_append]; rfl
theorem strs_len (l : List (List Nat)) : ((l.map tx).map V.str).length = l.length := by rw [List.length_map, List.length_map]
theorem join_ok {l : List (List Nat)} (h : l.flatten.length <= 16777216) : ((l.map tx).map (·.length)).sum + (l.map tx).length * ("" : Str).length <= 16777216 := by
 rw [sum_tx, <- List.length_flatten]
 show l.flatten.length + (l.map tx).length * 0 <= 16777216
 omega
theorem mem_one {α : Type} {p : α -> Prop} {a : α} (h : p a) : ∀ b ∈ [a], p b := λ b hb => by rw [List.mem_singleton.mp hb]; exact h
theorem wk_strs (b k : Int) : (((List.range (wsz b)).map λ j : Nat => V.str (tx [lc (part b j 26)])).set (wat b) (V.str (tx [lc ((part b 10 26 + k) % 26)]))) = (((wk b k).map λ c => [c]).map tx).map V.str := by
 have e : ((List.range (wsz b)).map λ j : Nat => V.str (tx [lc (part b j 26)])) = (wd b).map λ c => V.str (tx [c]) := by unfold wd; rw [List.map_map]; rfl
 rw [e, List.map_map, List.map_map]
 unfold wk
 rw [List.map_set]
 rfl
theorem flat_sing : ∀ l : List Nat, (l.map λ c => [c]).flatten = l
 | [] => rfl
 | x :: l => by rw [List.map_cons, List.flatten_cons, flat_sing l]; rfl
def tab3 : List V := [V.str "000", V.str "001", V.str "010", V.str "011", V.str "100", V.str "101", V.str "110", V.str "111"]
theorem tab3_at : ∀ d < 8, atI tab3 (d : Nat) = some (V.str (tx (pb d 3))) := by decide +kernel
def seedF (ns : List Int) (k : Int) : Int := if (0 : Int) < (ns.length : Int) then ns.getD (k % (ns.length : Int)).toNat 0 % 999983 else 7
def cellF (ns : List Int) (k : Int) : Int := if k < (ns.length : Int) then ns.getD k.toNat 0 else (seedF ns k + 613 * k + 29) * (seedF ns k + 71 * k + 5) % 1000003
theorem ent_ers {K : W.Frag} {H : Hp} {x : Bd} {z : Addr} {ys : List V} (h : EntAt K H x) (hz : H z = some (.lst ys)) (he : H x.e = some (.lst [.ref x.f.fa, .int x.cnt])) (hn : x.e ≠ z) : EntAt K (ers z H) x :=
 ⟨sqL_ers he hn, fn_ers h.fn (.lst hz), h.hd.ers (.lst hz), h.ne, h.cn, h.ok, sqT_ers h.dr (.lst hz)⟩
theorem names_nd {b : Int} {n : Nat} (h : n <= 12) : ((List.range n).map λ j : Nat => nmL b ((j : Int) + 3)).Nodup := by
 refine List.pairwise_map.mpr (List.Pairwise.imp_of_mem (λ {i j} hi hj hlt e => ?_) List.pairwise_lt_range)
 have h1 := List.mem_range.mp hi
 have h2 := List.mem_range.mp hj
 have := nmL_inj e
 omega
theorem names_nd2 {b : Int} {n : Nat} (h : n <= 12) : ((List.range n).map λ j : Nat => nmL b (25 - (j : Int))).Nodup := by
 refine List.pairwise_map.mpr (List.Pairwise.imp_of_mem (λ {i j} hi hj hlt e => ?_) List.pairwise_lt_range)
 have h1 := List.mem_range.mp hi
 have h2 := List.mem_range.mp hj
 have := nmL_inj e
 omega
theorem DatAll.putT {K : W.Frag} {H : Hp} {ds : List PyData} {xs ys : List V} {p : Addr} {o : HO} (t : tupdAll ds = true) (hp : H p = some (.lst ys)) (h : DatAll K H ds xs) : DatAll K (upd H p o) ds xs := L2.DatAll.mono ers_put _ _ (DatAll.ersT (.lst hp) _ _ t h)
theorem ers3_upd {y z l : Addr} {H : Hp} {o : HO} : ers y (ers z (ers l (upd H y o))) = ers y (ers z (ers l H)) := by
 funext b
 unfold ers upd
 by_cases h : b = y
 . rw [if_pos h, if_pos h]
 . rw [if_neg h, if_neg h, if_neg h]
theorem bos_tup (l : List (Option BTr)) : tupdAll (l.map btO) = true := tupdAll_map bo_tup l
theorem eqv_nil (l : List PyData) : PyData.eqv (.list l) (.list []) = l.isEmpty := by
 rw [show PyData.eqv (.list l) (.list []) = PyData.eqvAll l [] by rw [PyData.eqv]]
 cases l with
 | nil => rw [PyData.eqvAll]; rfl
 | cons a l => rw [PyData.eqvAll]; rfl
theorem set_last (xs : List V) (x y : V) : (xs ++ [x]).set xs.length y = xs ++ [y] := by simp
theorem ix_last (n : Nat) : ixN (n + 1) (-1) = some n := by
 unfold ixN
 rw [if_neg (by decide), if_pos (by omega)]
 congr 1
 omega
theorem rr_ds {K : W.Frag} {H : Hp} {rr : List RR} {a : Addr} (h : SqT K H a (rr.map λ x => V.ref x.w.r)) (h3 : ∀ x ∈ rr, RRok K H x) : SqT K H a ((rr.map (·.d)).map λ d => V.ref d.r) := by
 rw [List.map_map]
 have : (rr.map λ x => V.ref x.w.r) = rr.map ((λ d => V.ref d.r) ∘ (·.d)) := List.map_congr_left λ x hx => by
   show V.ref x.w.r = V.ref x.d.r
   rw [(h3 x hx).1]
 rw [<- this]
 exact h
theorem fn_named {K : W.Frag} {H : Hp} {x : Bd} {nm : Str} {fa : Addr} (h : EntAt K H x) (hf : SqT K H fa [.str nm, x.f.fo, .ref x.f.pa, .ref x.f.ra]) : F2.FnAt K H ⟨nm, x.f.fo, fa, x.f.pa, x.f.ra, x.f.ps, x.f.rs, x.f.ds⟩ :=
 ⟨hf, h.fn.pr, h.fn.rw_, h.fn.rk, ⟨⟨_, _, _, _, hf, h.fn.pr, h.dr⟩, h.fn.fu.rows, h.fn.fu.pn, h.fn.fu.pl, h.fn.fu.dl⟩, h.fn.wf, h.fn.len⟩
def stx (l : List (List Nat)) : List V := (l.map tx).map V.str
theorem stx_snoc (l : List (List Nat)) (x : List Nat) : stx (l ++ [x]) = stx l ++ [V.str (tx x)] := strs_snoc l x
theorem stx_len (l : List (List Nat)) : (stx l).length = l.length := strs_len l
theorem wP_len {n : Nat} {m0 m : Mk} (h : MOk n m) : ∀ l, (wP m0 m l).length <= 24 * l
 | 0 => Nat.le_refl _
 | l + 1 => by
   have := wP_len (m0 := m0) h l
   have := (vAt_ok h l).1
   rw [wP_succ, List.length_append, vbL_len]
   omega
theorem mP_len {n : Nat} {m0 m : Mk} (h : MOk n m) : (mP m0 m).length <= 76 := by
 have := wP_len (m0 := m0) h m.ch.length
 have := h.l3
 unfold mP
 rw [List.length_cons, List.length_append, List.length_map]
 omega
theorem rP_len {n : Nat} {ms : List Mk} (h : ∀ m ∈ ms, MOk n m) : ∀ k, k <= ms.length -> (rP ms k).length <= 76 * k
 | 0, _ => Nat.le_refl _
 | k + 1, hk => by
   have h1 := rP_len h k (by omega)
   have h2 : (mP (prv ms k) (ms.getD k mk0)).length <= 76 := mP_len (h _ (by
     rw [List.getD_eq_getElem?_getD, List.getElem?_eq_getElem (by omega)]
     exact List.getElem_mem _))
   rw [rP_succ, List.length_append]
   omega
theorem fB_tx (c : Nat × Nat) : tx (nb c.1) ++ tx (nb c.2) = tx (fB c) := tx_app _ _
theorem row_flat (ms : List Mk) : (nb ms.length :: rP ms ms.length).flatten = rowB ms := by
 unfold rowB
 rw [List.flatten_cons, rP_flat]
theorem vAt_of {m : Mk} {l : Nat} {v : List (Option BTr)} (h : m.vs[l]? = some v) : vAt m l = v := by unfold vAt; rw [List.getD_eq_getElem?_getD, h]; rfl
theorem kAt_of {m : Mk} {l : Nat} {c : Nat × Nat} (h : m.ch[l]? = some c) : kAt m l = c.1 := by unfold kAt; rw [List.getD_eq_getElem?_getD, h]; rfl
theorem mark_flat (m0 m : Mk) : (nb m.ch.length :: (m.ch.map fB ++ (List.range m.ch.length).map (wB m0 m))).flatten = mb m0 m := by
 unfold mb
 rw [List.flatten_cons, List.flatten_append, List.append_assoc]
theorem rows_flat (ms : List Mk) : (nb ms.length :: mbs ms ms.length).flatten = rowB ms := by
 unfold rowB
 rw [List.flatten_cons]
def nwL (H0 H : Hp) : Hp := λ b => match H0 b with
 | some (.lst _) => none
 | _ => H b
section
variable {K : W.Frag} {H0 H H' : Hp}
theorem nwL_un {b : Addr} {o : HO} (h : nwL H0 H b = some o) : (∀ ys, H0 b ≠ some (.lst ys)) /\ H b = some o := by
 unfold nwL at h
 split at h
 . cases h
 . rename_i e
   exact ⟨λ ys z => e ys z, h⟩
theorem nwL_mk {b : Addr} (h : ∀ ys, H0 b ≠ some (.lst ys)) : nwL H0 H b = H b := by
 unfold nwL
 split
 . rename_i ys e
   exact absurd e (h ys)
 . rfl
theorem nwL_new {b : Addr} (h : H0 b = none) : nwL H0 H b = H b := nwL_mk λ ys z => by rw [h] at z; cases z
theorem nwL_same : Same (nwL H0 H) H := λ b o h => (nwL_un h).2
theorem Same.nwL (e : Same H H') : Same (nwL H0 H) (nwL H0 H') := λ b o h => by
 have := nwL_un h
 rw [nwL_mk this.1]
 exact e b o this.2
theorem sqT_nw {a : Addr} {xs : List V} (e : Same H0 H) (h : SqT K H a xs) : SqT K (nwL H0 H) a xs := by
 have key : ∀ o : HO, H a = some o -> (∀ ys, o ≠ .lst ys) -> nwL H0 H a = some o := λ o ho hn => by
   rw [nwL_mk λ ys z => ?_]
   . exact ho
   . have := e _ _ z
     rw [ho] at this
     exact hn ys (Option.some.inj this)
 rcases h with (h | ⟨o, h⟩) | h
 . exact .inl (.inl (key _ h (by intro ys z; cases z)))
 . exact .inl (.inr ⟨o, key _ h (by intro ys z; cases z)⟩)
 . exact .inr h
mutual
theorem DatV.nwT (e : Same H0 H) : ∀ (d : PyData) (v : V), tupd d = true -> DatV K H d v -> DatV K (nwL H0 H) d v
 | .none, v, t, h => by unfold DatV at h ⊢; exact h
 | .bool b, v, t, h => by unfold DatV at h ⊢; exact h
 | .int i, v, t, h => by unfold DatV at h ⊢; exact h
 | .str x, v, t, h => by unfold DatV at h ⊢; exact h
 | .list ds, v, t, h => by unfold tupd at t; cases t
 | .tuple ds, v, t, h => by
   unfold DatV at h ⊢
   unfold tupd at t
   obtain ⟨a, xs, rfl, hq, hd⟩ := h
   exact ⟨a, xs, rfl, sqT_nw e hq, DatAll.nwT e ds xs t hd⟩
 | .dict _, v, t, h => by unfold tupd at t; cases t
theorem DatAll.nwT (e : Same H0 H) : ∀ (ds : List PyData) (xs : List V), tupdAll ds = true -> DatAll K H ds xs -> DatAll K (nwL H0 H) ds xs
 | [], xs, t, h => by unfold DatAll at h ⊢; exact h
 | d :: ds, xs, t, h => by
   unfold DatAll at h ⊢
   unfold tupdAll at t
   rw [Bool.and_eq_true] at t
   obtain ⟨x, r, rfl, hd, hds⟩ := h
   exact ⟨x, r, rfl, DatV.nwT e d x t.1 hd, DatAll.nwT e ds r t.2 hds⟩
end
theorem ers_nwL_upd {l : Addr} {o : HO} : ers l (nwL H0 (upd H l o)) = ers l (nwL H0 H) := by
 funext b
 by_cases h : b = l
 . subst h; unfold ers; rw [if_pos rfl, if_pos rfl]
 . rw [ers_ne h, ers_ne h]
   unfold nwL
   rw [upd_ne h]
end
def bts (l : List Nat) : Prop := ∀ x ∈ l, x = 48 \/ x = 49
theorem bts_nil : bts [] := λ x h => by cases h
theorem bts_cons {c : Nat} {l : List Nat} (h : c = 48 \/ c = 49) (t : bts l) : bts (c :: l) := λ x hx => (List.mem_cons.mp hx).elim (λ e => e ▸ h) (t x)
theorem bts_app {a b : List Nat} (h : bts a) (t : bts b) : bts (a ++ b) := λ x hx => (List.mem_append.mp hx).elim (h x) (t x)
theorem bts_flat {l : List (List Nat)} (h : ∀ x ∈ l, bts x) : bts l.flatten := λ c hc => by
 obtain ⟨x, hx, hc⟩ := List.mem_flatten.mp hc
 exact h x hx c hc
theorem bts_pb (n c : Nat) : bts (pb n c) := λ x hx => pb_bit hx
theorem bts_nb (n : Nat) : bts (nb n) := by
 induction n using Nat.strongRecOn with
 | _ n ih =>
   by_cases h : n < 8
   . rw [nb_low h]; exact bts_cons (.inl rfl) (bts_pb _ _)
   . rw [nb_high h]; exact bts_app (bts_cons (.inr rfl) (bts_pb _ _)) (ih (n / 8) (by omega))
theorem bts_rb : ∀ t : BTr, bts (rb t)
 | .box k => bts_cons (.inl rfl) (bts_nb k)
 | .num k => bts_cons (.inr rfl) (bts_cons (.inl rfl) (bts_nb k))
 | .op i l r => bts_app (bts_app (bts_cons (.inr rfl) (bts_cons (.inr rfl) (bts_pb _ _))) (bts_rb l)) (bts_rb r)
theorem bts_ob (o : Option BTr) : bts (ob o) := by
 cases o with
 | none => exact bts_cons (.inl rfl) (bts_cons (.inl rfl) bts_nil)
 | some t => exact bts_cons (.inr rfl) (bts_rb t)
theorem bts_vb (ah pl : List (Option BTr)) : bts (vb ah pl) := bts_flat λ x hx => by
 obtain ⟨i, _, rfl⟩ := List.mem_map.mp hx
 unfold vb1
 split
 . exact bts_cons (.inl rfl) (bts_cons (.inr rfl) bts_nil)
 . exact bts_ob _
theorem bts_mb (m0 m : Mk) : bts (mb m0 m) := bts_app (bts_app (bts_nb _) (bts_flat λ x hx => by
 obtain ⟨c, _, rfl⟩ := List.mem_map.mp hx
 exact bts_app (bts_nb _) (bts_nb _))) (bts_flat λ x hx => by
 obtain ⟨l, _, rfl⟩ := List.mem_map.mp hx
 exact bts_vb _ _)
theorem bts_row (ms : List Mk) : bts (rowB ms) := bts_app (bts_nb _) (bts_flat λ x hx => by
 obtain ⟨j, _, rfl⟩ := List.mem_map.mp hx
 exact bts_mb _ _)
theorem bts_ok {l : List Nat} (h : bts l) : PyData.strOk (tx l) = true := by
 unfold PyData.strOk
 rw [Array.all_eq_true']
 intro x hx
 have hx : x ∈ l := by simpa [tx] using hx
 rcases h x hx with e | e <;> subst e <;> decide
end Pk
namespace K83
open PySem L2 Gx Fl Bt Pk
def top (i : Nat) : Stmt := PySem.Challenge.pw_stopglass_k83_tables_packed.main.body.getD i (.Pass ⟨0, 0, 0, 0⟩)
abbrev s_names_of : Stmt := top 4
abbrev s_reads : Stmt := top 5
abbrev s_gives : Stmt := top 6
abbrev s_atoms_of : Stmt := top 7
abbrev s_each_once : Stmt := top 8
abbrev s_ways : Stmt := top 9
abbrev s_begins_of : Stmt := top 10
abbrev s_firsts_behind : Stmt := top 11
abbrev s_Flows_init : Stmt := inClass (top 12) 0
abbrev s_number_bits : Stmt := top 18
abbrev s_plain_bits : Stmt := top 19
abbrev s_place_bits : Stmt := top 20
abbrev s_reckoning_bits : Stmt := top 21
abbrev s_pack : Stmt := top 22
abbrev s_marks_bits : Stmt := top 23
abbrev s_mark_bits : Stmt := top 24
abbrev s_view_bits : Stmt := top 25
abbrev s_views_ahead : Stmt := top 26
abbrev s_l_cell : Stmt := top 28
abbrev s_l_part : Stmt := top 29
abbrev s_l_name : Stmt := top 30
abbrev s_l_function : Stmt := top 31
abbrev s_l_program : Stmt := top 32
abbrev s_l_tree : Stmt := top 33
abbrev s_l_place : Stmt := top 34
abbrev s_l_chain : Stmt := top 35
abbrev s_l_marks : Stmt := top 36
abbrev s_l_number : Stmt := top 37
abbrev s_l_bits : Stmt := top 38
abbrev s_l_row : Stmt := top 39
abbrev s_l_told : Stmt := top 40
abbrev s_l_table : Stmt := top 41
abbrev s_l_renamed : Stmt := top 42
abbrev s_l_all_marks : Stmt := top 43
abbrev s_law : Stmt := top 44
set_option genInjectivity false in
set_option genSizeOf false in
structure Adr where
 c_Flows : Addr
 a_names_of : Addr
 d_names_of : FuncData
 a_reads : Addr
 d_reads : FuncData
 a_gives : Addr
 d_gives : FuncData
 a_atoms_of : Addr
 d_atoms_of : FuncData
 a_each_once : Addr
 d_each_once : FuncData
 a_ways : Addr
 d_ways : FuncData
 a_begins_of : Addr
 d_begins_of : FuncData
 a_firsts_behind : Addr
 d_firsts_behind : FuncData
 a_Flows_init : Addr
 d_Flows_init : FuncData
 a_number_bits : Addr
 d_number_bits : FuncData
 a_plain_bits : Addr
 d_plain_bits : FuncData
 a_place_bits : Addr
 d_place_bits : FuncData
 a_reckoning_bits : Addr
 d_reckoning_bits : FuncData
 a_pack : Addr
 d_pack : FuncData
 a_marks_bits : Addr
 d_marks_bits : FuncData
 a_mark_bits : Addr
 d_mark_bits : FuncData
 a_view_bits : Addr
 d_view_bits : FuncData
 a_views_ahead : Addr
 d_views_ahead : FuncData
 a_l_cell : Addr
 d_l_cell : FuncData
 a_l_part : Addr
 d_l_part : FuncData
 a_l_name : Addr
 d_l_name : FuncData
 a_l_function : Addr
 d_l_function : FuncData
 a_l_program : Addr
 d_l_program : FuncData
 a_l_tree : Addr
 d_l_tree : FuncData
 a_l_place : Addr
 d_l_place : FuncData
 a_l_chain : Addr
 d_l_chain : FuncData
 a_l_marks : Addr
 d_l_marks : FuncData
 a_l_number : Addr
 d_l_number : FuncData
 a_l_bits : Addr
 d_l_bits : FuncData
 a_l_row : Addr
 d_l_row : FuncData
 a_l_told : Addr
 d_l_told : FuncData
 a_l_table : Addr
 d_l_table : FuncData
 a_l_renamed : Addr
 d_l_renamed : FuncData
 a_l_all_marks : Addr
 d_l_all_marks : FuncData
 a_law : Addr
 d_law : FuncData
 a_GIVING : Addr
 a_SIGNS : Addr
 a_TAB : Addr
structure Txt (K : W.Frag) (mg : Str -> Option Value) (t : Adr) : Prop where
 names_of : DefOk K mg "names_of" s_names_of ["function"] t.a_names_of t.d_names_of
 reads : DefOk K mg "reads" s_reads ["row"] t.a_reads t.d_reads
 gives : DefOk K mg "gives" s_gives ["row"] t.a_gives t.d_gives
 atoms_of : DefOk K mg "atoms_of" s_atoms_of ["row"] t.a_atoms_of t.d_atoms_of
 each_once : DefOk K mg "each_once" s_each_once ["names"] t.a_each_once t.d_each_once
 ways : DefOk K mg "ways" s_ways ["rows"] t.a_ways t.d_ways
 begins_of : DefOk K mg "begins_of" s_begins_of ["rows"] t.a_begins_of t.d_begins_of
 firsts_behind : DefOk K mg "firsts_behind" s_firsts_behind ["rows", "begins"] t.a_firsts_behind t.d_firsts_behind
 Flows_init : IniOk K t.c_Flows "Flows.__init__" s_Flows_init ["self", "program"] t.a_Flows_init t.d_Flows_init
 number_bits : DefOk K mg "number_bits" s_number_bits ["number"] t.a_number_bits t.d_number_bits
 plain_bits : DefOk K mg "plain_bits" s_plain_bits ["number", "count"] t.a_plain_bits t.d_plain_bits
 place_bits : DefOk K mg "place_bits" s_place_bits ["place"] t.a_place_bits t.d_place_bits
 reckoning_bits : DefOk K mg "reckoning_bits" s_reckoning_bits ["one"] t.a_reckoning_bits t.d_reckoning_bits
 pack : DefOk K mg "pack" s_pack ["program", "table"] t.a_pack t.d_pack
 marks_bits : DefOk K mg "marks_bits" s_marks_bits ["flows", "marks"] t.a_marks_bits t.d_marks_bits
 mark_bits : DefOk K mg "mark_bits" s_mark_bits ["flows", "before", "mark"] t.a_mark_bits t.d_mark_bits
 view_bits : DefOk K mg "view_bits" s_view_bits ["places", "ahead"] t.a_view_bits t.d_view_bits
 views_ahead : DefOk K mg "views_ahead" s_views_ahead ["before", "chain"] t.a_views_ahead t.d_views_ahead
 l_cell : DefOk K mg "_law_cell" s_l_cell ["_law_script", "_law_k"] t.a_l_cell t.d_l_cell
 l_part : DefOk K mg "_law_part" s_l_part ["_law_cell_here", "_law_j", "_law_many"] t.a_l_part t.d_l_part
 l_name : DefOk K mg "_law_name" s_l_name ["_law_cell_here", "_law_k"] t.a_l_name t.d_l_name
 l_function : DefOk K mg "_law_function" s_l_function ["_law_cell_here", "_law_k", "_law_base", "_law_big"] t.a_l_function t.d_l_function
 l_program : DefOk K mg "_law_program" s_l_program ["_law_script", "_law_big"] t.a_l_program t.d_l_program
 l_tree : DefOk K mg "_law_tree" s_l_tree ["_law_cell_here", "_law_many"] t.a_l_tree t.d_l_tree
 l_place : DefOk K mg "_law_place" s_l_place ["_law_cell_here"] t.a_l_place t.d_l_place
 l_chain : DefOk K mg "_law_chain" s_l_chain ["_law_cell_here", "_law_built", "_law_last"] t.a_l_chain t.d_l_chain
 l_marks : DefOk K mg "_law_marks" s_l_marks ["_law_script", "_law_at", "_law_built", "_law_many"] t.a_l_marks t.d_l_marks
 l_number : DefOk K mg "_law_number" s_l_number ["_law_number_here"] t.a_l_number t.d_l_number
 l_bits : DefOk K mg "_law_bits" s_l_bits ["_law_one"] t.a_l_bits t.d_l_bits
 l_row : DefOk K mg "_law_row" s_l_row ["_law_marks_here"] t.a_l_row t.d_l_row
 l_told : DefOk K mg "_law_told" s_l_told ["_law_built", "_law_marks_here"] t.a_l_told t.d_l_told
 l_table : DefOk K mg "_law_table" s_l_table ["_law_built", "_law_all_marks_here"] t.a_l_table t.d_l_table
 l_renamed : DefOk K mg "_law_renamed" s_l_renamed ["_law_built", "_law_base"] t.a_l_renamed t.d_l_renamed
 l_all_marks : DefOk K mg "_law_all_marks" s_l_all_marks ["_law_script", "_law_built", "_law_big"] t.a_l_all_marks t.d_l_all_marks
 law : DefOk K mg "law" s_law ["_law_script"] t.a_law t.d_law
 cl_Flows : ClsOk K mg "Flows" t.c_Flows
 n_Flows_last : NoAttr K t.c_Flows "last"
 n_Flows_number_of : NoAttr K t.c_Flows "number_of"
 n_Flows_folded_of : NoAttr K t.c_Flows "folded_of"
 n_Flows_params_of : NoAttr K t.c_Flows "params_of"
 n_Flows_rows_of : NoAttr K t.c_Flows "rows_of"
 n_Flows_names_in : NoAttr K t.c_Flows "names_in"
 n_Flows_ways_in : NoAttr K t.c_Flows "ways_in"
 c_SIGN_BITS : ∃ tk, mg "SIGN_BITS" = some (.int 4 tk)
 c_GONE_BITS : ∃ tk, mg "GONE_BITS" = some (.str "00" tk)
 c_AS_AHEAD_BITS : ∃ tk, mg "AS_AHEAD_BITS" = some (.str "01" tk)
 c_GIVING_KINDS : mg "GIVING_KINDS" = some (.ref t.a_GIVING)
 q_GIVING : ∀ H : Hp, SqT K H t.a_GIVING (K12.giving.map V.str)
 c_SIGNS : mg "SIGNS" = some (.ref t.a_SIGNS)
 t_SIGNS : ∀ H : Hp, SqT K H t.a_SIGNS sgTup
 d_SIGNS : ∃ o, K.lookup t.a_SIGNS = some o /\ o.cls = .type "tuple" /\ o.dict = none
 c_ATOM_PLACES : mg "ATOM_PLACES" = some (.ref t.a_TAB)
 q_TAB : TabK K t.a_TAB K12.tabl
 b_len : mg "len" = none
 b_list : mg "list" = none
 b_tuple : mg "tuple" = none
 b_isinstance : mg "isinstance" = none
 b_range : mg "range" = none
 b_all : mg "all" = none
 b_enumerate : mg "enumerate" = none
 b_dict : mg "dict" = none
 b_str : mg "str" = none
 b_zip : mg "zip" = none
 b_divmod : mg "divmod" = none
 bl : ∀ (s : Shared) (u : Value), BindsTo s t.d_law ⟨[u], []⟩ [("_law_script", u)]
section
variable {P : Program} {w : World} {K : W.Frag} {mg : Str -> Option Value} {base : Heap} {t : Adr}
inductive S_Flows_init (K : W.Frag) (t : Adr)  (vs : List V) (H : Hp) (Q : VK) : Prop
 | mk (x dx p : Addr) (fns : List F2.Fd) (k0 : vs = [.ref x, .ref p]) (k1 : H x = some (.ins t.c_Flows dx [])) (k2 : SqL K (ers x H) p (fns.map λ f => V.ref f.fa)) (k3 : fns ≠ []) (k4 : fns.length <= 12) (k5 : (∀ f ∈ fns, F2.FnAt K (ers x H) f)) (k6 : (fns.map (·.name)).Nodup) (k7 : ∀ H', Same (ers x H) H' -> F2.FlowsAt K t.c_Flows H' x fns -> Q .non H') : S_Flows_init K t vs H Q
def sp_Flows_init (K : W.Frag) (t : Adr)  : Sp := λ vs H Q _ => S_Flows_init K t vs H Q
inductive S_plain_bits (K : W.Frag)  (vs : List V) (H : Hp) (Q : VK) : Prop
 | mk (n c : Nat) (k0 : vs = [.int n, .int c]) (k1 : c <= 8) (k2 : ∀ H', Same H H' -> Q (.str (tx (pb n c))) H') : S_plain_bits K vs H Q
def sp_plain_bits (K : W.Frag)  : Sp := λ vs H Q _ => S_plain_bits K vs H Q
inductive S_number_bits (K : W.Frag)  (vs : List V) (H : Hp) (Q : VK) : Prop
 | mk (n : Nat) (k0 : vs = [.int n]) (k1 : n < 8 ^ 16) (k2 : ∀ H', Same H H' -> Q (.str (tx (nb n))) H') : S_number_bits K vs H Q
def sp_number_bits (K : W.Frag)  : Sp := λ vs H Q _ => S_number_bits K vs H Q
inductive S_reckoning_bits (K : W.Frag) (n : Nat)  (vs : List V) (H : Hp) (Q : VK) : Prop
 | mk (tr : BTr) (v : V) (k0 : vs = [v]) (k1 : bdp tr < n) (k2 : DatV K H (btD tr) v) (k3 : tok tr) (k4 : lv tr <= 16) (k5 : ∀ H', Same H H' -> Q (.str (tx (rb tr))) H') : S_reckoning_bits K n vs H Q
def sp_reckoning_bits (K : W.Frag) (n : Nat)  : Sp := λ vs H Q _ => S_reckoning_bits K n vs H Q
inductive S_place_bits (K : W.Frag)  (vs : List V) (H : Hp) (Q : VK) : Prop
 | mk (o : Option BTr) (v : V) (k0 : vs = [v]) (k1 : DatV K H (btO o) v) (k2 : pok o) (k3 : ∀ H', Same H H' -> Q (.str (tx (Pk.ob o))) H') : S_place_bits K vs H Q
def sp_place_bits (K : W.Frag)  : Sp := λ vs H Q _ => S_place_bits K vs H Q
inductive S_view_bits (K : W.Frag)  (vs : List V) (H : Hp) (Q : VK) : Prop
 | mk (p a : V) (pl ah : List (Option BTr)) (k0 : vs = [p, a]) (k1 : DatV K H (plD pl) p) (k2 : DatV K H (plD ah) a) (k3 : (∀ o ∈ pl, pok o)) (k4 : (∀ o ∈ ah, pok o)) (k5 : pl.length <= 24) (k6 : ∀ H', Same H H' -> Q (.str (tx (vb ah pl))) H') : S_view_bits K vs H Q
def sp_view_bits (K : W.Frag)  : Sp := λ vs H Q _ => S_view_bits K vs H Q
def aheads (m0 : Mk) (ch : List (Nat × Nat)) (n : Nat) : List PyData := (List.range n).map λ i => plD (ahd m0 i (ch.getD i (0, 0)).1)
inductive S_views_ahead (K : W.Frag)  (vs : List V) (H : Hp) (Q : VK) : Prop
 | mk (b0 c : V) (fns : List F2.Fd) (m0 : Mk) (ch : List (Nat × Nat)) (z : Addr) (zs : List V) (k0 : vs = [b0, c]) (k1 : H z = some (.lst zs)) (k2 : (fns.map (·.name)).Nodup) (k3 : DatV K (ers z H) (tmD (nmF fns) m0) b0) (k4 : MOk fns.length m0) (k5 : DatV K H (.tuple (ch.map (tfD (nmF fns)))) c) (k6 : (∀ c ∈ ch, c.1 < fns.length)) (k7 : ch.length <= 3) (k8 : ∀ l xs H', Same H H' -> H l = none -> H' l = some (.lst xs) -> DatAll K (ers z H') (aheads m0 ch ch.length) xs -> Q (.ref l) H') : S_views_ahead K vs H Q
def sp_views_ahead (K : W.Frag)  : Sp := λ vs H Q _ => S_views_ahead K vs H Q
inductive S_mark_bits (K : W.Frag) (t : Adr)  (vs : List V) (H : Hp) (Q : VK) : Prop
 | mk (x : Addr) (b0 v : V) (fns : List F2.Fd) (m0 m : Mk) (k0 : vs = [.ref x, b0, v]) (k1 : F2.FlowsAt K t.c_Flows H x fns) (k2 : fns.length <= 12) (k3 : DatV K H (tmD (nmF fns) m0) b0) (k4 : MOk fns.length m0) (k5 : DatV K H (tmD (nmF fns) m) v) (k6 : MOk fns.length m) (k7 : ∀ H', Same H H' -> Q (.str (tx (mb m0 m))) H') : S_mark_bits K t vs H Q
def sp_mark_bits (K : W.Frag) (t : Adr)  : Sp := λ vs H Q _ => S_mark_bits K t vs H Q
inductive S_marks_bits (K : W.Frag) (t : Adr)  (vs : List V) (H : Hp) (Q : VK) : Prop
 | mk (x : Addr) (v : V) (fns : List F2.Fd) (ms : List Mk) (k0 : vs = [.ref x, v]) (k1 : F2.FlowsAt K t.c_Flows H x fns) (k2 : fns.length <= 12) (k3 : DatV K H (.list (ms.map (tmD (nmF fns)))) v) (k4 : ms.length <= 200) (k5 : (∀ m ∈ ms, MOk fns.length m)) (k6 : ∀ H', Same H H' -> Q (.str (tx (rowB ms))) H') : S_marks_bits K t vs H Q
def sp_marks_bits (K : W.Frag) (t : Adr)  : Sp := λ vs H Q _ => S_marks_bits K t vs H Q
inductive S_pack (K : W.Frag)  (vs : List V) (H : Hp) (Q : VK) : Prop
 | mk (p : Addr) (v : V) (fns : List F2.Fd) (tb : List (Str × List Mk)) (k0 : vs = [.ref p, v]) (k1 : SqL K H p (fns.map λ f => V.ref f.fa)) (k2 : fns ≠ []) (k3 : fns.length <= 12) (k4 : (∀ f ∈ fns, F2.FnAt K H f)) (k5 : (fns.map (·.name)).Nodup) (k6 : DatV K H (.list (tb.map (teD (nmF fns)))) v) (k7 : tb.length <= 12) (k8 : (∀ e ∈ tb, e.2.length <= 200 /\ ∀ m ∈ e.2, MOk fns.length m)) (k9 : ∀ l H', Same H H' -> H l = none -> H' l = some (.lst (tb.map λ e => V.str (tx (rowB e.2)))) -> Q (.ref l) H') : S_pack K vs H Q
def sp_pack (K : W.Frag)  : Sp := λ vs H Q _ => S_pack K vs H Q
inductive S_l_cell (K : W.Frag)  (vs : List V) (H : Hp) (Q : VK) : Prop
 | mk (a : Addr) (ns : List Int) (k : Int) (k0 : vs = [.ref a, .int k]) (k1 : SqL K H a (ns.map V.int)) (k2 : ns.length <= 63) (k3 : 0 <= k) (k4 : k < 1000) (k5 : Q (.int (cellF ns k)) H) : S_l_cell K vs H Q
def sp_l_cell (K : W.Frag)  : Sp := λ vs H Q _ => S_l_cell K vs H Q
inductive S_l_part (K : W.Frag)  (vs : List V) (H : Hp) (Q : VK) : Prop
 | mk (c j m : Int) (k0 : vs = [.int c, .int j, .int m]) (k1 : 0 <= j) (k2 : 0 < m) (k3 : ∀ H', Same H H' -> Q (.int (part c j m)) H') : S_l_part K vs H Q
def sp_l_part (K : W.Frag)  : Sp := λ vs H Q _ => S_l_part K vs H Q
inductive S_l_name (K : W.Frag)  (vs : List V) (H : Hp) (Q : VK) : Prop
 | mk (b k : Int) (k0 : vs = [.int b, .int k]) (k1 : ∀ H', Same H H' -> Q (.str (nmL b k)) H') : S_l_name K vs H Q
def sp_l_name (K : W.Frag)  : Sp := λ vs H Q _ => S_l_name K vs H Q
inductive S_l_function (K : W.Frag)  (vs : List V) (H : Hp) (Q : VK) : Prop
 | mk (c k b : Int) (big : Bool) (k0 : vs = [.int c, .int k, .int b, .bl big]) (k1 : 0 <= k) (k2 : k < 100) (k3 : ∀ (x : Bd) H', Same H H' -> H x.e = none -> EntAt K H' x -> x.f.name = nmL b (k + 3) -> H' x.e = some (.lst [.ref x.f.fa, .int x.cnt]) -> Q (.ref x.e) H') : S_l_function K vs H Q
def sp_l_function (K : W.Frag)  : Sp := λ vs H Q _ => S_l_function K vs H Q
inductive S_l_program (K : W.Frag)  (vs : List V) (H : Hp) (Q : VK) : Prop
 | mk (a : Addr) (ns : List Int) (big : Bool) (k0 : vs = [.ref a, .bl big]) (k1 : SqL K H a (ns.map V.int)) (k2 : ns.length <= 63) (k3 : ∀ b bs H', Same H H' -> BuiltAt K H' b bs -> Q (.ref b) H') : S_l_program K vs H Q
def sp_l_program (K : W.Frag)  : Sp := λ vs H Q _ => S_l_program K vs H Q
inductive S_l_tree (K : W.Frag) (n : Nat)  (vs : List V) (H : Hp) (Q : VK) : Prop
 | mk (c : Int) (m : Nat) (k0 : vs = [.int c, .int m]) (k1 : m < n) (k2 : 0 < m) (k3 : ∀ tr v H', Same H H' -> DatV K H' (btD tr) v -> tok tr -> lv tr = m -> Q v H') : S_l_tree K n vs H Q
def sp_l_tree (K : W.Frag) (n : Nat)  : Sp := λ vs H Q _ => S_l_tree K n vs H Q
inductive S_l_place (K : W.Frag)  (vs : List V) (H : Hp) (Q : VK) : Prop
 | mk (c : Int) (k0 : vs = [.int c]) (k1 : ∀ o v H', Same H H' -> DatV K H' (btO o) v -> pok o -> Q v H') : S_l_place K vs H Q
def sp_l_place (K : W.Frag)  : Sp := λ vs H Q _ => S_l_place K vs H Q
inductive S_l_chain (K : W.Frag)  (vs : List V) (H : Hp) (Q : VK) : Prop
 | mk (c : Int) (b : Addr) (bs : List Bd) (v : V) (la : List (Nat × Nat)) (k0 : vs = [.int c, .ref b, v]) (k1 : BuiltAt K H b bs) (k2 : DatV K H (.list (la.map frD)) v) (k3 : (∀ c ∈ la, c.1 < bs.length)) (k4 : la.length <= 3) (k5 : ∀ (ch : List (Nat × Nat)) l xs H', Same H H' -> H l = none -> H' l = some (.lst xs) -> DatAll K (ers l H') (ch.map frD) xs -> ch.length <= 3 -> (∀ c ∈ ch, c.1 < bs.length /\ c.2 < 100) -> Q (.ref l) H') : S_l_chain K vs H Q
def sp_l_chain (K : W.Frag)  : Sp := λ vs H Q _ => S_l_chain K vs H Q
def cnB (bs : List Bd) (k : Nat) : Nat := (bs[k]?.map (·.cnt)).getD 0
def MsOk (bs : List Bd) (ms : List Mk) : Prop := ms.length <= 200 /\ ∀ m ∈ ms, MOk bs.length m /\ CnOk (cnB bs) m
inductive S_l_marks (K : W.Frag)  (vs : List V) (H : Hp) (Q : VK) : Prop
 | mk (a : Addr) (ns : List Int) (k : Int) (b : Addr) (bs : List Bd) (n : Nat) (k0 : vs = [.ref a, .int k, .ref b, .int n]) (k1 : SqL K H a (ns.map V.int)) (k2 : ns.length <= 63) (k3 : 0 <= k) (k4 : k < 100) (k5 : BuiltAt K H b bs) (k6 : n <= 200) (k7 : ∀ ms v H', Same H H' -> DatV K H' (.list (ms.map mkD)) v -> (∀ z ys, H z = some (.lst ys) -> DatV K (ers z H') (.list (ms.map mkD)) v) -> ms.length = n -> MsOk bs ms -> Q v H') : S_l_marks K vs H Q
def sp_l_marks (K : W.Frag)  : Sp := λ vs H Q _ => S_l_marks K vs H Q
inductive S_l_number (K : W.Frag)  (vs : List V) (H : Hp) (Q : VK) : Prop
 | mk (n : Nat) (k0 : vs = [.int n]) (k1 : n < 8 ^ 16) (k2 : ∀ H', Same H H' -> Q (.str (tx (nb n))) H') : S_l_number K vs H Q
def sp_l_number (K : W.Frag)  : Sp := λ vs H Q _ => S_l_number K vs H Q
inductive S_l_bits (K : W.Frag) (n : Nat)  (vs : List V) (H : Hp) (Q : VK) : Prop
 | mk (tr : BTr) (v : V) (k0 : vs = [v]) (k1 : bdp tr < n) (k2 : DatV K H (btD tr) v) (k3 : tok tr) (k4 : lv tr <= 16) (k5 : ∀ H', Same H H' -> Q (.str (tx (rb tr))) H') : S_l_bits K n vs H Q
def sp_l_bits (K : W.Frag) (n : Nat)  : Sp := λ vs H Q _ => S_l_bits K n vs H Q
inductive S_l_row (K : W.Frag)  (vs : List V) (H : Hp) (Q : VK) : Prop
 | mk (v : V) (bs : List Bd) (ms : List Mk) (k0 : vs = [v]) (k1 : DatV K H (.list (ms.map mkD)) v) (k2 : MsOk bs ms) (k3 : bs.length <= 12) (k4 : ∀ H', Same H H' -> Q (.str (tx (rowB ms))) H') : S_l_row K vs H Q
def sp_l_row (K : W.Frag)  : Sp := λ vs H Q _ => S_l_row K vs H Q
def nmB (bs : List Bd) : Nat -> Str := nmF (bs.map (·.f))
inductive S_l_told (K : W.Frag)  (vs : List V) (H : Hp) (Q : VK) : Prop
 | mk (b : Addr) (bs : List Bd) (v : V) (ms : List Mk) (k0 : vs = [.ref b, v]) (k1 : BuiltAt K H b bs) (k2 : DatV K H (.list (ms.map mkD)) v) (k3 : MsOk bs ms) (k4 : ∀ l us H', Same H H' -> H l = none -> H' l = some (.lst us) -> DatAll K (ers l (nwL H H')) (ms.map (tmD (nmB bs))) us -> Q (.ref l) H') : S_l_told K vs H Q
def sp_l_told (K : W.Frag)  : Sp := λ vs H Q _ => S_l_told K vs H Q
def msL (ms : List Mk) : PyData := .list (ms.map mkD)
structure Te where
 e : Addr
 l : Addr
 us : List V
 ms : List Mk
structure TabAt (K : W.Frag) (H0 H : Hp) (T : Addr) (nm : Nat -> Str) (ts : List Te) : Prop where
 ls : H T = some (.lst (ts.map λ t => V.ref t.e))
 en : ∀ (k : Nat) (t : Te), ts[k]? = some t -> SqT K H t.e [.str (nm k), .ref t.l] /\ H t.l = some (.lst t.us) /\ H0 t.l = none /\ t.l ≠ T
 da : ∀ t ∈ ts, ∀ t' ∈ ts, DatAll K (ers t'.l (nwL H0 H)) (t.ms.map (tmD nm)) t.us
 nd : ∀ (k j : Nat) (t t' : Te), ts[k]? = some t -> ts[j]? = some t' -> t.l = t'.l -> k = j
inductive S_l_table (K : W.Frag)  (vs : List V) (H : Hp) (Q : VK) : Prop
 | mk (b : Addr) (bs : List Bd) (v : V) (mss : List (List Mk)) (k0 : vs = [.ref b, v]) (k1 : BuiltAt K H b bs) (k2 : DatV K H (.list (mss.map msL)) v) (k3 : mss.length = bs.length) (k4 : (∀ ms ∈ mss, MsOk bs ms)) (k5 : ∀ T (ts : List Te) H', Same H H' -> H T = none -> TabAt K H H' T (nmB bs) ts -> ts.map (·.ms) = mss -> Q (.ref T) H') : S_l_table K vs H Q
def sp_l_table (K : W.Frag)  : Sp := λ vs H Q _ => S_l_table K vs H Q
inductive S_l_renamed (K : W.Frag)  (vs : List V) (H : Hp) (Q : VK) : Prop
 | mk (b : Addr) (bs : List Bd) (c : Int) (k0 : vs = [.ref b, .int c]) (k1 : BuiltAt K H b bs) (k2 : ∀ b' bs' H', Same H H' -> BuiltAt K H' b' bs' -> bs'.length = bs.length -> (∀ k, cnB bs' k = cnB bs k) -> Q (.ref b') H') : S_l_renamed K vs H Q
def sp_l_renamed (K : W.Frag)  : Sp := λ vs H Q _ => S_l_renamed K vs H Q
inductive S_l_all_marks (K : W.Frag)  (vs : List V) (H : Hp) (Q : VK) : Prop
 | mk (a : Addr) (ns : List Int) (b : Addr) (bs : List Bd) (big : Bool) (k0 : vs = [.ref a, .ref b, .bl big]) (k1 : SqL K H a (ns.map V.int)) (k2 : ns.length <= 63) (k3 : BuiltAt K H b bs) (k4 : ∀ (mss : List (List Mk)) v H', Same H H' -> DatV K H' (.list (mss.map msL)) v -> mss.length = bs.length -> (∀ ms ∈ mss, MsOk bs ms /\ ms ≠ []) -> Q v H') : S_l_all_marks K vs H Q
def sp_l_all_marks (K : W.Frag)  : Sp := λ vs H Q _ => S_l_all_marks K vs H Q
inductive S_law (K : W.Frag)  (vs : List V) (H : Hp) (Q : VK) : Prop
 | mk (a : Addr) (ns : List Int) (k0 : vs = [.ref a]) (k1 : SqL K H a (ns.map V.int)) (k2 : ns.length <= 63) (k3 : ∀ H', Q (.bl true) H') : S_law K vs H Q
def sp_law (K : W.Frag)  : Sp := λ vs H Q _ => S_law K vs H Q
def rIsi (K : W.Frag) : List V -> Hp -> VK -> Prop := λ xs H Q => ∃ x c t b, xs = [x, .ty c] /\ TyOf K H x t /\ PySem.W.kitOne K t (.type c) = some b /\ Q (.bl b) H
def rLstO (K : W.Frag) : List V -> Hp -> VK -> Prop := λ xs H Q => ∃ p ys, xs = [.ref p] /\ (SqL K H p ys \/ SqT K H p ys) /\ ∀ l, H l = none -> Q (.ref l) (upd H l (.lst ys))
def tbl (nm : Nat -> Str) (mss : List (List Mk)) : List (Str × List Mk) := (List.range mss.length).map λ k => (nm k, mss.getD k [])
theorem tbl_len (nm : Nat -> Str) (mss : List (List Mk)) : (tbl nm mss).length = mss.length := by unfold tbl; rw [List.length_map, List.length_range]
theorem tbl_at {nm : Nat -> Str} {mss : List (List Mk)} {k : Nat} {ms : List Mk} (h : mss[k]? = some ms) : (tbl nm mss)[k]? = some (nm k, ms) := by
 unfold tbl
 rw [List.getElem?_map, List.getElem?_range (List.getElem?_eq_some_iff.mp h).1]
 show some (nm k, mss.getD k []) = _
 rw [List.getD_eq_getElem?_getD, h]
 rfl
theorem tbl_mem {nm : Nat -> Str} {mss : List (List Mk)} {e : Str × List Mk} (h : e ∈ tbl nm mss) : e.2 ∈ mss /\ ∃ k, k < mss.length /\ e.1 = nm k := by
 unfold tbl at h
 obtain ⟨k, hk, rfl⟩ := List.mem_map.mp h
 have hk := List.mem_range.mp hk
 refine ⟨?_, k, hk, rfl⟩
 show mss.getD k [] ∈ mss
 rw [List.getD_eq_getElem?_getD, List.getElem?_eq_getElem hk]
 exact List.getElem_mem hk
theorem tbl_rows (nm : Nat -> Str) (mss : List (List Mk)) (f : List Mk -> V) : ((tbl nm mss).map λ e => f e.2) = mss.map f := by
 refine List.ext_getElem? λ k => ?_
 rw [List.getElem?_map, List.getElem?_map]
 cases h : mss[k]? with
 | none => rw [List.getElem?_eq_none (by rw [tbl_len]; exact List.getElem?_eq_none_iff.mp h)]; rfl
 | some ms => rw [tbl_at h]; rfl
theorem tab_mk {H : Hp} {T : Addr} {nm : Nat -> Str} {mss : List (List Mk)} {xs : List V} (h1 : SqL K H T xs) (hl : xs.length = mss.length) (h2 : ∀ (k : Nat) ms x, mss[k]? = some ms -> xs[k]? = some x -> DatV K H (teD nm (nm k, ms)) x) : DatV K H (.list ((tbl nm mss).map (teD nm))) (.ref T) := by
 refine datV_list h1 (da_of (by rw [List.length_map, tbl_len, hl]) λ k d x hd hx => ?_)
 have hk : k < mss.length := by rw [<- hl]; exact (List.getElem?_eq_some_iff.mp hx).1
 have hm := List.getElem?_eq_getElem hk
 rw [List.getElem?_map, tbl_at hm] at hd
 cases hd
 exact h2 k _ x hm hx
theorem ts_at {ts : List Te} {k : Nat} {x : V} (h : (ts.map λ t => V.ref t.e)[k]? = some x) : ∃ t, ts[k]? = some t /\ x = .ref t.e := by
 obtain ⟨t, h1, _, h3⟩ := map_at h
 exact ⟨t, h1, h3⟩
theorem tab_dat {H0 H : Hp} {T : Addr} {nm : Nat -> Str} {ts : List Te} (h : TabAt K H0 H T nm ts) : DatV K H (.list ((tbl nm (ts.map (·.ms))).map (teD nm))) (.ref T) := by
 refine tab_mk (SqL.of h.ls) (by rw [List.length_map, List.length_map]) λ k ms x hm hx => ?_
 obtain ⟨t, ht, rfl⟩ := ts_at hx
 rw [List.getElem?_map, ht] at hm
 cases hm
 obtain ⟨h1, h2, h3, h4⟩ := h.en k t ht
 have hmem := List.mem_of_getElem? ht
 exact dt2_mk h1 (datV_str _) (datV_list (SqL.of h2) (L2.DatAll.mono (ers_same.trans nwL_same) _ _ (h.da t hmem t hmem)))
theorem tab_pop {H0 H H' : Hp} {T D : Addr} {ds : List V} {nm : Nat -> Str} {ts : List Te} {t0 : Te} (h : TabAt K H0 H T nm ts) (h0 : ts[0]? = some t0) (hT : H0 T = none) (hD : H0 D = some (.lst ds)) (hs : Same H0 H) (hS : ∀ b o, H b = some o -> b ≠ t0.l -> b ≠ D -> H' b = some o) (hL : H' t0.l = some (.lst t0.us.dropLast)) :
   DatV K H' (.list ((tbl nm ((ts.map (·.ms)).set 0 t0.ms.dropLast)).map (teD nm))) (.ref T) := by
 have m0 := List.mem_of_getElem? h0
 obtain ⟨p1, p2, p3, p4⟩ := h.en 0 t0 h0
 have nTD : T ≠ D := (ne_of_none hD hT).symm
 have sE : Same (ers t0.l (nwL H0 H)) H' := λ b o hb => by
   have nb : b ≠ t0.l := λ z => by subst z; unfold ers at hb; rw [if_pos rfl] at hb; cases hb
   rw [ers_ne nb] at hb
   obtain ⟨q1, q2⟩ := nwL_un hb
   exact hS b o q2 nb λ z => by subst z; exact q1 _ hD
 have sT : ∀ {a : Addr} {xs : List V}, SqT K H a xs -> SqT K H' a xs := λ {a xs} q => by
   have q := sqT_ers (sqT_ers q (.lst p2)) (NoT.ers (.lst (hs _ _ hD)))
   exact Same.tup (λ b o hb => by
     have n1 : b ≠ D := λ z => by subst z; unfold ers at hb; rw [if_pos rfl] at hb; cases hb
     rw [ers_ne n1] at hb
     have n2 : b ≠ t0.l := λ z => by subst z; unfold ers at hb; rw [if_pos rfl] at hb; cases hb
     rw [ers_ne n2] at hb
     exact hS b o hb n2 n1) q
 refine tab_mk (SqL.of (hS T _ h.ls p4.symm nTD)) (by rw [List.length_map, List.length_set, List.length_map]) λ k ms x hm hx => ?_
 obtain ⟨t, ht, rfl⟩ := ts_at hx
 obtain ⟨h1, h2, h3, h4⟩ := h.en k t ht
 have hmem := List.mem_of_getElem? ht
 have hd := L2.DatAll.mono sE _ _ (h.da t hmem t0 m0)
 by_cases hk : k = 0
 . subst hk
   rw [h0] at ht
   cases ht
   rw [List.getElem?_set_self (by rw [List.length_map]; exact (List.getElem?_eq_some_iff.mp h0).1)] at hm
   cases hm
   refine dt2_mk (sT h1) (datV_str _) (datV_list (SqL.of hL) ?_)
   have := da_drop hd
   rw [<- List.map_dropLast] at this
   exact this
 . rw [List.getElem?_set_ne (λ z => hk z.symm), List.getElem?_map, ht] at hm
   cases hm
   refine dt2_mk (sT h1) (datV_str _) (datV_list (SqL.of (hS t.l _ h2 (λ z => hk (h.nd k 0 t t0 ht h0 z)) λ z => ?_)) hd)
   rw [z, hD] at h3
   cases h3
theorem cut_init (xs : List V) : cutV xs none (some (-1)) = xs.dropLast := by
 unfold cutV
 show (xs.drop 0).take (HT.sIx xs.length xs.length (some (-1)) - 0) = _
 rw [List.drop_zero, Nat.sub_zero, List.dropLast_eq_take]
 congr 1
 have e : HT.sIx xs.length xs.length (some (-1)) = ((-1 : Int) + (xs.length : Int)).toNat := rfl
 rw [e]
 omega
theorem lit_row : tx (rowB [⟨[(0, 0)], [[some (.box 0)]]⟩]) = ("0001000100000000100000" : Str) := by
 have n0 : nb 0 = [48, 48, 48, 48] := by rw [nb_low (by decide)]; decide
 have n1 : nb 1 = [48, 48, 48, 49] := by rw [nb_low (by decide)]; decide
 have : rowB [⟨[(0, 0)], [[some (.box 0)]]⟩] = nb 1 ++ (nb 1 ++ (nb 0 ++ nb 0) ++ (49 :: 48 :: nb 0)) := by
   simp [rowB, mbs, mb, fB, wB, vb, vbL, vb1, lk, ahd, like, prv, mk0, kAt, vAt, Pk.ob, rb, List.range, List.range.loop]
 rw [this, n0, n1]
 rfl
theorem rows_lay (mss : List (List Mk)) : ∀ d ∈ mss.map (λ ms => PyData.str (tx (rowB ms))), Lay 0 d := λ d hd => by
 obtain ⟨ms, _, rfl⟩ := List.mem_map.mp hd
 exact .str (bts_ok (bts_row ms))
end
end K83
namespace K83
open PySem L2 K12
section
variable {P : Program} {w : World} {K : W.Frag} {mg : Str -> Option Value} {base : Heap} {t : Adr}
theorem sc_each_once : FnScope ["names"] ["names"] (defScope s_each_once) := ⟨rfl, rfl, rfl, by decide +kernel, rfl, by decide +kernel, by decide +kernel⟩
theorem ok_each_once (T : Txt K mg t) : FnOk P w K mg base CX0 1 t.a_each_once t.d_each_once ["names"] (K12.sp_each_once K) := by
 refine T.each_once.F.ok sc_each_once (λ vs H Q E h => ?_) (λ cdv A outer s H vs Q E hr h => ?_)
 . obtain ⟨p0, ss, rfl, hS, hl, q⟩ := h
   rfl
 . obtain ⟨p0, ss, rfl, hS, hl, q⟩ := h
   refine ⟨_, (@pss_cons _ _ _ _ _ (@ps_ret _ _ _ _ (pe_callTy (call_list_dk rfl) (by rfl) T.b_list bt_list (@pa_cons _ _ _ _ _ (pe_callTy (call_dict_of rfl) (by rfl) T.b_dict bt_dict (@pa_cons _ _ _ _ _ (pe_comp (N' := ["name"]) (js := [none]) (by kernel_rfl) rfl (pi_list (pvC 0)) own_name (λ _ _ _ _ => (pg_name (i := 0) (show (["name"] : List Str).Nodup by decide +kernel) rfl (Or.inl rfl) (.inr rfl))) (λ _ _ _ _ => pif_nil) (λ _ _ _ _ => (@pe_tup _ _ _ _ _ (@pa_cons _ _ _ _ _ (pvC 0) (@pa_cons _ _ _ _ _ pe_bl pa_nil (by rfl)) (by rfl))))) pa_nil (by rfl))) pa_nil (by rfl)))) pss_nil), ?_⟩
   refine ⟨_, rfl, p0, rfl, ⟨_, hS⟩, λ p hp => comp_list (xs := ss.map V.str) (by rw [List.length_map]; omega) (λ i acc H2 => i <= ss.length /\ Same H H2 /\ H2 p = some (.lst acc) /\ ∃ ps : List Addr, acc = ps.map V.ref /\ Paired (λ a (kv : Key × V) => SqT K H2 a [kV kv.1, kv.2]) ps (tru (ss.take i))) ⟨Nat.zero_le _, Same.new hp, upd_same, [], rfl, .nil⟩ ?_ ?_ ?_⟩
   . rintro i acc H2 hi ⟨hi', s2, h2, ps, rfl, hps⟩
     refine ⟨h2, ?_, s2.seq hS⟩
     have := Paired.length hps
     rw [List.length_map, this]
     unfold tru
     rw [List.length_map, List.length_take]
     omega
   . rintro i x acc H2 hx ⟨hi', s2, h2, ps, rfl, hps⟩
     have hi : i < ss.length := by
       have := (List.getElem?_eq_some_iff.mp hx).1
       rw [List.length_map] at this
       exact this
     rw [List.getElem?_map] at hx
     have hx : V.str ss[i] = x := by simpa [hi] using hx
     subst hx
     refine ⟨_, rfl, (by show 2 <= sizeLine; decide), λ a ha => ?_⟩
     have hap : a ≠ p := λ z => by rw [z, h2] at ha; cases ha
     have e : (upd H2 a (.tup [V.str ss[i], V.bl true])) p = some (.lst (ps.map V.ref)) := by rw [upd_ne hap.symm]; exact h2
     refine ⟨e, hi, ?_, upd_same, ps ++ [a], by rw [List.map_append]; rfl, ?_⟩
     . exact (s2.trans (Same.new ha)).upd hp
     . have e2 : tru (ss.take (i + 1)) = tru (ss.take i) ++ [(Sum.inr ss[i], V.bl true)] := by
         unfold tru
         rw [List.take_add_one, List.map_append]
         simp [hi]
       rw [e2]
       refine Paired.snoc (Paired.mapP hps λ b kv z => sqT_lst ((Same.new ha).tup z) e) ?_
       exact SqT.of (by rw [upd_ne hap]; exact upd_same)
   . rintro acc H2 ⟨hi', s2, h2, ps, rfl, hps⟩
     have e0 : ss.take (ss.map V.str).length = ss := by rw [List.length_map]; exact List.take_length
     rw [e0] at hps
     refine ⟨p, ps, tru ss, rfl, SqL.of h2, hps, by unfold tru; rw [List.length_map]; omega, λ d hd => ?_⟩
     rw [tru_once]
     refine ⟨d, tru (onceL ss), rfl, upd_same, λ l hl' => ?_⟩
     rw [tru_keys]
     exact q l _ ((s2.trans (Same.new hd)).trans (Same.new hl')) (s2.free ((Same.new hd).free hl')) upd_same
theorem sc_gives : FnScope ["row"] ["row"] (defScope s_gives) := ⟨rfl, rfl, rfl, by decide +kernel, rfl, by decide +kernel, by decide +kernel⟩
theorem ok_gives (T : Txt K mg t) : FnOk P w K mg base CX0 1 t.a_gives t.d_gives ["row"] (K12.sp_gives K) := by
 refine T.gives.F.ok sc_gives (λ vs H Q E h => ?_) (λ cdv A outer s H vs Q E hr h => ?_)
 . obtain ⟨r, xs, g, as, rfl, hr, hrow, q⟩ := h
   rfl
 . obtain ⟨r, xs, g, as, rfl, hr, hrow, q⟩ := h
   refine ⟨_, (@pss_cons _ _ _ _ _ (@ps_ret _ _ _ _ (@pe_ifExp _ _ _ _ _ _ _ _ (@ptC_cmpR _ _ _ _ _ _ _ _ op_in_seq (@pe_ix _ _ _ _ _ _ _ (show IxR _ (cIxT K) from ixC_tup) (pvC 0) pe_int (λ _ _ => rfl)) (pe_gtuple T.c_GIVING_KINDS) (by with_unfolding_all rfl)) (@pe_ix _ _ _ _ _ _ _ (show IxR _ (cIxT K) from ixC_tup) (pvC 0) pe_int (λ _ _ => rfl)) pe_non)) pss_nil), ?_⟩
   obtain ⟨kd, h0, hc⟩ := row_gives hrow
   refine ⟨_, rfl, r, xs, _, _, rfl, rfl, hr, h0, t.a_GIVING, giving.map V.str, rfl, .inr (T.q_GIVING H), rfl, giving_flat, _, rfl, ?_⟩
   rcases hc with ⟨x, rfl, e, h1⟩ | ⟨rfl, e⟩
   . exact iteP e ⟨_, rfl, r, xs, _, _, rfl, rfl, hr, h1, q⟩
   . exact iteN (falseN e) q
theorem sc_atoms_of : FnScope ["row"] ["row"] (defScope s_atoms_of) := ⟨rfl, rfl, rfl, by decide +kernel, rfl, by decide +kernel, by decide +kernel⟩
theorem ok_atoms_of (T : Txt K mg t) : FnOk P w K mg base CX0 1 t.a_atoms_of t.d_atoms_of ["row"] (K12.sp_atoms_of K) := by
 refine T.atoms_of.F.ok sc_atoms_of (λ vs H Q E h => ?_) (λ cdv A outer s H vs Q E hr h => ?_)
 . obtain ⟨r, xs, g, as, rfl, hr, hrow, hl, q⟩ := h
   rfl
 . obtain ⟨r, xs, g, as, rfl, hr, hrow, hl, q⟩ := h
   refine ⟨_, (@pss_cons _ _ _ _ _ (@ps_if _ _ _ _ _ _ _ _ (@ptC_cmpR _ _ _ _ _ _ _ _ op_eq (@pe_ix _ _ _ _ _ _ _ (show IxR _ (cIxT K) from ixC_tup) (pvC 0) pe_int (λ _ _ => rfl)) pe_str (nomark _)) (@pss_one _ _ _ (@ps_ret _ _ _ _ (pe_callTy call_list_of (by rfl) T.b_list bt_list (@pa_cons _ _ _ _ _ (@pe_ix _ _ _ _ _ _ _ (show IxR _ (cIxT K) from ixC_tup) (pvC 0) pe_int (λ _ _ => rfl)) pa_nil (by rfl))))) pss_nil) (@pss_one _ _ _ (@ps_ret _ _ _ _ (pe_comp (N' := ["place", "row"]) (js := [none, some 0]) (by kernel_rfl) rfl (pi_tup (@pe_ix _ _ _ _ _ _ _ ix_tab (pe_gtuple T.c_ATOM_PLACES) (@pe_ix _ _ _ _ _ _ _ (show IxR _ (cIxT K) from ixC_tup) (pvC 0) pe_int (λ _ _ => rfl)) (λ _ _ => rfl))) own_name (λ _ _ _ _ => (pg_name (i := 0) (show (["place", "row"] : List Str).Nodup by decide +kernel) rfl (Or.inl rfl) (.inr rfl))) (λ _ _ _ _ => pif_nil) (λ _ _ _ _ => (@pe_ix _ _ _ _ _ _ _ (show IxR _ (cIxT K) from ixC_tup) (pvC 1) (pvC 0) (λ _ _ => rfl))))))), ?_⟩
   obtain ⟨kd, h0, hc⟩ := row_places hrow
   refine ⟨_, rfl, r, xs, _, _, rfl, rfl, hr, h0, rfl, _, rfl, ?_⟩
   rcases hc with ⟨rfl, p, h3, hp⟩ | ⟨hne, pl, hk, hpl, hat⟩
   . exact iteP (decide_eq_true rfl) ⟨_, rfl, r, xs, _, _, rfl, rfl, hr, h3, p, as, rfl, .inr hp, λ l hl => q l _ (Same.new hl) hl upd_same⟩
   . refine iteN (λ h => hne (V.str.inj (dec_true h))) ?_
     refine ⟨_, rfl, r, xs, _, _, rfl, rfl, hr, h0, t.a_TAB, tabl, _, _, rfl, rfl, T.q_TAB, hk, λ a ha => ?_⟩
     refine ⟨a, rfl, ⟨_, ha⟩, λ p hp => comp_tup (xs := pl.map V.int) (by rw [List.length_map]; omega) (λ i acc H2 => acc = as.take i /\ H2 = upd H p (.lst acc)) ⟨rfl, rfl⟩ ?_ ?_ ?_⟩
     . rintro i acc H2 hi ⟨rfl, rfl⟩
       exact ⟨upd_same, by rw [List.length_take]; omega, (Same.new hp).tup ha⟩
     . rintro i x acc H2 hx ⟨rfl, rfl⟩
       have hi : i < as.length := by
         have := (List.getElem?_eq_some_iff.mp hx).1
         rw [List.length_map] at this
         omega
       obtain ⟨p1, hp1, hp2⟩ := hat i as[i] (by simp [hi])
       rw [List.getElem?_map, hp1] at hx
       have hx : V.int p1 = x := by simpa using hx
       subst hx
       refine ⟨_, rfl, _, rfl, r, xs, _, _, rfl, rfl, (Same.new hp).tup hr, hp2, upd_same, ?_, upd_upd⟩
       rw [List.take_add_one]
       simp [hi]
     . rintro acc H2 ⟨rfl, rfl⟩
       have e : (as.take (pl.map V.int).length) = as := by rw [List.length_map, hpl]; exact List.take_length
       exact q p _ (Same.new hp) hp (by rw [upd_same, e])
theorem sc_reads : FnScope ["row"] ["row"] (defScope s_reads) := ⟨rfl, rfl, rfl, by decide +kernel, rfl, by decide +kernel, by decide +kernel⟩
theorem ok_reads (T : Txt K mg t) : FnOk P w K mg base CX0 2 t.a_reads t.d_reads ["row"] (K12.sp_reads K) := by
 have G_each_once : FnOk P w K mg base CX0 1 t.a_each_once t.d_each_once ["names"] (K12.sp_each_once K) := ok_each_once T
 have G_atoms_of : FnOk P w K mg base CX0 1 t.a_atoms_of t.d_atoms_of ["row"] (K12.sp_atoms_of K) := ok_atoms_of T
 refine T.reads.F.ok sc_reads (λ vs H Q E h => ?_) (λ cdv A outer s H vs Q E hr h => ?_)
 . obtain ⟨r, xs, g, as, rfl, hrw, hrow, hl, hat, q⟩ := h
   rfl
 . obtain ⟨r, xs, g, as, rfl, hrw, hrow, hl, hat, q⟩ := h
   refine ⟨_, (@pss_cons _ _ _ _ _ (@ps_ret _ _ _ _ (callD T.each_once G_each_once (hr.mono (by decide)) (@pa_cons _ _ _ _ _ (pe_comp (N' := ["atom"]) (js := [none]) (by kernel_rfl) rfl (pi_list (callD T.atoms_of G_atoms_of (hr.mono (by decide)) (@pa_cons _ _ _ _ _ (pvC 0) pa_nil (by rfl)))) own_name (λ _ _ _ _ => (pg_name (i := 0) (show (["atom"] : List Str).Nodup by decide +kernel) rfl (Or.inl rfl) (.inr rfl))) (λ _ _ _ _ => (pif_one (ptC_val (pe_callB (show CallR _ (.builtin "isinstance") (rIsi K) from call_isinst) (by rfl) T.b_isinstance bt_isinstance (@pa_cons _ _ _ _ _ (pvC 0) (@pa_cons _ _ _ _ _ (pe_bltn (v := V.ty "str") rfl T.b_str bt_str rfl) pa_nil (by rfl)) (by rfl)))))) (λ _ _ _ _ => (pvC 0))) pa_nil (by rfl)))) pss_nil), ?_⟩
   refine ⟨_, rfl, r, xs, g, as, rfl, hrw, hrow, hl, λ l0 H1 s1 n1 e1 => ?_⟩
   refine ⟨l0, rfl, ⟨_, SqL.of e1⟩, λ p hp => comp_list (xs := as) (by omega) (λ i acc H2 => acc = (strsOf (as.take i)).map V.str /\ H2 = upd H1 p (.lst acc)) ⟨rfl, rfl⟩ ?_ ?_ ?_⟩
   . rintro i acc H2 hi ⟨rfl, rfl⟩
     refine ⟨upd_same, ?_, (Same.new hp).seq (SqL.of e1)⟩
     have := strsOf_len (as.take i)
     rw [List.length_map]
     rw [List.length_take] at this
     omega
   . rintro i x acc H2 hx ⟨rfl, rfl⟩
     have hi : i < as.length := (List.getElem?_eq_some_iff.mp hx).1
     have e2 : strsOf (as.take (i + 1)) = strsOf (as.take i) ++ strsOf [x] := by
       rw [List.take_add_one, hx, strsOf_append]
       rfl
     rcases hat x (List.mem_of_getElem? hx) with ⟨s, rfl, hn⟩ | ⟨z, rfl⟩
     . refine ⟨_, rfl, _, _, _, true, rfl, .str _, rfl, _, rfl, ?_⟩
       refine ⟨_, rfl, upd_same, ?_, upd_upd⟩
       rw [e2, List.map_append]
       rfl
     . refine ⟨_, rfl, _, _, _, false, rfl, .int _, rfl, _, rfl, ?_⟩
       refine ⟨?_, ?_⟩
       . rw [e2, strsOf_int, List.append_nil]
       . rfl
   . rintro acc H2 ⟨rfl, rfl⟩
     rw [List.take_length]
     have hle := strsOf_len as
     exact ⟨p, strsOf as, rfl, SqL.of upd_same, by omega, λ l H3 s3 n3 e3 => q l H3 ((s1.trans (Same.new hp)).trans s3) (s1.free ((Same.new hp).free n3)) e3⟩
theorem sc_names_of : FnScope ["function", "found", "row", "given"] ["function"] (defScope s_names_of) := ⟨rfl, rfl, rfl, by decide +kernel, rfl, by decide +kernel, by decide +kernel⟩
theorem ok_names_of (T : Txt K mg t) : FnOk P w K mg base CX0 3 t.a_names_of t.d_names_of ["function"] (K12.sp_names_of K) := by
 have G_each_once : FnOk P w K mg base CX0 1 t.a_each_once t.d_each_once ["names"] (K12.sp_each_once K) := ok_each_once T
 have G_gives : FnOk P w K mg base CX0 1 t.a_gives t.d_gives ["row"] (K12.sp_gives K) := ok_gives T
 have G_reads : FnOk P w K mg base CX0 2 t.a_reads t.d_reads ["row"] (K12.sp_reads K) := ok_reads T
 refine T.names_of.F.ok sc_names_of (λ vs H Q E h => ?_) (λ cdv A outer s H vs Q E hr h => ?_)
 . obtain ⟨f, ps, ds, rfl, hf, q⟩ := h
   rfl
 . obtain ⟨f, ps, ds, rfl, hf, q⟩ := h
   refine ⟨_, (@pss_cons _ _ _ _ _ (@ps_set _ _ 1 _ _ _ _ sc_names_of.nd rfl (Or.inl rfl) (pe_callTy call_list_of (by rfl) T.b_list bt_list (@pa_cons _ _ _ _ _ (@pe_ix _ _ _ _ _ _ _ (show IxR _ (cIxT K) from ixC_tup) (pvC 0) pe_int (λ _ _ => rfl)) pa_nil (by rfl))) (by rfl) (by first | exact .inl rfl | exact .inr rfl | assumption)) (@pss_cons _ _ _ _ _ (ps_for PassesOwn.never rfl (pi_tup (@pe_ix _ _ _ _ _ _ _ (show IxR _ (cIxT K) from ixC_tup) (pvC 0) pe_int (λ _ _ => rfl))) (pg_name (i := 2) sc_names_of.nd rfl (Or.inl rfl)) (@pss_cons _ _ _ _ _ (@ps_set _ _ 3 _ _ _ _ sc_names_of.nd rfl (Or.inl rfl) (callD T.gives G_gives (hr.mono (by decide)) (@pa_cons _ _ _ _ _ (pvC 2) pa_nil (by rfl))) (by rfl) (by first | exact .inl rfl | exact .inr rfl | assumption)) (@pss_cons _ _ _ _ _ (@ps_if _ _ _ _ _ _ _ _ (pt_cmp (pc_notN (pvC 3))) (@pss_one _ _ _ (@ps_expr _ _ _ _ (pe_bm PySem.F.plainAttrs_list PySem.F.slot_list_append PySem.F.type_list_append mtC_append (pvC 1) (@pa_cons _ _ _ _ _ (pvC 3) pa_nil (by rfl))) (by rfl))) pss_nil) (@pss_one _ _ _ (@ps_expr _ _ _ _ (pe_bm PySem.F.plainAttrs_list PySem.F.slot_list_extend PySem.F.type_list_extend mt_extend (pvC 1) (@pa_cons _ _ _ _ _ (callD T.reads G_reads (hr.mono (by decide)) (@pa_cons _ _ _ _ _ (pvC 2) pa_nil (by rfl))) pa_nil (by rfl))) (by rfl)))))) (@pss_one _ _ _ (@ps_ret _ _ _ _ (callD T.each_once G_each_once (hr.mono (by decide)) (@pa_cons _ _ _ _ _ (pvC 1) pa_nil (by rfl))))))), ?_⟩
   obtain ⟨n, b, pp, rr, hF, hP, hR⟩ := hf.fn
   refine ⟨_, rfl, f, _, _, _, rfl, rfl, hF, rfl, pp, _, rfl, .inr hP, λ l hl => ?_⟩
   refine ⟨_, rfl, f, _, _, _, rfl, rfl, (Same.new hl).tup hF, rfl, ?_⟩
   refine ⟨rr, rfl, ⟨_, (Same.new hl).tup hR⟩, for_tup (xs := ds.map λ d => V.ref d.r) (λ i σ H2 => Same H H2 /\ ∃ v1 v2 fs, σ = [some (.ref f), some (.ref l), v1, v2] /\ H2 l = some (.lst (List.map V.str fs)) /\ onceL fs = onceL (ps ++ (ds.take i).flatMap rowStrs) /\ fs.length <= 100 + 11 * i) ⟨Same.new hl, _, _, ps, rfl, upd_same, by simp, by have := hf.pl; omega⟩ ?_ ?_ ?_⟩
   . rintro i σ H2 hi ⟨s2, _⟩
     exact s2.tup hR
   . rintro i x σ H2 hx ⟨s2, v1, v2, fs, rfl, h2, ho, hlen⟩
     have hi : i < ds.length := by
       have := (List.getElem?_eq_some_iff.mp hx).1
       rw [List.length_map] at this
       exact this
     rw [List.getElem?_map] at hx
     have hx : V.ref ds[i].r = x := by simpa [hi] using hx
     subst hx
     have hd := hf.rows ds[i] (List.getElem_mem hi)
     have hds := hf.dl
     have ef : (ds.take (i + 1)).flatMap rowStrs = (ds.take i).flatMap rowStrs ++ rowStrs ds[i] := by
       rw [List.take_add_one, List.flatMap_append]
       simp [hi]
     have hol := onceL_len (strsOf ds[i].as)
     have hsl := strsOf_len ds[i].as
     have hal := hd.len
     obtain ⟨xs, hr1, hr2⟩ := (hd.mono s2).row
     refine ⟨_, rfl, ds[i].r, xs, _, _, rfl, hr1, hr2, ?_⟩
     refine ⟨_, rfl, _, rfl, ?_⟩
     cases hg : ds[i].gx with
     | none =>
       refine iteF ⟨_, rfl, .inl ⟨rfl, _, SqL.of h2⟩, _, rfl, ds[i].r, xs, _, _, rfl, hr1, hr2, hd.len, hd.ats, λ l4 H4 s4 n4 e4 => ?_⟩
       refine ⟨l, l4, _, _, rfl, rfl, s4 _ _ h2, e4, lt_line (by rw [List.length_map, List.length_map]; omega), ?_⟩
       refine ⟨(s2.trans s4).upd hl, _, _, fs ++ [] ++ onceL (strsOf ds[i].as), rfl, (by rw [upd_same, List.append_nil, List.map_append]), ?_, (by simp only [List.length_append, List.length_nil]; omega)⟩
       rw [once_row ho, ef, List.append_assoc]
       unfold rowStrs
       rw [hg]
       rfl
     | some x =>
       refine iteT ⟨_, rfl, .inl ⟨rfl, _, SqL.of h2⟩, _, rfl, l, _, _, rfl, rfl, h2, lt_line' (by rw [List.length_map]; omega), ?_⟩
       have s3 : Same H (upd H2 l (.lst (List.map V.str fs ++ [V.str x]))) := s2.upd hl
       obtain ⟨xs', hr1', hr2'⟩ := (hd.mono s3).row
       refine ⟨_, rfl, .inl ⟨rfl, _, SqL.of upd_same⟩, _, rfl, ds[i].r, xs', _, _, rfl, hr1', hr2', hd.len, hd.ats, λ l4 H4 s4 n4 e4 => ?_⟩
       refine ⟨l, l4, _, _, rfl, rfl, s4 _ _ upd_same, e4, lt_line (by simp only [List.length_append, List.length_map, List.length_cons, List.length_nil]; omega), ?_⟩
       refine ⟨(s3.trans s4).upd hl, _, _, fs ++ [x] ++ onceL (strsOf ds[i].as), rfl, (by rw [upd_same, List.map_append, List.map_append]; rfl), ?_, (by simp only [List.length_append, List.length_cons, List.length_nil]; omega)⟩
       rw [once_row ho, ef, List.append_assoc]
       unfold rowStrs
       rw [hg]
       rfl
   . rintro σ H2 ⟨s2, v1, v2, fs, rfl, h2, ho, hlen⟩
     rw [List.length_map, List.take_length] at ho
     rw [List.length_map] at hlen
     have hds := hf.dl
     refine ⟨_, rfl, l, fs, rfl, SqL.of h2, by omega, λ l3 H3 s3 n3 e3 => q l3 H3 (s2.trans s3) (s2.free n3) ?_⟩
     rw [e3, ho]
     rfl
end
end K83
namespace K83
open PySem L2 K13
section
variable {P : Program} {w : World} {K : W.Frag} {mg : Str -> Option Value} {base : Heap} {t : Adr}
theorem sc_begins_of : FnScope ["rows", "opened", "begins", "k", "row"] ["rows"] (defScope s_begins_of) := ⟨rfl, rfl, rfl, by decide +kernel, rfl, by decide +kernel, by decide +kernel⟩
theorem ok_begins_of (T : Txt K mg t) : FnOk P w K mg base CX0 1 t.a_begins_of t.d_begins_of ["rows"] (K13.sp_begins_of K) := by
 refine T.begins_of.F.ok sc_begins_of (λ vs H Q E h => ?_) (λ cdv A outer s H vs Q E hr h => ?_)
 . obtain ⟨a, ks, rfl, hR, w, hn, q⟩ := h
   rfl
 . obtain ⟨a, ks, rfl, hR, w, hn, q⟩ := h
   refine ⟨_, (@pss_cons _ _ _ _ _ (@ps_set _ _ 1 _ _ _ _ sc_begins_of.nd rfl (Or.inl rfl) (@pe_lst _ _ _ _ pa_nil) (by rfl) (by first | exact .inl rfl | exact .inr rfl | assumption)) (@pss_cons _ _ _ _ _ (@ps_set _ _ 2 _ _ _ _ sc_begins_of.nd rfl (Or.inl rfl) pe_dnewK (by rfl) (by first | exact .inl rfl | exact .inr rfl | assumption)) (@pss_cons _ _ _ _ _ (ps_for PassesOwn.never rfl (pi_enumT rfl T.b_enumerate (@pa_cons _ _ _ _ _ (pvC 0) pa_nil (by rfl))) (pg_tup rfl (pgs_cons (pg_name (i := 3) sc_begins_of.nd rfl (Or.inl rfl)) (pgs_cons (pg_name (i := 4) sc_begins_of.nd rfl (Or.inl rfl)) pgs_nil))) (@pss_one _ _ _ (@ps_if _ _ _ _ _ _ _ _ (@ptC_cmpR _ _ _ _ _ _ _ _ op_in_seq (@pe_ix _ _ _ _ _ _ _ (show IxR _ (cIxT K) from ixC_tup) (pvC 4) pe_int (λ _ _ => rfl)) (@pe_tup _ _ _ _ _ (@pa_cons _ _ _ _ _ pe_str (@pa_cons _ _ _ _ _ pe_str pa_nil (by rfl)) (by rfl))) (by with_unfolding_all rfl)) (@pss_one _ _ _ (@ps_expr _ _ _ _ (pe_bm PySem.F.plainAttrs_list PySem.F.slot_list_append PySem.F.type_list_append mtC_append (pvC 1) (@pa_cons _ _ _ _ _ (pvC 3) pa_nil (by rfl))) (by rfl))) (@pss_one _ _ _ (@ps_if _ _ _ _ _ _ _ _ (@ptC_cmpR _ _ _ _ _ _ _ _ op_eq (@pe_ix _ _ _ _ _ _ _ (show IxR _ (cIxT K) from ixC_tup) (pvC 4) pe_int (λ _ _ => rfl)) pe_str (nomark _)) (@pss_one _ _ _ (ps_dput (u1' hr.units) (pvC 2) (pvC 3) (@pe_ix _ _ _ _ _ _ _ (show IxR _ (cIxL K) from ixC_list) (pvC 1) (pe_un un_neg pe_int) (λ _ _ => rfl)) (by rfl))) (@pss_one _ _ _ (@ps_if _ _ _ _ _ _ _ _ (@ptC_cmpR _ _ _ _ _ _ _ _ op_eq (@pe_ix _ _ _ _ _ _ _ (show IxR _ (cIxT K) from ixC_tup) (pvC 4) pe_int (λ _ _ => rfl)) pe_str (nomark _)) (@pss_one _ _ _ (ps_dput (u1' hr.units) (pvC 2) (pvC 3) (pe_bm0 PySem.F.plainAttrs_list PySem.F.slot_list_pop PySem.F.type_list_pop mt_pop (pvC 1)) (by rfl))) pss_nil))))))) (@pss_one _ _ _ (@ps_ret _ _ _ _ (pvC 2)))))), ?_⟩
   refine ⟨le0, λ ol hol => λ d hd => ?_⟩
   obtain ⟨rs, e1, e2, e3⟩ := hR.ex
   have hdo : d ≠ ol := λ z => by rw [z, upd_same] at hd; cases hd
   have s0 : Same H (upd (upd H ol (.lst [])) d (.dK [])) := (Same.new hol).trans (Same.new hd)
   have hd0 : H d = none := (Same.new hol).free hd
   refine ⟨_, rfl, a, rfl, ⟨_, s0.tup e1⟩, for_enumT (xs := rs.map V.ref) (λ i σ H2 => i <= ks.length /\ Same H H2 /\ ∃ v3 v4, σ = [some (.ref a), some (.ref ol), some (.ref d), v3, v4] /\ H2 ol = some (.lst (stkV ks i)) /\ H2 d = some (.dK (bg ks i))) ⟨Nat.zero_le _, s0, _, _, rfl, by rw [upd_ne hdo.symm]; exact upd_same, upd_same⟩ ?_ ?_ ?_⟩
   . rintro i σ H2 hi ⟨_, s2, _⟩
     exact s2.tup e1
   . rintro i x σ H2 b hx ⟨hi', s2, v3, v4, rfl, ho, hg⟩ hb
     have hi : i < rs.length := by
       have := (List.getElem?_eq_some_iff.mp hx).1
       rw [List.length_map] at this
       exact this
     rw [List.getElem?_map] at hx
     have hx : V.ref rs[i] = x := by simpa [hi] using hx
     subst hx
     obtain ⟨rest, hrow⟩ := e3 i rs[i] (by simp [hi])
     have s3 : Same H (upd H2 b (.tup [.int i, .ref rs[i]])) := s2.trans (Same.new hb)
     have ho3 := Same.new (o := .tup [.int i, .ref rs[i]]) hb _ _ ho
     have hg3 := Same.new (o := .tup [.int i, .ref rs[i]]) hb _ _ hg
     have sl := stkV_len ks i
     have bl := bg_len ks i
     refine ⟨b, _, rfl, SqT.of upd_same, rfl, _, _, rfl, _, _, rfl, rfl, ?_⟩
     refine ⟨_, rfl, rs[i], _, _, _, rfl, rfl, s3.tup hrow, at0, le2, λ tw htw => ⟨tw, [V.str "if", V.str "while"], rfl, .inr (SqT.of upd_same), rfl, rfl, _, rfl, ?_⟩⟩
     have s4 := s3.trans (Same.new (o := .tup [V.str "if", V.str "while"]) htw)
     have ho4 := Same.new (o := .tup [V.str "if", V.str "while"]) htw _ _ ho3
     have hg4 := Same.new (o := .tup [V.str "if", V.str "while"]) htw _ _ hg3
     by_cases hO : isO (kd ks i) = true
     . refine iteP ((inO _).trans hO) ?_
       refine ⟨_, rfl, .inl ⟨rfl, _, SqL.of ho4⟩, _, rfl, ol, _, _, rfl, rfl, ho4, lt_line' (by omega), ?_⟩
       refine ⟨by omega, s4.upd hol, _, _, rfl, ?_, ?_⟩
       . rw [upd_same]
         have : stk ks (i + 1) = i :: stk ks i := by rw [stk_succ]; unfold push; rw [if_pos hO]
         unfold stkV
         rw [this, List.reverse_cons, List.map_append]
         rfl
       . rw [upd_ne hdo, bg_same (isO_not_E hO)]
         exact hg4
     refine iteN (λ z => hO ((inO _).symm.trans z)) ?_
     refine ⟨_, rfl, rs[i], _, _, _, rfl, rfl, s4.tup hrow, at0, rfl, _, rfl, ?_⟩
     by_cases h1 : kd ks i = "else"
     . refine iteP (decide_eq_true (congrArg V.str h1)) ?_
       have hE : isE (kd ks i) = true := by rw [h1]; decide +kernel
       obtain ⟨t, r, ht⟩ : ∃ t r, stk ks i = t :: r := by
         cases z : stk ks i with
         | nil => exact absurd z (w.open_ i (by omega) hE)
         | cons t r => exact ⟨t, r, rfl⟩
       obtain ⟨q1, q2, q3⟩ := stkV_top ht
       refine ⟨_, rfl, _, rfl, ol, _, _, _, rfl, rfl, SqL.of ho4, q1, _, rfl, _, rfl, d, _, rfl, DPut.k (k := Sum.inl (i : Int)) hg4 (lt_line' (by omega)), ?_⟩
       refine ⟨by omega, s4.upd hd0, _, _, rfl, ?_, ?_⟩
       . rw [upd_ne hdo.symm]
         have : stk ks (i + 1) = stk ks i := by rw [stk_succ]; unfold push; rw [if_neg hO, if_neg (by rw [h1]; exact els_fin)]
         unfold stkV
         rw [this]
         exact ho4
       . rw [upd_same, bg_put ⟨hE, by rw [ht]; rfl⟩]
     refine iteN (λ z => h1 (V.str.inj (dec_true z))) ?_
     refine ⟨_, rfl, rs[i], _, _, _, rfl, rfl, s4.tup hrow, at0, rfl, _, rfl, ?_⟩
     by_cases h2 : kd ks i = "end"
     . refine iteP (decide_eq_true (congrArg V.str h2)) ?_
       have hE : isE (kd ks i) = true := by rw [h2]; decide +kernel
       obtain ⟨t, r, ht⟩ : ∃ t r, stk ks i = t :: r := by
         cases z : stk ks i with
         | nil => exact absurd z (w.open_ i (by omega) hE)
         | cons t r => exact ⟨t, r, rfl⟩
       obtain ⟨q1, q2, q3⟩ := stkV_top ht
       refine ⟨_, rfl, .inl ⟨rfl, _, SqL.of ho4⟩, ol, _, _, rfl, rfl, ho4, q2, _, rfl, _, rfl, d, _, rfl, DPut.k (k := Sum.inl (i : Int)) (by rw [upd_ne hdo]; exact hg4) (lt_line' (by omega)), ?_⟩
       refine ⟨by omega, (s4.upd hol).upd hd0, _, _, rfl, ?_, ?_⟩
       . rw [upd_ne hdo.symm, upd_same, q3]
         have : stk ks (i + 1) = r := by rw [stk_succ]; unfold push; rw [if_neg hO, if_pos h2, ht]; rfl
         unfold stkV
         rw [this]
       . rw [upd_same, bg_put ⟨hE, by rw [ht]; rfl⟩]
     refine iteN (λ z => h2 (V.str.inj (dec_true z))) ?_
     refine ⟨by omega, s4, _, _, rfl, ?_, ?_⟩
     . have : stk ks (i + 1) = stk ks i := by rw [stk_succ]; unfold push; rw [if_neg hO, if_neg h2]
       unfold stkV
       rw [this]
       exact ho4
     . rw [bg_same (isE_or h1 h2)]
       exact hg4
   . rintro σ H2 ⟨_, s2, v3, v4, rfl, ho, hg⟩
     rw [List.length_map, e2] at hg
     exact ⟨_, rfl, q d H2 s2 hd0 hg⟩
theorem sc_firsts_behind : FnScope ["rows", "begins", "ends", "k", "begin", "behind", "follower", "kind"] ["rows", "begins"] (defScope s_firsts_behind) := ⟨rfl, rfl, rfl, by decide +kernel, rfl, by decide +kernel, by decide +kernel⟩
theorem ok_firsts_behind (T : Txt K mg t) : FnOk P w K mg base CX0 1 t.a_firsts_behind t.d_firsts_behind ["rows", "begins"] (K13.sp_firsts_behind K) := by
 refine T.firsts_behind.F.ok sc_firsts_behind (λ vs H Q E h => ?_) (λ cdv A outer s H vs Q E hr h => ?_)
 . obtain ⟨a, d, ks, rfl, hR, w, hn, hd, q⟩ := h
   rfl
 . obtain ⟨a, d, ks, rfl, hR, w, hn, hd, q⟩ := h
   refine ⟨_, (@pss_cons _ _ _ _ _ (@ps_set _ _ 2 _ _ _ _ sc_firsts_behind.nd rfl (Or.inl rfl) pe_dnewK (by rfl) (by first | exact .inl rfl | exact .inr rfl | assumption)) (@pss_cons _ _ _ _ _ (ps_for PassesOwn.never rfl (pi_items (pv 1)) (pg_tup rfl (pgs_cons (pg_name (i := 3) sc_firsts_behind.nd rfl (Or.inl rfl)) (pgs_cons (pg_name (i := 4) sc_firsts_behind.nd rfl (Or.inl rfl)) pgs_nil))) (@pss_one _ _ _ (ps_dput (u1' hr.units) (pv 2) (pv 4) (pv 3) (by rfl)))) (@pss_cons _ _ _ _ _ (@ps_set _ _ 5 _ _ _ _ sc_firsts_behind.nd rfl (Or.inl rfl) (@pe_op _ _ _ _ _ _ _ _ op_rep (@pe_lst _ _ _ _ (@pa_cons _ _ _ _ _ pe_non pa_nil (by rfl))) (pe_callB call_len_seq (by rfl) T.b_len bt_len (@pa_cons _ _ _ _ _ (pv 0) pa_nil (by rfl)))) (by rfl) (by first | exact .inl rfl | exact .inr rfl | assumption)) (@pss_cons _ _ _ _ _ (ps_for PassesOwn.never rfl (pi_down rfl T.b_range (@pa_cons _ _ _ _ _ (@pe_op _ _ _ _ _ _ _ _ op_sub (pe_callB call_len_seq (by rfl) T.b_len bt_len (@pa_cons _ _ _ _ _ (pv 0) pa_nil (by rfl))) pe_int) (@pa_cons _ _ _ _ _ (pe_un un_neg pe_int) (@pa_cons _ _ _ _ _ (pe_un un_neg pe_int) pa_nil (by rfl)) (by rfl)) (by rfl))) (pg_name (i := 3) sc_firsts_behind.nd rfl (Or.inl rfl)) (@pss_cons _ _ _ _ _ (@ps_set _ _ 6 _ _ _ _ sc_firsts_behind.nd rfl (Or.inl rfl) (@pe_op _ _ _ _ _ _ _ _ op_add (pv 3) pe_int) (by rfl) (by first | exact .inl rfl | exact .inr rfl | assumption)) (@pss_cons _ _ _ _ _ (@ps_set _ _ 7 _ _ _ _ sc_firsts_behind.nd rfl (Or.inl rfl) (@pe_ix _ _ _ _ _ _ _ ix_tup (@pe_ix _ _ _ _ _ _ _ ix_tup (pv 0) (pv 6) (λ _ _ => rfl)) pe_int (λ _ _ => rfl)) (by rfl) (by first | exact .inl rfl | exact .inr rfl | assumption)) (@pss_one _ _ _ (@ps_if _ _ _ _ _ _ _ _ (@pt_cmpR _ _ _ _ _ _ _ _ op_eq (pv 7) pe_str (nomark _)) (@pss_one _ _ _ (ps_asg (@pe_ix _ _ _ _ _ _ _ ix_list (pv 5) (pe_dget (u1' hr.units) (pv 2) (pe_dget (u1' hr.units) (pv 1) (pv 6) (λ _ _ => rfl)) (λ _ _ => rfl)) (λ _ _ => rfl)) (pg_sub (pv 5) (pv 3) set_list))) (@pss_one _ _ _ (@ps_if _ _ _ _ _ _ _ _ (@PW.pt _ _ _ (@pw_and _ _ _ _ _ _ _ (@pt_cmpR _ _ _ _ _ _ _ _ op_eq (pv 7) pe_str (nomark _)) (@pw_and1 _ _ _ _ (@pt_cmpR _ _ _ _ _ _ _ _ op_eq (@pe_ix _ _ _ _ _ _ _ ix_tup (@pe_ix _ _ _ _ _ _ _ ix_tup (pv 0) (pe_dget (u1' hr.units) (pv 1) (pv 6) (λ _ _ => rfl)) (λ _ _ => rfl)) pe_int (λ _ _ => rfl)) pe_str (nomark _))))) (@pss_one _ _ _ (ps_asg (pe_dget (u1' hr.units) (pv 1) (pv 6) (λ _ _ => rfl)) (pg_sub (pv 5) (pv 3) set_list))) (@pss_one _ _ _ (@ps_if _ _ _ _ _ _ _ _ (@pt_cmpR _ _ _ _ _ _ _ _ op_eq (pv 7) pe_str (nomark _)) (@pss_one _ _ _ (ps_asg (@pe_ix _ _ _ _ _ _ _ ix_list (pv 5) (pv 6) (λ _ _ => rfl)) (pg_sub (pv 5) (pv 3) set_list))) (@pss_one _ _ _ (ps_asg (pv 6) (pg_sub (pv 5) (pv 3) set_list)))))))))))) (@pss_one _ _ _ (@ps_ret _ _ _ _ (pv 5))))))), ?_⟩
   refine λ ed hed => ?_
   have hde : d ≠ ed := λ z => by rw [<- z, hd] at hed; cases hed
   refine ⟨_, rfl, d, bg ks ks.length, rfl, .inl ⟨Same.new hed _ _ hd, λ o => ?_⟩⟩
   have sF : Same (upd H d (.frz o (.dK (bg ks ks.length)))) (upd (upd H ed (.dK [])) d (.frz o (.dK (bg ks ks.length)))) := λ b u h => by
     by_cases hb : b = d
     . subst hb
       rw [upd_same] at h ⊢
       exact h
     . rw [upd_ne hb] at h ⊢
       rw [upd_ne (λ z => by rw [z, hed] at h; cases h)]
       exact h
   have hF : (upd H d (.frz o (.dK (bg ks ks.length)))) d = some (.frz o (.dK (bg ks ks.length))) := upd_same
   have hedF : (upd H d (.frz o (.dK (bg ks ks.length)))) ed = none := by rw [upd_ne hde.symm]; exact hed
   have hRF : RowsAt K (upd H d (.frz o (.dK (bg ks ks.length)))) a ks := hR.frz hd
   have qF : ∀ l H', Same (upd H d (.frz o (.dK (bg ks ks.length)))) H' -> (upd H d (.frz o (.dK (bg ks ks.length)))) l = none -> BehL H' l ks -> Q (.ref l) H' := λ l H' h1 h2 h3 => q l o H' h1 (by rw [upd_ne (λ z => by rw [z, hF] at h2; cases h2)] at h2; exact h2) h3
   generalize upd H d (.frz o (.dK (bg ks ks.length))) = HF at sF hF hedF hRF qF
   have bl := bg_len ks ks.length
   have pl := prs_len ks ks.length
   refine for_items (λ i σ H2 => i <= (bg ks ks.length).length /\ Same HF H2 /\ ∃ v3 v4 eds, σ = [some (.ref a), some (.ref d), some (.ref ed), v3, v4, none, none, none] /\ H2 ed = some (.dK eds) /\ eds.length <= i /\ ∀ b : Nat, valV eds (Sum.inl (b : Int) : Key) = (lastOf ((prs ks ks.length).take i) b).map λ (m : Nat) => V.int (m : Int)) ⟨Nat.zero_le _, sF, _, _, [], rfl, by rw [upd_ne hde.symm]; exact upd_same, Nat.le_refl _, λ b => rfl⟩ ?_ ?_ ?_
   . rintro i σ H2 hi ⟨_, s2, _⟩
     exact s2 _ _ hF
   . rintro i kv σ H2 b hkv ⟨hi, s2, v3, v4, eds, rfl, he, hel, hv⟩ hb
     obtain ⟨p, hp, rfl⟩ := prs_at hkv
     have hlt := (List.getElem?_eq_some_iff.mp hkv).1
     have he3 := Same.new (o := .tup [V.int (p.1 : Int), V.int (p.2 : Int)]) hb _ _ he
     refine ⟨b, _, rfl, SqT.of upd_same, rfl, _, _, rfl, _, _, rfl, rfl, ?_⟩
     refine ⟨_, rfl, _, rfl, _, rfl, ed, _, rfl, DPut.k (k := Sum.inl (p.2 : Int)) he3 (lt_line' (by omega)), ?_⟩
     refine ⟨hlt, (s2.trans (Same.new hb)).upd hedF, _, _, _, rfl, upd_same, ?_, λ b' => ?_⟩
     . exact Nat.le_trans (length_putK _ _ _) (by omega)
     . rw [valV_put, List.take_add_one, hp]
       show _ = (lastOf ((prs ks ks.length).take i ++ [p]) b').map _
       rw [lastOf_snoc, hv b']
       by_cases h : p.2 = b'
       . rw [if_pos h, if_pos (by rw [h])]
         rfl
       . rw [if_neg h, if_neg (λ z => h (by have : (b' : Int) = (p.2 : Int) := Sum.inl.inj z; omega))]
   . rintro σ H2 ⟨_, s2, v3, v4, eds, rfl, he, hel, hv⟩
     have hv : ∀ b : Nat, valV eds (Sum.inl (b : Int) : Key) = (lastOf (prs ks ks.length) b).map λ (m : Nat) => V.int (m : Int) := λ b => by
       rw [hv b]
       unfold bg bgOf
       rw [List.length_map, List.take_length]
     obtain ⟨rs, r1, r2, r3⟩ := hRF.ex
     have rl : (rs.map V.ref).length = ks.length := by rw [List.length_map, r2]
     refine ⟨le1, λ nl hnl => ⟨_, rfl, a, _, rfl, .inr ((s2.trans (Same.new hnl)).tup r1), nl, _, _, rfl, rfl, upd_same, by omega, by rw [rl]; omega, by rw [rl]; exact lt_line (by simp; omega), λ bl hbl => ?_⟩⟩
     have s3 := (s2.trans (Same.new (o := .lst [V.non]) hnl)).trans (Same.new (o := .lst (List.replicate (((rs.map V.ref).length : Int).toNat) [V.non]).flatten) hbl)
     have hbF : HF bl = none := s2.free ((Same.new hnl).free hbl)
     have hbe : bl ≠ ed := λ z => by
       have := (Same.new hnl).free hbl
       rw [z, he] at this
       cases this
     have he3 := (Same.new (o := .lst (List.replicate (((rs.map V.ref).length : Int).toNat) [V.non]).flatten) hbl) _ _ ((Same.new (o := .lst [V.non]) hnl) _ _ he)
     refine ⟨_, rfl, a, _, rfl, .inr (s3.tup r1), _, _, rfl, rfl, _, rfl, _, rfl, (ks.length : Int) - 2, -1, by rw [rl], ⟨by omega, by omega, by omega, by omega⟩, ?_⟩
     have hnn : (((ks.length : Int) - 2) - -1).toNat = ks.length - 1 := by omega
     rw [hnn]
     refine for_down (λ i σ H4 => Same HF H4 /\ ∃ v3 v4 v6 v7 bs, σ = [some (.ref a), some (.ref d), some (.ref ed), v3, v4, some (.ref bl), v6, v7] /\ H4 ed = some (.dK eds) /\ H4 bl = some (.lst bs) /\ bs.length = ks.length /\ ∀ k, k + 1 < ks.length -> ks.length - 1 - i <= k -> ∃ r : Nat, Beh ks k r /\ bs[k]? = some (.int (r : Int))) ⟨s3, _, _, _, _, _, rfl, he3, upd_same, by rw [rl]; exact nones_len _, λ k h1 h2 => by omega⟩ ?_ ?_
     . rintro i σ H4 hi ⟨s4, v3, v4, v6, v7, bs, rfl, e4, b4, l4, hb4⟩
       obtain ⟨k, hk⟩ : ∃ k : Nat, k + 2 + i = ks.length := ⟨ks.length - 2 - i, by omega⟩
       have ek : ((ks.length : Int) - 2) - (i : Int) = (k : Int) := by omega
       rw [ek]
       have hR4 := hRF.mono s4
       have old : ∀ j, j + 1 < ks.length -> k < j -> ∃ r : Nat, Beh ks j r /\ bs[j]? = some (.int (r : Int)) := λ j h1 h2 => hb4 j h1 (by omega)
       have fin : ∀ (r : Nat) (v3 v4 v6 v7 : Option V), Beh ks k r -> Same HF (upd H4 bl (.lst (bs.set k (.int (r : Int))))) /\ ∃ v3' v4' v6' v7' bs', ([some (.ref a), some (.ref d), some (.ref ed), v3, v4, some (.ref bl), v6, v7] : St) = [some (.ref a), some (.ref d), some (.ref ed), v3', v4', some (.ref bl), v6', v7'] /\ (upd H4 bl (.lst (bs.set k (.int (r : Int))))) ed = some (.dK eds) /\ (upd H4 bl (.lst (bs.set k (.int (r : Int))))) bl = some (.lst bs') /\ bs'.length = ks.length /\ ∀ j, j + 1 < ks.length -> ks.length - 1 - (i + 1) <= j -> ∃ r : Nat, Beh ks j r /\ bs'[j]? = some (.int (r : Int)) := λ r v3 v4 v6 v7 hr => by
         refine ⟨s4.upd hbF, _, _, _, _, _, rfl, by rw [upd_ne hbe.symm]; exact e4, upd_same, by rw [List.length_set]; exact l4, λ j h1 h2 => ?_⟩
         by_cases hj : j = k
         . subst hj
           exact ⟨r, hr, by rw [List.getElem?_set_self (by omega)]⟩
         . obtain ⟨r', q1, q2⟩ := old j h1 (by omega)
           exact ⟨r', q1, by rw [List.getElem?_set_ne (λ z => hj z.symm)]; exact q2⟩
       have hix : ixN bs.length (k : Int) = some k := by
         unfold ixN
         rw [if_pos (by omega), if_pos (by omega), Int.toNat_natCast]
       have at_bs : ∀ j r : Nat, bs[j]? = some (.int (r : Int)) -> atI bs (j : Int) = some (.int (r : Int)) := λ j r h => atI_nat h
       refine ⟨_, rfl, _, _, rfl, rfl, ?_⟩
       show gName 6 (V.int ((k : Int) + 1)) _ _ _
       rw [show ((k : Int) + 1) = ((k + 1 : Nat) : Int) by omega]
       refine ⟨_, rfl, _, rfl, ixk hR4 (by omega) (by omega) ?_⟩
       refine ⟨_, rfl, rfl, _, rfl, ?_⟩
       have top : isE (kd ks (k + 1)) = true -> ∃ b, (stk ks (k + 1)).head? = some b := λ h => by
         cases z : stk ks (k + 1) with
         | nil => exact absurd z (w.open_ (k + 1) (by omega) h)
         | cons b r => exact ⟨b, rfl⟩
       have fz : Rd H4 d (.dK (bg ks ks.length)) := .inr ⟨o, s4 _ _ hF⟩
       by_cases h1 : kd ks (k + 1) = "else"
       . refine iteP (decide_eq_true (congrArg V.str h1)) ?_
         have hE : isE (kd ks (k + 1)) = true := by rw [h1]; decide +kernel
         obtain ⟨b, hb⟩ := top hE
         have hbo := hit_lt (⟨hE, hb⟩ : Hit ks b (k + 1))
         obtain ⟨e, hEn⟩ := ends_ex w (by omega) hbo.2
         have h5 : k + 1 <= e := hit_le hEn ⟨hE, hb⟩
         have h6 : e + 1 < ks.length := by
           rcases Nat.lt_or_ge (e + 1) ks.length with z | z
           . exact z
           . have := w.last e (by have := hEn.2.1; omega)
             rw [hEn.2.2.1] at this
             exact absurd this.symm back_ne.2
         obtain ⟨r, hr1, hr2⟩ := old e h6 (by omega)
         have g1 : DGet H4 d (.int ((k + 1 : Nat) : Int)) (some (.int (b : Int))) := .inl ⟨_, Sum.inl ((k + 1 : Nat) : Int), fz, rfl, (bg_at ks.length (by omega) ⟨hE, hb⟩).symm⟩
         have g2 : DGet H4 ed (.int (b : Int)) (some (.int (e : Int))) := .inl ⟨_, Sum.inl (b : Int), .inl e4, rfl, by rw [hv b, last_end hEn]; rfl⟩
         exact ⟨_, rfl, _, rfl, _, rfl, _, rfl, d, _, rfl, g1, ed, _, rfl, g2, bl, _, _, _, rfl, rfl, SqL.of b4, at_bs e r hr2, _, rfl, _, rfl, bl, _, _, _, rfl, rfl, b4, hix, fin r _ _ _ _ (.els h1 hb hEn hr1)⟩
       refine iteN (λ z => h1 (V.str.inj (dec_true z))) ?_
       refine ⟨_, rfl, rfl, _, rfl, ?_⟩
       by_cases h2 : kd ks (k + 1) = "end"
       . have hE : isE (kd ks (k + 1)) = true := by rw [h2]; decide +kernel
         obtain ⟨b, hb⟩ := top hE
         have hbo := hit_lt (⟨hE, hb⟩ : Hit ks b (k + 1))
         have g1 : DGet H4 d (.int ((k + 1 : Nat) : Int)) (some (.int (b : Int))) := .inl ⟨_, Sum.inl ((k + 1 : Nat) : Int), fz, rfl, (bg_at ks.length (by omega) ⟨hE, hb⟩).symm⟩
         refine iteP (decide_eq_true (congrArg V.str h2)) ?_
         refine ⟨_, rfl, _, rfl, _, rfl, d, _, rfl, g1, ixk hR4 (by omega) (by omega) ⟨rfl, _, rfl, ?_⟩⟩
         by_cases h3 : kd ks b = "while"
         . refine iteP (decide_eq_true (congrArg V.str h3)) ?_
           exact ⟨_, rfl, _, rfl, d, _, rfl, g1, _, rfl, _, rfl, bl, _, _, _, rfl, rfl, b4, hix, fin b _ _ _ _ (.whl h2 hb h3)⟩
         . refine iteN (λ z => h3 (V.str.inj (dec_true z))) ?_
           refine ⟨_, rfl, rfl, _, rfl, iteP (decide_eq_true (congrArg V.str h2)) ?_⟩
           have h6 : k + 1 + 1 < ks.length := by
             rcases Nat.lt_or_ge (k + 1 + 1) ks.length with z | z
             . exact z
             . have := w.last (k + 1) (by omega)
               rw [h2] at this
               exact absurd this.symm back_ne.2
           obtain ⟨r, hr1, hr2⟩ := old (k + 1) h6 (by omega)
           exact ⟨_, rfl, _, rfl, bl, _, _, _, rfl, rfl, SqL.of b4, at_bs (k + 1) r hr2, _, rfl, _, rfl, bl, _, _, _, rfl, rfl, b4, hix, fin r _ _ _ _ (.fin h2 hb h3 hr1)⟩
       . refine iteN (λ z => h2 (V.str.inj (dec_true z))) (iteF ?_)
         refine ⟨_, rfl, rfl, _, rfl, iteN (λ z => h2 (V.str.inj (dec_true z))) ?_⟩
         exact ⟨_, rfl, _, rfl, _, rfl, bl, _, _, _, rfl, rfl, b4, hix, fin (k + 1) _ _ _ _ (.oth h1 h2)⟩
     . rintro σ H4 ⟨s4, v3, v4, v6, v7, bs, rfl, e4, b4, l4, hb4⟩
       exact ⟨_, rfl, qF bl H4 s4 hbF ⟨bs, b4, l4, λ k h1 => hb4 k h1 (by omega)⟩⟩
theorem sc_ways : FnScope ["rows", "begins", "behind", "turns", "k", "begin", "found", "row"] ["rows"] (defScope s_ways) := ⟨rfl, rfl, rfl, by decide +kernel, rfl, by decide +kernel, by decide +kernel⟩
theorem ok_ways (T : Txt K mg t) : FnOk P w K mg base CX0 2 t.a_ways t.d_ways ["rows"] (K13.sp_ways K) := by
 have G_begins_of : FnOk P w K mg base CX0 1 t.a_begins_of t.d_begins_of ["rows"] (K13.sp_begins_of K) := ok_begins_of T
 have G_firsts_behind : FnOk P w K mg base CX0 1 t.a_firsts_behind t.d_firsts_behind ["rows", "begins"] (K13.sp_firsts_behind K) := ok_firsts_behind T
 refine T.ways.F.ok sc_ways (λ vs H Q E h => ?_) (λ cdv A outer s H vs Q E hr h => ?_)
 . obtain ⟨a, ks, rfl, hR, w, hn, q⟩ := h
   rfl
 . obtain ⟨a, ks, rfl, hR, w, hn, q⟩ := h
   refine ⟨_, (@pss_cons _ _ _ _ _ (@ps_set _ _ 1 _ _ _ _ sc_ways.nd rfl (Or.inl rfl) (callD T.begins_of G_begins_of (hr.mono (by decide)) (@pa_cons _ _ _ _ _ (pv 0) pa_nil (by rfl))) (by rfl) (by first | exact .inl rfl | exact .inr rfl | assumption)) (@pss_cons _ _ _ _ _ (@ps_set _ _ 2 _ _ _ _ sc_ways.nd rfl (Or.inl rfl) (callD T.firsts_behind G_firsts_behind (hr.mono (by decide)) (@pa_cons _ _ _ _ _ (pv 0) (@pa_cons _ _ _ _ _ (pv 1) pa_nil (by rfl)) (by rfl))) (by rfl) (by first | exact .inl rfl | exact .inr rfl | assumption)) (@pss_cons _ _ _ _ _ (@ps_set _ _ 3 _ _ _ _ sc_ways.nd rfl (Or.inl rfl) pe_dnewK (by rfl) (by first | exact .inl rfl | exact .inr rfl | assumption)) (@pss_cons _ _ _ _ _ (ps_for PassesOwn.never rfl (pi_items (pv 1)) (pg_tup rfl (pgs_cons (pg_name (i := 4) sc_ways.nd rfl (Or.inl rfl)) (pgs_cons (pg_name (i := 5) sc_ways.nd rfl (Or.inl rfl)) pgs_nil))) (@pss_one _ _ _ (@ps_expr _ _ _ _ (pe_dsetd (pv 3) (pv 5) (pv 4) ⟨rfl, rfl, rfl, rfl⟩) (by rfl)))) (@pss_cons _ _ _ _ _ (@ps_set _ _ 6 _ _ _ _ sc_ways.nd rfl (Or.inl rfl) (@pe_lst _ _ _ _ pa_nil) (by rfl) (by first | exact .inl rfl | exact .inr rfl | assumption)) (@pss_cons _ _ _ _ _ (ps_for PassesOwn.never rfl (pi_enumT rfl T.b_enumerate (@pa_cons _ _ _ _ _ (pv 0) pa_nil (by rfl))) (pg_tup rfl (pgs_cons (pg_name (i := 4) sc_ways.nd rfl (Or.inl rfl)) (pgs_cons (pg_name (i := 7) sc_ways.nd rfl (Or.inl rfl)) pgs_nil))) (@pss_one _ _ _ (@ps_if _ _ _ _ _ _ _ _ (@pt_cmpR _ _ _ _ _ _ _ _ op_in_seq (@pe_ix _ _ _ _ _ _ _ ix_tup (pv 7) pe_int (λ _ _ => rfl)) (@pe_tup _ _ _ _ _ (@pa_cons _ _ _ _ _ pe_str (@pa_cons _ _ _ _ _ pe_str pa_nil (by rfl)) (by rfl))) (by with_unfolding_all rfl)) (@pss_one _ _ _ (@ps_expr _ _ _ _ (pe_bm PySem.F.plainAttrs_list PySem.F.slot_list_append PySem.F.type_list_append mt_append (pv 6) (@pa_cons _ _ _ _ _ pe_non pa_nil (by rfl))) (by rfl))) (@pss_one _ _ _ (@ps_if _ _ _ _ _ _ _ _ (@pt_cmpR _ _ _ _ _ _ _ _ op_eq (@pe_ix _ _ _ _ _ _ _ ix_tup (pv 7) pe_int (λ _ _ => rfl)) pe_str (nomark _)) (@pss_one _ _ _ (@ps_expr _ _ _ _ (pe_bm PySem.F.plainAttrs_list PySem.F.slot_list_append PySem.F.type_list_append mt_append (pv 6) (@pa_cons _ _ _ _ _ (@pe_tup _ _ _ _ _ pa_nil) pa_nil (by rfl))) (by rfl))) (@pss_one _ _ _ (@ps_if _ _ _ _ _ _ _ _ (pt_cmp (pc_din (u1' hr.units) (pv 4) (pv 3))) (@pss_one _ _ _ (@ps_expr _ _ _ _ (pe_bm PySem.F.plainAttrs_list PySem.F.slot_list_append PySem.F.type_list_append mt_append (pv 6) (@pa_cons _ _ _ _ _ (@pe_tup _ _ _ _ _ (@pa_cons _ _ _ _ _ (@pe_ix _ _ _ _ _ _ _ ix_list (pv 2) (pv 4) (λ _ _ => rfl)) (@pa_cons _ _ _ _ _ (@pe_ix _ _ _ _ _ _ _ ix_list (pv 2) (pe_dget (u1' hr.units) (pv 3) (pv 4) (λ _ _ => rfl)) (λ _ _ => rfl)) pa_nil (by rfl)) (by rfl))) pa_nil (by rfl))) (by rfl))) (@pss_one _ _ _ (@ps_expr _ _ _ _ (pe_bm PySem.F.plainAttrs_list PySem.F.slot_list_append PySem.F.type_list_append mt_append (pv 6) (@pa_cons _ _ _ _ _ (@pe_tup _ _ _ _ _ (@pa_cons _ _ _ _ _ (@pe_ix _ _ _ _ _ _ _ ix_list (pv 2) (pv 4) (λ _ _ => rfl)) pa_nil (by rfl))) pa_nil (by rfl))) (by rfl)))))))))) (@pss_one _ _ _ (@ps_ret _ _ _ _ (pv 6))))))))), ?_⟩
   refine ⟨_, rfl, a, ks, rfl, hR, w, hn, λ d H1 s1 n1 e1 => ?_⟩
   refine ⟨_, rfl, _, rfl, a, d, ks, rfl, hR.mono s1, w, hn, e1, λ l o H2 s2 n2 hB => ?_⟩
   have s02 : Same H H2 := (s1.upd n1).trans s2
   have hdF : H2 d = some (.frz o (.dK (bg ks ks.length))) := s2 _ _ upd_same
   have hl0 : H l = none := s1.free n2
   refine λ td htd => ?_
   have bl := bg_len ks ks.length
   obtain ⟨bs, hb1, hb2, hb3⟩ := hB
   refine ⟨_, rfl, d, bg ks ks.length, rfl, .inr ⟨o, Same.new htd _ _ hdF, ?_⟩⟩
   refine for_items (λ i σ H3 => i <= (bg ks ks.length).length /\ Same H2 H3 /\ ∃ v4 v5 tds, σ = [some (.ref a), some (.ref d), some (.ref l), some (.ref td), v4, v5, none, none] /\ H3 td = some (.dK tds) /\ tds.length <= i /\ ∀ b : Nat, valV tds (Sum.inl (b : Int) : Key) = (firstOf ((prs ks ks.length).take i) b).map λ (m : Nat) => V.int (m : Int)) ⟨Nat.zero_le _, Same.new htd, _, _, [], rfl, upd_same, Nat.le_refl _, λ b => rfl⟩ ?_ ?_ ?_
   . rintro i σ H3 hi ⟨_, s3, _⟩
     exact s3 _ _ hdF
   . rintro i kv σ H3 b hkv ⟨hi, s3, v4, v5, tds, rfl, he, hel, hv⟩ hb
     obtain ⟨p, hp, rfl⟩ := prs_at hkv
     have hlt := (List.getElem?_eq_some_iff.mp hkv).1
     have he3 := Same.new (o := .tup [V.int (p.1 : Int), V.int (p.2 : Int)]) hb _ _ he
     refine ⟨b, _, rfl, SqT.of upd_same, rfl, _, _, rfl, _, _, rfl, rfl, ?_⟩
     have tk : ∀ b', firstOf ((prs ks ks.length).take (i + 1)) b' = if (firstOf ((prs ks ks.length).take i) b').isSome = true then firstOf ((prs ks ks.length).take i) b' else if p.2 = b' then some p.1 else none := λ b' => by
       rw [List.take_add_one, hp]
       exact firstOf_snoc _ p b'
     refine ⟨_, rfl, td, rfl, .inl ⟨tds, .inl he3⟩, _, rfl, _, rfl, tds, Sum.inl (p.2 : Int), he3, rfl, lt_line' (by omega), λ v hv' => ?_, λ hv' => ?_⟩
     . refine ⟨hlt, s3.trans (Same.new hb), _, _, tds, rfl, he3, by omega, λ b' => ?_⟩
       rw [hv b', tk b']
       cases z : firstOf ((prs ks ks.length).take i) b' with
       | some m => rfl
       | none =>
         rw [if_neg (show ¬ (none : Option Nat).isSome = true by decide), if_neg]
         intro h
         rw [h, hv b', z] at hv'
         cases hv'
     . refine ⟨hlt, (s3.trans (Same.new hb)).upd htd, _, _, _, rfl, upd_same, Nat.le_trans (length_putK _ _ _) (by omega), λ b' => ?_⟩
       rw [valV_put, tk b']
       by_cases h : p.2 = b'
       . subst h
         have z : firstOf ((prs ks ks.length).take i) p.2 = none := by
           rw [hv p.2] at hv'
           cases y : firstOf ((prs ks ks.length).take i) p.2 with
           | none => rfl
           | some m => rw [y] at hv'; cases hv'
         rw [if_pos rfl, z, if_neg (show ¬ (none : Option Nat).isSome = true by decide), if_pos rfl]
         rfl
       . rw [if_neg (λ z => h (by have : (b' : Int) = (p.2 : Int) := Sum.inl.inj z; omega)), hv b', if_neg h]
         cases z : firstOf ((prs ks ks.length).take i) b' with
         | some m => rfl
         | none => rfl
   . rintro σ H3 ⟨_, s3, v4, v5, tds, rfl, he, hel, hv⟩
     have hv : ∀ b : Nat, valV tds (Sum.inl (b : Int) : Key) = (firstOf (prs ks ks.length) b).map λ (m : Nat) => V.int (m : Int) := λ b => by
       rw [hv b]
       unfold bg bgOf
       rw [List.length_map, List.take_length]
     obtain ⟨rs, r1, r2, r3⟩ := hR.ex
     refine ⟨le0, λ fl hfl => ?_⟩
     have s03 := s02.trans s3
     have hf2 : H3 fl = none := hfl
     have htf : td ≠ fl := λ z => by rw [<- z, he] at hfl; cases hfl
     have hf0 : H fl = none := s03.free hfl
     refine ⟨_, rfl, a, rfl, ⟨_, (s03.trans (Same.new hfl)).tup r1⟩, for_enumT (xs := rs.map V.ref) (λ i σ H4 => i <= ks.length /\ Same H3 H4 /\ (∃ v4 v5 v7, σ = [some (.ref a), some (.ref d), some (.ref l), some (.ref td), v4, v5, some (.ref fl), v7]) /\ FoundN H4 fl ks i) ⟨Nat.zero_le _, Same.new hfl, ⟨_, _, _, rfl⟩, ⟨[], upd_same, rfl, λ k v z => by simp at z⟩⟩ ?_ ?_ ?_⟩
     . rintro i σ H4 hi ⟨_, s4, _⟩
       exact (s03.trans s4).tup r1
     . rintro i x σ H4 b hx ⟨hi', s4, ⟨v4, v5, v7, rfl⟩, hF⟩ hb
       have hi : i < rs.length := by
         have := (List.getElem?_eq_some_iff.mp hx).1
         rw [List.length_map] at this
         exact this
       rw [List.getElem?_map] at hx
       have hx : V.ref rs[i] = x := by simpa [hi] using hx
       subst hx
       obtain ⟨rest, hrow⟩ := r3 i rs[i] (by simp [hi])
       have s5 := s4.trans (Same.new (o := .tup [.int i, .ref rs[i]]) hb)
       have hF5 := hF.mono (Same.new (o := .tup [.int i, .ref rs[i]]) hb)
       refine ⟨b, _, rfl, SqT.of upd_same, rfl, _, _, rfl, _, _, rfl, rfl, ?_⟩
       refine ⟨_, rfl, rs[i], _, _, _, rfl, rfl, (s03.trans s5).tup hrow, at0, le2, λ tw htw => ⟨tw, [V.str "else", V.str "end"], rfl, .inr (SqT.of upd_same), rfl, rfl, _, rfl, ?_⟩⟩
       have s6 := s5.trans (Same.new (o := .tup [V.str "else", V.str "end"]) htw)
       obtain ⟨vs, f1, f2, f3⟩ := hF5.mono (Same.new (o := .tup [V.str "else", V.str "end"]) htw)
       generalize upd (upd H4 b (.tup [.int i, .ref rs[i]])) tw (.tup [V.str "else", V.str "end"]) = H6 at s6 f1 f3 ⊢
       have s06 := s03.trans s6
       have fin : ∀ {H7 : Hp} {v : V} {oo : Option (List Nat)} (u4 u5 u7 : Option V), Same H6 H7 -> Due ks i oo -> ValO H7 v oo -> i + 1 <= ks.length /\ Same H3 (upd H7 fl (.lst (vs ++ [v]))) /\ (∃ v4 v5 v7, ([some (.ref a), some (.ref d), some (.ref l), some (.ref td), u4, u5, some (.ref fl), u7] : St) = [some (.ref a), some (.ref d), some (.ref l), some (.ref td), v4, v5, some (.ref fl), v7]) /\ FoundN (upd H7 fl (.lst (vs ++ [v]))) fl ks (i + 1) := λ u4 u5 u7 s7 hd hv => by
         refine ⟨by omega, (s6.trans s7).upd hfl, ⟨_, _, _, rfl⟩, FoundN.push (s7 _ _ f1) f2 (λ k v z => ?_) hd hv⟩
         obtain ⟨o', d', y⟩ := f3 k v z
         exact ⟨o', d', y.mono s7⟩
       by_cases hE : isE (kd ks i) = true
       . refine iteP ((inE _).trans hE) ?_
         exact ⟨_, rfl, .inl ⟨rfl, _, SqL.of f1⟩, fl, _, _, rfl, rfl, f1, lt_line' (by omega), fin _ _ _ (Same.refl _) (.no hE) rfl⟩
       refine iteN (λ z => hE ((inE _).symm.trans z)) ?_
       refine ⟨_, rfl, rs[i], _, _, _, rfl, rfl, s06.tup hrow, at0, rfl, _, rfl, ?_⟩
       by_cases hbk : kd ks i = "back"
       . refine iteP (decide_eq_true (congrArg V.str hbk)) ?_
         exact ⟨_, rfl, .inl ⟨rfl, _, SqL.of f1⟩, le0, λ p hp => ⟨fl, _, _, rfl, rfl, Same.new hp _ _ f1, lt_line' (by omega), fin _ _ _ (Same.new hp) (.back hbk) ⟨p, rfl, upd_same⟩⟩⟩
       refine iteN (λ z => hbk (V.str.inj (dec_true z))) ?_
       have hlast := not_last w (by omega) hbk
       obtain ⟨r, hr1, hr2⟩ := hb3 i hlast
       have hb6 := (s3.trans s6) _ _ hb1
       have ht6 := s6 _ _ he
       refine ⟨_, rfl, _, rfl, td, _, rfl, DGet.k (k := Sum.inl (i : Int)) ht6, _, rfl, ?_⟩
       by_cases hO : isO (kd ks i) = true
       . obtain ⟨e, hEn⟩ := ends_ex w (by omega) hO
         obtain ⟨f, hf⟩ := first_ex hEn
         obtain ⟨r', hr3, hr4⟩ := hb3 f (first_last w hf)
         have hvi : valV tds (Sum.inl (i : Int) : Key) = some (V.int (f : Int)) := by rw [hv i, first_of hf]; rfl
         refine iteP (by rw [hvi]; rfl) ?_
         have g : DGet H6 td (.int (i : Int)) (some (V.int (f : Int))) := .inl ⟨_, Sum.inl (i : Int), .inl ht6, rfl, hvi.symm⟩
         exact ⟨_, rfl, .inl ⟨rfl, _, SqL.of f1⟩, _, rfl, _, rfl, l, _, _, _, rfl, rfl, SqL.of hb6, atI_nat hr2, _, rfl, _, rfl, _, rfl, td, _, rfl, g, l, _, _, _, rfl, rfl, SqL.of hb6, atI_nat hr4, le2, λ p hp => ⟨fl, _, _, rfl, rfl, Same.new hp _ _ f1, lt_line' (by omega), fin _ _ _ (Same.new hp) (.two hO hf hr1 hr3) ⟨p, rfl, upd_same⟩⟩⟩
       . have hvi : valV tds (Sum.inl (i : Int) : Key) = none := by rw [hv i, first_none hO]; rfl
         refine iteN (by rw [hvi]; decide) ?_
         exact ⟨_, rfl, .inl ⟨rfl, _, SqL.of f1⟩, _, rfl, _, rfl, l, _, _, _, rfl, rfl, SqL.of hb6, atI_nat hr2, le1, λ p hp => ⟨fl, _, _, rfl, rfl, Same.new hp _ _ f1, lt_line' (by omega), fin _ _ _ (Same.new hp) (.one hE hbk hO hr1) ⟨p, rfl, upd_same⟩⟩⟩
     . rintro σ H4 ⟨_, s4, ⟨v4, v5, v7, rfl⟩, hF⟩
       rw [List.length_map, r2] at hF
       exact ⟨_, rfl, q fl H4 (s03.trans s4) hf0 hF⟩
end
end K83
namespace K83
open PySem L2 Gx Fl F2
section
variable {P : Program} {w : World} {K : W.Frag} {mg : Str -> Option Value} {base : Heap} {t : Adr}
theorem sc_Flows_init : FnScope ["self", "program", "k", "function"] ["self", "program"] (defScope s_Flows_init) := ⟨rfl, rfl, rfl, by decide +kernel, rfl, by decide +kernel, by decide +kernel⟩
theorem ok_Flows_init (T : Txt K mg t) : FnOk P w K mg base CX0 4 t.a_Flows_init t.d_Flows_init ["self", "program"] (sp_Flows_init K t) := by
 have G_names_of : FnOk P w K mg base CX0 3 t.a_names_of t.d_names_of ["function"] (K12.sp_names_of K) := ok_names_of T
 have G_ways : FnOk P w K mg base CX0 2 t.a_ways t.d_ways ["rows"] (K13.sp_ways K) := ok_ways T
 refine T.Flows_init.F.ok sc_Flows_init (λ vs H Q E h => ?_) (λ cdv A outer s H vs Q E hr h => ?_)
 . obtain ⟨x, dx, p, fns, rfl, hx, hS, n0, n12, hE, nd, q⟩ := h
   rfl
 . obtain ⟨x, dx, p, fns, rfl, hx, hS, n0, n12, hE, nd, q⟩ := h
   refine ⟨_, (@pss_cons _ _ _ _ _ (ps_fld (pvC 0) (@pe_ix _ _ _ _ _ _ _ (show IxR _ (cIxT K) from ixC_tup) (@pe_ix _ _ _ _ _ _ _ (show IxR _ (cIxL K) from ixC_list) (pvC 1) (pe_un un_neg pe_int) (λ _ _ => rfl)) pe_int (λ _ _ => rfl)) (by rfl)) (@pss_cons _ _ _ _ _ (ps_fld (pvC 0) pe_dnewK (by rfl)) (@pss_cons _ _ _ _ _ (ps_fld (pvC 0) pe_dnewK (by rfl)) (@pss_cons _ _ _ _ _ (ps_fld (pvC 0) pe_dnewK (by rfl)) (@pss_cons _ _ _ _ _ (ps_fld (pvC 0) pe_dnewK (by rfl)) (@pss_cons _ _ _ _ _ (ps_fld (pvC 0) pe_dnewK (by rfl)) (@pss_cutN _ _ _ _ _ (ps_fld (pvC 0) pe_dnewK (by rfl)) (@pss_one _ _ _ (ps_for PassesOwn.never rfl (pi_enumL rfl T.b_enumerate (@pa_cons _ _ _ _ _ (pvC 1) pa_nil (by rfl))) (pg_tup rfl (pgs_cons (pg_name (i := 2) sc_Flows_init.nd rfl (Or.inl rfl)) (pgs_cons (pg_name (i := 3) sc_Flows_init.nd rfl (Or.inl rfl)) pgs_nil))) (@pss_cons _ _ _ _ _ (ps_dput (u1' hr.units) (pe_fld (pvC 0) (by rfl)) (@pe_ix _ _ _ _ _ _ _ (show IxR _ (cIxT K) from ixC_tup) (pvC 3) pe_int (λ _ _ => rfl)) (pvC 2) (by rfl)) (@pss_cons _ _ _ _ _ (ps_dput (u1' hr.units) (pe_fld (pvC 0) (by rfl)) (@pe_ix _ _ _ _ _ _ _ (show IxR _ (cIxT K) from ixC_tup) (pvC 3) pe_int (λ _ _ => rfl)) (@pe_ix _ _ _ _ _ _ _ (show IxR _ (cIxT K) from ixC_tup) (pvC 3) pe_int (λ _ _ => rfl)) (by rfl)) (@pss_cons _ _ _ _ _ (ps_dput (u1' hr.units) (pe_fld (pvC 0) (by rfl)) (@pe_ix _ _ _ _ _ _ _ (show IxR _ (cIxT K) from ixC_tup) (pvC 3) pe_int (λ _ _ => rfl)) (@pe_ix _ _ _ _ _ _ _ (show IxR _ (cIxT K) from ixC_tup) (pvC 3) pe_int (λ _ _ => rfl)) (by rfl)) (@pss_cons _ _ _ _ _ (ps_dput (u1' hr.units) (pe_fld (pvC 0) (by rfl)) (@pe_ix _ _ _ _ _ _ _ (show IxR _ (cIxT K) from ixC_tup) (pvC 3) pe_int (λ _ _ => rfl)) (@pe_ix _ _ _ _ _ _ _ (show IxR _ (cIxT K) from ixC_tup) (pvC 3) pe_int (λ _ _ => rfl)) (by rfl)) (@pss_cons _ _ _ _ _ (ps_dput (u1' hr.units) (pe_fld (pvC 0) (by rfl)) (@pe_ix _ _ _ _ _ _ _ (show IxR _ (cIxT K) from ixC_tup) (pvC 3) pe_int (λ _ _ => rfl)) (callD T.names_of G_names_of (hr.mono (by decide)) (@pa_cons _ _ _ _ _ (pvC 3) pa_nil (by rfl))) (by rfl)) (@pss_one _ _ _ (ps_dput (u1' hr.units) (pe_fld (pvC 0) (by rfl)) (@pe_ix _ _ _ _ _ _ _ (show IxR _ (cIxT K) from ixC_tup) (pvC 3) pe_int (λ _ _ => rfl)) (callD T.ways G_ways (hr.mono (by decide)) (@pa_cons _ _ _ _ _ (@pe_ix _ _ _ _ _ _ _ (show IxR _ (cIxT K) from ixC_tup) (pvC 3) pe_int (λ _ _ => rfl)) pa_nil (by rfl))) (by rfl))))))))))))))))), ?_⟩
   have fl : (fns.map λ f => V.ref f.fa).length = fns.length := List.length_map _
   have np : 0 < fns.length := List.length_pos_iff.mpr n0
   obtain ⟨fz, hz⟩ : ∃ fz, fns[fns.length - 1]? = some fz := ⟨fns[fns.length - 1], List.getElem?_eq_getElem (by omega)⟩
   have hzT := (hE fz (List.mem_of_getElem? hz)).fn
   have eL : atI (fns.map λ f => V.ref f.fa) (-1) = some (V.ref fz.fa) := by
     unfold atI ixN
     rw [if_neg (by decide), if_pos (by rw [fl]; omega), Option.bind_some]
     have : ((-1 : Int) + ((fns.map λ f => V.ref f.fa).length : Int)).toNat = fns.length - 1 := by rw [fl]; omega
     rw [this, List.getElem?_map, hz]
     rfl
   refine ⟨_, rfl, _, rfl, p, _, _, _, rfl, rfl, ers_same.seq hS, eL, fz.fa, _, _, _, rfl, rfl, ers_same.tup hzT, at0, _, rfl, x, t.c_Flows, dx, _, rfl, hx, T.cl_Flows.cl, T.n_Flows_last, (by show 0 < 1000; decide), ?_⟩
   have sx : ∀ {b : Addr} {o : HO}, ers x H b = some o -> b ≠ x /\ H b = some o := λ {b o} e => by
     have hb : b ≠ x := λ z => by rw [z] at e; unfold ers at e; rw [if_pos rfl] at e; cases e
     rw [ers_ne hb] at e
     exact ⟨hb, e⟩
   have l1 := fld_len "last" (V.str fz.name) [] 0 (Nat.le_refl _)
   intro d0 h0
   refine ⟨_, rfl, x, t.c_Flows, dx, _, rfl, upd_at upd_same (Ne.symm (new_ne h0).1), T.cl_Flows.cl, T.n_Flows_number_of, (by omega), ?_⟩
   have l2 := fld_len "number_of" (.ref d0) _ 1 l1
   intro d1 h1
   refine ⟨_, rfl, x, t.c_Flows, dx, _, rfl, upd_at upd_same (Ne.symm (new_ne h1).1), T.cl_Flows.cl, T.n_Flows_folded_of, (by omega), ?_⟩
   have l3 := fld_len "folded_of" (.ref d1) _ 2 l2
   intro d2 h2
   refine ⟨_, rfl, x, t.c_Flows, dx, _, rfl, upd_at upd_same (Ne.symm (new_ne h2).1), T.cl_Flows.cl, T.n_Flows_params_of, (by omega), ?_⟩
   have l4 := fld_len "params_of" (.ref d2) _ 3 l3
   intro d3 h3
   refine ⟨_, rfl, x, t.c_Flows, dx, _, rfl, upd_at upd_same (Ne.symm (new_ne h3).1), T.cl_Flows.cl, T.n_Flows_rows_of, (by omega), ?_⟩
   have l5 := fld_len "rows_of" (.ref d3) _ 4 l4
   intro d4 h4
   refine ⟨_, rfl, x, t.c_Flows, dx, _, rfl, upd_at upd_same (Ne.symm (new_ne h4).1), T.cl_Flows.cl, T.n_Flows_names_in, (by omega), ?_⟩
   have l6 := fld_len "names_in" (.ref d4) _ 5 l5
   refine ⟨λ σ' G => ∃ d : Nat -> Addr, σ' = [some (.ref x), some (.ref p), none, none] /\ FS t.c_Flows G x dx (flds (V.str fz.name) d) d (λ _ => []) /\ (∀ i j, i < 6 -> j < 6 -> d i = d j -> i = j) /\ Same (ers x H) G /\ ∀ k, ers x H (d k) = none, ?_, ?_⟩
   . intro d5 h5
     obtain ⟨nx0, z0⟩ := new_ne h0
     have q0 : H d0 = none := z0
     obtain ⟨nx1, z1⟩ := new_ne h1
     obtain ⟨n10, w10⟩ := new_ne z1
     obtain ⟨_, y10⟩ := new_ne w10
     have q1 : H d1 = none := y10
     obtain ⟨nx2, z2⟩ := new_ne h2
     obtain ⟨n21, w21⟩ := new_ne z2
     obtain ⟨_, y21⟩ := new_ne w21
     obtain ⟨n20, w20⟩ := new_ne y21
     obtain ⟨_, y20⟩ := new_ne w20
     have q2 : H d2 = none := y20
     obtain ⟨nx3, z3⟩ := new_ne h3
     obtain ⟨n32, w32⟩ := new_ne z3
     obtain ⟨_, y32⟩ := new_ne w32
     obtain ⟨n31, w31⟩ := new_ne y32
     obtain ⟨_, y31⟩ := new_ne w31
     obtain ⟨n30, w30⟩ := new_ne y31
     obtain ⟨_, y30⟩ := new_ne w30
     have q3 : H d3 = none := y30
     obtain ⟨nx4, z4⟩ := new_ne h4
     obtain ⟨n43, w43⟩ := new_ne z4
     obtain ⟨_, y43⟩ := new_ne w43
     obtain ⟨n42, w42⟩ := new_ne y43
     obtain ⟨_, y42⟩ := new_ne w42
     obtain ⟨n41, w41⟩ := new_ne y42
     obtain ⟨_, y41⟩ := new_ne w41
     obtain ⟨n40, w40⟩ := new_ne y41
     obtain ⟨_, y40⟩ := new_ne w40
     have q4 : H d4 = none := y40
     obtain ⟨nx5, z5⟩ := new_ne h5
     obtain ⟨n54, w54⟩ := new_ne z5
     obtain ⟨_, y54⟩ := new_ne w54
     obtain ⟨n53, w53⟩ := new_ne y54
     obtain ⟨_, y53⟩ := new_ne w53
     obtain ⟨n52, w52⟩ := new_ne y53
     obtain ⟨_, y52⟩ := new_ne w52
     obtain ⟨n51, w51⟩ := new_ne y52
     obtain ⟨_, y51⟩ := new_ne w51
     obtain ⟨n50, w50⟩ := new_ne y51
     obtain ⟨_, y50⟩ := new_ne w50
     have q5 : H d5 = none := y50
     have inj : ∀ i j, i < 6 -> j < 6 -> dd d0 d1 d2 d3 d4 d5 i = dd d0 d1 d2 d3 d4 d5 j -> i = j := λ i j hi hj e => by
       match i, j, hi, hj with
       | 0, 0, _, _ => rfl
       | 0, 1, _, _ => exact absurd e.symm n10
       | 0, 2, _, _ => exact absurd e.symm n20
       | 0, 3, _, _ => exact absurd e.symm n30
       | 0, 4, _, _ => exact absurd e.symm n40
       | 0, 5, _, _ => exact absurd e.symm n50
       | 1, 0, _, _ => exact absurd e n10
       | 1, 1, _, _ => rfl
       | 1, 2, _, _ => exact absurd e.symm n21
       | 1, 3, _, _ => exact absurd e.symm n31
       | 1, 4, _, _ => exact absurd e.symm n41
       | 1, 5, _, _ => exact absurd e.symm n51
       | 2, 0, _, _ => exact absurd e n20
       | 2, 1, _, _ => exact absurd e n21
       | 2, 2, _, _ => rfl
       | 2, 3, _, _ => exact absurd e.symm n32
       | 2, 4, _, _ => exact absurd e.symm n42
       | 2, 5, _, _ => exact absurd e.symm n52
       | 3, 0, _, _ => exact absurd e n30
       | 3, 1, _, _ => exact absurd e n31
       | 3, 2, _, _ => exact absurd e n32
       | 3, 3, _, _ => rfl
       | 3, 4, _, _ => exact absurd e.symm n43
       | 3, 5, _, _ => exact absurd e.symm n53
       | 4, 0, _, _ => exact absurd e n40
       | 4, 1, _, _ => exact absurd e n41
       | 4, 2, _, _ => exact absurd e n42
       | 4, 3, _, _ => exact absurd e n43
       | 4, 4, _, _ => rfl
       | 4, 5, _, _ => exact absurd e.symm n54
       | 5, 0, _, _ => exact absurd e n50
       | 5, 1, _, _ => exact absurd e n51
       | 5, 2, _, _ => exact absurd e n52
       | 5, 3, _, _ => exact absurd e n53
       | 5, 4, _, _ => exact absurd e n54
       | 5, 5, _, _ => rfl
       | n + 6, _, h, _ => omega
       | _, n + 6, _, h => omega
     refine ⟨_, rfl, x, t.c_Flows, dx, _, rfl, upd_at upd_same (Ne.symm nx5), T.cl_Flows.cl, T.n_Flows_ways_in, (by omega), dd d0 d1 d2 d3 d4 d5, rfl, ⟨upd_same, λ j hj => ?_⟩, inj, λ b o e => upd_at (upd_at (upd_at (upd_at (upd_at (upd_at (upd_at (upd_at (upd_at (upd_at (upd_at (upd_at (upd_at (sx e).2 (sx e).1) (ne_of_none (sx e).2 q0)) (sx e).1) (ne_of_none (sx e).2 q1)) (sx e).1) (ne_of_none (sx e).2 q2)) (sx e).1) (ne_of_none (sx e).2 q3)) (sx e).1) (ne_of_none (sx e).2 q4)) (sx e).1) (ne_of_none (sx e).2 q5)) (sx e).1, λ k => ?_⟩
     . match j, hj with
       | 0, _ => exact upd_at (upd_at (upd_at (upd_at (upd_at (upd_at (upd_at (upd_at (upd_at (upd_at (upd_at upd_same nx0) (Ne.symm n10)) nx0) (Ne.symm n20)) nx0) (Ne.symm n30)) nx0) (Ne.symm n40)) nx0) (Ne.symm n50)) nx0
       | 1, _ => exact upd_at (upd_at (upd_at (upd_at (upd_at (upd_at (upd_at (upd_at (upd_at upd_same nx1) (Ne.symm n21)) nx1) (Ne.symm n31)) nx1) (Ne.symm n41)) nx1) (Ne.symm n51)) nx1
       | 2, _ => exact upd_at (upd_at (upd_at (upd_at (upd_at (upd_at (upd_at upd_same nx2) (Ne.symm n32)) nx2) (Ne.symm n42)) nx2) (Ne.symm n52)) nx2
       | 3, _ => exact upd_at (upd_at (upd_at (upd_at (upd_at upd_same nx3) (Ne.symm n43)) nx3) (Ne.symm n53)) nx3
       | 4, _ => exact upd_at (upd_at (upd_at upd_same nx4) (Ne.symm n54)) nx4
       | 5, _ => exact upd_at upd_same nx5
       | n + 6, h => omega
     . match k with
       | 0 => exact (ers_ne nx0).trans q0
       | 1 => exact (ers_ne nx1).trans q1
       | 2 => exact (ers_ne nx2).trans q2
       | 3 => exact (ers_ne nx3).trans q3
       | 4 => exact (ers_ne nx4).trans q4
       | n + 5 => exact (ers_ne nx5).trans q5
   rintro σ' G ⟨d, rfl, hFS, inj, hsm, hfd⟩
   refine ⟨_, rfl, p, rfl, ⟨_, hsm.seq hS⟩, (let Jv1 : Nat -> St -> Hp -> Prop := λ i σ H2 => ∃ (v2 v3 : Option V) (kv : Nat -> List (Key × V)) (nl wl : Nat -> Addr), σ = [some (.ref x), some (.ref p), v2, v3] /\ Same (ers x H) H2 /\ FS t.c_Flows H2 x dx (flds (V.str fz.name) d) d kv /\ kv 0 = kD (λ i _ => .int i) (fns.take i) /\ kv 1 = kD (λ _ f => f.fo) (fns.take i) /\ kv 2 = kD (λ _ f => .ref f.pa) (fns.take i) /\ kv 3 = kD (λ _ f => .ref f.ra) (fns.take i) /\ kv 4 = kD (λ i _ => .ref (nl i)) (fns.take i) /\ kv 5 = kD (λ i _ => .ref (wl i)) (fns.take i) /\ (∀ j g, j < i -> fns[j]? = some g -> hl H2 (nl j) = some (.lst ((nms g).map V.str)) /\ K13.FoundN (hl H2) (wl j) (kds g) (kds g).length) /\ ∀ j, j < 6 -> (kv j).length <= i; for_enumL (xs := fns.map λ f => V.ref f.fa) Jv1 ⟨_, _, _, λ _ => 0, λ _ => 0, rfl, hsm, hFS, rfl, rfl, rfl, rfl, rfl, rfl, λ j g h => absurd h (Nat.not_lt_zero _), λ j hj => Nat.le_refl _⟩ ?_ ?_ ?_)⟩
   . rintro i σ H2 hi ⟨v2, v3, kv, nlf, wlf, rfl, s2, _⟩
     exact s2.seq hS
   . rintro i y σ H2 b hy ⟨v2, v3, kv, nlf, wlf, rfl, s2, o2, k0, k1, k2, k3, k4, k5, hnw, kl⟩ hb
     obtain ⟨f, hi, hm, rfl⟩ := map_at hy
     have ilt : i < fns.length := (List.getElem?_eq_some_iff.mp hi).1
     have hT := (hE f hm).fn
     have hfu := (hE f hm).fu
     have fit : ∀ {n : Nat}, n <= i + 1 -> n < sizeLine := λ {n} h => small1000 (by omega)
     refine ⟨b, _, rfl, SqT.of upd_same, rfl, _, _, rfl, _, _, rfl, rfl, ?_⟩
     have s3 := s2.trans (Same.new (o := .tup [.int i, .ref f.fa]) hb)
     have o3 := o2.mono (Same.new (o := .tup [.int i, .ref f.fa]) hb)
     refine ⟨_, rfl, _, rfl, x, t.c_Flows, dx, _, _, rfl, o3.ob, T.cl_Flows.cl, T.n_Flows_number_of, lk_number _ _, _, rfl, f.fa, _, _, _, rfl, rfl, s3.tup hT, at0, d 0, _, rfl, DPut.k (k := (Sum.inr f.name : Key)) (show _ = some (HO.dK (kv 0)) from o3.dc 0 (by decide)) (fit (by have := kl 0 (by decide); simpa using (by omega : _ <= i + 1))), ?_⟩
     have s4 := Same.upd (o := .dK (putK (kv 0) (Sum.inr f.name : Key) (V.int i))) s3 (hfd 0)
     have o4 := o3.put inj 0 (by decide) (putK (kv 0) (Sum.inr f.name : Key) (V.int i))
     refine ⟨_, rfl, f.fa, _, _, _, rfl, rfl, s4.tup hT, rfl, _, rfl, x, t.c_Flows, dx, _, _, rfl, o4.ob, T.cl_Flows.cl, T.n_Flows_folded_of, lk_folded _ _, _, rfl, f.fa, _, _, _, rfl, rfl, s4.tup hT, at0, d 1, _, rfl, DPut.k (k := (Sum.inr f.name : Key)) (show _ = some (HO.dK (kv 1)) from o4.dc 1 (by decide)) (fit (by have := kl 1 (by decide); simpa using (by omega : _ <= i + 1))), ?_⟩
     have s5 := Same.upd (o := .dK (putK (kv 1) (Sum.inr f.name : Key) f.fo)) s4 (hfd 1)
     have o5 := o4.put inj 1 (by decide) (putK (kv 1) (Sum.inr f.name : Key) f.fo)
     refine ⟨_, rfl, f.fa, _, _, _, rfl, rfl, s5.tup hT, rfl, _, rfl, x, t.c_Flows, dx, _, _, rfl, o5.ob, T.cl_Flows.cl, T.n_Flows_params_of, lk_params _ _, _, rfl, f.fa, _, _, _, rfl, rfl, s5.tup hT, at0, d 2, _, rfl, DPut.k (k := (Sum.inr f.name : Key)) (show _ = some (HO.dK (kv 2)) from o5.dc 2 (by decide)) (fit (by have := kl 2 (by decide); simpa using (by omega : _ <= i + 1))), ?_⟩
     have s6 := Same.upd (o := .dK (putK (kv 2) (Sum.inr f.name : Key) (.ref f.pa))) s5 (hfd 2)
     have o6 := o5.put inj 2 (by decide) (putK (kv 2) (Sum.inr f.name : Key) (.ref f.pa))
     refine ⟨_, rfl, f.fa, _, _, _, rfl, rfl, s6.tup hT, rfl, _, rfl, x, t.c_Flows, dx, _, _, rfl, o6.ob, T.cl_Flows.cl, T.n_Flows_rows_of, lk_rows _ _, _, rfl, f.fa, _, _, _, rfl, rfl, s6.tup hT, at0, d 3, _, rfl, DPut.k (k := (Sum.inr f.name : Key)) (show _ = some (HO.dK (kv 3)) from o6.dc 3 (by decide)) (fit (by have := kl 3 (by decide); simpa using (by omega : _ <= i + 1))), ?_⟩
     have s7 := Same.upd (o := .dK (putK (kv 3) (Sum.inr f.name : Key) (.ref f.ra))) s6 (hfd 3)
     have o7 := o6.put inj 3 (by decide) (putK (kv 3) (Sum.inr f.name : Key) (.ref f.ra))
     refine ⟨_, rfl, f.fa, f.ps, f.ds, rfl, hfu.mono s7, λ nl H8 e8 hnl hl8 => ?_⟩
     have s8 := s7.trans e8
     have o8 := o7.mono e8
     refine ⟨_, rfl, x, t.c_Flows, dx, _, _, rfl, o8.ob, T.cl_Flows.cl, T.n_Flows_names_in, lk_names _ _, _, rfl, f.fa, _, _, _, rfl, rfl, s8.tup hT, at0, d 4, _, rfl, DPut.k (k := (Sum.inr f.name : Key)) (show _ = some (HO.dK (kv 4)) from o8.dc 4 (by decide)) (fit (by have := kl 4 (by decide); simpa using (by omega : _ <= i + 1))), ?_⟩
     have s9 := Same.upd (o := .dK (putK (kv 4) (Sum.inr f.name : Key) (.ref nl))) s8 (hfd 4)
     have o9 := o8.put inj 4 (by decide) (putK (kv 4) (Sum.inr f.name : Key) (.ref nl))
     refine ⟨_, rfl, f.fa, _, _, _, rfl, rfl, s9.tup hT, rfl, f.ra, kds f, rfl, ((hE f hm).old.mono s9).rows, (hE f hm).wf, (by unfold kds; rw [List.length_map]; have := (hE f hm).len; omega), λ wl HA eA hwl hfn => ?_⟩
     have sA := s9.trans eA
     have oA := o9.mono eA
     refine ⟨_, rfl, x, t.c_Flows, dx, _, _, rfl, oA.ob, T.cl_Flows.cl, T.n_Flows_ways_in, lk_ways _ _, _, rfl, f.fa, _, _, _, rfl, rfl, sA.tup hT, at0, d 5, _, rfl, DPut.k (k := (Sum.inr f.name : Key)) (show _ = some (HO.dK (kv 5)) from oA.dc 5 (by decide)) (fit (by have := kl 5 (by decide); simpa using (by omega : _ <= i + 1))), ?_⟩
     have sB := Same.upd (o := .dK (putK (kv 5) (Sum.inr f.name : Key) (.ref wl))) sA (hfd 5)
     have oB := oA.put inj 5 (by decide) (putK (kv 5) (Sum.inr f.name : Key) (.ref wl))
     have c3 : Same (hl H2) (hl H8) := by
       have z1 : Same (hl H2) (hl (upd H2 b (.tup [.int i, .ref f.fa]))) := (Same.new (o := .tup [.int i, .ref f.fa]) hb).hl
       have z2 := e8.hl
       rw [hl_dK (o6.dc 3 (by decide)), hl_dK (o5.dc 2 (by decide)), hl_dK (o4.dc 1 (by decide)), hl_dK (o3.dc 0 (by decide))] at z2
       exact z1.trans z2
     have c4 : Same (hl H8) (hl HA) := by
       have z2 := eA.hl
       rw [hl_dK (o8.dc 4 (by decide))] at z2
       exact z2
     have c5 : hl (upd HA (d 5) (.dK (putK (kv 5) (Sum.inr f.name : Key) (.ref wl)))) = hl HA := hl_dK (oA.dc 5 (by decide))
     refine ⟨_, _, _, λ j => if j = i then nl else nlf j, λ j => if j = i then wl else wlf j, rfl, sB, oB, ?_, ?_, ?_, ?_, ?_, ?_, λ j g hj hg => ?_, λ j hj => ?_⟩
     . show putK (kv 0) (Sum.inr f.name : Key) (V.int i) = _
       rw [k0]
       exact kD_put hi nd (λ _ _ _ => rfl) rfl
     . show putK (kv 1) (Sum.inr f.name : Key) f.fo = _
       rw [k1]
       exact kD_put hi nd (λ _ _ _ => rfl) rfl
     . show putK (kv 2) (Sum.inr f.name : Key) (.ref f.pa) = _
       rw [k2]
       exact kD_put hi nd (λ _ _ _ => rfl) rfl
     . show putK (kv 3) (Sum.inr f.name : Key) (.ref f.ra) = _
       rw [k3]
       exact kD_put hi nd (λ _ _ _ => rfl) rfl
     . show putK (kv 4) (Sum.inr f.name : Key) (.ref nl) = _
       rw [k4]
       exact kD_put hi nd (λ j _ hj => by show V.ref (nlf j) = V.ref (if j = i then nl else nlf j); rw [if_neg (by omega)]) (by show V.ref nl = V.ref (if i = i then nl else nlf i); rw [if_pos rfl])
     . show putK (kv 5) (Sum.inr f.name : Key) (.ref wl) = _
       rw [k5]
       exact kD_put hi nd (λ j _ hj => by show V.ref (wlf j) = V.ref (if j = i then wl else wlf j); rw [if_neg (by omega)]) (by show V.ref wl = V.ref (if i = i then wl else wlf i); rw [if_pos rfl])
     . rw [c5]
       by_cases hji : j = i
       . subst hji
         rw [hi] at hg
         cases hg
         refine ⟨?_, ?_⟩
         . show hl HA (if j = j then nl else nlf j) = _
           rw [if_pos rfl]
           exact c4 _ _ (hl_lst hl8)
         . show K13.FoundN (hl HA) (if j = j then wl else wlf j) _ _
           rw [if_pos rfl]
           exact hfn.hl
       . obtain ⟨y1, y2⟩ := hnw j g (by omega) hg
         refine ⟨?_, ?_⟩
         . show hl HA (if j = i then nl else nlf j) = _
           rw [if_neg hji]
           exact c4 _ _ (c3 _ _ y1)
         . show K13.FoundN (hl HA) (if j = i then wl else wlf j) _ _
           rw [if_neg hji]
           exact y2.mono (c3.trans c4)
     . have e := kl j hj
       match j, hj with
       | 0, _ => exact Nat.le_trans (length_putK _ _ _) (by omega)
       | 1, _ => exact Nat.le_trans (length_putK _ _ _) (by omega)
       | 2, _ => exact Nat.le_trans (length_putK _ _ _) (by omega)
       | 3, _ => exact Nat.le_trans (length_putK _ _ _) (by omega)
       | 4, _ => exact Nat.le_trans (length_putK _ _ _) (by omega)
       | 5, _ => exact Nat.le_trans (length_putK _ _ _) (by omega)
       | n + 6, h => omega
   . rintro σ H2 ⟨v2, v3, kv, nlf, wlf, rfl, s2, o2, k0, k1, k2, k3, k4, k5, hnw, kl⟩
     rw [fl, List.take_length] at k0 k1 k2 k3 k4 k5
     exact q H2 s2 ⟨λ f hf => (hE f hf).mono s2, nd, dx, fz, d, kv, nlf, wlf, hz, o2, k0, k1, k2, k3, k4, k5, λ i f hi => let ⟨y1, y2⟩ := hnw i f (by rw [fl]; exact (List.getElem?_eq_some_iff.mp hi).1) hi; ⟨hl_same _ _ y1, y2.mono hl_same⟩⟩
end
end K83
namespace K83
open PySem L2 Gx Bt Pk
section
variable {P : Program} {w : World} {K : W.Frag} {mg : Str -> Option Value} {base : Heap} {t : Adr}
theorem sc_plain_bits : FnScope ["number", "count"] ["number", "count"] (defScope s_plain_bits) := ⟨rfl, rfl, rfl, by decide +kernel, rfl, by decide +kernel, by decide +kernel⟩
theorem ok_plain_bits (T : Txt K mg t) : FnOk P w K mg base CX0 1 t.a_plain_bits t.d_plain_bits ["number", "count"] (sp_plain_bits K) := by
 refine T.plain_bits.F.ok sc_plain_bits (λ vs H Q E h => ?_) (λ cdv A outer s H vs Q E hr h => ?_)
 . obtain ⟨n, c, rfl, hc8, q⟩ := h
   rfl
 . obtain ⟨n, c, rfl, hc8, q⟩ := h
   refine ⟨_, (@pss_cons _ _ _ _ _ (@ps_ret _ _ _ _ (pe_bm PySem.F.plainAttrs_str PySem.F.slot_str_join PySem.F.type_str_join mt_join pe_str (@pa_cons _ _ _ _ _ (pe_comp (N' := ["k", "number"]) (js := [none, some 0]) (by kernel_rfl) rfl (pi_down rfl T.b_range (@pa_cons _ _ _ _ _ (@pe_op _ _ _ _ _ _ _ _ (opC0 op_sub) (pvC 1) pe_int) (@pa_cons _ _ _ _ _ (pe_un un_neg pe_int) (@pa_cons _ _ _ _ _ (pe_un un_neg pe_int) pa_nil (by rfl)) (by rfl)) (by rfl))) own_name (λ _ _ _ _ => (pg_name (i := 0) (show (["k", "number"] : List Str).Nodup by decide +kernel) rfl (Or.inl rfl) (.inr rfl))) (λ _ _ _ _ => pif_nil) (λ _ _ _ _ => (@pe_ifExp _ _ _ _ _ _ _ _ (pt_tru (K := K) rfl (@pe_op _ _ _ _ _ _ _ _ (opC0 op_and) (@pe_op _ _ _ _ _ _ _ _ (opC1 op_shr) (pvC 1) (pvC 0)) pe_int) (by intro _; rfl)) pe_str pe_str))) pa_nil (by rfl)))) pss_nil), ?_⟩
   have hc : ((c : Int) - 1 - -1).toNat = c := by omega
   refine ⟨rfl, _, rfl, _, _, rfl, rfl, _, rfl, _, rfl, _, _, rfl, ⟨by omega, by omega, by decide, by decide⟩, λ p hp => comp_mapD (λ i => V.str (tx [if n / 2 ^ (c - 1 - i) % 2 = 1 then 49 else 48])) (by omega) hp ?_ ?_⟩
   . rintro i H2 Rr hi s2 hR
     have hk : ((c : Int) - 1 - (i : Int)).toNat = c - 1 - i := by omega
     refine ⟨_, rfl, _, rfl, _, _, rfl, rfl, (by show (0 : Int) <= (c : Int) - 1 - (i : Int); omega), _, _, rfl, rfl, _, rfl, ?_⟩
     have e : Builtin.bitAnd ((n : Int) / 2 ^ ((c : Int) - 1 - (i : Int)).toNat) 1 = ((n / 2 ^ (c - 1 - i) % 2 : Nat) : Int) := by
       have := shr_bit n (c - 1 - i)
       rw [Int.toNat_natCast] at this
       rw [hk]
       exact this
     by_cases hb : n / 2 ^ (c - 1 - i) % 2 = 1
     . refine iteP (by rw [e, hb]; rfl) ?_
       rw [if_pos hb] at hR
       exact hR
     . have h0 : n / 2 ^ (c - 1 - i) % 2 = 0 := by omega
       refine iteN (by rw [e, h0]; decide) ?_
       rw [if_neg hb] at hR
       exact hR
   . rintro H2 s2 e2
     rw [hc] at e2
     have e3 : ((List.range c).map λ i => V.str (tx [if n / 2 ^ (c - 1 - i) % 2 = 1 then 49 else 48])) = (((List.range c).map λ i => [if n / 2 ^ (c - 1 - i) % 2 = 1 then 49 else 48]).map tx).map V.str := by
       rw [List.map_map, List.map_map]
       rfl
     rw [e3] at e2
     refine ⟨_, p, _, rfl, rfl, SqL.of e2, ?_, ?_⟩
     . rw [sum_one, List.length_range, List.length_map, List.length_map, List.length_range]
       show c + c * 0 <= 16777216
       omega
     . rw [tx_join, flat_one]
       exact q H2 s2
theorem sc_number_bits : FnScope ["number", "groups", "rest"] ["number"] (defScope s_number_bits) := ⟨rfl, rfl, rfl, by decide +kernel, rfl, by decide +kernel, by decide +kernel⟩
theorem ok_number_bits (T : Txt K mg t) : FnOk P w K mg base CX0 2 t.a_number_bits t.d_number_bits ["number"] (sp_number_bits K) := by
 have G_plain_bits : FnOk P w K mg base CX0 1 t.a_plain_bits t.d_plain_bits ["number", "count"] (sp_plain_bits K) := ok_plain_bits T
 refine T.number_bits.F.ok sc_number_bits (λ vs H Q E h => ?_) (λ cdv A outer s H vs Q E hr h => ?_)
 . obtain ⟨n, rfl, hn, q⟩ := h
   rfl
 . obtain ⟨n, rfl, hn, q⟩ := h
   refine ⟨_, (@pss_cons _ _ _ _ _ (@ps_set _ _ 1 _ _ _ _ sc_number_bits.nd rfl (Or.inl rfl) (@pe_lst _ _ _ _ pa_nil) (by rfl) (by first | exact .inl rfl | exact .inr rfl | assumption)) (@pss_cons _ _ _ _ _ (@ps_set _ _ 2 _ _ _ _ sc_number_bits.nd rfl (Or.inl rfl) (pvC 0) (by rfl) (by first | exact .inl rfl | exact .inr rfl | assumption)) (@pss_cons _ _ _ _ _ (ps_while PassesOwn.never (@ptC_cmpR _ _ _ _ _ _ _ _ (opC0 op_ge) (pvC 2) pe_int (nomark _)) (@pss_cons _ _ _ _ _ (@ps_expr _ _ _ _ (pe_bm PySem.F.plainAttrs_list PySem.F.slot_list_append PySem.F.type_list_append mtC_append (pvC 1) (@pa_cons _ _ _ _ _ (@pe_op _ _ _ _ _ _ _ _ op_add_str pe_str (callD T.plain_bits G_plain_bits (hr.mono (by decide)) (@pa_cons _ _ _ _ _ (@pe_op _ _ _ _ _ _ _ _ (opC0 op_and) (pvC 2) pe_int) (@pa_cons _ _ _ _ _ pe_int pa_nil (by rfl)) (by rfl)))) pa_nil (by rfl))) (by rfl)) (@pss_one _ _ _ (@ps_set _ _ 2 _ _ _ _ sc_number_bits.nd rfl (Or.inl rfl) (@pe_op _ _ _ _ _ _ _ _ (opC1 op_shr) (pvC 2) pe_int) (by rfl) (by first | exact .inl rfl | exact .inr rfl | assumption))))) (@pss_one _ _ _ (@ps_ret _ _ _ _ (@pe_op _ _ _ _ _ _ _ _ op_add_str (@pe_op _ _ _ _ _ _ _ _ op_add_str (pe_bm PySem.F.plainAttrs_str PySem.F.slot_str_join PySem.F.type_str_join mt_join pe_str (@pa_cons _ _ _ _ _ (pvC 1) pa_nil (by rfl))) pe_str) (callD T.plain_bits G_plain_bits (hr.mono (by decide)) (@pa_cons _ _ _ _ _ (pvC 2) (@pa_cons _ _ _ _ _ pe_int pa_nil (by rfl)) (by rfl))))))))), ?_⟩
   have L60 := nb_len 15 n hn
   refine ⟨le0, λ l hl => ⟨_, rfl, ?_⟩⟩
   refine while_by (λ σ H2 => Same H H2 /\ ∃ (r : Nat) (gs : List (List Nat)), σ = [some (.int n), some (.ref l), some (.int r)] /\ H2 l = some (.lst ((gs.map tx).map V.str)) /\ gs.flatten ++ nb r = nb n /\ ∀ g ∈ gs, g.length = 4) (λ σ _ => match σ with | [_, _, some (.int r)] => r.toNat | _ => 0) ⟨Same.new hl, n, [], rfl, upd_same, rfl, λ g h => by cases h⟩ ?_ ?_
   . rintro σ H2 ⟨s2, r, gs, rfl, e2, hg, h4⟩
     have fl : gs.flatten.length = 4 * gs.length := by
       clear e2 hg
       induction gs with
       | nil => rfl
       | cons g gs ih =>
         rw [List.flatten_cons, List.length_append, ih λ x hx => h4 x (List.mem_cons_of_mem _ hx), h4 g List.mem_cons_self, List.length_cons]
         omega
     have gl : gs.length <= 16 := by
       have := congrArg List.length hg
       rw [List.length_append] at this
       omega
     refine ⟨_, rfl, _, _, rfl, rfl, _, rfl, ?_⟩
     by_cases c : r < 8
     . refine iteN (by rw [decide_eq_true_eq]; omega) ?_
       have sm : ((gs.map tx).map (·.length)).sum = gs.flatten.length := by
         rw [List.map_map, List.length_flatten]
         exact congrArg List.sum (List.map_congr_left λ g _ => tx_len g)
       refine ⟨rfl, _, rfl, _, l, _, rfl, rfl, SqL.of e2, (by rw [sm, fl, List.length_map]; show 4 * gs.length + gs.length * 0 <= 16777216; omega), ?_⟩
       rw [tx_join]
       refine ⟨_, _, rfl, rfl, (by rw [tx_len]; exact lt_line (by show gs.flatten.length + 1 < 1000000; omega)), ?_⟩
       refine ⟨_, rfl, r, 3, rfl, by decide, λ H3 s3 => ⟨_, _, rfl, rfl, ?_, ?_⟩⟩
       . rw [zero_tx, tx_app, tx_len, tx_len, List.length_append, pb_len]
         exact lt_line (by show gs.flatten.length + 1 + 3 < 1000000; omega)
       . rw [zero_tx, tx_app, tx_app]
         have e : gs.flatten ++ [48] ++ pb r 3 = nb n := by rw [<- hg, nb_low c, List.append_assoc]; rfl
         rw [e]
         exact q H3 (s2.trans s3)
     . refine iteP (by rw [decide_eq_true_eq]; omega) ?_
       refine ⟨_, rfl, .inl ⟨rfl, _, SqL.of e2⟩, _, rfl, _, _, rfl, rfl, r % 8, 3, (by show [V.int (Builtin.bitAnd (r : Int) 7), V.int 3] = _; rw [and7]; rfl), by decide, λ H3 s3 => ⟨_, _, rfl, rfl, (by rw [tx_len, pb_len]; exact lt_line (by show 1 + 3 < 1000000; decide)), l, _, _, rfl, rfl, s3 _ _ e2, (by rw [List.length_map, List.length_map]; exact Nat.lt_of_le_of_lt (by omega) (small1000 (n := 1000) (Nat.le_refl _))), ?_⟩⟩
       refine ⟨_, rfl, _, _, rfl, rfl, (show (0 : Int) <= 3 by decide), ?_⟩
       have e8 : (r : Int) / 2 ^ (3 : Int).toNat = ((r / 8 : Nat) : Int) := by
         show (r : Int) / 8 = _
         omega
       refine ⟨⟨(s2.trans s3).upd hl, r / 8, gs ++ [49 :: pb (r % 8) 3], (by rw [<- e8]; rfl), ?_, ?_, ?_⟩, ?_⟩
       . rw [upd_same, one_tx, List.map_append, List.map_append]
         rfl
       . rw [List.flatten_append, <- hg, nb_high c, List.append_assoc]
         simp
       . intro g hgm
         rcases List.mem_append.mp hgm with h | h
         . exact h4 g h
         . rw [List.mem_singleton.mp h, List.length_cons, pb_len]
       . show ((r : Int) / 2 ^ (3 : Int).toNat).toNat < (r : Int).toNat
         rw [e8]
         omega
   . rintro σ H2 Q1 Q2 h ⟨v, e1, i, j, e2, e3, k, e4, z⟩
     exact ⟨v, e1, i, j, e2, e3, k, e4, h _ _ z⟩
theorem sc_reckoning_bits : FnScope ["one"] ["one"] (defScope s_reckoning_bits) := ⟨rfl, rfl, rfl, by decide +kernel, rfl, by decide +kernel, by decide +kernel⟩
theorem ok_reckoning_bits (T : Txt K mg t) : ∀ n, FnOk P w K mg base CX0 (n + 3) t.a_reckoning_bits t.d_reckoning_bits ["one"] (sp_reckoning_bits K n)
| 0 => T.reckoning_bits.F.ok sc_reckoning_bits (λ vs H Q E h => by obtain ⟨tr, v, rfl, hd, hB, hO, hL, q⟩ := h; exact absurd hd (Nat.not_lt_zero _)) (λ cdv A outer s H vs Q E hr h => by obtain ⟨tr, v, rfl, hd, hB, hO, hL, q⟩ := h; exact absurd hd (Nat.not_lt_zero _))
| n + 1 => by
 have G_reckoning_bits : FnOk P w K mg base CX0 (n + 3) t.a_reckoning_bits t.d_reckoning_bits ["one"] (sp_reckoning_bits K n) := ok_reckoning_bits T n
 have G_number_bits : FnOk P w K mg base CX0 2 t.a_number_bits t.d_number_bits ["number"] (sp_number_bits K) := ok_number_bits T
 have G_plain_bits : FnOk P w K mg base CX0 1 t.a_plain_bits t.d_plain_bits ["number", "count"] (sp_plain_bits K) := ok_plain_bits T
 refine T.reckoning_bits.F.ok sc_reckoning_bits (λ vs H Q E h => ?_) (λ cdv A outer s H vs Q E hr h => ?_)
 . obtain ⟨tr, v, rfl, hd, hB, hO, hL, q⟩ := h
   rfl
 . obtain ⟨tr, v, rfl, hd, hB, hO, hL, q⟩ := h
   refine ⟨_, (@pss_cons _ _ _ _ _ (@ps_if _ _ _ _ _ _ _ _ (@ptC_cmpR _ _ _ _ _ _ _ _ op_eq (@pe_ix _ _ _ _ _ _ _ (show IxR _ (cIxT K) from ixC_tup) (pvC 0) pe_int (λ _ _ => rfl)) pe_str (nomark _)) (@pss_one _ _ _ (@ps_ret _ _ _ _ (@pe_op _ _ _ _ _ _ _ _ op_add_str pe_str (callD T.number_bits G_number_bits (hr.mono (by omega)) (@pa_cons _ _ _ _ _ (@pe_ix _ _ _ _ _ _ _ (show IxR _ (cIxT K) from ixC_tup) (pvC 0) pe_int (λ _ _ => rfl)) pa_nil (by rfl)))))) pss_nil) (@pss_cons _ _ _ _ _ (@ps_if _ _ _ _ _ _ _ _ (@ptC_cmpR _ _ _ _ _ _ _ _ op_eq (@pe_ix _ _ _ _ _ _ _ (show IxR _ (cIxT K) from ixC_tup) (pvC 0) pe_int (λ _ _ => rfl)) pe_str (nomark _)) (@pss_one _ _ _ (@ps_ret _ _ _ _ (@pe_op _ _ _ _ _ _ _ _ op_add_str pe_str (callD T.number_bits G_number_bits (hr.mono (by omega)) (@pa_cons _ _ _ _ _ (@pe_ix _ _ _ _ _ _ _ (show IxR _ (cIxT K) from ixC_tup) (pvC 0) pe_int (λ _ _ => rfl)) pa_nil (by rfl)))))) pss_nil) (@pss_one _ _ _ (@ps_ret _ _ _ _ (@pe_op _ _ _ _ _ _ _ _ op_add_str (@pe_op _ _ _ _ _ _ _ _ op_add_str (@pe_op _ _ _ _ _ _ _ _ op_add_str pe_str (callD T.plain_bits G_plain_bits (hr.mono (by omega)) (@pa_cons _ _ _ _ _ (pe_bm PySem.F.plainAttrs_tuple PySem.F.slot_tuple_index PySem.F.type_tuple_index mt_tindex (pe_gtuple T.c_SIGNS) (@pa_cons _ _ _ _ _ (@pe_ix _ _ _ _ _ _ _ (show IxR _ (cIxT K) from ixC_tup) (pvC 0) pe_int (λ _ _ => rfl)) pa_nil (by rfl))) (@pa_cons _ _ _ _ _ (pe_gint T.c_SIGN_BITS) pa_nil (by rfl)) (by rfl)))) (callD T.reckoning_bits G_reckoning_bits (hr.mono (by omega)) (@pa_cons _ _ _ _ _ (@pe_ix _ _ _ _ _ _ _ (show IxR _ (cIxT K) from ixC_tup) (pvC 0) pe_int (λ _ _ => rfl)) pa_nil (by rfl)))) (callD T.reckoning_bits G_reckoning_bits (hr.mono (by omega)) (@pa_cons _ _ _ _ _ (@pe_ix _ _ _ _ _ _ _ (show IxR _ (cIxT K) from ixC_tup) (pvC 0) pe_int (λ _ _ => rfl)) pa_nil (by rfl)))))))), ?_⟩
   cases tr with
   | box k =>
     obtain ⟨p, x, y, rfl, e, h1, h2⟩ := dt2 hB
     cases ds_un h1
     cases di_un h2
     have hk := nb_len 15 k hO
     refine ⟨_, rfl, p, _, _, _, rfl, rfl, e, rfl, rfl, _, rfl, iteP (decide_eq_true rfl) ⟨_, rfl, p, _, _, _, rfl, rfl, e, rfl, k, rfl, hO, λ H1 s1 => ⟨_, _, rfl, rfl, fit2 [48] _ (by show 1 + (nb k).length < 1000000; omega), vq (congrArg V.str (nul_tx _)) (q H1 s1)⟩⟩⟩
   | num k =>
     obtain ⟨p, x, y, rfl, e, h1, h2⟩ := dt2 hB
     cases ds_un h1
     cases di_un h2
     have hk := nb_len 15 k hO
     refine ⟨_, rfl, p, _, _, _, rfl, rfl, e, rfl, rfl, _, rfl, iteN (by decide +kernel) ⟨_, rfl, p, _, _, _, rfl, rfl, e, rfl, rfl, _, rfl, iteP (decide_eq_true rfl) ⟨_, rfl, p, _, _, _, rfl, rfl, e, rfl, k, rfl, hO, λ H1 s1 => ⟨_, _, rfl, rfl, fit2 [49, 48] _ (by show 2 + (nb k).length < 1000000; omega), vq (congrArg V.str (ten_tx _)) (q H1 s1)⟩⟩⟩⟩
   | op i l r =>
     obtain ⟨p, xs, rfl, e, hx⟩ := dt_un hB
     obtain ⟨s, x, y, rfl, h1, bl, br⟩ := dat3 hx
     cases ds_un h1
     have hi := hO.1
     have d1 : bdp l < n := by have : max (bdp l) (bdp r) + 1 < n + 1 := hd; omega
     have d2 : bdp r < n := by have : max (bdp l) (bdp r) + 1 < n + 1 := hd; omega
     have hLL : lv l + lv r <= 16 := hL
     have r1 := rb_len (tok_bok hO.2.1)
     have r2 := rb_len (tok_bok hO.2.2)
     refine ⟨_, rfl, p, _, _, _, rfl, rfl, e, at0, rfl, _, rfl, iteN (λ z => (sgn_box i hi).1 (V.str.inj (dec_true z))) ⟨_, rfl, p, _, _, _, rfl, rfl, e, at0, rfl, _, rfl, iteN (λ z => (sgn_box i hi).2 (V.str.inj (dec_true z))) ?_⟩⟩
     refine ⟨.inr (.inl ⟨rfl, T.d_SIGNS⟩), _, rfl, p, _, _, _, rfl, rfl, e, at0, _, sgTup, _, i, rfl, rfl, T.t_SIGNS _, rfl, (by decide), sg_hit i hi, sg_miss i hi, i, 4, rfl, by decide, λ H1 s1 => ⟨_, _, rfl, rfl, fit2 [49, 49] _ (by show 2 + (pb i 4).length < 1000000; rw [pb_len]; omega), ?_⟩⟩
     refine ⟨_, rfl, p, _, _, _, rfl, rfl, s1.tup e, rfl, l, x, rfl, d1, DatV.mono s1 _ _ bl, hO.2.1, by omega, λ H2 s2 => ⟨_, _, rfl, rfl, (by rw [elf_tx]; exact fit2 _ _ (by rw [List.length_cons, List.length_cons, pb_len]; omega)), ?_⟩⟩
     refine ⟨_, rfl, p, _, _, _, rfl, rfl, s2.tup (s1.tup e), rfl, r, y, rfl, d2, DatV.mono (s1.trans s2) _ _ br, hO.2.2, by omega, λ H3 s3 => ⟨_, _, rfl, rfl, (by rw [elf_tx, tx_app]; exact fit2 _ _ (by rw [List.length_append, List.length_cons, List.length_cons, pb_len]; omega)), vq (congrArg V.str (by rw [elf_tx, tx_app, tx_app]; rfl)) (q H3 ((s1.trans s2).trans s3))⟩⟩
theorem sc_place_bits : FnScope ["place"] ["place"] (defScope s_place_bits) := ⟨rfl, rfl, rfl, by decide +kernel, rfl, by decide +kernel, by decide +kernel⟩
theorem ok_place_bits (T : Txt K mg t) : FnOk P w K mg base CX0 20 t.a_place_bits t.d_place_bits ["place"] (sp_place_bits K) := by
 have G_reckoning_bits : FnOk P w K mg base CX0 19 t.a_reckoning_bits t.d_reckoning_bits ["one"] (sp_reckoning_bits K 16) := ok_reckoning_bits T 16
 refine T.place_bits.F.ok sc_place_bits (λ vs H Q E h => ?_) (λ cdv A outer s H vs Q E hr h => ?_)
 . obtain ⟨o, v, rfl, hB, hP, q⟩ := h
   rfl
 . obtain ⟨o, v, rfl, hB, hP, q⟩ := h
   refine ⟨_, (@pss_cons _ _ _ _ _ (@ps_ret _ _ _ _ (@pe_ifExp _ _ _ _ _ _ _ _ (pt_cmp (pc_isN (pvC 0))) (pe_gstr T.c_GONE_BITS) (@pe_op _ _ _ _ _ _ _ _ op_add_str pe_str (callD T.reckoning_bits G_reckoning_bits (hr.mono (by decide)) (@pa_cons _ _ _ _ _ (pvC 0) pa_nil (by rfl)))))) pss_nil), ?_⟩
   have hv := bo_non hB
   cases o with
   | none =>
     cases hv.mpr rfl
     exact ⟨_, rfl, _, rfl, iteP rfl (q H (Same.refl _))⟩
   | some tr =>
     obtain ⟨hO, hL⟩ := hP
     have hr1 := rb_len (tok_bok hO)
     have hd := bdp_lt tr
     exact ⟨_, rfl, _, rfl, iteN (λ z => by cases hv.mp (dec_true z)) ⟨_, rfl, tr, v, rfl, by omega, hB, hO, by omega, λ H1 s1 => ⟨_, _, rfl, rfl, fit2 [49] _ (by show 1 + (rb tr).length < 1000000; omega), vq (congrArg V.str (one_tx _)) (q H1 s1)⟩⟩⟩
theorem sc_views_ahead : FnScope ["before", "chain", "found", "level", "frame", "has_one"] ["before", "chain"] (defScope s_views_ahead) := ⟨rfl, rfl, rfl, by decide +kernel, rfl, by decide +kernel, by decide +kernel⟩
theorem ok_views_ahead (T : Txt K mg t) : FnOk P w K mg base CX0 1 t.a_views_ahead t.d_views_ahead ["before", "chain"] (sp_views_ahead K) := by
 refine T.views_ahead.F.ok sc_views_ahead (λ vs H Q E h => ?_) (λ cdv A outer s H vs Q E hr h => ?_)
 . obtain ⟨b0, c, fns, m0, ch, z, zs, rfl, hz, nd, h0, ok0, hc, hix, h3, q⟩ := h
   rfl
 . obtain ⟨b0, c, fns, m0, ch, z, zs, rfl, hz, nd, h0, ok0, hc, hix, h3, q⟩ := h
   refine ⟨_, (@pss_cons _ _ _ _ _ (@ps_set _ _ 2 _ _ _ _ sc_views_ahead.nd rfl (Or.inl rfl) (@pe_lst _ _ _ _ pa_nil) (by rfl) (by first | exact .inl rfl | exact .inr rfl | assumption)) (@pss_cons _ _ _ _ _ (ps_for PassesOwn.never rfl (pi_enumT rfl T.b_enumerate (@pa_cons _ _ _ _ _ (pvC 1) pa_nil (by rfl))) (pg_tup rfl (pgs_cons (pg_name (i := 3) sc_views_ahead.nd rfl (Or.inl rfl)) (pgs_cons (pg_name (i := 4) sc_views_ahead.nd rfl (Or.inl rfl)) pgs_nil))) (@pss_cons _ _ _ _ _ (@ps_set _ _ 5 _ _ _ _ sc_views_ahead.nd rfl (Or.inl rfl) (pe_and (pe_cmpR (opC0 op_lt) (pvC 3) (pe_callB (show CallR _ (.builtin "len") (cLen K) from callC_len) (by rfl) T.b_len bt_len (@pa_cons _ _ _ _ _ (@pe_ix _ _ _ _ _ _ _ (show IxR _ (cIxT K) from ixC_tup) (pvC 0) pe_int (λ _ _ => rfl)) pa_nil (by rfl))) (nomark _)) (pe_one (pe_cmpR op_eq (@pe_ix _ _ _ _ _ _ _ (show IxR _ (cIxT K) from ixC_tup) (@pe_ix _ _ _ _ _ _ _ (show IxR _ (cIxT K) from ixC_tup) (@pe_ix _ _ _ _ _ _ _ (show IxR _ (cIxT K) from ixC_tup) (pvC 0) pe_int (λ _ _ => rfl)) (pvC 3) (λ _ _ => rfl)) pe_int (λ _ _ => rfl)) (@pe_ix _ _ _ _ _ _ _ (show IxR _ (cIxT K) from ixC_tup) (pvC 4) pe_int (λ _ _ => rfl)) (nomark _)))) (by rfl) (by first | exact .inl rfl | exact .inr rfl | assumption)) (@pss_one _ _ _ (@ps_expr _ _ _ _ (pe_bm PySem.F.plainAttrs_list PySem.F.slot_list_append PySem.F.type_list_append mtC_append (pvC 2) (@pa_cons _ _ _ _ _ (@pe_ifExp _ _ _ _ _ _ _ _ (ptC_val (pvC 5)) (@pe_ix _ _ _ _ _ _ _ (show IxR _ (cIxL K) from ixC_list) (@pe_ix _ _ _ _ _ _ _ (show IxR _ (cIxT K) from ixC_tup) (pvC 0) pe_int (λ _ _ => rfl)) (pvC 3) (λ _ _ => rfl)) (@pe_lst _ _ _ _ pa_nil)) pa_nil (by rfl))) (by rfl))))) (@pss_one _ _ _ (@ps_ret _ _ _ _ (pvC 2))))), ?_⟩
   obtain ⟨bA, cv, wv, rfl, hb, hcv, hwv⟩ := dt2 h0
   obtain ⟨cA, cs, rfl, hcs, dcs⟩ := dt_un hcv
   obtain ⟨wA, ws, rfl, hws, dws⟩ := dl_un hwv
   obtain ⟨chA, fs, rfl, hfs, dfs⟩ := dt_un hc
   have lf : fs.length = ch.length := by rw [da_len dfs, List.length_map]
   have lcs : cs.length = m0.ch.length := by rw [da_len dcs, List.length_map]
   refine ⟨le0, λ l hl => ?_⟩
   have nlz : l ≠ z := (ne_of_none hz hl).symm
   have toL : ∀ {H2 : Hp}, Same H H2 -> Same (ers z H) (ers z (ers l H2)) := λ s => Same.ers (same_ers s hl)
   have toH : Same (ers z H) H := ers_same
   have hb := toH.tup hb
   have hcs := toH.tup hcs
   have hws := toH.seq hws
   refine ⟨_, rfl, chA, rfl, ⟨_, (Same.new hl).tup hfs⟩, (let Jv1 : Nat -> St -> Hp -> Prop := λ i σ H2 => ∃ v3 v4 v5 : Option V, σ = [some (.ref bA), some (.ref chA), some (.ref l), v3, v4, v5] /\ Same H H2 /\ ∃ xs, H2 l = some (.lst xs) /\ DatAll K (ers z (ers l H2)) (aheads m0 ch i) xs; for_enumT (xs := fs) Jv1 ⟨_, _, _, rfl, Same.new hl, _, upd_same, datAll_nil⟩ ?_ ?_ ?_)⟩
   . rintro i σ H2 hi ⟨v3, v4, v5, rfl, s2, _⟩
     exact s2.tup hfs
   . rintro i y σ H2 b hy' ⟨v3, v4, v5, rfl, s2, xs, e2, d2⟩ hb'
     have ilt : i < fs.length := (List.getElem?_eq_some_iff.mp hy').1
     have lxs : xs.length = i := by rw [da_len d2]; unfold aheads; rw [List.length_map, List.length_range]
     obtain ⟨c, hcc, hv⟩ := da_map dfs hy'
     obtain ⟨fA, x1, x2, rfl, hf, hx1, hx2⟩ := dt2 hv
     cases ds_un hx1
     have s3 := Same.new (o := .tup [.int i, .ref fA]) hb'
     refine ⟨b, _, rfl, SqT.of upd_same, rfl, _, _, rfl, _, _, rfl, rfl, ?_⟩
     have d3 := DatAll.mono (Same.ers (l := z) (Same.ers (l := l) s3)) _ _ d2
     have e3 := s3 _ _ e2
     have s03 := s2.trans s3
     generalize upd H2 b (.tup [.int i, .ref fA]) = H3 at s3 d3 e3 s03 ⊢
     have cg : (ch.getD i (0, 0)).1 = c.1 := by rw [List.getD_eq_getElem?_getD, hcc]; rfl
     have ln : xs.length < sizeLine := lt_line (n := xs.length + 1) (by omega)
     have fin : ∀ (v : V) (H4 : Hp), Same H3 H4 -> DatV K (ers z (ers l H4)) (plD (ahd m0 i c.1)) v -> ∃ xs', upd H4 l (.lst (xs ++ [v])) l = some (.lst xs') /\ DatAll K (ers z (ers l (upd H4 l (.lst (xs ++ [v]))))) (aheads m0 ch (i + 1)) xs' := λ v H4 s4 hv4 => by
       refine ⟨_, upd_same, ?_⟩
       rw [ers_upd]
       unfold aheads
       rw [List.range_succ, List.map_append]
       refine da_snoc (DatAll.mono (Same.ers (Same.ers s4)) _ _ d3) ?_
       show DatV K (ers z (ers l H4)) (plD (ahd m0 i (ch.getD i (0, 0)).1)) v
       rw [cg]
       exact hv4
     refine ⟨_, rfl, _, rfl, bA, _, _, _, rfl, rfl, s03.tup hb, at0, cA, _, rfl, .inr (s03.tup hcs), _, _, rfl, rfl, ?_⟩
     refine ⟨_, rfl, ?_⟩
     by_cases hi : i < m0.ch.length
     case neg =>
       have ha : ahd m0 i c.1 = [] := by unfold ahd like; rw [List.getElem?_eq_none (by omega)]; rfl
       have hn : ¬ decide ((i : Int) < (cs.length : Nat)) = true := by rw [decide_eq_true_eq]; omega
       exact iteN hn ⟨_, rfl, .inl ⟨rfl, _, SqL.of e3⟩, _, rfl, _, rfl, iteN Bool.false_ne_true ⟨le0, λ e he => ⟨l, _, _, rfl, rfl, Same.new he _ _ e3, ln, _, _, _, rfl, (s03.trans (Same.new he)).upd hl, fin _ _ (Same.new he) (by rw [ha]; exact datV_list (SqL.of (by rw [ers_ne (ne_of_none (s03 _ _ hz) he).symm, ers_ne (ne_of_none e3 he).symm]; exact upd_same)) datAll_nil)⟩⟩⟩
     obtain ⟨c0, hc0⟩ : ∃ c0, m0.ch[i]? = some c0 := ⟨_, List.getElem?_eq_getElem hi⟩
     obtain ⟨v0, hv0⟩ : ∃ v0, m0.vs[i]? = some v0 := ⟨_, List.getElem?_eq_getElem (by rw [ok0.vl]; exact hi)⟩
     obtain ⟨x0, hx0, dx0⟩ := da_get dcs hc0
     obtain ⟨w0, hw0, dw0⟩ := da_get dws hv0
     obtain ⟨gA, y1, y2, rfl, hg, hy1, hy2⟩ := dt2 (DatV.mono toH _ _ dx0)
     cases ds_un hy1
     refine iteP (by rw [decide_eq_true_eq]; omega) ?_
     refine ⟨_, rfl, bA, _, _, _, rfl, rfl, s03.tup hb, at0, _, rfl, cA, _, _, _, rfl, rfl, s03.tup hcs, atI_nat hx0, gA, _, _, _, rfl, rfl, s03.tup hg, at0, _, rfl, fA, _, _, _, rfl, rfl, s03.tup hf, at0, rfl, ?_⟩
     have hl0 : like m0 i c.1 = decide (c0.1 = c.1) := by unfold like; rw [hc0]
     by_cases hk : c0.1 = c.1
     . have ha : ahd m0 i c.1 = v0 := by unfold ahd; rw [hl0, decide_eq_true hk, if_pos rfl, List.getD_eq_getElem?_getD, hv0]; rfl
       exact ⟨_, rfl, .inl ⟨rfl, _, SqL.of e3⟩, _, rfl, _, rfl, iteP (decide_eq_true (by rw [hk])) ⟨_, rfl, bA, _, _, _, rfl, rfl, s03.tup hb, rfl, _, rfl, wA, _, _, _, rfl, rfl, s03.seq hws, atI_nat hw0, l, _, _, rfl, rfl, e3, ln, _, _, _, rfl, s03.upd hl, fin _ _ (Same.refl _) (by rw [ha]; exact DatV.mono (toL s03) _ _ dw0)⟩⟩
     . have ha : ahd m0 i c.1 = [] := by unfold ahd; rw [hl0, decide_eq_false hk, if_neg Bool.false_ne_true]
       exact ⟨_, rfl, .inl ⟨rfl, _, SqL.of e3⟩, _, rfl, _, rfl, iteN (λ z => hk (nmF_inj nd (ok0.ix c0 (List.mem_of_getElem? hc0)).1 (hix c (List.mem_of_getElem? hcc)) (V.str.inj (dec_true z)))) ⟨le0, λ e he => ⟨l, _, _, rfl, rfl, Same.new he _ _ e3, ln, _, _, _, rfl, (s03.trans (Same.new he)).upd hl, fin _ _ (Same.new he) (by rw [ha]; exact datV_list (SqL.of (by rw [ers_ne (ne_of_none (s03 _ _ hz) he).symm, ers_ne (ne_of_none e3 he).symm]; exact upd_same)) datAll_nil)⟩⟩⟩
   . rintro σ H2 ⟨v3, v4, v5, rfl, s2, xs, e2, d2⟩
     rw [lf] at d2
     exact ⟨_, rfl, q l xs H2 s2 hl e2 (DatAll.mono (Same.ers ers_same) _ _ d2)⟩
theorem sc_view_bits : FnScope ["places", "ahead", "written", "k", "place"] ["places", "ahead"] (defScope s_view_bits) := ⟨rfl, rfl, rfl, by decide +kernel, rfl, by decide +kernel, by decide +kernel⟩
theorem ok_view_bits (T : Txt K mg t) : FnOk P w K mg base CX0 21 t.a_view_bits t.d_view_bits ["places", "ahead"] (sp_view_bits K) := by
 have G_place_bits : FnOk P w K mg base CX0 20 t.a_place_bits t.d_place_bits ["place"] (sp_place_bits K) := ok_place_bits T
 refine T.view_bits.F.ok sc_view_bits (λ vs H Q E h => ?_) (λ cdv A outer s H vs Q E hr h => ?_)
 . obtain ⟨p, a, pl, ah, rfl, hp, ha, okp, oka, h24, q⟩ := h
   rfl
 . obtain ⟨p, a, pl, ah, rfl, hp, ha, okp, oka, h24, q⟩ := h
   refine ⟨_, (@pss_cons _ _ _ _ _ (@ps_set _ _ 2 _ _ _ _ sc_view_bits.nd rfl (Or.inl rfl) (@pe_lst _ _ _ _ pa_nil) (by rfl) (by first | exact .inl rfl | exact .inr rfl | assumption)) (@pss_cons _ _ _ _ _ (ps_for PassesOwn.never rfl (pi_enumL rfl T.b_enumerate (@pa_cons _ _ _ _ _ (pvC 0) pa_nil (by rfl))) (pg_tup rfl (pgs_cons (pg_name (i := 3) sc_view_bits.nd rfl (Or.inl rfl)) (pgs_cons (pg_name (i := 4) sc_view_bits.nd rfl (Or.inl rfl)) pgs_nil))) (@pss_one _ _ _ (@ps_expr _ _ _ _ (pe_bm PySem.F.plainAttrs_list PySem.F.slot_list_append PySem.F.type_list_append mtC_append (pvC 2) (@pa_cons _ _ _ _ _ (@pe_ifExp _ _ _ _ _ _ _ _ (@ptC_cmpR _ _ _ _ _ _ _ _ (op_eqD hr.units) (@pe_slice _ _ _ _ _ _ _ _ _ _ sl_list (pvC 1) (po_some (pvC 3)) (po_some (@pe_op _ _ _ _ _ _ _ _ (opC0 op_add) (pvC 3) pe_int))) (@pe_lst _ _ _ _ (@pa_cons _ _ _ _ _ (pvC 4) pa_nil (by rfl))) (nomark _)) (pe_gstr T.c_AS_AHEAD_BITS) (callD T.place_bits G_place_bits (hr.mono (by decide)) (@pa_cons _ _ _ _ _ (pvC 4) pa_nil (by rfl)))) pa_nil (by rfl))) (by rfl)))) (@pss_one _ _ _ (@ps_ret _ _ _ _ (pe_bm PySem.F.plainAttrs_str PySem.F.slot_str_join PySem.F.type_str_join mt_join pe_str (@pa_cons _ _ _ _ _ (pvC 2) pa_nil (by rfl))))))), ?_⟩
   obtain ⟨pA, xs, rfl, hx, dx⟩ := dl_un hp
   obtain ⟨aA, ys, rfl, hy, dy⟩ := dl_un ha
   have lx : xs.length = pl.length := by rw [da_len dx, List.length_map]
   refine ⟨le0, λ w hw => ?_⟩
   refine ⟨_, rfl, pA, rfl, ⟨_, (Same.new hw).seq hx⟩, (let Jv1 : Nat -> St -> Hp -> Prop := λ i σ H2 => ∃ v3 v4 : Option V, σ = [some (.ref pA), some (.ref aA), some (.ref w), v3, v4] /\ Same H H2 /\ H2 w = some (.lst (((vbL ah pl i).map tx).map V.str)); for_enumL (xs := xs) Jv1 ⟨_, _, rfl, Same.new hw, upd_same⟩ ?_ ?_ ?_)⟩
   . rintro i σ H2 hi ⟨v3, v4, rfl, s2, e2⟩
     exact s2.seq hx
   . rintro i y σ H2 b hy' ⟨v3, v4, rfl, s2, e2⟩ hb
     have ilt : i < xs.length := (List.getElem?_eq_some_iff.mp hy').1
     obtain ⟨o, ho, hv⟩ := da_map dx hy'
     have s3 := Same.new (o := .tup [.int i, y]) hb
     refine ⟨b, _, rfl, SqT.of upd_same, rfl, _, _, rfl, _, _, rfl, rfl, ?_⟩
     generalize upd H2 b (.tup [.int i, y]) = H3 at s3 ⊢
     have s03 := s2.trans s3
     have e3 := s3 _ _ e2
     refine ⟨_, rfl, .inl ⟨rfl, _, SqL.of e3⟩, _, rfl, _, rfl, _, rfl, _, rfl, _, _, rfl, rfl, _, rfl, aA, _, rfl, s03.seq hy, λ sl hsl => ⟨_, rfl, le1, λ l1 hl1 => ?_⟩⟩
     rw [cut_one] at hl1 ⊢
     have s4 := Same.new (o := .lst (ys[i]?).toList) hsl
     have s5 := Same.new (o := .lst [y]) hl1
     have s35 := s4.trans s5
     have s05 := s03.trans s35
     have gp : pl.getD i none = o := by rw [List.getD_eq_getElem?_getD, ho]; rfl
     refine ⟨_, _, datV_list (SqL.of (s5 _ _ upd_same)) (DatAll.mono s05 _ _ (dat_cut dy i)), datV_list (SqL.of upd_same) (datAll_cons (DatV.mono s05 _ _ hv) datAll_nil), lay1 (n := 9) (λ o ho => oka o (by
         cases e : ah[i]? with
         | none => rw [e] at ho; cases ho
         | some a => rw [e] at ho; rw [List.mem_singleton.mp ho]; exact List.mem_of_getElem? e)), lay1 (n := 9) (l := [o]) (mem_one (okp o (List.mem_of_getElem? ho))), _, rfl, ?_⟩
     rw [lk_eqv]
     have e5 := s35 _ _ e3
     have ew : H w = none := hw
     have ln : (((vbL ah pl i).map tx).map V.str).length < sizeLine := by rw [strs_len, vbL_len]; exact lt_line (n := i + 1) (by omega)
     by_cases hk : lk ah o i = true
     . refine iteP hk ⟨w, _, _, rfl, rfl, e5, ln, _, _, rfl, s05.upd hw, ?_⟩
       rw [upd_same, vbL_succ, strs_snoc]
       unfold vb1
       rw [gp, if_pos hk]
       rfl
     . refine iteN hk ⟨_, rfl, o, y, rfl, DatV.mono s05 _ _ hv, okp o (List.mem_of_getElem? ho), λ H6 s6 => ⟨w, _, _, rfl, rfl, s6 _ _ e5, ln, _, _, rfl, (s05.trans s6).upd hw, ?_⟩⟩
       rw [upd_same, vbL_succ, strs_snoc]
       unfold vb1
       rw [gp, if_neg hk]
   . rintro σ H2 ⟨v3, v4, rfl, s2, e2⟩
     rw [lx] at e2
     refine ⟨rfl, _, rfl, _, w, _, rfl, rfl, SqL.of e2, join_ok ?_, ?_⟩
     . have := vb_len (ah := ah) okp
       have a1 : pl.length * 600 <= 24 * 600 := Nat.mul_le_mul_right _ h24
       show (vb ah pl).length <= 16777216
       omega
     . rw [tx_join]
       exact q H2 s2
theorem sc_mark_bits : FnScope ["flows", "before", "mark", "chain", "views", "written", "function", "row", "places", "ahead"] ["flows", "before", "mark"] (defScope s_mark_bits) := ⟨rfl, rfl, rfl, by decide +kernel, rfl, by decide +kernel, by decide +kernel⟩
theorem ok_mark_bits (T : Txt K mg t) : FnOk P w K mg base CX0 22 t.a_mark_bits t.d_mark_bits ["flows", "before", "mark"] (sp_mark_bits K t) := by
 have G_number_bits : FnOk P w K mg base CX0 2 t.a_number_bits t.d_number_bits ["number"] (sp_number_bits K) := ok_number_bits T
 have G_views_ahead : FnOk P w K mg base CX0 1 t.a_views_ahead t.d_views_ahead ["before", "chain"] (sp_views_ahead K) := ok_views_ahead T
 have G_view_bits : FnOk P w K mg base CX0 21 t.a_view_bits t.d_view_bits ["places", "ahead"] (sp_view_bits K) := ok_view_bits T
 refine T.mark_bits.F.ok sc_mark_bits (λ vs H Q E h => ?_) (λ cdv A outer s H vs Q E hr h => ?_)
 . obtain ⟨x, b0, v, fns, m0, m, rfl, hF, n12, h0, ok0, hv, okm, q⟩ := h
   rfl
 . obtain ⟨x, b0, v, fns, m0, m, rfl, hF, n12, h0, ok0, hv, okm, q⟩ := h
   refine ⟨_, (@pss_cons _ _ _ _ _ (ps_asg (pvC 2) (pg_tup rfl (pgs_cons (pg_name (i := 3) sc_mark_bits.nd rfl (Or.inl rfl)) (pgs_cons (pg_name (i := 4) sc_mark_bits.nd rfl (Or.inl rfl)) pgs_nil)))) (@pss_cons _ _ _ _ _ (@ps_set _ _ 5 _ _ _ _ sc_mark_bits.nd rfl (Or.inl rfl) (@pe_lst _ _ _ _ (@pa_cons _ _ _ _ _ (callD T.number_bits G_number_bits (hr.mono (by decide)) (@pa_cons _ _ _ _ _ (pe_callB (show CallR _ (.builtin "len") (cLen K) from callC_len) (by rfl) T.b_len bt_len (@pa_cons _ _ _ _ _ (pvC 3) pa_nil (by rfl))) pa_nil (by rfl))) pa_nil (by rfl))) (by rfl) (by first | exact .inl rfl | exact .inr rfl | assumption)) (@pss_cons _ _ _ _ _ (ps_for PassesOwn.never rfl (pi_tup (pvC 3)) (pg_tup rfl (pgs_cons (pg_name (i := 6) sc_mark_bits.nd rfl (Or.inl rfl)) (pgs_cons (pg_name (i := 7) sc_mark_bits.nd rfl (Or.inl rfl)) pgs_nil))) (@pss_one _ _ _ (@ps_expr _ _ _ _ (pe_bm PySem.F.plainAttrs_list PySem.F.slot_list_append PySem.F.type_list_append mtC_append (pvC 5) (@pa_cons _ _ _ _ _ (@pe_op _ _ _ _ _ _ _ _ op_add_str (callD T.number_bits G_number_bits (hr.mono (by decide)) (@pa_cons _ _ _ _ _ (pe_dget (u1' hr.units) (pe_fld (pvC 0) (by rfl)) (pvC 6) (λ _ _ => rfl)) pa_nil (by rfl))) (callD T.number_bits G_number_bits (hr.mono (by decide)) (@pa_cons _ _ _ _ _ (pvC 7) pa_nil (by rfl)))) pa_nil (by rfl))) (by rfl)))) (@pss_cons _ _ _ _ _ (ps_for PassesOwn.never rfl (pi_zip false false rfl T.b_zip (@pa_cons _ _ _ _ _ (pvC 4) (@pa_cons _ _ _ _ _ (callD T.views_ahead G_views_ahead (hr.mono (by decide)) (@pa_cons _ _ _ _ _ (pvC 1) (@pa_cons _ _ _ _ _ (pvC 3) pa_nil (by rfl)) (by rfl))) pa_nil (by rfl)) (by rfl))) (pg_tup rfl (pgs_cons (pg_name (i := 8) sc_mark_bits.nd rfl (Or.inl rfl)) (pgs_cons (pg_name (i := 9) sc_mark_bits.nd rfl (Or.inl rfl)) pgs_nil))) (@pss_one _ _ _ (@ps_expr _ _ _ _ (pe_bm PySem.F.plainAttrs_list PySem.F.slot_list_append PySem.F.type_list_append mtC_append (pvC 5) (@pa_cons _ _ _ _ _ (callD T.view_bits G_view_bits (hr.mono (by decide)) (@pa_cons _ _ _ _ _ (pvC 8) (@pa_cons _ _ _ _ _ (pvC 9) pa_nil (by rfl)) (by rfl))) pa_nil (by rfl))) (by rfl)))) (@pss_one _ _ _ (@ps_ret _ _ _ _ (pe_bm PySem.F.plainAttrs_str PySem.F.slot_str_join PySem.F.type_str_join mt_join pe_str (@pa_cons _ _ _ _ _ (pvC 5) pa_nil (by rfl))))))))), ?_⟩
   obtain ⟨mA, cv, wv, rfl, hmA, hcv, hwv⟩ := dt2 hv
   obtain ⟨cA, cs, rfl, hcs, dcs⟩ := dt_un hcv
   obtain ⟨wA, ws, rfl, hws, dws⟩ := dl_un hwv
   have lcs : cs.length = m.ch.length := by rw [da_len dcs, List.length_map]
   have lws : ws.length = m.ch.length := by rw [da_len dws, List.length_map]; exact okm.vl
   have m3 := okm.l3
   have nd := hF.nd
   refine ⟨_, rfl, mA, _, rfl, hmA, rfl, _, _, rfl, _, _, rfl, rfl, ?_⟩
   refine ⟨_, rfl, cA, _, rfl, .inr hcs, cs.length, rfl, (by rw [num16]; omega), λ H1 s1 => ⟨le1, λ w hw => ?_⟩⟩
   have hwH : H w = none := s1.free hw
   have x1 := s1.trans (Same.new (o := .lst [V.str (tx (nb cs.length))]) hw)
   refine ⟨_, rfl, cA, rfl, ⟨_, x1.tup hcs⟩, (let Jv1 : Nat -> St -> Hp -> Prop := λ i σ H2 => ∃ v6 v7 v8 v9 : Option V, σ = [some (.ref x), some b0, some (.ref mA), some (.ref cA), some (.ref wA), some (.ref w), v6, v7, v8, v9] /\ Same H H2 /\ H2 w = some (.lst (stx (nb cs.length :: (m.ch.take i).map fB))); for_tup (xs := cs) Jv1 ⟨_, _, _, _, rfl, x1, upd_same⟩ ?_ ?_ ?_)⟩
   . rintro i σ H2 hi ⟨v6, v7, v8, v9, rfl, s2, _⟩
     exact s2.tup hcs
   . rintro i y σ H2 hy ⟨v6, v7, v8, v9, rfl, s2, e2⟩
     have ilt : i < cs.length := (List.getElem?_eq_some_iff.mp hy).1
     obtain ⟨c, hc, dc⟩ := da_map dcs hy
     obtain ⟨fA, y1, y2, rfl, hf, hy1, hy2⟩ := dt2 dc
     cases ds_un hy1
     cases di_un hy2
     have ic := okm.ix c (List.mem_of_getElem? hc)
     obtain ⟨f, hfi⟩ : ∃ f, fns[c.1]? = some f := ⟨_, List.getElem?_eq_getElem ic.1⟩
     have hF2 := hF.mono s2
     obtain ⟨dx, fz, d, kv, nl, wl, o0, o1, o2, o3, o4, o5, o6, o7, o8⟩ := hF2.ob
     have hg := DGet.k (k := (Sum.inr f.name : Key)) (o1.dc 0 (by decide))
     rw [o2, F2.kD_at _ hF2.nd hfi] at hg
     refine ⟨fA, _, rfl, s2.tup hf, rfl, _, _, rfl, _, _, rfl, rfl, ?_⟩
     rw [nmF_at hfi]
     refine ⟨_, rfl, .inl ⟨rfl, _, SqL.of e2⟩, _, rfl, x, t.c_Flows, dx, _, _, rfl, o1.ob, T.cl_Flows.cl, T.n_Flows_number_of, Fl.lk_number _ _, _, rfl, _, _, rfl, hg, c.1, rfl, (by rw [num16]; omega), λ H3 s3 => ⟨_, rfl, c.2, rfl, (by rw [num16]; omega), λ H4 s4 => ⟨_, _, rfl, rfl, ?_, ?_⟩⟩⟩
     . have h1 := nb_small (n := c.1) (by omega)
       have h2 := nb_small (n := c.2) (by omega)
       exact fit2 _ _ (by omega)
     . have e4 := s4 _ _ (s3 _ _ e2)
       refine ⟨w, _, _, rfl, rfl, e4, (by rw [stx_len, List.length_cons, List.length_map, List.length_take]; exact lt_line (n := min i m.ch.length + 1 + 1) (by omega)), _, _, _, _, rfl, ((s2.trans s3).trans s4).upd hwH, ?_⟩
       rw [upd_same, fB_tx, <- stx_snoc, List.take_add_one, hc, List.map_append]
       rfl
   . rintro σ H2 ⟨v6, v7, v8, v9, rfl, s2, e2⟩
     rw [lcs, List.take_length] at e2
     refine ⟨_, rfl, _, rfl, _, rfl, b0, .ref cA, fns, m0, m.ch, w, _, rfl, e2, nd, L2.DatV.mono (same_ers s2 hwH) _ _ h0, ok0, L2.DatV.mono s2 _ _ hcv, λ c hc => (okm.ix c hc).1, m3, λ l xs H3 s3 hl e3 d3 => ?_⟩
     have lxs : xs.length = m.ch.length := by rw [da_len d3]; unfold aheads; rw [List.length_map, List.length_range]
     have s03 := s2.trans s3
     refine ⟨wA, l, rfl, ⟨_, s03.seq hws⟩, ⟨_, SqL.of e3⟩, (let Jv2 : Nat -> St -> Hp -> Prop := λ i σ H4 => ∃ v6 v7 v8 v9 : Option V, σ = [some (.ref x), some b0, some (.ref mA), some (.ref cA), some (.ref wA), some (.ref w), v6, v7, v8, v9] /\ Same H H4 /\ H4 w = some (.lst (stx (nb m.ch.length :: (m.ch.map fB ++ (List.range i).map (wB m0 m))))) /\ H4 l = some (.lst xs) /\ DatAll K (ers w H4) (aheads m0 m.ch m.ch.length) xs; for_zip (b1 := false) (b2 := false) (xs := ws) (ys := xs) Jv2 ⟨_, _, _, _, rfl, s03, (by rw [List.range_zero, List.map_nil, List.append_nil]; exact s3 _ _ e2), e3, d3⟩ ?_ ?_ ?_)⟩
     . rintro i σ H4 hi ⟨v6, v7, v8, v9, rfl, s4, _, e4, _⟩
       exact ⟨s4.seq hws, SqL.of e4⟩
     . rintro i y z σ H4 b hy hz ⟨v6, v7, v8, v9, rfl, s4, ew, el, d4⟩ hb
       have ilt : i < ws.length := (List.getElem?_eq_some_iff.mp hy).1
       obtain ⟨vw, hvw, dvw⟩ := da_map dws hy
       obtain ⟨ah, hah, dah⟩ := da_at' d4 hz
       have eah : ah = plD (ahd m0 i (kAt m i)) := by
         unfold aheads at hah
         rw [List.getElem?_map, List.getElem?_range (by omega)] at hah
         exact (Option.some.inj hah).symm
       subst eah
       have okv := vAt_ok okm i
       rw [vAt_of hvw] at okv
       have s5 := Same.new (o := .tup [y, z]) hb
       refine ⟨b, _, rfl, SqT.of upd_same, rfl, _, _, rfl, _, _, rfl, rfl, ?_⟩
       have ew5 := s5 _ _ ew
       have el5 := s5 _ _ el
       have d5 := L2.DatAll.mono (Same.ers (l := w) s5) _ _ d4
       generalize upd H4 b (.tup [y, z]) = H5 at s5 ew5 el5 d5 ⊢
       have oka := ahd_ok ok0 i (kAt m i)
       refine ⟨_, rfl, .inl ⟨rfl, _, SqL.of ew5⟩, _, rfl, _, rfl, y, z, vw, ahd m0 i (kAt m i), rfl, L2.DatV.mono (s4.trans s5) _ _ dvw, L2.DatV.mono (ers_same.trans s5) _ _ dah, okv.2, oka.2, okv.1, λ H6 s6 => ?_⟩
       have ew6 := s6 _ _ ew5
       have nwl : l ≠ w := λ h => by
         have := s2.trans s3
         have h1 := e2
         rw [<- h, hl] at h1
         cases h1
       refine ⟨w, _, _, rfl, rfl, ew6, (by rw [stx_len, List.length_cons, List.length_append, List.length_map, List.length_map, List.length_range]; exact lt_line (n := m.ch.length + i + 1 + 1) (by omega)), _, _, _, _, rfl, ((s4.trans s5).trans s6).upd hwH, ?_, ?_, ?_⟩
       . rw [upd_same, show vb (ahd m0 i (kAt m i)) vw = wB m0 m i by unfold wB; rw [vAt_of hvw], <- stx_snoc, List.range_succ, List.map_append]
         simp only [List.cons_append, List.append_assoc]
         rfl
       . rw [upd_ne nwl]
         exact s6 _ _ el5
       . rw [ers_upd]
         exact L2.DatAll.mono (Same.ers s6) _ _ d5
     . rintro σ H4 ⟨v6, v7, v8, v9, rfl, s4, ew, _⟩
       rw [lws, lxs, Nat.min_self] at ew
       refine ⟨rfl, _, rfl, _, w, _, rfl, rfl, SqL.of ew, join_ok ?_, ?_⟩
       . rw [mark_flat]
         have := mb_len (m0 := m0) okm n12
         omega
       . rw [tx_join, mark_flat]
         exact q H4 s4
theorem sc_marks_bits : FnScope ["flows", "marks", "written", "before", "mark"] ["flows", "marks"] (defScope s_marks_bits) := ⟨rfl, rfl, rfl, by decide +kernel, rfl, by decide +kernel, by decide +kernel⟩
theorem ok_marks_bits (T : Txt K mg t) : FnOk P w K mg base CX0 23 t.a_marks_bits t.d_marks_bits ["flows", "marks"] (sp_marks_bits K t) := by
 have G_number_bits : FnOk P w K mg base CX0 2 t.a_number_bits t.d_number_bits ["number"] (sp_number_bits K) := ok_number_bits T
 have G_mark_bits : FnOk P w K mg base CX0 22 t.a_mark_bits t.d_mark_bits ["flows", "before", "mark"] (sp_mark_bits K t) := ok_mark_bits T
 refine T.marks_bits.F.ok sc_marks_bits (λ vs H Q E h => ?_) (λ cdv A outer s H vs Q E hr h => ?_)
 . obtain ⟨x, v, fns, ms, rfl, hF, n12, hv, h200, hok, q⟩ := h
   rfl
 . obtain ⟨x, v, fns, ms, rfl, hF, n12, hv, h200, hok, q⟩ := h
   refine ⟨_, (@pss_cons _ _ _ _ _ (@ps_set _ _ 2 _ _ _ _ sc_marks_bits.nd rfl (Or.inl rfl) (@pe_lst _ _ _ _ (@pa_cons _ _ _ _ _ (callD T.number_bits G_number_bits (hr.mono (by decide)) (@pa_cons _ _ _ _ _ (pe_callB (show CallR _ (.builtin "len") (cLen K) from callC_len) (by rfl) T.b_len bt_len (@pa_cons _ _ _ _ _ (pvC 1) pa_nil (by rfl))) pa_nil (by rfl))) pa_nil (by rfl))) (by rfl) (by first | exact .inl rfl | exact .inr rfl | assumption)) (@pss_cons _ _ _ _ _ (@ps_set _ _ 3 _ _ _ _ sc_marks_bits.nd rfl (Or.inl rfl) (@pe_tup _ _ _ _ _ (@pa_cons _ _ _ _ _ (@pe_tup _ _ _ _ _ pa_nil) (@pa_cons _ _ _ _ _ (@pe_lst _ _ _ _ pa_nil) pa_nil (by rfl)) (by rfl))) (by rfl) (by first | exact .inl rfl | exact .inr rfl | assumption)) (@pss_cons _ _ _ _ _ (ps_for PassesOwn.never rfl (pi_list (pvC 1)) (pg_name (i := 4) sc_marks_bits.nd rfl (Or.inl rfl)) (@pss_cons _ _ _ _ _ (@ps_expr _ _ _ _ (pe_bm PySem.F.plainAttrs_list PySem.F.slot_list_append PySem.F.type_list_append mtC_append (pvC 2) (@pa_cons _ _ _ _ _ (callD T.mark_bits G_mark_bits (hr.mono (by decide)) (@pa_cons _ _ _ _ _ (pvC 0) (@pa_cons _ _ _ _ _ (pvC 3) (@pa_cons _ _ _ _ _ (pvC 4) pa_nil (by rfl)) (by rfl)) (by rfl))) pa_nil (by rfl))) (by rfl)) (@pss_one _ _ _ (@ps_set _ _ 3 _ _ _ _ sc_marks_bits.nd rfl (Or.inl rfl) (pvC 4) (by rfl) (by first | exact .inl rfl | exact .inr rfl | assumption))))) (@pss_one _ _ _ (@ps_ret _ _ _ _ (pe_bm PySem.F.plainAttrs_str PySem.F.slot_str_join PySem.F.type_str_join mt_join pe_str (@pa_cons _ _ _ _ _ (pvC 2) pa_nil (by rfl)))))))), ?_⟩
   obtain ⟨mA, us, rfl, hus, dus⟩ := dl_un hv
   have lus : us.length = ms.length := by rw [da_len dus, List.length_map]
   refine ⟨_, rfl, mA, _, rfl, .inl hus, us.length, rfl, (by rw [num16]; omega), λ H1 s1 => ⟨le1, λ w hw => ?_⟩⟩
   refine ⟨le0, λ t0 ht0 => ⟨le0, λ l0 hl0 => ⟨le2, λ p0 hp0 => ?_⟩⟩⟩
   have x1 := Same.new (o := .lst [V.str (tx (nb us.length))]) hw
   have x2 := Same.new (o := .tup []) ht0
   have x3 := Same.new (o := .lst []) hl0
   have x4 := Same.new (o := .tup [.ref t0, .ref l0]) hp0
   have ew := x4 _ _ (x3 _ _ (x2 _ _ (upd_same (H := H1) (a := w) (o := .lst [V.str (tx (nb us.length))]))))
   have n1 : t0 ≠ w := (ne_of_none upd_same ht0).symm
   have n2 : l0 ≠ w := (ne_of_none (x2 _ _ upd_same) hl0).symm
   have n3 : p0 ≠ w := (ne_of_none (x3 _ _ (x2 _ _ upd_same)) hp0).symm
   have d0 : DatV K (ers w (upd (upd (upd (upd H1 w (.lst [V.str (tx (nb us.length))])) t0 (.tup [])) l0 (.lst [])) p0 (.tup [.ref t0, .ref l0]))) (tmD (nmF fns) mk0) (.ref p0) :=
     dt2_mk (SqT.of (by rw [ers_ne n3]; exact upd_same)) (datV_tuple (SqT.of (by rw [ers_ne n1]; exact x4 _ _ (x3 _ _ upd_same))) datAll_nil) (datV_list (SqL.of (by rw [ers_ne n2]; exact x4 _ _ upd_same)) datAll_nil)
   have s0 := s1.trans (((x1.trans x2).trans x3).trans x4)
   have hwH : H w = none := s1.free hw
   generalize upd (upd (upd (upd H1 w (.lst [V.str (tx (nb us.length))])) t0 (.tup [])) l0 (.lst [])) p0 (.tup [.ref t0, .ref l0]) = G0 at ew d0 s0 ⊢
   refine ⟨_, rfl, mA, rfl, ⟨_, s0.seq hus⟩, (let Jv1 : Nat -> St -> Hp -> Prop := λ i σ H2 => ∃ (bv : V) (v4 : Option V), σ = [some (.ref x), some (.ref mA), some (.ref w), some bv, v4] /\ Same H H2 /\ H2 w = some (.lst (stx (nb us.length :: mbs ms i))) /\ DatV K (ers w H2) (tmD (nmF fns) (prv ms i)) bv; for_list (xs := us) Jv1 ⟨_, _, rfl, s0, ew, d0⟩ ?_ ?_ ?_)⟩
   . rintro i σ H2 hi ⟨bv, v4, rfl, s2, _⟩
     exact s2.seq hus
   . rintro i y σ H2 hy ⟨bv, v4, rfl, s2, e2, d2⟩
     have ilt : i < us.length := (List.getElem?_eq_some_iff.mp hy).1
     obtain ⟨m, hm, dm⟩ := da_map dus hy
     have gm : ms.getD i mk0 = m := by rw [List.getD_eq_getElem?_getD, hm]; rfl
     have okp : MOk fns.length (prv ms i) := by
       cases i with
       | zero => exact mk0_ok _
       | succ i =>
         show MOk fns.length (ms.getD i mk0)
         refine hok _ ?_
         rw [List.getD_eq_getElem?_getD, List.getElem?_eq_getElem (by omega)]
         exact List.getElem_mem _
     refine ⟨_, rfl, .inl ⟨rfl, _, SqL.of e2⟩, _, rfl, _, rfl, _, rfl, x, bv, y, fns, prv ms i, m, rfl, hF.mono s2, n12, L2.DatV.mono ers_same _ _ d2, okp, L2.DatV.mono s2 _ _ dm, hok m (List.mem_of_getElem? hm), λ H3 s3 => ?_⟩
     have e3 := s3 _ _ e2
     refine ⟨w, _, _, rfl, rfl, e3, (by rw [stx_len, List.length_cons, mbs_len]; exact lt_line (n := i + 1 + 1) (by omega)), ?_⟩
     have s4 := (s2.trans s3).upd (o := .lst (stx (nb us.length :: mbs ms i) ++ [V.str (tx (mb (prv ms i) m))])) hwH
     refine ⟨_, rfl, _, _, rfl, s4, ?_, ?_⟩
     . rw [upd_same, <- stx_snoc, mbs_succ, gm]
       rfl
     . show DatV K _ (tmD (nmF fns) (ms.getD i mk0)) y
       rw [gm]
       exact L2.DatV.mono (same_ers s4 hwH) _ _ dm
   . rintro σ H2 ⟨bv, v4, rfl, s2, e2, d2⟩
     rw [lus] at e2
     refine ⟨rfl, _, rfl, _, w, _, rfl, rfl, SqL.of e2, join_ok ?_, ?_⟩
     . rw [rows_flat]
       have := rowB_len hok n12 h200
       omega
     . rw [tx_join, rows_flat]
       exact q H2 s2
theorem sc_pack : FnScope ["program", "table", "flows"] ["program", "table"] (defScope s_pack) := ⟨rfl, rfl, rfl, by decide +kernel, rfl, by decide +kernel, by decide +kernel⟩
theorem ok_pack (T : Txt K mg t) : FnOk P w K mg base CX0 24 t.a_pack t.d_pack ["program", "table"] (sp_pack K) := by
 have G_Flows_init : FnOk P w K mg base CX0 4 t.a_Flows_init t.d_Flows_init ["self", "program"] (sp_Flows_init K t) := ok_Flows_init T
 have G_marks_bits : FnOk P w K mg base CX0 23 t.a_marks_bits t.d_marks_bits ["flows", "marks"] (sp_marks_bits K t) := ok_marks_bits T
 refine T.pack.F.ok sc_pack (λ vs H Q E h => ?_) (λ cdv A outer s H vs Q E hr h => ?_)
 . obtain ⟨p, v, fns, tb, rfl, hS, n0, n12, hE, nd, hv, t12, hok, q⟩ := h
   rfl
 . obtain ⟨p, v, fns, tb, rfl, hS, n0, n12, hE, nd, hv, t12, hok, q⟩ := h
   refine ⟨_, (@pss_cons _ _ _ _ _ (@ps_set _ _ 2 _ _ _ _ sc_pack.nd rfl (Or.inr rfl) (makeD T.cl_Flows T.Flows_init G_Flows_init (hr.mono (by decide)) (@pa_cons _ _ _ _ _ (pvC 0) pa_nil (by rfl))) (by rfl) (by first | exact .inl rfl | exact .inr rfl | assumption)) (@pss_one _ _ _ (@ps_ret _ _ _ _ (pe_comp (N' := ["name", "marks", "flows"]) (js := [none, none, some 2]) (by kernel_rfl) rfl (pi_list (pvC 1)) (own_tup (own_cons (own_cons own_nil))) (λ _ _ _ _ => (show PG _ _ (gTup K 2 _) from pg_tup (n := 2) rfl (pgs_cons (pg_name (i := 0) (show (["name", "marks", "flows"] : List Str).Nodup by decide +kernel) rfl (Or.inl rfl) (.inr rfl)) (pgs_cons (pg_name (i := 1) (show (["name", "marks", "flows"] : List Str).Nodup by decide +kernel) rfl (Or.inl rfl) (.inr rfl)) pgs_nil)))) (λ _ _ _ _ => pif_nil) (λ _ _ _ _ => (callD T.marks_bits G_marks_bits (hr.mono (by decide)) (@pa_cons _ _ _ _ _ (pvC 2) (@pa_cons _ _ _ _ _ (pvC 1) pa_nil (by rfl)) (by rfl)))))))), ?_⟩
   obtain ⟨tA, es, rfl, hes, des⟩ := dl_un hv
   have les : es.length = tb.length := by rw [da_len des, List.length_map]
   refine ⟨_, rfl, λ x dx nx ndx nex => ?_⟩
   have s0 : Same H (upd (upd H dx (.own x)) x (.ins t.c_Flows dx [])) := λ b o e => by
     rw [upd_ne (ne_of_none e nx), upd_ne (ne_of_none e ndx)]
     exact e
   have s1' : Same H (ers x (upd (upd H dx (.own x)) x (.ins t.c_Flows dx []))) := λ b o e => by
     rw [ers_upd, ers_ne (ne_of_none e nx), upd_ne (ne_of_none e ndx)]
     exact e
   refine ⟨x, dx, p, fns, rfl, upd_same, s1'.seq hS, n0, n12, λ f hf => (hE f hf).mono s1', nd, λ H1 s1 hF => ⟨rfl, ?_⟩⟩
   have s01 : Same H H1 := λ b o e => s1 b o (by rw [ers_ne (ne_of_none e nx)]; exact s0 b o e)
   refine ⟨_, rfl, tA, rfl, ⟨_, s01.seq hes⟩, λ u hu => (let Jv1 : Nat -> List V -> Hp -> Prop := λ i acc H2 => Same H1 H2 /\ H2 u = some (.lst acc) /\ acc = (tb.take i).map λ e => V.str (tx (rowB e.2)); comp_list (xs := es) (by omega) Jv1 ⟨Same.new hu, upd_same, rfl⟩ ?_ ?_ ?_)⟩
   . rintro i acc H2 hi ⟨s2, e2, rfl⟩
     exact ⟨e2, by rw [List.length_map, List.length_take]; omega, (s01.trans s2).seq hes⟩
   . rintro i y acc H2 hy ⟨s2, e2, rfl⟩
     obtain ⟨e, he, de⟩ := da_map des hy
     obtain ⟨eA, y1, y2, rfl, heA, hy1, hy2⟩ := dt2 de
     obtain ⟨h200, hms⟩ := hok e (List.mem_of_getElem? he)
     have s02 := s01.trans s2
     refine ⟨eA, _, rfl, s02.tup heA, rfl, _, _, rfl, _, _, rfl, rfl, ?_⟩
     refine ⟨_, rfl, _, rfl, x, y2, fns, e.2, rfl, hF.mono s2, n12, L2.DatV.mono s02 _ _ hy2, h200, hms, λ H3 s3 => ⟨s3 _ _ e2, (s2.trans s3).upd hu, upd_same, ?_⟩⟩
     rw [List.take_add_one, he, List.map_append]
     rfl
   . rintro acc H2 ⟨s2, e2, rfl⟩
     rw [les, List.take_length] at e2
     exact q u H2 (s01.trans s2) (s01.free hu) e2
theorem sc_l_cell : FnScope ["_law_script", "_law_k", "_law_seed"] ["_law_script", "_law_k"] (defScope s_l_cell) := ⟨rfl, rfl, rfl, by decide +kernel, rfl, by decide +kernel, by decide +kernel⟩
theorem ok_l_cell (T : Txt K mg t) : FnOk P w K mg base CX0 1 t.a_l_cell t.d_l_cell ["_law_script", "_law_k"] (sp_l_cell K) := by
 refine T.l_cell.F.ok sc_l_cell (λ vs H Q E h => ?_) (λ cdv A outer s H vs Q E hr h => ?_)
 . obtain ⟨a, ns, k, rfl, hS, hl, h0, h1, q⟩ := h
   rfl
 . obtain ⟨a, ns, k, rfl, hS, hl, h0, h1, q⟩ := h
   refine ⟨_, (@pss_cons _ _ _ _ _ (@ps_if _ _ _ _ _ _ _ _ (@ptC_cmpR _ _ _ _ _ _ _ _ (opC0 op_lt) (pvC 1) (pe_callB (show CallR _ (.builtin "len") (cLen K) from callC_len) (by rfl) T.b_len bt_len (@pa_cons _ _ _ _ _ (pvC 0) pa_nil (by rfl))) (nomark _)) (@pss_one _ _ _ (@ps_ret _ _ _ _ (@pe_ix _ _ _ _ _ _ _ (show IxR _ (cIxL K) from ixC_list) (pvC 0) (pvC 1) (λ _ _ => rfl)))) pss_nil) (@pss_cons _ _ _ _ _ (@ps_set _ _ 2 _ _ _ _ sc_l_cell.nd rfl (Or.inl rfl) pe_int (by rfl) (by first | exact .inl rfl | exact .inr rfl | assumption)) (@pss_cutN _ _ _ _ _ (@ps_if _ _ _ _ _ _ _ _ (@ptC_cmpR _ _ _ _ _ _ _ _ (opC0 op_gt) (pe_callB (show CallR _ (.builtin "len") (cLen K) from callC_len) (by rfl) T.b_len bt_len (@pa_cons _ _ _ _ _ (pvC 0) pa_nil (by rfl))) pe_int (nomark _)) (@pss_one _ _ _ (@ps_set _ _ 2 _ _ _ _ sc_l_cell.nd rfl (Or.inl rfl) (@pe_op _ _ _ _ _ _ _ _ (opC1 op_mod) (@pe_ix _ _ _ _ _ _ _ (show IxR _ (cIxL K) from ixC_list) (pvC 0) (@pe_op _ _ _ _ _ _ _ _ (opC1 op_mod) (pvC 1) (pe_callB (show CallR _ (.builtin "len") (cLen K) from callC_len) (by rfl) T.b_len bt_len (@pa_cons _ _ _ _ _ (pvC 0) pa_nil (by rfl)))) (λ _ _ => rfl)) pe_int) (by rfl) (by first | exact .inl rfl | exact .inr rfl | assumption))) pss_nil) (@pss_one _ _ _ (@ps_ret _ _ _ _ (@pe_op _ _ _ _ _ _ _ _ (opC1 op_mod) (@pe_op _ _ _ _ _ _ _ _ (opC1 op_mul) (@pe_op _ _ _ _ _ _ _ _ (opC0 op_add) (@pe_op _ _ _ _ _ _ _ _ (opC0 op_add) (pvC 2) (@pe_op _ _ _ _ _ _ _ _ (opC1 op_mul) pe_int (pvC 1))) pe_int) (@pe_op _ _ _ _ _ _ _ _ (opC0 op_add) (@pe_op _ _ _ _ _ _ _ _ (opC0 op_add) (pvC 2) (@pe_op _ _ _ _ _ _ _ _ (opC1 op_mul) pe_int (pvC 1))) pe_int)) pe_int)))))), ?_⟩
   have hlen : (ns.map V.int).length = ns.length := List.length_map _
   refine ⟨_, rfl, _, rfl, a, _, rfl, .inl hS, _, _, rfl, rfl, _, rfl, ?_⟩
   refine ite2 (λ c => ?_) (λ c => ?_)
   . have c := dec_true c
     rw [hlen] at c
     refine ⟨_, rfl, _, rfl, a, _, _, _, rfl, rfl, hS, at_int h0 c, vq ?_ q⟩
     unfold cellF
     rw [if_pos c]
   have c : ¬ k < (ns.length : Int) := by rw [decide_eq_true_eq, hlen] at c; exact c
   refine ⟨λ σ H' => H' = H /\ σ = [some (.ref a), some (.int k), some (.int (seedF ns k))] /\ 0 <= seedF ns k /\ seedF ns k < 999983, ?_, ?_⟩
   . refine ⟨_, rfl, a, _, rfl, .inl hS, _, _, rfl, rfl, _, rfl, ?_⟩
     refine ite2 (λ c2 => ?_) (λ c2 => ?_)
     . have c2 := dec_true c2
       rw [hlen] at c2
       have m := emod_bd (ns.getD (k % (ns.length : Int)).toNat 0) 999983 (by decide)
       have es : seedF ns k = ns.getD (k % (ns.length : Int)).toNat 0 % 999983 := by unfold seedF; rw [if_pos c2]
       have hz := at_int (cs := ns) (i := k % (ns.length : Int)) (Int.emod_nonneg _ (by omega)) (Int.emod_lt_of_pos _ c2)
       refine ⟨_, rfl, _, rfl, _, rfl, a, _, rfl, .inl hS, _, _, rfl, rfl, (by rw [hlen]; exact c2), a, _, _, _, rfl, rfl, hS, (by rw [hlen]; exact hz), _, _, rfl, rfl, (show (0 : Int) < 999983 by decide), rfl, ?_, ?_, ?_⟩
       . rw [es]
         rfl
       . rw [es]; exact m.1
       . rw [es]; exact m.2
     . have es : seedF ns k = 7 := by
         unfold seedF
         rw [if_neg (by rw [decide_eq_true_eq, hlen] at c2; exact c2)]
       rw [es]
       exact ⟨rfl, rfl, by decide, by decide⟩
   . rintro σ H' ⟨rfl, rfl, b1, b2⟩
     refine ⟨_, rfl, _, rfl, _, _, rfl, rfl, .inl ⟨by decide, by decide⟩, _, _, rfl, rfl, _, _, rfl, rfl, _, rfl, _, rfl, _, _, rfl, rfl, .inl ⟨by decide, by decide⟩, _, _, rfl, rfl, _, _, rfl, rfl, _, _, rfl, rfl, .inl ⟨by omega, by omega⟩, _, _, rfl, rfl, (show (0 : Int) < 1000003 by decide), vq ?_ q⟩
     unfold cellF
     rw [if_neg c]
theorem sc_l_part : FnScope ["_law_cell_here", "_law_j", "_law_many", "_law_primes"] ["_law_cell_here", "_law_j", "_law_many"] (defScope s_l_part) := ⟨rfl, rfl, rfl, by decide +kernel, rfl, by decide +kernel, by decide +kernel⟩
theorem ok_l_part (T : Txt K mg t) : FnOk P w K mg base CX0 1 t.a_l_part t.d_l_part ["_law_cell_here", "_law_j", "_law_many"] (sp_l_part K) := by
 refine T.l_part.F.ok sc_l_part (λ vs H Q E h => ?_) (λ cdv A outer s H vs Q E hr h => ?_)
 . obtain ⟨c, j, m, rfl, h0, h1, q⟩ := h
   rfl
 . obtain ⟨c, j, m, rfl, h0, h1, q⟩ := h
   refine ⟨_, (@pss_cons _ _ _ _ _ (@ps_set _ _ 3 _ _ _ _ sc_l_part.nd rfl (Or.inl rfl) (@pe_litT _ _ [V.int 10007, V.int 10009, V.int 10037, V.int 10039, V.int 10061, V.int 10067, V.int 10069, V.int 10079] (by kernel_rfl)) (by rfl) (by first | exact .inl rfl | exact .inr rfl | assumption)) (@pss_one _ _ _ (@ps_ret _ _ _ _ (@pe_op _ _ _ _ _ _ _ _ (opC1 op_mod) (@pe_op _ _ _ _ _ _ _ _ (opC1 op_mod) (@pe_op _ _ _ _ _ _ _ _ (opC0 op_add) (@pe_op _ _ _ _ _ _ _ _ (opC1 op_mul) (pvC 0) pe_int) (@pe_op _ _ _ _ _ _ _ _ (opC1 op_mul) pe_int (pvC 1))) (@pe_ix _ _ _ _ _ _ _ (show IxR _ (cIxT K) from ixC_tup) (pvC 3) (@pe_op _ _ _ _ _ _ _ _ (opC1 op_mod) (pvC 1) pe_int) (λ _ _ => rfl))) (pvC 2))))), ?_⟩
   refine ⟨(by show 8 <= sizeLine; decide), λ p hp => ?_⟩
   exact ⟨_, rfl, _, _, rfl, rfl, .inr ⟨by decide, by decide⟩, _, rfl, _, _, rfl, rfl, .inl ⟨by decide, by decide⟩, _, _, rfl, rfl, _, rfl, _, rfl, _, _, rfl, rfl, (show (0 : Int) < 8 by decide), p, _, _, _, rfl, rfl, SqT.of upd_same, prm_at j, _, _, rfl, rfl, prm_pos j, _, rfl, _, _, rfl, rfl, h1, q _ (Same.new hp)⟩
theorem sc_l_name : FnScope ["_law_cell_here", "_law_k", "_law_letters", "_law_size", "_law_some", "_law_name_here"] ["_law_cell_here", "_law_k"] (defScope s_l_name) := ⟨rfl, rfl, rfl, by decide +kernel, rfl, by decide +kernel, by decide +kernel⟩
theorem ok_l_name (T : Txt K mg t) : FnOk P w K mg base CX0 2 t.a_l_name t.d_l_name ["_law_cell_here", "_law_k"] (sp_l_name K) := by
 have G_l_part : FnOk P w K mg base CX0 1 t.a_l_part t.d_l_part ["_law_cell_here", "_law_j", "_law_many"] (sp_l_part K) := ok_l_part T
 refine T.l_name.F.ok sc_l_name (λ vs H Q E h => ?_) (λ cdv A outer s H vs Q E hr h => ?_)
 . obtain ⟨b, k, rfl, q⟩ := h
   rfl
 . obtain ⟨b, k, rfl, q⟩ := h
   refine ⟨_, (@pss_cons _ _ _ _ _ (@ps_set _ _ 2 _ _ _ _ sc_l_name.nd rfl (Or.inr rfl) pe_str (by rfl) (by first | exact .inl rfl | exact .inr rfl | assumption)) (@pss_cons _ _ _ _ _ (@ps_set _ _ 3 _ _ _ _ sc_l_name.nd rfl (Or.inl rfl) (@pe_op _ _ _ _ _ _ _ _ (opC0 op_add) pe_int (callD T.l_part G_l_part (hr.mono (by decide)) (@pa_cons _ _ _ _ _ (pvC 0) (@pa_cons _ _ _ _ _ pe_int (@pa_cons _ _ _ _ _ pe_int pa_nil (by rfl)) (by rfl)) (by rfl)))) (by rfl) (by first | exact .inl rfl | exact .inr rfl | assumption)) (@pss_cons _ _ _ _ _ (ps_setc (i := 4) sc_l_name.nd rfl (Or.inl rfl) (N' := ["_law_j", "_law_letters", "_law_cell_here"]) (js := [none, some 2, some 0]) (by kernel_rfl) rfl (pi_range1 rfl T.b_range (@pa_cons _ _ _ _ _ (pvC 3) pa_nil (by rfl))) own_name (λ _ _ _ _ => (pg_name (i := 0) (show (["_law_j", "_law_letters", "_law_cell_here"] : List Str).Nodup by decide +kernel) rfl (Or.inl rfl) (.inr rfl))) (λ _ _ _ _ => pif_nil) (λ _ _ _ _ => (@pe_ix _ _ _ _ _ _ _ ix_str (pvC 1) (callD T.l_part G_l_part (hr.mono (by decide)) (@pa_cons _ _ _ _ _ (pvC 2) (@pa_cons _ _ _ _ _ (pvC 0) (@pa_cons _ _ _ _ _ pe_int pa_nil (by rfl)) (by rfl)) (by rfl))) (λ _ _ => rfl))) (by rfl)) (@pss_cons _ _ _ _ _ (ps_asg (@pe_ix _ _ _ _ _ _ _ ix_str (pvC 2) (@pe_op _ _ _ _ _ _ _ _ (opC1 op_mod) (@pe_op _ _ _ _ _ _ _ _ (opC0 op_add) (callD T.l_part G_l_part (hr.mono (by decide)) (@pa_cons _ _ _ _ _ (pvC 0) (@pa_cons _ _ _ _ _ pe_int (@pa_cons _ _ _ _ _ pe_int pa_nil (by rfl)) (by rfl)) (by rfl))) (pvC 1)) pe_int) (λ _ _ => rfl)) (pg_sub (pvC 4) (callD T.l_part G_l_part (hr.mono (by decide)) (@pa_cons _ _ _ _ _ (pvC 0) (@pa_cons _ _ _ _ _ pe_int (@pa_cons _ _ _ _ _ (pvC 3) pa_nil (by rfl)) (by rfl)) (by rfl))) set_list)) (@pss_cons _ _ _ _ _ (@ps_set _ _ 5 _ _ _ _ sc_l_name.nd rfl (Or.inl rfl) (pe_bm PySem.F.plainAttrs_str PySem.F.slot_str_join PySem.F.type_str_join mt_join pe_str (@pa_cons _ _ _ _ _ (pvC 4) pa_nil (by rfl))) (by rfl) (by first | exact .inl rfl | exact .inr rfl | assumption)) (@pss_cons _ _ _ _ _ (@ps_if _ _ _ _ _ _ _ _ (@ptC_cmpR _ _ _ _ _ _ _ _ op_in_seq (pvC 5) (@pe_litT _ _ [V.str "fn", V.str "in", V.str "new", V.str "get", V.str "put", V.str "call", V.str "out", V.str "if", V.str "while", V.str "else", V.str "end", V.str "back"] (by kernel_rfl)) (by with_unfolding_all rfl)) (@pss_one _ _ _ (@ps_ret _ _ _ _ (@pe_op _ _ _ _ _ _ _ _ op_add_str (pvC 5) pe_str))) pss_nil) (@pss_one _ _ _ (@ps_ret _ _ _ _ (pvC 5))))))))), ?_⟩
   have wb := wsz_bd b
   have ab := wat_bd b
   have lf : K12.lets.length <= sizeLine := by decide +kernel
   refine ⟨_, rfl, b, 8, 8, rfl, by decide, by decide, λ H1 s1 => ⟨_, _, rfl, rfl, ?_⟩⟩
   show (λ x H1 => _) (V.int (1 + part b 8 8)) H1
   rw [<- wb.2.2]
   refine ⟨_, rfl, _, rfl, by omega, by omega, λ u hu => (let Jv1 : Nat -> List V -> Hp -> Prop := λ i acc H2 => Same H1 H2 /\ H2 u = some (.lst acc) /\ acc = (List.range i).map λ j : Nat => V.str (tx [K41.lc (part b j 26)]); comp_range (lo := 0) (n := wsz b) (by omega) Jv1 ⟨Same.new hu, upd_same, rfl⟩ ?_ ?_ ?_)⟩
   . rintro i acc H2 hi ⟨s2, e2, rfl⟩
     exact ⟨e2, by rw [List.length_map, List.length_range]; exact Nat.le_refl _⟩
   . rintro i acc H2 hi ⟨s2, e2, rfl⟩
     have bi := part_bd b i 26 (by decide)
     refine ⟨_, rfl, _, rfl, _, rfl, b, 0 + (i : Int), 26, rfl, by omega, by decide, λ H3 s3 => ⟨_, _, K41.lc (part b (0 + (i : Int)) 26), rfl, rfl, lf, ?_, s3 _ _ e2, (s2.trans s3).upd hu, upd_same, ?_⟩⟩
     . exact K41.lc_at (z := part b (0 + (i : Int)) 26) (by rw [Int.zero_add]; exact bi.1) (by rw [Int.zero_add]; exact bi.2)
     . rw [List.range_succ, List.map_append, Int.zero_add]
       rfl
   rintro acc H2 ⟨s2, e2, rfl⟩
   have bk := emod_bd (part b 10 26 + k) 26 (by decide)
   have s02 := s1.trans s2
   have hu0 : H u = none := s1.free hu
   refine ⟨_, rfl, _, rfl, b, 10, 26, rfl, by decide, by decide, λ H3 s3 => ⟨_, rfl, _, _, rfl, rfl, _, _, rfl, rfl, (show (0 : Int) < 26 by decide), _, _, _, rfl, rfl, lf, K41.lc_at bk.1 bk.2, ?_⟩⟩
   refine ⟨_, rfl, _, rfl, _, rfl, b, 9, (wsz b : Int), rfl, by decide, by omega, λ H4 s4 => ?_⟩
   have e4 := s4 _ _ (s3 _ _ e2)
   rw [show part b 9 (wsz b : Int) = ((wat b : Nat) : Int) by rw [ab.2, wb.2.2]]
   refine ⟨u, _, _, _, rfl, rfl, e4, ixI (by omega) (by rw [List.length_map, List.length_range]; omega), ?_⟩
   rw [Int.toNat_natCast, show (V.str ⟨#[K41.lc ((part b 10 26 + k) % 26)]⟩) = V.str (tx [K41.lc ((part b 10 26 + k) % 26)]) from rfl, wk_strs]
   have s5 : Same H (upd H4 u (.lst ((((wk b k).map λ c => [c]).map tx).map V.str))) := ((s02.trans s3).trans s4).upd hu0
   have e5 := upd_same (H := H4) (a := u) (o := .lst ((((wk b k).map λ c => [c]).map tx).map V.str))
   generalize upd H4 u (.lst ((((wk b k).map λ c => [c]).map tx).map V.str)) = H5 at s5 e5 ⊢
   have wl := wk_len b k
   have fs : ((wk b k).map λ c => [c]).flatten = wk b k := flat_sing _
   refine ⟨rfl, _, rfl, _, u, _, rfl, rfl, SqL.of e5, join_ok (by rw [fs]; omega), ?_⟩
   rw [tx_join, fs]
   refine ⟨_, rfl, (by show 12 <= sizeLine; decide), λ tl htl => ⟨tl, _, rfl, .inr (SqT.of upd_same), rfl, (by decide +kernel), _, rfl, ?_⟩⟩
   have s6 := s5.trans (Same.new (o := .tup K41.tkV) htl)
   refine ite2 (λ c => ?_) (λ c => ?_)
   . refine ⟨_, rfl, _, _, rfl, rfl, (by rw [tx_len, wl]; exact lt_line (by show wsz b + 1 < 1000000; omega)), vq ?_ (q _ s6)⟩
     have c : inV (.str (tx (wk b k))) K41.tkV = true := c
     unfold nmL
     rw [if_pos c, show (("z" : Str)) = tx [122] from rfl, tx_app]
   . refine ⟨_, rfl, vq ?_ (q _ s6)⟩
     have c : ¬ inV (.str (tx (wk b k))) K41.tkV = true := c
     unfold nmL
     rw [if_neg c]
theorem sc_l_function : FnScope ["_law_cell_here", "_law_k", "_law_base", "_law_big", "_law_params", "_law_more", "_law_blocks", "_law_rows", "_law_names"] ["_law_cell_here", "_law_k", "_law_base", "_law_big"] (defScope s_l_function) := ⟨rfl, rfl, rfl, by decide +kernel, rfl, by decide +kernel, by decide +kernel⟩
theorem ok_l_function (T : Txt K mg t) : FnOk P w K mg base CX0 3 t.a_l_function t.d_l_function ["_law_cell_here", "_law_k", "_law_base", "_law_big"] (sp_l_function K) := by
 have G_l_part : FnOk P w K mg base CX0 1 t.a_l_part t.d_l_part ["_law_cell_here", "_law_j", "_law_many"] (sp_l_part K) := ok_l_part T
 have G_l_name : FnOk P w K mg base CX0 2 t.a_l_name t.d_l_name ["_law_cell_here", "_law_k"] (sp_l_name K) := ok_l_name T
 refine T.l_function.F.ok sc_l_function (λ vs H Q E h => ?_) (λ cdv A outer s H vs Q E hr h => ?_)
 . obtain ⟨c, k, b, big, rfl, k0, k1, q⟩ := h
   rfl
 . obtain ⟨c, k, b, big, rfl, k0, k1, q⟩ := h
   refine ⟨_, (@pss_cons _ _ _ _ _ (@ps_set _ _ 4 _ _ _ _ sc_l_function.nd rfl (Or.inr rfl) (callD T.l_part G_l_part (hr.mono (by decide)) (@pa_cons _ _ _ _ _ (pvC 0) (@pa_cons _ _ _ _ _ (pvC 1) (@pa_cons _ _ _ _ _ pe_int pa_nil (by rfl)) (by rfl)) (by rfl))) (by rfl) (by first | exact .inl rfl | exact .inr rfl | assumption)) (@pss_cons _ _ _ _ _ (@ps_set _ _ 5 _ _ _ _ sc_l_function.nd rfl (Or.inl rfl) (callD T.l_part G_l_part (hr.mono (by decide)) (@pa_cons _ _ _ _ _ (pvC 0) (@pa_cons _ _ _ _ _ (@pe_op _ _ _ _ _ _ _ _ (opC0 op_add) (pvC 1) pe_int) (@pa_cons _ _ _ _ _ pe_int pa_nil (by rfl)) (by rfl)) (by rfl))) (by rfl) (by first | exact .inl rfl | exact .inr rfl | assumption)) (@pss_cons _ _ _ _ _ (@ps_set _ _ 6 _ _ _ _ sc_l_function.nd rfl (Or.inl rfl) (callD T.l_part G_l_part (hr.mono (by decide)) (@pa_cons _ _ _ _ _ (pvC 0) (@pa_cons _ _ _ _ _ (@pe_op _ _ _ _ _ _ _ _ (opC0 op_add) (pvC 1) pe_int) (@pa_cons _ _ _ _ _ pe_int pa_nil (by rfl)) (by rfl)) (by rfl))) (by rfl) (by first | exact .inl rfl | exact .inr rfl | assumption)) (@pss_cutN _ _ _ _ _ (@ps_if _ _ _ _ _ _ _ _ (ptC_val (pvC 3)) (@pss_cons _ _ _ _ _ (@ps_set _ _ 4 _ _ _ _ sc_l_function.nd rfl (Or.inr rfl) (callD T.l_part G_l_part (hr.mono (by decide)) (@pa_cons _ _ _ _ _ (pvC 0) (@pa_cons _ _ _ _ _ (pvC 1) (@pa_cons _ _ _ _ _ pe_int pa_nil (by rfl)) (by rfl)) (by rfl))) (by rfl) (by first | exact .inl rfl | exact .inr rfl | assumption)) (@pss_one _ _ _ (@ps_set _ _ 5 _ _ _ _ sc_l_function.nd rfl (Or.inl rfl) pe_int (by rfl) (by first | exact .inl rfl | exact .inr rfl | assumption)))) (@pss_one _ _ _ (@ps_if _ _ _ _ _ _ _ _ (@ptC_cmpR _ _ _ _ _ _ _ _ op_eq (callD T.l_part G_l_part (hr.mono (by decide)) (@pa_cons _ _ _ _ _ (pvC 0) (@pa_cons _ _ _ _ _ (@pe_op _ _ _ _ _ _ _ _ (opC0 op_add) (pvC 1) pe_int) (@pa_cons _ _ _ _ _ pe_int pa_nil (by rfl)) (by rfl)) (by rfl))) pe_int (nomark _)) (@pss_cons _ _ _ _ _ (@ps_set _ _ 4 _ _ _ _ sc_l_function.nd rfl (Or.inr rfl) (callD T.l_part G_l_part (hr.mono (by decide)) (@pa_cons _ _ _ _ _ (pvC 0) (@pa_cons _ _ _ _ _ (pvC 1) (@pa_cons _ _ _ _ _ pe_int pa_nil (by rfl)) (by rfl)) (by rfl))) (by rfl) (by first | exact .inl rfl | exact .inr rfl | assumption)) (@pss_cons _ _ _ _ _ (@ps_set _ _ 5 _ _ _ _ sc_l_function.nd rfl (Or.inl rfl) (callD T.l_part G_l_part (hr.mono (by decide)) (@pa_cons _ _ _ _ _ (pvC 0) (@pa_cons _ _ _ _ _ (@pe_op _ _ _ _ _ _ _ _ (opC0 op_add) (pvC 1) pe_int) (@pa_cons _ _ _ _ _ pe_int pa_nil (by rfl)) (by rfl)) (by rfl))) (by rfl) (by first | exact .inl rfl | exact .inr rfl | assumption)) (@pss_one _ _ _ (@ps_set _ _ 6 _ _ _ _ sc_l_function.nd rfl (Or.inl rfl) (callD T.l_part G_l_part (hr.mono (by decide)) (@pa_cons _ _ _ _ _ (pvC 0) (@pa_cons _ _ _ _ _ (@pe_op _ _ _ _ _ _ _ _ (opC0 op_add) (pvC 1) pe_int) (@pa_cons _ _ _ _ _ pe_int pa_nil (by rfl)) (by rfl)) (by rfl))) (by rfl) (by first | exact .inl rfl | exact .inr rfl | assumption))))) pss_nil))) (@pss_cons _ _ _ _ _ (ps_setc (i := 7) sc_l_function.nd rfl (Or.inl rfl) (N' := ["_law_j", "_law_base", "_law_cell_here", "_law_params"]) (js := [none, some 2, some 0, some 4]) (by kernel_rfl) rfl (pi_range1 rfl T.b_range (@pa_cons _ _ _ _ _ (pvC 5) pa_nil (by rfl))) own_name (λ _ _ _ _ => (pg_name (i := 0) (show (["_law_j", "_law_base", "_law_cell_here", "_law_params"] : List Str).Nodup by decide +kernel) rfl (Or.inl rfl) (.inr rfl))) (λ _ _ _ _ => pif_nil) (λ _ _ _ _ => (@pe_tup _ _ _ _ _ (@pa_cons _ _ _ _ _ pe_str (@pa_cons _ _ _ _ _ (callD T.l_name G_l_name (hr.mono (by decide)) (@pa_cons _ _ _ _ _ (pvC 1) (@pa_cons _ _ _ _ _ (@pe_op _ _ _ _ _ _ _ _ (opC0 op_add) (pvC 3) (pvC 0)) pa_nil (by rfl)) (by rfl))) (@pa_cons _ _ _ _ _ (@pe_op _ _ _ _ _ _ _ _ (opC1 op_mod) (pvC 2) (@pe_op _ _ _ _ _ _ _ _ (opC1 op_pow) pe_int pe_int)) pa_nil (by rfl)) (by rfl)) (by rfl)))) (by rfl)) (@pss_cons _ _ _ _ _ (@ps_set _ _ 7 _ _ _ _ sc_l_function.nd rfl (Or.inl rfl) (@pe_op _ _ _ _ _ _ _ _ op_cat (@pe_op _ _ _ _ _ _ _ _ op_cat (pvC 7) (@pe_op _ _ _ _ _ _ _ _ op_rep (@pe_lst _ _ _ _ (@pa_cons _ _ _ _ _ (@pe_tup _ _ _ _ _ (@pa_cons _ _ _ _ _ pe_str (@pa_cons _ _ _ _ _ pe_int pa_nil (by rfl)) (by rfl))) (@pa_cons _ _ _ _ _ (@pe_tup _ _ _ _ _ (@pa_cons _ _ _ _ _ pe_str pa_nil (by rfl))) (@pa_cons _ _ _ _ _ (@pe_tup _ _ _ _ _ (@pa_cons _ _ _ _ _ pe_str pa_nil (by rfl))) pa_nil (by rfl)) (by rfl)) (by rfl))) (pvC 6))) (@pe_lst _ _ _ _ (@pa_cons _ _ _ _ _ (@pe_tup _ _ _ _ _ (@pa_cons _ _ _ _ _ pe_str (@pa_cons _ _ _ _ _ pe_int pa_nil (by rfl)) (by rfl))) pa_nil (by rfl)))) (by rfl) (by first | exact .inl rfl | exact .inr rfl | assumption)) (@pss_cons _ _ _ _ _ (@ps_set _ _ 8 _ _ _ _ sc_l_function.nd rfl (Or.inl rfl) (pe_callTy call_tuple_of (by rfl) T.b_tuple bt_tuple (@pa_cons _ _ _ _ _ (pe_comp (N' := ["_law_j", "_law_base"]) (js := [none, some 2]) (by kernel_rfl) rfl (pi_range1 rfl T.b_range (@pa_cons _ _ _ _ _ (pvC 4) pa_nil (by rfl))) own_name (λ _ _ _ _ => (pg_name (i := 0) (show (["_law_j", "_law_base"] : List Str).Nodup by decide +kernel) rfl (Or.inl rfl) (.inr rfl))) (λ _ _ _ _ => pif_nil) (λ _ _ _ _ => (callD T.l_name G_l_name (hr.mono (by decide)) (@pa_cons _ _ _ _ _ (pvC 1) (@pa_cons _ _ _ _ _ (pvC 0) pa_nil (by rfl)) (by rfl))))) pa_nil (by rfl))) (by rfl) (by first | exact .inl rfl | exact .inr rfl | assumption)) (@pss_one _ _ _ (@ps_ret _ _ _ _ (@pe_lst _ _ _ _ (@pa_cons _ _ _ _ _ (@pe_tup _ _ _ _ _ (@pa_cons _ _ _ _ _ (callD T.l_name G_l_name (hr.mono (by decide)) (@pa_cons _ _ _ _ _ (pvC 2) (@pa_cons _ _ _ _ _ (@pe_op _ _ _ _ _ _ _ _ (opC0 op_add) (pvC 1) pe_int) pa_nil (by rfl)) (by rfl))) (@pa_cons _ _ _ _ _ (pe_cmpR op_eq (@pe_op _ _ _ _ _ _ _ _ (opC1 op_mod) (pvC 1) pe_int) pe_int (nomark _)) (@pa_cons _ _ _ _ _ (pvC 8) (@pa_cons _ _ _ _ _ (pe_callTy call_tuple_of (by rfl) T.b_tuple bt_tuple (@pa_cons _ _ _ _ _ (pvC 7) pa_nil (by rfl))) pa_nil (by rfl)) (by rfl)) (by rfl)) (by rfl))) (@pa_cons _ _ _ _ _ (@pe_op _ _ _ _ _ _ _ _ (opC0 op_add) (pvC 4) (pvC 5)) pa_nil (by rfl)) (by rfl)))))))))))), ?_⟩
   refine ⟨_, rfl, _, rfl, c, k, 4, rfl, k0, by decide, λ H1 s1 => ?_⟩
   refine ⟨_, rfl, _, rfl, _, _, rfl, rfl, c, k + 3, 4, rfl, by omega, by decide, λ H2 s2 => ?_⟩
   refine ⟨_, rfl, _, rfl, _, _, rfl, rfl, c, k + 5, 3, rfl, by omega, by decide, λ H3 s3 => ?_⟩
   have z0 := (s1.trans s2).trans s3
   have nat : ∀ (j m : Int), 0 < m -> ∃ n : Nat, part c j m = n /\ (n : Int) < m := λ j m hm => by
     have h := part_bd c j m hm
     obtain ⟨n, e⟩ := Int.eq_ofNat_of_zero_le h.1
     exact ⟨n, e, by omega⟩
   refine (let Jv3 : St -> Hp -> Prop := λ σ G => ∃ (p m n : Nat), σ = [some (.int c), some (.int k), some (.int b), some (.bl big), some (.int p), some (.int m), some (.int n), none, none] /\ Same H G /\ p <= 6 /\ m <= 18 /\ n <= 12; ⟨Jv3, ?_, ?_⟩)
   . obtain ⟨n3, e3, b3⟩ := nat (k + 5) 3 (by decide)
     refine ⟨_, rfl, _, rfl, ite2 (λ hb => ?_) (λ hb => ?_)⟩
     . obtain ⟨p, ep, bp⟩ := nat k 2 (by decide)
       refine ⟨_, rfl, _, rfl, c, k, 2, rfl, k0, by decide, λ H4 s4 => ⟨p, 0, n3, ?_, z0.trans s4, by omega, by omega, by omega⟩⟩
       rw [ep, e3]
       rfl
     . refine ⟨_, rfl, _, rfl, _, _, rfl, rfl, c, k + 1, 8, rfl, by omega, by decide, λ H4 s4 => ⟨rfl, _, rfl, ite2 (λ h8 => ?_) (λ h8 => ?_)⟩⟩
       . obtain ⟨p, ep, bp⟩ := nat k 7 (by decide)
         obtain ⟨m, em, bm⟩ := nat (k + 3) 19 (by decide)
         obtain ⟨n, en, bn⟩ := nat (k + 5) 13 (by decide)
         refine ⟨_, rfl, _, rfl, c, k, 7, rfl, k0, by decide, λ H5 s5 => ⟨_, rfl, _, rfl, _, _, rfl, rfl, c, k + 3, 19, rfl, by omega, by decide, λ H6 s6 => ⟨_, rfl, _, rfl, _, _, rfl, rfl, c, k + 5, 13, rfl, by omega, by decide, λ H7 s7 => ⟨p, m, n, ?_, (((z0.trans s4).trans s5).trans s6).trans s7, by omega, by omega, by omega⟩⟩⟩⟩
         rw [ep, em, en]
         rfl
       . obtain ⟨p, ep, bp⟩ := nat k 4 (by decide)
         obtain ⟨m, em, bm⟩ := nat (k + 3) 4 (by decide)
         refine ⟨p, m, n3, ?_, z0.trans s4, by omega, by omega, by omega⟩
         rw [ep, em, e3]
         rfl
   rintro σ G0 ⟨p, m, n, rfl, sG0, p6, m18, n12⟩
   refine ⟨_, rfl, _, rfl, by omega, by omega, λ u hu => (let Jv1 : Nat -> List V -> Hp -> Prop := λ i acc H2 => Same G0 H2 /\ H2 u = some (.lst acc) /\ ∃ rr : List K41.RR, acc = (rr.map λ x => V.ref x.w.r) /\ rr.map (λ x => x.w.k) = List.replicate i ("copy" : Str) /\ ∀ x ∈ rr, RowT K (ers u H2) x; comp_range (lo := 0) (n := m) (by omega) Jv1 ⟨Same.new hu, upd_same, [], rfl, rfl, λ x hx => by cases hx⟩ ?_ ?_ ?_)⟩
   . rintro i acc H2 hi ⟨s2', e2', rr, rfl, kk, _⟩
     refine ⟨e2', ?_⟩
     have := congrArg List.length kk
     rw [List.length_map, List.length_replicate] at this
     rw [List.length_map, this]
     exact Nat.le_refl _
   . rintro i acc H2 hi ⟨s2', e2', rr, rfl, kk, hrr⟩
     refine ⟨_, rfl, _, rfl, _, rfl, _, _, rfl, rfl, b, (p : Int) + (0 + (i : Int)), rfl, λ H4 s4 => ?_⟩
     refine ⟨_, rfl, _, _, rfl, rfl, ⟨by decide, by decide, by decide⟩, _, _, rfl, rfl, pos48, le3, λ cA hcA => ?_⟩
     have e4 := s4 _ _ e2'
     have nc : cA ≠ u := (ne_of_none e4 hcA).symm
     have yc := Same.new (o := .tup [V.str "copy", V.str (nmL b ((p : Int) + (0 + (i : Int)))), V.int (c % 2 ^ (48 : Int).toNat)]) hcA
     have nm1 := nmL_nm b ((p : Int) + (0 + (i : Int)))
     refine ⟨yc _ _ e4, ((s2'.trans s4).trans yc).upd hu, upd_same, rr ++ [Bg.rcopyV cA (nmL b ((p : Int) + (0 + (i : Int)))) (c % 2 ^ (48 : Int).toNat)], (by rw [List.map_append]; rfl), (by rw [List.map_append, kk, List.replicate_succ']; rfl), λ x hx => ?_⟩
     rw [ers_upd]
     rcases List.mem_append.mp hx with h | h
     . exact (hrr x h).mono (s4.trans yc).ers
     . cases List.mem_singleton.mp h
       have hT : SqT K (ers u (upd H4 cA (.tup [V.str "copy", V.str (nmL b ((p : Int) + (0 + (i : Int)))), V.int (c % 2 ^ (48 : Int).toNat)]))) cA [V.str "copy", V.str (nmL b ((p : Int) + (0 + (i : Int)))), V.int (c % 2 ^ (48 : Int).toNat)] := SqT.of (by rw [ers_ne nc]; exact upd_same)
       exact ⟨Bg.ok_copyV hT nm1, HasT.up (n := 1) (HasT.tup hT (.cons (.str (by decide +kernel)) (.cons (.str nm1.2) (.cons .int .nil)))) (by decide)⟩
   rintro acc G2 ⟨s2', e2', rr, rfl, kk, hrr⟩
   have lrr : rr.length = m := by
     have := congrArg List.length kk
     rwa [List.length_map, List.length_replicate] at this
   refine ⟨_, rfl, le2, λ t1 ht1 => ⟨le1, λ t2 ht2 => ⟨le1, λ t3 ht3 => ⟨le3, λ L1 hL1 => ⟨_, rfl, L1, _, _, rfl, rfl, upd_same, by omega, by omega, lt_line (by show 3 * ((n : Int)).toNat < 1000000; omega), λ L2 hL2 => ?_⟩⟩⟩⟩⟩
   rw [Int.toNat_natCast]
   have v1 := Same.new (o := .tup [V.str "if", V.int 0]) ht1
   have v2 := Same.new (o := .tup [V.str "else"]) ht2
   have v3 := Same.new (o := .tup [V.str "end"]) ht3
   have v4 := Same.new (o := .lst [V.ref t1, V.ref t2, V.ref t3]) hL1
   have v5 := Same.new (o := .lst (List.replicate n [V.ref t1, V.ref t2, V.ref t3]).flatten) hL2
   have o1 := v5 _ _ (v4 _ _ (v3 _ _ (v2 _ _ (upd_same (H := G2) (a := t1) (o := .tup [V.str "if", V.int 0])))))
   have o2 := v5 _ _ (v4 _ _ (v3 _ _ (upd_same (H := upd G2 t1 (.tup [V.str "if", V.int 0])) (a := t2) (o := .tup [V.str "else"]))))
   have o3 := v5 _ _ (v4 _ _ (upd_same (H := upd (upd G2 t1 (.tup [V.str "if", V.int 0])) t2 (.tup [V.str "else"])) (a := t3) (o := .tup [V.str "end"])))
   have o5 := upd_same (H := upd (upd (upd (upd G2 t1 (.tup [V.str "if", V.int 0])) t2 (.tup [V.str "else"])) t3 (.tup [V.str "end"])) L1 (.lst [V.ref t1, V.ref t2, V.ref t3])) (a := L2) (o := .lst (List.replicate n [V.ref t1, V.ref t2, V.ref t3]).flatten)
   have v15 := (((v1.trans v2).trans v3).trans v4).trans v5
   generalize upd (upd (upd (upd (upd G2 t1 (.tup [V.str "if", V.int 0])) t2 (.tup [V.str "else"])) t3 (.tup [V.str "end"])) L1 (.lst [V.ref t1, V.ref t2, V.ref t3])) L2 (.lst (List.replicate n [V.ref t1, V.ref t2, V.ref t3]).flatten) = G3 at o1 o2 o3 o5 v15 ⊢
   have l3 : (List.replicate n [V.ref t1, V.ref t2, V.ref t3]).flatten.length = n * 3 := len_rep _ _
   refine ⟨u, L2, _, _, rfl, rfl, v15 _ _ e2', o5, lt_line (by rw [List.length_map, l3, lrr]; omega), λ L3 hL3 => ⟨le2, λ t4 ht4 => ⟨le1, λ L4 hL4 => ?_⟩⟩⟩
   have w3 := Same.new (o := .lst ((rr.map λ x => V.ref x.w.r) ++ (List.replicate n [V.ref t1, V.ref t2, V.ref t3]).flatten)) hL3
   have w4 := Same.new (o := .tup [V.str "back", V.int 0]) ht4
   have w5 := Same.new (o := .lst [V.ref t4]) hL4
   refine ⟨L3, L4, _, _, rfl, rfl, w5 _ _ (w4 _ _ upd_same), upd_same, lt_line (by rw [List.length_append, List.length_map, l3, lrr]; show m + n * 3 + 1 < 1000000; omega), λ L5 hL5 => ?_⟩
   have w6 := Same.new (o := .lst ((rr.map λ x => V.ref x.w.r) ++ (List.replicate n [V.ref t1, V.ref t2, V.ref t3]).flatten ++ [V.ref t4])) hL5
   have o4 := w6 _ _ (w5 _ _ (upd_same (H := upd G3 L3 (.lst ((rr.map λ x => V.ref x.w.r) ++ (List.replicate n [V.ref t1, V.ref t2, V.ref t3]).flatten))) (a := t4) (o := .tup [V.str "back", V.int 0])))
   have o6 := upd_same (H := upd (upd (upd G3 L3 (.lst ((rr.map λ x => V.ref x.w.r) ++ (List.replicate n [V.ref t1, V.ref t2, V.ref t3]).flatten))) t4 (.tup [V.str "back", V.int 0])) L4 (.lst [V.ref t4])) (a := L5) (o := .lst ((rr.map λ x => V.ref x.w.r) ++ (List.replicate n [V.ref t1, V.ref t2, V.ref t3]).flatten ++ [V.ref t4]))
   have w36 := ((w3.trans w4).trans w5).trans w6
   generalize upd (upd (upd (upd G3 L3 (.lst ((rr.map λ x => V.ref x.w.r) ++ (List.replicate n [V.ref t1, V.ref t2, V.ref t3]).flatten))) t4 (.tup [V.str "back", V.int 0])) L4 (.lst [V.ref t4])) L5 (.lst ((rr.map λ x => V.ref x.w.r) ++ (List.replicate n [V.ref t1, V.ref t2, V.ref t3]).flatten ++ [V.ref t4])) = G4 at o4 o6 w36 ⊢
   have s24 := v15.trans w36
   obtain ⟨rF, eF, kF, lF, hF⟩ : ∃ rF : List K41.RR, (rr.map λ x => V.ref x.w.r) ++ (List.replicate n [V.ref t1, V.ref t2, V.ref t3]).flatten ++ [V.ref t4] = (rF.map λ x => V.ref x.w.r) /\ rF.map (λ x => x.w.k) = List.replicate m ("copy" : Str) ++ (List.replicate n [("if" : Str), "else", "end"]).flatten ++ [("back" : Str)] /\ rF.length <= 100 /\ ∀ x ∈ rF, RowT K G4 x := by
     refine ⟨rr ++ (List.replicate n [K41.rone "if" t1 (.int 0), K41.rnone "else" t2, K41.rnone "end" t3]).flatten ++ [K41.rone "back" t4 (.int 0)], ?_, ?_, ?_, ?_⟩
     . rw [List.map_append, List.map_append, List.map_flatten, List.map_replicate]
       rfl
     . rw [List.map_append, List.map_append, List.map_flatten, List.map_replicate, kk]
       rfl
     . rw [List.length_append, List.length_append, len_rep, lrr]
       show m + n * 3 + 1 <= 100
       omega
     . intro x hx
       have r1 : SqT K G4 t1 [V.str "if", V.int 0] := SqT.of (w36 _ _ o1)
       have r2 : SqT K G4 t2 [V.str "else"] := SqT.of (w36 _ _ o2)
       have r3 : SqT K G4 t3 [V.str "end"] := SqT.of (w36 _ _ o3)
       have r4 : SqT K G4 t4 [V.str "back", V.int 0] := SqT.of o4
       rcases List.mem_append.mp hx with hx | hx
       . rcases List.mem_append.mp hx with hx | hx
         . exact (hrr x hx).mono (ers_same.trans s24)
         . obtain ⟨l, hl, hxl⟩ := List.mem_flatten.mp hx
           rw [(List.mem_replicate.mp hl).2] at hxl
           rcases List.mem_cons.mp hxl with h | h
           . rw [h]; exact ⟨K41.ok_if r1 (K41.at_i 0), HasT.up (n := 1) (HasT.tup r1 (.cons (.str (by decide +kernel)) (.cons .int .nil))) (by decide)⟩
           . rcases List.mem_cons.mp h with h | h
             . rw [h]; exact ⟨K41.ok_else r2, HasT.up (n := 1) (HasT.tup r2 (.cons (.str (by decide +kernel)) .nil)) (by decide)⟩
             . rw [List.mem_singleton.mp h]; exact ⟨K41.ok_end r3, HasT.up (n := 1) (HasT.tup r3 (.cons (.str (by decide +kernel)) .nil)) (by decide)⟩
       . rw [List.mem_singleton.mp hx]; exact ⟨K41.ok_back r4 (K41.at_i 0), HasT.up (n := 1) (HasT.tup r4 (.cons (.str (by decide +kernel)) (.cons .int .nil))) (by decide)⟩
   rw [eF] at o6
   have s04 := (sG0.trans s2').trans s24
   refine ⟨_, rfl, _, rfl, by omega, by omega, λ nu hnu => (let Jv2 : Nat -> List V -> Hp -> Prop := λ i acc H2 => Same G4 H2 /\ H2 nu = some (.lst acc) /\ acc = ((List.range i).map λ j : Nat => nmL b j).map V.str; comp_range (lo := 0) (n := p) (by omega) Jv2 ⟨Same.new hnu, upd_same, rfl⟩ ?_ ?_ ?_)⟩
   . rintro i acc H2 hi ⟨sN, eN, rfl⟩
     exact ⟨eN, by rw [List.length_map, List.length_map, List.length_range]; exact Nat.le_refl _⟩
   . rintro i acc H2 hi ⟨sN, eN, rfl⟩
     refine ⟨_, rfl, _, rfl, b, 0 + (i : Int), rfl, λ H4 s4 => ⟨s4 _ _ eN, (sN.trans s4).upd hnu, upd_same, ?_⟩⟩
     rw [List.range_succ, List.map_append, List.map_append, Int.zero_add]
     rfl
   rintro acc G5 ⟨sN, eN, rfl⟩
   refine ⟨nu, _, rfl, .inl ⟨SqL.of eN, λ q1 hq1 => ?_⟩⟩
   have x1 := Same.new (o := .tup (((List.range p).map λ j : Nat => nmL b j).map V.str)) hq1
   refine ⟨_, rfl, _, rfl, _, _, rfl, rfl, b, k + 3, rfl, λ G6 s6 => ?_⟩
   refine ⟨_, rfl, _, _, rfl, rfl, (show (0 : Int) < 2 by decide), rfl, _, rfl, _, rfl, L5, _, rfl, .inl ⟨SqL.of (s6 _ _ (x1 _ _ (sN _ _ o6))), λ q2 hq2 => ⟨le4, λ fa hfa => ?_⟩⟩⟩
   refine ⟨_, rfl, _, rfl, _, _, rfl, rfl, le2, λ e he => ?_⟩
   have y2 := Same.new (o := .tup (rF.map λ x => V.ref x.w.r)) hq2
   have y3 := Same.new (o := .tup [V.str (nmL b (k + 3)), V.bl (decide (V.int (k % 2) = V.int 1)), V.ref q1, V.ref q2]) hfa
   have y4 := Same.new (o := .lst [V.ref fa, V.int ((p : Int) + (m : Int))]) he
   have s56 := x1.trans s6
   have s46 := sN.trans s56
   have p1 : SqT K _ q1 (((List.range p).map λ j : Nat => nmL b j).map V.str) := SqT.of (y4 _ _ (y3 _ _ (y2 _ _ (s6 _ _ (upd_same (H := G5) (a := q1) (o := .tup (((List.range p).map λ j : Nat => nmL b j).map V.str)))))))
   have p2 : SqT K _ q2 (rF.map λ x => V.ref x.w.r) := SqT.of (y4 _ _ (y3 _ _ upd_same))
   have p3 : SqT K _ fa [V.str (nmL b (k + 3)), V.bl (decide (V.int (k % 2) = V.int 1)), V.ref q1, V.ref q2] := SqT.of (y4 _ _ upd_same)
   have eE := upd_same (H := upd (upd G6 q2 (.tup (rF.map λ x => V.ref x.w.r))) fa (.tup [V.str (nmL b (k + 3)), V.bl (decide (V.int (k % 2) = V.int 1)), V.ref q1, V.ref q2])) (a := e) (o := .lst [V.ref fa, V.int ((p : Int) + (m : Int))])
   have s4e := s46.trans ((y2.trans y3).trans y4)
   have fr := (s04.trans (s46.trans (y2.trans y3))).free he
   have eE' : upd (upd (upd G6 q2 (.tup (rF.map λ x => V.ref x.w.r))) fa (.tup [V.str (nmL b (k + 3)), V.bl (decide (V.int (k % 2) = V.int 1)), V.ref q1, V.ref q2])) e (.lst [V.ref fa, V.int ((p : Int) + (m : Int))]) e = some (.lst [V.ref fa, V.int ((p + m : Nat) : Int)]) := eE
   have hps : ∀ s ∈ (List.range p).map λ j : Nat => nmL b j, K12.Nm s := λ s hs => by
     obtain ⟨j, _, rfl⟩ := List.mem_map.mp hs
     exact nmL_nm b j
   have hrows : ∀ x ∈ rF, RowT K (upd (upd (upd G6 q2 (.tup (rF.map λ x => V.ref x.w.r))) fa (.tup [V.str (nmL b (k + 3)), V.bl (decide (V.int (k % 2) = V.int 1)), V.ref q1, V.ref q2])) e (.lst [V.ref fa, V.int ((p : Int) + (m : Int))])) x := λ x hx => (hF x hx).mono s4e
   have nk := nmL_nm b (k + 3)
   have rne : rF ≠ [] := λ z => by
     have := congrArg List.length kF
     rw [z, List.length_append] at this
     simp at this
   refine q ⟨⟨nmL b (k + 3), V.bl (decide (V.int (k % 2) = V.int 1)), fa, q1, q2, (List.range p).map λ j : Nat => nmL b j, rF.map (·.w), rF.map (·.d)⟩, p + m, e⟩ _ (s04.trans s4e) fr ⟨SqL.of eE', ?_, ?_, ?_, by show p + m <= 24; omega, nk.2, rr_ds p2 λ x hx => (hrows x hx).1⟩ rfl eE'
   . refine Bg.fn_mk2 rF p3 p2 (λ x hx => (hrows x hx).1) p1 hps (by rw [List.length_map, List.length_range]; omega) lF ?_
     rw [kF]
     exact wf_pack m n
   . refine .cons .bl (.cons (HasT.up (n := 1) (HasT.tup (n := 0) p1 (HasTA.of λ v hv => ?_)) (by decide)) (.cons (HasT.tup (n := 3) p2 (HasTA.of λ v hv => ?_)) .nil))
     . obtain ⟨s, hs, rfl⟩ := List.mem_map.mp hv
       exact .str (hps s hs).2
     . obtain ⟨x, hx, rfl⟩ := List.mem_map.mp hv
       exact (hrows x hx).2
   . exact λ z => rne (List.map_eq_nil_iff.mp z)
theorem sc_l_program : FnScope ["_law_script", "_law_big", "_law_cell_here", "_law_many"] ["_law_script", "_law_big"] (defScope s_l_program) := ⟨rfl, rfl, rfl, by decide +kernel, rfl, by decide +kernel, by decide +kernel⟩
theorem ok_l_program (T : Txt K mg t) : FnOk P w K mg base CX0 4 t.a_l_program t.d_l_program ["_law_script", "_law_big"] (sp_l_program K) := by
 have G_l_cell : FnOk P w K mg base CX0 1 t.a_l_cell t.d_l_cell ["_law_script", "_law_k"] (sp_l_cell K) := ok_l_cell T
 have G_l_part : FnOk P w K mg base CX0 1 t.a_l_part t.d_l_part ["_law_cell_here", "_law_j", "_law_many"] (sp_l_part K) := ok_l_part T
 have G_l_function : FnOk P w K mg base CX0 3 t.a_l_function t.d_l_function ["_law_cell_here", "_law_k", "_law_base", "_law_big"] (sp_l_function K) := ok_l_function T
 refine T.l_program.F.ok sc_l_program (λ vs H Q E h => ?_) (λ cdv A outer s H vs Q E hr h => ?_)
 . obtain ⟨a, ns, big, rfl, hS, hl, q⟩ := h
   rfl
 . obtain ⟨a, ns, big, rfl, hS, hl, q⟩ := h
   refine ⟨_, (@pss_cons _ _ _ _ _ (@ps_set _ _ 2 _ _ _ _ sc_l_program.nd rfl (Or.inr rfl) (callD T.l_cell G_l_cell (hr.mono (by decide)) (@pa_cons _ _ _ _ _ (pvC 0) (@pa_cons _ _ _ _ _ pe_int pa_nil (by rfl)) (by rfl))) (by rfl) (by first | exact .inl rfl | exact .inr rfl | assumption)) (@pss_cons _ _ _ _ _ (@ps_set _ _ 3 _ _ _ _ sc_l_program.nd rfl (Or.inl rfl) (@pe_op _ _ _ _ _ _ _ _ (opC0 op_add) pe_int (@pe_op _ _ _ _ _ _ _ _ (opC1 op_mod) (pvC 2) pe_int)) (by rfl) (by first | exact .inl rfl | exact .inr rfl | assumption)) (@pss_cutN _ _ _ _ _ (@ps_if _ _ _ _ _ _ _ _ (@ptC_cmpR _ _ _ _ _ _ _ _ op_eq (callD T.l_part G_l_part (hr.mono (by decide)) (@pa_cons _ _ _ _ _ (pvC 2) (@pa_cons _ _ _ _ _ pe_int (@pa_cons _ _ _ _ _ pe_int pa_nil (by rfl)) (by rfl)) (by rfl))) pe_int (nomark _)) (@pss_one _ _ _ (@ps_set _ _ 3 _ _ _ _ sc_l_program.nd rfl (Or.inl rfl) pe_int (by rfl) (by first | exact .inl rfl | exact .inr rfl | assumption))) pss_nil) (@pss_cutN _ _ _ _ _ (@ps_if _ _ _ _ _ _ _ _ (ptC_val (pvC 1)) (@pss_one _ _ _ (@ps_set _ _ 3 _ _ _ _ sc_l_program.nd rfl (Or.inl rfl) pe_int (by rfl) (by first | exact .inl rfl | exact .inr rfl | assumption))) pss_nil) (@pss_one _ _ _ (@ps_ret _ _ _ _ (pe_comp (N' := ["_law_k", "_law_cell_here", "_law_big", "_law_script"]) (js := [none, some 2, some 1, some 0]) (by kernel_rfl) rfl (pi_range1 rfl T.b_range (@pa_cons _ _ _ _ _ (pvC 3) pa_nil (by rfl))) own_name (λ _ _ _ _ => (pg_name (i := 0) (show (["_law_k", "_law_cell_here", "_law_big", "_law_script"] : List Str).Nodup by decide +kernel) rfl (Or.inl rfl) (.inr rfl))) (λ _ _ _ _ => pif_nil) (λ _ _ _ _ => (callD T.l_function G_l_function (hr.mono (by decide)) (@pa_cons _ _ _ _ _ (pvC 1) (@pa_cons _ _ _ _ _ (pvC 0) (@pa_cons _ _ _ _ _ (callD T.l_cell G_l_cell (hr.mono (by decide)) (@pa_cons _ _ _ _ _ (pvC 3) (@pa_cons _ _ _ _ _ pe_int pa_nil (by rfl)) (by rfl))) (@pa_cons _ _ _ _ _ (pvC 2) pa_nil (by rfl)) (by rfl)) (by rfl)) (by rfl))))))))))), ?_⟩
   refine ⟨_, rfl, a, ns, 1, rfl, hS, hl, by decide, by decide, ?_⟩
   generalize cellF ns 1 = z
   have b3 := emod_bd z 3 (by decide)
   refine ⟨_, rfl, _, _, rfl, rfl, (show (0 : Int) < 3 by decide), _, _, rfl, rfl, ?_⟩
   refine (let Jv2 : St -> Hp -> Prop := λ σ G => ∃ n : Nat, σ = [some (.ref a), some (.bl big), some (.int z), some (.int n)] /\ Same H G /\ 1 <= n /\ n <= 12; ⟨Jv2, ?_, ?_⟩)
   . refine ⟨_, rfl, z, 7, 8, rfl, by decide, by decide, λ H1 s1 => ⟨rfl, _, rfl, ite2 (λ _ => ⟨12, rfl, s1, by decide, by decide⟩) (λ _ => ?_)⟩⟩
     obtain ⟨n, en⟩ := Int.eq_ofNat_of_zero_le (a := 1 + z % 3) (by omega)
     refine ⟨n, ?_, s1, by omega, by omega⟩
     rw [<- en]
     rfl
   rintro σ G ⟨n, rfl, sG, n1, n12⟩
   refine (let Jv3 : St -> Hp -> Prop := λ σ G => ∃ n : Nat, σ = [some (.ref a), some (.bl big), some (.int z), some (.int n)] /\ Same H G /\ 1 <= n /\ n <= 12; ⟨Jv3, ?_, ?_⟩)
   . exact ⟨_, rfl, _, rfl, ite2 (λ _ => ⟨1, rfl, sG, by decide, by decide⟩) (λ _ => ⟨n, rfl, sG, n1, n12⟩)⟩
   rintro σ G1 ⟨n, rfl, sG1, n1, n12⟩
   refine ⟨_, rfl, _, rfl, by omega, by omega, λ u hu => (let Jv1 : Nat -> List V -> Hp -> Prop := λ i acc H2 => Same G1 H2 /\ H2 u = some (.lst acc) /\ ∃ bs : List Bd, acc = (bs.map λ x => V.ref x.e) /\ (∀ x ∈ bs, EntAt K (ers u H2) x) /\ bs.map (λ x => x.f.name) = (List.range i).map λ j : Nat => nmL (cellF ns 2) ((j : Int) + 3); comp_range (lo := 0) (n := n) (by omega) Jv1 ⟨Same.new hu, upd_same, [], rfl, (λ x hx => by cases hx), rfl⟩ ?_ ?_ ?_)⟩
   . rintro i acc H2 hi ⟨s2, e2, bs, rfl, _, hb⟩
     have := congrArg List.length hb
     rw [List.length_map, List.length_map, List.length_range] at this
     exact ⟨e2, by rw [List.length_map, this]; exact Nat.le_refl _⟩
   . rintro i acc H2 hi ⟨s2, e2, bs, rfl, hall, hb⟩
     refine ⟨_, rfl, _, rfl, _, rfl, a, ns, 2, rfl, (sG1.trans s2).seq hS, hl, by decide, by decide, _, rfl, z, 0 + (i : Int), cellF ns 2, big, rfl, by omega, by omega, λ x H3 s3 f3 h3 n3 e3 => ?_⟩
     have ne : x.e ≠ u := (ne_of_none e2 f3).symm
     refine ⟨s3 _ _ e2, (s2.trans s3).upd hu, upd_same, bs ++ [x], (by rw [List.map_append]; rfl), λ y hy => ?_, ?_⟩
     . rw [ers_upd]
       rcases List.mem_append.mp hy with h | h
       . exact (hall y h).mono s3.ers
       . rw [List.mem_singleton.mp h]
         exact ent_ers h3 (s3 _ _ e2) e3 ne
     . rw [List.map_append, hb, List.range_succ, List.map_append]
       show _ ++ [x.f.name] = _ ++ [nmL (cellF ns 2) ((i : Int) + 3)]
       rw [n3, Int.zero_add]
   . rintro acc H2 ⟨s2, e2, bs, rfl, hall, hb⟩
     have hlen : bs.length = n := by
       have := congrArg List.length hb
       rwa [List.length_map, List.length_map, List.length_range] at this
     refine q u bs H2 (sG1.trans s2) ⟨SqL.of e2, λ x hx => (hall x hx).mono ers_same, λ h => by rw [h] at hlen; simp at hlen; omega, by omega, ?_⟩
     rw [hb]
     exact names_nd n12
theorem sc_l_tree : FnScope ["_law_cell_here", "_law_many", "_law_left", "_law_sign", "_law_one"] ["_law_cell_here", "_law_many"] (defScope s_l_tree) := ⟨rfl, rfl, rfl, by decide +kernel, rfl, by decide +kernel, by decide +kernel⟩
theorem ok_l_tree (T : Txt K mg t) : ∀ n, FnOk P w K mg base CX0 (n + 2) t.a_l_tree t.d_l_tree ["_law_cell_here", "_law_many"] (sp_l_tree K n)
| 0 => T.l_tree.F.ok sc_l_tree (λ vs H Q E h => by obtain ⟨c, m, rfl, hd, m0, q⟩ := h; exact absurd hd (Nat.not_lt_zero _)) (λ cdv A outer s H vs Q E hr h => by obtain ⟨c, m, rfl, hd, m0, q⟩ := h; exact absurd hd (Nat.not_lt_zero _))
| n + 1 => by
 have G_l_tree : FnOk P w K mg base CX0 (n + 2) t.a_l_tree t.d_l_tree ["_law_cell_here", "_law_many"] (sp_l_tree K n) := ok_l_tree T n
 have G_l_part : FnOk P w K mg base CX0 1 t.a_l_part t.d_l_part ["_law_cell_here", "_law_j", "_law_many"] (sp_l_part K) := ok_l_part T
 refine T.l_tree.F.ok sc_l_tree (λ vs H Q E h => ?_) (λ cdv A outer s H vs Q E hr h => ?_)
 . obtain ⟨c, m, rfl, hd, m0, q⟩ := h
   rfl
 . obtain ⟨c, m, rfl, hd, m0, q⟩ := h
   refine ⟨_, (@pss_cons _ _ _ _ _ (@ps_if _ _ _ _ _ _ _ _ (@PW.pt _ _ _ (@pw_and _ _ _ _ _ _ _ (@ptC_cmpR _ _ _ _ _ _ _ _ op_eq (pvC 1) pe_int (nomark _)) (@pw_and1 _ _ _ _ (@ptC_cmpR _ _ _ _ _ _ _ _ (opC0 op_gt) (@pe_op _ _ _ _ _ _ _ _ (opC1 op_mod) (pvC 0) pe_int) pe_int (nomark _))))) (@pss_one _ _ _ (@ps_ret _ _ _ _ (@pe_tup _ _ _ _ _ (@pa_cons _ _ _ _ _ pe_str (@pa_cons _ _ _ _ _ (callD T.l_part G_l_part (hr.mono (by omega)) (@pa_cons _ _ _ _ _ (pvC 0) (@pa_cons _ _ _ _ _ pe_int (@pa_cons _ _ _ _ _ pe_int pa_nil (by rfl)) (by rfl)) (by rfl))) pa_nil (by rfl)) (by rfl))))) pss_nil) (@pss_cons _ _ _ _ _ (@ps_if _ _ _ _ _ _ _ _ (@ptC_cmpR _ _ _ _ _ _ _ _ op_eq (pvC 1) pe_int (nomark _)) (@pss_one _ _ _ (@ps_ret _ _ _ _ (@pe_tup _ _ _ _ _ (@pa_cons _ _ _ _ _ pe_str (@pa_cons _ _ _ _ _ (@pe_op _ _ _ _ _ _ _ _ (opC1 op_mod) (@pe_op _ _ _ _ _ _ _ _ (opC1 op_mul) (pvC 0) pe_int) (@pe_op _ _ _ _ _ _ _ _ (opC1 op_pow) pe_int pe_int)) pa_nil (by rfl)) (by rfl))))) pss_nil) (@pss_cons _ _ _ _ _ (@ps_set _ _ 2 _ _ _ _ sc_l_tree.nd rfl (Or.inl rfl) (@pe_op _ _ _ _ _ _ _ _ (opC0 op_add) pe_int (@pe_op _ _ _ _ _ _ _ _ (opC1 op_mod) (pvC 0) (@pe_op _ _ _ _ _ _ _ _ (opC0 op_sub) (pvC 1) pe_int))) (by rfl) (by first | exact .inl rfl | exact .inr rfl | assumption)) (@pss_cons _ _ _ _ _ (@ps_set _ _ 3 _ _ _ _ sc_l_tree.nd rfl (Or.inl rfl) (@pe_ix _ _ _ _ _ _ _ ix_str pe_str (callD T.l_part G_l_part (hr.mono (by omega)) (@pa_cons _ _ _ _ _ (pvC 0) (@pa_cons _ _ _ _ _ pe_int (@pa_cons _ _ _ _ _ pe_int pa_nil (by rfl)) (by rfl)) (by rfl))) (λ _ _ => rfl)) (by rfl) (by first | exact .inl rfl | exact .inr rfl | assumption)) (@pss_cons _ _ _ _ _ (@ps_set _ _ 4 _ _ _ _ sc_l_tree.nd rfl (Or.inl rfl) (callD T.l_tree G_l_tree (hr.mono (by omega)) (@pa_cons _ _ _ _ _ (@pe_op _ _ _ _ _ _ _ _ (opC1 op_mod) (@pe_op _ _ _ _ _ _ _ _ (opC0 op_add) (@pe_op _ _ _ _ _ _ _ _ (opC1 op_mul) (pvC 0) pe_int) pe_int) pe_int) (@pa_cons _ _ _ _ _ (pvC 2) pa_nil (by rfl)) (by rfl))) (by rfl) (by first | exact .inl rfl | exact .inr rfl | assumption)) (@pss_one _ _ _ (@ps_ret _ _ _ _ (@pe_tup _ _ _ _ _ (@pa_cons _ _ _ _ _ (pvC 3) (@pa_cons _ _ _ _ _ (pvC 4) (@pa_cons _ _ _ _ _ (callD T.l_tree G_l_tree (hr.mono (by omega)) (@pa_cons _ _ _ _ _ (@pe_op _ _ _ _ _ _ _ _ (opC1 op_mod) (@pe_op _ _ _ _ _ _ _ _ (opC0 op_add) (@pe_op _ _ _ _ _ _ _ _ (opC1 op_mul) (pvC 0) pe_int) pe_int) pe_int) (@pa_cons _ _ _ _ _ (@pe_op _ _ _ _ _ _ _ _ (opC0 op_sub) (pvC 1) (pvC 2)) pa_nil (by rfl)) (by rfl))) pa_nil (by rfl)) (by rfl)) (by rfl)))))))))), ?_⟩
   refine ⟨_, rfl, rfl, _, rfl, ?_⟩
   by_cases hm : m = 1
   . subst hm
     refine iteP (decide_eq_true rfl) ⟨_, rfl, _, _, rfl, rfl, (show (0 : Int) < 3 by decide), _, _, rfl, rfl, _, rfl, ite2 (λ h3 => ?_) (λ h3 => ?_)⟩
     . have b := part_bd c 2 128 (by decide)
       obtain ⟨k, ek⟩ := Int.eq_ofNat_of_zero_le b.1
       exact ⟨_, rfl, c, 2, 128, rfl, by decide, by decide, λ H1 s1 => ⟨le2, λ p hp => q (.box k) _ _ (s1.trans (Same.new hp)) (dt2_mk (SqT.of upd_same) (datV_str _) (by rw [ek]; exact datV_int _)) (by show k < 8 ^ 16; rw [num16]; omega) rfl⟩⟩
     . have b := emod_bd (c * 94906267) 281474976710656 (by decide)
       obtain ⟨k, ek⟩ := Int.eq_ofNat_of_zero_le b.1
       refine ⟨_, rfl, rfl, _, rfl, iteP (decide_eq_true rfl) ⟨_, rfl, _, _, rfl, rfl, .inr ⟨by decide, by decide⟩, _, _, rfl, rfl, ⟨by decide, by decide, by decide⟩, _, _, rfl, rfl, pos48, le2, λ p hp => q (.num k) _ _ (Same.new hp) (dt2_mk (SqT.of upd_same) (datV_str _) ?_) (by show k < 8 ^ 16; rw [num16]; omega) rfl⟩⟩
       show DatV K _ (.int k) (V.int (c * 94906267 % 2 ^ (48 : Int).toNat))
       rw [pw48, ek]
       exact datV_int _
   have h1 : ¬ decide (V.int (m : Int) = V.int 1) = true := λ h => hm (by have := V.int.inj (dec_true h); omega)
   refine iteN h1 (iteF ⟨_, rfl, rfl, _, rfl, iteN h1 ?_⟩)
   have lb := emod_bd c ((m : Int) - 1) (by omega)
   obtain ⟨L, eL⟩ := Int.eq_ofNat_of_zero_le (a := 1 + c % ((m : Int) - 1)) (by omega)
   have L1 : 1 <= L := by omega
   have L2 : L < m := by omega
   refine ⟨_, rfl, _, rfl, _, _, rfl, rfl, _, _, rfl, rfl, (by show (0 : Int) < (m : Int) - 1; omega), _, _, rfl, rfl, ?_⟩
   have ib := part_bd c 3 9 (by decide)
   obtain ⟨i, ei⟩ := Int.eq_ofNat_of_zero_le ib.1
   have i9 : i < 9 := by omega
   refine ⟨_, rfl, c, 3, 9, rfl, by decide, by decide, λ H1 s1 => ⟨_, _, codes.getD i 0, rfl, rfl, sg_fit, (by rw [ei]; exact sg_pick i i9), ?_⟩⟩
   refine ⟨_, rfl, _, _, rfl, rfl, .inr ⟨by decide, by decide⟩, _, _, rfl, rfl, _, _, rfl, rfl, (show (0 : Int) < 2147483647 by decide), _, rfl, _, L, (by show [V.int _, V.int (1 + c % ((m : Int) - 1))] = _; rw [eL]), by omega, by omega, λ t1 v1 H2 s2 b1 o1 l1 => ?_⟩
   refine ⟨_, rfl, _, rfl, _, rfl, _, _, rfl, rfl, .inr ⟨by decide, by decide⟩, _, _, rfl, rfl, _, _, rfl, rfl, (show (0 : Int) < 2147483647 by decide), _, rfl, _, rfl, _, _, rfl, rfl, _, m - L, (by show [V.int _, V.int ((m : Int) - (1 + c % ((m : Int) - 1)))] = _; rw [eL]; show [_, V.int ((m : Int) - (L : Int))] = _; rw [show (m : Int) - (L : Int) = ((m - L : Nat) : Int) by omega]), by omega, by omega, λ t2 v2 H3 s3 b2 o2 l2 => ?_⟩
   exact ⟨le3, λ p hp => q (.op i t1 t2) _ _ (((s1.trans s2).trans s3).trans (Same.new hp)) (datV_tuple (SqT.of upd_same) (datAll_cons (datV_str _) (datAll_cons (DatV.mono (s3.trans (Same.new hp)) _ _ b1) (datAll_cons (DatV.mono (Same.new hp) _ _ b2) datAll_nil)))) ⟨i9, o1, o2⟩ (by show lv t1 + lv t2 = m; omega)⟩
theorem sc_l_place : FnScope ["_law_cell_here", "_law_way"] ["_law_cell_here"] (defScope s_l_place) := ⟨rfl, rfl, rfl, by decide +kernel, rfl, by decide +kernel, by decide +kernel⟩
theorem ok_l_place (T : Txt K mg t) : FnOk P w K mg base CX0 13 t.a_l_place t.d_l_place ["_law_cell_here"] (sp_l_place K) := by
 have G_l_part : FnOk P w K mg base CX0 1 t.a_l_part t.d_l_part ["_law_cell_here", "_law_j", "_law_many"] (sp_l_part K) := ok_l_part T
 have G_l_tree : FnOk P w K mg base CX0 12 t.a_l_tree t.d_l_tree ["_law_cell_here", "_law_many"] (sp_l_tree K 10) := ok_l_tree T 10
 refine T.l_place.F.ok sc_l_place (λ vs H Q E h => ?_) (λ cdv A outer s H vs Q E hr h => ?_)
 . obtain ⟨c, rfl, q⟩ := h
   rfl
 . obtain ⟨c, rfl, q⟩ := h
   refine ⟨_, (@pss_cons _ _ _ _ _ (@ps_set _ _ 1 _ _ _ _ sc_l_place.nd rfl (Or.inl rfl) (callD T.l_part G_l_part (hr.mono (by decide)) (@pa_cons _ _ _ _ _ (pvC 0) (@pa_cons _ _ _ _ _ pe_int (@pa_cons _ _ _ _ _ pe_int pa_nil (by rfl)) (by rfl)) (by rfl))) (by rfl) (by first | exact .inl rfl | exact .inr rfl | assumption)) (@pss_cons _ _ _ _ _ (@ps_if _ _ _ _ _ _ _ _ (@ptC_cmpR _ _ _ _ _ _ _ _ (opC0 op_lt) (pvC 1) pe_int (nomark _)) (@pss_one _ _ _ (@ps_ret _ _ _ _ pe_non)) pss_nil) (@pss_one _ _ _ (@ps_ret _ _ _ _ (callD T.l_tree G_l_tree (hr.mono (by decide)) (@pa_cons _ _ _ _ _ (pvC 0) (@pa_cons _ _ _ _ _ (@pe_ix _ _ _ _ _ _ _ (show IxR _ (cIxL K) from ixC_list) (@pe_lst _ _ _ _ (@pa_cons _ _ _ _ _ pe_int (@pa_cons _ _ _ _ _ pe_int (@pa_cons _ _ _ _ _ pe_int (@pa_cons _ _ _ _ _ pe_int (@pa_cons _ _ _ _ _ pe_int (@pa_cons _ _ _ _ _ (@pe_op _ _ _ _ _ _ _ _ (opC0 op_add) pe_int (callD T.l_part G_l_part (hr.mono (by decide)) (@pa_cons _ _ _ _ _ (pvC 0) (@pa_cons _ _ _ _ _ pe_int (@pa_cons _ _ _ _ _ pe_int pa_nil (by rfl)) (by rfl)) (by rfl)))) pa_nil (by rfl)) (by rfl)) (by rfl)) (by rfl)) (by rfl)) (by rfl))) (@pe_op _ _ _ _ _ _ _ _ (opC0 op_sub) (pvC 1) pe_int) (λ _ _ => rfl)) pa_nil (by rfl)) (by rfl))))))), ?_⟩
   have b8 := part_bd c 0 8 (by decide)
   refine ⟨_, rfl, c, 0, 8, rfl, by decide, by decide, λ H1 s1 => ⟨_, rfl, _, _, rfl, rfl, _, rfl, ?_⟩⟩
   by_cases h0 : part c 0 8 < 2
   . exact iteP (decide_eq_true h0) (q none _ _ s1 datV_non True.intro)
   refine iteN (by rw [decide_eq_true_eq]; exact h0) ?_
   have b1 := part_bd c 1 8 (by decide)
   obtain ⟨y, hy, y1, y8⟩ : ∃ y : Nat, atI ([1, 1, 1, 1, 2, 1 + part c 1 8].map V.int) (part c 0 8 - 2) = some (V.int y) /\ 1 <= y /\ y <= 8 := by
     obtain ⟨w, ew⟩ := Int.eq_ofNat_of_zero_le (a := 1 + part c 1 8) (by omega)
     have : part c 0 8 - 2 = 0 \/ part c 0 8 - 2 = 1 \/ part c 0 8 - 2 = 2 \/ part c 0 8 - 2 = 3 \/ part c 0 8 - 2 = 4 \/ part c 0 8 - 2 = 5 := by omega
     rcases this with h | h | h | h | h | h
     . exact ⟨1, by rw [h]; rfl, by decide, by decide⟩
     . exact ⟨1, by rw [h]; rfl, by decide, by decide⟩
     . exact ⟨1, by rw [h]; rfl, by decide, by decide⟩
     . exact ⟨1, by rw [h]; rfl, by decide, by decide⟩
     . exact ⟨2, by rw [h]; rfl, by decide, by decide⟩
     . exact ⟨w, by rw [h, ew]; rfl, by omega, by omega⟩
   refine ⟨_, rfl, _, rfl, c, 1, 8, rfl, by decide, by decide, λ H2 s2 => ⟨_, _, rfl, rfl, (by show 6 <= sizeLine; exact le6), λ l hl => ?_⟩⟩
   refine ⟨_, rfl, _, _, rfl, rfl, l, _, _, _, rfl, rfl, SqL.of upd_same, hy, c, y, rfl, by omega, by omega, λ tr v H3 s3 b3 o3 l3 => q (some tr) v H3 ((s1.trans s2).trans ((Same.new hl).trans s3)) b3 ⟨o3, by omega⟩⟩
theorem sc_l_chain : FnScope ["_law_cell_here", "_law_built", "_law_last", "_law_chain_here", "_law_level", "_law_k"] ["_law_cell_here", "_law_built", "_law_last"] (defScope s_l_chain) := ⟨rfl, rfl, rfl, by decide +kernel, rfl, by decide +kernel, by decide +kernel⟩
theorem ok_l_chain (T : Txt K mg t) : FnOk P w K mg base CX0 2 t.a_l_chain t.d_l_chain ["_law_cell_here", "_law_built", "_law_last"] (sp_l_chain K) := by
 have G_l_part : FnOk P w K mg base CX0 1 t.a_l_part t.d_l_part ["_law_cell_here", "_law_j", "_law_many"] (sp_l_part K) := ok_l_part T
 refine T.l_chain.F.ok sc_l_chain (λ vs H Q E h => ?_) (λ cdv A outer s H vs Q E hr h => ?_)
 . obtain ⟨c, b, bs, v, la, rfl, hB, hla, lok, l3, q⟩ := h
   rfl
 . obtain ⟨c, b, bs, v, la, rfl, hB, hla, lok, l3, q⟩ := h
   refine ⟨_, (@pss_cons _ _ _ _ _ (@ps_set _ _ 3 _ _ _ _ sc_l_chain.nd rfl (Or.inl rfl) (@pe_lst _ _ _ _ pa_nil) (by rfl) (by first | exact .inl rfl | exact .inr rfl | assumption)) (@pss_cons _ _ _ _ _ (ps_for PassesOwn.never rfl (pi_range1 rfl T.b_range (@pa_cons _ _ _ _ _ (@pe_op _ _ _ _ _ _ _ _ (opC0 op_add) pe_int (callD T.l_part G_l_part (hr.mono (by decide)) (@pa_cons _ _ _ _ _ (pvC 0) (@pa_cons _ _ _ _ _ pe_int (@pa_cons _ _ _ _ _ pe_int pa_nil (by rfl)) (by rfl)) (by rfl)))) pa_nil (by rfl))) (pg_name (i := 4) sc_l_chain.nd rfl (Or.inl rfl)) (@pss_cons _ _ _ _ _ (@ps_set _ _ 5 _ _ _ _ sc_l_chain.nd rfl (Or.inl rfl) (callD T.l_part G_l_part (hr.mono (by decide)) (@pa_cons _ _ _ _ _ (pvC 0) (@pa_cons _ _ _ _ _ (@pe_op _ _ _ _ _ _ _ _ (opC0 op_add) pe_int (pvC 4)) (@pa_cons _ _ _ _ _ (pe_callB (show CallR _ (.builtin "len") (cLen K) from callC_len) (by rfl) T.b_len bt_len (@pa_cons _ _ _ _ _ (pvC 1) pa_nil (by rfl))) pa_nil (by rfl)) (by rfl)) (by rfl))) (by rfl) (by first | exact .inl rfl | exact .inr rfl | assumption)) (@pss_cons _ _ _ _ _ (@ps_if _ _ _ _ _ _ _ _ (@PW.pt _ _ _ (@pw_and _ _ _ _ _ _ _ (@ptC_cmpR _ _ _ _ _ _ _ _ (opC0 op_lt) (pvC 4) (pe_callB (show CallR _ (.builtin "len") (cLen K) from callC_len) (by rfl) T.b_len bt_len (@pa_cons _ _ _ _ _ (pvC 2) pa_nil (by rfl))) (nomark _)) (@pw_and1 _ _ _ _ (@ptC_cmpR _ _ _ _ _ _ _ _ (opC0 op_gt) (callD T.l_part G_l_part (hr.mono (by decide)) (@pa_cons _ _ _ _ _ (pvC 0) (@pa_cons _ _ _ _ _ pe_int (@pa_cons _ _ _ _ _ pe_int pa_nil (by rfl)) (by rfl)) (by rfl))) pe_int (nomark _))))) (@pss_one _ _ _ (@ps_set _ _ 5 _ _ _ _ sc_l_chain.nd rfl (Or.inl rfl) (@pe_ix _ _ _ _ _ _ _ (show IxR _ (cIxT K) from ixC_tup) (@pe_ix _ _ _ _ _ _ _ (show IxR _ (cIxL K) from ixC_list) (pvC 2) (pvC 4) (λ _ _ => rfl)) pe_int (λ _ _ => rfl)) (by rfl) (by first | exact .inl rfl | exact .inr rfl | assumption))) pss_nil) (@pss_one _ _ _ (@ps_expr _ _ _ _ (pe_bm PySem.F.plainAttrs_list PySem.F.slot_list_append PySem.F.type_list_append mtC_append (pvC 3) (@pa_cons _ _ _ _ _ (@pe_tup _ _ _ _ _ (@pa_cons _ _ _ _ _ (pvC 5) (@pa_cons _ _ _ _ _ (callD T.l_part G_l_part (hr.mono (by decide)) (@pa_cons _ _ _ _ _ (pvC 0) (@pa_cons _ _ _ _ _ (@pe_op _ _ _ _ _ _ _ _ (opC0 op_add) pe_int (pvC 4)) (@pa_cons _ _ _ _ _ (pe_callB (show CallR _ (.builtin "len") (cLen K) from callC_len) (by rfl) T.b_len bt_len (@pa_cons _ _ _ _ _ (@pe_ix _ _ _ _ _ _ _ (show IxR _ (cIxT K) from ixC_tup) (@pe_ix _ _ _ _ _ _ _ (show IxR _ (cIxL K) from ixC_list) (@pe_ix _ _ _ _ _ _ _ (show IxR _ (cIxL K) from ixC_list) (pvC 1) (pvC 5) (λ _ _ => rfl)) pe_int (λ _ _ => rfl)) pe_int (λ _ _ => rfl)) pa_nil (by rfl))) pa_nil (by rfl)) (by rfl)) (by rfl))) pa_nil (by rfl)) (by rfl))) pa_nil (by rfl))) (by rfl)))))) (@pss_one _ _ _ (@ps_ret _ _ _ _ (pvC 3))))), ?_⟩
   obtain ⟨lA, ls, rfl, hls, dls⟩ := dl_un hla
   have lls : ls.length = la.length := by rw [da_len dls, List.length_map]
   have b3 := part_bd c 0 3 (by decide)
   have n12 := hB.n12
   have n0 : 0 < bs.length := List.length_pos_iff.mpr hB.n0
   have lb : ((bs.map λ x => V.ref x.e).length : Int) = (bs.length : Int) := by rw [List.length_map]
   refine ⟨le0, λ l hl => ?_⟩
   refine ⟨_, rfl, c, 0, 3, rfl, by decide, by decide, λ H1 s1 => ⟨_, _, rfl, rfl, _, rfl, by omega, by omega, ?_⟩⟩
   have e1 := s1 _ _ (upd_same (H := H) (a := l) (o := .lst []))
   have s01 := (Same.new (o := .lst []) hl).trans s1
   refine (let Jv1 : Nat -> St -> Hp -> Prop := λ i σ H2 => ∃ v4 v5 : Option V, σ = [some (.int c), some (.ref b), some (.ref lA), some (.ref l), v4, v5] /\ Same H H2 /\ ∃ (xs : List V) (ch : List (Nat × Nat)), H2 l = some (.lst xs) /\ DatAll K (ers l H2) (ch.map frD) xs /\ ch.length = i /\ ∀ d ∈ ch, d.1 < bs.length /\ d.2 < 100; for_range (lo := 0) (n := (1 + part c 0 3).toNat) Jv1 ⟨_, _, rfl, s01, [], [], e1, datAll_nil, rfl, λ d hd => by cases hd⟩ ?_ ?_)
   . rintro i σ H2 hi ⟨v4, v5, rfl, s2, xs, ch, e2, d2, lch, hok⟩
     have lxs : xs.length = i := by rw [da_len d2, List.length_map, lch]
     have i3 : i < 3 := by omega
     refine ⟨_, rfl, _, rfl, _, _, rfl, rfl, _, rfl, b, _, rfl, .inl (s2.seq hB.ls), c, 1 + (0 + (i : Int)), _, rfl, by omega, (by rw [lb]; omega), λ H3 s3 => ?_⟩
     rw [lb]
     have pk := part_bd c (1 + (0 + (i : Int))) (bs.length : Int) (by omega)
     obtain ⟨k, ek⟩ := Int.eq_ofNat_of_zero_le pk.1
     have kl : k < bs.length := by omega
     rw [ek]
     refine ⟨_, rfl, _, rfl, lA, _, rfl, .inl ((s2.trans s3).seq hls), _, _, rfl, rfl, _, rfl, ?_⟩
     by_cases hi2 : i < la.length
     case neg =>
       refine iteN (by rw [decide_eq_true_eq]; omega) (iteF ?_)
       obtain ⟨x, hx⟩ : ∃ x, bs[k]? = some x := ⟨_, List.getElem?_eq_getElem kl⟩
       have hX := hB.all x (List.mem_of_getElem? hx)
       have rl : 0 < x.f.rs.length := List.length_pos_iff.mpr hX.ne
       have r100 := hX.fn.len
       have ll : ((x.f.rs.map λ w => V.ref w.r).length : Int) = (x.f.rs.length : Int) := by rw [List.length_map]
       refine ⟨_, rfl, .inl ⟨rfl, _, SqL.of (s3 _ _ e2)⟩, _, rfl, _, rfl, _, rfl, _, _, rfl, rfl, _, rfl, _, rfl, b, _, _, _, rfl, rfl, (s2.trans s3).seq hB.ls, atI_nat (by rw [List.getElem?_map, hx]; rfl), x.e, _, _, _, rfl, rfl, (s2.trans s3).seq hX.en, at0, x.f.fa, _, _, _, rfl, rfl, (s2.trans s3).tup hX.fn.fn, rfl, x.f.ra, _, rfl, .inr ((s2.trans s3).tup hX.fn.rw_), c, 5 + (0 + (i : Int)), _, rfl, by omega, (by rw [ll]; omega), λ H5 s5 => ⟨le2, λ p hp => ?_⟩⟩
       rw [ll]
       have pb := part_bd c (5 + (0 + (i : Int))) (x.f.rs.length : Int) (by omega)
       obtain ⟨r, er⟩ := Int.eq_ofNat_of_zero_le pb.1
       rw [er]
       have e5 := s5 _ _ (s3 _ _ e2)
       have yp := Same.new (o := .tup [.int ((k : Nat) : Int), .int (r : Int)]) hp
       have np : p ≠ l := (ne_of_none e5 hp).symm
       refine ⟨l, _, _, rfl, rfl, yp _ _ e5, lt_line (n := xs.length + 1) (by omega), _, _, rfl, (((s2.trans s3).trans s5).trans yp).upd hl, _, ch ++ [(k, r)], upd_same, ?_, by rw [List.length_append, lch]; rfl, λ d hd => ?_⟩
       . rw [ers_upd, List.map_append]
         refine da_snoc (DatAll.mono (Same.ers ((s3.trans s5).trans yp)) _ _ d2) (dt2_mk (SqT.of (by rw [ers_ne np]; exact upd_same)) (datV_int _) (datV_int _))
       . rcases List.mem_append.mp hd with h | h
         . exact hok d h
         . rw [List.mem_singleton.mp h]
           exact ⟨kl, by show r < 100; omega⟩
     refine iteP (by rw [decide_eq_true_eq]; omega) ⟨_, rfl, c, 4, 3, rfl, by decide, by decide, λ H4 s4 => ⟨_, _, rfl, rfl, _, rfl, ite2 (λ hp => ?_) (λ hp => ?_)⟩⟩
     . obtain ⟨d, hd⟩ : ∃ d, la[i]? = some d := ⟨_, List.getElem?_eq_getElem hi2⟩
       obtain ⟨y, hy, dy⟩ := da_get dls hd
       obtain ⟨fA, y1, y2, rfl, hf, hy1, hy2⟩ := dt2 dy
       cases di_un hy1
       have kd := lok d (List.mem_of_getElem? hd)
       have s34 := s3.trans s4
       refine ⟨_, rfl, _, rfl, lA, _, _, _, rfl, rfl, (s2.trans s34).seq hls, (by rw [Int.zero_add]; exact atI_nat hy), fA, _, _, _, rfl, rfl, (s2.trans s34).tup hf, at0, ?_⟩
       obtain ⟨x, hx⟩ : ∃ x, bs[d.1]? = some x := ⟨_, List.getElem?_eq_getElem kd⟩
       have hX := hB.all x (List.mem_of_getElem? hx)
       have rl : 0 < x.f.rs.length := List.length_pos_iff.mpr hX.ne
       have r100 := hX.fn.len
       have ll : ((x.f.rs.map λ w => V.ref w.r).length : Int) = (x.f.rs.length : Int) := by rw [List.length_map]
       refine ⟨_, rfl, .inl ⟨rfl, _, SqL.of (s34 _ _ e2)⟩, _, rfl, _, rfl, _, rfl, _, _, rfl, rfl, _, rfl, _, rfl, b, _, _, _, rfl, rfl, (s2.trans s34).seq hB.ls, atI_nat (by rw [List.getElem?_map, hx]; rfl), x.e, _, _, _, rfl, rfl, (s2.trans s34).seq hX.en, at0, x.f.fa, _, _, _, rfl, rfl, (s2.trans s34).tup hX.fn.fn, rfl, x.f.ra, _, rfl, .inr ((s2.trans s34).tup hX.fn.rw_), c, 5 + (0 + (i : Int)), _, rfl, by omega, (by rw [ll]; omega), λ H5 s5 => ⟨le2, λ p hp => ?_⟩⟩
       rw [ll]
       have pb := part_bd c (5 + (0 + (i : Int))) (x.f.rs.length : Int) (by omega)
       obtain ⟨r, er⟩ := Int.eq_ofNat_of_zero_le pb.1
       rw [er]
       have e5 := s5 _ _ (s34 _ _ e2)
       have yp := Same.new (o := .tup [.int ((d.1 : Nat) : Int), .int (r : Int)]) hp
       have np : p ≠ l := (ne_of_none e5 hp).symm
       refine ⟨l, _, _, rfl, rfl, yp _ _ e5, lt_line (n := xs.length + 1) (by omega), _, _, rfl, (((s2.trans s34).trans s5).trans yp).upd hl, _, ch ++ [(d.1, r)], upd_same, ?_, by rw [List.length_append, lch]; rfl, λ d hd => ?_⟩
       . rw [ers_upd, List.map_append]
         refine da_snoc (DatAll.mono (Same.ers ((s34.trans s5).trans yp)) _ _ d2) (dt2_mk (SqT.of (by rw [ers_ne np]; exact upd_same)) (datV_int _) (datV_int _))
       . rcases List.mem_append.mp hd with h | h
         . exact hok d h
         . rw [List.mem_singleton.mp h]
           exact ⟨kd, by show r < 100; omega⟩
     . have s34 := s3.trans s4
       obtain ⟨x, hx⟩ : ∃ x, bs[k]? = some x := ⟨_, List.getElem?_eq_getElem kl⟩
       have hX := hB.all x (List.mem_of_getElem? hx)
       have rl : 0 < x.f.rs.length := List.length_pos_iff.mpr hX.ne
       have r100 := hX.fn.len
       have ll : ((x.f.rs.map λ w => V.ref w.r).length : Int) = (x.f.rs.length : Int) := by rw [List.length_map]
       refine ⟨_, rfl, .inl ⟨rfl, _, SqL.of (s34 _ _ e2)⟩, _, rfl, _, rfl, _, rfl, _, _, rfl, rfl, _, rfl, _, rfl, b, _, _, _, rfl, rfl, (s2.trans s34).seq hB.ls, atI_nat (by rw [List.getElem?_map, hx]; rfl), x.e, _, _, _, rfl, rfl, (s2.trans s34).seq hX.en, at0, x.f.fa, _, _, _, rfl, rfl, (s2.trans s34).tup hX.fn.fn, rfl, x.f.ra, _, rfl, .inr ((s2.trans s34).tup hX.fn.rw_), c, 5 + (0 + (i : Int)), _, rfl, by omega, (by rw [ll]; omega), λ H5 s5 => ⟨le2, λ p hp => ?_⟩⟩
       rw [ll]
       have pb := part_bd c (5 + (0 + (i : Int))) (x.f.rs.length : Int) (by omega)
       obtain ⟨r, er⟩ := Int.eq_ofNat_of_zero_le pb.1
       rw [er]
       have e5 := s5 _ _ (s34 _ _ e2)
       have yp := Same.new (o := .tup [.int ((k : Nat) : Int), .int (r : Int)]) hp
       have np : p ≠ l := (ne_of_none e5 hp).symm
       refine ⟨l, _, _, rfl, rfl, yp _ _ e5, lt_line (n := xs.length + 1) (by omega), _, _, rfl, (((s2.trans s34).trans s5).trans yp).upd hl, _, ch ++ [(k, r)], upd_same, ?_, by rw [List.length_append, lch]; rfl, λ d hd => ?_⟩
       . rw [ers_upd, List.map_append]
         refine da_snoc (DatAll.mono (Same.ers ((s34.trans s5).trans yp)) _ _ d2) (dt2_mk (SqT.of (by rw [ers_ne np]; exact upd_same)) (datV_int _) (datV_int _))
       . rcases List.mem_append.mp hd with h | h
         . exact hok d h
         . rw [List.mem_singleton.mp h]
           exact ⟨kl, by show r < 100; omega⟩
   . rintro σ H2 ⟨v4, v5, rfl, s2, xs, ch, e2, d2, lch, hok⟩
     exact ⟨_, rfl, q ch l xs H2 s2 hl e2 d2 (by omega) hok⟩
theorem sc_l_marks : FnScope ["_law_script", "_law_at", "_law_built", "_law_many", "_law_marks_here", "_law_last", "_law_j", "_law_cell_here", "_law_chain_here", "_law_views", "_law_level", "_law_k", "_law_ahead", "_law_places", "_law_i", "_law_seed"] ["_law_script", "_law_at", "_law_built", "_law_many"] (defScope s_l_marks) := ⟨rfl, rfl, rfl, by decide +kernel, rfl, by decide +kernel, by decide +kernel⟩
theorem ok_l_marks (T : Txt K mg t) : FnOk P w K mg base CX0 14 t.a_l_marks t.d_l_marks ["_law_script", "_law_at", "_law_built", "_law_many"] (sp_l_marks K) := by
 have G_l_cell : FnOk P w K mg base CX0 1 t.a_l_cell t.d_l_cell ["_law_script", "_law_k"] (sp_l_cell K) := ok_l_cell T
 have G_l_chain : FnOk P w K mg base CX0 2 t.a_l_chain t.d_l_chain ["_law_cell_here", "_law_built", "_law_last"] (sp_l_chain K) := ok_l_chain T
 have G_l_place : FnOk P w K mg base CX0 13 t.a_l_place t.d_l_place ["_law_cell_here"] (sp_l_place K) := ok_l_place T
 have G_l_part : FnOk P w K mg base CX0 1 t.a_l_part t.d_l_part ["_law_cell_here", "_law_j", "_law_many"] (sp_l_part K) := ok_l_part T
 refine T.l_marks.F.ok sc_l_marks (λ vs H Q E h => ?_) (λ cdv A outer s H vs Q E hr h => ?_)
 . obtain ⟨a, ns, k, b, bs, n, rfl, hS, hl, k0, k1, hB, n200, q⟩ := h
   rfl
 . obtain ⟨a, ns, k, b, bs, n, rfl, hS, hl, k0, k1, hB, n200, q⟩ := h
   refine ⟨_, (@pss_cons _ _ _ _ _ (@ps_set _ _ 4 _ _ _ _ sc_l_marks.nd rfl (Or.inl rfl) (@pe_lst _ _ _ _ pa_nil) (by rfl) (by first | exact .inl rfl | exact .inr rfl | assumption)) (@pss_cons _ _ _ _ _ (@ps_set _ _ 5 _ _ _ _ sc_l_marks.nd rfl (Or.inl rfl) (@pe_tup _ _ _ _ _ (@pa_cons _ _ _ _ _ (@pe_lst _ _ _ _ pa_nil) (@pa_cons _ _ _ _ _ (@pe_lst _ _ _ _ pa_nil) pa_nil (by rfl)) (by rfl))) (by rfl) (by first | exact .inl rfl | exact .inr rfl | assumption)) (@pss_cons _ _ _ _ _ (ps_for PassesOwn.never rfl (pi_range1 rfl T.b_range (@pa_cons _ _ _ _ _ (pvC 3) pa_nil (by rfl))) (pg_name (i := 6) sc_l_marks.nd rfl (Or.inl rfl)) (@pss_cons _ _ _ _ _ (@ps_set _ _ 7 _ _ _ _ sc_l_marks.nd rfl (Or.inl rfl) (callD T.l_cell G_l_cell (hr.mono (by decide)) (@pa_cons _ _ _ _ _ (pvC 0) (@pa_cons _ _ _ _ _ (@pe_op _ _ _ _ _ _ _ _ (opC0 op_add) (pvC 1) (pvC 6)) pa_nil (by rfl)) (by rfl))) (by rfl) (by first | exact .inl rfl | exact .inr rfl | assumption)) (@pss_cons _ _ _ _ _ (@ps_set _ _ 8 _ _ _ _ sc_l_marks.nd rfl (Or.inl rfl) (callD T.l_chain G_l_chain (hr.mono (by decide)) (@pa_cons _ _ _ _ _ (pvC 7) (@pa_cons _ _ _ _ _ (pvC 2) (@pa_cons _ _ _ _ _ (@pe_ix _ _ _ _ _ _ _ (show IxR _ (cIxT K) from ixC_tup) (pvC 5) pe_int (λ _ _ => rfl)) pa_nil (by rfl)) (by rfl)) (by rfl))) (by rfl) (by first | exact .inl rfl | exact .inr rfl | assumption)) (@pss_cons _ _ _ _ _ (@ps_set _ _ 9 _ _ _ _ sc_l_marks.nd rfl (Or.inl rfl) (@pe_lst _ _ _ _ pa_nil) (by rfl) (by first | exact .inl rfl | exact .inr rfl | assumption)) (@pss_cons _ _ _ _ _ (ps_for PassesOwn.never rfl (pi_range1 rfl T.b_range (@pa_cons _ _ _ _ _ (pe_callB (show CallR _ (.builtin "len") (cLen K) from callC_len) (by rfl) T.b_len bt_len (@pa_cons _ _ _ _ _ (pvC 8) pa_nil (by rfl))) pa_nil (by rfl))) (pg_name (i := 10) sc_l_marks.nd rfl (Or.inl rfl)) (@pss_cons _ _ _ _ _ (@ps_set _ _ 11 _ _ _ _ sc_l_marks.nd rfl (Or.inl rfl) (@pe_ix _ _ _ _ _ _ _ (show IxR _ (cIxT K) from ixC_tup) (@pe_ix _ _ _ _ _ _ _ (show IxR _ (cIxL K) from ixC_list) (pvC 8) (pvC 10) (λ _ _ => rfl)) pe_int (λ _ _ => rfl)) (by rfl) (by first | exact .inl rfl | exact .inr rfl | assumption)) (@pss_cons _ _ _ _ _ (@ps_set _ _ 12 _ _ _ _ sc_l_marks.nd rfl (Or.inl rfl) (@pe_lst _ _ _ _ pa_nil) (by rfl) (by first | exact .inl rfl | exact .inr rfl | assumption)) (@pss_cutN _ _ _ _ _ (@ps_if _ _ _ _ _ _ _ _ (@PW.pt _ _ _ (@pw_and _ _ _ _ _ _ _ (@ptC_cmpR _ _ _ _ _ _ _ _ (opC0 op_lt) (pvC 10) (pe_callB (show CallR _ (.builtin "len") (cLen K) from callC_len) (by rfl) T.b_len bt_len (@pa_cons _ _ _ _ _ (@pe_ix _ _ _ _ _ _ _ (show IxR _ (cIxT K) from ixC_tup) (pvC 5) pe_int (λ _ _ => rfl)) pa_nil (by rfl))) (nomark _)) (@pw_and1 _ _ _ _ (@ptC_cmpR _ _ _ _ _ _ _ _ op_eq (@pe_ix _ _ _ _ _ _ _ (show IxR _ (cIxT K) from ixC_tup) (@pe_ix _ _ _ _ _ _ _ (show IxR _ (cIxL K) from ixC_list) (@pe_ix _ _ _ _ _ _ _ (show IxR _ (cIxT K) from ixC_tup) (pvC 5) pe_int (λ _ _ => rfl)) (pvC 10) (λ _ _ => rfl)) pe_int (λ _ _ => rfl)) (pvC 11) (nomark _))))) (@pss_one _ _ _ (@ps_set _ _ 12 _ _ _ _ sc_l_marks.nd rfl (Or.inl rfl) (@pe_ix _ _ _ _ _ _ _ (show IxR _ (cIxL K) from ixC_list) (@pe_ix _ _ _ _ _ _ _ (show IxR _ (cIxT K) from ixC_tup) (pvC 5) pe_int (λ _ _ => rfl)) (pvC 10) (λ _ _ => rfl)) (by rfl) (by first | exact .inl rfl | exact .inr rfl | assumption))) pss_nil) (@pss_cons _ _ _ _ _ (@ps_set _ _ 13 _ _ _ _ sc_l_marks.nd rfl (Or.inl rfl) (@pe_lst _ _ _ _ pa_nil) (by rfl) (by first | exact .inl rfl | exact .inr rfl | assumption)) (@pss_cons _ _ _ _ _ (ps_for PassesOwn.never rfl (pi_range1 rfl T.b_range (@pa_cons _ _ _ _ _ (@pe_ix _ _ _ _ _ _ _ (show IxR _ (cIxL K) from ixC_list) (@pe_ix _ _ _ _ _ _ _ (show IxR _ (cIxL K) from ixC_list) (pvC 2) (pvC 11) (λ _ _ => rfl)) pe_int (λ _ _ => rfl)) pa_nil (by rfl))) (pg_name (i := 14) sc_l_marks.nd rfl (Or.inl rfl)) (@pss_cons _ _ _ _ _ (@ps_set _ _ 15 _ _ _ _ sc_l_marks.nd rfl (Or.inl rfl) (@pe_op _ _ _ _ _ _ _ _ (opC0 op_add) (@pe_op _ _ _ _ _ _ _ _ (opC0 op_add) (pvC 7) (@pe_op _ _ _ _ _ _ _ _ (opC1 op_mul) pe_int (pvC 14))) (@pe_op _ _ _ _ _ _ _ _ (opC1 op_mul) pe_int (pvC 10))) (by rfl) (by first | exact .inl rfl | exact .inr rfl | assumption)) (@pss_cons _ _ _ _ _ (@ps_expr _ _ _ _ (pe_bm PySem.F.plainAttrs_list PySem.F.slot_list_append PySem.F.type_list_append mtC_append (pvC 13) (@pa_cons _ _ _ _ _ (callD T.l_place G_l_place (hr.mono (by decide)) (@pa_cons _ _ _ _ _ (pvC 15) pa_nil (by rfl))) pa_nil (by rfl))) (by rfl)) (@pss_one _ _ _ (@ps_if _ _ _ _ _ _ _ _ (@PW.pt _ _ _ (@pw_and _ _ _ _ _ _ _ (@ptC_cmpR _ _ _ _ _ _ _ _ (op_neD hr.units) (pvC 12) (@pe_lst _ _ _ _ pa_nil) (nomark _)) (@pw_and1 _ _ _ _ (@ptC_cmpR _ _ _ _ _ _ _ _ op_eq (callD T.l_part G_l_part (hr.mono (by decide)) (@pa_cons _ _ _ _ _ (pvC 15) (@pa_cons _ _ _ _ _ pe_int (@pa_cons _ _ _ _ _ pe_int pa_nil (by rfl)) (by rfl)) (by rfl))) pe_int (nomark _))))) (@pss_one _ _ _ (ps_asg (@pe_ix _ _ _ _ _ _ _ (show IxR _ (cIxL K) from ixC_list) (pvC 12) (pvC 14) (λ _ _ => rfl)) (pg_sub (pvC 13) (pe_un un_neg pe_int) set_list))) pss_nil))))) (@pss_one _ _ _ (@ps_expr _ _ _ _ (pe_bm PySem.F.plainAttrs_list PySem.F.slot_list_append PySem.F.type_list_append mtC_append (pvC 9) (@pa_cons _ _ _ _ _ (pvC 13) pa_nil (by rfl))) (by rfl))))))))) (@pss_cons _ _ _ _ _ (@ps_set _ _ 5 _ _ _ _ sc_l_marks.nd rfl (Or.inl rfl) (@pe_tup _ _ _ _ _ (@pa_cons _ _ _ _ _ (pvC 8) (@pa_cons _ _ _ _ _ (pvC 9) pa_nil (by rfl)) (by rfl))) (by rfl) (by first | exact .inl rfl | exact .inr rfl | assumption)) (@pss_one _ _ _ (@ps_expr _ _ _ _ (pe_bm PySem.F.plainAttrs_list PySem.F.slot_list_append PySem.F.type_list_append mtC_append (pvC 4) (@pa_cons _ _ _ _ _ (pvC 5) pa_nil (by rfl))) (by rfl))))))))) (@pss_one _ _ _ (@ps_ret _ _ _ _ (pvC 4)))))), ?_⟩
   refine ⟨le0, λ l hl0 => ⟨le0, λ c0 hc0 => ⟨le0, λ w0 hw0 => ⟨le2, λ p0 hp0 => ?_⟩⟩⟩⟩
   have g1 := Same.new (o := .lst []) hl0
   have g2 := Same.new (o := .lst []) hc0
   have g3 := Same.new (o := .lst []) hw0
   have g4 := Same.new (o := .tup [V.ref c0, V.ref w0]) hp0
   have el : upd (upd (upd (upd H l (.lst [])) c0 (.lst [])) w0 (.lst [])) p0 (.tup [V.ref c0, V.ref w0]) l = some (.lst []) := g4 _ _ (g3 _ _ (g2 _ _ upd_same))
   have n1 : c0 ≠ l := (ne_of_none upd_same hc0).symm
   have n2 : w0 ≠ l := (ne_of_none (g2 _ _ upd_same) hw0).symm
   have n3 : p0 ≠ l := (ne_of_none (g3 _ _ (g2 _ _ upd_same)) hp0).symm
   have hd0 : ∀ z, (z = l \/ ∃ ys, H z = some (.lst ys)) -> DatV K (ers z (ers l (upd (upd (upd (upd H l (.lst [])) c0 (.lst [])) w0 (.lst [])) p0 (.tup [V.ref c0, V.ref w0])))) (mkD mk0) (.ref p0) := λ z hz => by
     obtain ⟨yz, ez⟩ : ∃ ys, upd H l (.lst []) z = some (.lst ys) := by
       rcases hz with h | ⟨ys, h⟩
       . subst h; exact ⟨_, upd_same⟩
       . exact ⟨ys, g1 _ _ h⟩
     have z1 : c0 ≠ z := (ne_of_none ez hc0).symm
     have z2 : w0 ≠ z := (ne_of_none (g2 _ _ ez) hw0).symm
     have z3 : p0 ≠ z := (ne_of_none (g3 _ _ (g2 _ _ ez)) hp0).symm
     exact dt2_mk (SqT.of (by rw [ers_ne z3, ers_ne n3]; exact upd_same)) (datV_list (SqL.of (by rw [ers_ne z1, ers_ne n1]; exact g4 _ _ (g3 _ _ upd_same))) datAll_nil) (datV_list (SqL.of (by rw [ers_ne z2, ers_ne n2]; exact g4 _ _ upd_same)) datAll_nil)
   have g14 := ((g1.trans g2).trans g3).trans g4
   generalize upd (upd (upd (upd H l (.lst [])) c0 (.lst [])) w0 (.lst [])) p0 (.tup [V.ref c0, V.ref w0]) = G0 at el hd0 g14 ⊢
   refine ⟨_, rfl, _, rfl, by omega, by omega, ?_⟩
   refine (let Jv1 : Nat -> St -> Hp -> Prop := λ i σ H2 => ∃ (lv : V) (v6 v7 v8 v9 v10 v11 v12 v13 v14 v15 : Option V), σ = [some (.ref a), some (.int k), some (.ref b), some (.int n), some (.ref l), some lv, v6, v7, v8, v9, v10, v11, v12, v13, v14, v15] /\ Same H H2 /\ ∃ (us : List V) (ms : List Mk) (lm : Mk), H2 l = some (.lst us) /\ (∀ z, (z = l \/ ∃ ys, H z = some (.lst ys)) -> DatAll K (ers z (ers l H2)) (ms.map mkD) us) /\ ms.length = i /\ (∀ m ∈ ms, MOk bs.length m /\ CnOk (cnB bs) m) /\ (∀ z, (z = l \/ ∃ ys, H z = some (.lst ys)) -> DatV K (ers z (ers l H2)) (mkD lm) lv) /\ MOk bs.length lm /\ CnOk (cnB bs) lm; for_range (lo := 0) (n := n) Jv1 ⟨_, none, none, none, none, none, none, none, none, none, none, rfl, g14, [], [], mk0, el, (λ _ _ => datAll_nil), rfl, (λ m hm => by cases hm), hd0, mk0_ok _, mk0_cn _⟩ ?_ ?_)
   . rintro i σ H2 hi ⟨lv, v6, v7, v8, v9, v10, v11, v12, v13, v14, v15, rfl, s2, us, ms, lm, e2, d2, lms, hms, dlv, okl, cnl⟩
     have lus : us.length = i := by rw [da_len (d2 l (.inl rfl)), List.length_map, lms]
     obtain ⟨lA, cv, wv, rfl, hlA, hcv, hwv⟩ := dt2 (dlv l (.inl rfl))
     have hzz : ∀ z, (z = l \/ ∃ ys, H z = some (.lst ys)) -> ∃ ys, H2 z = some (.lst ys) := λ z h => by
       rcases h with h | ⟨ys, h⟩
       . subst h; exact ⟨_, e2⟩
       . exact ⟨ys, s2 _ _ h⟩
     obtain ⟨cA, cs, rfl, hcs, dcs⟩ := dl_un hcv
     obtain ⟨wA, ws, rfl, hws, dws⟩ := dl_un hwv
     have lcs : cs.length = lm.ch.length := by rw [da_len dcs, List.length_map]
     have toE : Same (ers l (ers l H2)) H2 := ers_same.trans ers_same
     refine ⟨_, rfl, _, rfl, _, rfl, _, _, rfl, rfl, a, ns, k + (0 + (i : Int)), rfl, s2.seq hS, hl, by omega, by omega, ?_⟩
     generalize cellF ns (k + (0 + (i : Int))) = z
     refine ⟨_, rfl, _, rfl, _, rfl, lA, _, _, _, rfl, rfl, toE.tup hlA, at0, z, b, bs, .ref cA, lm.ch, rfl, hB.mono s2, DatV.mono toE _ _ hcv, λ c hc => (okl.ix c hc).1, okl.l3, λ ch cl xs H3 s3 hcl e3 d3 ch3 chok => ?_⟩
     have lxs : xs.length = ch.length := by rw [da_len d3, List.length_map]
     refine ⟨le0, λ vl hvl => ?_⟩
     have x1 := Same.new (o := .lst []) hvl
     have s24 := s3.trans x1
     refine ⟨_, rfl, cl, _, rfl, .inl (SqL.of (x1 _ _ e3)), _, rfl, by omega, by omega, ?_⟩
     refine (let Jv2 : Nat -> St -> Hp -> Prop := λ j σ H5 => ∃ (v10 v11 v12 v13 v14 v15 : Option V), σ = [some (.ref a), some (.int k), some (.ref b), some (.int n), some (.ref l), some (.ref lA), some (.int (0 + (i : Int))), some (.int z), some (.ref cl), some (.ref vl), v10, v11, v12, v13, v14, v15] /\ Same H3 H5 /\ ∃ (vs : List V) (vw : List (List (Option BTr))), H5 vl = some (.lst vs) /\ (∀ z, (z = l \/ ∃ ys, H z = some (.lst ys)) -> DatAll K (ers vl (ers z (ers l H5))) (vw.map plD) vs) /\ vw.length = j /\ (∀ (m : Nat) c v, ch[m]? = some c -> vw[m]? = some v -> v.length = cnB bs c.1) /\ ∀ v ∈ vw, v.length <= 24 /\ ∀ o ∈ v, pok o; for_range (lo := 0) (n := xs.length) Jv2 ⟨_, _, _, _, _, _, rfl, x1, [], [], upd_same, (λ _ _ => datAll_nil), rfl, (λ m c v _ h => by cases h), λ v hv => by cases hv⟩ ?_ ?_)
     . rintro j σ H5 hj ⟨v10, v11, v12, v13, v14, v15, rfl, s5, vs, vw, e5, d5, lvw, cvw, okv⟩
       have s25 := s3.trans s5
       have lvs : vs.length = j := by rw [da_len (d5 l (.inl rfl)), List.length_map, lvw]
       obtain ⟨d, hd⟩ : ∃ d, ch[j]? = some d := ⟨_, List.getElem?_eq_getElem (by omega)⟩
       obtain ⟨y, hy, dy⟩ := da_get (DatAll.mono (ers_same.trans s5) _ _ d3) hd
       obtain ⟨fA, y1, y2, rfl, hf, hy1, hy2⟩ := dt2 dy
       cases di_un hy1
       have dk := (chok d (List.mem_of_getElem? hd)).1
       obtain ⟨x, hx⟩ : ∃ x, bs[d.1]? = some x := ⟨_, List.getElem?_eq_getElem dk⟩
       have hX := hB.all x (List.mem_of_getElem? hx)
       have cnx : cnB bs d.1 = x.cnt := by unfold cnB; rw [hx]; rfl
       refine ⟨_, rfl, _, rfl, cl, _, _, _, rfl, rfl, SqL.of (s5 _ _ e3), (by rw [Int.zero_add]; exact atI_nat hy), fA, _, _, _, rfl, rfl, hf, at0, ?_⟩
       refine ⟨le0, λ aA haA => ?_⟩
       have x6 := Same.new (o := .lst []) haA
       have e6 := x6 _ _ (s25 _ _ e2)
       have naA : aA ≠ l := (ne_of_none (s25 _ _ e2) haA).symm
       refine (let Jv4 : St -> Hp -> Prop := λ σ G => ∃ (av : V) (v13 v14 v15 : Option V) (ah : List (Option BTr)), σ = [some (.ref a), some (.int k), some (.ref b), some (.int n), some (.ref l), some (.ref lA), some (.int (0 + (i : Int))), some (.int z), some (.ref cl), some (.ref vl), some (.int (0 + (j : Int))), some (.int ((d.1 : Nat) : Int)), some av, v13, v14, v15] /\ Same H5 G /\ DatV K G (plD ah) av /\ (∀ o ∈ ah, pok o) /\ (ah = [] \/ ah.length = x.cnt); ⟨Jv4, ?_, ?_⟩)
       . have hE : DatV K (upd H5 aA (.lst [])) (plD []) (.ref aA) := datV_list (SqL.of upd_same) datAll_nil
         have t6 := toE.trans (s25.trans x6)
         refine ⟨_, rfl, _, rfl, lA, _, _, _, rfl, rfl, t6.tup hlA, at0, cA, _, rfl, .inl (t6.seq hcs), _, _, rfl, rfl, _, rfl, ?_⟩
         by_cases hj2 : j < lm.ch.length
         case neg => exact iteN (by rw [decide_eq_true_eq]; omega) (iteF ⟨_, _, _, _, [], rfl, x6, hE, (λ o h => by cases h), .inl rfl⟩)
         obtain ⟨d0, hd0⟩ : ∃ d0, lm.ch[j]? = some d0 := ⟨_, List.getElem?_eq_getElem hj2⟩
         obtain ⟨v0, hv0⟩ : ∃ v0, lm.vs[j]? = some v0 := ⟨_, List.getElem?_eq_getElem (by rw [okl.vl]; exact hj2)⟩
         obtain ⟨u0, hu0, du0⟩ := da_get dcs hd0
         obtain ⟨f0, u1, u2, rfl, hf0, hu1, hu2⟩ := dt2 du0
         cases di_un hu1
         obtain ⟨w1, hw1, dw1⟩ := da_get dws hv0
         refine iteP (by rw [decide_eq_true_eq]; omega) ⟨_, rfl, lA, _, _, _, rfl, rfl, t6.tup hlA, at0, _, rfl, cA, _, _, _, rfl, rfl, t6.seq hcs, (by rw [Int.zero_add]; exact atI_nat hu0), f0, _, _, _, rfl, rfl, t6.tup hf0, at0, _, rfl, rfl, _, rfl, ?_⟩
         by_cases hk : d0.1 = d.1
         . refine iteP (decide_eq_true (by rw [hk])) ⟨_, rfl, lA, _, _, _, rfl, rfl, t6.tup hlA, rfl, _, rfl, wA, _, _, _, rfl, rfl, t6.seq hws, (by rw [Int.zero_add]; exact atI_nat hw1), w1, _, _, _, v0, rfl, x6, DatV.mono t6 _ _ dw1, okl.ok v0 (List.mem_of_getElem? hv0), .inr ?_⟩
           rw [cnl j d0 v0 hd0 hv0, hk, cnx]
         . exact iteN (λ h => hk (by have := V.int.inj (dec_true h); omega)) ⟨_, _, _, _, [], rfl, x6, hE, (λ o h => by cases h), .inl rfl⟩
       rintro σ G ⟨av, v13, v14, v15, ah, rfl, sG, dav, okah, lah⟩
       obtain ⟨aA', ys, rfl, hys, dys⟩ := dl_un dav
       refine ⟨le0, λ pA hpA => ?_⟩
       have xp := Same.new (o := .lst []) hpA
       have sB := s25.trans sG
       have b24 := hX.cn
       refine ⟨_, rfl, _, rfl, b, _, _, _, rfl, rfl, ((s2.trans sB).trans xp).seq hB.ls, atI_nat (by rw [List.getElem?_map, hx]; rfl), x.e, _, _, _, rfl, rfl, ((s2.trans sB).trans xp).seq hX.en, rfl, _, rfl, by omega, by omega, ?_⟩
       refine (let Jv3 : Nat -> St -> Hp -> Prop := λ m σ H8 => ∃ (v14 v15 : Option V), σ = [some (.ref a), some (.int k), some (.ref b), some (.int n), some (.ref l), some (.ref lA), some (.int (0 + (i : Int))), some (.int z), some (.ref cl), some (.ref vl), some (.int (0 + (j : Int))), some (.int ((d.1 : Nat) : Int)), some (.ref aA'), some (.ref pA), v14, v15] /\ Same G H8 /\ ∃ (ps : List V) (pl : List (Option BTr)), H8 pA = some (.lst ps) /\ DatAll K H8 (pl.map btO) ps /\ pl.length = m /\ ∀ o ∈ pl, pok o; for_range (lo := 0) (n := x.cnt) Jv3 ⟨_, _, rfl, xp, [], [], upd_same, datAll_nil, rfl, λ o h => by cases h⟩ ?_ ?_)
       . rintro m σ H8 hm ⟨v14, v15, rfl, s8, ps, pl, e8, d8, lpl, okp⟩
         have lps : ps.length = m := by rw [da_len d8, List.length_map, lpl]
         refine ⟨_, rfl, _, rfl, _, _, rfl, rfl, .inl ⟨by decide, by decide⟩, _, _, rfl, rfl, _, rfl, _, _, rfl, rfl, .inl ⟨by decide, by decide⟩, _, _, rfl, rfl, ?_⟩
         refine ⟨_, rfl, .inl ⟨rfl, _, SqL.of e8⟩, _, rfl, _, rfl, λ o v H9 s9 d9 ok9 => ⟨pA, _, _, rfl, rfl, s9 _ _ e8, lt_line (n := ps.length + 1) (by omega), ?_⟩⟩
         have e9 := s9 _ _ e8
         have sA := (s8.trans s9).upd (o := .lst (ps ++ [v])) hpA
         have eA := upd_same (H := H9) (a := pA) (o := .lst (ps ++ [v]))
         have dA : DatAll K (upd H9 pA (.lst (ps ++ [v]))) ((pl ++ [o]).map btO) (ps ++ [v]) := DatAll.putT (bos_tup _) e9 (by rw [List.map_append]; exact da_snoc (L2.DatAll.mono s9 _ _ d8) d9)
         have okA : ∀ o' ∈ pl ++ [o], pok o' := λ o' h => by
           rcases List.mem_append.mp h with h | h
           . exact okp o' h
           . rw [List.mem_singleton.mp h]; exact ok9
         have dA0 : DatAll K (upd H9 pA (.lst (ps ++ [v]))) (pl.map btO) ps := DatAll.putT (bos_tup _) e9 (L2.DatAll.mono s9 _ _ d8)
         generalize upd H9 pA (.lst (ps ++ [v])) = HA at sA eA dA dA0 ⊢
         refine ⟨_, rfl, le0, λ eN heN => ?_⟩
         have xN := Same.new (o := .lst []) heN
         refine ⟨_, _, DatV.mono (sA.trans xN) _ _ dav, datV_list (SqL.of upd_same) datAll_nil, (pl_lay okah).shaped (by decide), (Lay.list (n := 0) (λ d h => by cases h)).shaped (by decide), _, rfl, ?_⟩
         rw [show PyData.eqv (plD ah) (.list []) = (ah.map btO).isEmpty from eqv_nil _]
         have keep : ∀ H' : Hp, Same HA H' -> Same G H' /\ ∃ (ps' : List V) (pl' : List (Option BTr)), H' pA = some (.lst ps') /\ DatAll K H' (pl'.map btO) ps' /\ pl'.length = m + 1 /\ ∀ o ∈ pl', pok o := λ H' s' => ⟨sA.trans s', _, _, s' _ _ eA, L2.DatAll.mono s' _ _ dA, by rw [List.length_append, lpl]; rfl, okA⟩
         cases hah : ah with
         | nil => exact iteN (by simp) (iteF ⟨_, _, rfl, keep _ xN⟩)
         | cons a0 ar =>
           have hne : ah ≠ [] := by rw [hah]; exact List.cons_ne_nil _ _
           have lh : ah.length = x.cnt := lah.resolve_left hne
           refine iteP rfl ⟨_, rfl, _, 7, 2, rfl, by decide, by decide, λ HB sB' => ⟨rfl, _, rfl, ite2 (λ _ => ?_) (λ _ => ⟨_, _, rfl, keep _ (xN.trans sB')⟩)⟩⟩
           obtain ⟨oa, hoa⟩ : ∃ oa, ah[m]? = some oa := ⟨_, List.getElem?_eq_getElem (by omega)⟩
           obtain ⟨ya, hya, dya⟩ := da_get dys hoa
           have sN := xN.trans sB'
           have eB := sN _ _ eA
           refine ⟨_, rfl, _, rfl, aA', _, _, _, rfl, rfl, (sA.trans sN).seq hys, (by rw [Int.zero_add]; exact atI_nat hya), _, rfl, _, rfl, pA, _, _, _, rfl, rfl, eB, (by rw [List.length_append]; exact ix_last _), _, _, rfl, ?_⟩
           rw [set_last]
           refine ⟨(sA.trans sN).upd hpA, _, pl ++ [oa], upd_same, DatAll.putT (bos_tup _) eB ?_, by rw [List.length_append, lpl]; rfl, λ o' h => ?_⟩
           . rw [List.map_append]
             exact da_snoc (L2.DatAll.mono sN _ _ dA0) (L2.DatV.mono (sA.trans sN) _ _ dya)
           . rcases List.mem_append.mp h with h | h
             . exact okp o' h
             . rw [List.mem_singleton.mp h]; exact okah oa (List.mem_of_getElem? hoa)
       . rintro σ H8 ⟨v14, v15, rfl, s8, ps, pl, e8, d8, lpl, okp⟩
         have sV := sG.trans s8
         have eV := sV _ _ e5
         have eLL := (s25.trans sV) _ _ e2
         have nVL : vl ≠ l := λ h => by
           have h1 := s3 _ _ e2
           rw [<- h, hvl] at h1
           cases h1
         have nP1 : pA ≠ l := λ h => by
           have h1 := sB _ _ e2
           rw [<- h, hpA] at h1
           cases h1
         have nP2 : pA ≠ vl := λ h => by
           have h1 := sG _ _ e5
           rw [<- h, hpA] at h1
           cases h1
         refine ⟨_, rfl, .inl ⟨rfl, _, SqL.of eV⟩, _, rfl, vl, _, _, rfl, rfl, eV, lt_line (n := vs.length + 1) (by omega), _, _, _, _, _, _, rfl, (s5.trans sV).upd hvl, _, vw ++ [pl], upd_same, ?_, by rw [List.length_append, lvw]; rfl, ?_, ?_⟩
         . intro z hz
           obtain ⟨yz, ez⟩ := hzz z hz
           have ezB := sB _ _ ez
           have nPz : pA ≠ z := λ h => by
             rw [<- h, hpA] at ezB
             cases ezB
           rw [ers3_upd, List.map_append]
           refine da_snoc (L2.DatAll.mono (Same.ers (Same.ers (Same.ers sV))) _ _ (d5 z hz)) (datV_list (SqL.of (by rw [ers_ne nP2, ers_ne nPz, ers_ne nP1]; exact e8)) ?_)
           exact DatAll.ersT (NoT.ers (NoT.ers (.lst eV))) _ _ (bos_tup _) (DatAll.ersT (NoT.ers (.lst ((s25.trans sV) _ _ ez))) _ _ (bos_tup _) (DatAll.ersT (.lst eLL) _ _ (bos_tup _) d8))
         . intro m' c v hc hv
           by_cases hm' : m' < vw.length
           . rw [List.getElem?_append_left hm'] at hv
             exact cvw m' c v hc hv
           . rw [List.getElem?_append_right (by omega)] at hv
             have : m' - vw.length = 0 := by
               have := (List.getElem?_eq_some_iff.mp hv).1
               simp at this
               omega
             rw [this] at hv
             cases hv
             have : m' = j := by omega
             subst this
             rw [hd] at hc
             cases hc
             rw [lpl, cnx]
         . intro v hv
           rcases List.mem_append.mp hv with h | h
           . exact okv v h
           . rw [List.mem_singleton.mp h]; exact ⟨by omega, okp⟩
     . rintro σ H5 ⟨v10, v11, v12, v13, v14, v15, rfl, s5, vs, vw, e5, d5, lvw, cvw, okv⟩
       have s25 := s3.trans s5
       have e5l := s25 _ _ e2
       refine ⟨_, rfl, _, rfl, le2, λ pT hpT => ?_⟩
       have xT := Same.new (o := .tup [V.ref cl, V.ref vl]) hpT
       have eT := xT _ _ e5l
       have n1 : pT ≠ l := (ne_of_none e5l hpT).symm
       have n2 : cl ≠ l := (ne_of_none e2 hcl).symm
       have n3 : vl ≠ l := λ h => by
         have h1 := s3 _ _ e2
         rw [<- h, hvl] at h1
         cases h1
       have okN : MOk bs.length ⟨ch, vw⟩ := ⟨ch3, chok, by show vw.length = ch.length; omega, λ v hv => (okv v hv).1, λ v hv => (okv v hv).2⟩
       have dN : ∀ z, (z = l \/ ∃ ys, H z = some (.lst ys)) -> DatV K (ers z (ers l (upd H5 pT (.tup [V.ref cl, V.ref vl])))) (mkD ⟨ch, vw⟩) (.ref pT) := λ z hz => by
         obtain ⟨yz, ez⟩ := hzz z hz
         have ez3 := s3 _ _ ez
         have ez5 := s5 _ _ ez3
         have z1 : pT ≠ z := (ne_of_none ez5 hpT).symm
         have z2 : cl ≠ z := (ne_of_none ez hcl).symm
         have z3 : vl ≠ z := λ h => by
           rw [<- h, hvl] at ez3
           cases ez3
         refine dt2_mk (SqT.of (by rw [ers_ne z1, ers_ne n1]; exact upd_same)) (datV_list (SqL.of (by rw [ers_ne z2, ers_ne n2]; exact xT _ _ (s5 _ _ e3))) ?_) (datV_list (SqL.of (by rw [ers_ne z3, ers_ne n3]; exact xT _ _ e5)) (L2.DatAll.mono (ers_same.trans (Same.ers (Same.ers xT))) _ _ (d5 z hz)))
         exact DatAll.ersT (NoT.ers (.lst (xT _ _ ez5))) _ _ (tupdAll_map fr_tup _) (DatAll.ersT (.lst eT) _ _ (tupdAll_map fr_tup _) (L2.DatAll.mono (ers_same.trans (s5.trans xT)) _ _ d3))
       refine ⟨_, rfl, .inl ⟨rfl, _, SqL.of eT⟩, _, rfl, l, _, _, rfl, rfl, eT, lt_line (n := us.length + 1) (by omega), _, _, _, _, _, _, _, _, _, _, _, rfl, ((s2.trans s25).trans xT).upd hl0, _, ms ++ [⟨ch, vw⟩], ⟨ch, vw⟩, upd_same, ?_, by rw [List.length_append, lms]; rfl, λ m hm => ?_, λ z hz => by rw [ers_upd]; exact dN z hz, okN, cvw⟩
       . intro z hz
         rw [ers_upd, List.map_append]
         exact da_snoc (L2.DatAll.mono (Same.ers (Same.ers (s25.trans xT))) _ _ (d2 z hz)) (dN z hz)
       . rcases List.mem_append.mp hm with h | h
         . exact hms m h
         . rw [List.mem_singleton.mp h]; exact ⟨okN, cvw⟩
   . rintro σ H2 ⟨lv, v6, v7, v8, v9, v10, v11, v12, v13, v14, v15, rfl, s2, us, ms, lm, e2, d2, lms, hms, _⟩
     exact ⟨_, rfl, q ms _ H2 s2 (datV_list (SqL.of e2) (L2.DatAll.mono (ers_same.trans ers_same) _ _ (d2 l (.inl rfl)))) (λ z ys hz => datV_list (sqL_ers e2 (ne_of_none hz hl0).symm) (L2.DatAll.mono (Same.ers ers_same) _ _ (d2 z (.inr ⟨ys, hz⟩)))) lms ⟨by omega, hms⟩⟩
theorem sc_l_number : FnScope ["_law_number_here", "_law_parts", "_law_bits_here", "_law_part_here"] ["_law_number_here"] (defScope s_l_number) := ⟨rfl, rfl, rfl, by decide +kernel, rfl, by decide +kernel, by decide +kernel⟩
theorem ok_l_number (T : Txt K mg t) : FnOk P w K mg base CX0 1 t.a_l_number t.d_l_number ["_law_number_here"] (sp_l_number K) := by
 refine T.l_number.F.ok sc_l_number (λ vs H Q E h => ?_) (λ cdv A outer s H vs Q E hr h => ?_)
 . obtain ⟨n, rfl, hn, q⟩ := h
   rfl
 . obtain ⟨n, rfl, hn, q⟩ := h
   refine ⟨_, (@pss_cons _ _ _ _ _ (@ps_set _ _ 1 _ _ _ _ sc_l_number.nd rfl (Or.inl rfl) (@pe_litL _ _ [V.str "000", V.str "001", V.str "010", V.str "011", V.str "100", V.str "101", V.str "110", V.str "111"] (by kernel_rfl)) (by rfl) (by first | exact .inl rfl | exact .inr rfl | assumption)) (@pss_cons _ _ _ _ _ (@ps_set _ _ 2 _ _ _ _ sc_l_number.nd rfl (Or.inl rfl) pe_str (by rfl) (by first | exact .inl rfl | exact .inr rfl | assumption)) (@pss_cons _ _ _ _ _ (ps_while PassesOwn.never (@ptC_cmpR _ _ _ _ _ _ _ _ (opC0 op_gt) (pvC 0) pe_int (nomark _)) (@pss_cons _ _ _ _ _ (ps_asg (pe_callB call_divmod (by rfl) T.b_divmod bt_divmod (@pa_cons _ _ _ _ _ (pvC 0) (@pa_cons _ _ _ _ _ pe_int pa_nil (by rfl)) (by rfl))) (pg_tup rfl (pgs_cons (pg_name (i := 0) sc_l_number.nd rfl (Or.inl rfl)) (pgs_cons (pg_name (i := 3) sc_l_number.nd rfl (Or.inl rfl)) pgs_nil)))) (@pss_one _ _ _ (@ps_set _ _ 2 _ _ _ _ sc_l_number.nd rfl (Or.inl rfl) (@pe_op _ _ _ _ _ _ _ _ op_add_str (@pe_op _ _ _ _ _ _ _ _ op_add_str (pvC 2) pe_str) (@pe_ix _ _ _ _ _ _ _ (show IxR _ (cIxL K) from ixC_list) (pvC 1) (pvC 3) (λ _ _ => rfl))) (by rfl) (by first | exact .inl rfl | exact .inr rfl | assumption))))) (@pss_one _ _ _ (@ps_ret _ _ _ _ (@pe_op _ _ _ _ _ _ _ _ op_add_str (@pe_op _ _ _ _ _ _ _ _ op_add_str (pvC 2) pe_str) (@pe_ix _ _ _ _ _ _ _ (show IxR _ (cIxL K) from ixC_list) (pvC 1) (pvC 0) (λ _ _ => rfl)))))))), ?_⟩
   have L60 := nb_len 15 n hn
   refine ⟨(by show 8 <= sizeLine; exact le8), λ l hl => ?_⟩
   refine while_by (λ σ H2 => Same H H2 /\ ∃ (r : Nat) (pr : List Nat) (v3 : Option V), σ = [some (.int r), some (.ref l), some (.str (tx pr)), v3] /\ H2 l = some (.lst tab3) /\ pr ++ nb r = nb n) (λ σ _ => match σ with | [some (.int r), _, _, _] => r.toNat | _ => 0) ⟨Same.new hl, n, [], _, rfl, upd_same, rfl⟩ ?_ ?_
   . rintro σ H2 ⟨s2, r, pr, v3, rfl, e2, hg⟩
     have gl : pr.length + (nb r).length = (nb n).length := by rw [<- hg, List.length_append]
     refine ⟨_, rfl, _, _, rfl, rfl, _, rfl, ?_⟩
     by_cases c : r < 8
     . refine iteN (by rw [decide_eq_true_eq]; omega) ?_
       refine ⟨_, rfl, _, _, rfl, rfl, (by rw [tx_len]; exact lt_line (by show pr.length + 1 < 1000000; omega)), _, rfl, _, rfl, l, _, _, _, rfl, rfl, SqL.of e2, tab3_at r c, _, _, rfl, rfl, ?_, ?_⟩
       . rw [zero_tx, tx_app, tx_len, tx_len, List.length_append, pb_len]
         exact lt_line (by show pr.length + 1 + 3 < 1000000; omega)
       . refine vq (congrArg V.str ?_) (q H2 s2)
         rw [zero_tx, tx_app, tx_app, <- hg, nb_low c, List.append_assoc]
         rfl
     . refine iteP (by rw [decide_eq_true_eq]; omega) ?_
       refine ⟨_, rfl, r, 8, rfl, ⟨by decide, by decide⟩, λ p hp => ⟨p, _, rfl, SqT.of upd_same, rfl, _, _, rfl, _, _, rfl, rfl, ?_⟩⟩
       have s3 := s2.trans (Same.new (o := .tup [.int ((r : Int) / 8), .int ((r : Int) % 8)]) hp)
       have e3 := Same.new (o := .tup [.int ((r : Int) / 8), .int ((r : Int) % 8)]) hp _ _ e2
       have ta := tab3_at (r % 8) (by omega)
       rw [show ((r % 8 : Nat) : Int) = (r : Int) % 8 by omega] at ta
       refine ⟨_, rfl, _, _, rfl, rfl, (by rw [tx_len]; exact lt_line (by show pr.length + 1 < 1000000; omega)), _, rfl, _, rfl, l, _, _, _, rfl, rfl, SqL.of e3, ta, _, _, rfl, rfl, ?_, ?_⟩
       . rw [show (("1" : Str)) = tx [49] from rfl, tx_app, tx_len, tx_len, List.length_append, pb_len]
         exact lt_line (by show pr.length + 1 + 3 < 1000000; omega)
       . refine ⟨⟨s3, r / 8, pr ++ [49] ++ pb (r % 8) 3, some (.int ((r : Int) % 8)), ?_, e3, ?_⟩, ?_⟩
         . rw [show (("1" : Str)) = tx [49] from rfl, tx_app, tx_app, show ((r / 8 : Nat) : Int) = (r : Int) / 8 by omega]
           rfl
         . rw [<- hg, nb_high c]
           simp
         . show ((r : Int) / 8).toNat < (r : Int).toNat
           omega
   . rintro σ H2 Q1 Q2 h ⟨v, e1, i, j, e2, e3, k, e4, z⟩
     exact ⟨v, e1, i, j, e2, e3, k, e4, h _ _ z⟩
theorem sc_l_bits : FnScope ["_law_one", "_law_signs"] ["_law_one"] (defScope s_l_bits) := ⟨rfl, rfl, rfl, by decide +kernel, rfl, by decide +kernel, by decide +kernel⟩
theorem ok_l_bits (T : Txt K mg t) : ∀ n, FnOk P w K mg base CX0 (n + 2) t.a_l_bits t.d_l_bits ["_law_one"] (sp_l_bits K n)
| 0 => T.l_bits.F.ok sc_l_bits (λ vs H Q E h => by obtain ⟨tr, v, rfl, hd, hB, hO, hL, q⟩ := h; exact absurd hd (Nat.not_lt_zero _)) (λ cdv A outer s H vs Q E hr h => by obtain ⟨tr, v, rfl, hd, hB, hO, hL, q⟩ := h; exact absurd hd (Nat.not_lt_zero _))
| n + 1 => by
 have G_l_bits : FnOk P w K mg base CX0 (n + 2) t.a_l_bits t.d_l_bits ["_law_one"] (sp_l_bits K n) := ok_l_bits T n
 have G_l_number : FnOk P w K mg base CX0 1 t.a_l_number t.d_l_number ["_law_number_here"] (sp_l_number K) := ok_l_number T
 refine T.l_bits.F.ok sc_l_bits (λ vs H Q E h => ?_) (λ cdv A outer s H vs Q E hr h => ?_)
 . obtain ⟨tr, v, rfl, hd, hB, hO, hL, q⟩ := h
   rfl
 . obtain ⟨tr, v, rfl, hd, hB, hO, hL, q⟩ := h
   refine ⟨_, (@pss_cons _ _ _ _ _ (@ps_if _ _ _ _ _ _ _ _ (@ptC_cmpR _ _ _ _ _ _ _ _ op_eq (@pe_ix _ _ _ _ _ _ _ (show IxR _ (cIxT K) from ixC_tup) (pvC 0) pe_int (λ _ _ => rfl)) pe_str (nomark _)) (@pss_one _ _ _ (@ps_ret _ _ _ _ (@pe_op _ _ _ _ _ _ _ _ op_add_str pe_str (callD T.l_number G_l_number (hr.mono (by omega)) (@pa_cons _ _ _ _ _ (@pe_ix _ _ _ _ _ _ _ (show IxR _ (cIxT K) from ixC_tup) (pvC 0) pe_int (λ _ _ => rfl)) pa_nil (by rfl)))))) pss_nil) (@pss_cons _ _ _ _ _ (@ps_if _ _ _ _ _ _ _ _ (@ptC_cmpR _ _ _ _ _ _ _ _ op_eq (@pe_ix _ _ _ _ _ _ _ (show IxR _ (cIxT K) from ixC_tup) (pvC 0) pe_int (λ _ _ => rfl)) pe_str (nomark _)) (@pss_one _ _ _ (@ps_ret _ _ _ _ (@pe_op _ _ _ _ _ _ _ _ op_add_str pe_str (callD T.l_number G_l_number (hr.mono (by omega)) (@pa_cons _ _ _ _ _ (@pe_ix _ _ _ _ _ _ _ (show IxR _ (cIxT K) from ixC_tup) (pvC 0) pe_int (λ _ _ => rfl)) pa_nil (by rfl)))))) pss_nil) (@pss_cons _ _ _ _ _ (@ps_set _ _ 1 _ _ _ _ sc_l_bits.nd rfl (Or.inl rfl) (@pe_litL _ _ [V.str "0000", V.str "0001", V.str "0010", V.str "0011", V.str "0100", V.str "0101", V.str "0110", V.str "0111", V.str "1000"] (by kernel_rfl)) (by rfl) (by first | exact .inl rfl | exact .inr rfl | assumption)) (@pss_one _ _ _ (@ps_ret _ _ _ _ (@pe_op _ _ _ _ _ _ _ _ op_add_str (@pe_op _ _ _ _ _ _ _ _ op_add_str (@pe_op _ _ _ _ _ _ _ _ op_add_str pe_str (@pe_ix _ _ _ _ _ _ _ (show IxR _ (cIxL K) from ixC_list) (pvC 1) (pe_bm PySem.F.plainAttrs_str PySem.F.slot_str_index PySem.F.type_str_index mt_sindex pe_str (@pa_cons _ _ _ _ _ (@pe_ix _ _ _ _ _ _ _ (show IxR _ (cIxT K) from ixC_tup) (pvC 0) pe_int (λ _ _ => rfl)) pa_nil (by rfl))) (λ _ _ => rfl))) (callD T.l_bits G_l_bits (hr.mono (by omega)) (@pa_cons _ _ _ _ _ (@pe_ix _ _ _ _ _ _ _ (show IxR _ (cIxT K) from ixC_tup) (pvC 0) pe_int (λ _ _ => rfl)) pa_nil (by rfl)))) (callD T.l_bits G_l_bits (hr.mono (by omega)) (@pa_cons _ _ _ _ _ (@pe_ix _ _ _ _ _ _ _ (show IxR _ (cIxT K) from ixC_tup) (pvC 0) pe_int (λ _ _ => rfl)) pa_nil (by rfl))))))))), ?_⟩
   cases tr with
   | box k =>
     obtain ⟨p, x, y, rfl, e, h1, h2⟩ := dt2 hB
     cases ds_un h1
     cases di_un h2
     have hk := nb_len 15 k hO
     refine ⟨_, rfl, p, _, _, _, rfl, rfl, e, rfl, rfl, _, rfl, iteP (decide_eq_true rfl) ⟨_, rfl, p, _, _, _, rfl, rfl, e, rfl, k, rfl, hO, λ H1 s1 => ⟨_, _, rfl, rfl, fit2 [48] _ (by show 1 + (nb k).length < 1000000; omega), vq (congrArg V.str (nul_tx _)) (q H1 s1)⟩⟩⟩
   | num k =>
     obtain ⟨p, x, y, rfl, e, h1, h2⟩ := dt2 hB
     cases ds_un h1
     cases di_un h2
     have hk := nb_len 15 k hO
     refine ⟨_, rfl, p, _, _, _, rfl, rfl, e, rfl, rfl, _, rfl, iteN (by decide +kernel) ⟨_, rfl, p, _, _, _, rfl, rfl, e, rfl, rfl, _, rfl, iteP (decide_eq_true rfl) ⟨_, rfl, p, _, _, _, rfl, rfl, e, rfl, k, rfl, hO, λ H1 s1 => ⟨_, _, rfl, rfl, fit2 [49, 48] _ (by show 2 + (nb k).length < 1000000; omega), vq (congrArg V.str (ten_tx _)) (q H1 s1)⟩⟩⟩⟩
   | op i l r =>
     obtain ⟨p, xs, rfl, e, hx⟩ := dt_un hB
     obtain ⟨s, x, y, rfl, h1, bl, br⟩ := dat3 hx
     cases ds_un h1
     have hi := hO.1
     have d1 : bdp l < n := by have : max (bdp l) (bdp r) + 1 < n + 1 := hd; omega
     have d2 : bdp r < n := by have : max (bdp l) (bdp r) + 1 < n + 1 := hd; omega
     have hLL : lv l + lv r <= 16 := hL
     have r1 := rb_len (tok_bok hO.2.1)
     have r2 := rb_len (tok_bok hO.2.2)
     refine ⟨_, rfl, p, _, _, _, rfl, rfl, e, at0, rfl, _, rfl, iteN (λ z => (sgn_box i hi).1 (V.str.inj (dec_true z))) ⟨_, rfl, p, _, _, _, rfl, rfl, e, at0, rfl, _, rfl, iteN (λ z => (sgn_box i hi).2 (V.str.inj (dec_true z))) ?_⟩⟩
     refine ⟨le9, λ ls hls => ?_⟩
     have s0 := Same.new (o := .lst tabS) hls
     obtain ⟨rest, ho⟩ : ∃ rest, Builtin.Str.occurrences ("+-*/<=&|^" : Str) (sgn i) 0 ("+-*/<=&|^" : Str).length 1 = i :: rest := by
       have := occ_at i hi
       cases h : Builtin.Str.occurrences ("+-*/<=&|^" : Str) (sgn i) 0 ("+-*/<=&|^" : Str).length 1 with
       | nil => rw [h] at this; cases this
       | cons a b => rw [h] at this; cases this; exact ⟨b, rfl⟩
     refine ⟨_, rfl, rfl, _, rfl, p, _, _, _, rfl, rfl, s0.tup e, at0, _, _, i, rest, rfl, rfl, ho, ls, _, _, _, rfl, rfl, SqL.of upd_same, tabS_at i hi, _, _, rfl, rfl, fit2 [49, 49] _ (by show 2 + (pb i 4).length < 1000000; rw [pb_len]; omega), ?_⟩
     refine ⟨_, rfl, p, _, _, _, rfl, rfl, s0.tup e, rfl, l, x, rfl, d1, DatV.mono s0 _ _ bl, hO.2.1, by omega, λ H2 s2 => ⟨_, _, rfl, rfl, (by rw [elf_tx]; exact fit2 _ _ (by rw [List.length_cons, List.length_cons, pb_len]; omega)), ?_⟩⟩
     refine ⟨_, rfl, p, _, _, _, rfl, rfl, s2.tup (s0.tup e), rfl, r, y, rfl, d2, DatV.mono (s0.trans s2) _ _ br, hO.2.2, by omega, λ H3 s3 => ⟨_, _, rfl, rfl, (by rw [elf_tx, tx_app]; exact fit2 _ _ (by rw [List.length_append, List.length_cons, List.length_cons, pb_len]; omega)), vq (congrArg V.str (by rw [elf_tx, tx_app, tx_app]; rfl)) (q H3 ((s0.trans s2).trans s3))⟩⟩
theorem sc_l_row : FnScope ["_law_marks_here", "_law_bits_here", "_law_last", "_law_chain_here", "_law_views", "_law_k", "_law_row_here", "_law_level", "_law_like", "_law_i", "_law_place_here"] ["_law_marks_here"] (defScope s_l_row) := ⟨rfl, rfl, rfl, by decide +kernel, rfl, by decide +kernel, by decide +kernel⟩
theorem ok_l_row (T : Txt K mg t) : FnOk P w K mg base CX0 20 t.a_l_row t.d_l_row ["_law_marks_here"] (sp_l_row K) := by
 have G_l_number : FnOk P w K mg base CX0 1 t.a_l_number t.d_l_number ["_law_number_here"] (sp_l_number K) := ok_l_number T
 have G_l_bits : FnOk P w K mg base CX0 18 t.a_l_bits t.d_l_bits ["_law_one"] (sp_l_bits K 16) := ok_l_bits T 16
 refine T.l_row.F.ok sc_l_row (λ vs H Q E h => ?_) (λ cdv A outer s H vs Q E hr h => ?_)
 . obtain ⟨v, bs, ms, rfl, hv, hMs, n12, q⟩ := h
   rfl
 . obtain ⟨v, bs, ms, rfl, hv, hMs, n12, q⟩ := h
   refine ⟨_, (@pss_cons _ _ _ _ _ (@ps_set _ _ 1 _ _ _ _ sc_l_row.nd rfl (Or.inl rfl) (@pe_lst _ _ _ _ (@pa_cons _ _ _ _ _ (callD T.l_number G_l_number (hr.mono (by decide)) (@pa_cons _ _ _ _ _ (pe_callB (show CallR _ (.builtin "len") (cLen K) from callC_len) (by rfl) T.b_len bt_len (@pa_cons _ _ _ _ _ (pvC 0) pa_nil (by rfl))) pa_nil (by rfl))) pa_nil (by rfl))) (by rfl) (by first | exact .inl rfl | exact .inr rfl | assumption)) (@pss_cons _ _ _ _ _ (@ps_set _ _ 2 _ _ _ _ sc_l_row.nd rfl (Or.inl rfl) (@pe_tup _ _ _ _ _ (@pa_cons _ _ _ _ _ (@pe_lst _ _ _ _ pa_nil) (@pa_cons _ _ _ _ _ (@pe_lst _ _ _ _ pa_nil) pa_nil (by rfl)) (by rfl))) (by rfl) (by first | exact .inl rfl | exact .inr rfl | assumption)) (@pss_cons _ _ _ _ _ (ps_for PassesOwn.never rfl (pi_list (pvC 0)) (pg_tup rfl (pgs_cons (pg_name (i := 3) sc_l_row.nd rfl (Or.inl rfl)) (pgs_cons (pg_name (i := 4) sc_l_row.nd rfl (Or.inl rfl)) pgs_nil))) (@pss_cons _ _ _ _ _ (@ps_expr _ _ _ _ (pe_bm PySem.F.plainAttrs_list PySem.F.slot_list_append PySem.F.type_list_append mtC_append (pvC 1) (@pa_cons _ _ _ _ _ (callD T.l_number G_l_number (hr.mono (by decide)) (@pa_cons _ _ _ _ _ (pe_callB (show CallR _ (.builtin "len") (cLen K) from callC_len) (by rfl) T.b_len bt_len (@pa_cons _ _ _ _ _ (pvC 3) pa_nil (by rfl))) pa_nil (by rfl))) pa_nil (by rfl))) (by rfl)) (@pss_cons _ _ _ _ _ (ps_for PassesOwn.never rfl (pi_list (pvC 3)) (pg_tup rfl (pgs_cons (pg_name (i := 5) sc_l_row.nd rfl (Or.inl rfl)) (pgs_cons (pg_name (i := 6) sc_l_row.nd rfl (Or.inl rfl)) pgs_nil))) (@pss_one _ _ _ (@ps_expr _ _ _ _ (pe_bm PySem.F.plainAttrs_list PySem.F.slot_list_append PySem.F.type_list_append mtC_append (pvC 1) (@pa_cons _ _ _ _ _ (@pe_op _ _ _ _ _ _ _ _ op_add_str (callD T.l_number G_l_number (hr.mono (by decide)) (@pa_cons _ _ _ _ _ (pvC 5) pa_nil (by rfl))) (callD T.l_number G_l_number (hr.mono (by decide)) (@pa_cons _ _ _ _ _ (pvC 6) pa_nil (by rfl)))) pa_nil (by rfl))) (by rfl)))) (@pss_cons _ _ _ _ _ (ps_for PassesOwn.never rfl (pi_range1 rfl T.b_range (@pa_cons _ _ _ _ _ (pe_callB (show CallR _ (.builtin "len") (cLen K) from callC_len) (by rfl) T.b_len bt_len (@pa_cons _ _ _ _ _ (pvC 3) pa_nil (by rfl))) pa_nil (by rfl))) (pg_name (i := 7) sc_l_row.nd rfl (Or.inl rfl)) (@pss_cutN _ _ _ _ _ (@ps_set _ _ 8 _ _ _ _ sc_l_row.nd rfl (Or.inl rfl) (pe_and (pe_cmpR (opC0 op_lt) (pvC 7) (pe_callB (show CallR _ (.builtin "len") (cLen K) from callC_len) (by rfl) T.b_len bt_len (@pa_cons _ _ _ _ _ (@pe_ix _ _ _ _ _ _ _ (show IxR _ (cIxT K) from ixC_tup) (pvC 2) pe_int (λ _ _ => rfl)) pa_nil (by rfl))) (nomark _)) (pe_one (pe_cmpR op_eq (@pe_ix _ _ _ _ _ _ _ (show IxR _ (cIxT K) from ixC_tup) (@pe_ix _ _ _ _ _ _ _ (show IxR _ (cIxL K) from ixC_list) (@pe_ix _ _ _ _ _ _ _ (show IxR _ (cIxT K) from ixC_tup) (pvC 2) pe_int (λ _ _ => rfl)) (pvC 7) (λ _ _ => rfl)) pe_int (λ _ _ => rfl)) (@pe_ix _ _ _ _ _ _ _ (show IxR _ (cIxT K) from ixC_tup) (@pe_ix _ _ _ _ _ _ _ (show IxR _ (cIxL K) from ixC_list) (pvC 3) (pvC 7) (λ _ _ => rfl)) pe_int (λ _ _ => rfl)) (nomark _)))) (by rfl) (by first | exact .inl rfl | exact .inr rfl | assumption)) (@pss_one _ _ _ (ps_for PassesOwn.never rfl (pi_range1 rfl T.b_range (@pa_cons _ _ _ _ _ (pe_callB (show CallR _ (.builtin "len") (cLen K) from callC_len) (by rfl) T.b_len bt_len (@pa_cons _ _ _ _ _ (@pe_ix _ _ _ _ _ _ _ (show IxR _ (cIxL K) from ixC_list) (pvC 4) (pvC 7) (λ _ _ => rfl)) pa_nil (by rfl))) pa_nil (by rfl))) (pg_name (i := 9) sc_l_row.nd rfl (Or.inl rfl)) (@pss_cons _ _ _ _ _ (@ps_set _ _ 10 _ _ _ _ sc_l_row.nd rfl (Or.inl rfl) (@pe_ix _ _ _ _ _ _ _ (show IxR _ (cIxL K) from ixC_list) (@pe_ix _ _ _ _ _ _ _ (show IxR _ (cIxL K) from ixC_list) (pvC 4) (pvC 7) (λ _ _ => rfl)) (pvC 9) (λ _ _ => rfl)) (by rfl) (by first | exact .inl rfl | exact .inr rfl | assumption)) (@pss_one _ _ _ (@ps_if _ _ _ _ _ _ _ _ (@PW.pt _ _ _ (@pw_and _ _ _ _ _ _ _ (ptC_val (pvC 8)) (@pw_and1 _ _ _ _ (@ptC_cmpR _ _ _ _ _ _ _ _ (op_eqD hr.units) (@pe_ix _ _ _ _ _ _ _ (show IxR _ (cIxL K) from ixC_list) (@pe_ix _ _ _ _ _ _ _ (show IxR _ (cIxL K) from ixC_list) (@pe_ix _ _ _ _ _ _ _ (show IxR _ (cIxT K) from ixC_tup) (pvC 2) pe_int (λ _ _ => rfl)) (pvC 7) (λ _ _ => rfl)) (pvC 9) (λ _ _ => rfl)) (pvC 10) (nomark _))))) (@pss_one _ _ _ (@ps_expr _ _ _ _ (pe_bm PySem.F.plainAttrs_list PySem.F.slot_list_append PySem.F.type_list_append mtC_append (pvC 1) (@pa_cons _ _ _ _ _ pe_str pa_nil (by rfl))) (by rfl))) (@pss_one _ _ _ (@ps_if _ _ _ _ _ _ _ _ (pt_cmp (pc_isN (pvC 10))) (@pss_one _ _ _ (@ps_expr _ _ _ _ (pe_bm PySem.F.plainAttrs_list PySem.F.slot_list_append PySem.F.type_list_append mtC_append (pvC 1) (@pa_cons _ _ _ _ _ pe_str pa_nil (by rfl))) (by rfl))) (@pss_one _ _ _ (@ps_expr _ _ _ _ (pe_bm PySem.F.plainAttrs_list PySem.F.slot_list_append PySem.F.type_list_append mtC_append (pvC 1) (@pa_cons _ _ _ _ _ (@pe_op _ _ _ _ _ _ _ _ op_add_str pe_str (callD T.l_bits G_l_bits (hr.mono (by decide)) (@pa_cons _ _ _ _ _ (pvC 10) pa_nil (by rfl)))) pa_nil (by rfl))) (by rfl)))))))))))) (@pss_one _ _ _ (@ps_set _ _ 2 _ _ _ _ sc_l_row.nd rfl (Or.inl rfl) (@pe_tup _ _ _ _ _ (@pa_cons _ _ _ _ _ (pvC 3) (@pa_cons _ _ _ _ _ (pvC 4) pa_nil (by rfl)) (by rfl))) (by rfl) (by first | exact .inl rfl | exact .inr rfl | assumption))))))) (@pss_one _ _ _ (@ps_ret _ _ _ _ (pe_bm PySem.F.plainAttrs_str PySem.F.slot_str_join PySem.F.type_str_join mt_join pe_str (@pa_cons _ _ _ _ _ (pvC 1) pa_nil (by rfl)))))))), ?_⟩
   obtain ⟨mA, us, rfl, hus, dus⟩ := dl_un hv
   have lus : us.length = ms.length := by rw [da_len dus, List.length_map]
   have okA : ∀ m ∈ ms, MOk bs.length m := λ m hm => (hMs.2 m hm).1
   have h200 := hMs.1
   refine ⟨_, rfl, mA, _, rfl, .inl hus, us.length, rfl, (by rw [num16]; omega), λ H1 s1 => ⟨le1, λ w hw => ?_⟩⟩
   refine ⟨le0, λ c0 hc0 => ⟨le0, λ w0 hw0 => ⟨le2, λ p0 hp0 => ?_⟩⟩⟩
   have x1 := Same.new (o := .lst [V.str (tx (nb us.length))]) hw
   have x2 := Same.new (o := .lst []) hc0
   have x3 := Same.new (o := .lst []) hw0
   have x4 := Same.new (o := .tup [.ref c0, .ref w0]) hp0
   have ew := x4 _ _ (x3 _ _ (x2 _ _ (upd_same (H := H1) (a := w) (o := .lst [V.str (tx (nb us.length))]))))
   have n1 : c0 ≠ w := (ne_of_none upd_same hc0).symm
   have n2 : w0 ≠ w := (ne_of_none (x2 _ _ upd_same) hw0).symm
   have n3 : p0 ≠ w := (ne_of_none (x3 _ _ (x2 _ _ upd_same)) hp0).symm
   have d0 : DatV K (ers w (upd (upd (upd (upd H1 w (.lst [V.str (tx (nb us.length))])) c0 (.lst [])) w0 (.lst [])) p0 (.tup [.ref c0, .ref w0]))) (mkD mk0) (.ref p0) :=
     dt2_mk (SqT.of (by rw [ers_ne n3]; exact upd_same)) (datV_list (SqL.of (by rw [ers_ne n1]; exact x4 _ _ (x3 _ _ upd_same))) datAll_nil) (datV_list (SqL.of (by rw [ers_ne n2]; exact x4 _ _ upd_same)) datAll_nil)
   have s0 := s1.trans (((x1.trans x2).trans x3).trans x4)
   have hwH : H w = none := s1.free hw
   generalize upd (upd (upd (upd H1 w (.lst [V.str (tx (nb us.length))])) c0 (.lst [])) w0 (.lst [])) p0 (.tup [.ref c0, .ref w0]) = G0 at ew d0 s0 ⊢
   refine ⟨_, rfl, mA, rfl, ⟨_, s0.seq hus⟩, (let Jv1 : Nat -> St -> Hp -> Prop := λ i σ H2 => ∃ (lv : V) (v3 v4 v5 v6 v7 v8 v9 v10 : Option V), σ = [some (.ref mA), some (.ref w), some lv, v3, v4, v5, v6, v7, v8, v9, v10] /\ Same H H2 /\ H2 w = some (.lst (stx (nb us.length :: rP ms i))) /\ DatV K (ers w H2) (mkD (prv ms i)) lv; for_list (xs := us) Jv1 ⟨_, none, none, none, none, none, none, none, none, rfl, s0, ew, d0⟩ ?_ ?_ ?_)⟩
   . rintro i σ H2 hi ⟨lv, v3, v4, v5, v6, v7, v8, v9, v10, rfl, s2, _⟩
     exact s2.seq hus
   . rintro i y σ H2 hy ⟨lv, v3, v4, v5, v6, v7, v8, v9, v10, rfl, s2, e2, dlv⟩
     have ilt : i < us.length := (List.getElem?_eq_some_iff.mp hy).1
     have i200 : i < 200 := by omega
     obtain ⟨m, hm, dm⟩ := da_map dus hy
     have gm : ms.getD i mk0 = m := by rw [List.getD_eq_getElem?_getD, hm]; rfl
     have okp : MOk bs.length (prv ms i) /\ CnOk (cnB bs) (prv ms i) := by
       cases i with
       | zero => exact ⟨mk0_ok _, mk0_cn _⟩
       | succ i =>
         show MOk bs.length (ms.getD i mk0) /\ CnOk (cnB bs) (ms.getD i mk0)
         refine hMs.2 _ ?_
         rw [List.getD_eq_getElem?_getD, List.getElem?_eq_getElem (by omega)]
         exact List.getElem_mem _
     have lP : (nb us.length :: rP ms i).length <= 15300 := by
       have := rP_len okA i (by omega)
       rw [List.length_cons]
       omega
     have pE : stx (nb us.length :: rP ms (i + 1)) = stx ((nb us.length :: rP ms i) ++ mP (prv ms i) m) := by rw [rP_succ, gm]; rfl
     have gm' : prv ms (i + 1) = m := gm
     generalize hm0 : prv ms i = m0 at okp dlv pE
     generalize hPC : nb us.length :: rP ms i = PC at e2 lP pE
     obtain ⟨ok0, cn0⟩ := okp
     have okm := okA m (List.mem_of_getElem? hm)
     have cnm := (hMs.2 m (List.mem_of_getElem? hm)).2
     have m3 := okm.l3
     obtain ⟨pA, cv, wv, rfl, hpA, hcv, hwv⟩ := dt2 dm
     obtain ⟨cA, cs, rfl, hcs, dcs⟩ := dl_un hcv
     obtain ⟨wA, ws, rfl, hws, dws⟩ := dl_un hwv
     have lcs : cs.length = m.ch.length := by rw [da_len dcs, List.length_map]
     obtain ⟨lA, cv0, wv0, rfl, hlA, hcv0, hwv0⟩ := dt2 dlv
     obtain ⟨cA0, cs0, rfl, hcs0, dcs0⟩ := dl_un hcv0
     obtain ⟨wA0, ws0, rfl, hws0, dws0⟩ := dl_un hwv0
     have lcs0 : cs0.length = m0.ch.length := by rw [da_len dcs0, List.length_map]
     have sHB : Same H (ers w H2) := same_ers s2 hwH
     have bW : ers w H2 w = none := by unfold ers; rw [if_pos rfl]
     have sB2 : Same (ers w H2) H2 := ers_same
     generalize ers w H2 = B at sHB bW sB2 hlA hcs0 dcs0 hws0 dws0
     refine ⟨pA, _, rfl, s2.tup hpA, rfl, _, _, rfl, _, _, rfl, rfl, ?_⟩
     refine ⟨_, rfl, .inl ⟨rfl, _, SqL.of e2⟩, _, rfl, cA, _, rfl, .inl (s2.seq hcs), cs.length, rfl, (by rw [num16]; omega), λ H3 s3 => ⟨w, _, _, rfl, rfl, s3 _ _ e2, (by rw [stx_len]; exact lt_line (n := PC.length + 1) (by omega)), ?_⟩⟩
     rw [<- stx_snoc]
     have sB3 := (sB2.trans s3).upd (o := .lst (stx (PC ++ [nb cs.length]))) bW
     have e3 := upd_same (H := H3) (a := w) (o := .lst (stx (PC ++ [nb cs.length])))
     generalize upd H3 w (.lst (stx (PC ++ [nb cs.length]))) = H3' at sB3 e3 ⊢
     refine ⟨_, rfl, cA, rfl, ⟨_, (sHB.trans sB3).seq hcs⟩, (let Jv2 : Nat -> St -> Hp -> Prop := λ j σ H4 => ∃ (v5 v6 v7 v8 v9 v10 : Option V), σ = [some (.ref mA), some (.ref w), some (.ref lA), some (.ref cA), some (.ref wA), v5, v6, v7, v8, v9, v10] /\ Same B H4 /\ H4 w = some (.lst (stx (PC ++ [nb cs.length] ++ (m.ch.take j).map fB))); for_list (xs := cs) Jv2 ⟨_, _, _, _, _, _, rfl, sB3, (by rw [List.take_zero, List.map_nil, List.append_nil]; exact e3)⟩ ?_ ?_ ?_)⟩
     . rintro j σ H4 hj ⟨v5, v6, v7, v8, v9, v10, rfl, s4, _⟩
       exact (sHB.trans s4).seq hcs
     . rintro j y σ H4 hy' ⟨v5, v6, v7, v8, v9, v10, rfl, s4, e4⟩
       obtain ⟨c, hc, dc⟩ := da_map dcs hy'
       obtain ⟨fA, y1, y2, rfl, hf, hy1, hy2⟩ := dt2 dc
       cases di_un hy1
       cases di_un hy2
       have ic := okm.ix c (List.mem_of_getElem? hc)
       have jlt : j < m.ch.length := (List.getElem?_eq_some_iff.mp hc).1
       refine ⟨fA, _, rfl, (sHB.trans s4).tup hf, rfl, _, _, rfl, _, _, rfl, rfl, ?_⟩
       refine ⟨_, rfl, .inl ⟨rfl, _, SqL.of e4⟩, _, rfl, c.1, rfl, (by rw [num16]; omega), λ H5 s5 => ⟨_, rfl, c.2, rfl, (by rw [num16]; omega), λ H6 s6 => ⟨_, _, rfl, rfl, ?_, ?_⟩⟩⟩
       . have h1 := nb_small (n := c.1) (by omega)
         have h2 := nb_small (n := c.2) (by omega)
         exact fit2 _ _ (by omega)
       . refine ⟨w, _, _, rfl, rfl, s6 _ _ (s5 _ _ e4), (by rw [stx_len, List.length_append, List.length_append, List.length_map, List.length_take]; exact lt_line (n := PC.length + 1 + min j m.ch.length + 1) (by omega)), _, _, _, _, _, _, rfl, ((s4.trans s5).trans s6).upd bW, ?_⟩
         rw [upd_same, fB_tx, <- stx_snoc, List.take_add_one, hc, List.map_append, <- List.append_assoc]
         rfl
     rintro σ H4 ⟨v5, v6, v7, v8, v9, v10, rfl, s4, e4⟩
     rw [lcs, List.take_length] at e4
     have lQ : (PC ++ [nb m.ch.length] ++ m.ch.map fB).length <= 15304 := by rw [List.length_append, List.length_append, List.length_map]; show PC.length + 1 + m.ch.length <= _; omega
     have pF : PC ++ mP m0 m = PC ++ [nb m.ch.length] ++ m.ch.map fB ++ wP m0 m m.ch.length := by unfold mP; simp
     generalize PC ++ [nb m.ch.length] ++ m.ch.map fB = PQ at e4 lQ pF
     refine ⟨_, rfl, cA, _, rfl, .inl ((sHB.trans s4).seq hcs), _, rfl, by omega, by omega, ?_⟩
     refine (let Jv3 : Nat -> St -> Hp -> Prop := λ j σ H5 => ∃ (v5 v6 v7 v8 v9 v10 : Option V), σ = [some (.ref mA), some (.ref w), some (.ref lA), some (.ref cA), some (.ref wA), v5, v6, v7, v8, v9, v10] /\ Same B H5 /\ H5 w = some (.lst (stx (PQ ++ wP m0 m j))); for_range (lo := 0) (n := cs.length) Jv3 ⟨_, _, _, _, _, _, rfl, s4, (by show H4 w = some (.lst (stx (PQ ++ []))); rw [List.append_nil]; exact e4)⟩ ?_ ?_)
     . rintro j σ H5 hj ⟨v5, v6, v7, v8, v9, v10, rfl, s5, e5⟩
       have s05 := sHB.trans s5
       obtain ⟨d, hd⟩ : ∃ d, m.ch[j]? = some d := ⟨_, List.getElem?_eq_getElem (by omega)⟩
       obtain ⟨yd, hyd, dyd⟩ := da_get dcs hd
       obtain ⟨fA, y1, y2, rfl, hf, hy1, hy2⟩ := dt2 dyd
       cases di_un hy1
       obtain ⟨vw, hvw⟩ : ∃ vw, m.vs[j]? = some vw := ⟨_, List.getElem?_eq_getElem (by rw [okm.vl]; omega)⟩
       obtain ⟨yv, hyv, dyv⟩ := da_get dws hvw
       obtain ⟨vA, ys, rfl, hys, dys⟩ := dl_un dyv
       have lys : ys.length = vw.length := by rw [da_len dys, List.length_map]
       have v24 := okm.c24 vw (List.mem_of_getElem? hvw)
       have okv := okm.ok vw (List.mem_of_getElem? hvw)
       refine (let Jv5 : St -> Hp -> Prop := λ σ G => G = H5 /\ ∃ v5 v6 v9 v10 : Option V, σ = [some (.ref mA), some (.ref w), some (.ref lA), some (.ref cA), some (.ref wA), v5, v6, some (.int (0 + (j : Int))), some (.bl (like m0 j d.1)), v9, v10]; ⟨Jv5, ?_, ?_⟩)
       . refine ⟨_, rfl, _, rfl, lA, _, _, _, rfl, rfl, s5.tup hlA, at0, cA0, _, rfl, .inl (s5.seq hcs0), _, _, rfl, rfl, _, rfl, ?_⟩
         by_cases hj0 : j < m0.ch.length
         case neg =>
           have hL : like m0 j d.1 = false := by unfold like; rw [List.getElem?_eq_none (by omega)]
           exact iteN (by rw [decide_eq_true_eq]; omega) ⟨rfl, v5, v6, v9, v10, by rw [hL]; rfl⟩
         obtain ⟨e, he⟩ : ∃ e, m0.ch[j]? = some e := ⟨_, List.getElem?_eq_getElem hj0⟩
         obtain ⟨ye, hye, dye⟩ := da_get dcs0 he
         obtain ⟨gA, z1, z2, rfl, hg, hz1, hz2⟩ := dt2 dye
         cases di_un hz1
         have hL : like m0 j d.1 = decide (V.int (e.1 : Int) = V.int (d.1 : Int)) := by
           unfold like
           rw [he, Bool.eq_iff_iff, decide_eq_true_eq, decide_eq_true_eq]
           exact ⟨λ h => by rw [h], λ h => by have := V.int.inj h; omega⟩
         exact iteP (by rw [decide_eq_true_eq]; omega) ⟨_, rfl, lA, _, _, _, rfl, rfl, s5.tup hlA, at0, _, rfl, cA0, _, _, _, rfl, rfl, s5.seq hcs0, (by rw [Int.zero_add]; exact atI_nat hye), gA, _, _, _, rfl, rfl, s5.tup hg, at0, _, rfl, _, rfl, cA, _, _, _, rfl, rfl, s05.seq hcs, (by rw [Int.zero_add]; exact atI_nat hyd), fA, _, _, _, rfl, rfl, s05.tup hf, at0, rfl, rfl, v5, v6, v9, v10, by rw [hL]; rfl⟩
       rintro σ G ⟨rfl, v5, v6, v9, v10, rfl⟩
       refine ⟨_, rfl, _, rfl, wA, _, _, _, rfl, rfl, s05.seq hws, (by rw [Int.zero_add]; exact atI_nat hyv), vA, _, rfl, .inl (s05.seq hys), _, rfl, by omega, by omega, ?_⟩
       have lR : (PQ ++ wP m0 m j).length <= 15400 := by
         have := wP_len (m0 := m0) okm j
         rw [List.length_append]
         omega
       have pG : PQ ++ wP m0 m (j + 1) = PQ ++ wP m0 m j ++ vbL (ahd m0 j d.1) vw vw.length := by rw [wP_succ, kAt_of hd, vAt_of hvw, List.append_assoc]
       generalize PQ ++ wP m0 m j = PR at e5 lR pG
       refine (let Jv4 : Nat -> St -> Hp -> Prop := λ k σ H6 => ∃ v5 v6 v9 v10 : Option V, σ = [some (.ref mA), some (.ref w), some (.ref lA), some (.ref cA), some (.ref wA), v5, v6, some (.int (0 + (j : Int))), some (.bl (like m0 j d.1)), v9, v10] /\ Same B H6 /\ H6 w = some (.lst (stx (PR ++ vbL (ahd m0 j d.1) vw k))); for_range (lo := 0) (n := ys.length) Jv4 ⟨_, _, _, _, rfl, s5, (by show G w = some (.lst (stx (PR ++ []))); rw [List.append_nil]; exact e5)⟩ ?_ ?_)
       . rintro k σ H6 hk ⟨v5, v6, v9, v10, rfl, s6, e6⟩
         have s06 := sHB.trans s6
         obtain ⟨o, ho⟩ : ∃ o, vw[k]? = some o := ⟨_, List.getElem?_eq_getElem (by omega)⟩
         obtain ⟨yo, hyo, dyo⟩ := da_get dys ho
         have dB : DatV K B (btO o) yo := L2.DatV.mono sHB _ _ dyo
         have oko := okv o (List.mem_of_getElem? ho)
         have gp : vw.getD k none = o := by rw [List.getD_eq_getElem?_getD, ho]; rfl
         have ln : (stx (PR ++ vbL (ahd m0 j d.1) vw k)).length < sizeLine := by rw [stx_len, List.length_append, vbL_len]; exact lt_line (n := PR.length + k + 1) (by omega)
         clear ho
         refine ⟨_, rfl, _, rfl, wA, _, _, _, rfl, rfl, s06.seq hws, (by rw [Int.zero_add]; exact atI_nat hyv), _, rfl, vA, _, _, _, rfl, rfl, s06.seq hys, (by rw [Int.zero_add]; exact atI_nat hyo), ?_⟩
         refine ⟨_, rfl, _, rfl, ?_⟩
         by_cases hL : like m0 j d.1 = true
         . refine iteP hL ?_
           obtain ⟨e, he⟩ : ∃ e, m0.ch[j]? = some e := by
             unfold like at hL
             cases h : m0.ch[j]? with
             | none => rw [h] at hL; cases hL
             | some e => exact ⟨e, rfl⟩
           have hed : e.1 = d.1 := by
             unfold like at hL
             rw [he] at hL
             exact of_decide_eq_true hL
           have jlt0 : j < m0.ch.length := (List.getElem?_eq_some_iff.mp he).1
           obtain ⟨v0, hv0⟩ : ∃ v0, m0.vs[j]? = some v0 := ⟨_, List.getElem?_eq_getElem (by rw [ok0.vl]; exact jlt0)⟩
           obtain ⟨yw, hyw, dyw⟩ := da_get dws0 hv0
           obtain ⟨vA0, zs, rfl, hzs, dzs⟩ := dl_un dyw
           have l0 : v0.length = vw.length := by rw [cn0 j e v0 he hv0, cnm j d vw hd hvw, hed]
           obtain ⟨a, ha⟩ : ∃ a, v0[k]? = some a := ⟨_, List.getElem?_eq_getElem (by omega)⟩
           obtain ⟨ya, hya, dya⟩ := da_get dzs ha
           have eah : ahd m0 j d.1 = v0 := by unfold ahd; rw [hL, if_pos rfl, List.getD_eq_getElem?_getD, hv0]; rfl
           have hlk : lk (ahd m0 j d.1) o k = PyData.eqv (btO a) (btO o) := by unfold lk; rw [eah, ha]
           have oka := ok0.ok v0 (List.mem_of_getElem? hv0) a (List.mem_of_getElem? ha)
           refine ⟨_, rfl, lA, _, _, _, rfl, rfl, s6.tup hlA, rfl, _, rfl, wA0, _, _, _, rfl, rfl, s6.seq hws0, (by rw [Int.zero_add]; exact atI_nat hyw), _, rfl, vA0, _, _, _, rfl, rfl, s6.seq hzs, (by rw [Int.zero_add]; exact atI_nat hya), _, rfl, _, _, L2.DatV.mono s6 _ _ dya, L2.DatV.mono s6 _ _ dB, bo_shaped oka, bo_shaped oko, _, rfl, ?_⟩
           cases hq : PyData.eqv (btO a) (btO o) with
           | true =>
             refine iteP rfl ⟨_, rfl, .inl ⟨rfl, _, SqL.of e6⟩, w, _, _, rfl, rfl, e6, ln, _, _, _, _, rfl, s6.upd bW, ?_⟩
             rw [upd_same, vbL_succ, <- List.append_assoc, stx_snoc]
             unfold vb1
             rw [gp, if_pos (hlk.trans hq)]
             rfl
           | false =>
             refine iteN Bool.false_ne_true ?_
             refine ⟨_, rfl, _, rfl, ?_⟩
             cases ho : o with
             | none =>
               subst ho
               cases (bo_non dB).mpr rfl
               refine iteP rfl ⟨_, rfl, .inl ⟨rfl, _, SqL.of e6⟩, w, _, _, rfl, rfl, e6, ln, _, _, _, _, rfl, s6.upd bW, ?_⟩
               rw [upd_same, vbL_succ, <- List.append_assoc, stx_snoc]
               unfold vb1
               rw [gp, if_neg (by rw [(hlk.trans hq)]; exact Bool.false_ne_true)]
               rfl
             | some tr =>
               subst ho
               have hr1 := rb_len (tok_bok oko.1)
               have hbd := bdp_lt tr
               have hl8 := oko.2
               refine iteN (λ z => by cases (bo_non dB).mp (dec_true z)) ⟨_, rfl, .inl ⟨rfl, _, SqL.of e6⟩, _, rfl, tr, _, rfl, by omega, L2.DatV.mono s6 _ _ dB, oko.1, by omega, λ H7 s7 => ⟨_, _, rfl, rfl, fit2 [49] _ (by show 1 + (rb tr).length < 1000000; omega), w, _, _, rfl, rfl, s7 _ _ e6, ln, _, _, _, _, rfl, (s6.trans s7).upd bW, ?_⟩⟩
               rw [upd_same, vbL_succ, <- List.append_assoc, stx_snoc]
               unfold vb1
               rw [gp, if_neg (by rw [(hlk.trans hq)]; exact Bool.false_ne_true), show (("1" : Str)) ++ tx (rb tr) = tx (49 :: rb tr) from one_tx _]
               rfl
         . have eah : ahd m0 j d.1 = [] := by unfold ahd; rw [if_neg hL]
           have hlk : lk (ahd m0 j d.1) o k = false := by unfold lk; rw [eah]; rfl
           refine iteN hL (iteF ?_)
           refine ⟨_, rfl, _, rfl, ?_⟩
           cases ho : o with
           | none =>
             subst ho
             cases (bo_non dB).mpr rfl
             refine iteP rfl ⟨_, rfl, .inl ⟨rfl, _, SqL.of e6⟩, w, _, _, rfl, rfl, e6, ln, _, _, _, _, rfl, s6.upd bW, ?_⟩
             rw [upd_same, vbL_succ, <- List.append_assoc, stx_snoc]
             unfold vb1
             rw [gp, if_neg (by rw [hlk]; exact Bool.false_ne_true)]
             rfl
           | some tr =>
             subst ho
             have hr1 := rb_len (tok_bok oko.1)
             have hbd := bdp_lt tr
             have hl8 := oko.2
             refine iteN (λ z => by cases (bo_non dB).mp (dec_true z)) ⟨_, rfl, .inl ⟨rfl, _, SqL.of e6⟩, _, rfl, tr, _, rfl, by omega, L2.DatV.mono s6 _ _ dB, oko.1, by omega, λ H7 s7 => ⟨_, _, rfl, rfl, fit2 [49] _ (by show 1 + (rb tr).length < 1000000; omega), w, _, _, rfl, rfl, s7 _ _ e6, ln, _, _, _, _, rfl, (s6.trans s7).upd bW, ?_⟩⟩
             rw [upd_same, vbL_succ, <- List.append_assoc, stx_snoc]
             unfold vb1
             rw [gp, if_neg (by rw [hlk]; exact Bool.false_ne_true), show (("1" : Str)) ++ tx (rb tr) = tx (49 :: rb tr) from one_tx _]
             rfl
       . rintro σ H6 ⟨v5, v6, v9, v10, rfl, s6, e6⟩
         rw [lys] at e6
         exact ⟨_, _, _, _, _, _, rfl, s6, by rw [pG]; exact e6⟩
     . rintro σ H5 ⟨v5, v6, v7, v8, v9, v10, rfl, s5, e5⟩
       rw [lcs] at e5
       refine ⟨_, rfl, _, rfl, le2, λ pT hpT => ?_⟩
       have xT := Same.new (o := .tup [.ref cA, .ref wA]) hpT
       have nT : pT ≠ w := (ne_of_none e5 hpT).symm
       have s0T := (sHB.trans s5).trans xT
       have sET : Same H (ers w (upd H5 pT (.tup [.ref cA, .ref wA]))) := same_ers s0T hwH
       exact ⟨_, _, _, _, _, _, _, _, _, rfl, s0T, (by rw [pE, pF]; exact xT _ _ e5), by rw [gm']; exact dt2_mk (SqT.of (by rw [ers_ne nT]; exact upd_same)) (L2.DatV.mono sET _ _ hcv) (L2.DatV.mono sET _ _ hwv)⟩
   . rintro σ H2 ⟨lv, v3, v4, v5, v6, v7, v8, v9, v10, rfl, s2, e2, _⟩
     rw [lus] at e2
     refine ⟨rfl, _, rfl, _, w, _, rfl, rfl, SqL.of e2, join_ok ?_, ?_⟩
     . rw [row_flat]
       have := rowB_len okA n12 h200
       omega
     . rw [tx_join, row_flat]
       exact q H2 s2
theorem sc_l_told : FnScope ["_law_built", "_law_marks_here", "_law_told_here", "_law_chain_here", "_law_views", "_law_frames"] ["_law_built", "_law_marks_here"] (defScope s_l_told) := ⟨rfl, rfl, rfl, by decide +kernel, rfl, by decide +kernel, by decide +kernel⟩
theorem ok_l_told (T : Txt K mg t) : FnOk P w K mg base CX0 1 t.a_l_told t.d_l_told ["_law_built", "_law_marks_here"] (sp_l_told K) := by
 refine T.l_told.F.ok sc_l_told (λ vs H Q E h => ?_) (λ cdv A outer s H vs Q E hr h => ?_)
 . obtain ⟨b, bs, v, ms, rfl, hB, hv, hMs, q⟩ := h
   rfl
 . obtain ⟨b, bs, v, ms, rfl, hB, hv, hMs, q⟩ := h
   refine ⟨_, (@pss_cons _ _ _ _ _ (@ps_set _ _ 2 _ _ _ _ sc_l_told.nd rfl (Or.inl rfl) (@pe_lst _ _ _ _ pa_nil) (by rfl) (by first | exact .inl rfl | exact .inr rfl | assumption)) (@pss_cons _ _ _ _ _ (ps_for PassesOwn.never rfl (pi_list (pvC 1)) (pg_tup rfl (pgs_cons (pg_name (i := 3) sc_l_told.nd rfl (Or.inl rfl)) (pgs_cons (pg_name (i := 4) sc_l_told.nd rfl (Or.inl rfl)) pgs_nil))) (@pss_cons _ _ _ _ _ (@ps_set _ _ 5 _ _ _ _ sc_l_told.nd rfl (Or.inl rfl) (pe_callTy call_tuple_of (by rfl) T.b_tuple bt_tuple (@pa_cons _ _ _ _ _ (pe_comp (N' := ["_law_k", "_law_row_here", "_law_built"]) (js := [none, none, some 0]) (by kernel_rfl) rfl (pi_list (pvC 3)) (own_tup (own_cons (own_cons own_nil))) (λ _ _ _ _ => (show PG _ _ (gTup K 2 _) from pg_tup (n := 2) rfl (pgs_cons (pg_name (i := 0) (show (["_law_k", "_law_row_here", "_law_built"] : List Str).Nodup by decide +kernel) rfl (Or.inl rfl) (.inr rfl)) (pgs_cons (pg_name (i := 1) (show (["_law_k", "_law_row_here", "_law_built"] : List Str).Nodup by decide +kernel) rfl (Or.inl rfl) (.inr rfl)) pgs_nil)))) (λ _ _ _ _ => pif_nil) (λ _ _ _ _ => (@pe_tup _ _ _ _ _ (@pa_cons _ _ _ _ _ (@pe_ix _ _ _ _ _ _ _ (show IxR _ (cIxT K) from ixC_tup) (@pe_ix _ _ _ _ _ _ _ (show IxR _ (cIxL K) from ixC_list) (@pe_ix _ _ _ _ _ _ _ (show IxR _ (cIxL K) from ixC_list) (pvC 2) (pvC 0) (λ _ _ => rfl)) pe_int (λ _ _ => rfl)) pe_int (λ _ _ => rfl)) (@pa_cons _ _ _ _ _ (pvC 1) pa_nil (by rfl)) (by rfl))))) pa_nil (by rfl))) (by rfl) (by first | exact .inl rfl | exact .inr rfl | assumption)) (@pss_one _ _ _ (@ps_expr _ _ _ _ (pe_bm PySem.F.plainAttrs_list PySem.F.slot_list_append PySem.F.type_list_append mtC_append (pvC 2) (@pa_cons _ _ _ _ _ (@pe_tup _ _ _ _ _ (@pa_cons _ _ _ _ _ (pvC 5) (@pa_cons _ _ _ _ _ (pe_comp (N' := ["_law_places"]) (js := [none]) (by kernel_rfl) rfl (pi_list (pvC 4)) own_name (λ _ _ _ _ => (pg_name (i := 0) (show (["_law_places"] : List Str).Nodup by decide +kernel) rfl (Or.inl rfl) (.inr rfl))) (λ _ _ _ _ => pif_nil) (λ _ _ _ _ => (pe_callTy (show CallR _ (.type "list") (rLstO K) from call_list_of) (by rfl) T.b_list bt_list (@pa_cons _ _ _ _ _ (pvC 0) pa_nil (by rfl))))) pa_nil (by rfl)) (by rfl))) pa_nil (by rfl))) (by rfl))))) (@pss_one _ _ _ (@ps_ret _ _ _ _ (pvC 2))))), ?_⟩
   obtain ⟨mA, us, rfl, hus, dus⟩ := dl_un hv
   have lus : us.length = ms.length := by rw [da_len dus, List.length_map]
   refine ⟨le0, λ l hl => ?_⟩
   refine ⟨_, rfl, mA, rfl, ⟨_, (Same.new hl).seq hus⟩, (let Jv1 : Nat -> St -> Hp -> Prop := λ i σ H2 => ∃ v3 v4 v5 : Option V, σ = [some (.ref b), some (.ref mA), some (.ref l), v3, v4, v5] /\ Same H H2 /\ ∃ ts, H2 l = some (.lst ts) /\ DatAll K (ers l (nwL H H2)) ((ms.take i).map (tmD (nmB bs))) ts; for_list (xs := us) Jv1 ⟨_, _, _, rfl, Same.new hl, [], upd_same, datAll_nil⟩ ?_ ?_ ?_)⟩
   . rintro i σ H2 hi ⟨v3, v4, v5, rfl, s2, _⟩
     exact s2.seq hus
   . rintro i y σ H2 hy ⟨v3, v4, v5, rfl, s2, ts, e2, d2⟩
     have ilt : i < us.length := (List.getElem?_eq_some_iff.mp hy).1
     obtain ⟨m, hm, dm⟩ := da_map dus hy
     obtain ⟨pA, cv, wv, rfl, hpA, hcv, hwv⟩ := dt2 dm
     obtain ⟨cA, cs, rfl, hcs, dcs⟩ := dl_un hcv
     obtain ⟨wA, ws, rfl, hws, dws⟩ := dl_un hwv
     have okm := (hMs.2 m (List.mem_of_getElem? hm)).1
     have m3 := okm.l3
     have lcs : cs.length = m.ch.length := by rw [da_len dcs, List.length_map]
     have lws : ws.length = m.vs.length := by rw [da_len dws, List.length_map]
     have lts : ts.length = i := by
       rw [da_len d2, List.length_map, List.length_take]
       omega
     refine ⟨pA, _, rfl, s2.tup hpA, rfl, _, _, rfl, _, _, rfl, rfl, ?_⟩
     refine ⟨_, rfl, cA, rfl, ⟨_, s2.seq hcs⟩, λ u hu => (let Jv2 : Nat -> List V -> Hp -> Prop := λ j acc H3 => Same H2 H3 /\ H3 u = some (.lst acc) /\ DatAll K H3 ((m.ch.take j).map (tfD (nmB bs))) acc; comp_list (xs := cs) (by omega) Jv2 ⟨Same.new hu, upd_same, datAll_nil⟩ ?_ ?_ ?_)⟩
     . rintro j acc H3 hj ⟨s3, e3, d3⟩
       refine ⟨e3, ?_, (s2.trans s3).seq hcs⟩
       rw [da_len d3, List.length_map, List.length_take]
       omega
     . rintro j y acc H3 hy' ⟨s3, e3, d3⟩
       obtain ⟨c, hc, dc⟩ := da_map dcs hy'
       obtain ⟨fA, y1, y2, rfl, hf, hy1, hy2⟩ := dt2 dc
       cases di_un hy1
       cases di_un hy2
       obtain ⟨x, hx⟩ : ∃ x, bs[c.1]? = some x := ⟨_, List.getElem?_eq_getElem (okm.ix c (List.mem_of_getElem? hc)).1⟩
       have hX := hB.all x (List.mem_of_getElem? hx)
       have nx : nmB bs c.1 = x.f.name := nmF_at (by rw [List.getElem?_map, hx]; rfl)
       have s03 := s2.trans s3
       refine ⟨fA, _, rfl, s03.tup hf, rfl, _, _, rfl, _, _, rfl, rfl, ?_⟩
       refine ⟨_, rfl, _, rfl, b, _, _, _, rfl, rfl, s03.seq hB.ls, atI_nat (by rw [List.getElem?_map, hx]; rfl), x.e, _, _, _, rfl, rfl, s03.seq hX.en, at0, x.f.fa, _, _, _, rfl, rfl, s03.tup hX.fn.fn, at0, _, rfl, le2, λ p hp => ?_⟩
       have yp := Same.new (o := .tup [.str x.f.name, .int (c.2 : Int)]) hp
       refine ⟨yp _ _ e3, (s3.trans yp).upd hu, upd_same, ?_⟩
       refine DatAll.putT (tupdAll_map (tf_tup _) _) (yp _ _ e3) (da_take (L2.DatAll.mono yp _ _ d3) hc ?_)
       unfold tfD
       rw [nx]
       exact dt2_mk (SqT.of upd_same) (datV_str _) (datV_int _)
     rintro acc H3 ⟨s3, e3, d3⟩
     rw [lcs, List.take_length] at d3
     refine ⟨u, _, rfl, .inl ⟨SqL.of e3, λ tA htA => ?_⟩⟩
     have yt := Same.new (o := .tup acc) htA
     have dT : DatV K (upd H3 tA (.tup acc)) (.tuple (m.ch.map (tfD (nmB bs)))) (.ref tA) := datV_tuple (SqT.of upd_same) (L2.DatAll.mono yt _ _ d3)
     have s24 := s3.trans yt
     generalize upd H3 tA (.tup acc) = H4 at yt dT s24 ⊢
     have e4 := s24 _ _ e2
     have s04 := s2.trans s24
     refine ⟨_, rfl, .inl ⟨rfl, _, SqL.of e4⟩, _, rfl, _, rfl, wA, rfl, ⟨_, s04.seq hws⟩, λ w hw => (let Jv3 : Nat -> List V -> Hp -> Prop := λ j acc H5 => Same H4 H5 /\ H5 w = some (.lst acc) /\ DatAll K (ers l (nwL H (ers w H5))) ((m.vs.take j).map plD) acc; comp_list (xs := ws) (by have := okm.vl; omega) Jv3 ⟨Same.new hw, upd_same, datAll_nil⟩ ?_ ?_ ?_)⟩
     . rintro j acc H5 hj ⟨s5, e5, d5⟩
       refine ⟨e5, ?_, (s04.trans s5).seq hws⟩
       rw [da_len d5, List.length_map, List.length_take]
       omega
     . rintro j y acc H5 hy' ⟨s5, e5, d5⟩
       obtain ⟨vw, hvw, dvw⟩ := da_map dws hy'
       obtain ⟨aA, ys, rfl, hys, dys⟩ := dl_un dvw
       have s05 := s04.trans s5
       refine ⟨_, rfl, aA, ys, rfl, .inl (s05.seq hys), λ q hq => ?_⟩
       have yq := Same.new (o := .lst ys) hq
       have e6 := yq _ _ e5
       have el6 := yq _ _ (s5 _ _ e4)
       have nw : q ≠ w := (ne_of_none e5 hq).symm
       have nl : q ≠ l := (ne_of_none (s5 _ _ e4) hq).symm
       refine ⟨e6, (s5.trans yq).upd hw, upd_same, ?_⟩
       rw [ers_upd]
       have fq : H q = none := s05.free hq
       have hwH : H w = none := s04.free hw
       refine da_take (L2.DatAll.mono (Same.ers (Same.nwL (Same.ers yq))) _ _ d5) hvw (datV_list (SqL.of (by rw [ers_ne nl, nwL_new fq, ers_ne nw]; exact upd_same)) ?_)
       have s06 : Same H (ers w (upd H5 q (.lst ys))) := same_ers (s05.trans yq) hwH
       refine DatAll.ersT (.lst (ys := ts) (by rw [nwL_new hl, ers_ne (ne_of_none e4 hw)]; exact el6)) _ _ (bos_tup _) (DatAll.nwT s06 _ _ (bos_tup _) (L2.DatAll.mono s06 _ _ dys))
     rintro acc H5 ⟨s5, e5, d5⟩
     rw [lws, List.take_length] at d5
     have el5 := s5 _ _ e4
     refine ⟨le2, λ pT hpT => ?_⟩
     have yT := Same.new (o := .tup [.ref tA, .ref w]) hpT
     have nT : pT ≠ l := (ne_of_none el5 hpT).symm
     have nWl : w ≠ l := (ne_of_none e4 hw).symm
     refine ⟨l, _, _, rfl, rfl, yT _ _ el5, lt_line (n := ts.length + 1) (by have := hMs.1; omega), _, _, _, rfl, ((s04.trans s5).trans yT).upd hl, _, upd_same, ?_⟩
     rw [ers_nwL_upd]
     have s05 := s04.trans s5
     have s0T := s05.trans yT
     have fT : H pT = none := s05.free hpT
     have fw : H w = none := s04.free hw
     refine da_take (L2.DatAll.mono (Same.ers (Same.nwL ((s24.trans s5).trans yT))) _ _ d2) hm ?_
     refine dt2_mk (SqT.of (by rw [ers_ne nT, nwL_new fT]; exact upd_same)) (DatV.ersT (.lst (by rw [nwL_new hl]; exact yT _ _ el5)) _ _ (ch_tup _ _) (DatV.nwT s0T _ _ (ch_tup _ _) (L2.DatV.mono (s5.trans yT) _ _ dT))) ?_
     exact datV_list (SqL.of (by rw [ers_ne nWl, nwL_new fw]; exact yT _ _ e5)) (L2.DatAll.mono (Same.ers (Same.nwL (ers_same.trans yT))) _ _ d5)
   . rintro σ H2 ⟨v3, v4, v5, rfl, s2, ts, e2, d2⟩
     rw [lus, List.take_length] at d2
     exact ⟨_, rfl, q l ts H2 s2 hl e2 d2⟩
theorem sc_l_table : FnScope ["_law_built", "_law_all_marks_here"] ["_law_built", "_law_all_marks_here"] (defScope s_l_table) := ⟨rfl, rfl, rfl, by decide +kernel, rfl, by decide +kernel, by decide +kernel⟩
theorem ok_l_table (T : Txt K mg t) : FnOk P w K mg base CX0 2 t.a_l_table t.d_l_table ["_law_built", "_law_all_marks_here"] (sp_l_table K) := by
 have G_l_told : FnOk P w K mg base CX0 1 t.a_l_told t.d_l_told ["_law_built", "_law_marks_here"] (sp_l_told K) := ok_l_told T
 refine T.l_table.F.ok sc_l_table (λ vs H Q E h => ?_) (λ cdv A outer s H vs Q E hr h => ?_)
 . obtain ⟨b, bs, v, mss, rfl, hB, hv, lm, hok, q⟩ := h
   rfl
 . obtain ⟨b, bs, v, mss, rfl, hB, hv, lm, hok, q⟩ := h
   refine ⟨_, (@pss_cons _ _ _ _ _ (@ps_ret _ _ _ _ (pe_comp (N' := ["_law_k", "_law_built", "_law_all_marks_here"]) (js := [none, some 0, some 1]) (by kernel_rfl) rfl (pi_range1 rfl T.b_range (@pa_cons _ _ _ _ _ (pe_callB (show CallR _ (.builtin "len") (cLen K) from callC_len) (by rfl) T.b_len bt_len (@pa_cons _ _ _ _ _ (pvC 0) pa_nil (by rfl))) pa_nil (by rfl))) own_name (λ _ _ _ _ => (pg_name (i := 0) (show (["_law_k", "_law_built", "_law_all_marks_here"] : List Str).Nodup by decide +kernel) rfl (Or.inl rfl) (.inr rfl))) (λ _ _ _ _ => pif_nil) (λ _ _ _ _ => (@pe_tup _ _ _ _ _ (@pa_cons _ _ _ _ _ (@pe_ix _ _ _ _ _ _ _ (show IxR _ (cIxT K) from ixC_tup) (@pe_ix _ _ _ _ _ _ _ (show IxR _ (cIxL K) from ixC_list) (@pe_ix _ _ _ _ _ _ _ (show IxR _ (cIxL K) from ixC_list) (pvC 1) (pvC 0) (λ _ _ => rfl)) pe_int (λ _ _ => rfl)) pe_int (λ _ _ => rfl)) (@pa_cons _ _ _ _ _ (callD T.l_told G_l_told (hr.mono (by decide)) (@pa_cons _ _ _ _ _ (pvC 1) (@pa_cons _ _ _ _ _ (@pe_ix _ _ _ _ _ _ _ (show IxR _ (cIxL K) from ixC_list) (pvC 2) (pvC 0) (λ _ _ => rfl)) pa_nil (by rfl)) (by rfl))) pa_nil (by rfl)) (by rfl)))))) pss_nil), ?_⟩
   obtain ⟨aA, as, rfl, has, das⟩ := dl_un hv
   have n12 := hB.n12
   have lb : (bs.map λ x => V.ref x.e).length = bs.length := List.length_map _
   refine ⟨_, rfl, b, _, rfl, .inl hB.ls, _, rfl, by omega, by omega, λ T hT => (let Jv1 : Nat -> List V -> Hp -> Prop := λ i acc H2 => Same H H2 /\ H2 T = some (.lst acc) /\ ∃ ts : List Te, acc = (ts.map λ t => V.ref t.e) /\ ts.map (·.ms) = mss.take i /\ (∀ (k : Nat) (t : Te), ts[k]? = some t -> SqT K H2 t.e [.str (nmB bs k), .ref t.l] /\ H2 t.l = some (.lst t.us) /\ H t.l = none /\ t.l ≠ T) /\ (∀ t ∈ ts, ∀ t' ∈ ts, DatAll K (ers t'.l (nwL H (ers T H2))) (t.ms.map (tmD (nmB bs))) t.us) /\ ∀ (k j : Nat) (t t' : Te), ts[k]? = some t -> ts[j]? = some t' -> t.l = t'.l -> k = j; comp_range (lo := 0) (n := List.length (List.map (λ x : Bd => V.ref x.e) bs)) (by omega) Jv1 ⟨Same.new hT, upd_same, [], rfl, rfl, (λ k t h => by cases h), (λ t h => by cases h), λ k j t t' h => by cases h⟩ ?_ ?_ ?_)⟩
   . rintro i acc H2 hi ⟨s2, e2, ts, rfl, hms, _⟩
     have := congrArg List.length hms
     rw [List.length_map, List.length_take] at this
     exact ⟨e2, by rw [List.length_map]; omega⟩
   . rintro i acc H2 hi ⟨s2, e2, ts, rfl, hms, hen, hda, hnd⟩
     have lts : ts.length = i := by
       have := congrArg List.length hms
       rw [List.length_map, List.length_take] at this
       omega
     obtain ⟨x, hx⟩ : ∃ x, bs[i]? = some x := ⟨_, List.getElem?_eq_getElem (by omega)⟩
     obtain ⟨ms, hmi⟩ : ∃ ms, mss[i]? = some ms := ⟨_, List.getElem?_eq_getElem (by omega)⟩
     obtain ⟨ya, hya, dya⟩ := da_get das hmi
     have hX := hB.all x (List.mem_of_getElem? hx)
     have nx : nmB bs i = x.f.name := nmF_at (by rw [List.getElem?_map, hx]; rfl)
     refine ⟨_, rfl, _, rfl, b, _, _, _, rfl, rfl, s2.seq hB.ls, (by rw [Int.zero_add]; exact atI_nat (by rw [List.getElem?_map, hx]; rfl)), x.e, _, _, _, rfl, rfl, s2.seq hX.en, at0, x.f.fa, _, _, _, rfl, rfl, s2.tup hX.fn.fn, at0, ?_⟩
     refine ⟨_, rfl, _, rfl, _, rfl, aA, _, _, _, rfl, rfl, s2.seq has, (by rw [Int.zero_add]; exact atI_nat hya), b, bs, ya, ms, rfl, hB.mono s2, L2.DatV.mono s2 _ _ dya, hok ms (List.mem_of_getElem? hmi), λ l us H3 s3 hl e3 d3 => ⟨le2, λ eA heA => ?_⟩⟩
     have y4 := Same.new (o := .tup [.str x.f.name, .ref l]) heA
     have s24 := s3.trans y4
     have nlT : l ≠ T := (ne_of_none e2 hl).symm
     have hfree : H l = none := s2.free hl
     have e4 := s24 _ _ e2
     refine ⟨e4, (s2.trans s24).upd hT, upd_same, ts ++ [⟨eA, l, us, ms⟩], (by rw [List.map_append]; rfl), (by rw [List.map_append, hms, List.take_add_one, hmi]; rfl), λ k t ht => ?_, λ t ht t' ht' => ?_, λ k j t t' hk hj he => ?_⟩
     . have upT : ∀ {a : Addr} {ys : List V}, SqT K (upd H3 eA (.tup [.str x.f.name, .ref l])) a ys -> SqT K (upd (upd H3 eA (.tup [.str x.f.name, .ref l])) T (.lst ((ts.map λ t => V.ref t.e) ++ [.ref eA]))) a ys := λ h => K13.sqT_lst h e4
       by_cases hk : k < ts.length
       . rw [List.getElem?_append_left hk] at ht
         obtain ⟨h1, h2, h3, h4⟩ := hen k t ht
         exact ⟨upT (s24.tup h1), by rw [upd_ne h4]; exact s24 _ _ h2, h3, h4⟩
       . rw [List.getElem?_append_right (by omega)] at ht
         have k0 : k - ts.length = 0 := by
           have := (List.getElem?_eq_some_iff.mp ht).1
           simp at this
           omega
         rw [k0] at ht
         cases ht
         have : k = i := by omega
         subst this
         rw [nx]
         exact ⟨upT (SqT.of upd_same), by rw [upd_ne nlT]; exact y4 _ _ e3, hfree, nlT⟩
     . rw [ers_upd]
       have old : ∀ t ∈ ts, DatAll K (nwL H (ers T H2)) (t.ms.map (tmD (nmB bs))) t.us := λ t h => L2.DatAll.mono ers_same _ _ (hda t h t h)
       have lold : ∀ t' ∈ ts, ∃ ys, H2 t'.l = some (.lst ys) := λ t' h => by
         obtain ⟨k, hk⟩ := List.getElem?_of_mem h
         exact ⟨_, (hen k t' hk).2.1⟩
       have new : ∀ z, (z = l \/ ∃ ys, H2 z = some (.lst ys)) -> Same (ers l (nwL H2 H3)) (ers z (nwL H (ers T (upd H3 eA (.tup [.str x.f.name, .ref l]))))) := λ z hz b' o hb => by
         have nb : b' ≠ l := λ h => by subst h; unfold ers at hb; rw [if_pos rfl] at hb; cases hb
         rw [ers_ne nb] at hb
         obtain ⟨h1, h2⟩ := nwL_un hb
         have nz : b' ≠ z := λ h => by
           subst h
           rcases hz with h | ⟨ys, h⟩
           . exact nb h
           . exact h1 ys h
         have nT : b' ≠ T := λ h => by subst h; exact h1 _ e2
         rw [ers_ne nz, nwL_mk λ ys h => h1 ys (s2 _ _ h), ers_ne nT]
         exact y4 _ _ h2
       rcases List.mem_append.mp ht with h | h
       . rcases List.mem_append.mp ht' with h' | h'
         . exact L2.DatAll.mono (Same.ers (Same.nwL (Same.ers s24))) _ _ (hda t h t' h')
         . rw [List.mem_singleton.mp h']
           exact L2.DatAll.mono (same_ers (Same.nwL (Same.ers s24)) (by rw [nwL_new hfree, ers_ne nlT]; exact hl)) _ _ (old t h)
       . rw [List.mem_singleton.mp h]
         rcases List.mem_append.mp ht' with h' | h'
         . exact L2.DatAll.mono (new t'.l (.inr (lold t' h'))) _ _ d3
         . rw [List.mem_singleton.mp h']
           exact L2.DatAll.mono (new l (.inl rfl)) _ _ d3
     . have isnew : ∀ (k : Nat) (t : Te), (ts ++ [⟨eA, l, us, ms⟩])[k]? = some t -> (k < ts.length /\ ts[k]? = some t) \/ (k = ts.length /\ t.l = l) := λ k t h => by
         by_cases hk : k < ts.length
         . rw [List.getElem?_append_left hk] at h
           exact .inl ⟨hk, h⟩
         . rw [List.getElem?_append_right (by omega)] at h
           have k0 : k - ts.length = 0 := by
             have := (List.getElem?_eq_some_iff.mp h).1
             simp at this
             omega
           rw [k0] at h
           cases h
           exact .inr ⟨by omega, rfl⟩
       have notl : ∀ (k : Nat) (t : Te), ts[k]? = some t -> t.l ≠ l := λ k t h z => by
         have := (hen k t h).2.1
         rw [z, hl] at this
         cases this
       rcases isnew k t hk with ⟨a1, a2⟩ | ⟨a1, a2⟩
       . rcases isnew j t' hj with ⟨b1, b2⟩ | ⟨b1, b2⟩
         . exact hnd k j t t' a2 b2 he
         . exact absurd (he.trans b2) (notl k t a2)
       . rcases isnew j t' hj with ⟨b1, b2⟩ | ⟨b1, b2⟩
         . exact absurd (he.symm.trans a2) (notl j t' b2)
         . omega
   . rintro acc H2 ⟨s2, e2, ts, rfl, hms, hen, hda, hnd⟩
     rw [lb, <- lm, List.take_length] at hms
     exact q T ts H2 s2 hT ⟨e2, hen, λ t h t' h' => L2.DatAll.mono (Same.ers (Same.nwL ers_same)) _ _ (hda t h t' h'), hnd⟩ hms
theorem sc_l_renamed : FnScope ["_law_built", "_law_base"] ["_law_built", "_law_base"] (defScope s_l_renamed) := ⟨rfl, rfl, rfl, by decide +kernel, rfl, by decide +kernel, by decide +kernel⟩
theorem ok_l_renamed (T : Txt K mg t) : FnOk P w K mg base CX0 3 t.a_l_renamed t.d_l_renamed ["_law_built", "_law_base"] (sp_l_renamed K) := by
 have G_l_name : FnOk P w K mg base CX0 2 t.a_l_name t.d_l_name ["_law_cell_here", "_law_k"] (sp_l_name K) := ok_l_name T
 refine T.l_renamed.F.ok sc_l_renamed (λ vs H Q E h => ?_) (λ cdv A outer s H vs Q E hr h => ?_)
 . obtain ⟨b, bs, c, rfl, hB, q⟩ := h
   rfl
 . obtain ⟨b, bs, c, rfl, hB, q⟩ := h
   refine ⟨_, (@pss_cons _ _ _ _ _ (@ps_ret _ _ _ _ (pe_comp (N' := ["_law_k", "_law_one", "_law_base"]) (js := [none, none, some 1]) (by kernel_rfl) rfl (pi_enumL rfl T.b_enumerate (@pa_cons _ _ _ _ _ (pvC 0) pa_nil (by rfl))) (own_tup (own_cons (own_cons own_nil))) (λ _ _ _ _ => (show PG _ _ (gTup K 2 _) from pg_tup (n := 2) rfl (pgs_cons (pg_name (i := 0) (show (["_law_k", "_law_one", "_law_base"] : List Str).Nodup by decide +kernel) rfl (Or.inl rfl) (.inr rfl)) (pgs_cons (pg_name (i := 1) (show (["_law_k", "_law_one", "_law_base"] : List Str).Nodup by decide +kernel) rfl (Or.inl rfl) (.inr rfl)) pgs_nil)))) (λ _ _ _ _ => pif_nil) (λ _ _ _ _ => (@pe_lst _ _ _ _ (@pa_cons _ _ _ _ _ (@pe_op _ _ _ _ _ _ _ _ (show OpR _ (binaryOp .Add) (rCatT K) from op_catT) (@pe_tup _ _ _ _ _ (@pa_cons _ _ _ _ _ (callD T.l_name G_l_name (hr.mono (by decide)) (@pa_cons _ _ _ _ _ (pvC 2) (@pa_cons _ _ _ _ _ (@pe_op _ _ _ _ _ _ _ _ (opC0 op_sub) pe_int (pvC 0)) pa_nil (by rfl)) (by rfl))) pa_nil (by rfl))) (@pe_slice _ _ _ _ _ _ _ _ _ _ (show SlR _ (rSlA K) from sl_tupA) (@pe_ix _ _ _ _ _ _ _ (show IxR _ (cIxL K) from ixC_list) (pvC 1) pe_int (λ _ _ => rfl)) (po_some pe_int) po_none)) (@pa_cons _ _ _ _ _ (@pe_ix _ _ _ _ _ _ _ (show IxR _ (cIxL K) from ixC_list) (pvC 1) pe_int (λ _ _ => rfl)) pa_nil (by rfl)) (by rfl)))))) pss_nil), ?_⟩
   have n12 := hB.n12
   have lb : (bs.map λ x => V.ref x.e).length = bs.length := List.length_map _
   refine ⟨_, rfl, b, rfl, ⟨_, hB.ls⟩, λ u hu => (let Jv1 : Nat -> List V -> Hp -> Prop := λ i acc H2 => Same H H2 /\ H2 u = some (.lst acc) /\ ∃ bs' : List Bd, acc = (bs'.map λ x => V.ref x.e) /\ (∀ x ∈ bs', EntAt K (ers u H2) x) /\ bs'.map (λ x => x.f.name) = ((List.range i).map λ j : Nat => nmL c (25 - (j : Int))) /\ bs'.map (·.cnt) = (bs.take i).map (·.cnt); comp_enumL (xs := bs.map λ x => V.ref x.e) (by omega) Jv1 ⟨Same.new hu, upd_same, [], rfl, (λ x hx => by cases hx), rfl, rfl⟩ ?_ ?_ ?_)⟩
   . rintro i acc H2 hi ⟨s2, e2, bs', rfl, _, hb, _⟩
     have := congrArg List.length hb
     rw [List.length_map, List.length_map, List.length_range] at this
     exact ⟨e2, by rw [List.length_map, this]; exact Nat.le_refl _, s2.seq hB.ls⟩
   . rintro i y acc H2 p hy ⟨s2, e2, bs', rfl, hall, hb, hc⟩ hp
     obtain ⟨x, hx, hxm, rfl⟩ := map_at hy
     have hX := hB.all x hxm
     have s3 := Same.new (o := .tup [.int i, .ref x.e]) hp
     refine ⟨p, _, rfl, SqT.of upd_same, rfl, _, _, rfl, _, _, rfl, rfl, ?_⟩
     have e3 := s3 _ _ e2
     generalize upd H2 p (.tup [.int i, .ref x.e]) = H3 at s3 e3 ⊢
     have s03 := s2.trans s3
     refine ⟨_, rfl, _, rfl, _, _, rfl, rfl, c, 25 - (i : Int), rfl, λ H4 s4 => ⟨le1, λ t1 ht1 => ?_⟩⟩
     have y1 := Same.new (o := .tup [.str (nmL c (25 - (i : Int)))]) ht1
     have s14 := s4.trans y1
     have s0 := s03.trans s14
     refine ⟨_, rfl, x.e, _, _, _, rfl, rfl, s0.seq hX.en, at0, _, rfl, rSlA_of (s0.tup hX.fn.fn) λ t2 H5 s5 h5 => ?_⟩
     have nk := nmL_nm c (25 - (i : Int))
     have ec : cutV [V.str x.f.name, x.f.fo, .ref x.f.pa, .ref x.f.ra] (some 1) none = [x.f.fo, .ref x.f.pa, .ref x.f.ra] := rfl
     rw [ec] at h5
     refine ⟨t1, t2, _, _, rfl, rfl, s5.tup (SqT.of upd_same), h5, (by simp), le4, (λ h => by cases h), λ _ fa hfa => ?_⟩
     have y6 := Same.new (o := .tup ([V.str (nmL c (25 - (i : Int)))] ++ [x.f.fo, .ref x.f.pa, .ref x.f.ra])) hfa
     have s06 := (s0.trans s5).trans y6
     have hfT : SqT K (upd H5 fa (.tup ([V.str (nmL c (25 - (i : Int)))] ++ [x.f.fo, .ref x.f.pa, .ref x.f.ra]))) fa [V.str (nmL c (25 - (i : Int))), x.f.fo, .ref x.f.pa, .ref x.f.ra] := SqT.of upd_same
     have e6 := y6 _ _ (s5 _ _ (s14 _ _ e3))
     generalize upd H5 fa (.tup ([V.str (nmL c (25 - (i : Int)))] ++ [x.f.fo, .ref x.f.pa, .ref x.f.ra])) = H6 at y6 s06 hfT e6 ⊢
     refine ⟨_, rfl, x.e, _, _, _, rfl, rfl, s06.seq hX.en, rfl, le2, λ e he => ?_⟩
     have y7 := Same.new (o := .lst [.ref fa, .int x.cnt]) he
     have s36 : Same H3 H6 := (s14.trans s5).trans y6
     have e7 := y7 _ _ e6
     have ne : e ≠ u := (ne_of_none e6 he).symm
     have hX7 := hX.mono (s06.trans y7)
     have eE := upd_same (H := H6) (a := e) (o := .lst [.ref fa, .int x.cnt])
     refine ⟨e7, ((s2.trans (s3.trans s36)).trans y7).upd hu, upd_same, bs' ++ [⟨⟨nmL c (25 - (i : Int)), x.f.fo, fa, x.f.pa, x.f.ra, x.f.ps, x.f.rs, x.f.ds⟩, x.cnt, e⟩], (by rw [List.map_append]; rfl), λ z hz => ?_, ?_, ?_⟩
     . rw [ers_upd]
       rcases List.mem_append.mp hz with h | h
       . exact (hall z h).mono (Same.ers ((s3.trans s36).trans y7))
       . rw [List.mem_singleton.mp h]
         exact ent_ers (x := ⟨⟨nmL c (25 - (i : Int)), x.f.fo, fa, x.f.pa, x.f.ra, x.f.ps, x.f.rs, x.f.ds⟩, x.cnt, e⟩) ⟨SqL.of eE, fn_named hX7 (y7.tup hfT), hX7.hd, hX.ne, hX.cn, nk.2, hX7.dr⟩ e7 eE ne
     . rw [List.map_append, hb, List.range_succ, List.map_append]
       rfl
     . rw [List.map_append, hc, List.take_add_one, hx, List.map_append]
       rfl
   . rintro acc H2 ⟨s2, e2, bs', rfl, hall, hb, hc⟩
     rw [lb] at hb hc
     have hlen : bs'.length = bs.length := by
       have := congrArg List.length hb
       rwa [List.length_map, List.length_map, List.length_range] at this
     rw [List.take_length] at hc
     refine q u bs' H2 s2 ⟨SqL.of e2, λ x hx => (hall x hx).mono ers_same, λ h => hB.n0 (List.length_eq_zero_iff.mp (by rw [<- hlen, h]; rfl)), by omega, ?_⟩ hlen λ k => ?_
     . rw [hb]
       exact names_nd2 n12
     . unfold cnB
       have : (bs'.map (·.cnt))[k]? = (bs.map (·.cnt))[k]? := by rw [hc]
       rw [List.getElem?_map, List.getElem?_map] at this
       rw [this]
theorem sc_l_all_marks : FnScope ["_law_script", "_law_built", "_law_big", "_law_found", "_law_k", "_law_many"] ["_law_script", "_law_built", "_law_big"] (defScope s_l_all_marks) := ⟨rfl, rfl, rfl, by decide +kernel, rfl, by decide +kernel, by decide +kernel⟩
theorem ok_l_all_marks (T : Txt K mg t) : FnOk P w K mg base CX0 15 t.a_l_all_marks t.d_l_all_marks ["_law_script", "_law_built", "_law_big"] (sp_l_all_marks K) := by
 have G_l_part : FnOk P w K mg base CX0 1 t.a_l_part t.d_l_part ["_law_cell_here", "_law_j", "_law_many"] (sp_l_part K) := ok_l_part T
 have G_l_marks : FnOk P w K mg base CX0 14 t.a_l_marks t.d_l_marks ["_law_script", "_law_at", "_law_built", "_law_many"] (sp_l_marks K) := ok_l_marks T
 have G_l_cell : FnOk P w K mg base CX0 1 t.a_l_cell t.d_l_cell ["_law_script", "_law_k"] (sp_l_cell K) := ok_l_cell T
 refine T.l_all_marks.F.ok sc_l_all_marks (λ vs H Q E h => ?_) (λ cdv A outer s H vs Q E hr h => ?_)
 . obtain ⟨a, ns, b, bs, big, rfl, hS, hl, hB, q⟩ := h
   rfl
 . obtain ⟨a, ns, b, bs, big, rfl, hS, hl, hB, q⟩ := h
   refine ⟨_, (@pss_cons _ _ _ _ _ (@ps_set _ _ 3 _ _ _ _ sc_l_all_marks.nd rfl (Or.inl rfl) (@pe_lst _ _ _ _ pa_nil) (by rfl) (by first | exact .inl rfl | exact .inr rfl | assumption)) (@pss_cons _ _ _ _ _ (ps_for PassesOwn.never rfl (pi_range1 rfl T.b_range (@pa_cons _ _ _ _ _ (pe_callB (show CallR _ (.builtin "len") (cLen K) from callC_len) (by rfl) T.b_len bt_len (@pa_cons _ _ _ _ _ (pvC 1) pa_nil (by rfl))) pa_nil (by rfl))) (pg_name (i := 4) sc_l_all_marks.nd rfl (Or.inl rfl)) (@pss_cons _ _ _ _ _ (@ps_set _ _ 5 _ _ _ _ sc_l_all_marks.nd rfl (Or.inl rfl) (@pe_op _ _ _ _ _ _ _ _ (opC0 op_add) pe_int (callD T.l_part G_l_part (hr.mono (by decide)) (@pa_cons _ _ _ _ _ (callD T.l_cell G_l_cell (hr.mono (by decide)) (@pa_cons _ _ _ _ _ (pvC 0) (@pa_cons _ _ _ _ _ pe_int pa_nil (by rfl)) (by rfl))) (@pa_cons _ _ _ _ _ (pvC 4) (@pa_cons _ _ _ _ _ pe_int pa_nil (by rfl)) (by rfl)) (by rfl)))) (by rfl) (by first | exact .inl rfl | exact .inr rfl | assumption)) (@pss_cutN _ _ _ _ _ (@ps_if _ _ _ _ _ _ _ _ (ptC_val (pvC 2)) (@pss_one _ _ _ (@ps_set _ _ 5 _ _ _ _ sc_l_all_marks.nd rfl (Or.inl rfl) (@pe_op _ _ _ _ _ _ _ _ (opC0 op_add) pe_int (callD T.l_part G_l_part (hr.mono (by decide)) (@pa_cons _ _ _ _ _ (callD T.l_cell G_l_cell (hr.mono (by decide)) (@pa_cons _ _ _ _ _ (pvC 0) (@pa_cons _ _ _ _ _ pe_int pa_nil (by rfl)) (by rfl))) (@pa_cons _ _ _ _ _ pe_int (@pa_cons _ _ _ _ _ pe_int pa_nil (by rfl)) (by rfl)) (by rfl)))) (by rfl) (by first | exact .inl rfl | exact .inr rfl | assumption))) pss_nil) (@pss_cutN _ _ _ _ _ (@ps_if _ _ _ _ _ _ _ _ (@ptC_cmpR _ _ _ _ _ _ _ _ op_eq (pe_callB (show CallR _ (.builtin "len") (cLen K) from callC_len) (by rfl) T.b_len bt_len (@pa_cons _ _ _ _ _ (pvC 1) pa_nil (by rfl))) pe_int (nomark _)) (@pss_one _ _ _ (@ps_set _ _ 5 _ _ _ _ sc_l_all_marks.nd rfl (Or.inl rfl) pe_int (by rfl) (by first | exact .inl rfl | exact .inr rfl | assumption))) pss_nil) (@pss_cutN _ _ _ _ _ (@ps_if _ _ _ _ _ _ _ _ (@PW.pt _ _ _ (@pw_and _ _ _ _ _ _ _ (@ptC_cmpR _ _ _ _ _ _ _ _ op_eq (pe_callB (show CallR _ (.builtin "len") (cLen K) from callC_len) (by rfl) T.b_len bt_len (@pa_cons _ _ _ _ _ (pvC 1) pa_nil (by rfl))) pe_int (nomark _)) (@pw_and _ _ _ _ _ _ _ (pt_not (ptC_val (pvC 2))) (@pw_and1 _ _ _ _ (@ptC_cmpR _ _ _ _ _ _ _ _ op_eq (callD T.l_part G_l_part (hr.mono (by decide)) (@pa_cons _ _ _ _ _ (callD T.l_cell G_l_cell (hr.mono (by decide)) (@pa_cons _ _ _ _ _ (pvC 0) (@pa_cons _ _ _ _ _ pe_int pa_nil (by rfl)) (by rfl))) (@pa_cons _ _ _ _ _ pe_int (@pa_cons _ _ _ _ _ pe_int pa_nil (by rfl)) (by rfl)) (by rfl))) pe_int (nomark _)))))) (@pss_one _ _ _ (@ps_set _ _ 5 _ _ _ _ sc_l_all_marks.nd rfl (Or.inl rfl) (@pe_op _ _ _ _ _ _ _ _ (opC0 op_add) pe_int (callD T.l_part G_l_part (hr.mono (by decide)) (@pa_cons _ _ _ _ _ (callD T.l_cell G_l_cell (hr.mono (by decide)) (@pa_cons _ _ _ _ _ (pvC 0) (@pa_cons _ _ _ _ _ pe_int pa_nil (by rfl)) (by rfl))) (@pa_cons _ _ _ _ _ pe_int (@pa_cons _ _ _ _ _ pe_int pa_nil (by rfl)) (by rfl)) (by rfl)))) (by rfl) (by first | exact .inl rfl | exact .inr rfl | assumption))) pss_nil) (@pss_one _ _ _ (@ps_expr _ _ _ _ (pe_bm PySem.F.plainAttrs_list PySem.F.slot_list_append PySem.F.type_list_append mtC_append (pvC 3) (@pa_cons _ _ _ _ _ (callD T.l_marks G_l_marks (hr.mono (by decide)) (@pa_cons _ _ _ _ _ (pvC 0) (@pa_cons _ _ _ _ _ (@pe_op _ _ _ _ _ _ _ _ (opC0 op_add) pe_int (@pe_op _ _ _ _ _ _ _ _ (opC1 op_mul) pe_int (pvC 4))) (@pa_cons _ _ _ _ _ (pvC 1) (@pa_cons _ _ _ _ _ (pvC 5) pa_nil (by rfl)) (by rfl)) (by rfl)) (by rfl))) pa_nil (by rfl))) (by rfl)))))))) (@pss_one _ _ _ (@ps_ret _ _ _ _ (pvC 3))))), ?_⟩
   have n12 := hB.n12
   have lb : (bs.map λ x => V.ref x.e).length = bs.length := List.length_map _
   have nat : ∀ (k j m : Int), 0 < m -> ∃ n : Nat, k + part (cellF ns 0) j m = k + n /\ (n : Int) < m := λ k j m hm => by
     have h := part_bd (cellF ns 0) j m hm
     obtain ⟨n, e⟩ := Int.eq_ofNat_of_zero_le h.1
     exact ⟨n, by rw [e], by omega⟩
   refine ⟨le0, λ l hl0 => ?_⟩
   refine ⟨_, rfl, b, _, rfl, .inl ((Same.new hl0).seq hB.ls), _, rfl, by omega, by omega, ?_⟩
   refine (let Jv1 : Nat -> St -> Hp -> Prop := λ i σ H2 => ∃ v4 v5 : Option V, σ = [some (.ref a), some (.ref b), some (.bl big), some (.ref l), v4, v5] /\ Same H H2 /\ ∃ (us : List V) (mss : List (List Mk)), H2 l = some (.lst us) /\ DatAll K (ers l H2) (mss.map msL) us /\ mss.length = i /\ ∀ ms ∈ mss, MsOk bs ms /\ ms ≠ []; for_range (lo := 0) (n := List.length (List.map (λ x : Bd => V.ref x.e) bs)) Jv1 ⟨_, _, rfl, Same.new hl0, [], [], upd_same, datAll_nil, rfl, λ ms h => by cases h⟩ ?_ ?_)
   . rintro i σ H2 hi ⟨v4, v5, rfl, s2, us, mss, e2, d2, lm, hok⟩
     have lus : us.length = i := by rw [da_len d2, List.length_map, lm]
     refine ⟨_, rfl, a, ns, 0, rfl, s2.seq hS, hl, by decide, by decide, _, rfl, cellF ns 0, 0 + (i : Int), 3, rfl, by omega, by decide, λ H3 s3 => ⟨_, _, rfl, rfl, ?_⟩⟩
     refine (let Jv2 : St -> Hp -> Prop := λ σ G => ∃ n : Nat, σ = [some (.ref a), some (.ref b), some (.bl big), some (.ref l), some (.int (0 + (i : Int))), some (.int n)] /\ Same H2 G /\ 1 <= n /\ n <= 200; ⟨Jv2, ?_, ?_⟩)
     . refine ⟨_, rfl, _, rfl, ite2 (λ _ => ?_) (λ _ => ?_)⟩
       . obtain ⟨n, en, bn⟩ := nat 1 6 200 (by decide)
         refine ⟨_, rfl, a, ns, 0, rfl, (s2.trans s3).seq hS, hl, by decide, by decide, cellF ns 0, 6, 200, rfl, by decide, by decide, λ H4 s4 => ⟨_, _, rfl, rfl, 1 + n, ?_, s3.trans s4, by omega, by omega⟩⟩
         rw [en]
         rfl
       . obtain ⟨n, en, bn⟩ := nat 1 (0 + (i : Int)) 3 (by decide)
         refine ⟨1 + n, ?_, s3, by omega, by omega⟩
         rw [en]
         rfl
     rintro σ G1 ⟨n, rfl, sG1, n1, n2⟩
     refine (let Jv3 : St -> Hp -> Prop := λ σ G => ∃ n : Nat, σ = [some (.ref a), some (.ref b), some (.bl big), some (.ref l), some (.int (0 + (i : Int))), some (.int n)] /\ Same H2 G /\ 1 <= n /\ n <= 200; ⟨Jv3, ?_, ?_⟩)
     . exact ⟨_, rfl, b, _, rfl, .inl ((s2.trans sG1).seq hB.ls), rfl, _, rfl, ite2 (λ _ => ⟨1, rfl, sG1, by decide, by decide⟩) (λ _ => ⟨n, rfl, sG1, n1, n2⟩)⟩
     rintro σ G2 ⟨n, rfl, sG2, n1, n2⟩
     refine (let Jv4 : St -> Hp -> Prop := λ σ G => ∃ n : Nat, σ = [some (.ref a), some (.ref b), some (.bl big), some (.ref l), some (.int (0 + (i : Int))), some (.int n)] /\ Same H2 G /\ 1 <= n /\ n <= 200; ⟨Jv4, ?_, ?_⟩)
     . refine ⟨_, rfl, b, _, rfl, .inl ((s2.trans sG2).seq hB.ls), rfl, _, rfl, ite2 (λ _ => ?_) (λ _ => iteF ⟨n, rfl, sG2, n1, n2⟩)⟩
       refine ⟨_, rfl, _, rfl, ite2 (λ _ => ?_) (λ _ => iteF ⟨n, rfl, sG2, n1, n2⟩)⟩
       refine ⟨_, rfl, a, ns, 0, rfl, (s2.trans sG2).seq hS, hl, by decide, by decide, cellF ns 0, 5, 2, rfl, by decide, by decide, λ H4 s4 => ⟨rfl, _, rfl, ite2 (λ _ => ?_) (λ _ => ⟨n, rfl, sG2.trans s4, n1, n2⟩)⟩⟩
       obtain ⟨n', en, bn⟩ := nat 4 4 6 (by decide)
       refine ⟨_, rfl, a, ns, 0, rfl, ((s2.trans sG2).trans s4).seq hS, hl, by decide, by decide, cellF ns 0, 4, 6, rfl, by decide, by decide, λ H5 s5 => ⟨_, _, rfl, rfl, 4 + n', ?_, (sG2.trans s4).trans s5, by omega, by omega⟩⟩
       rw [en]
       rfl
     rintro σ G3 ⟨n, rfl, sG3, n1, n2⟩
     have e3 := sG3 _ _ e2
     have s03 := s2.trans sG3
     refine ⟨_, rfl, .inl ⟨rfl, _, SqL.of e3⟩, _, rfl, _, rfl, _, _, rfl, rfl, .inl ⟨by decide, by decide⟩, _, _, rfl, rfl, _, rfl, _, rfl, a, ns, 4 + 5 * (0 + (i : Int)), b, bs, n, rfl, s03.seq hS, hl, by omega, by omega, hB.mono s03, n2, λ ms v H4 s4 d4 dz4 lms oks => ?_⟩
     have e4 := s4 _ _ e3
     refine ⟨l, _, _, rfl, rfl, e4, lt_line (n := us.length + 1) (by omega), _, _, rfl, (s03.trans s4).upd hl0, us ++ [v], mss ++ [ms], upd_same, ?_, by rw [List.length_append, lm]; rfl, λ m hm => ?_⟩
     . rw [ers_upd, List.map_append]
       exact da_snoc (L2.DatAll.mono (Same.ers (sG3.trans s4)) _ _ d2) (dz4 l _ e3)
     . rcases List.mem_append.mp hm with h | h
       . exact hok m h
       . rw [List.mem_singleton.mp h]
         exact ⟨oks, λ z => by rw [z] at lms; simp at lms; omega⟩
   . rintro σ H2 ⟨v4, v5, rfl, s2, us, mss, e2, d2, lm, hok⟩
     rw [lb] at lm
     exact ⟨_, rfl, q mss _ H2 s2 (datV_list (SqL.of e2) (L2.DatAll.mono ers_same _ _ d2)) lm hok⟩
theorem sc_law : FnScope ["_law_script", "_law_big", "_law_built", "_law_all_marks_here", "_law_program_here", "_law_due", "_law_table_here", "_law_handed", "_law_found", "_law_other"] ["_law_script"] (defScope s_law) := ⟨rfl, rfl, rfl, by decide +kernel, rfl, by decide +kernel, by decide +kernel⟩
theorem ok_law (T : Txt K mg t) : FnOk P w K mg base CX0 25 t.a_law t.d_law ["_law_script"] (sp_law K) := by
 have G_l_program : FnOk P w K mg base CX0 4 t.a_l_program t.d_l_program ["_law_script", "_law_big"] (sp_l_program K) := ok_l_program T
 have G_l_all_marks : FnOk P w K mg base CX0 15 t.a_l_all_marks t.d_l_all_marks ["_law_script", "_law_built", "_law_big"] (sp_l_all_marks K) := ok_l_all_marks T
 have G_l_table : FnOk P w K mg base CX0 2 t.a_l_table t.d_l_table ["_law_built", "_law_all_marks_here"] (sp_l_table K) := ok_l_table T
 have G_pack : FnOk P w K mg base CX0 24 t.a_pack t.d_pack ["program", "table"] (sp_pack K) := ok_pack T
 have G_l_renamed : FnOk P w K mg base CX0 3 t.a_l_renamed t.d_l_renamed ["_law_built", "_law_base"] (sp_l_renamed K) := ok_l_renamed T
 have G_l_row : FnOk P w K mg base CX0 20 t.a_l_row t.d_l_row ["_law_marks_here"] (sp_l_row K) := ok_l_row T
 have G_l_cell : FnOk P w K mg base CX0 1 t.a_l_cell t.d_l_cell ["_law_script", "_law_k"] (sp_l_cell K) := ok_l_cell T
 refine T.law.F.ok sc_law (λ vs H Q E h => ?_) (λ cdv A outer s H vs Q E hr h => ?_)
 . obtain ⟨a, ns, rfl, hS, hl, q⟩ := h
   rfl
 . obtain ⟨a, ns, rfl, hS, hl, q⟩ := h
   refine ⟨_, (@pss_cons _ _ _ _ _ (@ps_set _ _ 1 _ _ _ _ sc_law.nd rfl (Or.inl rfl) (pe_cmpR op_eq (@pe_op _ _ _ _ _ _ _ _ (opC1 op_mod) (callD T.l_cell G_l_cell (hr.mono (by decide)) (@pa_cons _ _ _ _ _ (pvC 0) (@pa_cons _ _ _ _ _ pe_int pa_nil (by rfl)) (by rfl))) pe_int) pe_int (nomark _)) (by rfl) (by first | exact .inl rfl | exact .inr rfl | assumption)) (@pss_cons _ _ _ _ _ (@ps_set _ _ 2 _ _ _ _ sc_law.nd rfl (Or.inl rfl) (callD T.l_program G_l_program (hr.mono (by decide)) (@pa_cons _ _ _ _ _ (pvC 0) (@pa_cons _ _ _ _ _ (pvC 1) pa_nil (by rfl)) (by rfl))) (by rfl) (by first | exact .inl rfl | exact .inr rfl | assumption)) (@pss_cons _ _ _ _ _ (@ps_set _ _ 3 _ _ _ _ sc_law.nd rfl (Or.inl rfl) (callD T.l_all_marks G_l_all_marks (hr.mono (by decide)) (@pa_cons _ _ _ _ _ (pvC 0) (@pa_cons _ _ _ _ _ (pvC 2) (@pa_cons _ _ _ _ _ (pvC 1) pa_nil (by rfl)) (by rfl)) (by rfl))) (by rfl) (by first | exact .inl rfl | exact .inr rfl | assumption)) (@pss_cons _ _ _ _ _ (ps_setc (i := 4) sc_law.nd rfl (Or.inl rfl) (N' := ["_law_one"]) (js := [none]) (by kernel_rfl) rfl (pi_list (pvC 2)) own_name (λ _ _ _ _ => (pg_name (i := 0) (show (["_law_one"] : List Str).Nodup by decide +kernel) rfl (Or.inl rfl) (.inr rfl))) (λ _ _ _ _ => pif_nil) (λ _ _ _ _ => (@pe_ix _ _ _ _ _ _ _ (show IxR _ (cIxL K) from ixC_list) (pvC 0) pe_int (λ _ _ => rfl))) (by rfl)) (@pss_cons _ _ _ _ _ (ps_setc (i := 5) sc_law.nd rfl (Or.inl rfl) (N' := ["_law_marks_here"]) (js := [none]) (by kernel_rfl) rfl (pi_list (pvC 3)) own_name (λ _ _ _ _ => (pg_name (i := 0) (show (["_law_marks_here"] : List Str).Nodup by decide +kernel) rfl (Or.inl rfl) (.inr rfl))) (λ _ _ _ _ => pif_nil) (λ _ _ _ _ => (callD T.l_row G_l_row (hr.mono (by decide)) (@pa_cons _ _ _ _ _ (pvC 0) pa_nil (by rfl)))) (by rfl)) (@pss_cons _ _ _ _ _ (@ps_set _ _ 6 _ _ _ _ sc_law.nd rfl (Or.inl rfl) (callD T.l_table G_l_table (hr.mono (by decide)) (@pa_cons _ _ _ _ _ (pvC 2) (@pa_cons _ _ _ _ _ (pvC 3) pa_nil (by rfl)) (by rfl))) (by rfl) (by first | exact .inl rfl | exact .inr rfl | assumption)) (@pss_cutN _ _ _ _ _ (@ps_set _ _ 7 _ _ _ _ sc_law.nd rfl (Or.inl rfl) (pe_callTy call_list_of (by rfl) T.b_list bt_list (@pa_cons _ _ _ _ _ (pvC 4) pa_nil (by rfl))) (by rfl) (by first | exact .inl rfl | exact .inr rfl | assumption)) (@pss_cons _ _ _ _ _ (@ps_set _ _ 8 _ _ _ _ sc_law.nd rfl (Or.inl rfl) (callD T.pack G_pack (hr.mono (by decide)) (@pa_cons _ _ _ _ _ (pvC 7) (@pa_cons _ _ _ _ _ (pvC 6) pa_nil (by rfl)) (by rfl))) (by rfl) (by first | exact .inl rfl | exact .inr rfl | assumption)) (@pss_cons _ _ _ _ _ (@ps_if _ _ _ _ _ _ _ _ (@PW.pt _ _ _ (pw_or (pt_not (ptC_val (pe_callB call_isinst (by rfl) T.b_isinstance bt_isinstance (@pa_cons _ _ _ _ _ (pvC 8) (@pa_cons _ _ _ _ _ (pe_bltn (v := V.ty "list") rfl T.b_list bt_list rfl) pa_nil (by rfl)) (by rfl))))) (pw_or (@ptC_cmpR _ _ _ _ _ _ _ _ (op_neD hr.units) (pvC 8) (pvC 5) (nomark _)) (pw_or (@ptC_cmpR _ _ _ _ _ _ _ _ (op_neD hr.units) (pvC 7) (pvC 4) (nomark _)) (pw_or1 (@ptC_cmpR _ _ _ _ _ _ _ _ (op_neD hr.units) (pvC 6) (callD T.l_table G_l_table (hr.mono (by decide)) (@pa_cons _ _ _ _ _ (pvC 2) (@pa_cons _ _ _ _ _ (pvC 3) pa_nil (by rfl)) (by rfl))) (nomark _))))))) (@pss_one _ _ _ (@ps_ret _ _ _ _ pe_bl)) pss_nil) (@pss_cons _ _ _ _ _ (@ps_if _ _ _ _ _ _ _ _ (@ptC_cmpR _ _ _ _ _ _ _ _ (op_neD hr.units) (pe_comp (N' := ["_law_one"]) (js := [none]) (by kernel_rfl) rfl (pi_list (pvC 8)) own_name (λ _ _ _ _ => (pg_name (i := 0) (show (["_law_one"] : List Str).Nodup by decide +kernel) rfl (Or.inl rfl) (.inr rfl))) (λ _ _ _ _ => (pif_one (pt_not (ptC_val (pe_callB (show CallR _ (.builtin "isinstance") (rIsi K) from call_isinst) (by rfl) T.b_isinstance bt_isinstance (@pa_cons _ _ _ _ _ (pvC 0) (@pa_cons _ _ _ _ _ (pe_bltn (v := V.ty "str") rfl T.b_str bt_str rfl) pa_nil (by rfl)) (by rfl))))))) (λ _ _ _ _ => (pvC 0))) (@pe_lst _ _ _ _ pa_nil) (nomark _)) (@pss_one _ _ _ (@ps_ret _ _ _ _ pe_bl)) pss_nil) (@pss_cons _ _ _ _ _ (@ps_expr _ _ _ _ (pe_bm0 PySem.F.plainAttrs_list PySem.F.slot_list_clear PySem.F.type_list_clear mt_clear (pvC 8)) (by rfl)) (@pss_cons _ _ _ _ _ (@ps_set _ _ 9 _ _ _ _ sc_law.nd rfl (Or.inl rfl) (callD T.l_renamed G_l_renamed (hr.mono (by decide)) (@pa_cons _ _ _ _ _ (pvC 2) (@pa_cons _ _ _ _ _ (callD T.l_cell G_l_cell (hr.mono (by decide)) (@pa_cons _ _ _ _ _ (pvC 0) (@pa_cons _ _ _ _ _ pe_int pa_nil (by rfl)) (by rfl))) pa_nil (by rfl)) (by rfl))) (by rfl) (by first | exact .inl rfl | exact .inr rfl | assumption)) (@pss_cons _ _ _ _ _ (@ps_if _ _ _ _ _ _ _ _ (@ptC_cmpR _ _ _ _ _ _ _ _ (op_neD hr.units) (callD T.pack G_pack (hr.mono (by decide)) (@pa_cons _ _ _ _ _ (pe_comp (N' := ["_law_one"]) (js := [none]) (by kernel_rfl) rfl (pi_list (pvC 9)) own_name (λ _ _ _ _ => (pg_name (i := 0) (show (["_law_one"] : List Str).Nodup by decide +kernel) rfl (Or.inl rfl) (.inr rfl))) (λ _ _ _ _ => pif_nil) (λ _ _ _ _ => (@pe_ix _ _ _ _ _ _ _ (show IxR _ (cIxL K) from ixC_list) (pvC 0) pe_int (λ _ _ => rfl)))) (@pa_cons _ _ _ _ _ (callD T.l_table G_l_table (hr.mono (by decide)) (@pa_cons _ _ _ _ _ (pvC 9) (@pa_cons _ _ _ _ _ (pvC 3) pa_nil (by rfl)) (by rfl))) pa_nil (by rfl)) (by rfl))) (pvC 5) (nomark _)) (@pss_one _ _ _ (@ps_ret _ _ _ _ pe_bl)) pss_nil) (@pss_cons _ _ _ _ _ (@ps_set _ _ 9 _ _ _ _ sc_law.nd rfl (Or.inl rfl) (@pe_lst _ _ _ _ (@pa_cons _ _ _ _ _ (@pe_tup _ _ _ _ _ (@pa_cons _ _ _ _ _ pe_str (@pa_cons _ _ _ _ _ pe_bl (@pa_cons _ _ _ _ _ (@pe_tup _ _ _ _ _ (@pa_cons _ _ _ _ _ pe_str pa_nil (by rfl))) (@pa_cons _ _ _ _ _ (@pe_tup _ _ _ _ _ (@pa_cons _ _ _ _ _ (@pe_tup _ _ _ _ _ (@pa_cons _ _ _ _ _ pe_str (@pa_cons _ _ _ _ _ pe_int pa_nil (by rfl)) (by rfl))) pa_nil (by rfl))) pa_nil (by rfl)) (by rfl)) (by rfl)) (by rfl))) pa_nil (by rfl))) (by rfl) (by first | exact .inl rfl | exact .inr rfl | assumption)) (@pss_cons _ _ _ _ _ (@ps_if _ _ _ _ _ _ _ _ (@ptC_cmpR _ _ _ _ _ _ _ _ (op_neD hr.units) (callD T.pack G_pack (hr.mono (by decide)) (@pa_cons _ _ _ _ _ (pvC 9) (@pa_cons _ _ _ _ _ (@pe_lst _ _ _ _ (@pa_cons _ _ _ _ _ (@pe_tup _ _ _ _ _ (@pa_cons _ _ _ _ _ pe_str (@pa_cons _ _ _ _ _ (@pe_lst _ _ _ _ (@pa_cons _ _ _ _ _ (@pe_tup _ _ _ _ _ (@pa_cons _ _ _ _ _ (@pe_tup _ _ _ _ _ (@pa_cons _ _ _ _ _ (@pe_tup _ _ _ _ _ (@pa_cons _ _ _ _ _ pe_str (@pa_cons _ _ _ _ _ pe_int pa_nil (by rfl)) (by rfl))) pa_nil (by rfl))) (@pa_cons _ _ _ _ _ (@pe_lst _ _ _ _ (@pa_cons _ _ _ _ _ (@pe_lst _ _ _ _ (@pa_cons _ _ _ _ _ (@pe_tup _ _ _ _ _ (@pa_cons _ _ _ _ _ pe_str (@pa_cons _ _ _ _ _ pe_int pa_nil (by rfl)) (by rfl))) pa_nil (by rfl))) pa_nil (by rfl))) pa_nil (by rfl)) (by rfl))) pa_nil (by rfl))) pa_nil (by rfl)) (by rfl))) pa_nil (by rfl))) pa_nil (by rfl)) (by rfl))) (@pe_lst _ _ _ _ (@pa_cons _ _ _ _ _ pe_str pa_nil (by rfl))) (nomark _)) (@pss_one _ _ _ (@ps_ret _ _ _ _ pe_bl)) pss_nil) (@pss_cutN _ _ _ _ _ (@ps_if _ _ _ _ _ _ _ _ (@ptC_cmpR _ _ _ _ _ _ _ _ (opC0 op_gt) (pe_callB (show CallR _ (.builtin "len") (cLen K) from callC_len) (by rfl) T.b_len bt_len (@pa_cons _ _ _ _ _ (@pe_ix _ _ _ _ _ _ _ (show IxR _ (cIxL K) from ixC_list) (pvC 3) pe_int (λ _ _ => rfl)) pa_nil (by rfl))) pe_int (nomark _)) (@pss_cons _ _ _ _ _ (@ps_expr _ _ _ _ (pe_bm0 PySem.F.plainAttrs_list PySem.F.slot_list_pop PySem.F.type_list_pop mt_pop (@pe_ix _ _ _ _ _ _ _ (show IxR _ (cIxT K) from ixC_tup) (@pe_ix _ _ _ _ _ _ _ (show IxR _ (cIxL K) from ixC_list) (pvC 6) pe_int (λ _ _ => rfl)) pe_int (λ _ _ => rfl))) (by rfl)) (@pss_one _ _ _ (ps_asg (callD T.l_row G_l_row (hr.mono (by decide)) (@pa_cons _ _ _ _ _ (@pe_slice _ _ _ _ _ _ _ _ _ _ sl_list (@pe_ix _ _ _ _ _ _ _ (show IxR _ (cIxL K) from ixC_list) (pvC 3) pe_int (λ _ _ => rfl)) po_none (po_some (pe_un un_neg pe_int))) pa_nil (by rfl))) (pg_sub (pvC 5) pe_int set_list)))) pss_nil) (@pss_one _ _ _ (@ps_ret _ _ _ _ (pe_cmpR (op_eqD hr.units) (callD T.pack G_pack (hr.mono (by decide)) (@pa_cons _ _ _ _ _ (pvC 4) (@pa_cons _ _ _ _ _ (pvC 6) pa_nil (by rfl)) (by rfl))) (pvC 5) (nomark _)))))))))))))))))))), ?_⟩
   refine ⟨_, rfl, a, ns, 0, rfl, hS, hl, by decide, by decide, _, _, rfl, rfl, (show (0 : Int) < 16 by decide), rfl, ?_⟩
   generalize decide (V.int (cellF ns 0 % 16) = V.int 5) = bg
   refine ⟨_, rfl, _, rfl, a, ns, bg, rfl, hS, hl, λ b bs H1 s1 hB1 => ?_⟩
   refine ⟨_, rfl, _, rfl, _, rfl, a, ns, b, bs, bg, rfl, s1.seq hS, hl, hB1, λ mss av H2 s2 dA lm hok => ?_⟩
   obtain ⟨aA, as, rfl, has, das⟩ := dl_un dA
   have las : as.length = mss.length := by rw [da_len das, List.length_map]
   have hB2 := hB1.mono s2
   have n12 := hB2.n12
   have lb : (bs.map λ x => V.ref x.e).length = bs.length := List.length_map _
   refine ⟨_, rfl, b, rfl, ⟨_, hB2.ls⟩, λ P hP => (let Jv1 : Nat -> List V -> Hp -> Prop := λ i acc H3 => Same H2 H3 /\ H3 P = some (.lst acc) /\ acc = (bs.take i).map λ x => V.ref x.f.fa; comp_list (xs := bs.map λ x => V.ref x.e) (by omega) Jv1 ⟨Same.new hP, upd_same, rfl⟩ ?_ ?_ ?_)⟩
   . rintro i acc H3 hi ⟨s3, e3, rfl⟩
     exact ⟨e3, by rw [List.length_map, List.length_take]; omega, s3.seq hB2.ls⟩
   . rintro i y acc H3 hy ⟨s3, e3, rfl⟩
     obtain ⟨x, hx, hxm, rfl⟩ := map_at hy
     refine ⟨_, rfl, x.e, _, _, _, rfl, rfl, s3.seq (hB2.all x hxm).en, at0, e3, s3.upd hP, upd_same, ?_⟩
     rw [List.take_add_one, hx, List.map_append]
     rfl
   rintro acc H3 ⟨s3, e3, rfl⟩
   rw [lb, List.take_length] at e3
   refine ⟨_, rfl, aA, rfl, ⟨_, s3.seq has⟩, λ D hD => (let Jv2 : Nat -> List V -> Hp -> Prop := λ i acc H4 => Same H3 H4 /\ H4 D = some (.lst acc) /\ acc = (mss.take i).map λ ms => V.str (tx (rowB ms)); comp_list (xs := as) (by omega) Jv2 ⟨Same.new hD, upd_same, rfl⟩ ?_ ?_ ?_)⟩
   . rintro i acc H4 hi ⟨s4, e4, rfl⟩
     exact ⟨e4, by rw [List.length_map, List.length_take]; omega, (s3.trans s4).seq has⟩
   . rintro i y acc H4 hy ⟨s4, e4, rfl⟩
     obtain ⟨ms, hm, dm⟩ := da_map das hy
     refine ⟨_, rfl, y, bs, ms, rfl, L2.DatV.mono (s3.trans s4) _ _ dm, (hok ms (List.mem_of_getElem? hm)).1, n12, λ H5 s5 => ⟨s5 _ _ e4, (s4.trans s5).upd hD, upd_same, ?_⟩⟩
     rw [List.take_add_one, hm, List.map_append]
     rfl
   rintro acc H4 ⟨s4, e4, rfl⟩
   rw [las, List.take_length] at e4
   have s24 := s3.trans s4
   have s04 := (s1.trans s2).trans s24
   have hB4 := hB2.mono s24
   have hA4 : DatV K H4 (.list (mss.map msL)) (.ref aA) := L2.DatV.mono s24 _ _ dA
   have e34 := s4 _ _ e3
   have hE4 : ∀ f ∈ bs.map (·.f), F2.FnAt K H4 f := λ f hf => by
     obtain ⟨x, hx, rfl⟩ := List.mem_map.mp hf
     exact (hB4.all x hx).fn
   have hT4 : ∀ x ∈ bs, HasT K H4 5 (.ref x.f.fa) := λ x hx => (hB4.all x hx).has
   have nok : ∀ k < bs.length, PyData.strOk (nmB bs k) = true := λ k hk => by
     unfold nmB
     rw [nmF_at (f := bs[k].f) (by rw [List.getElem?_map, List.getElem?_eq_getElem hk]; rfl)]
     exact (hB4.all _ (List.getElem_mem hk)).ok
   have fne : bs.map (·.f) ≠ [] := λ z => hB4.n0 (List.map_eq_nil_iff.mp z)
   have fl : (bs.map (·.f)).length = bs.length := List.length_map _
   have fnd : ((bs.map (·.f)).map (·.name)).Nodup := by rw [List.map_map]; exact hB4.nd
   have pr : (bs.map λ x => V.ref x.f.fa) = (bs.map (·.f)).map λ f => V.ref f.fa := by rw [List.map_map]; rfl
   refine ⟨_, rfl, _, rfl, b, bs, .ref aA, mss, rfl, hB4, hA4, lm, λ ms h => (hok ms h).1, λ T ts H5 s5 hT hTab hts => ?_⟩
   have s05 := s04.trans s5
   have tbok : ∀ {m : List (List Mk)}, (∀ ms ∈ m, MsOk bs ms) -> ∀ e ∈ tbl (nmB bs) m, e.2.length <= 200 /\ ∀ k ∈ e.2, MOk (bs.map (·.f)).length k := λ h e he => by
     have := h e.2 (tbl_mem he).1
     rw [fl]
     exact ⟨this.1, λ k hk => (this.2 k hk).1⟩
   have okm : ∀ ms ∈ mss, MsOk bs ms := λ ms h => (hok ms h).1
   have dTab : ∀ {Hx : Hp} {Tx : Addr} {tx : List Te}, TabAt K H4 Hx Tx (nmB bs) tx -> tx.map (·.ms) = mss -> DatV K Hx (.list ((tbl (nmB bs) mss).map (teD (nmB bs)))) (.ref Tx) := λ h e => by have := tab_dat h; rw [e] at this; exact this
   have tlay : ∀ d ∈ (tbl (nmB bs) mss).map (teD (nmB bs)), Lay 13 d := lay_map λ e he => te_lay (n := bs.length) (λ m hm => ((okm _ (tbl_mem he).1).2 m hm).1) nok (by obtain ⟨_, k, hk, ek⟩ := tbl_mem he; rw [ek]; exact nok k (by omega))
   refine (let Jv5 : St -> Hp -> Prop := λ σ G => ∃ h0 : Addr, σ = [some (.ref a), some (.bl bg), some (.ref b), some (.ref aA), some (.ref P), some (.ref D), some (.ref T), some (.ref h0), none, none] /\ G = upd H5 h0 (.lst (bs.map λ x => V.ref x.f.fa)) /\ H5 h0 = none; ⟨Jv5, ?_, ?_⟩)
   . exact ⟨_, rfl, P, _, rfl, .inl (SqL.of (s5 _ _ e34)), λ h0 hh0 => ⟨h0, rfl, rfl, hh0⟩⟩
   rintro σ G ⟨h0, rfl, rfl, hh0⟩
   have y6 := Same.new (o := .lst (bs.map λ x => V.ref x.f.fa)) hh0
   have e6 := upd_same (H := H5) (a := h0) (o := .lst (bs.map λ x => V.ref x.f.fa))
   generalize upd H5 h0 (.lst (bs.map λ x => V.ref x.f.fa)) = H6 at y6 e6 ⊢
   have s46 := s5.trans y6
   refine ⟨_, rfl, _, rfl, h0, .ref T, List.map (λ x : Bd => x.f) bs, tbl (nmB bs) mss, rfl, SqL.of (by rw [e6, pr]), fne, by omega, λ f hf => (hE4 f hf).mono s46, fnd, L2.DatV.mono y6 _ _ (dTab hTab hts), by rw [tbl_len]; omega, tbok okm, λ F H7 s7 hF e7 => ?_⟩
   rw [tbl_rows (nmB bs) mss λ ms => V.str (tx (rowB ms))] at e7
   have s47 := s46.trans s7
   have dF : DatV K H7 (.list (mss.map λ ms => PyData.str (tx (rowB ms)))) (.ref F) := datV_list (SqL.of e7) (datAll_map λ ms _ => datV_str _)
   have dD : ∀ {G : Hp}, Same H4 G -> DatV K G (.list (mss.map λ ms => PyData.str (tx (rowB ms)))) (.ref D) := λ s => datV_list (SqL.of (s _ _ e4)) (datAll_map λ ms _ => datV_str _)
   have rlay : Lay 1 (.list (mss.map λ ms => PyData.str (tx (rowB ms)))) := Lay.list (rows_lay mss)
   refine ⟨_, rfl, _, _, _, true, rfl, .lst e7, rfl, _, rfl, iteF ?_⟩
   refine ⟨_, rfl, _, rfl, rNeD_same (by decide) rlay dF (dD s47) ⟨_, rfl, iteN Bool.false_ne_true ?_⟩⟩
   have hTA : HasTA K H4 5 (bs.map λ x : Bd => V.ref x.f.fa) := HasTA.of λ v hv => by
     obtain ⟨x, hx, rfl⟩ := List.mem_map.mp hv
     exact hT4 x hx
   obtain ⟨pds, pt1, pl, pd⟩ := hTA
   refine ⟨_, rfl, _, rfl, rNeD_same (n := 6) (by decide) (Lay.list pl) (datV_list (SqL.of (s7 _ _ e6)) (L2.DatAll.mono s47 _ _ pd)) (datV_list (SqL.of (s47 _ _ e34)) (L2.DatAll.mono s47 _ _ pd)) ⟨_, rfl, iteN Bool.false_ne_true ?_⟩⟩
   refine ⟨_, rfl, _, rfl, _, rfl, b, bs, .ref aA, mss, rfl, hB4.mono s47, L2.DatV.mono s47 _ _ hA4, lm, okm, λ T2 ts2 H8 s8 hT2 hTab2 hts2 => ?_⟩
   have d8 : DatV K H8 (.list ((tbl (nmB bs) mss).map (teD (nmB bs)))) (.ref T2) := by have := tab_dat hTab2; rw [hts2] at this; exact this
   refine rNeD_same (n := 14) (by decide) (Lay.list tlay) (L2.DatV.mono ((y6.trans s7).trans s8) _ _ (dTab hTab hts)) d8 ⟨_, rfl, iteN Bool.false_ne_true ?_⟩
   have e8 := s8 _ _ e7
   refine ⟨_, rfl, F, rfl, ⟨_, SqL.of e8⟩, λ u hu => (let Jv3 : Nat -> List V -> Hp -> Prop := λ i acc H9 => Same H8 H9 /\ H9 u = some (.lst acc) /\ acc = []; comp_list (xs := mss.map λ ms => V.str (tx (rowB ms))) (by rw [List.length_map]; omega) Jv3 ⟨Same.new hu, upd_same, rfl⟩ ?_ ?_ ?_)⟩
   . rintro i acc H9 hi ⟨s9, e9, rfl⟩
     exact ⟨e9, Nat.zero_le _, SqL.of (s9 _ _ e8)⟩
   . rintro i y acc H9 hy ⟨s9, e9, rfl⟩
     obtain ⟨ms, _, _, rfl⟩ := map_at hy
     exact ⟨_, rfl, _, _, _, true, rfl, .str _, rfl, _, rfl, iteF ⟨s9, e9, rfl⟩⟩
   rintro acc H9 ⟨s9, e9, rfl⟩
   refine ⟨le0, λ el hel => rNeD_same (n := 1) (d := .list []) (by decide) (Lay.list λ d h => by cases h) (datV_list (SqL.of (Same.new hel _ _ e9)) datAll_nil) (datV_list (SqL.of upd_same) datAll_nil) ⟨_, rfl, iteN Bool.false_ne_true ?_⟩⟩
   have s8a := s9.trans (Same.new (o := .lst []) hel)
   have eFa := s8a _ _ e8
   generalize upd H9 el (.lst []) = Ha at s8a eFa ⊢
   refine ⟨_, rfl, .inl ⟨rfl, _, SqL.of eFa⟩, F, _, rfl, rfl, eFa, ?_⟩
   have s6b : Same H6 (upd Ha F (.lst [])) := ((s7.trans s8).trans s8a).upd hF
   generalize upd Ha F (.lst []) = Hb at s6b ⊢
   have s4b := s46.trans s6b
   refine ⟨_, rfl, _, rfl, a, ns, 2, rfl, (s04.trans s4b).seq hS, hl, by decide, by decide, b, bs, cellF ns 2, rfl, hB4.mono s4b, λ b' bs' Hc sc hB' lb' cn' => ?_⟩
   have s4c := s4b.trans sc
   have lbb : (bs'.map λ x => V.ref x.e).length = bs'.length := List.length_map _
   refine ⟨_, rfl, b', rfl, ⟨_, hB'.ls⟩, λ P' hP' => (let Jv4 : Nat -> List V -> Hp -> Prop := λ i acc H3 => Same Hc H3 /\ H3 P' = some (.lst acc) /\ acc = (bs'.take i).map λ x => V.ref x.f.fa; comp_list (xs := bs'.map λ x => V.ref x.e) (by omega) Jv4 ⟨Same.new hP', upd_same, rfl⟩ ?_ ?_ ?_)⟩
   . rintro i acc H3 hi ⟨s3, e3, rfl⟩
     exact ⟨e3, by rw [List.length_map, List.length_take]; omega, s3.seq hB'.ls⟩
   . rintro i y acc H3 hy ⟨s3, e3, rfl⟩
     obtain ⟨x, hx, hxm, rfl⟩ := map_at hy
     refine ⟨_, rfl, x.e, _, _, _, rfl, rfl, s3.seq (hB'.all x hxm).en, at0, e3, s3.upd hP', upd_same, ?_⟩
     rw [List.take_add_one, hx, List.map_append]
     rfl
   rintro acc Hd ⟨sd, ed, rfl⟩
   rw [lbb, List.take_length] at ed
   have s4d := s4c.trans sd
   have hBd := hB'.mono sd
   have okm' : ∀ ms ∈ mss, MsOk bs' ms := λ ms h => ⟨(okm ms h).1, λ m hm => by
     have := (okm ms h).2 m hm
     rw [lb']
     exact ⟨this.1, λ l c v h1 h2 => by rw [cn']; exact this.2 l c v h1 h2⟩⟩
   refine ⟨_, rfl, _, rfl, b', bs', .ref aA, mss, rfl, hBd, L2.DatV.mono s4d _ _ hA4, lm.trans lb'.symm, okm', λ T3 ts3 He se hT3 hTab3 hts3 => ?_⟩
   have d3 : DatV K He (.list ((tbl (nmB bs') mss).map (teD (nmB bs')))) (.ref T3) := by have := tab_dat hTab3; rw [hts3] at this; exact this
   have fl' : (bs'.map (·.f)).length = bs'.length := List.length_map _
   refine ⟨P', .ref T3, List.map (λ x : Bd => x.f) bs', tbl (nmB bs') mss, rfl, SqL.of (by rw [se _ _ ed, List.map_map]; rfl), (λ z => hBd.n0 (List.map_eq_nil_iff.mp z)), by omega, (λ f hf => by
     obtain ⟨x, hx, rfl⟩ := List.mem_map.mp hf
     exact (hBd.all x hx).fn.mono se), (by rw [List.map_map]; exact hBd.nd), d3, by rw [tbl_len]; omega, (λ e he => by
     have := okm' e.2 (tbl_mem he).1
     rw [fl']
     exact ⟨this.1, λ k hk => (this.2 k hk).1⟩), λ FB Hf sf hFB ef => ?_⟩
   rw [tbl_rows (nmB bs') mss λ ms => V.str (tx (rowB ms))] at ef
   have s4f := (s4d.trans se).trans sf
   refine ⟨_, rfl, rNeD_same (by decide) rlay (datV_list (SqL.of ef) (datAll_map λ ms _ => datV_str _)) (dD s4f) ⟨_, rfl, iteN Bool.false_ne_true ?_⟩⟩
   refine ⟨le1, λ q1 hq1 => ⟨le2, λ bk hbk => ⟨le1, λ rw1 hrw1 => ⟨le4, λ fa hfa => ⟨le1, λ O hO => ?_⟩⟩⟩⟩⟩
   have z1 := Same.new (o := .tup [V.str "b"]) hq1
   have z2 := Same.new (o := .tup [V.str "back", V.int 0]) hbk
   have z3 := Same.new (o := .tup [V.ref bk]) hrw1
   have z4 := Same.new (o := .tup [V.str "a", V.bl false, V.ref q1, V.ref rw1]) hfa
   have z5 := Same.new (o := .lst [V.ref fa]) hO
   have c1 := SqT.of (K := K) (z5 _ _ (z4 _ _ (z3 _ _ (z2 _ _ (upd_same (H := Hf) (a := q1) (o := .tup [V.str "b"]))))))
   have c2 := SqT.of (K := K) (z5 _ _ (z4 _ _ (z3 _ _ (upd_same (H := upd Hf q1 (.tup [V.str "b"])) (a := bk) (o := .tup [V.str "back", V.int 0])))))
   have c3 := SqT.of (K := K) (z5 _ _ (z4 _ _ (upd_same (H := upd (upd Hf q1 (.tup [V.str "b"])) bk (.tup [V.str "back", V.int 0])) (a := rw1) (o := .tup [V.ref bk]))))
   have c4 := SqT.of (K := K) (z5 _ _ (upd_same (H := upd (upd (upd Hf q1 (.tup [V.str "b"])) bk (.tup [V.str "back", V.int 0])) rw1 (.tup [V.ref bk])) (a := fa) (o := .tup [V.str "a", V.bl false, V.ref q1, V.ref rw1])))
   have c5 := SqL.of (K := K) (upd_same (H := upd (upd (upd (upd Hf q1 (.tup [V.str "b"])) bk (.tup [V.str "back", V.int 0])) rw1 (.tup [V.ref bk])) fa (.tup [V.str "a", V.bl false, V.ref q1, V.ref rw1])) (a := O) (o := .lst [V.ref fa]))
   have z15 := (((z1.trans z2).trans z3).trans z4).trans z5
   generalize upd (upd (upd (upd (upd Hf q1 (.tup [V.str "b"])) bk (.tup [V.str "back", V.int 0])) rw1 (.tup [V.ref bk])) fa (.tup [V.str "a", V.bl false, V.ref q1, V.ref rw1])) O (.lst [V.ref fa]) = Hg at c1 c2 c3 c4 c5 z15 ⊢
   have fnA : F2.FnAt K Hg (⟨"a", .bl false, fa, q1, rw1, ["b"], [K41.rone "back" bk (.int 0)].map (·.w), [K41.rone "back" bk (.int 0)].map (·.d)⟩ : F2.Fd) := Bg.fn_mk2 (ps := ["b"]) [K41.rone "back" bk (.int 0)] c4 c3 (mem_one (K41.ok_back c2 (K41.at_i 0))) c1 (mem_one (p := K12.Nm) ⟨by decide +kernel, by decide +kernel⟩) (by decide) (by show 1 <= 100; decide) (wf_pack 0 0)
   refine ⟨_, rfl, le2, λ f1 hf1 => ⟨le1, λ ch1 hch1 => ⟨le2, λ bx hbx => ⟨le1, λ l1 hl1 => ⟨le1, λ l2 hl2 => ⟨le2, λ mk hmk => ⟨le1, λ lmk hlmk => ⟨le2, λ en hen => ⟨le1, λ TT hTT => ?_⟩⟩⟩⟩⟩⟩⟩⟩⟩
   have w1 := Same.new (o := .tup [V.str "a", V.int 0]) hf1
   have w2 := Same.new (o := .tup [V.ref f1]) hch1
   have w3 := Same.new (o := .tup [V.str "box", V.int 0]) hbx
   have w4 := Same.new (o := .lst [V.ref bx]) hl1
   have w5 := Same.new (o := .lst [V.ref l1]) hl2
   have w6 := Same.new (o := .tup [V.ref ch1, V.ref l2]) hmk
   have w7 := Same.new (o := .lst [V.ref mk]) hlmk
   have w8 := Same.new (o := .tup [V.str "a", V.ref lmk]) hen
   have w9 := Same.new (o := .lst [V.ref en]) hTT
   have dTT := datV_list (K := K) (ds := [teD (nmF [(⟨"a", .bl false, fa, q1, rw1, ["b"], [K41.rone "back" bk (.int 0)].map (·.w), [K41.rone "back" bk (.int 0)].map (·.d)⟩ : F2.Fd)]) ("a", [⟨[(0, 0)], [[some (.box 0)]]⟩])]) (SqL.of (upd_same (a := TT) (o := .lst [V.ref en]))) (datAll_cons (dt2_mk (SqT.of (w9 _ _ upd_same)) (datV_str _) (datV_list (SqL.of (w9 _ _ (w8 _ _ upd_same))) (datAll_cons (dt2_mk (SqT.of (w9 _ _ (w8 _ _ (w7 _ _ upd_same)))) (datV_tuple (SqT.of (w9 _ _ (w8 _ _ (w7 _ _ (w6 _ _ (w5 _ _ (w4 _ _ (w3 _ _ upd_same)))))))) (datAll_cons (dt2_mk (SqT.of (w9 _ _ (w8 _ _ (w7 _ _ (w6 _ _ (w5 _ _ (w4 _ _ (w3 _ _ (w2 _ _ upd_same))))))))) (datV_str _) (datV_int _)) datAll_nil)) (datV_list (SqL.of (w9 _ _ (w8 _ _ (w7 _ _ (w6 _ _ upd_same))))) (datAll_cons (datV_list (SqL.of (w9 _ _ (w8 _ _ (w7 _ _ (w6 _ _ (w5 _ _ upd_same)))))) (datAll_cons (dt2_mk (SqT.of (w9 _ _ (w8 _ _ (w7 _ _ (w6 _ _ (w5 _ _ (w4 _ _ upd_same))))))) (datV_str _) (datV_int _)) datAll_nil)) datAll_nil))) datAll_nil))) datAll_nil)
   have w19 := (((((((w1.trans w2).trans w3).trans w4).trans w5).trans w6).trans w7).trans w8).trans w9
   generalize (upd (upd (upd (upd (upd (upd (upd (upd (upd Hg f1 (.tup [V.str "a", V.int 0])) ch1 (.tup [V.ref f1])) bx (.tup [V.str "box", V.int 0])) l1 (.lst [V.ref bx])) l2 (.lst [V.ref l1])) mk (.tup [V.ref ch1, V.ref l2])) lmk (.lst [V.ref mk])) en (.tup [V.str "a", V.ref lmk])) TT (.lst [V.ref en])) = Hh at dTT w19 ⊢
   have okL : MOk 1 ⟨[(0, 0)], [[some (.box 0)]]⟩ := ⟨by show 1 <= 3; decide, mem_one ⟨by decide, by decide⟩, rfl, mem_one (by show 1 <= 24; decide), mem_one (mem_one ⟨by show 0 < 8 ^ 16; decide, by show 1 <= 8; decide⟩)⟩
   refine ⟨O, .ref TT, [(⟨"a", .bl false, fa, q1, rw1, ["b"], [K41.rone "back" bk (.int 0)].map (·.w), [K41.rone "back" bk (.int 0)].map (·.d)⟩ : F2.Fd)], [("a", [⟨[(0, 0)], [[some (.box 0)]]⟩])], rfl, w19.seq c5, (by simp), (by show 1 <= 12; decide), mem_one (fnA.mono w19), (by simp), dTT, (by show 1 <= 12; decide), mem_one ⟨by show 1 <= 200; decide, mem_one okL⟩, λ FC Hi si hFC ei => ⟨le1, λ LL hLL => ?_⟩⟩
   have ei' : Hi FC = some (.lst [V.str "0001000100000000100000"]) := by
     rw [ei, <- lit_row]
     rfl
   refine rNeD_same (n := 1) (d := .list [.str "0001000100000000100000"]) (by decide) (Lay.list (mem_one (.str (by decide +kernel)))) (datV_list (SqL.of (Same.new hLL _ _ ei')) (datAll_cons (datV_str _) datAll_nil)) (datV_list (SqL.of upd_same) (datAll_cons (datV_str _) datAll_nil)) ⟨_, rfl, iteN Bool.false_ne_true ?_⟩
   have s4j := (((s4f.trans z15).trans w19).trans si).trans (Same.new (o := .lst [V.str "0001000100000000100000"]) hLL)
   have s6j := ((((((s6b.trans sc).trans sd).trans se).trans sf).trans z15).trans w19).trans (si.trans (Same.new (o := .lst [V.str "0001000100000000100000"]) hLL))
   have s5j := y6.trans s6j
   generalize upd Hi LL (.lst [V.str "0001000100000000100000"]) = Hj at s4j s5j ⊢
   clear s6j
   have npD : P ≠ D := ne_of_none e3 hD
   obtain ⟨ms0, hm0⟩ : ∃ ms0, mss[0]? = some ms0 := ⟨_, List.getElem?_eq_getElem (by rw [lm]; exact List.length_pos_iff.mpr hB4.n0)⟩
   obtain ⟨y0, hy0, dy0⟩ := da_get das hm0
   obtain ⟨mA0, us0, rfl, hus0, dus0⟩ := dl_un dy0
   have lus0 : us0.length = ms0.length := by rw [da_len dus0, List.length_map]
   have ok0 := okm ms0 (List.mem_of_getElem? hm0)
   refine (let Jv6 : St -> Hp -> Prop := λ σ G => ∃ mss' : List (List Mk), σ = [some (.ref a), some (.bl bg), some (.ref b), some (.ref aA), some (.ref P), some (.ref D), some (.ref T), some (.ref h0), some (.ref F), some (.ref O)] /\ G P = some (.lst (bs.map λ x : Bd => V.ref x.f.fa)) /\ (∀ f ∈ List.map (λ x : Bd => x.f) bs, F2.FnAt K G f) /\ G D = some (.lst (mss'.map λ ms => V.str (tx (rowB ms)))) /\ DatV K G (.list ((tbl (nmB bs) mss').map (teD (nmB bs)))) (.ref T) /\ mss'.length <= 12 /\ ∀ ms ∈ mss', MsOk bs ms; ⟨Jv6, ?_, ?_⟩)
   . refine ⟨_, rfl, aA, _, _, _, rfl, rfl, (s24.trans s4j).seq has, atI_nat hy0, mA0, _, rfl, .inl ((s24.trans s4j).seq hus0), _, _, rfl, rfl, _, rfl, ite2 (λ h1 => ?_) (λ _ => ⟨mss, rfl, s4j _ _ e34, λ f hf => (hE4 f hf).mono s4j, s4j _ _ e4, L2.DatV.mono s5j _ _ (dTab hTab hts), by omega, okm⟩)⟩
     have h1 : 1 < us0.length := by have := dec_true h1; omega
     have lts : ts.length = mss.length := by rw [<- hts, List.length_map]
     obtain ⟨t0, ht0⟩ : ∃ t0, ts[0]? = some t0 := ⟨_, List.getElem?_eq_getElem (by rw [lts]; exact (List.getElem?_eq_some_iff.mp hm0).1)⟩
     have em : t0.ms = ms0 := by
       have : (ts.map (·.ms))[0]? = some ms0 := by rw [hts]; exact hm0
       rw [List.getElem?_map, ht0] at this
       exact Option.some.inj this
     obtain ⟨p1, p2, p3, p4⟩ := hTab.en 0 t0 ht0
     have lut : t0.us.length = ms0.length := by
       have := da_len (hTab.da t0 (List.mem_of_getElem? ht0) t0 (List.mem_of_getElem? ht0))
       rw [this, List.length_map, em]
     obtain ⟨yl, hyl⟩ : ∃ yl, t0.us[t0.us.length - 1]? = some yl := ⟨_, List.getElem?_eq_getElem (by omega)⟩
     refine ⟨_, rfl, T, _, _, _, rfl, rfl, SqL.of (s5j _ _ hTab.ls), atI_nat (j := 0) (by rw [List.getElem?_map, ht0]; rfl), t0.e, _, _, _, rfl, rfl, s5j.tup p1, rfl, .inl ⟨rfl, _, SqL.of (s5j _ _ p2)⟩, t0.l, t0.us, yl, rfl, rfl, s5j _ _ p2, hyl, ?_⟩
     have s4k := s4j.upd (o := .lst t0.us.dropLast) p3
     have kk : ∀ b o, H5 b = some o -> b ≠ t0.l -> upd Hj t0.l (.lst t0.us.dropLast) b = some o := λ b o hb nb => by rw [upd_ne nb]; exact s5j _ _ hb
     have kl := upd_same (H := Hj) (a := t0.l) (o := .lst t0.us.dropLast)
     generalize upd Hj t0.l (.lst t0.us.dropLast) = Hk at s4k kk kl ⊢
     refine ⟨_, rfl, aA, _, _, _, rfl, rfl, (s24.trans s4k).seq has, atI_nat hy0, _, rfl, _, rfl, mA0, us0, rfl, (s24.trans s4k).seq hus0, λ sl hsl => ?_⟩
     rw [cut_init]
     have xs1 := Same.new (o := .lst us0.dropLast) hsl
     have okd : MsOk bs ms0.dropLast := ⟨by rw [List.length_dropLast]; have := ok0.1; omega, λ m hm => ok0.2 m (List.dropLast_subset _ hm)⟩
     have dsl : DatV K (upd Hk sl (.lst us0.dropLast)) (.list (ms0.dropLast.map mkD)) (.ref sl) := by
       refine datV_list (SqL.of upd_same) ?_
       rw [List.map_dropLast]
       exact L2.DatAll.mono ((s24.trans s4k).trans xs1) _ _ (da_drop dus0)
     refine ⟨.ref sl, bs, ms0.dropLast, rfl, dsl, okd, n12, λ Hl sl1 => ?_⟩
     have s4l := (s4k.trans xs1).trans sl1
     have eDl := s4l _ _ e4
     refine ⟨_, rfl, D, _, _, _, rfl, rfl, eDl, ix0 (by rw [List.length_map]; exact (List.getElem?_eq_some_iff.mp hm0).1), mss.set 0 ms0.dropLast, rfl, ?_, λ f hf => ?_, ?_, ?_, by rw [List.length_set]; omega, λ ms hms => ?_⟩
     . rw [upd_ne npD]
       exact s4l _ _ e34
     . exact (fn_ers ((hE4 f hf).mono s4l) (.lst eDl)).mono ers_put
     . rw [upd_same, List.map_set]
     . have := tab_pop (D := D) (H' := upd Hl D (.lst ((mss.map λ ms => V.str (tx (rowB ms))).set 0 (V.str (tx (rowB ms0.dropLast)))))) hTab ht0 hT e4 s5 (λ b o hb n1 n2 => by rw [upd_ne n2]; exact sl1 _ _ (xs1 _ _ (kk b o hb n1))) (by
         have nD : t0.l ≠ D := λ z => by rw [z, e4] at p3; cases p3
         rw [upd_ne nD]
         exact sl1 _ _ (xs1 _ _ kl))
       rw [hts, em] at this
       exact this
     . rcases List.mem_or_eq_of_mem_set hms with h | h
       . exact okm ms h
       . rw [h]; exact okd
   . rintro σ G ⟨mss', rfl, gP, gE, gD, gT, g12, gok⟩
     refine ⟨_, rfl, _, rfl, P, .ref T, List.map (λ x : Bd => x.f) bs, tbl (nmB bs) mss', rfl, SqL.of (by rw [gP, pr]), fne, by omega, gE, fnd, gT, by rw [tbl_len]; exact g12, tbok gok, λ FZ Hz sz hFZ ez => ?_⟩
     rw [tbl_rows (nmB bs) mss' λ ms => V.str (tx (rowB ms))] at ez
     exact ⟨_, rfl, rEqD_same (n := 1) (d := .list (mss'.map λ ms => PyData.str (tx (rowB ms)))) (by decide) (Lay.list (rows_lay mss')) (datV_list (SqL.of ez) (datAll_map λ ms _ => datV_str _)) (datV_list (SqL.of (sz _ _ gD)) (datAll_map λ ms _ => datV_str _)) (q _)⟩
end
end K83
namespace K83
open PySem L2
set_option maxHeartbeats 4000000 in
theorem txt_mk {K : W.Frag} {h : Heap} {mg : Str -> Option Value} (X : K.In h) (G : h.Ns mainGlobals mg)
   {C_Flows : Addr} (aC_Flows : PySem.W.nsIn K mainGlobals "Flows" = some (some (.ref C_Flows))) (pg_Flows : PySem.W.plainGet K C_Flows Str.empty = true) (hd_Flows : PySem.W.hasDictIn K C_Flows = true) (po_Flows : PySem.W.plainOver K C_Flows = true) (sa_Flows : PySem.W.findIn K (.ref C_Flows) "__setattr__" = some (some (.builtin "object.__setattr__"))) (mk_Flows : PySem.W.makesIn K C_Flows = true) (kc_Flows : PySem.W.keepIn K (.ref C_Flows) = true)
   (n_Flows_last : PySem.W.findIn K (.ref C_Flows) "last" = some none)
   (n_Flows_number_of : PySem.W.findIn K (.ref C_Flows) "number_of" = some none)
   (n_Flows_folded_of : PySem.W.findIn K (.ref C_Flows) "folded_of" = some none)
   (n_Flows_params_of : PySem.W.findIn K (.ref C_Flows) "params_of" = some none)
   (n_Flows_rows_of : PySem.W.findIn K (.ref C_Flows) "rows_of" = some none)
   (n_Flows_names_in : PySem.W.findIn K (.ref C_Flows) "names_in" = some none)
   (n_Flows_ways_in : PySem.W.findIn K (.ref C_Flows) "ways_in" = some none)
   {f0 : Addr} {oc0 kV0 dc0 pm0 cd0 ct0 : Value} {od0 an0 : Option Addr} {sl0 : Array (Option Value)} (a0 : PySem.W.nsIn K mainGlobals "names_of" = some (some (.ref f0))) (l0 : K.lookup f0 = some ⟨oc0, od0, .func (PySem.W.fnOf "names_of" "names_of" (defArgs s_names_of) (defBody s_names_of) (defScope s_names_of) .none kV0 dc0 pm0 an0 cd0 ct0), sl0⟩) (c0 : PySem.W.codeIn K cd0 "names_of" = true) (k0 : PySem.W.keepIn K (.ref f0) = true)
   {f1 : Addr} {oc1 kV1 dc1 pm1 cd1 ct1 : Value} {od1 an1 : Option Addr} {sl1 : Array (Option Value)} (a1 : PySem.W.nsIn K mainGlobals "reads" = some (some (.ref f1))) (l1 : K.lookup f1 = some ⟨oc1, od1, .func (PySem.W.fnOf "reads" "reads" (defArgs s_reads) (defBody s_reads) (defScope s_reads) .none kV1 dc1 pm1 an1 cd1 ct1), sl1⟩) (c1 : PySem.W.codeIn K cd1 "reads" = true) (k1 : PySem.W.keepIn K (.ref f1) = true)
   {f2 : Addr} {oc2 kV2 dc2 pm2 cd2 ct2 : Value} {od2 an2 : Option Addr} {sl2 : Array (Option Value)} (a2 : PySem.W.nsIn K mainGlobals "gives" = some (some (.ref f2))) (l2 : K.lookup f2 = some ⟨oc2, od2, .func (PySem.W.fnOf "gives" "gives" (defArgs s_gives) (defBody s_gives) (defScope s_gives) .none kV2 dc2 pm2 an2 cd2 ct2), sl2⟩) (c2 : PySem.W.codeIn K cd2 "gives" = true) (k2 : PySem.W.keepIn K (.ref f2) = true)
   {f3 : Addr} {oc3 kV3 dc3 pm3 cd3 ct3 : Value} {od3 an3 : Option Addr} {sl3 : Array (Option Value)} (a3 : PySem.W.nsIn K mainGlobals "atoms_of" = some (some (.ref f3))) (l3 : K.lookup f3 = some ⟨oc3, od3, .func (PySem.W.fnOf "atoms_of" "atoms_of" (defArgs s_atoms_of) (defBody s_atoms_of) (defScope s_atoms_of) .none kV3 dc3 pm3 an3 cd3 ct3), sl3⟩) (c3 : PySem.W.codeIn K cd3 "atoms_of" = true) (k3 : PySem.W.keepIn K (.ref f3) = true)
   {f4 : Addr} {oc4 kV4 dc4 pm4 cd4 ct4 : Value} {od4 an4 : Option Addr} {sl4 : Array (Option Value)} (a4 : PySem.W.nsIn K mainGlobals "each_once" = some (some (.ref f4))) (l4 : K.lookup f4 = some ⟨oc4, od4, .func (PySem.W.fnOf "each_once" "each_once" (defArgs s_each_once) (defBody s_each_once) (defScope s_each_once) .none kV4 dc4 pm4 an4 cd4 ct4), sl4⟩) (c4 : PySem.W.codeIn K cd4 "each_once" = true) (k4 : PySem.W.keepIn K (.ref f4) = true)
   {f5 : Addr} {oc5 kV5 dc5 pm5 cd5 ct5 : Value} {od5 an5 : Option Addr} {sl5 : Array (Option Value)} (a5 : PySem.W.nsIn K mainGlobals "ways" = some (some (.ref f5))) (l5 : K.lookup f5 = some ⟨oc5, od5, .func (PySem.W.fnOf "ways" "ways" (defArgs s_ways) (defBody s_ways) (defScope s_ways) .none kV5 dc5 pm5 an5 cd5 ct5), sl5⟩) (c5 : PySem.W.codeIn K cd5 "ways" = true) (k5 : PySem.W.keepIn K (.ref f5) = true)
   {f6 : Addr} {oc6 kV6 dc6 pm6 cd6 ct6 : Value} {od6 an6 : Option Addr} {sl6 : Array (Option Value)} (a6 : PySem.W.nsIn K mainGlobals "begins_of" = some (some (.ref f6))) (l6 : K.lookup f6 = some ⟨oc6, od6, .func (PySem.W.fnOf "begins_of" "begins_of" (defArgs s_begins_of) (defBody s_begins_of) (defScope s_begins_of) .none kV6 dc6 pm6 an6 cd6 ct6), sl6⟩) (c6 : PySem.W.codeIn K cd6 "begins_of" = true) (k6 : PySem.W.keepIn K (.ref f6) = true)
   {f7 : Addr} {oc7 kV7 dc7 pm7 cd7 ct7 : Value} {od7 an7 : Option Addr} {sl7 : Array (Option Value)} (a7 : PySem.W.nsIn K mainGlobals "firsts_behind" = some (some (.ref f7))) (l7 : K.lookup f7 = some ⟨oc7, od7, .func (PySem.W.fnOf "firsts_behind" "firsts_behind" (defArgs s_firsts_behind) (defBody s_firsts_behind) (defScope s_firsts_behind) .none kV7 dc7 pm7 an7 cd7 ct7), sl7⟩) (c7 : PySem.W.codeIn K cd7 "firsts_behind" = true) (k7 : PySem.W.keepIn K (.ref f7) = true)
   {f8 : Addr} {oc8 kV8 dc8 pm8 cd8 ct8 : Value} {od8 an8 : Option Addr} {sl8 : Array (Option Value)} (a8 : PySem.W.findIn K (.ref C_Flows) "__init__" = some (some (.ref f8))) (i8 : PySem.W.isFn K (.ref f8) = true) (l8 : K.lookup f8 = some ⟨oc8, od8, .func (PySem.W.fnOf "__init__" "Flows.__init__" (defArgs s_Flows_init) (defBody s_Flows_init) (defScope s_Flows_init) .none kV8 dc8 pm8 an8 cd8 ct8), sl8⟩) (c8 : PySem.W.codeIn K cd8 "Flows.__init__" = true) (k8 : PySem.W.keepIn K (.ref f8) = true)
   {f9 : Addr} {oc9 kV9 dc9 pm9 cd9 ct9 : Value} {od9 an9 : Option Addr} {sl9 : Array (Option Value)} (a9 : PySem.W.nsIn K mainGlobals "number_bits" = some (some (.ref f9))) (l9 : K.lookup f9 = some ⟨oc9, od9, .func (PySem.W.fnOf "number_bits" "number_bits" (defArgs s_number_bits) (defBody s_number_bits) (defScope s_number_bits) .none kV9 dc9 pm9 an9 cd9 ct9), sl9⟩) (c9 : PySem.W.codeIn K cd9 "number_bits" = true) (k9 : PySem.W.keepIn K (.ref f9) = true)
   {f10 : Addr} {oc10 kV10 dc10 pm10 cd10 ct10 : Value} {od10 an10 : Option Addr} {sl10 : Array (Option Value)} (a10 : PySem.W.nsIn K mainGlobals "plain_bits" = some (some (.ref f10))) (l10 : K.lookup f10 = some ⟨oc10, od10, .func (PySem.W.fnOf "plain_bits" "plain_bits" (defArgs s_plain_bits) (defBody s_plain_bits) (defScope s_plain_bits) .none kV10 dc10 pm10 an10 cd10 ct10), sl10⟩) (c10 : PySem.W.codeIn K cd10 "plain_bits" = true) (k10 : PySem.W.keepIn K (.ref f10) = true)
   {f11 : Addr} {oc11 kV11 dc11 pm11 cd11 ct11 : Value} {od11 an11 : Option Addr} {sl11 : Array (Option Value)} (a11 : PySem.W.nsIn K mainGlobals "place_bits" = some (some (.ref f11))) (l11 : K.lookup f11 = some ⟨oc11, od11, .func (PySem.W.fnOf "place_bits" "place_bits" (defArgs s_place_bits) (defBody s_place_bits) (defScope s_place_bits) .none kV11 dc11 pm11 an11 cd11 ct11), sl11⟩) (c11 : PySem.W.codeIn K cd11 "place_bits" = true) (k11 : PySem.W.keepIn K (.ref f11) = true)
   {f12 : Addr} {oc12 kV12 dc12 pm12 cd12 ct12 : Value} {od12 an12 : Option Addr} {sl12 : Array (Option Value)} (a12 : PySem.W.nsIn K mainGlobals "reckoning_bits" = some (some (.ref f12))) (l12 : K.lookup f12 = some ⟨oc12, od12, .func (PySem.W.fnOf "reckoning_bits" "reckoning_bits" (defArgs s_reckoning_bits) (defBody s_reckoning_bits) (defScope s_reckoning_bits) .none kV12 dc12 pm12 an12 cd12 ct12), sl12⟩) (c12 : PySem.W.codeIn K cd12 "reckoning_bits" = true) (k12 : PySem.W.keepIn K (.ref f12) = true)
   {f13 : Addr} {oc13 kV13 dc13 pm13 cd13 ct13 : Value} {od13 an13 : Option Addr} {sl13 : Array (Option Value)} (a13 : PySem.W.nsIn K mainGlobals "pack" = some (some (.ref f13))) (l13 : K.lookup f13 = some ⟨oc13, od13, .func (PySem.W.fnOf "pack" "pack" (defArgs s_pack) (defBody s_pack) (defScope s_pack) .none kV13 dc13 pm13 an13 cd13 ct13), sl13⟩) (c13 : PySem.W.codeIn K cd13 "pack" = true) (k13 : PySem.W.keepIn K (.ref f13) = true)
   {f14 : Addr} {oc14 kV14 dc14 pm14 cd14 ct14 : Value} {od14 an14 : Option Addr} {sl14 : Array (Option Value)} (a14 : PySem.W.nsIn K mainGlobals "marks_bits" = some (some (.ref f14))) (l14 : K.lookup f14 = some ⟨oc14, od14, .func (PySem.W.fnOf "marks_bits" "marks_bits" (defArgs s_marks_bits) (defBody s_marks_bits) (defScope s_marks_bits) .none kV14 dc14 pm14 an14 cd14 ct14), sl14⟩) (c14 : PySem.W.codeIn K cd14 "marks_bits" = true) (k14 : PySem.W.keepIn K (.ref f14) = true)
   {f15 : Addr} {oc15 kV15 dc15 pm15 cd15 ct15 : Value} {od15 an15 : Option Addr} {sl15 : Array (Option Value)} (a15 : PySem.W.nsIn K mainGlobals "mark_bits" = some (some (.ref f15))) (l15 : K.lookup f15 = some ⟨oc15, od15, .func (PySem.W.fnOf "mark_bits" "mark_bits" (defArgs s_mark_bits) (defBody s_mark_bits) (defScope s_mark_bits) .none kV15 dc15 pm15 an15 cd15 ct15), sl15⟩) (c15 : PySem.W.codeIn K cd15 "mark_bits" = true) (k15 : PySem.W.keepIn K (.ref f15) = true)
   {f16 : Addr} {oc16 kV16 dc16 pm16 cd16 ct16 : Value} {od16 an16 : Option Addr} {sl16 : Array (Option Value)} (a16 : PySem.W.nsIn K mainGlobals "view_bits" = some (some (.ref f16))) (l16 : K.lookup f16 = some ⟨oc16, od16, .func (PySem.W.fnOf "view_bits" "view_bits" (defArgs s_view_bits) (defBody s_view_bits) (defScope s_view_bits) .none kV16 dc16 pm16 an16 cd16 ct16), sl16⟩) (c16 : PySem.W.codeIn K cd16 "view_bits" = true) (k16 : PySem.W.keepIn K (.ref f16) = true)
   {f17 : Addr} {oc17 kV17 dc17 pm17 cd17 ct17 : Value} {od17 an17 : Option Addr} {sl17 : Array (Option Value)} (a17 : PySem.W.nsIn K mainGlobals "views_ahead" = some (some (.ref f17))) (l17 : K.lookup f17 = some ⟨oc17, od17, .func (PySem.W.fnOf "views_ahead" "views_ahead" (defArgs s_views_ahead) (defBody s_views_ahead) (defScope s_views_ahead) .none kV17 dc17 pm17 an17 cd17 ct17), sl17⟩) (c17 : PySem.W.codeIn K cd17 "views_ahead" = true) (k17 : PySem.W.keepIn K (.ref f17) = true)
   {f18 : Addr} {oc18 kV18 dc18 pm18 cd18 ct18 : Value} {od18 an18 : Option Addr} {sl18 : Array (Option Value)} (a18 : PySem.W.nsIn K mainGlobals "_law_cell" = some (some (.ref f18))) (l18 : K.lookup f18 = some ⟨oc18, od18, .func (PySem.W.fnOf "_law_cell" "_law_cell" (defArgs s_l_cell) (defBody s_l_cell) (defScope s_l_cell) .none kV18 dc18 pm18 an18 cd18 ct18), sl18⟩) (c18 : PySem.W.codeIn K cd18 "_law_cell" = true) (k18 : PySem.W.keepIn K (.ref f18) = true)
   {f19 : Addr} {oc19 kV19 dc19 pm19 cd19 ct19 : Value} {od19 an19 : Option Addr} {sl19 : Array (Option Value)} (a19 : PySem.W.nsIn K mainGlobals "_law_part" = some (some (.ref f19))) (l19 : K.lookup f19 = some ⟨oc19, od19, .func (PySem.W.fnOf "_law_part" "_law_part" (defArgs s_l_part) (defBody s_l_part) (defScope s_l_part) .none kV19 dc19 pm19 an19 cd19 ct19), sl19⟩) (c19 : PySem.W.codeIn K cd19 "_law_part" = true) (k19 : PySem.W.keepIn K (.ref f19) = true)
   {f20 : Addr} {oc20 kV20 dc20 pm20 cd20 ct20 : Value} {od20 an20 : Option Addr} {sl20 : Array (Option Value)} (a20 : PySem.W.nsIn K mainGlobals "_law_name" = some (some (.ref f20))) (l20 : K.lookup f20 = some ⟨oc20, od20, .func (PySem.W.fnOf "_law_name" "_law_name" (defArgs s_l_name) (defBody s_l_name) (defScope s_l_name) .none kV20 dc20 pm20 an20 cd20 ct20), sl20⟩) (c20 : PySem.W.codeIn K cd20 "_law_name" = true) (k20 : PySem.W.keepIn K (.ref f20) = true)
   {f21 : Addr} {oc21 kV21 dc21 pm21 cd21 ct21 : Value} {od21 an21 : Option Addr} {sl21 : Array (Option Value)} (a21 : PySem.W.nsIn K mainGlobals "_law_function" = some (some (.ref f21))) (l21 : K.lookup f21 = some ⟨oc21, od21, .func (PySem.W.fnOf "_law_function" "_law_function" (defArgs s_l_function) (defBody s_l_function) (defScope s_l_function) .none kV21 dc21 pm21 an21 cd21 ct21), sl21⟩) (c21 : PySem.W.codeIn K cd21 "_law_function" = true) (k21 : PySem.W.keepIn K (.ref f21) = true)
   {f22 : Addr} {oc22 kV22 dc22 pm22 cd22 ct22 : Value} {od22 an22 : Option Addr} {sl22 : Array (Option Value)} (a22 : PySem.W.nsIn K mainGlobals "_law_program" = some (some (.ref f22))) (l22 : K.lookup f22 = some ⟨oc22, od22, .func (PySem.W.fnOf "_law_program" "_law_program" (defArgs s_l_program) (defBody s_l_program) (defScope s_l_program) .none kV22 dc22 pm22 an22 cd22 ct22), sl22⟩) (c22 : PySem.W.codeIn K cd22 "_law_program" = true) (k22 : PySem.W.keepIn K (.ref f22) = true)
   {f23 : Addr} {oc23 kV23 dc23 pm23 cd23 ct23 : Value} {od23 an23 : Option Addr} {sl23 : Array (Option Value)} (a23 : PySem.W.nsIn K mainGlobals "_law_tree" = some (some (.ref f23))) (l23 : K.lookup f23 = some ⟨oc23, od23, .func (PySem.W.fnOf "_law_tree" "_law_tree" (defArgs s_l_tree) (defBody s_l_tree) (defScope s_l_tree) .none kV23 dc23 pm23 an23 cd23 ct23), sl23⟩) (c23 : PySem.W.codeIn K cd23 "_law_tree" = true) (k23 : PySem.W.keepIn K (.ref f23) = true)
   {f24 : Addr} {oc24 kV24 dc24 pm24 cd24 ct24 : Value} {od24 an24 : Option Addr} {sl24 : Array (Option Value)} (a24 : PySem.W.nsIn K mainGlobals "_law_place" = some (some (.ref f24))) (l24 : K.lookup f24 = some ⟨oc24, od24, .func (PySem.W.fnOf "_law_place" "_law_place" (defArgs s_l_place) (defBody s_l_place) (defScope s_l_place) .none kV24 dc24 pm24 an24 cd24 ct24), sl24⟩) (c24 : PySem.W.codeIn K cd24 "_law_place" = true) (k24 : PySem.W.keepIn K (.ref f24) = true)
   {f25 : Addr} {oc25 kV25 dc25 pm25 cd25 ct25 : Value} {od25 an25 : Option Addr} {sl25 : Array (Option Value)} (a25 : PySem.W.nsIn K mainGlobals "_law_chain" = some (some (.ref f25))) (l25 : K.lookup f25 = some ⟨oc25, od25, .func (PySem.W.fnOf "_law_chain" "_law_chain" (defArgs s_l_chain) (defBody s_l_chain) (defScope s_l_chain) .none kV25 dc25 pm25 an25 cd25 ct25), sl25⟩) (c25 : PySem.W.codeIn K cd25 "_law_chain" = true) (k25 : PySem.W.keepIn K (.ref f25) = true)
   {f26 : Addr} {oc26 kV26 dc26 pm26 cd26 ct26 : Value} {od26 an26 : Option Addr} {sl26 : Array (Option Value)} (a26 : PySem.W.nsIn K mainGlobals "_law_marks" = some (some (.ref f26))) (l26 : K.lookup f26 = some ⟨oc26, od26, .func (PySem.W.fnOf "_law_marks" "_law_marks" (defArgs s_l_marks) (defBody s_l_marks) (defScope s_l_marks) .none kV26 dc26 pm26 an26 cd26 ct26), sl26⟩) (c26 : PySem.W.codeIn K cd26 "_law_marks" = true) (k26 : PySem.W.keepIn K (.ref f26) = true)
   {f27 : Addr} {oc27 kV27 dc27 pm27 cd27 ct27 : Value} {od27 an27 : Option Addr} {sl27 : Array (Option Value)} (a27 : PySem.W.nsIn K mainGlobals "_law_number" = some (some (.ref f27))) (l27 : K.lookup f27 = some ⟨oc27, od27, .func (PySem.W.fnOf "_law_number" "_law_number" (defArgs s_l_number) (defBody s_l_number) (defScope s_l_number) .none kV27 dc27 pm27 an27 cd27 ct27), sl27⟩) (c27 : PySem.W.codeIn K cd27 "_law_number" = true) (k27 : PySem.W.keepIn K (.ref f27) = true)
   {f28 : Addr} {oc28 kV28 dc28 pm28 cd28 ct28 : Value} {od28 an28 : Option Addr} {sl28 : Array (Option Value)} (a28 : PySem.W.nsIn K mainGlobals "_law_bits" = some (some (.ref f28))) (l28 : K.lookup f28 = some ⟨oc28, od28, .func (PySem.W.fnOf "_law_bits" "_law_bits" (defArgs s_l_bits) (defBody s_l_bits) (defScope s_l_bits) .none kV28 dc28 pm28 an28 cd28 ct28), sl28⟩) (c28 : PySem.W.codeIn K cd28 "_law_bits" = true) (k28 : PySem.W.keepIn K (.ref f28) = true)
   {f29 : Addr} {oc29 kV29 dc29 pm29 cd29 ct29 : Value} {od29 an29 : Option Addr} {sl29 : Array (Option Value)} (a29 : PySem.W.nsIn K mainGlobals "_law_row" = some (some (.ref f29))) (l29 : K.lookup f29 = some ⟨oc29, od29, .func (PySem.W.fnOf "_law_row" "_law_row" (defArgs s_l_row) (defBody s_l_row) (defScope s_l_row) .none kV29 dc29 pm29 an29 cd29 ct29), sl29⟩) (c29 : PySem.W.codeIn K cd29 "_law_row" = true) (k29 : PySem.W.keepIn K (.ref f29) = true)
   {f30 : Addr} {oc30 kV30 dc30 pm30 cd30 ct30 : Value} {od30 an30 : Option Addr} {sl30 : Array (Option Value)} (a30 : PySem.W.nsIn K mainGlobals "_law_told" = some (some (.ref f30))) (l30 : K.lookup f30 = some ⟨oc30, od30, .func (PySem.W.fnOf "_law_told" "_law_told" (defArgs s_l_told) (defBody s_l_told) (defScope s_l_told) .none kV30 dc30 pm30 an30 cd30 ct30), sl30⟩) (c30 : PySem.W.codeIn K cd30 "_law_told" = true) (k30 : PySem.W.keepIn K (.ref f30) = true)
   {f31 : Addr} {oc31 kV31 dc31 pm31 cd31 ct31 : Value} {od31 an31 : Option Addr} {sl31 : Array (Option Value)} (a31 : PySem.W.nsIn K mainGlobals "_law_table" = some (some (.ref f31))) (l31 : K.lookup f31 = some ⟨oc31, od31, .func (PySem.W.fnOf "_law_table" "_law_table" (defArgs s_l_table) (defBody s_l_table) (defScope s_l_table) .none kV31 dc31 pm31 an31 cd31 ct31), sl31⟩) (c31 : PySem.W.codeIn K cd31 "_law_table" = true) (k31 : PySem.W.keepIn K (.ref f31) = true)
   {f32 : Addr} {oc32 kV32 dc32 pm32 cd32 ct32 : Value} {od32 an32 : Option Addr} {sl32 : Array (Option Value)} (a32 : PySem.W.nsIn K mainGlobals "_law_renamed" = some (some (.ref f32))) (l32 : K.lookup f32 = some ⟨oc32, od32, .func (PySem.W.fnOf "_law_renamed" "_law_renamed" (defArgs s_l_renamed) (defBody s_l_renamed) (defScope s_l_renamed) .none kV32 dc32 pm32 an32 cd32 ct32), sl32⟩) (c32 : PySem.W.codeIn K cd32 "_law_renamed" = true) (k32 : PySem.W.keepIn K (.ref f32) = true)
   {f33 : Addr} {oc33 kV33 dc33 pm33 cd33 ct33 : Value} {od33 an33 : Option Addr} {sl33 : Array (Option Value)} (a33 : PySem.W.nsIn K mainGlobals "_law_all_marks" = some (some (.ref f33))) (l33 : K.lookup f33 = some ⟨oc33, od33, .func (PySem.W.fnOf "_law_all_marks" "_law_all_marks" (defArgs s_l_all_marks) (defBody s_l_all_marks) (defScope s_l_all_marks) .none kV33 dc33 pm33 an33 cd33 ct33), sl33⟩) (c33 : PySem.W.codeIn K cd33 "_law_all_marks" = true) (k33 : PySem.W.keepIn K (.ref f33) = true)
   {f34 : Addr} {oc34 kV34 dc34 pm34 cd34 ct34 : Value} {od34 an34 : Option Addr} {sl34 : Array (Option Value)} (a34 : PySem.W.nsIn K mainGlobals "law" = some (some (.ref f34))) (l34 : K.lookup f34 = some ⟨oc34, od34, .func (PySem.W.fnOf "law" "law" (defArgs s_law) (defBody s_law) (defScope s_law) .none kV34 dc34 pm34 an34 cd34 ct34), sl34⟩) (c34 : PySem.W.codeIn K cd34 "law" = true) (k34 : PySem.W.keepIn K (.ref f34) = true)
   {tk0 : Tok} (w0 : PySem.W.nsIn K mainGlobals "SIGN_BITS" = some (some (.int 4 tk0)))
   {tk1 : Tok} (w1 : PySem.W.nsIn K mainGlobals "GONE_BITS" = some (some (.str "00" tk1)))
   {tk2 : Tok} (w2 : PySem.W.nsIn K mainGlobals "AS_AHEAD_BITS" = some (some (.str "01" tk2)))
   {aT0 : Addr} {odT0 : Option Addr} {itT0 : Array Value} {nT0 : Nat} {slT0 : Array (Option Value)} (q0 : PySem.W.nsIn K mainGlobals "GIVING_KINDS" = some (some (.ref aT0))) (m0 : K.lookup aT0 = some ⟨.type "tuple", odT0, .seq itT0 nT0, slT0⟩) (v0 : Vals (K12.giving.map V.str) itT0.toList) (s0 : itT0.size <= sizeLine)
   {aT1 : Addr} {itT1 : Array Value} {nT1 : Nat} {slT1 : Array (Option Value)} (q1 : PySem.W.nsIn K mainGlobals "SIGNS" = some (some (.ref aT1))) (m1 : K.lookup aT1 = some ⟨.type "tuple", none, .seq itT1 nT1, slT1⟩) (v1 : Vals Bt.sgTup itT1.toList) (s1 : itT1.size <= sizeLine)
   {aD0 : Addr} (qD0 : PySem.W.nsIn K mainGlobals "ATOM_PLACES" = some (some (.ref aD0))) (mD0 : PyProof.Rows.KTD.tabLook (tupLook K) (λ a => K.lookup a) aD0 K12.tabl = true)
   (z_len : PySem.W.nsIn K mainGlobals "len" = some none)
   (z_list : PySem.W.nsIn K mainGlobals "list" = some none)
   (z_tuple : PySem.W.nsIn K mainGlobals "tuple" = some none)
   (z_isinstance : PySem.W.nsIn K mainGlobals "isinstance" = some none)
   (z_range : PySem.W.nsIn K mainGlobals "range" = some none)
   (z_all : PySem.W.nsIn K mainGlobals "all" = some none)
   (z_enumerate : PySem.W.nsIn K mainGlobals "enumerate" = some none)
   (z_dict : PySem.W.nsIn K mainGlobals "dict" = some none)
   (z_str : PySem.W.nsIn K mainGlobals "str" = some none)
   (z_zip : PySem.W.nsIn K mainGlobals "zip" = some none)
   (z_divmod : PySem.W.nsIn K mainGlobals "divmod" = some none)
   : ∃ t, Txt K mg t := by
 refine ⟨⟨C_Flows, f0, PySem.W.fnOf "names_of" "names_of" (defArgs s_names_of) (defBody s_names_of) (defScope s_names_of) .none kV0 dc0 pm0 an0 cd0 ct0, f1, PySem.W.fnOf "reads" "reads" (defArgs s_reads) (defBody s_reads) (defScope s_reads) .none kV1 dc1 pm1 an1 cd1 ct1, f2, PySem.W.fnOf "gives" "gives" (defArgs s_gives) (defBody s_gives) (defScope s_gives) .none kV2 dc2 pm2 an2 cd2 ct2, f3, PySem.W.fnOf "atoms_of" "atoms_of" (defArgs s_atoms_of) (defBody s_atoms_of) (defScope s_atoms_of) .none kV3 dc3 pm3 an3 cd3 ct3, f4, PySem.W.fnOf "each_once" "each_once" (defArgs s_each_once) (defBody s_each_once) (defScope s_each_once) .none kV4 dc4 pm4 an4 cd4 ct4, f5, PySem.W.fnOf "ways" "ways" (defArgs s_ways) (defBody s_ways) (defScope s_ways) .none kV5 dc5 pm5 an5 cd5 ct5, f6, PySem.W.fnOf "begins_of" "begins_of" (defArgs s_begins_of) (defBody s_begins_of) (defScope s_begins_of) .none kV6 dc6 pm6 an6 cd6 ct6, f7, PySem.W.fnOf "firsts_behind" "firsts_behind" (defArgs s_firsts_behind) (defBody s_firsts_behind) (defScope s_firsts_behind) .none kV7 dc7 pm7 an7 cd7 ct7, f8, PySem.W.fnOf "__init__" "Flows.__init__" (defArgs s_Flows_init) (defBody s_Flows_init) (defScope s_Flows_init) .none kV8 dc8 pm8 an8 cd8 ct8, f9, PySem.W.fnOf "number_bits" "number_bits" (defArgs s_number_bits) (defBody s_number_bits) (defScope s_number_bits) .none kV9 dc9 pm9 an9 cd9 ct9, f10, PySem.W.fnOf "plain_bits" "plain_bits" (defArgs s_plain_bits) (defBody s_plain_bits) (defScope s_plain_bits) .none kV10 dc10 pm10 an10 cd10 ct10, f11, PySem.W.fnOf "place_bits" "place_bits" (defArgs s_place_bits) (defBody s_place_bits) (defScope s_place_bits) .none kV11 dc11 pm11 an11 cd11 ct11, f12, PySem.W.fnOf "reckoning_bits" "reckoning_bits" (defArgs s_reckoning_bits) (defBody s_reckoning_bits) (defScope s_reckoning_bits) .none kV12 dc12 pm12 an12 cd12 ct12, f13, PySem.W.fnOf "pack" "pack" (defArgs s_pack) (defBody s_pack) (defScope s_pack) .none kV13 dc13 pm13 an13 cd13 ct13, f14, PySem.W.fnOf "marks_bits" "marks_bits" (defArgs s_marks_bits) (defBody s_marks_bits) (defScope s_marks_bits) .none kV14 dc14 pm14 an14 cd14 ct14, f15, PySem.W.fnOf "mark_bits" "mark_bits" (defArgs s_mark_bits) (defBody s_mark_bits) (defScope s_mark_bits) .none kV15 dc15 pm15 an15 cd15 ct15, f16, PySem.W.fnOf "view_bits" "view_bits" (defArgs s_view_bits) (defBody s_view_bits) (defScope s_view_bits) .none kV16 dc16 pm16 an16 cd16 ct16, f17, PySem.W.fnOf "views_ahead" "views_ahead" (defArgs s_views_ahead) (defBody s_views_ahead) (defScope s_views_ahead) .none kV17 dc17 pm17 an17 cd17 ct17, f18, PySem.W.fnOf "_law_cell" "_law_cell" (defArgs s_l_cell) (defBody s_l_cell) (defScope s_l_cell) .none kV18 dc18 pm18 an18 cd18 ct18, f19, PySem.W.fnOf "_law_part" "_law_part" (defArgs s_l_part) (defBody s_l_part) (defScope s_l_part) .none kV19 dc19 pm19 an19 cd19 ct19, f20, PySem.W.fnOf "_law_name" "_law_name" (defArgs s_l_name) (defBody s_l_name) (defScope s_l_name) .none kV20 dc20 pm20 an20 cd20 ct20, f21, PySem.W.fnOf "_law_function" "_law_function" (defArgs s_l_function) (defBody s_l_function) (defScope s_l_function) .none kV21 dc21 pm21 an21 cd21 ct21, f22, PySem.W.fnOf "_law_program" "_law_program" (defArgs s_l_program) (defBody s_l_program) (defScope s_l_program) .none kV22 dc22 pm22 an22 cd22 ct22, f23, PySem.W.fnOf "_law_tree" "_law_tree" (defArgs s_l_tree) (defBody s_l_tree) (defScope s_l_tree) .none kV23 dc23 pm23 an23 cd23 ct23, f24, PySem.W.fnOf "_law_place" "_law_place" (defArgs s_l_place) (defBody s_l_place) (defScope s_l_place) .none kV24 dc24 pm24 an24 cd24 ct24, f25, PySem.W.fnOf "_law_chain" "_law_chain" (defArgs s_l_chain) (defBody s_l_chain) (defScope s_l_chain) .none kV25 dc25 pm25 an25 cd25 ct25, f26, PySem.W.fnOf "_law_marks" "_law_marks" (defArgs s_l_marks) (defBody s_l_marks) (defScope s_l_marks) .none kV26 dc26 pm26 an26 cd26 ct26, f27, PySem.W.fnOf "_law_number" "_law_number" (defArgs s_l_number) (defBody s_l_number) (defScope s_l_number) .none kV27 dc27 pm27 an27 cd27 ct27, f28, PySem.W.fnOf "_law_bits" "_law_bits" (defArgs s_l_bits) (defBody s_l_bits) (defScope s_l_bits) .none kV28 dc28 pm28 an28 cd28 ct28, f29, PySem.W.fnOf "_law_row" "_law_row" (defArgs s_l_row) (defBody s_l_row) (defScope s_l_row) .none kV29 dc29 pm29 an29 cd29 ct29, f30, PySem.W.fnOf "_law_told" "_law_told" (defArgs s_l_told) (defBody s_l_told) (defScope s_l_told) .none kV30 dc30 pm30 an30 cd30 ct30, f31, PySem.W.fnOf "_law_table" "_law_table" (defArgs s_l_table) (defBody s_l_table) (defScope s_l_table) .none kV31 dc31 pm31 an31 cd31 ct31, f32, PySem.W.fnOf "_law_renamed" "_law_renamed" (defArgs s_l_renamed) (defBody s_l_renamed) (defScope s_l_renamed) .none kV32 dc32 pm32 an32 cd32 ct32, f33, PySem.W.fnOf "_law_all_marks" "_law_all_marks" (defArgs s_l_all_marks) (defBody s_l_all_marks) (defScope s_l_all_marks) .none kV33 dc33 pm33 an33 cd33 ct33, f34, PySem.W.fnOf "law" "law" (defArgs s_law) (defBody s_law) (defScope s_law) .none kV34 dc34 pm34 an34 cd34 ct34, aT0, aT1, aD0⟩, ?_⟩
 have bl : ∀ (s : Shared) (u : Value), BindsTo s (PySem.W.fnOf "law" "law" (defArgs s_law) (defBody s_law) (defScope s_law) .none kV34 dc34 pm34 an34 cd34 ct34) ⟨[u], []⟩ [("_law_script", u)] := λ s u => .of_eq rfl
 exact ⟨(defOk_mk X G a0 l0 c0 k0 λ _ _ _ _ _ _ us hl => match us, hl with | [_], _ => rfl),
   (defOk_mk X G a1 l1 c1 k1 λ _ _ _ _ _ _ us hl => match us, hl with | [_], _ => rfl),
   (defOk_mk X G a2 l2 c2 k2 λ _ _ _ _ _ _ us hl => match us, hl with | [_], _ => rfl),
   (defOk_mk X G a3 l3 c3 k3 λ _ _ _ _ _ _ us hl => match us, hl with | [_], _ => rfl),
   (defOk_mk X G a4 l4 c4 k4 λ _ _ _ _ _ _ us hl => match us, hl with | [_], _ => rfl),
   (defOk_mk X G a5 l5 c5 k5 λ _ _ _ _ _ _ us hl => match us, hl with | [_], _ => rfl),
   (defOk_mk X G a6 l6 c6 k6 λ _ _ _ _ _ _ us hl => match us, hl with | [_], _ => rfl),
   (defOk_mk X G a7 l7 c7 k7 λ _ _ _ _ _ _ us hl => match us, hl with | [_, _], _ => rfl),
   (iniOk_mk mk_Flows kc_Flows a8 i8 l8 c8 k8 λ _ _ _ _ _ _ us hl => match us, hl with | [_, _], _ => rfl),
   (defOk_mk X G a9 l9 c9 k9 λ _ _ _ _ _ _ us hl => match us, hl with | [_], _ => rfl),
   (defOk_mk X G a10 l10 c10 k10 λ _ _ _ _ _ _ us hl => match us, hl with | [_, _], _ => rfl),
   (defOk_mk X G a11 l11 c11 k11 λ _ _ _ _ _ _ us hl => match us, hl with | [_], _ => rfl),
   (defOk_mk X G a12 l12 c12 k12 λ _ _ _ _ _ _ us hl => match us, hl with | [_], _ => rfl),
   (defOk_mk X G a13 l13 c13 k13 λ _ _ _ _ _ _ us hl => match us, hl with | [_, _], _ => rfl),
   (defOk_mk X G a14 l14 c14 k14 λ _ _ _ _ _ _ us hl => match us, hl with | [_, _], _ => rfl),
   (defOk_mk X G a15 l15 c15 k15 λ _ _ _ _ _ _ us hl => match us, hl with | [_, _, _], _ => rfl),
   (defOk_mk X G a16 l16 c16 k16 λ _ _ _ _ _ _ us hl => match us, hl with | [_, _], _ => rfl),
   (defOk_mk X G a17 l17 c17 k17 λ _ _ _ _ _ _ us hl => match us, hl with | [_, _], _ => rfl),
   (defOk_mk X G a18 l18 c18 k18 λ _ _ _ _ _ _ us hl => match us, hl with | [_, _], _ => rfl),
   (defOk_mk X G a19 l19 c19 k19 λ _ _ _ _ _ _ us hl => match us, hl with | [_, _, _], _ => rfl),
   (defOk_mk X G a20 l20 c20 k20 λ _ _ _ _ _ _ us hl => match us, hl with | [_, _], _ => rfl),
   (defOk_mk X G a21 l21 c21 k21 λ _ _ _ _ _ _ us hl => match us, hl with | [_, _, _, _], _ => rfl),
   (defOk_mk X G a22 l22 c22 k22 λ _ _ _ _ _ _ us hl => match us, hl with | [_, _], _ => rfl),
   (defOk_mk X G a23 l23 c23 k23 λ _ _ _ _ _ _ us hl => match us, hl with | [_, _], _ => rfl),
   (defOk_mk X G a24 l24 c24 k24 λ _ _ _ _ _ _ us hl => match us, hl with | [_], _ => rfl),
   (defOk_mk X G a25 l25 c25 k25 λ _ _ _ _ _ _ us hl => match us, hl with | [_, _, _], _ => rfl),
   (defOk_mk X G a26 l26 c26 k26 λ _ _ _ _ _ _ us hl => match us, hl with | [_, _, _, _], _ => rfl),
   (defOk_mk X G a27 l27 c27 k27 λ _ _ _ _ _ _ us hl => match us, hl with | [_], _ => rfl),
   (defOk_mk X G a28 l28 c28 k28 λ _ _ _ _ _ _ us hl => match us, hl with | [_], _ => rfl),
   (defOk_mk X G a29 l29 c29 k29 λ _ _ _ _ _ _ us hl => match us, hl with | [_], _ => rfl),
   (defOk_mk X G a30 l30 c30 k30 λ _ _ _ _ _ _ us hl => match us, hl with | [_, _], _ => rfl),
   (defOk_mk X G a31 l31 c31 k31 λ _ _ _ _ _ _ us hl => match us, hl with | [_, _], _ => rfl),
   (defOk_mk X G a32 l32 c32 k32 λ _ _ _ _ _ _ us hl => match us, hl with | [_, _], _ => rfl),
   (defOk_mk X G a33 l33 c33 k33 λ _ _ _ _ _ _ us hl => match us, hl with | [_, _, _], _ => rfl),
   (defOk_mk X G a34 l34 c34 k34 λ _ _ _ _ _ _ us hl => match us, hl with | [_], _ => rfl),
   ⟨⟨pg_Flows, hd_Flows, po_Flows, sa_Flows⟩, PySem.W.mg_of X G aC_Flows⟩,
   n_Flows_last,
   n_Flows_number_of,
   n_Flows_folded_of,
   n_Flows_params_of,
   n_Flows_rows_of,
   n_Flows_names_in,
   n_Flows_ways_in,
   ⟨_, PySem.W.mg_of X G w0⟩,
   ⟨_, PySem.W.mg_of X G w1⟩,
   ⟨_, PySem.W.mg_of X G w2⟩,
   PySem.W.mg_of X G q0,
   (λ H => .inr ⟨_, itT0, nT0, m0, rfl, rfl, s0, v0⟩),
   PySem.W.mg_of X G q1,
   (λ H => .inr ⟨_, itT1, nT1, m1, rfl, rfl, s1, v1⟩),
   ⟨_, m1, rfl, rfl⟩,
   PySem.W.mg_of X G qD0,
   tabK_of_look mD0,
   PySem.W.mg_none_of X G z_len,
   PySem.W.mg_none_of X G z_list,
   PySem.W.mg_none_of X G z_tuple,
   PySem.W.mg_none_of X G z_isinstance,
   PySem.W.mg_none_of X G z_range,
   PySem.W.mg_none_of X G z_all,
   PySem.W.mg_none_of X G z_enumerate,
   PySem.W.mg_none_of X G z_dict,
   PySem.W.mg_none_of X G z_str,
   PySem.W.mg_none_of X G z_zip,
   PySem.W.mg_none_of X G z_divmod,
   bl⟩
end K83
open PySem PySem.W PyProof.Rows
set_option maxRecDepth 100000 in
set_option maxHeartbeats 0 in
theorem PySem.Challenge.cw_stopglass_k83_tables_packed_holds : PySem.Challenge.rw_stopglass_k83_tables_packed.Holds := by
 refine Hd.pk.2 ?_
 unfold Hd.pk
 dsimp only
 k_fill
 refine L2.walk_ofK (l := PySem.Challenge.rw_stopglass_k83_tables_packed) (n := 63) (k := 25) (x := "_law_script") (CX := L2.CX0) (sp := K83.sp_law) rfl (by decide) rfl ⟨rfl, by decide, by decide⟩ (λ w h Y => PySem.W.kIn_of Y) ?F ?S ?C
 case F =>
   intro w mg fa h KX G hmg
   have T : ∃ t, K83.Txt (L2.KOf KX) mg t := by
     dsimp only [L2.KOf]
     refine' K83.txt_mk KX G ?aC_Flows ?pg_Flows ?hd_Flows ?po_Flows ?sa_Flows ?mk_Flows ?kc_Flows ?n_Flows_last ?n_Flows_number_of ?n_Flows_folded_of ?n_Flows_params_of ?n_Flows_rows_of ?n_Flows_names_in ?n_Flows_ways_in ?a0 ?l0 ?c0 ?k0 ?a1 ?l1 ?c1 ?k1 ?a2 ?l2 ?c2 ?k2 ?a3 ?l3 ?c3 ?k3 ?a4 ?l4 ?c4 ?k4 ?a5 ?l5 ?c5 ?k5 ?a6 ?l6 ?c6 ?k6 ?a7 ?l7 ?c7 ?k7 ?a8 ?i8 ?l8 ?c8 ?k8 ?a9 ?l9 ?c9 ?k9 ?a10 ?l10 ?c10 ?k10 ?a11 ?l11 ?c11 ?k11 ?a12 ?l12 ?c12 ?k12 ?a13 ?l13 ?c13 ?k13 ?a14 ?l14 ?c14 ?k14 ?a15 ?l15 ?c15 ?k15 ?a16 ?l16 ?c16 ?k16 ?a17 ?l17 ?c17 ?k17 ?a18 ?l18 ?c18 ?k18 ?a19 ?l19 ?c19 ?k19 ?a20 ?l20 ?c20 ?k20 ?a21 ?l21 ?c21 ?k21 ?a22 ?l22 ?c22 ?k22 ?a23 ?l23 ?c23 ?k23 ?a24 ?l24 ?c24 ?k24 ?a25 ?l25 ?c25 ?k25 ?a26 ?l26 ?c26 ?k26 ?a27 ?l27 ?c27 ?k27 ?a28 ?l28 ?c28 ?k28 ?a29 ?l29 ?c29 ?k29 ?a30 ?l30 ?c30 ?k30 ?a31 ?l31 ?c31 ?k31 ?a32 ?l32 ?c32 ?k32 ?a33 ?l33 ?c33 ?k33 ?a34 ?l34 ?c34 ?k34 ?w0 ?w1 ?w2 ?q0 ?m0 ?v0 ?s0 ?q1 ?m1 ?v1 ?s1 ?qD0 ?mD0 ?z_len ?z_list ?z_tuple ?z_isinstance ?z_range ?z_all ?z_enumerate ?z_dict ?z_str ?z_zip ?z_divmod
     (case aC_Flows => k_is)
     (case pg_Flows => k_is)
     (case hd_Flows => k_is)
     (case po_Flows => k_is)
     (case sa_Flows => k_is)
     (case mk_Flows => k_is)
     (case kc_Flows => k_is)
     (case n_Flows_last => k_is)
     (case n_Flows_number_of => k_is)
     (case n_Flows_folded_of => k_is)
     (case n_Flows_params_of => k_is)
     (case n_Flows_rows_of => k_is)
     (case n_Flows_names_in => k_is)
     (case n_Flows_ways_in => k_is)
     (case a0 => k_is)
     (case l0 => k_is)
     (case c0 => k_is)
     (case k0 => k_is)
     (case a1 => k_is)
     (case l1 => k_is)
     (case c1 => k_is)
     (case k1 => k_is)
     (case a2 => k_is)
     (case l2 => k_is)
     (case c2 => k_is)
     (case k2 => k_is)
     (case a3 => k_is)
     (case l3 => k_is)
     (case c3 => k_is)
     (case k3 => k_is)
     (case a4 => k_is)
     (case l4 => k_is)
     (case c4 => k_is)
     (case k4 => k_is)
     (case a5 => k_is)
     (case l5 => k_is)
     (case c5 => k_is)
     (case k5 => k_is)
     (case a6 => k_is)
     (case l6 => k_is)
     (case c6 => k_is)
     (case k6 => k_is)
     (case a7 => k_is)
     (case l7 => k_is)
     (case c7 => k_is)
     (case k7 => k_is)
     (case a8 => k_is)
     (case i8 => k_is)
     (case l8 => k_is)
     (case c8 => k_is)
     (case k8 => k_is)
     (case a9 => k_is)
     (case l9 => k_is)
     (case c9 => k_is)
     (case k9 => k_is)
     (case a10 => k_is)
     (case l10 => k_is)
     (case c10 => k_is)
     (case k10 => k_is)
     (case a11 => k_is)
     (case l11 => k_is)
     (case c11 => k_is)
     (case k11 => k_is)
     (case a12 => k_is)
     (case l12 => k_is)
     (case c12 => k_is)
     (case k12 => k_is)
     (case a13 => k_is)
     (case l13 => k_is)
     (case c13 => k_is)
     (case k13 => k_is)
     (case a14 => k_is)
     (case l14 => k_is)
     (case c14 => k_is)
     (case k14 => k_is)
     (case a15 => k_is)
     (case l15 => k_is)
     (case c15 => k_is)
     (case k15 => k_is)
     (case a16 => k_is)
     (case l16 => k_is)
     (case c16 => k_is)
     (case k16 => k_is)
     (case a17 => k_is)
     (case l17 => k_is)
     (case c17 => k_is)
     (case k17 => k_is)
     (case a18 => k_is)
     (case l18 => k_is)
     (case c18 => k_is)
     (case k18 => k_is)
     (case a19 => k_is)
     (case l19 => k_is)
     (case c19 => k_is)
     (case k19 => k_is)
     (case a20 => k_is)
     (case l20 => k_is)
     (case c20 => k_is)
     (case k20 => k_is)
     (case a21 => k_is)
     (case l21 => k_is)
     (case c21 => k_is)
     (case k21 => k_is)
     (case a22 => k_is)
     (case l22 => k_is)
     (case c22 => k_is)
     (case k22 => k_is)
     (case a23 => k_is)
     (case l23 => k_is)
     (case c23 => k_is)
     (case k23 => k_is)
     (case a24 => k_is)
     (case l24 => k_is)
     (case c24 => k_is)
     (case k24 => k_is)
     (case a25 => k_is)
     (case l25 => k_is)
     (case c25 => k_is)
     (case k25 => k_is)
     (case a26 => k_is)
     (case l26 => k_is)
     (case c26 => k_is)
     (case k26 => k_is)
     (case a27 => k_is)
     (case l27 => k_is)
     (case c27 => k_is)
     (case k27 => k_is)
     (case a28 => k_is)
     (case l28 => k_is)
     (case c28 => k_is)
     (case k28 => k_is)
     (case a29 => k_is)
     (case l29 => k_is)
     (case c29 => k_is)
     (case k29 => k_is)
     (case a30 => k_is)
     (case l30 => k_is)
     (case c30 => k_is)
     (case k30 => k_is)
     (case a31 => k_is)
     (case l31 => k_is)
     (case c31 => k_is)
     (case k31 => k_is)
     (case a32 => k_is)
     (case l32 => k_is)
     (case c32 => k_is)
     (case k32 => k_is)
     (case a33 => k_is)
     (case l33 => k_is)
     (case c33 => k_is)
     (case k33 => k_is)
     (case a34 => k_is)
     (case l34 => k_is)
     (case c34 => k_is)
     (case k34 => k_is)
     (case w0 => k_is)
     (case w1 => k_is)
     (case w2 => k_is)
     (case q0 => k_is)
     (case m0 => k_is)
     (case v0 => (repeat (first | exact .nil | refine .cons ⟨_, rfl⟩ ?_)))
     (case s0 => decide)
     (case q1 => k_is)
     (case m1 => k_is)
     (case v1 => (repeat (first | exact .nil | refine .cons ⟨_, rfl⟩ ?_)))
     (case s1 => decide)
     (case qD0 => k_is)
     (case mD0 => kernel_rfl)
     (case z_len => k_is)
     (case z_list => k_is)
     (case z_tuple => k_is)
     (case z_isinstance => k_is)
     (case z_range => k_is)
     (case z_all => k_is)
     (case z_enumerate => k_is)
     (case z_dict => k_is)
     (case z_str => k_is)
     (case z_zip => k_is)
     (case z_divmod => k_is)
   obtain ⟨t, T⟩ := T
   have e0 := hmg.symm.trans T.law.g
   cases e0
   exact ⟨t.d_law, T.bl, λ base kb nb => K83.ok_law T⟩
 case S => exact λ K H a ns hl hO hS => ⟨a, ns, rfl, hS, hl, λ _ => rfl⟩
 case C => exact λ _ _ _ _ z => z
