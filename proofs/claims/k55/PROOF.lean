import PyProof.Rows.All
import Wide.All
import OpenK.AllK
import Wide.FinOn
import Lean
import PyProof.EqAt
import PyProof.EqKinds
import PyProof.TupleCall
import KE.KDictLaws
import KE.KDictOf
import KE.KEqDict
import KE.BitLaws
import PyProof.ZipIter
import PyProof.Rows.ZipGen
import PyProof.Rows.StrSplitAre
import PyProof.ExcInit
import PyProof.ExcBaseAll.ValueError
import PyProof.PassesOwn
import PyProof.StationsW
import PyProof.InstStoreFacts
import PyProof.ExcAttrAll.ValueError
import PyProof.NsDelKeeps
import KE.KListMore
import PyProof.P3Eq
import PyProof.Rows.TupDisplay
import PySem.Challenge.RW_stopglass_k55_too_long
set_option Elab.async false
set_option linter.all false
set_option maxRecDepth 100000

section
namespace Hd
open PySem PySem.W PyProof.Rows
lay_quick PySem.W.topFrom
lay_quick PySem.Challenge.pw_stopglass_k55_too_long
noncomputable abbrev TQ := PySem.W.Fast.tw370005188180407882 PySem.W.Fast.tw14364793385576792824
noncomputable abbrev OQ := PySem.W.Fast.tw4187177175401517315
noncomputable abbrev tp : Program := PySem.W.Fast.tw14428728879834870526
abbrev lo : List Str := [PySem.Str.ofString "ATOM_PLACES"]
def keeps : PySem.Stmt → Bool
 | .Assign [.Name x _] _ _ => !decide (x = "__name__")
 | _ => true
def viewOf (p : Program) : Program := { p with main := { p.main with body := p.main.body.filter keeps } }
abbrev Xf : Program → Shared → Bool := (fun p s => xlAt (viewOf p) [] s && recOk (RowW.records (OpenRow.toRowW (OpenLaw.row PySem.Challenge.rw_stopglass_k55_too_long))) s)
noncomputable def S0 (w : World) (os : OsState) : Shared := ⟨boot_heap w.params, Array.mk [], boot_drawn, boot_toks, os⟩
section
local macro_rules | `(tactic| o_head $H) => `(tactic| (case Hk => exact $H))
noncomputable def hk : (H : Hook) ×' ((∀ P : Prop, P) → PySem.Challenge.rw_stopglass_k55_too_long.Holds) := by
 refine ⟨?Hk, fun h => ?m⟩
 rotate_left
 w_on; o_law; k_head; exact h _
end
theorem r0 : ∀ (w : World) (os : OsState), (TQ tp (w.withFollow "special-get-raises" false) 20000 (S0 (w.withFollow "special-get-raises" false) os)).map (fun s => (OQ (viewOf tp) lo (importedModules tp.main.body) (Xf tp) true s, Hook.obs hk.1 s)) = some (openGood (viewOf tp) lo, Hook.val hk.1 (w.withFollow "special-get-raises" false)) := by
 intro w os; kernel_rfl
theorem r1 : ∀ (w : World) (os : OsState), (TQ tp (w.withFollow "special-get-raises" true) 20000 (S0 (w.withFollow "special-get-raises" true) os)).map (fun s => (OQ (viewOf tp) lo (importedModules tp.main.body) (Xf tp) true s, Hook.obs hk.1 s)) = some (openGood (viewOf tp) lo, Hook.val hk.1 (w.withFollow "special-get-raises" true)) := by
 intro w os; kernel_rfl
theorem left_twin {p p' : Program} {F : Program → Program} {X : Program → Shared → Bool} {loose : List Str} {α : Type} {Yf : Shared → α} {Ya : World → α} {N : Nat} {g0 : Bool} (row : String) (ep : p = p') (e : opening p = plainProg p.main.scope.names) (hN : Nat.ble 600 N = true) (f : ∀ s, fenceModules? p s = some s)
  (h0 : ∀ (w : World) (os : OsState), (TQ p' (w.withFollow row false) N (S0 (w.withFollow row false) os)).map (fun s => (OQ (F p') loose (importedModules p'.main.body) (X p') g0 s, Yf s)) = some (openGood (F p') loose, Ya (w.withFollow row false)))
  (h1 : ∀ (w : World) (os : OsState), (TQ p' (w.withFollow row true) N (S0 (w.withFollow row true) os)).map (fun s => (OQ (F p') loose (importedModules p'.main.body) (X p') g0 s, Yf s)) = some (openGood (F p') loose, Ya (w.withFollow row true))) : LeftO p (F p) loose (X p) Yf Ya N g0 := fun w => by
 subst ep
 have key : ∀ b, (openEnds treeTable p (w.withFollow row b) N).map (fun s => (openSeen (F p) loose (importedModules p.main.body) (X p) g0 s, Yf s)) = some (openGood (F p) loose, Ya (w.withFollow row b)) := by
  intro b
  obtain ⟨s, hs, hv⟩ := Option.map_eq_some_iff.mp (boot_open e hN f (w.withFollow row b))
  have es : s = S0 (w.withFollow row b) s.os := by
   cases s
   simp only [Prod.mk.injEq] at hv
   obtain ⟨a1, a2, a3, a4⟩ := hv
   subst a1 a2 a3 a4
   rfl
  unfold openEnds
  rw [hs, es, PySem.W.Fast.te370005188180407882, PySem.W.Fast.te14364793385576792824, PySem.W.Fast.te4187177175401517315]
  cases b
  . exact h0 w s.os
  . exact h1 w s.os
 have e0 := World.withFollow_self w row
 have := key (w.params.followText row)
 rwa [e0] at this
theorem left : LeftO PySem.Challenge.pw_stopglass_k55_too_long (viewOf PySem.Challenge.pw_stopglass_k55_too_long) lo (Xf PySem.Challenge.pw_stopglass_k55_too_long) (Hook.obs hk.1) (Hook.val hk.1) 20000 true :=
 left_twin (p := PySem.Challenge.pw_stopglass_k55_too_long) (p' := tp) (F := viewOf) (X := Xf) (loose := lo) (Yf := Hook.obs hk.1) (Ya := Hook.val hk.1) (N := 20000) (g0 := true) "special-get-raises" PySem.W.Fast.te14428728879834870526 (by kernel_rfl) (by decide) (fun s => by kernel_rfl) r0 r1
theorem left_of {H : Hook} (e : H = hk.1) : LeftO PySem.Challenge.pw_stopglass_k55_too_long (viewOf PySem.Challenge.pw_stopglass_k55_too_long) lo (Xf PySem.Challenge.pw_stopglass_k55_too_long) (Hook.obs H) (Hook.val H) 20000 true := by subst e; exact left
local macro_rules | `(tactic| o_head $H) => `(tactic| (
 refine holds_open (q := viewOf PySem.Challenge.pw_stopglass_k55_too_long) (loose := lo) (Xt := Xf PySem.Challenge.pw_stopglass_k55_too_long) (XP := XL (viewOf PySem.Challenge.pw_stopglass_k55_too_long) []) (Yf := Hook.obs $H) (Ya := Hook.val $H) (YP := Hook.says $H) (N := 20000) ?hl (Hook.of $H) (Hook.keeps $H) (fun s e => xl_of s (Bool.and_eq_true_iff.mp e).1) XL.keeps (by rfl) (by rfl) (by rfl) (fun s e => recFacts_of (Bool.and_eq_true_iff.mp e).2) (by rfl) (by assumption) (by decide +kernel) ⟨rfl, rfl, rfl, rfl, rfl, by decide +kernel⟩ ?hw ?hc
 (case hl => exact left_of (H := $H) (by kernel_rfl))))
set_option maxHeartbeats 0 in
noncomputable def pk : (G : Prop) ×' (G → PySem.Challenge.rw_stopglass_k55_too_long.Holds) := by
 refine' ⟨_, fun h => _⟩
 rotate_left
 w_on; o_law; k_head; (case hw => w_witness2)
 exact h
end Hd
end
namespace L2
open PySem PySem.Spec PyProof.Rows


abbrev Key := Sum Int Str
def keyIs : Key → Value → Bool
  | .inl k, v => Value.isInt k v
  | .inr x, v => Value.isStrOf x v
def keyH (w : World) : Key → Int
  | .inl k => hashInt k
  | .inr x => hashStr w x
theorem keyIs_shape : ∀ {k : Key} {v : Value}, keyIs k v = true → (∃ i t, k = Sum.inl i ∧ v = Value.int i t) ∨ (∃ x t, k = Sum.inr x ∧ v = Value.str x t)
  | .inl i, v, h => by
    obtain ⟨t, e⟩ := Value.isInt_shape (k := i) (v := v) h
    exact .inl ⟨i, t, rfl, e⟩
  | .inr x, v, h => by
    obtain ⟨t, e⟩ := Value.isStrOf_shape (x := x) (v := v) h
    exact .inr ⟨x, t, rfl, e⟩
theorem keyIs_int (i : Int) (t : Tok) : keyIs (.inl i) (.int i t) = true := by simp [keyIs, Value.isInt]
theorem keyIs_str (x : Str) (t : Tok) : keyIs (.inr x) (.str x t) = true := by simp [keyIs, Value.isStrOf]
theorem key_ll (a b : Int) : decide ((Sum.inl a : Key) = Sum.inl b) = (a == b) := by
  by_cases e : a = b
  · subst e; simp
  · have h : ¬ (Sum.inl a : Key) = Sum.inl b := fun q => e (Sum.inl.inj q)
    rw [decide_eq_false h]
    exact (beq_eq_false_iff_ne.mpr e).symm
theorem key_rr (a b : Str) : decide ((Sum.inr a : Key) = Sum.inr b) = decide (a = b) := by
  by_cases e : a = b
  · subst e; simp
  · have h : ¬ (Sum.inr a : Key) = Sum.inr b := fun q => e (Sum.inr.inj q)
    rw [decide_eq_false h, decide_eq_false e]
theorem key_lr (a : Int) (b : Str) : decide ((Sum.inl a : Key) = Sum.inr b) = false := decide_eq_false (fun q => nomatch q)
theorem key_rl (a : Str) (b : Int) : decide ((Sum.inr a : Key) = Sum.inl b) = false := decide_eq_false (fun q => nomatch q)

def mixKind (prog : Program) (w : World) : PySem.KeyKind prog w Key where
  is := keyIs
  hash := keyH w
  inj := fun v a b ha hb => by
    rcases keyIs_shape ha with ⟨i, t, rfl, rfl⟩ | ⟨x, t, rfl, rfl⟩
    · rcases keyIs_shape hb with ⟨j, u, rfl, e⟩ | ⟨y, u, rfl, e⟩
      · injection e with e1 _; rw [e1]
      · exact nomatch e
    · rcases keyIs_shape hb with ⟨j, u, rfl, e⟩ | ⟨y, u, rfl, e⟩
      · exact nomatch e
      · injection e with e1 _; rw [e1]
  byValue := fun k v h => by
    rcases keyIs_shape h with ⟨i, t, rfl, rfl⟩ | ⟨x, t, rfl, rfl⟩ <;> rfl
  pyHash := fun hv h => by
    rcases keyIs_shape hv with ⟨i, t, rfl, rfl⟩ | ⟨x, t, rfl, rfl⟩
    · exact wpAny_pyHash_int h
    · exact wpAny_pyHash_str h
  eqBool := fun hu hv h => by
    rcases keyIs_shape hu with ⟨i, t, rfl, rfl⟩ | ⟨x, t, rfl, rfl⟩
    · rcases keyIs_shape hv with ⟨j, u, rfl, rfl⟩ | ⟨y, u, rfl, rfl⟩
      · rw [key_ll] at h; exact wpAny_eqBool_int h
      · rw [key_lr] at h; exact SeqAt.EqAt.int_str i t y u _ _ _ _ h
    · rcases keyIs_shape hv with ⟨j, u, rfl, rfl⟩ | ⟨y, u, rfl, rfl⟩
      · rw [key_rl] at h; exact SeqAt.EqAt.str_int x t j u _ _ _ _ h
      · rw [key_rr] at h; exact wpAny_eqBool_str h
  «strs» := fun k x t v h => by
    rcases keyIs_shape h with ⟨i, u, rfl, e⟩ | ⟨y, u, rfl, e⟩
    · exact nomatch e
    · injection e with e1 _
      subst e1
      cases v <;> rfl

theorem mixKind_int (prog : Program) (w : World) (i : Int) (t : Tok) : (mixKind prog w).is (.inl i) (.int i t) = true := keyIs_int i t
theorem mixKind_str (prog : Program) (w : World) (x : Str) (t : Tok) : (mixKind prog w).is (.inr x) (.str x t) = true := keyIs_str x t
end L2

namespace L2
open PySem PySem.Spec PyProof.Rows


inductive V where
  | non | bl (b : Bool) | int (i : Int) | str (x : Str) | byt (b : Array UInt8) | flt (b : UInt64) | ref (a : Addr) | ty (n : String)
  deriving DecidableEq

def RelV : V → Value → Prop
  | .non, u => u = Value.none
  | .bl b, u => u = Value.bool b
  | .int i, u => ∃ t, u = Value.int i t
  | .str x, u => ∃ t, u = Value.str x t
  | .byt b, u => ∃ t, u = Value.bytes b t
  | .flt b, u => ∃ t, u = Value.float b t
  | .ref a, u => u = Value.ref a
  | .ty n, u => u = Value.type n

abbrev Vals : List V → List Value → Prop := Paired RelV
theorem Vals.length {xs : List V} {us : List Value} (r : Vals xs us) : xs.length = us.length := Paired.length r
theorem Vals.get : ∀ {xs : List V} {us : List Value} {i : Nat} {x : V}, Vals xs us → xs[i]? = some x → ∃ u, us[i]? = some u ∧ RelV x u
  | _, _, _, _, .nil, e => by simp at e
  | _, _, 0, _, .cons r _, e => by simp at e; subst e; exact ⟨_, rfl, r⟩
  | _, _, i + 1, x, .cons _ t, e => by
    obtain ⟨u, h1, h2⟩ := Vals.get (i := i) (x := x) t (by simpa using e)
    exact ⟨u, by simpa using h1, h2⟩
theorem Vals.set {x : V} {u : Value} (r : RelV x u) : ∀ {xs : List V} {us : List Value} (i : Nat), Vals xs us → Vals (xs.set i x) (us.set i u)
  | _, _, _, .nil => .nil
  | _, _, 0, .cons _ t => .cons r t
  | _, _, i + 1, .cons q t => .cons q (Vals.set r i t)
theorem Vals.append : ∀ {xs ys : List V} {us ws : List Value}, Vals xs us → Vals ys ws → Vals (xs ++ ys) (us ++ ws)
  | _, _, _, _, .nil, s => s
  | _, _, _, _, .cons r t, s => .cons r (Vals.append t s)
theorem Vals.take : ∀ {xs : List V} {us : List Value} (n : Nat), Vals xs us → Vals (xs.take n) (us.take n)
  | _, _, 0, _ => .nil
  | _, _, _ + 1, .nil => .nil
  | _, _, n + 1, .cons r t => .cons r (Vals.take n t)
theorem Vals.drop : ∀ {xs : List V} {us : List Value} (n : Nat), Vals xs us → Vals (xs.drop n) (us.drop n)
  | _, _, 0, r => r
  | _, _, _ + 1, .nil => .nil
  | _, _, n + 1, .cons _ t => Vals.drop n t
theorem Vals.none_of : ∀ {xs : List V} {us : List Value} {i : Nat}, Vals xs us → xs[i]? = none → us[i]? = none := fun {xs us i} r e => by
  have h1 := r.length
  have h2 : xs.length ≤ i := List.getElem?_eq_none_iff.mp e
  exact List.getElem?_eq_none_iff.mpr (by omega)

def RelO : Option V → Option Value → Prop
  | some v, some u => RelV v u
  | none, none => True
  | _, _ => False
def KV {κ : Type} : List (κ × V) → List (κ × Value) → Prop := Paired fun (p : κ × V) (q : κ × Value) => p.1 = q.1 ∧ RelV p.2 q.2


def kV : Key → V
  | .inl i => .int i
  | .inr x => .str x


inductive HO where
  
  | lst (xs : List V)
  
  | tup (xs : List V)
  
  | dK (kvs : List (Key × V)) | dT (kvs : List (List Key × V))
  
  | set (S : Int → Bool) (n : Nat)
  
  | ins (C dx : Addr) (fs : List (Str × V))
  
  | own (x : Addr)
  
  | xd (fs : List (Str × V))
  
  | met (f x : Addr)
  
  | rng (lo hi : Int)
  
  | frz (o : Obj) (u : HO)
  
  | tbl (ps : Array Value)
  
  | ext (φ : Heap → Prop)

abbrev Hp := Addr → Option HO
def upd (H : Hp) (a : Addr) (o : HO) : Hp := fun b => if b = a then some o else H b
theorem upd_same {H : Hp} {a : Addr} {o : HO} : upd H a o a = some o := by unfold upd; rw [if_pos rfl]
theorem upd_ne {H : Hp} {a b : Addr} {o : HO} (h : b ≠ a) : upd H a o b = H b := by unfold upd; rw [if_neg h]
theorem upd_upd {H : Hp} {a : Addr} {o u : HO} : upd (upd H a o) a u = upd H a u := by
  funext b; unfold upd; split <;> rfl

theorem ne_of {H : Hp} {a b : Addr} {o u : HO} (h : H a = some o) (h' : H b = some u) (d : o ≠ u) : a ≠ b := by
  intro e; subst e; rw [h] at h'; exact d (Option.some.inj h')
theorem ne_of_none {H : Hp} {a b : Addr} {o : HO} (h : H a = some o) (h' : H b = none) : a ≠ b := by
  intro e; subst e; rw [h] at h'; cases h'

section
variable (P : Program) (w : World)
def ObjOk (H : Hp) (h : Heap) (a : Addr) : HO → Prop
  | .lst xs => xs.length ≤ sizeLine ∧ ∃ (its : List Value) (n : Nat), Vals xs its ∧ h.get? a = some { cls := .type "list", data := .seq its.toArray n }
  | .tup xs => xs.length ≤ sizeLine ∧ ∃ its : List Value, Vals xs its ∧ IsTup h a its.toArray
  | .dK kvs => kvs.length ≤ sizeLine ∧ (a == sysModules) = false ∧ ∃ vs, KV kvs vs ∧ h.DictOf (mixKind P w) a vs
  | .dT kvs => kvs.length ≤ sizeLine ∧ (a == sysModules) = false ∧ ∃ xs : List (List Key × Addr × Value),
      Paired (fun (p : List Key × V) (q : List Key × Addr × Value) => p.1 = q.1 ∧ H q.2.1 = some (.tup (p.1.map kV)) ∧ RelV p.2 q.2.2) kvs xs ∧
      ∃ o es ep, h.get? a = some o ∧ o.ExactDict ∧ o.data = .dict es ep ∧ es.toList = xs.map (entryOfKey (tupleKind (mixKind P w))) ∧ (xs.map (·.1)).Nodup
  | .set S n => h.SetOf (intKind P w) a S n
  | .ins C dx fs => H dx = some (.own a) ∧ fs.length ≤ 1000 ∧ dx ≠ a ∧ h.get? a = some (PySem.W.instObj C dx) ∧
      ∃ mA, h.Ns1 dx mA ∧ (∀ f, RelO (fs.lookup f) (mA f)) ∧ PySem.Within mA (fs.map (·.1))
  | .own _ => ∃ o, h.get? a = some o
  | .xd fs => ∃ mA, h.Ns1 a mA ∧ ∀ f, RelO (fs.lookup f) (mA f)
  | .rng lo hi => ∃ t u v, h.get? a = some { cls := .type "range", data := .fields #[.int lo t, .int hi u, .int 1 v] }
  | .frz o u => h.get? a = some o ∧ ObjOk H h a u
  | .tbl ps => h.get? a = some { cls := .none, data := .fields ps }
  | .met f x => h.get? a = some (PySem.W.methodObj (.ref f) (.ref x))
  | .ext φ => φ h ∧ (∃ o, h.get? a = some o) ∧ ∀ h1 h2 : Heap, φ h1 → (∀ o, h1.get? a = some o → h2.get? a = some o) → φ h2

def HOk (H : Hp) (h : Heap) : Prop := ∀ a o, H a = some o → ObjOk P w H h a o
end

section
variable {P : Program} {w : World} {H H' : Hp} {h h' : Heap} {a : Addr} {o : HO}
theorem ObjOk.lt (x : ObjOk P w H h a o) : a < h.objs.size := by
  cases o with
  | lst xs => obtain ⟨_, _, _, _, e⟩ := x; exact Heap.lt_size e
  | tup xs => obtain ⟨_, _, _, p⟩ := x; exact p.lt
  | dK kvs => obtain ⟨_, _, _, _, o, _, _, e, _⟩ := x; exact Heap.lt_size e
  | dT kvs => obtain ⟨_, _, _, _, o, _, _, e, _⟩ := x; exact Heap.lt_size e
  | set S n => obtain ⟨o, _, _, _, e, _⟩ := x; exact Heap.lt_size e
  | ins C dx fs => obtain ⟨_, _, _, e, _⟩ := x; exact Heap.lt_size e
  | own y => obtain ⟨_, e⟩ := x; exact Heap.lt_size e
  | xd fs => obtain ⟨_, ⟨_, _, _, e, _⟩, _⟩ := x; exact Heap.lt_size e
  | rng lo hi => obtain ⟨_, _, _, e⟩ := x; exact Heap.lt_size e
  | frz ob u => obtain ⟨e, _⟩ := x; exact Heap.lt_size e
  | tbl ps => exact Heap.lt_size (show h.get? a = some _ from x)
  | met f y => exact Heap.lt_size (show h.get? a = some _ from x)
  | ext φ => obtain ⟨_, ⟨_, e⟩, _⟩ := x; exact Heap.lt_size e
theorem Paired.mapP {α β : Type} {F G : α → β → Prop} : ∀ {l₁ : List α} {l₂ : List β}, Paired F l₁ l₂ → (∀ a b, F a b → G a b) → Paired G l₁ l₂
  | _, _, .nil, _ => .nil
  | _, _, .cons r t, f => .cons (f _ _ r) (Paired.mapP t f)
theorem ObjOk.stay (x : ObjOk P w H h a o) (k : ∀ b u, (b = a ∨ H b = some (.own a)) → h.get? b = some u → h'.get? b = some u)
    (ho : ∀ b, H b = some (.own a) → H' b = some (.own a)) (ht : ∀ b xs, H b = some (.tup xs) → H' b = some (.tup xs)) : ObjOk P w H' h' a o := by
  induction o with
  | lst xs => obtain ⟨z, its, n, r, e⟩ := x; exact ⟨z, its, n, r, k _ _ (.inl rfl) e⟩
  | tup xs => obtain ⟨z, its, r, ob, e, c⟩ := x; exact ⟨z, its, r, ob, k _ _ (.inl rfl) e, c⟩
  | dK kvs => obtain ⟨z, y, vs, r, ob, es, ep, e, c⟩ := x; exact ⟨z, y, vs, r, ob, es, ep, k _ _ (.inl rfl) e, c⟩
  | dT kvs =>
    obtain ⟨z, y, xs, r, ob, es, ep, e, c⟩ := x
    exact ⟨z, y, xs, Paired.mapP r fun p q z => ⟨z.1, ht _ _ z.2.1, z.2.2⟩, ob, es, ep, k _ _ (.inl rfl) e, c⟩
  | set S n => obtain ⟨ob, es, ep, t, e, c⟩ := x; exact ⟨ob, es, ep, t, k _ _ (.inl rfl) e, c⟩
  | ins C dx fs =>
    obtain ⟨d, z, ne, e, mA, ⟨od, es, ep, e2, c⟩, r⟩ := x
    exact ⟨ho _ d, z, ne, k _ _ (.inl rfl) e, mA, ⟨od, es, ep, k _ _ (.inr d) e2, c⟩, r⟩
  | own y => obtain ⟨ob, e⟩ := x; exact ⟨ob, k _ _ (.inl rfl) e⟩
  | xd fs => obtain ⟨mA, ⟨od, es, ep, e, c⟩, r⟩ := x; exact ⟨mA, ⟨od, es, ep, k _ _ (.inl rfl) e, c⟩, r⟩
  | rng lo hi => obtain ⟨t, u, v, e⟩ := x; exact ⟨t, u, v, k _ _ (.inl rfl) e⟩
  | frz ob u ih => obtain ⟨e, q⟩ := x; exact ⟨k _ _ (.inl rfl) e, ih q⟩
  | tbl ps =>
    have e : h.get? a = some { cls := .none, data := .fields ps } := x
    show h'.get? a = some { cls := .none, data := .fields ps }
    exact k a _ (.inl rfl) e
  | met f y =>
    have e : h.get? a = some (PySem.W.methodObj (.ref f) (.ref y)) := x
    show h'.get? a = some (PySem.W.methodObj (.ref f) (.ref y))
    exact k a _ (.inl rfl) e
  | ext φ => obtain ⟨p, ⟨o, e⟩, st⟩ := x; exact ⟨st _ _ p fun o q => k _ _ (.inl rfl) q, ⟨o, k _ _ (.inl rfl) e⟩, st⟩
theorem HOk.lt (x : HOk P w H h) (e : H a = some o) : a < h.objs.size := (x a o e).lt
theorem HOk.fresh (x : HOk P w H h) (e : h.objs.size ≤ a) : H a = none := by
  cases q : H a with
  | none => rfl
  | some u => exact absurd (Nat.lt_of_lt_of_le (x.lt q) e) (Nat.lt_irrefl _)

theorem HOk.kept (x : HOk P w H h) (k : ∀ b u, h.get? b = some u → h'.get? b = some u) : HOk P w H h' := fun a o e =>
  (x a o e).stay (fun b u _ q => k b u q) (fun _ q => q) fun _ _ q => q

theorem HOk.laid (x : HOk P w H h) (k : ∀ b u, h.get? b = some u → h'.get? b = some u) (hp : h.objs.size ≤ a) (new : ObjOk P w (upd H a o) h' a o) : HOk P w (upd H a o) h' := fun b u e => by
  have hn := x.fresh hp
  by_cases hb : b = a
  · subst hb; rw [upd_same] at e; cases e; exact new
  · rw [upd_ne hb] at e
    exact (x b u e).stay (fun c v _ q => k c v q) (fun c q => by rw [upd_ne (ne_of_none q hn)]; exact q) fun c xs q => by rw [upd_ne (ne_of_none q hn)]; exact q
end


def Rd (H : Hp) (a : Addr) (u : HO) : Prop := H a = some u ∨ ∃ o, H a = some (.frz o u)
theorem Rd.of {H : Hp} {a : Addr} {u : HO} (h : H a = some u) : Rd H a u := .inl h
theorem Rd.ok {P : Program} {w : World} {H : Hp} {h : Heap} {a : Addr} {u : HO} (r : Rd H a u) (x : HOk P w H h) : ObjOk P w H h a u := by
  rcases r with r | ⟨o, r⟩
  · exact x a u r
  · obtain ⟨_, q⟩ := x a _ r
    exact q

def Mut : Option HO → Prop
  | some (.lst _) => True
  | some (.dK _) => True
  | some (.dT _) => True
  | some (.set _ _) => True
  | some (.ins _ _ _) => True
  | some (.ext _) => True
  | _ => False
section
variable {P : Program} {w : World} {H : Hp} {h h' : Heap} {x e : Addr} {o' : HO}

theorem HOk.write (ok : HOk P w H h) (mu : Mut (H x)) (he : e = x ∨ H e = some (.own x)) (k : ∀ b u, b ≠ e → h.get? b = some u → h'.get? b = some u) (heo : ∃ u, h'.get? e = some u)
    (new : ObjOk P w (upd H x o') h' x o') : HOk P w (upd H x o') h' := fun b u q => by
  have nown : ∀ c y, H c = some (.own y) → c ≠ x := fun c y r z => by subst z; rw [r] at mu; exact mu
  have ntup : ∀ c xs, H c = some (.tup xs) → c ≠ x := fun c xs r z => by subst z; rw [r] at mu; exact mu
  by_cases hb : b = x
  · subst hb; rw [upd_same] at q; cases q; exact new
  · rw [upd_ne hb] at q
    by_cases hbe : b = e
    · have q' : H b = some (.own x) := by
        rcases he with z | z
        · exact absurd (hbe.trans z) hb
        · rw [hbe]; exact z
      rw [q] at q'; cases q'
      obtain ⟨v, hv⟩ := heo
      exact ⟨v, by rw [hbe]; exact hv⟩
    · refine (ok b u q).stay (fun c v hc r => k c v ?_ r) (fun c r => by rw [upd_ne (nown c b r)]; exact r) fun c xs r => by rw [upd_ne (ntup c xs r)]; exact r
      rcases hc with rfl | hc
      · exact hbe
      · rintro rfl
        rcases he with z | z
        · exact nown c b hc z
        · rw [hc] at z; cases z; exact hb rfl
end


structure Un (fs ex : List Addr) (H H' : Hp) (h h' : Heap) : Prop where
  keep : ∀ b o, h.get? b = some o → H b = none → b ∉ fs → b ∉ ex → h'.get? b = some o
  slot : ∀ b o, h.get? b = some o → H b = none → b ∈ fs → b ∉ ex → ∃ sl, h'.get? b = some { o with slots := sl }
  free : ∀ b o, h.get? b = some o → H b = none → b ∉ ex → H' b = none
  there : ∀ b o, h.get? b = some o → b ∉ ex → ∃ o', h'.get? b = some o'
  tups : ∀ b xs, H b = some (.tup xs) → H' b = some (.tup xs)
  frzs : ∀ b o u, H b = some (.frz o u) → H' b = some (.frz o u)
  tbls : ∀ b ps, H b = some (.tbl ps) → ∃ more, H' b = some (.tbl (ps ++ more))
section
variable {fs fs' ex ex' : List Addr} {H H1 H2 : Hp} {h h1 h2 h' : Heap} {a x e : Addr} {o : HO}
theorem Un.any (u : Un fs ex H H1 h h1) {b : Addr} {ob : Obj} (q : h.get? b = some ob) (n : H b = none) (hx : b ∉ ex) : ∃ sl, h1.get? b = some { ob with slots := sl } := by
  by_cases hb : b ∈ fs
  · exact u.slot b ob q n hb hx
  · exact ⟨ob.slots, u.keep b ob q n hb hx⟩
theorem Un.trans (a : Un fs ex H H1 h h1) (b : Un fs ex H1 H2 h1 h2) : Un fs ex H H2 h h2 where
  keep := fun c ob q n hc hx => b.keep c ob (a.keep c ob q n hc hx) (a.free c ob q n hx) hc hx
  slot := fun c ob q n hc hx => by
    obtain ⟨sl, e1⟩ := a.slot c ob q n hc hx
    obtain ⟨sl', e2⟩ := b.slot c _ e1 (a.free c ob q n hx) hc hx
    exact ⟨sl', e2⟩
  free := fun c ob q n hx => by
    obtain ⟨o', e1⟩ := a.there c ob q hx
    exact b.free c o' e1 (a.free c ob q n hx) hx
  there := fun c ob q hx => by
    obtain ⟨o', e1⟩ := a.there c ob q hx
    exact b.there c o' e1 hx
  tups := fun c xs q => b.tups c xs (a.tups c xs q)
  frzs := fun c ob xs q => b.frzs c ob xs (a.frzs c ob xs q)
  tbls := fun c ps q => by
    obtain ⟨m1, e1⟩ := a.tbls c ps q
    obtain ⟨m2, e2⟩ := b.tbls c _ e1
    exact ⟨m1 ++ m2, by rw [e2, Array.append_assoc]⟩
theorem Un.kept (k : ∀ b u, h.get? b = some u → h'.get? b = some u) : Un fs ex H H h h' :=
  ⟨fun b ob q _ _ _ => k b ob q, fun b ob q _ _ _ => ⟨ob.slots, k b ob q⟩, fun _ _ _ n _ => n, fun b ob q _ => ⟨ob, k b ob q⟩, fun _ _ q => q, fun _ _ _ q => q, fun _ ps q => ⟨#[], by rw [q]; simp⟩⟩
theorem Un.refl : Un fs ex H H h h := Un.kept fun _ _ q => q
theorem Un.laid (k : ∀ b u, h.get? b = some u → h'.get? b = some u) (hp : h.objs.size ≤ a) (hn : H a = none) : Un fs ex H (upd H a o) h h' where
  keep := fun b u q _ _ _ => k b u q
  slot := fun b u q _ _ _ => ⟨u.slots, k b u q⟩
  free := fun b u q n _ => by rw [upd_ne (Nat.ne_of_lt (Nat.lt_of_lt_of_le (Heap.lt_size q) hp))]; exact n
  there := fun b u q _ => ⟨u, k b u q⟩
  tups := fun b xs q => by rw [upd_ne (ne_of_none q hn)]; exact q
  frzs := fun b u xs q => by rw [upd_ne (ne_of_none q hn)]; exact q
  tbls := fun b ps q => ⟨#[], by rw [upd_ne (ne_of_none q hn), q]; simp⟩
theorem Un.write (mu : Mut (H x)) (he : e = x ∨ H e = some (.own x)) (k : ∀ b u, b ≠ e → h.get? b = some u → h'.get? b = some u) (heo : ∃ u, h'.get? e = some u) : Un fs ex H (upd H x o) h h' := by
  have hx : ∀ b, H b = none → b ≠ x := fun b n z => by subst z; rw [n] at mu; exact mu
  have hb : ∀ b, H b = none → b ≠ e := fun b n z => by
    subst z
    rcases he with r | r
    · exact hx b n r
    · rw [n] at r; cases r
  have hm : ∀ b u, H b = some u → ¬ Mut (some u) → b ≠ x := fun b u q nm z => by subst z; rw [q] at mu; exact nm mu
  refine ⟨fun b u q n _ _ => k b u (hb b n) q, fun b u q n _ _ => ⟨u.slots, k b u (hb b n) q⟩, fun b u q n _ => by rw [upd_ne (hx b n)]; exact n, fun b u q _ => ?_,
    fun b xs q => by rw [upd_ne (hm b _ q fun z => z)]; exact q, fun b u xs q => by rw [upd_ne (hm b _ q fun z => z)]; exact q, fun b ps q => ⟨#[], by rw [upd_ne (hm b _ q fun z => z), q]; simp⟩⟩
  by_cases hbe : b = e
  · subst hbe; exact heo
  · exact ⟨u, k b u hbe q⟩
theorem Un.mono (u : Un fs ex H H1 h h1) (hs : ∀ b ∈ fs, b ∈ fs') (hx : ∀ b ∈ ex, b ∈ ex') : Un fs' ex' H H1 h h1 :=
  ⟨fun b ob q n hb he => u.keep b ob q n (fun z => hb (hs b z)) fun z => he (hx b z), fun _ _ q n _ he => u.any q n fun z => he (hx _ z), fun b ob q n he => u.free b ob q n fun z => he (hx b z), fun b ob q he => u.there b ob q fun z => he (hx b z), u.tups, u.frzs, u.tbls⟩
end


def trk (h : Heap) (H : Hp) : List Addr := (List.range h.objs.size).filter fun a => (H a).isSome
def hidT (h : Heap) (H : Hp) : Heap := PySem.W.hideAll h (trk h H)
theorem hidT_size (h : Heap) (H : Hp) : (hidT h H).objs.size = h.objs.size := PySem.W.hideAll_size _ _
theorem hidT_get {h : Heap} {H : Hp} {b : Addr} {o : Obj} (e : h.get? b = some o) (n : H b = none) : (hidT h H).get? b = some o :=
  PySem.W.hideAll_get _ e fun hm => by
    have q : (H b).isSome = true := (List.mem_filter.mp hm).2
    rw [n] at q; simp at q
theorem of_hidT {h : Heap} {H : Hp} {b : Addr} {o : Obj} (e : (hidT h H).get? b = some o) : h.get? b = some o ∧ H b = none := by
  have e' : h.get? b = some o := PySem.W.of_hideAll (trk h H) e
  refine ⟨e', ?_⟩
  cases q : H b with
  | none => rfl
  | some x =>
    have hm : b ∈ trk h H := List.mem_filter.mpr ⟨List.mem_range.mpr (Heap.lt_size e'), by simp [q]⟩
    have z : (hidT h H).get? b = none := PySem.W.hideAll_none (trk h H) hm
    rw [z] at e; cases e


def allNews (g h : Heap) (L : Addr) : List (Addr × Obj) := (List.range h.objs.size).filterMap fun a => if a = L ∨ (g.get? a).isSome = true then none else (h.get? a).map fun o => (a, o)
def rest (g h : Heap) (L d : Addr) : List (Addr × Obj) := (allNews g h L).filter fun p => decide (p.1 ≠ d)
end L2

namespace L2
open PySem PySem.Spec PyProof.Rows


structure Mod (K : PySem.W.Frag) (mg : Str → Option Value) (base : Heap) : Prop where
  kin : K.In base
  glob : base.Ns mainGlobals mg
  blt : ∃ mb, base.Ns builtinsNs mb ∧ ∀ x : Str, x ≠ "__name__" → mb x = bootBuiltins x
  nolimit : base.NoLimit


structure Cx where
  prog : Program
  w : World
  K : PySem.W.Frag
  mg : Str → Option Value
  base : Heap
  A : Around
  N : List Str
  s₀ : Shared
  H₀ : Hp
  env : Env
  outer : List Env
  stack : List Env
  ex : List Addr
  fn : Str → Bool
  calm : Bool
  pn : List (Addr × Obj)
  xe : Value → Shared → Prop

def frs (l : List Env) : List Addr := l.filterMap (·.frame)
abbrev Cx.fs (X : Cx) : List Addr := frs X.outer

def Vis (sc : Scope) (x : Str) : Prop := sc.names.lookup x = some .local ∨ sc.names.lookup x = some .cell ∨ sc.names.lookup x = some .free
def Loc (sc : Scope) (x : Str) : Prop := sc.names.lookup x = some .local ∨ sc.names.lookup x = some .cell
def Look (env : Env) (h : Heap) (m : Str → Option Value) (x : Str) (u : Value) : Prop :=
  (env.kindOf x = some .local ∧ m x = some u) ∨ ((env.kindOf x = some .cell ∨ env.kindOf x = some .free) ∧ ∃ c, env.cells.lookup x = some c ∧ h.IsCell c (some u))

structure Cx.Ok (X : Cx) : Prop where
  mod : Mod X.K X.mg X.base
  kind : X.env.scope.kind = .function
  glob : X.env.globals = mainGlobals
  blt : X.env.builtins = builtinsNs
  above : X.s₀.heap.objs.size ≤ X.env.locals
  inj : ∀ x y c, X.env.cells.lookup x = some c → X.env.cells.lookup y = some c → x = y
  has : ∀ x, (X.env.kindOf x = some .cell ∨ X.env.kindOf x = some .free) → ∃ c, X.env.cells.lookup x = some c
  cab : ∀ x c, X.fn x = true → X.env.cells.lookup x = some c → X.s₀.heap.objs.size ≤ c
  hd : X.calm = true → X.A.handled = none
  frames : X.A.frames = some X.stack
  stk : X.stack = X.outer ∨ (X.stack = X.env :: X.outer ∧ X.env.frame = some X.env.locals)
  exf : ∀ b ∈ X.ex, b ≠ X.env.locals ∧ ∀ x c, X.env.cells.lookup x = some c → c ≠ b
  bs : ∀ b o, X.base.get? b = some o → X.s₀.heap.get? b = some o ∧ X.H₀ b = none
  bsz : X.base.objs.size ≤ X.s₀.heap.objs.size
  noex : ∀ b o, X.base.get? b = some o → b ∉ X.ex
  exfs : ∀ b ∈ X.ex, b ∉ X.fs
  funs : X.s₀.heap.FunFrames X.base X.outer
  frf : ∀ b ∈ X.fs, X.H₀ b = none

structure Inv (X : Cx) (pins : List (Addr × Obj)) (σ : List (Option V)) (H : Hp) (s : Shared) : Prop where
  ok : X.Ok
  os : s.os = X.s₀.os
  bare : AllBare s.gens
  base : Un X.fs X.ex X.H₀ H X.s₀.heap s.heap
  loc : ∃ m, s.heap.Ns X.env.locals m ∧ ∀ (i : Nat) (x : Str) (v : V), X.N[i]? = some x → σ[i]? = some (some v) → Vis X.env.scope x → ∃ u, RelV v u ∧ Look X.env s.heap m x u
  cell : ∀ x c, X.env.cells.lookup x = some c → ∃ v, s.heap.IsCell c v
  free : H X.env.locals = none
  freeC : ∀ x c, X.env.cells.lookup x = some c → H c = none
  pin : ∀ p ∈ X.pn ++ pins, s.heap.get? p.1 = some p.2 ∧ H p.1 = none ∧ p.1 ≠ X.env.locals ∧ p.1 ∉ X.fs ∧ ∀ v, p.2.data ≠ .cell v
  hok : HOk X.prog X.w H s.heap
  len : σ.length = X.N.length

section
variable {X : Cx} {pins : List (Addr × Obj)} {σ : List (Option V)} {H H' : Hp} {s : Shared} {h' : Heap}

theorem Cx.Ok.nofr (ok : X.Ok) {b : Addr} {o : Obj} (e : X.base.get? b = some o) : b ∉ X.fs := fun hb => by
  have := (ok.funs.mem hb).1
  rw [e] at this; cases this
theorem Inv.bs (I : Inv X pins σ H s) : ∀ b o, X.base.get? b = some o → s.heap.get? b = some o ∧ H b = none := fun b o e =>
  ⟨I.base.keep b o (I.ok.bs b o e).1 (I.ok.bs b o e).2 (I.ok.nofr e) (I.ok.noex b o e), I.base.free b o (I.ok.bs b o e).1 (I.ok.bs b o e).2 (I.ok.noex b o e)⟩
theorem Inv.bk (I : Inv X pins σ H s) : ∀ b o, X.base.get? b = some o → s.heap.get? b = some o := fun b o e => (I.bs b o e).1
theorem Inv.mod (I : Inv X pins σ H s) : Mod X.K X.mg X.base := I.ok.mod
theorem Inv.kIn (I : Inv X pins σ H s) : X.K.In s.heap := I.ok.mod.kin.keeps I.bk
theorem Inv.nolimit (I : Inv X pins σ H s) : s.heap.NoLimit := I.ok.mod.nolimit.keeps I.bk

theorem Inv.fr (I : Inv X pins σ H s) : ∃ m, Fr X.base X.env.locals s.heap m :=
  let ⟨m, hn, _⟩ := I.loc
  ⟨m, hn, I.bk, Nat.le_trans I.ok.bsz I.ok.above⟩
theorem Inv.lt (I : Inv X pins σ H s) : X.env.locals < s.heap.objs.size := let ⟨_, hn, _⟩ := I.loc; hn.lt
theorem Inv.sz (I : Inv X pins σ H s) : X.s₀.heap.objs.size ≤ s.heap.objs.size := Nat.le_trans I.ok.above (Nat.le_of_lt I.lt)
theorem Inv.nofs (I : Inv X pins σ H s) {a : Addr} (h : s.heap.objs.size ≤ a) : a ∉ X.fs := fun hb => by
  obtain ⟨_, o, ho, _⟩ := I.ok.funs.mem hb
  exact absurd (Nat.lt_of_lt_of_le (Heap.lt_size ho) (Nat.le_trans I.sz h)) (Nat.lt_irrefl _)
theorem Inv.cne (I : Inv X pins σ H s) : ∀ x c, X.env.cells.lookup x = some c → c ≠ X.env.locals := fun x c e z => by
  obtain ⟨v, o, ho, hd⟩ := I.cell x c e
  obtain ⟨m, ⟨o', es, ep, ho', hd', _⟩, _⟩ := I.loc
  rw [z, ho'] at ho; cases ho; rw [hd'] at hd; cases hd
theorem Inv.funs (I : Inv X pins σ H s) : s.heap.FunFrames X.base X.outer := by
  have all : ∀ (l : List Env), (∀ b ∈ frs l, b ∈ X.fs) → X.s₀.heap.FunFrames X.base l → s.heap.FunFrames X.base l := by
    intro l
    induction l with
    | nil => intro _ _; trivial
    | cons env r ih =>
      intro hs hl
      obtain ⟨hk, ⟨L, o, hf, hn, ho, hd⟩, hr⟩ := hl
      have hL : L ∈ X.fs := hs L (by unfold frs; rw [List.filterMap_cons, hf]; exact List.mem_cons_self)
      obtain ⟨sl, e⟩ := I.base.slot L o ho (I.ok.frf L hL) hL fun z => I.ok.exfs L z hL
      exact ⟨hk, ⟨L, _, hf, hn, e, hd⟩, ih (fun b hb => hs b (by unfold frs; rw [List.filterMap_cons, hf]; exact List.mem_cons_of_mem _ hb)) hr⟩
  exact all X.outer (fun _ hb => hb) I.ok.funs


theorem Inv.stack (I : Inv X pins σ H s) : s.heap.FunFrames X.base X.stack := by
  rcases I.ok.stk with e | ⟨e, hf⟩
  · rw [e]; exact I.funs
  · rw [e]
    obtain ⟨m, hn, _⟩ := I.loc
    refine .cons (by rw [I.ok.kind]; decide) hf hn ?_ I.funs
    exact Heap.get?_none_of_le (Nat.le_trans I.ok.bsz I.ok.above)
theorem Inv.stkSub (I : Inv X pins σ H s) : ∀ b ∈ frs X.stack, b ∈ X.env.locals :: X.fs := fun b hb => by
  rcases I.ok.stk with e | ⟨e, hf⟩
  · rw [e] at hb; exact List.mem_cons_of_mem _ hb
  · rw [e] at hb
    unfold frs at hb
    rw [List.filterMap_cons, hf] at hb
    exact hb
theorem Inv.stkFree (I : Inv X pins σ H s) : ∀ b ∈ frs X.stack, H b = none := fun b hb => by
  rcases List.mem_cons.mp (I.stkSub b hb) with e | hb
  · rw [e]; exact I.free
  · obtain ⟨_, o, ho, _⟩ := I.ok.funs.mem hb
    exact I.base.free b o ho (I.ok.frf b hb) fun z => I.ok.exfs b z hb


theorem Inv.step {g' : Array GenState} {t' : Nat} {d' : Drawn} {ch : List Addr} (I : Inv X pins σ H s)
    (hch : ∀ b ∈ ch, (b ∈ X.ex ∨ X.s₀.heap.objs.size ≤ b) ∧ b ≠ X.env.locals ∧ (∀ x c, X.env.cells.lookup x = some c → c ≠ b) ∧ ∀ p ∈ X.pn ++ pins, p.1 ≠ b)
    (keep : ∀ b o, b ≠ X.env.locals → b ∉ X.fs → b ∉ ch → s.heap.get? b = some o → H b = none → h'.get? b = some o)
    (slot : ∀ b o, b ≠ X.env.locals → b ∈ X.fs → b ∉ ch → s.heap.get? b = some o → H b = none → ∃ sl, h'.get? b = some { o with slots := sl }) (free : ∀ b o, b ∉ ch → s.heap.get? b = some o → H b = none → H' b = none)
    (there : ∀ b o, b ∉ ch → s.heap.get? b = some o → ∃ o', h'.get? b = some o')
    (tups : ∀ b xs, H b = some (.tup xs) → H' b = some (.tup xs)) (frzs : ∀ b o u, H b = some (.frz o u) → H' b = some (.frz o u)) (tbls : ∀ b ps, H b = some (.tbl ps) → ∃ more, H' b = some (.tbl (ps ++ more)))
    (ns : ∀ m, s.heap.Ns X.env.locals m → h'.Ns X.env.locals m) (hok : HOk X.prog X.w H' h') (hg : AllBare g') :
    Inv X pins σ H' { s with heap := h', gens := g', drawn := d', toks := t' } := by
  have neL : ∀ b o, X.s₀.heap.get? b = some o → b ≠ X.env.locals := fun b o e => Nat.ne_of_lt (Nat.lt_of_lt_of_le (Heap.lt_size e) I.ok.above)
  have neC : ∀ b o, X.s₀.heap.get? b = some o → b ∉ X.ex → b ∉ ch := fun b o e hx hb => by
    rcases (hch b hb).1 with z | z
    · exact hx z
    · exact absurd (Nat.lt_of_lt_of_le (Heap.lt_size e) z) (Nat.lt_irrefl _)
  have cellK : ∀ x c, X.env.cells.lookup x = some c → ∀ v, s.heap.IsCell c v → h'.IsCell c v := fun x c e v ⟨o, ho, hd⟩ => by
    have nch : c ∉ ch := fun z => (hch c z).2.2.1 x c e rfl
    by_cases hc : c ∈ X.fs
    · obtain ⟨sl, q⟩ := slot c o (I.cne x c e) hc nch ho (I.freeC x c e)
      exact ⟨_, q, hd⟩
    · exact ⟨o, keep c o (I.cne x c e) hc nch ho (I.freeC x c e), hd⟩
  refine ⟨I.ok, I.os, hg, ⟨fun b o e n hb hx => ?_, fun b o e n hb hx => ?_, fun b o e n hx => ?_, fun b o e hx => ?_, fun b xs e => tups b xs (I.base.tups b xs e), fun b o xs e => frzs b o xs (I.base.frzs b o xs e), fun b ps e => ?_⟩, ?_, fun x c e => ?_, ?_, fun x c e => ?_, fun p hp => ?_, hok, I.len⟩
  · exact keep b o (neL b o e) hb (neC b o e hx) (I.base.keep b o e n hb hx) (I.base.free b o e n hx)
  · obtain ⟨sl, e1⟩ := I.base.slot b o e n hb hx
    obtain ⟨sl', e2⟩ := slot b _ (neL b o e) hb (neC b o e hx) e1 (I.base.free b o e n hx)
    exact ⟨sl', e2⟩
  · obtain ⟨o', e1⟩ := I.base.there b o e hx
    exact free b o' (neC b o e hx) e1 (I.base.free b o e n hx)
  · obtain ⟨o', e1⟩ := I.base.there b o e hx
    exact there b o' (neC b o e hx) e1
  · obtain ⟨m1, e1⟩ := I.base.tbls b ps e
    obtain ⟨m2, e2⟩ := tbls b _ e1
    exact ⟨m1 ++ m2, by rw [e2, Array.append_assoc]⟩
  · obtain ⟨m, hn, hl⟩ := I.loc
    refine ⟨m, ns m hn, fun i x v e1 e2 e3 => ?_⟩
    obtain ⟨u, r, l⟩ := hl i x v e1 e2 e3
    refine ⟨u, r, ?_⟩
    rcases l with l | ⟨k, c, e, z⟩
    · exact .inl l
    · exact .inr ⟨k, c, e, cellK x c e _ z⟩
  · obtain ⟨v, z⟩ := I.cell x c e
    exact ⟨v, cellK x c e v z⟩
  · obtain ⟨m, ⟨o, _, _, ho, _⟩, _⟩ := I.loc
    exact free _ o (fun z => (hch _ z).2.1 rfl) ho I.free
  · obtain ⟨v, o, ho, hd⟩ := I.cell x c e
    exact free c o (fun z => (hch c z).2.2.1 x c e rfl) ho (I.freeC x c e)
  · obtain ⟨e, n, ne, nf, d⟩ := I.pin p hp
    have nch : p.1 ∉ ch := fun z => (hch p.1 z).2.2.2 p hp rfl
    exact ⟨keep p.1 p.2 ne nf nch e n, free p.1 p.2 nch e n, ne, nf, d⟩

theorem Inv.un {t' : Nat} (I : Inv X pins σ H s) (u : Un X.fs [] H H' s.heap h') (hok : HOk X.prog X.w H' h') : Inv X pins σ H' { s with heap := h', toks := t' } := by
  obtain ⟨m, ⟨o, es, ep, ho, r⟩, _⟩ := id I.loc
  obtain ⟨sl, hL⟩ := u.any ho I.free (by simp)
  exact I.step (g' := s.gens) (d' := s.drawn) (ch := []) (fun _ z => nomatch z) (fun b o _ hb _ e n => u.keep b o e n hb (by simp)) (fun b o _ hb _ e n => u.slot b o e n hb (by simp)) (fun b o _ e n => u.free b o e n (by simp)) (fun b o _ e => u.there b o e (by simp)) u.tups u.frzs u.tbls (fun m' hm => by
    obtain ⟨o', es', ep', ho', r'⟩ := hm
    rw [ho] at ho'; cases ho'
    exact ⟨_, es', ep', hL, r'⟩) hok I.bare

theorem Inv.call {g' : Array GenState} {t' : Nat} {d' : Drawn} {ch : List Addr} (I : Inv X pins σ H s) (u : Un (frs X.stack) ch H H' s.heap h') (hok : HOk X.prog X.w H' h') (hg : AllBare g')
    (hch : ∀ b ∈ ch, (b ∈ X.ex ∨ X.s₀.heap.objs.size ≤ b) ∧ b ≠ X.env.locals ∧ (∀ x c, X.env.cells.lookup x = some c → c ≠ b) ∧ ∀ p ∈ X.pn ++ pins, p.1 ≠ b) :
    Inv X pins σ H' { s with heap := h', gens := g', drawn := d', toks := t' } := by
  obtain ⟨m, ⟨o, es, ep, ho, r⟩, _⟩ := id I.loc
  obtain ⟨sl, hL⟩ := u.any ho I.free fun z => (hch _ z).2.1 rfl
  exact I.step (ch := ch) hch (fun b o hL hb hc e n => u.keep b o e n (fun z => (List.mem_cons.mp (I.stkSub b z)).elim hL hb) hc) (fun b o _ _ hc e n => u.any e n hc) (fun b o hc e n => u.free b o e n hc) (fun b o hc e => u.there b o e hc) u.tups u.frzs u.tbls (fun m' hm => by
    obtain ⟨o', es', ep', ho', r'⟩ := hm
    rw [ho] at ho'; cases ho'
    exact ⟨_, es', ep', hL, r'⟩) hok hg

theorem Inv.turned {t' : Nat} {it : Addr} (I : Inv X pins σ H s) (k : ∀ b o, b ≠ it → s.heap.get? b = some o → h'.get? b = some o) (hn : H it = none) (hL : it ≠ X.env.locals)
    (h1 : it ∈ X.ex ∨ X.s₀.heap.objs.size ≤ it) (h2 : ∀ x c, X.env.cells.lookup x = some c → c ≠ it) (h3 : ∀ p ∈ X.pn ++ pins, p.1 ≠ it) : Inv X pins σ H { s with heap := h', toks := t' } := by
  have nit : ∀ b u, H b = some u → b ≠ it := fun b u e z => by rw [z, hn] at e; cases e
  refine I.step (g' := s.gens) (d' := s.drawn) (ch := [it]) (fun b hb => ?_) (fun b o _ _ hc e _ => k b o (fun z => hc (by simp [z])) e) (fun b o _ _ hc e _ => ⟨o.slots, k b o (fun z => hc (by simp [z])) e⟩) (fun _ _ _ _ n => n)
    (fun b o hc e => ⟨o, k b o (fun z => hc (by simp [z])) e⟩) (fun _ _ e => e) (fun _ _ _ e => e) (fun b ps e => ⟨#[], by rw [e]; simp⟩) (fun m hm => ?_) (fun b u e => ?_) I.bare
  · have e : b = it := by simpa using hb
    subst e
    exact ⟨h1, hL, h2, h3⟩
  · obtain ⟨o, es, ep, ho, r⟩ := hm
    exact ⟨o, es, ep, k _ o (Ne.symm hL) ho, r⟩
  · refine (I.hok b u e).stay (fun c v hc q => k c v ?_ q) (fun _ q => q) fun _ _ q => q
    rcases hc with z | z
    · rw [z]; exact nit b u e
    · exact nit c _ z
theorem Inv.tok (I : Inv X pins σ H s) (t : Nat) : Inv X pins σ H { s with toks := t } := I.un (h' := s.heap) (t' := t) Un.refl I.hok

theorem Inv.kept {t' : Nat} (I : Inv X pins σ H s) (k : ∀ b u, s.heap.get? b = some u → h'.get? b = some u) : Inv X pins σ H { s with heap := h', toks := t' } := I.un (Un.kept k) (I.hok.kept k)

theorem Inv.laid {a : Addr} {o : HO} {t' : Nat} (I : Inv X pins σ H s) (k : ∀ b u, s.heap.get? b = some u → h'.get? b = some u) (hp : s.heap.objs.size ≤ a) (new : ObjOk X.prog X.w (upd H a o) h' a o) :
    Inv X pins σ (upd H a o) { s with heap := h', toks := t' } := I.un (Un.laid k hp (I.hok.fresh hp)) (I.hok.laid k hp new)

theorem Inv.write {x e : Addr} {o : HO} {t' : Nat} (I : Inv X pins σ H s) (mu : Mut (H x)) (he : e = x ∨ H e = some (.own x)) (k : ∀ b u, b ≠ e → s.heap.get? b = some u → h'.get? b = some u) (heo : ∃ u, h'.get? e = some u)
    (new : ObjOk X.prog X.w (upd H x o) h' x o) : Inv X pins σ (upd H x o) { s with heap := h', toks := t' } := I.un (Un.write mu he k heo) (I.hok.write mu he k heo new)

theorem Inv.weak {σ' : List (Option V)} (I : Inv X pins σ H s) (hl : σ'.length = σ.length) (w : ∀ (i : Nat) v, σ'[i]? = some (some v) → σ[i]? = some (some v)) : Inv X pins σ' H s :=
  ⟨I.ok, I.os, I.bare, I.base, let ⟨m, hn, hl'⟩ := I.loc; ⟨m, hn, fun i x v e1 e2 e3 => hl' i x v e1 (w i v e2) e3⟩, I.cell, I.free, I.freeC, I.pin, I.hok, hl.trans I.len⟩
theorem Inv.pins_of {pins' : List (Addr × Obj)} (I : Inv X pins σ H s) (h : ∀ p ∈ pins', s.heap.get? p.1 = some p.2 ∧ H p.1 = none ∧ p.1 ≠ X.env.locals ∧ p.1 ∉ X.fs ∧ ∀ v, p.2.data ≠ .cell v) : Inv X pins' σ H s :=
  ⟨I.ok, I.os, I.bare, I.base, I.loc, I.cell, I.free, I.freeC, fun p hp => (List.mem_append.mp hp).elim (fun z => I.pin p (List.mem_append_left _ z)) (h p), I.hok, I.len⟩

theorem nodup_ix {N : List Str} (hN : N.Nodup) {i j : Nat} {x : Str} (a : N[i]? = some x) (b : N[j]? = some x) : i = j := by
  obtain ⟨h1, e1⟩ := List.getElem?_eq_some_iff.mp a
  obtain ⟨h2, e2⟩ := List.getElem?_eq_some_iff.mp b
  exact (List.getElem_inj hN).mp (e1.trans e2.symm)


theorem store_ok2 {M : Model} {A : Around} {E : Value → Shared → Prop} {i : Nat} {x : Str} {v : V} {u : Value} {Q : Unit → Shared → Prop} (I : Inv X pins σ H s) (hN : X.N.Nodup) (hi : X.N[i]? = some x) (hx : Loc X.env.scope x) (r : RelV v u)
    (h : ∀ s', Inv X pins (σ.set i (some v)) H s' → (∃ a, Heap.SameBut a s.heap s'.heap ∧ (a = X.env.locals ∨ X.env.cells.lookup x = some a)) → Q () s') (hf : X.fn x = true ∨ X.env.scope.names.lookup x = some .local := by first | exact .inl rfl | exact .inr rfl | assumption) : wpAny M A (storeName X.env x u) Q E s := by
  obtain ⟨m, hn, hl⟩ := id I.loc
  have hcls : (X.env.scope.kind == .class || (X.env.scope.kind == .module && X.env.locals != X.env.globals)) = false := by rw [I.ok.kind]; rfl
  have hiσ : i < σ.length := by rw [I.len]; exact (List.getElem?_eq_some_iff.mp hi).1
  have cne := I.cne
  have tracked : ∀ {a : Addr} {h' : Heap}, (∃ o, s.heap.get? a = some o ∧ H a = none) → Heap.SameBut a s.heap h' → HOk X.prog X.w H h' := fun {a h'} ha hs b ob e => by
    obtain ⟨_, _, hfree⟩ := ha
    refine (I.hok b ob e).stay (fun c w' hc q => (hs.2 c ?_).trans q) (fun _ q => q) fun _ _ q => q
    rintro rfl
    rcases hc with rfl | hc
    · rw [hfree] at e; cases e
    · rw [hfree] at hc; cases hc
  rcases hx with hk | hk
  · refine wpAny_storeName_local hk hn (fun h' hn' hs => ?_) hcls
    obtain ⟨oL, _, _, hoL, _⟩ := id hn
    refine h _ ⟨I.ok, I.os, I.bare, ⟨fun b o e n hb hx => ?_, fun b o e n hb hx => ?_, I.base.free, fun b o e hx => ?_, I.base.tups, I.base.frzs, I.base.tbls⟩, ⟨_, hn', fun j y v' e1 e2 e3 => ?_⟩, fun y c e => ?_, I.free, I.freeC, fun p hp => ?_, tracked ⟨oL, hoL, I.free⟩ hs, by simpa using I.len⟩ ⟨_, hs, .inl rfl⟩
    · exact (hs.2 b (Nat.ne_of_lt (Nat.lt_of_lt_of_le (Heap.lt_size e) I.ok.above))).trans (I.base.keep b o e n hb hx)
    · obtain ⟨sl, e1⟩ := I.base.slot b o e n hb hx
      exact ⟨sl, (hs.2 b (Nat.ne_of_lt (Nat.lt_of_lt_of_le (Heap.lt_size e) I.ok.above))).trans e1⟩
    · obtain ⟨o', e1⟩ := I.base.there b o e hx
      exact ⟨o', (hs.2 b (Nat.ne_of_lt (Nat.lt_of_lt_of_le (Heap.lt_size e) I.ok.above))).trans e1⟩
    · by_cases hj : j = i
      · subst hj
        rw [hi] at e1; cases e1
        rw [List.getElem?_set_self hiσ] at e2
        cases e2
        exact ⟨u, r, .inl ⟨hk, by simp⟩⟩
      · rw [List.getElem?_set_ne (Ne.symm hj)] at e2
        obtain ⟨u', r', q⟩ := hl j y v' e1 e2 e3
        refine ⟨u', r', ?_⟩
        rcases q with ⟨k, e⟩ | ⟨k, c, e, z⟩
        · refine .inl ⟨k, ?_⟩
          have : y ≠ x := fun e => hj (nodup_ix hN e1 (e ▸ hi))
          simp [this, e]
        · exact .inr ⟨k, c, e, z.sameBut hs (cne y c e)⟩
    · obtain ⟨w', z⟩ := I.cell y c e
      exact ⟨w', z.sameBut hs (cne y c e)⟩
    · obtain ⟨e, n, ne, nf, d⟩ := I.pin p hp
      exact ⟨(hs.2 p.1 ne).trans e, n, ne, nf, d⟩
  · have hfn : X.fn x = true := by
      rcases hf with z | z
      · exact z
      · rw [z] at hk; cases hk
    obtain ⟨c, hc⟩ := I.ok.has x (.inl hk)
    obtain ⟨w', z⟩ := I.cell x c hc
    refine wpAny_storeName_cell I.ok.kind hk hc z (fun h' hc' hs => ?_)
    obtain ⟨oc, hoc, hocd⟩ := id z
    refine h { s with heap := h' } ⟨I.ok, I.os, I.bare, ⟨fun b o e n hb hx => ?_, fun b o e n hb hx => ?_, I.base.free, fun b o e hx => ?_, I.base.tups, I.base.frzs, I.base.tbls⟩, ⟨m, hn.sameBut hs (Ne.symm (cne x c hc)), fun j y v' e1 e2 e3 => ?_⟩, fun y c' e => ?_, I.free, I.freeC, fun p hp => ?_, tracked ⟨oc, hoc, I.freeC x c hc⟩ hs, by simpa using I.len⟩ ⟨c, hs, .inr hc⟩
    · exact (hs.2 b (Nat.ne_of_lt (Nat.lt_of_lt_of_le (Heap.lt_size e) (I.ok.cab x c hfn hc)))).trans (I.base.keep b o e n hb hx)
    · obtain ⟨sl, e1⟩ := I.base.slot b o e n hb hx
      exact ⟨sl, (hs.2 b (Nat.ne_of_lt (Nat.lt_of_lt_of_le (Heap.lt_size e) (I.ok.cab x c hfn hc)))).trans e1⟩
    · obtain ⟨o', e1⟩ := I.base.there b o e hx
      exact ⟨o', (hs.2 b (Nat.ne_of_lt (Nat.lt_of_lt_of_le (Heap.lt_size e) (I.ok.cab x c hfn hc)))).trans e1⟩
    · by_cases hj : j = i
      · subst hj
        rw [hi] at e1; cases e1
        rw [List.getElem?_set_self hiσ] at e2
        cases e2
        exact ⟨u, r, .inr ⟨.inl hk, c, hc, hc'⟩⟩
      · rw [List.getElem?_set_ne (Ne.symm hj)] at e2
        obtain ⟨u', r', q⟩ := hl j y v' e1 e2 e3
        refine ⟨u', r', ?_⟩
        rcases q with q | ⟨k, c', e, z'⟩
        · exact .inl q
        · refine .inr ⟨k, c', e, z'.sameBut hs ?_⟩
          rintro rfl
          exact hj (nodup_ix hN e1 (I.ok.inj _ _ _ e hc ▸ hi))
    · by_cases hcc : c' = c
      · subst hcc; exact ⟨_, hc'⟩
      · obtain ⟨w2, z2⟩ := I.cell y c' e
        exact ⟨w2, z2.sameBut hs hcc⟩
    · obtain ⟨e, n, ne, nf, d⟩ := I.pin p hp
      refine ⟨(hs.2 p.1 ?_).trans e, n, ne, nf, d⟩
      intro q
      rw [q, hoc] at e
      have q' : oc = p.2 := Option.some.inj e
      exact d w' (by rw [← q']; exact hocd)
theorem store_ok {M : Model} {A : Around} {E : Value → Shared → Prop} {i : Nat} {x : Str} {v : V} {u : Value} {Q : Unit → Shared → Prop} (I : Inv X pins σ H s) (hN : X.N.Nodup) (hi : X.N[i]? = some x) (hx : Loc X.env.scope x) (r : RelV v u)
    (h : ∀ s', Inv X pins (σ.set i (some v)) H s' → Q () s') (hf : X.fn x = true ∨ X.env.scope.names.lookup x = some .local := by first | exact .inl rfl | exact .inr rfl | assumption) : wpAny M A (storeName X.env x u) Q E s :=
  store_ok2 I hN hi hx r (fun s' I' _ => h s' I') hf

theorem Inv.call' {s' : Shared} {ch : List Addr} (I : Inv X pins σ H s) (ho : s'.os = s.os) (u : Un (frs X.stack) ch H H' s.heap s'.heap) (hok : HOk X.prog X.w H' s'.heap) (hg : AllBare s'.gens)
    (hch : ∀ b ∈ ch, (b ∈ X.ex ∨ X.s₀.heap.objs.size ≤ b) ∧ b ≠ X.env.locals ∧ (∀ x c, X.env.cells.lookup x = some c → c ≠ b) ∧ ∀ p ∈ X.pn ++ pins, p.1 ≠ b) : Inv X pins σ H' s' := by
  obtain ⟨h', g', d', t', o'⟩ := s'
  have e : o' = s.os := ho
  subst e
  exact I.call (g' := g') (t' := t') (d' := d') u hok hg hch
end



abbrev XK := Value → Option Addr → Hp → Prop
abbrev St := List (Option V)
abbrev VK := V → Hp → Prop

abbrev TE := St → Hp → VK → Prop
abbrev TT := St → Hp → (Bool → Hp → Prop) → Prop
abbrev TA := St → Hp → (List V → Hp → Prop) → Prop

structure Ends where
  nx : St → Hp → Prop
  rt : VK
  bk : St → Hp → Prop := fun _ _ => False
  ct : St → Hp → Prop := fun _ _ => False
abbrev TS := Ends → St → Hp → Prop

def EP (X : Cx) (pins : List (Addr × Obj)) (σ : St) (Q : VK) (u : Value) (s' : Shared) : Prop := ∃ v H', Inv X pins σ H' s' ∧ RelV v u ∧ Q v H'
def TP (X : Cx) (pins : List (Addr × Obj)) (σ : St) (Q : Bool → Hp → Prop) (b : Bool) (s' : Shared) : Prop := ∃ H', Inv X pins σ H' s' ∧ Q b H'
def AP (X : Cx) (pins : List (Addr × Obj)) (σ : St) (Q : List V → Hp → Prop) (us : List Value) (s' : Shared) : Prop := ∃ vs H', Inv X pins σ H' s' ∧ Vals vs us ∧ Q vs H'
def SP (X : Cx) (pins : List (Addr × Obj)) (D : Ends) (f : Flow) (s' : Shared) : Prop :=
  match f with
  | .next => ∃ σ' H', Inv X pins σ' H' s' ∧ D.nx σ' H'
  | .brk => ∃ σ' H', Inv X pins σ' H' s' ∧ D.bk σ' H'
  | .cont => ∃ σ' H', Inv X pins σ' H' s' ∧ D.ct σ' H'
  | .ret u => ∃ v σ' H', Inv X pins σ' H' s' ∧ RelV v u ∧ D.rt v H'

def PE (X : Cx) (e : Expr) (t : TE) : Prop :=
  ∀ (pins : List (Addr × Obj)) (s : Shared) (σ : St) (H : Hp) (Q : VK), Inv X pins σ H s → t σ H Q → wpAny (model X.prog X.w) X.A (eval e X.env) (EP X pins σ Q) X.xe s
def PT (X : Cx) (e : Expr) (t : TT) : Prop :=
  ∀ (pins : List (Addr × Obj)) (s : Shared) (σ : St) (H : Hp) (Q : Bool → Hp → Prop), Inv X pins σ H s → t σ H Q → wpAny (model X.prog X.w) X.A (isTrue e X.env (eval e X.env)) (TP X pins σ Q) X.xe s

def PW (X : Cx) (e : Expr) (t : TT) : Prop :=
  ∀ (whole : Sem Value) (pins : List (Addr × Obj)) (s : Shared) (σ : St) (H : Hp) (Q : Bool → Hp → Prop), Inv X pins σ H s → t σ H Q → wpAny (model X.prog X.w) X.A (isTrue e X.env whole) (TP X pins σ Q) X.xe s
theorem PW.pt {X : Cx} {e : Expr} {t : TT} (h : PW X e t) : PT X e t := h _

def PA (X : Cx) (es : List Expr) (t : TA) : Prop :=
  ∀ (pos : Pos) (pins : List (Addr × Obj)) (s : Shared) (σ : St) (H : Hp) (Q : List V → Hp → Prop), Inv X pins σ H s → t σ H Q → wpAny (model X.prog X.w) X.A (spliced (backTo pos (starEach es X.env))) (AP X pins σ Q) X.xe s
def PS (X : Cx) (st : Stmt) (t : TS) : Prop :=
  ∀ (pins : List (Addr × Obj)) (s : Shared) (σ : St) (H : Hp) (D : Ends), Inv X pins σ H s → t D σ H → wpAny (model X.prog X.w) X.A (exec st X.env) (SP X pins D) X.xe s
def PSs (X : Cx) (st : List Stmt) (t : TS) : Prop :=
  ∀ (pins : List (Addr × Obj)) (s : Shared) (σ : St) (H : Hp) (D : Ends), Inv X pins σ H s → t D σ H → wpAny (model X.prog X.w) X.A (execs st X.env) (SP X pins D) X.xe s

theorem thn {α : Type} {t : Sem α} {Q Q' : α → Shared → Prop} {M : Model} {A : Around} {E : Value → Shared → Prop} {s : Shared} (h : wpAny M A t Q E s) (hQ : ∀ a s, Q a s → Q' a s) : wpAny M A t Q' E s := wpAny_mono h hQ fun _ _ x => x
end L2

namespace L2
open PySem PySem.Spec PyProof.Rows
section
variable {X : Cx}


def tVar (i : Nat) : TE := fun σ H Q => ∃ v, σ[i]? = some (some v) ∧ Q v H
def tC (v : V) : TE := fun _ H Q => Q v H
theorem pe_var {i : Nat} {x : Str} {pos : Pos} (hN : X.N[i]? = some x) (hv : Vis X.env.scope x) (hd : (x == ("__debug__" : Str)) = false := by decide) (hcd : (x == ("__classdict__" : Str)) = false := by decide) : PE X (.Name x pos) (tVar i) := by
  intro pins s σ H Q I h
  obtain ⟨v, e, h⟩ := h
  obtain ⟨m, hn, hl⟩ := I.loc
  obtain ⟨u, r, l⟩ := hl i x v hN e hv
  have fin : EP X pins σ Q u s := ⟨v, H, I, r, h⟩
  rcases l with ⟨hk, hm⟩ | ⟨hk, c, hc, hcell⟩
  · exact wpAny_Name (wpAny_loadName_local I.ok.kind hk hn hm fin) hd
  · rcases hk with hk | hk
    · exact wpAny_Name (wpAny_loadName_cell I.ok.kind hk hc hcell fin) hd
    · exact wpAny_Name (wpAny_loadName_free I.ok.kind hk hc hcell fin hcd) hd
theorem pe_int {i j pos} : PE X (.Constant (.int i) j pos) (tC (.int i)) := fun _ _ _ H _ I h => wpAny_Constant_int ⟨.int i, H, I.tok _, ⟨_, rfl⟩, h⟩
theorem pe_bl {b j pos} : PE X (.Constant (.bool b) j pos) (tC (.bl b)) := fun _ _ _ H _ I h => Constant_bool ⟨.bl b, H, I, rfl, h⟩
theorem pe_non {j pos} : PE X (.Constant .none j pos) (tC .non) := fun _ _ _ H _ I h => Constant_none ⟨.non, H, I, rfl, h⟩
theorem pe_str {x j pos} : PE X (.Constant (.str x) j pos) (tC (.str x)) := fun _ _ _ H _ I h => Calls.Constant_str ⟨.str x, H, I.tok _, ⟨_, rfl⟩, h⟩


def Gl (X : Cx) (x : Str) : Prop := X.env.kindOf x = some .globalImplicit
theorem ld_glob {E : Value → Shared → Prop} {pins : List (Addr × Obj)} {s : Shared} {σ : St} {H : Hp} {x : Str} {u : Value} {pos : Pos} {Q : Value → Shared → Prop} (I : Inv X pins σ H s) (hg : Gl X x) (hm : X.mg x = some u) (h : Q u s)
    (hd : (x == ("__debug__" : Str)) = false := by decide) : wpAny (model X.prog X.w) X.A (eval (.Name x pos) X.env) Q E s :=
  Calls.Name_function_global I.ok.kind hg (Calls.loadGlobal_global (by rw [I.ok.glob]; exact I.mod.glob.keeps I.bk) hm h) hd
theorem ld_blt {E : Value → Shared → Prop} {pins : List (Addr × Obj)} {s : Shared} {σ : St} {H : Hp} {x : Str} {u : Value} {pos : Pos} {Q : Value → Shared → Prop} (I : Inv X pins σ H s) (hg : Gl X x) (hm : X.mg x = none) (hv : bootBuiltins x = some u) (h : Q u s)
    (hn : x ≠ "__name__" := by decide) (hd : (x == ("__debug__" : Str)) = false := by decide) : wpAny (model X.prog X.w) X.A (eval (.Name x pos) X.env) Q E s := by
  obtain ⟨mb, h1, h2⟩ := I.mod.blt
  exact Calls.Name_function_global I.ok.kind hg (Calls.loadGlobal_builtin (by rw [I.ok.glob]; exact I.mod.glob.keeps I.bk) hm (by rw [I.ok.blt]; exact h1.keeps I.bk) ((h2 x hn).trans hv) h) hd

theorem pe_glob {x : Str} {v : V} {u : Value} {pos : Pos} (hg : Gl X x) (hm : X.mg x = some u) (r : RelV v u) (hd : (x == ("__debug__" : Str)) = false := by decide) : PE X (.Name x pos) (tC v) :=
  fun _ _ _ H _ I h => ld_glob I hg hm ⟨v, H, I, r, h⟩ hd
theorem pe_bltn {x : Str} {v : V} {u : Value} {pos : Pos} (hg : Gl X x) (hm : X.mg x = none) (hv : bootBuiltins x = some u) (r : RelV v u) (hn : x ≠ "__name__" := by decide) (hd : (x == ("__debug__" : Str)) = false := by decide) : PE X (.Name x pos) (tC v) :=
  fun _ _ _ H _ I h => ld_blt I hg hm hv ⟨v, H, I, r, h⟩ hn hd



variable {a b : Expr} {ta tb : TE} {pos : Pos}
def PC (X : Cx) (op : CmpOp) (a b : Expr) (t : TE) : Prop :=
  ∀ (pins : List (Addr × Obj)) (s : Shared) (σ : St) (H : Hp) (Q : VK), Inv X pins σ H s → t σ H Q →
    wpAny (model X.prog X.w) X.A (eval a X.env) (fun v s₁ => wpAny (model X.prog X.w) X.A (eval b X.env) (fun u s₂ => wpAny (model X.prog X.w) X.A (compareOp op v u) (EP X pins σ Q) X.xe s₂) X.xe s₁) X.xe s
theorem nobehind (b : Expr) {op : CmpOp} (h : op ≠ .In) (h2 : op ≠ .NotIn) : behindInMarks op b = false := by
  have e1 : (op == CmpOp.In) = false := by cases op <;> first | rfl | exact absurd rfl h
  have e2 : (op == CmpOp.NotIn) = false := by cases op <;> first | rfl | exact absurd rfl h2
  cases b <;> simp [behindInMarks, e1, e2]
def tNotN (ta : TE) : TE := fun σ H Q => ta σ H fun x H1 => Q (.bl (!decide (x = .non))) H1
theorem RelV.none_iff {x : V} {v : Value} (r : RelV x v) : (v == Value.none) = decide (x = .non) := by
  cases x with
  | non => cases r; rfl
  | bl _ => cases r; rfl
  | int _ => obtain ⟨t, rfl⟩ := r; rfl
  | str _ => obtain ⟨t, rfl⟩ := r; rfl
  | byt _ => obtain ⟨t, rfl⟩ := r; rfl
  | flt _ => obtain ⟨t, rfl⟩ := r; rfl
  | ref _ => cases r; rfl
  | ty _ => cases r; rfl
theorem pc_notN {j pos'} (ha : PE X a ta) : PC X .IsNot a (.Constant .none j pos') (tNotN ta) := by
  intro pins s σ H Q I h
  refine thn (ha pins s σ H _ I h) fun v s1 ⟨x, H1, I1, r1, q1⟩ => ?_
  exact Constant_none (isnot_none_gen ⟨.bl _, H1, I1, by rw [r1.none_iff]; rfl, q1⟩)

def tB (t : TE) : TT := fun σ H Q => t σ H fun x H1 => ∃ c, x = .bl c ∧ Q c H1
theorem pt_cmp {op : CmpOp} {t : TE} (h : PC X op a b t) (h1 : behindInMarks op b = false := by first | exact nobehind _ (by decide) (by decide) | rfl) : PT X (.Compare a [op] [b] pos) (tB t) := by
  intro pins s σ H Q I hw
  refine wpAny_isTrue_Compare1 (thn (h pins s σ H _ I hw) fun v s1 h1 => thn h1 fun u s2 h2 => thn h2 fun c s3 ⟨x, H1, I1, r1, q1⟩ => ?_) h1
  obtain ⟨d, rfl, q⟩ := q1
  cases r1
  exact wpAny_truthy_bool ⟨H1, I1, q⟩

theorem pt_val {e : Expr} {t : TE} (h : PE X e t) (he : ∀ whole, isTrue e X.env whole = (do let v ← whole; standAt e.pos; holding [v] (truthy v)) := by intro _; rfl) : PT X e (tB t) := by
  intro pins s σ H Q I hw
  refine isTrue_plain (thn (h pins s σ H _ I hw) fun v s1 ⟨x, H1, I1, r1, q1⟩ => ?_) (he _)
  obtain ⟨d, rfl, q⟩ := q1
  cases r1
  exact wpAny_truthy_bool ⟨H1, I1, q⟩


variable {tA tB' : TT} {rest : List Expr}
def tAnd (t u : TT) : TT := fun σ H Q => t σ H fun c H1 => if c = true then u σ H1 Q else Q false H1
def tOr (t u : TT) : TT := fun σ H Q => t σ H fun c H1 => if c = true then Q true H1 else u σ H1 Q
def tNot (t : TT) : TT := fun σ H Q => t σ H fun c H1 => Q (!c) H1
theorem pw_and1 (ha : PT X a tA) : PW X (.BoolOp .And [a] pos) tA := by
  intro wh pins s σ H Q I h
  refine isTrue_and (thn (ha pins s σ H Q I h) fun c s1 e => ?_)
  cases c with
  | true => exact isTrue_and_nil e
  | false => exact e
theorem pw_or1 (ha : PT X a tA) : PW X (.BoolOp .Or [a] pos) tA := by
  intro wh pins s σ H Q I h
  refine isTrue_or (thn (ha pins s σ H Q I h) fun c s1 e => ?_)
  cases c with
  | false => exact isTrue_or_nil e
  | true => exact e
theorem pw_and (ha : PT X a tA) (hb : PW X (.BoolOp .And (b :: rest) pos) tB') : PW X (.BoolOp .And (a :: b :: rest) pos) (tAnd tA tB') := by
  intro wh pins s σ H Q I h
  refine isTrue_and (thn (ha pins s σ H _ I h) fun c s1 ⟨H1, I1, q1⟩ => ?_)
  cases c with
  | true => exact hb wh pins s1 σ H1 Q I1 q1
  | false => exact ⟨H1, I1, q1⟩
theorem pw_or (ha : PT X a tA) (hb : PW X (.BoolOp .Or (b :: rest) pos) tB') : PW X (.BoolOp .Or (a :: b :: rest) pos) (tOr tA tB') := by
  intro wh pins s σ H Q I h
  refine isTrue_or (thn (ha pins s σ H _ I h) fun c s1 ⟨H1, I1, q1⟩ => ?_)
  cases c with
  | true => exact ⟨H1, I1, q1⟩
  | false => exact hb wh pins s1 σ H1 Q I1 q1
theorem pt_not (ha : PT X a tA) : PT X (.UnaryOp .Not a pos) (tNot tA) := by
  intro pins s σ H Q I h
  exact isTrue_not (ha pins s σ H (fun c H1 => Q (!c) H1) I h)

def tAndV (ta tb : TE) : TE := fun σ H Q => ta σ H fun x H1 => ∃ c, x = .bl c ∧ if c = true then tb σ H1 Q else Q (.bl false) H1
def tOrV (ta tb : TE) : TE := fun σ H Q => ta σ H fun x H1 => ∃ c, x = .bl c ∧ if c = true then Q (.bl true) H1 else tb σ H1 Q
theorem pe_one {op} {t : TE} (h : PE X a t) : PE X (.BoolOp op [a] pos) t := fun pins s σ H Q I hw => BoolOp_one (h pins s σ H Q I hw)
theorem pe_and (ha : PE X a ta) (hb : PE X (.BoolOp .And (b :: rest) pos) tb) : PE X (.BoolOp .And (a :: b :: rest) pos) (tAndV ta tb) := by
  intro pins s σ H Q I h
  refine BoolOp_and (thn (ha pins s σ H _ I h) fun v s1 ⟨x, H1, I1, r1, q1⟩ => ?_)
  obtain ⟨c, rfl, q1⟩ := q1
  cases r1
  refine wpAny_truthy_bool ?_
  cases c with
  | true => exact hb pins s1 σ H1 Q I1 q1
  | false => exact ⟨.bl false, H1, I1, rfl, q1⟩
theorem pe_or (ha : PE X a ta) (hb : PE X (.BoolOp .Or (b :: rest) pos) tb) : PE X (.BoolOp .Or (a :: b :: rest) pos) (tOrV ta tb) := by
  intro pins s σ H Q I h
  refine BoolOp_or (thn (ha pins s σ H _ I h) fun v s1 ⟨x, H1, I1, r1, q1⟩ => ?_)
  obtain ⟨c, rfl, q1⟩ := q1
  cases r1
  refine wpAny_truthy_bool ?_
  cases c with
  | false => exact hb pins s1 σ H1 Q I1 q1
  | true => exact ⟨.bl true, H1, I1, rfl, q1⟩
def tIf (t : TT) (ta tb : TE) : TE := fun σ H Q => t σ H fun c H1 => if c = true then ta σ H1 Q else tb σ H1 Q
theorem pe_ifExp {c : Expr} (hc : PT X c tA) (ha : PE X a ta) (hb : PE X b tb) : PE X (.IfExp c a b pos) (tIf tA ta tb) := by
  intro pins s σ H Q I h
  refine wpAny_IfExp (thn (hc pins s σ H _ I h) fun d s1 ⟨H1, I1, q1⟩ => ?_)
  cases d with
  | true => exact ha pins s1 σ H1 Q I1 q1
  | false => exact hb pins s1 σ H1 Q I1 q1
end
end L2

namespace L2
open PySem PySem.Spec PyProof.Rows


def SqL (K : PySem.W.Frag) (H : Hp) (a : Addr) (xs : List V) : Prop :=
  Rd H a (.lst xs) ∨
    ∃ (o : Obj) (its : Array Value) (n : Nat), K.lookup a = some o ∧ o.cls = .type "list" ∧ o.dict = none ∧ o.data = .seq its n ∧ its.size ≤ sizeLine ∧ Vals xs its.toList
def SqT (K : PySem.W.Frag) (H : Hp) (a : Addr) (xs : List V) : Prop :=
  Rd H a (.tup xs) ∨
    ∃ (o : Obj) (its : Array Value) (n : Nat), K.lookup a = some o ∧ o.cls = .type "tuple" ∧ o.data = .seq its n ∧ its.size ≤ sizeLine ∧ Vals xs its.toList
def absV : Value → Option V
  | .none => some .non
  | .bool b => some (.bl b)
  | .int i _ => some (.int i)
  | .str x _ => some (.str x)
  | .bytes b _ => some (.byt b)
  | .float b _ => some (.flt b)
  | .ref a => some (.ref a)
  | .type n => some (.ty n)
  | _ => none
theorem RelV.abs {x : V} {u : Value} (r : RelV x u) : absV u = some x := by
  cases x with
  | non => cases r; rfl
  | bl _ => cases r; rfl
  | int _ => obtain ⟨t, rfl⟩ := r; rfl
  | str _ => obtain ⟨t, rfl⟩ := r; rfl
  | byt _ => obtain ⟨t, rfl⟩ := r; rfl
  | flt _ => obtain ⟨t, rfl⟩ := r; rfl
  | ref _ => cases r; rfl
  | ty _ => cases r; rfl
theorem RelV.inj {x y : V} {u : Value} (r : RelV x u) (q : RelV y u) : x = y := Option.some.inj (r.abs.symm.trans q.abs)
theorem Vals.inj : ∀ {xs ys : List V} {us : List Value}, Vals xs us → Vals ys us → xs = ys
  | _, _, _, .nil, .nil => rfl
  | _, _, _, .cons r t, .cons r' t' => by rw [r.inj r', Vals.inj t t']
section
variable {X : Cx} {pins : List (Addr × Obj)} {σ : St} {H : Hp} {s : Shared} {a : Addr} {xs ys : List V}
theorem SqL.of {K : PySem.W.Frag} (h : H a = some (.lst xs)) : SqL K H a xs := .inl (.inl h)
theorem SqT.of {K : PySem.W.Frag} (h : H a = some (.tup xs)) : SqT K H a xs := .inl (.inl h)
theorem Inv.list (I : Inv X pins σ H s) (h : SqL X.K H a xs) : ∃ its : List Value, Vals xs its ∧ PlainL s.heap a its.toArray ∧ xs.length ≤ sizeLine := by
  rcases h with h | ⟨o, its, n, hk, hc, hd, hs, hz, r⟩
  · obtain ⟨z, its, n, r, e⟩ := h.ok I.hok
    exact ⟨its, r, ⟨_, n, e, rfl, rfl, rfl⟩, z⟩
  · refine ⟨its.toList, r, ⟨o, n, I.kIn a o hk, hc, hd, by simpa using hs⟩, ?_⟩
    have e := r.length
    simp only [Array.length_toList] at e
    omega
theorem Inv.tuple (I : Inv X pins σ H s) (h : SqT X.K H a xs) : ∃ its : List Value, Vals xs its ∧ IsTup s.heap a its.toArray ∧ xs.length ≤ sizeLine := by
  rcases h with h | ⟨o, its, n, hk, hc, hs, hz, r⟩
  · obtain ⟨z, its, r, p⟩ := h.ok I.hok
    exact ⟨its, r, p, z⟩
  · refine ⟨its.toList, r, ⟨o, I.kIn a o hk, hc, n, by simpa using hs⟩, ?_⟩
    have e := r.length
    simp only [Array.length_toList] at e
    omega
theorem Inv.list_inj (I : Inv X pins σ H s) (h : SqL X.K H a xs) (h' : SqL X.K H a ys) : xs = ys := by
  obtain ⟨its, r, ⟨o, n, e, _, _, d⟩, _⟩ := I.list h
  obtain ⟨its', r', ⟨o', n', e', _, _, d'⟩, _⟩ := I.list h'
  rw [e] at e'; cases e'
  rw [d] at d'
  injection d' with d1 _
  have : its = its' := by simpa using congrArg Array.toList d1
  subst this
  exact r.inj r'
theorem Inv.tuple_inj (I : Inv X pins σ H s) (h : SqT X.K H a xs) (h' : SqT X.K H a ys) : xs = ys := by
  obtain ⟨its, r, ⟨o, e, _, n, d⟩, _⟩ := I.tuple h
  obtain ⟨its', r', ⟨o', e', _, n', d'⟩, _⟩ := I.tuple h'
  rw [e] at e'; cases e'
  rw [d] at d'
  injection d' with d1 _
  have : its = its' := by simpa using congrArg Array.toList d1
  subst this
  exact r.inj r'
end


abbrev Cx.wish (X : Cx) (E : Value → Shared → Prop) : Cx := { X with xe := E }

abbrev Cx.nox (X : Cx) : Cx := X.wish fun _ _ => False
theorem Cx.Ok.wish {X : Cx} (ok : X.Ok) (E : Value → Shared → Prop) : (X.wish E).Ok :=
  ⟨ok.mod, ok.kind, ok.glob, ok.blt, ok.above, ok.inj, ok.has, ok.cab, ok.hd, ok.frames, ok.stk, ok.exf, ok.bs, ok.bsz, ok.noex, ok.exfs, ok.funs, ok.frf⟩
theorem Cx.Ok.unwish {X : Cx} {E : Value → Shared → Prop} (ok : (X.wish E).Ok) : X.Ok :=
  ⟨ok.mod, ok.kind, ok.glob, ok.blt, ok.above, ok.inj, ok.has, ok.cab, ok.hd, ok.frames, ok.stk, ok.exf, ok.bs, ok.bsz, ok.noex, ok.exfs, ok.funs, ok.frf⟩
section
variable {X : Cx} {pins : List (Addr × Obj)} {σ : St} {H : Hp} {s : Shared} {E : Value → Shared → Prop}
theorem Inv.wish (I : Inv X pins σ H s) (E : Value → Shared → Prop) : Inv (X.wish E) pins σ H s := ⟨I.ok.wish E, I.os, I.bare, I.base, I.loc, I.cell, I.free, I.freeC, I.pin, I.hok, I.len⟩
theorem Inv.unwish (I : Inv (X.wish E) pins σ H s) : Inv X pins σ H s := ⟨I.ok.unwish, I.os, I.bare, I.base, I.loc, I.cell, I.free, I.freeC, I.pin, I.hok, I.len⟩
theorem SP.unwish {D : Ends} {f : Flow} {s' : Shared} (h : SP (X.wish E) pins D f s') : SP X pins D f s' := by
  cases f with
  | next => obtain ⟨σ', H', I, q⟩ := h; exact ⟨σ', H', I.unwish, q⟩
  | brk => obtain ⟨σ', H', I, q⟩ := h; exact ⟨σ', H', I.unwish, q⟩
  | cont => obtain ⟨σ', H', I, q⟩ := h; exact ⟨σ', H', I.unwish, q⟩
  | ret u => obtain ⟨v, σ', H', I, r, q⟩ := h; exact ⟨v, σ', H', I.unwish, r, q⟩
theorem PE.nox {e : Expr} {t : TE} (h : PE X.nox e t) : PE X e t := fun pins s σ H Q I hw =>
  wpAny_mono (h pins s σ H Q (I.wish _) hw) (fun _ _ ⟨v, H', I', r, q⟩ => ⟨v, H', I'.unwish, r, q⟩) fun _ _ z => False.elim z
theorem PT.nox {e : Expr} {t : TT} (h : PT X.nox e t) : PT X e t := fun pins s σ H Q I hw =>
  wpAny_mono (h pins s σ H Q (I.wish _) hw) (fun _ _ ⟨H', I', q⟩ => ⟨H', I'.unwish, q⟩) fun _ _ z => False.elim z
theorem PSs.nox {st : List Stmt} {t : TS} (h : PSs X.nox st t) : PSs X st t := fun pins s σ H D I hw =>
  wpAny_mono (h pins s σ H D (I.wish _) hw) (fun _ _ q => q.unwish) fun _ _ z => False.elim z
end


section
variable {X : Cx} {st : Stmt} {rest : List Stmt} {t u : TS} {e : Expr} {te : TE} {pos : Pos}
def tNext : TS := fun D σ H => D.nx σ H
def tSeq (t u : TS) : TS := fun D σ H => t { D with nx := u D } σ H
theorem pss_nil : PSs X [] tNext := fun _ _ σ H _ I h => wpAny_execs_nil ⟨σ, H, I, h⟩
theorem pss_cons (h1 : PS X st t) (h2 : PSs X rest u) : PSs X (st :: rest) (tSeq t u) := by
  intro pins s σ H D I h
  refine wpAny_execs_cons (thn (h1 pins s σ H { D with nx := u D } I h) fun f s1 q => ?_)
  cases f with
  | next =>
    obtain ⟨σ', H', I', q⟩ := q
    exact h2 pins s1 σ' H' D I' q
  | ret v => exact q
  | brk => exact q
  | cont => exact q
theorem pss_one (h1 : PS X st t) : PSs X [st] t := by
  intro pins s σ H D I h
  refine wpAny_execs_cons (thn (h1 pins s σ H D I h) fun f s1 q => ?_)
  cases f with
  | next => exact wpAny_execs_nil q
  | ret v => exact q
  | brk => exact q
  | cont => exact q
theorem Inv.quiet {pins : List (Addr × Obj)} {σ : St} {H : Hp} {s : Shared} (I : Inv X pins σ H s) : interactive X.env = false := by simp [interactive, I.ok.kind]

def tDrop (te : TE) : TS := fun D σ H => te σ H fun _ H1 => D.nx σ H1
theorem ps_expr (he : PE X e te) (hs : swapsWith e none pos.line X.env = pure false := by rfl) : PS X (.Expr e pos) (tDrop te) := by
  intro pins s σ H D I h
  exact wpAny_Expr_any (thn (he pins s σ H _ I h) fun v s1 ⟨x, H1, I1, r1, q1⟩ => ⟨σ, H1, I1, q1⟩) I.quiet hs
def tRet (te : TE) : TS := fun D σ H => te σ H D.rt
theorem ps_ret (he : PE X e te) : PS X (.Return (some e) pos) (tRet te) := by
  intro pins s σ H D I h
  exact wpAny_Return_some (thn (he pins s σ H _ I h) fun v s1 ⟨x, H1, I1, r1, q1⟩ => ⟨x, σ, H1, I1, r1, q1⟩)
def tIfS (c : TT) (t u : TS) : TS := fun D σ H => c σ H fun b H1 => if b = true then t D σ H1 else u D σ H1
theorem ps_if {c : Expr} {a b : List Stmt} {tc : TT} (hc : PT X c tc) (ha : PSs X a t) (hb : PSs X b u) : PS X (.If c a b pos) (tIfS tc t u) := by
  intro pins s σ H D I h
  refine wpAny_If (thn (hc pins s σ H _ I h) fun d s1 ⟨H1, I1, q1⟩ => ?_)
  cases d with
  | true => exact ha pins s1 σ H1 D I1 q1
  | false => exact hb pins s1 σ H1 D I1 q1

end


abbrev TG := V → St → Hp → (St → Hp → Prop) → Prop
abbrev TGs := List V → St → Hp → (St → Hp → Prop) → Prop
def PG (X : Cx) (target : Expr) (t : TG) : Prop :=
  ∀ (pins : List (Addr × Obj)) (s : Shared) (σ : St) (H : Hp) (v : V) (u : Value) (Q : St → Hp → Prop), Inv X pins σ H s → RelV v u → t v σ H Q →
    wpAny (model X.prog X.w) X.A (assign target X.env u) (fun _ s' => ∃ σ' H', Inv X pins σ' H' s' ∧ Q σ' H') X.xe s

def PGs (X : Cx) (ts : List Expr) (t : TGs) : Prop :=
  ∀ (pins : List (Addr × Obj)) (s : Shared) (σ : St) (H : Hp) (vs : List V) (us : List Value) (Q : St → Hp → Prop), Inv X pins σ H s → Vals vs us → t vs σ H Q →
    wpAny (model X.prog X.w) X.A (assignInOrder ((assignEach ts X.env).map (·.2)) us) (fun _ s' => ∃ σ' H', Inv X pins σ' H' s' ∧ Q σ' H') X.xe s

abbrev TSet := V → V → V → Hp → (Hp → Prop) → Prop
def PSet (X : Cx) (t : TSet) : Prop :=
  ∀ (pins : List (Addr × Obj)) (s : Shared) (σ : St) (H : Hp) (o i v : V) (ov iv u : Value) (Q : Hp → Prop), Inv X pins σ H s → RelV o ov → RelV i iv → RelV v u → t o i v H Q →
    wpAny (model X.prog X.w) X.A (setItem ov iv u) (fun _ s' => ∃ H', Inv X pins σ H' s' ∧ Q H') X.xe s

section
variable {X : Cx} {pos : Pos}
def gName (i : Nat) : TG := fun v σ H Q => Q (σ.set i (some v)) H
theorem pg_name {i : Nat} {x : Str} (hN : X.N.Nodup) (hi : X.N[i]? = some x) (hx : Loc X.env.scope x) (hf : X.fn x = true ∨ X.env.scope.names.lookup x = some .local := by first | exact .inl rfl | exact .inr rfl | assumption) : PG X (.Name x pos) (gName i) := by
  intro pins s σ H v u Q I r h
  exact wpAny_assign_Name (store_ok I hN hi hx r (fun s' I' => ⟨_, H, I', h⟩) hf)
def gNil : TGs := fun vs σ H Q => vs = [] ∧ Q σ H
def gCons (t : TG) (u : TGs) : TGs := fun vs σ H Q => ∃ v r, vs = v :: r ∧ t v σ H fun σ' H' => u r σ' H' Q
theorem pgs_nil : PGs X [] gNil := by
  intro pins s σ H vs us Q I r h
  obtain ⟨e, h⟩ := h
  subst e
  cases r
  exact assignInOrder_nil ⟨σ, H, I, h⟩
theorem pgs_cons {e : Expr} {es : List Expr} {t : TG} {u : TGs} (h1 : PG X e t) (h2 : PGs X es u)
    (hs : (assignEach (e :: es) X.env).map (·.2) = assign e X.env :: (assignEach es X.env).map (·.2) := by rfl) : PGs X (e :: es) (gCons t u) := by
  intro pins s σ H vs us Q I r h
  obtain ⟨v, vr, e1, h⟩ := h
  subst e1
  cases r with
  | cons r rr =>
    rw [hs]
    refine assignInOrder_cons (thn (h1 pins s σ H _ _ _ I r h) fun _ s1 ⟨σ1, H1, I1, q1⟩ => ?_)
    exact h2 pins s1 σ1 H1 _ _ Q I1 rr q1

def gTup (K : PySem.W.Frag) (n : Nat) (t : TGs) : TG := fun v σ H Q => ∃ a xs, v = .ref a ∧ SqT K H a xs ∧ xs.length = n ∧ t xs σ H Q
theorem pg_tup {es : List Expr} {k : Nat} {t : TGs} {n : Nat} (hc : X.calm = true) (h : PGs X es t)
    (hn : (assignEach es X.env).length = n := by rfl) (hst : (assignEach es X.env).findIdx? (·.1) = none := by rfl) : PG X (.Tuple es k pos) (gTup X.K n t) := by
  intro pins s σ H v u Q I r hw
  obtain ⟨a, xs, e1, hq, hl, hw⟩ := hw
  subst e1
  cases r
  obtain ⟨its, rv, ht, hz⟩ := I.tuple hq
  refine assign_Tuple_tuple (I.ok.hd hc) ht (by simp [hn, ← hl, rv.length]) hst fun h' hx => ?_
  have I1 : Inv X pins σ H { s with heap := h' } := I.kept (t' := s.toks) fun b o e => hx b o (Nat.ne_of_lt (Heap.lt_size e)) e
  exact h pins _ σ H xs _ Q I1 (by simpa using rv) hw

def gSub (to ti : TE) (t : TSet) : TG := fun v σ H Q => to σ H fun o H1 => ti σ H1 fun i H2 => t o i v H2 fun H3 => Q σ H3
theorem pg_sub {o i : Expr} {to ti : TE} {t : TSet} (ho : PE X o to) (hi : PE X i ti) (hs : PSet X t)
    (ha : ∀ v, assign (.Subscript o i pos) X.env v = (do
      let ov ← holding [v] (eval o X.env)
      let iv ← holding [v, ov] (eval i X.env)
      standAt pos
      holding [v, ov, iv] (setItem ov iv v)
      release [v, ov, iv] []) := by intro _; rfl) : PG X (.Subscript o i pos) (gSub to ti t) := by
  intro pins s σ H v u Q I r h
  rw [ha]
  refine wpAny_bind (wpAny_holding (thn (ho pins s σ H _ I h) fun ov s1 ⟨x, H1, I1, r1, q1⟩ => ?_))
  refine wpAny_bind (wpAny_holding (thn (hi pins s1 σ H1 _ I1 q1) fun iv s2 ⟨y, H2, I2, r2, q2⟩ => ?_))
  refine wpAny_bind (wpAny_standAt (wpAny_bind (wpAny_holding (thn (hs pins s2 σ H2 x y v ov iv u _ I2 r1 r2 r q2) fun _ s3 ⟨H3, I3, q3⟩ => ?_))))
  exact wpAny_release ⟨σ, H3, I3, q3⟩

def tAsg (te : TE) (g : TG) : TS := fun D σ H => te σ H fun x H1 => g x σ H1 D.nx
theorem ps_asg {tg e : Expr} {te : TE} {g : TG} (he : PE X e te) (hg : PG X tg g) (hs : swapsWithSole [tg] e pos.line X.env = pure false := by rfl) (hw : swappedStores [tg] e X.env = pure none := by rfl)
    (h1 : (assignEach [tg] X.env).map (·.2) = [assign tg X.env] := by rfl) : PS X (.Assign [tg] e pos) (tAsg te g) := by
  intro pins s σ H D I h
  refine wpAny_Assign_stores (thn (he pins s σ H _ I h) fun v s1 ⟨x, H1, I1, r1, q1⟩ => ?_) hs hw
  rw [h1]
  exact thn (hg pins s1 σ H1 x v _ I1 r1 q1) fun _ s2 q => q

theorem ps_set {i : Nat} {x : Str} {e : Expr} {te : TE} {pos' : Pos} (hN : X.N.Nodup) (hi : X.N[i]? = some x) (hx : Loc X.env.scope x) (he : PE X e te) (hs : swapsWith e (some (.Name x pos')) pos.line X.env = pure false := by rfl) (hf : X.fn x = true ∨ X.env.scope.names.lookup x = some .local := by first | exact .inl rfl | exact .inr rfl | assumption) :
    PS X (.Assign [.Name x pos'] e pos) (tAsg te (gName i)) := by
  intro pins s σ H D I h
  refine wpAny_Assign_Name (thn (he pins s σ H _ I h) fun v s1 ⟨y, H1, I1, r1, q1⟩ => ?_) hs
  exact store_ok I1 hN hi hx r1 (fun s2 I2 => ⟨_, H1, I2, q1⟩) hf

end


section
variable {X : Cx} {pos : Pos}

def tWhile (c : TT) (tb : TS) : TS := fun D σ H => ∃ W : Nat → St → Hp → Prop, (∃ m, W m σ H) ∧ ∀ m σ H, W m σ H →
  c σ H fun b H1 => if b = true then ∃ N : St → Hp → Prop, (∀ σ' H', N σ' H' → ∃ m', m' < m ∧ W m' σ' H') ∧ tb { D with nx := N, ct := N, bk := D.nx } σ H1 else D.nx σ H1
theorem ps_while {c : Expr} {body : List Stmt} {tc : TT} {tb : TS} (hp : PassesOwn (model X.prog X.w) X.A X.env X.xe) (hc : PT X c tc) (hb : PSs X body tb) : PS X (.While c body [] pos) (tWhile tc tb) := by
  intro pins s σ H D I h
  obtain ⟨W, ⟨m0, w0⟩, turn⟩ := h
  refine wpAny_While (codeAny_whileLoop (fun n s' => ∃ σ' H', Inv X pins σ' H' s' ∧ W n σ' H') ?_ m0 ⟨σ, H, I, w0⟩)
  rintro n s1 ⟨σ1, H1, I1, w1⟩
  refine wpAny_passesOwn hp (thn (hc pins s1 σ1 H1 _ I1 (turn n σ1 H1 w1)) fun b s2 ⟨H2, I2, q2⟩ => ?_)
  cases b with
  | true =>
    obtain ⟨N, hN, q2⟩ := q2
    rw [if_pos rfl]
    refine wpAny_passesOwn hp (thn (hb pins s2 σ1 H2 _ I2 q2) fun f s3 q3 => ?_)
    cases f with
    | next =>
      obtain ⟨σ3, H3, I3, n3⟩ := q3
      obtain ⟨m', hm, w3⟩ := hN σ3 H3 n3
      exact ⟨m', hm, σ3, H3, I3, w3⟩
    | cont =>
      obtain ⟨σ3, H3, I3, n3⟩ := q3
      obtain ⟨m', hm, w3⟩ := hN σ3 H3 n3
      exact ⟨m', hm, σ3, H3, I3, w3⟩
    | brk => exact q3
    | ret v => exact q3
  | false =>
    rw [if_neg Bool.false_ne_true]
    exact wpAny_execs_nil ⟨σ1, H2, I2, q2⟩
end



structure It where
  go : Nat → Hp → Prop
  yld : Nat → Hp → V → Hp → Prop
  stop : Nat → Hp → Prop

def FpOk (X : Cx) (pins : List (Addr × Obj)) (H : Hp) (b : Addr) : Prop :=
  H b = none ∧ b ≠ X.env.locals ∧ b ∉ X.fs ∧ (b ∈ X.ex ∨ X.s₀.heap.objs.size ≤ b) ∧ (∀ x c, X.env.cells.lookup x = some c → c ≠ b) ∧ ∀ p ∈ X.pn ++ pins, p.1 ≠ b
theorem Inv.fpOk {X : Cx} {pins : List (Addr × Obj)} {σ : St} {H H' : Hp} {s : Shared} {b : Addr} (I : Inv X pins σ H s) (hb : s.heap.objs.size ≤ b) (hn : H' b = none) : FpOk X pins H' b := by
  refine ⟨hn, Nat.ne_of_gt (Nat.lt_of_lt_of_le I.lt hb), I.nofs hb, .inr (Nat.le_trans I.sz hb), fun x c e z => ?_, fun p hp z => ?_⟩
  · obtain ⟨v, q⟩ := I.cell x c e
    exact absurd (Nat.lt_of_lt_of_le q.lt (by rw [z]; exact hb)) (Nat.lt_irrefl _)
  · exact absurd (Nat.lt_of_lt_of_le (Heap.lt_size (I.pin p hp).1) (by rw [z]; exact hb)) (Nat.lt_irrefl _)
structure Turn (P : Program) (w : World) (K : PySem.W.Frag) (tg : Expr) (J : It) (fp : List Addr) (it : Addr) (tn : Nat → Heap → Prop) : Prop where
  mem : it ∈ fp
  obj : ∀ i h, tn i h → ∀ b ∈ fp, ∃ o, h.get? b = some o ∧ ∀ v, o.data ≠ .cell v
  keep : ∀ i h h', tn i h → (∀ b ∈ fp, ∀ o, h.get? b = some o → h'.get? b = some o) → tn i h'
  item : ∀ (X : Cx), X.prog = P → X.w = w → X.K = K → X.calm = true → ∀ (i : Nat) (pins : List (Addr × Obj)) (s : Shared) (σ : St) (H : Hp) (E : Value → Shared → Prop), Inv X pins σ H s → (∀ b ∈ fp, FpOk X pins H b) → tn i s.heap → J.go i H →
    wpAny (model P w) X.A (pyNext (.ref it)) (fun r s1 => ∃ u, r = some u ∧
      wpAny (model P w) X.A (letOwnedTupleGo tg (.ref it) u) (fun _ s2 => ∃ x H', Inv X pins σ H' s2 ∧ RelV x u ∧ J.yld i H x H' ∧ tn (i + 1) s2.heap ∧ ∀ b ∈ fp, H' b = none) E s1) E s
  done : ∀ (X : Cx), X.prog = P → X.w = w → X.K = K → X.calm = true → ∀ (i : Nat) (pins : List (Addr × Obj)) (s : Shared) (σ : St) (H : Hp) (E : Value → Shared → Prop), Inv X pins σ H s → (∀ b ∈ fp, FpOk X pins H b) → tn i s.heap → J.stop i H →
    wpAny (model P w) X.A (pyNext (.ref it)) (fun r s1 => r = none ∧ Inv X pins σ H s1) E s
  self : ∀ (A : Around) (i : Nat) (s : Shared) (Q : Value → Shared → Prop) (E : Value → Shared → Prop), tn i s.heap → Q (.ref it) s → wpAny (model P w) A (pyIter (.ref it)) Q E s
abbrev TI := St → Hp → (It → Hp → Prop) → Prop

def PIE (X : Cx) (pins : List (Addr × Obj)) (σ : St) (tg : Expr) (R : It → Hp → Prop) (itv : Value) (s2 : Shared) : Prop :=
  ∃ (it : Addr) (fp : List Addr) (tn : Nat → Heap → Prop) (J : It) (H' : Hp), itv = .ref it ∧ Inv X pins σ H' s2 ∧ Turn X.prog X.w X.K tg J fp it tn ∧ tn 0 s2.heap ∧ (∀ b ∈ fp, FpOk X pins H' b) ∧ R J H'
def PI (X : Cx) (tg iter : Expr) (wi : TI) : Prop :=
  ∀ (pins : List (Addr × Obj)) (s : Shared) (σ : St) (H : Hp) (R : It → Hp → Prop), Inv X pins σ H s → wi σ H R →
    wpAny (model X.prog X.w) X.A (eval iter X.env) (fun v s1 => wpAny (model X.prog X.w) X.A (pyIter v) (PIE X pins σ tg R) X.xe s1) X.xe s


theorem go_of {M : Model} {A : Around} {E : Value → Shared → Prop} {s : Shared} {tg : Expr} {it : Addr} {u : Value} {o : Obj} {n : String} {vs : Array Value} {Q : Unit → Shared → Prop} (ho : s.heap.get? it = some o) (hc : o.cls = .type n) (hd : o.data = .fields vs)
    (hn : ["enumerate", "zip", "dict_itemiterator", "dict_reverseitemiterator", "odict_iterator", "itertools.zip_longest", "itertools.pairwise"].contains n = false) (hQ : Q () s) : wpAny M A (letOwnedTupleGo tg (.ref it) u) Q E s := by
  unfold letOwnedTupleGo
  cases tg <;> first
    | exact wpAny_pure hQ
    | (cases u <;> first
        | exact wpAny_pure hQ
        | (refine wpAny_bind (wpAny_load ho ?_)
           rw [hc, hd]
           show wpAny M A (if (["enumerate", "zip", "dict_itemiterator", "dict_reverseitemiterator", "odict_iterator", "itertools.zip_longest", "itertools.pairwise"].contains n && vs[0]? == some (rawInt _)) = true then _ else _) Q E s
           rw [if_neg (by intro h; rw [hn, Bool.false_and] at h; cases h)]
           exact wpAny_pure hQ))


def Itl (K : PySem.W.Frag) (a : Addr) : It :=
  ⟨fun i H => ∃ xs x, SqL K H a xs ∧ xs[i]? = some x, fun i H x H' => H' = H ∧ ∀ xs, SqL K H a xs → xs[i]? = some x, fun i H => ∃ xs, SqL K H a xs ∧ xs.length ≤ i⟩
def Itt (K : PySem.W.Frag) (a : Addr) : It :=
  ⟨fun i H => ∃ xs x, SqT K H a xs ∧ xs[i]? = some x, fun i H x H' => H' = H ∧ ∀ xs, SqT K H a xs → xs[i]? = some x, fun i H => ∃ xs, SqT K H a xs ∧ xs.length ≤ i⟩

def Itr (lo : Int) (n : Nat) : It := ⟨fun i _ => i < n, fun i H x H' => H' = H ∧ x = .int (lo + i), fun i _ => n ≤ i⟩
theorem turn_list {P : Program} {w : World} {K : PySem.W.Frag} {tg : Expr} (a it : Addr) : Turn P w K tg (Itl K a) [it] it (fun i h => h.IsListIter it a i) where
  mem := by simp
  obj := fun i h st b hb => by
    have e : b = it := by simpa using hb
    subst e
    obtain ⟨o, e, c, d⟩ := st
    exact ⟨o, e, fun v z => by rw [d] at z; cases z⟩
  keep := fun i h h' st k => st.at fun o e => k it (by simp) o e
  item := by
    intro X hP hw hK hc i pins s σ H E I hf st hg
    subst hP hw hK
    obtain ⟨xs, x, hq, hx⟩ := hg
    obtain ⟨its, rv, p, hz⟩ := I.list hq
    obtain ⟨u, hu, ru⟩ := rv.get hx
    obtain ⟨f0, f1, f2, f3, f4, f5⟩ := hf it (by simp)
    refine wpAny_pyNext_list_item st p.isList (x := u) (by simpa using hu) fun h' st' sb => ?_
    have I1 : Inv X pins σ H { s with heap := h' } := I.turned (t' := s.toks) (fun b o hb e => (sb.2 b hb).trans e) f0 f1 f3 f4 f5
    obtain ⟨o, e, c, d⟩ := id st'
    exact ⟨u, rfl, go_of (s := { s with heap := h' }) e c d (by decide) ⟨x, H, I1, ru, ⟨rfl, fun ys hy => by rw [I.list_inj hy hq]; exact hx⟩, st', fun b hb => (hf b hb).1⟩⟩
  done := by
    intro X hP hw hK hc i pins s σ H E I hf st hg
    subst hP hw hK
    obtain ⟨xs, hq, hx⟩ := hg
    obtain ⟨its, rv, p, hz⟩ := I.list hq
    obtain ⟨f0, f1, f2, f3, f4, f5⟩ := hf it (by simp)
    have hl := rv.length
    exact wpAny_pyNext_list_end (I.ok.hd hc) st p.isList (by simp; omega) fun h' eb => ⟨rfl, I.turned (t' := s.toks) (fun b o hb e => eb b o hb e) f0 f1 f3 f4 f5⟩
  self := fun _ _ _ _ _ st h => wpAny_pyIter_listiter st h
theorem turn_tuple {P : Program} {w : World} {K : PySem.W.Frag} {tg : Expr} (a it : Addr) : Turn P w K tg (Itt K a) [it] it (fun i h => h.IsTupleIter it a i) where
  mem := by simp
  obj := fun i h st b hb => by
    have e : b = it := by simpa using hb
    subst e
    obtain ⟨o, e, c, d⟩ := st
    exact ⟨o, e, fun v z => by rw [d] at z; cases z⟩
  keep := fun i h h' st k => st.at fun o e => k it (by simp) o e
  item := by
    intro X hP hw hK hc i pins s σ H E I hf st hg
    subst hP hw hK
    obtain ⟨xs, x, hq, hx⟩ := hg
    obtain ⟨its, rv, p, hz⟩ := I.tuple hq
    obtain ⟨u, hu, ru⟩ := rv.get hx
    obtain ⟨f0, f1, f2, f3, f4, f5⟩ := hf it (by simp)
    refine wpAny_pyNext_tuple_item st (show s.heap.IsTuple a its.toArray from p) (x := u) (by simpa using hu) fun h' st' sb => ?_
    have I1 : Inv X pins σ H { s with heap := h' } := I.turned (t' := s.toks) (fun b o hb e => (sb.2 b hb).trans e) f0 f1 f3 f4 f5
    obtain ⟨o, e, c, d⟩ := id st'
    exact ⟨u, rfl, go_of (s := { s with heap := h' }) e c d (by decide) ⟨x, H, I1, ru, ⟨rfl, fun ys hy => by rw [I.tuple_inj hy hq]; exact hx⟩, st', fun b hb => (hf b hb).1⟩⟩
  done := by
    intro X hP hw hK hc i pins s σ H E I hf st hg
    subst hP hw hK
    obtain ⟨xs, hq, hx⟩ := hg
    obtain ⟨its, rv, p, hz⟩ := I.tuple hq
    obtain ⟨f0, f1, f2, f3, f4, f5⟩ := hf it (by simp)
    have hl := rv.length
    exact wpAny_pyNext_tuple_end (I.ok.hd hc) st (show s.heap.IsTuple a its.toArray from p) (by simp; omega) fun h' eb => ⟨rfl, I.turned (t' := s.toks) (fun b o hb e => eb b o hb e) f0 f1 f3 f4 f5⟩
  self := fun _ _ _ _ _ st h => wpAny_pyIter_tupleiter st h
theorem turn_range {P : Program} {w : World} {K : PySem.W.Frag} {tg : Expr} (it : Addr) (lo : Int) (n : Nat) : Turn P w K tg (Itr lo n) [it] it (fun i h => IsRangeIter h it (lo + (i : Nat) * 1) ((n : Int) - (i : Nat)) 1) where
  mem := by simp
  obj := fun i h st b hb => by
    have e : b = it := by simpa using hb
    subst e
    exact ⟨_, st, fun v z => by
      have z' : Data.fields _ = Data.cell v := z
      cases z'⟩
  keep := fun i h h' st k => k it (by simp) _ st
  item := by
    intro X hP hw hK hc i pins s σ H E I hf st hg
    subst hP hw hK
    obtain ⟨f0, f1, f2, f3, f4, f5⟩ := hf it (by simp)
    have W := Walks.range (prog := X.prog) (w := X.w) (I.ok.hd hc) it lo 1 n
    refine W.item i s _ _ hg st fun v h' tk hv st' kk => ?_
    obtain ⟨t, rfl⟩ := hv
    have I1 : Inv X pins σ H { s with heap := h', toks := tk } := I.turned (fun b o hb e => kk b o (by simpa using hb) e) f0 f1 f3 f4 f5
    refine ⟨_, rfl, go_of (s := { s with heap := h', toks := tk }) (n := "range_iterator") st' rfl rfl (by decide) ⟨.int (lo + i), H, I1, ⟨t, ?_⟩, ⟨rfl, rfl⟩, st', fun b hb => (hf b hb).1⟩⟩
    rw [Int.mul_one]
  done := by
    intro X hP hw hK hc i pins s σ H E I hf st hg
    subst hP hw hK
    obtain ⟨f0, f1, f2, f3, f4, f5⟩ := hf it (by simp)
    exact wpAny_pyNext_range_end (I.ok.hd hc) st (by have : n ≤ i := hg; omega) fun h' eb => ⟨rfl, I.turned (t' := s.toks) (fun b o hb e => eb b o hb e) f0 f1 f3 f4 f5⟩
  self := fun _ _ _ _ _ st h => wpAny_pyIter_rangeiter st h
end L2

namespace L2
open PySem PySem.Spec PyProof.Rows
section
variable {X : Cx} {tg : Expr}
def iList (K : PySem.W.Frag) (tl : TE) : TI := fun σ H R => tl σ H fun x H1 => ∃ a, x = .ref a ∧ (∃ xs, SqL K H1 a xs) ∧ R (Itl K a) H1
def iTup (K : PySem.W.Frag) (tl : TE) : TI := fun σ H R => tl σ H fun x H1 => ∃ a, x = .ref a ∧ (∃ xs, SqT K H1 a xs) ∧ R (Itt K a) H1
theorem pi_list {l : Expr} {tl : TE} (hl : PE X l tl) : PI X tg l (iList X.K tl) := by
  intro pins s σ H R I h
  refine thn (hl pins s σ H _ I h) fun v s1 ⟨x, H1, I1, r1, q1⟩ => ?_
  obtain ⟨a, e, ⟨xs, hq⟩, q⟩ := q1
  subst e
  cases r1
  obtain ⟨its, rv, p, hz⟩ := I1.list hq
  refine wpAny_pyIter_list p.isList ?_
  refine ⟨s1.heap.objs.size, [s1.heap.objs.size], _, _, H1, rfl, I1.kept (t' := s1.toks) fun b o e => Heap.get?_push_of_some _ e, turn_list a _, ⟨_, Heap.get?_push_size _ rfl, rfl, rfl⟩, fun b hb => ?_, q⟩
  have e : b = s1.heap.objs.size := by simpa using hb
  subst e
  exact I1.fpOk (Nat.le_refl _) (I1.hok.fresh (Nat.le_refl _))
theorem pi_tup {l : Expr} {tl : TE} (hl : PE X l tl) : PI X tg l (iTup X.K tl) := by
  intro pins s σ H R I h
  refine thn (hl pins s σ H _ I h) fun v s1 ⟨x, H1, I1, r1, q1⟩ => ?_
  obtain ⟨a, e, ⟨xs, hq⟩, q⟩ := q1
  subst e
  cases r1
  obtain ⟨its, rv, p, hz⟩ := I1.tuple hq
  refine wpAny_pyIter_tuple (show s1.heap.IsTuple a its.toArray from p) ?_
  refine ⟨s1.heap.objs.size, [s1.heap.objs.size], _, _, H1, rfl, I1.kept (t' := s1.toks) fun b o e => Heap.get?_push_of_some _ e, turn_tuple a _, ⟨_, Heap.get?_push_size _ rfl, rfl, rfl⟩, fun b hb => ?_, q⟩
  have e : b = s1.heap.objs.size := by simpa using hb
  subst e
  exact I1.fpOk (Nat.le_refl _) (I1.hok.fresh (Nat.le_refl _))

theorem range_it {pins : List (Addr × Obj)} {σ : St} {H : Hp} {s : Shared} {R : It → Hp → Prop} {E : Value → Shared → Prop} {lo hi : Int} {t u v : Tok} {tk : Nat} (I : Inv X pins σ H s) (h1 : -(2 ^ 62) ≤ lo) (h2 : lo < 2 ^ 62) (h3 : -(2 ^ 62) ≤ hi) (h4 : hi < 2 ^ 62)
    (q : R (Itr lo (hi - lo).toNat) H) : wpAny (model X.prog X.w) X.A (pyIter (.ref s.heap.objs.size)) (PIE X pins σ tg R) E { s with heap := s.heap.push { cls := .type "range", data := .fields #[.int lo t, .int hi u, .int 1 v] }, toks := tk } := by
  refine wpAny_pyIter_range (IsRange.new ..) (small_one h1 h2 h3 h4) ?_
  have I1 : Inv X pins σ H { s with heap := s.heap.push { cls := .type "range", data := .fields #[.int lo t, .int hi u, .int 1 v] }, toks := tk } := I.kept fun b o e => Heap.get?_push_of_some _ e
  refine ⟨(s.heap.push { cls := .type "range", data := .fields #[.int lo t, .int hi u, .int 1 v] }).objs.size, [(s.heap.push { cls := .type "range", data := .fields #[.int lo t, .int hi u, .int 1 v] }).objs.size], _, _, H, rfl,
    I1.kept (t' := tk) fun b o e => Heap.get?_push_of_some _ e, turn_range _ lo (hi - lo).toNat, ?_, fun b hb => ?_, q⟩
  · have e1 : lo + ((0 : Nat) : Int) * 1 = lo := by simp
    have e2 : (((hi - lo).toNat : Nat) : Int) - ((0 : Nat) : Int) = Builtin.Range.rangeSize lo hi 1 := by rw [rangeSize_one]; split <;> omega
    show IsRangeIter _ _ (lo + ((0 : Nat) : Int) * 1) ((((hi - lo).toNat : Nat) : Int) - ((0 : Nat) : Int)) 1
    rw [e1, e2]
    exact Heap.get?_push_size _ rfl
  · have e : b = (s.heap.push { cls := .type "range", data := .fields #[.int lo t, .int hi u, .int 1 v] }).objs.size := by simpa using hb
    subst e
    exact I1.fpOk (Nat.le_refl _) (I1.hok.fresh (Nat.le_refl _))
def iRng1 (ta : TA) : TI := fun σ H R => ta σ H fun vs H1 => ∃ j : Int, vs = [.int j] ∧ -(2 ^ 62) ≤ j ∧ j < 2 ^ 62 ∧ R (Itr 0 j.toNat) H1
theorem pi_range1 {a : Expr} {ta : TA} {p pos : Pos} (hg : Gl X "range") (hm : X.mg "range" = none) (ha : PA X [a] ta) (hs : starEach [a] X.env = [(false, eval a X.env)] := by rfl) : PI X tg (.Call (.Name "range" p) [a] [] pos) (iRng1 ta) := by
  intro pins s σ H R I h
  refine Call_ (ld_blt I hg hm boot_range (PyProof.Rows.callWith_type1 (thn (ha pos pins s σ H _ I h) fun us s1 ⟨vs, H1, I1, r1, q1⟩ => ?_) hs rfl))
  obtain ⟨j, e, q1, q2, q⟩ := q1
  subst e
  cases r1 with
  | cons r rr =>
    cases rr
    obtain ⟨t, rfl⟩ := r
    exact call_range_1 (range_it I1 (by omega) (by omega) q1 q2 (by simpa using q))
def tFor (wi : TI) (g : TG) (tb : TS) : TS := fun D σ H => wi σ H fun J H1 => ∃ W : Nat → Nat → St → Hp → Prop, (∃ m, W 0 m σ H1) ∧ ∀ i m σ H, W i m σ H →
  (J.stop i H ∧ D.nx σ H) ∨ (J.go i H ∧ ∃ N : St → Hp → Prop, (∀ σ' H', N σ' H' → ∃ m', m' < m ∧ W (i + 1) m' σ' H') ∧ ∀ x H', J.yld i H x H' → g x σ H' fun σ2 H2 => tb { D with nx := N, ct := N, bk := D.nx } σ2 H2)

def pinsAt (fp : List Addr) (h : Heap) : List (Addr × Obj) := fp.filterMap fun b => (h.get? b).map fun o => (b, o)
theorem mem_pinsAt {fp : List Addr} {h : Heap} {b : Addr} {o : Obj} (hb : b ∈ fp) (e : h.get? b = some o) : (b, o) ∈ pinsAt fp h := List.mem_filterMap.mpr ⟨b, hb, by rw [e]; rfl⟩
theorem of_pinsAt {fp : List Addr} {h : Heap} {p : Addr × Obj} (hp : p ∈ pinsAt fp h) : p.1 ∈ fp ∧ h.get? p.1 = some p.2 := by
  obtain ⟨b, hb, e⟩ := List.mem_filterMap.mp hp
  cases q : h.get? b with
  | none => rw [q] at e; cases e
  | some o =>
    rw [q] at e
    have e' : (b, o) = p := Option.some.inj e
    subst e'
    exact ⟨hb, q⟩
theorem Inv.pinned {pins : List (Addr × Obj)} {σ : St} {H : Hp} {s : Shared} {fp : List Addr} (I : Inv X pins σ H s) (hf : ∀ b ∈ fp, FpOk X pins H b) (ho : ∀ b ∈ fp, ∃ o, s.heap.get? b = some o ∧ ∀ v, o.data ≠ .cell v) : Inv X (pins ++ pinsAt fp s.heap) σ H s :=
  I.pins_of fun p hp => (List.mem_append.mp hp).elim (fun z => I.pin p (List.mem_append_right _ z)) fun z => by
    obtain ⟨hb, e⟩ := of_pinsAt z
    obtain ⟨f0, f1, f2, _⟩ := hf p.1 hb
    obtain ⟨o, e', d⟩ := ho p.1 hb
    rw [e] at e'; cases e'
    exact ⟨e, f0, f1, f2, d⟩
theorem Inv.unpinned {pins pl : List (Addr × Obj)} {σ : St} {H : Hp} {s : Shared} (I : Inv X (pins ++ pl) σ H s) : Inv X pins σ H s := I.pins_of fun p hp => I.pin p (List.mem_append_right _ (List.mem_append_left _ hp))
theorem ps_for {iter : Expr} {body : List Stmt} {wi : TI} {g : TG} {tb : TS} {pos : Pos} (hp : PassesOwn (model X.prog X.w) X.A X.env X.xe) (hc : X.calm = true) (hi : PI X tg iter wi) (hg : PG X tg g) (hb : PSs X body tb)
    (hs : ∀ x, foldedSetIterable iter X.env x = pure x := by intro _; rfl) : PS X (.For tg iter body [] pos) (tFor wi g tb) := by
  intro pins s σ H D I h
  refine wpAny_For (thn (hi pins s σ H _ I h) fun v s1 h1 => thn h1 fun itv s2 h2 => ?_) hs
  obtain ⟨it, fp, tn, J, H2, e, I2, T, st2, f2, W, ⟨m0, w0⟩, turn⟩ := h2
  subst e
  -- what stays true of the iterator's objects through the loop
  have stat : ∀ {H' : Hp}, (∀ b ∈ fp, H' b = none) → ∀ b ∈ fp, FpOk X pins H' b := fun hn b hb => ⟨hn b hb, (f2 b hb).2⟩
  refine codeAny_forLoop_any (fun n s' => ∃ i σ' H', Inv X pins σ' H' s' ∧ tn i s'.heap ∧ (∀ b ∈ fp, H' b = none) ∧ W i n σ' H') ?_ m0 ⟨0, σ, H2, I2, st2, fun b hb => (f2 b hb).1, w0⟩
  rintro n s3 ⟨i, σ3, H3, I3, st3, fr3, w3⟩
  rcases turn i n σ3 H3 w3 with ⟨stop, qn⟩ | ⟨go, N, hN, step⟩
  · refine wpAny_passesOwn hp (thn (T.done X rfl rfl rfl hc i pins s3 σ3 H3 X.xe I3 (stat fr3) st3 stop) fun r s4 ⟨hr, I4⟩ => ?_)
    subst hr
    exact wpAny_execs_nil ⟨σ3, H3, I4, qn⟩
  · refine wpAny_passesOwn hp (thn (T.item X rfl rfl rfl hc i pins s3 σ3 H3 X.xe I3 (stat fr3) st3 go) fun r s4 ⟨u, hr, h4⟩ => ?_)
    subst hr
    refine wpAny_passesOwn hp (thn h4 fun _ s5 ⟨x, H5, I5, r5, y5, st5, fr5⟩ => ?_)
    have I5' := I5.pinned (stat fr5) (T.obj _ _ st5)
    refine wpAny_passesOwn hp (thn (hg _ s5 σ3 H5 x u _ I5' r5 (step x H5 y5)) fun _ s6 ⟨σ6, H6, I6, q6⟩ => ?_)
    refine wpAny_passesOwn hp (thn (hb _ s6 σ6 H6 _ I6 q6) fun f s7 q7 => ?_)
    have again : ∀ {σ7 : St} {H7 : Hp}, Inv X (pins ++ pinsAt fp s5.heap) σ7 H7 s7 → N σ7 H7 → ∃ m, m < n ∧ ∃ i σ' H', Inv X pins σ' H' s7 ∧ tn i s7.heap ∧ (∀ b ∈ fp, H' b = none) ∧ W i m σ' H' := fun {σ7 H7} I7 n7 => by
      obtain ⟨m', hm, w7⟩ := hN σ7 H7 n7
      refine ⟨m', hm, i + 1, σ7, H7, I7.unpinned, T.keep _ _ _ st5 fun b hb o e => (I7.pin (b, o) (List.mem_append_right _ (List.mem_append_right _ (mem_pinsAt hb e)))).1, fun b hb => ?_, w7⟩
      obtain ⟨o, e, d⟩ := T.obj _ _ st5 b hb
      exact (I7.pin (b, o) (List.mem_append_right _ (List.mem_append_right _ (mem_pinsAt hb e)))).2.1
    cases f with
    | next => obtain ⟨σ7, H7, I7, n7⟩ := q7; exact again I7 n7
    | cont => obtain ⟨σ7, H7, I7, n7⟩ := q7; exact again I7 n7
    | brk => obtain ⟨σ7, H7, I7, q7⟩ := q7; exact ⟨σ7, H7, I7.unpinned, q7⟩
    | ret v => obtain ⟨x7, σ7, H7, I7, r7, q7⟩ := q7; exact ⟨x7, σ7, H7, I7.unpinned, r7, q7⟩
end



theorem for_list {K : PySem.W.Frag} {a : Addr} {xs : List V} {g : TG} {tb : TS} {D : Ends} {σ : St} {H : Hp} (Pv : Nat → St → Hp → Prop) (h0 : Pv 0 σ H) (hl : ∀ i σ H, i ≤ xs.length → Pv i σ H → SqL K H a xs)
    (hs : ∀ i x σ H, xs[i]? = some x → Pv i σ H → g x σ H fun σ2 H2 => tb { D with nx := Pv (i + 1), ct := Pv (i + 1), bk := D.nx } σ2 H2) (hd : ∀ σ H, Pv xs.length σ H → D.nx σ H) :
    ∃ W : Nat → Nat → St → Hp → Prop, (∃ m, W 0 m σ H) ∧ ∀ i m σ H, W i m σ H →
      ((Itl K a).stop i H ∧ D.nx σ H) ∨ ((Itl K a).go i H ∧ ∃ N : St → Hp → Prop, (∀ σ' H', N σ' H' → ∃ m', m' < m ∧ W (i + 1) m' σ' H') ∧ ∀ x H', (Itl K a).yld i H x H' → g x σ H' fun σ2 H2 => tb { D with nx := N, ct := N, bk := D.nx } σ2 H2) := by
  refine ⟨fun i m σ H => m = xs.length - i ∧ i ≤ xs.length ∧ Pv i σ H, ⟨xs.length, by simp, Nat.zero_le _, h0⟩, ?_⟩
  rintro i m σ H ⟨rfl, hi, p⟩
  have q := hl i σ H hi p
  by_cases hlt : i < xs.length
  · refine .inr ⟨⟨xs, xs[i], q, by simp [hlt]⟩, Pv (i + 1), fun σ' H' p' => ⟨xs.length - (i + 1), by omega, rfl, hlt, p'⟩, fun x H' y => ?_⟩
    obtain ⟨e, y⟩ := y
    subst e
    exact hs i x σ _ (y xs q) p
  · have e : i = xs.length := by omega
    subst e
    exact .inl ⟨⟨xs, q, Nat.le_refl _⟩, hd σ H p⟩
theorem for_tup {K : PySem.W.Frag} {a : Addr} {xs : List V} {g : TG} {tb : TS} {D : Ends} {σ : St} {H : Hp} (Pv : Nat → St → Hp → Prop) (h0 : Pv 0 σ H) (hl : ∀ i σ H, i ≤ xs.length → Pv i σ H → SqT K H a xs)
    (hs : ∀ i x σ H, xs[i]? = some x → Pv i σ H → g x σ H fun σ2 H2 => tb { D with nx := Pv (i + 1), ct := Pv (i + 1), bk := D.nx } σ2 H2) (hd : ∀ σ H, Pv xs.length σ H → D.nx σ H) :
    ∃ W : Nat → Nat → St → Hp → Prop, (∃ m, W 0 m σ H) ∧ ∀ i m σ H, W i m σ H →
      ((Itt K a).stop i H ∧ D.nx σ H) ∨ ((Itt K a).go i H ∧ ∃ N : St → Hp → Prop, (∀ σ' H', N σ' H' → ∃ m', m' < m ∧ W (i + 1) m' σ' H') ∧ ∀ x H', (Itt K a).yld i H x H' → g x σ H' fun σ2 H2 => tb { D with nx := N, ct := N, bk := D.nx } σ2 H2) := by
  refine ⟨fun i m σ H => m = xs.length - i ∧ i ≤ xs.length ∧ Pv i σ H, ⟨xs.length, by simp, Nat.zero_le _, h0⟩, ?_⟩
  rintro i m σ H ⟨rfl, hi, p⟩
  have q := hl i σ H hi p
  by_cases hlt : i < xs.length
  · refine .inr ⟨⟨xs, xs[i], q, by simp [hlt]⟩, Pv (i + 1), fun σ' H' p' => ⟨xs.length - (i + 1), by omega, rfl, hlt, p'⟩, fun x H' y => ?_⟩
    obtain ⟨e, y⟩ := y
    subst e
    exact hs i x σ _ (y xs q) p
  · have e : i = xs.length := by omega
    subst e
    exact .inl ⟨⟨xs, q, Nat.le_refl _⟩, hd σ H p⟩
theorem for_range {lo : Int} {n : Nat} {g : TG} {tb : TS} {D : Ends} {σ : St} {H : Hp} (Pv : Nat → St → Hp → Prop) (h0 : Pv 0 σ H)
    (hs : ∀ i σ H, i < n → Pv i σ H → g (.int (lo + i)) σ H fun σ2 H2 => tb { D with nx := Pv (i + 1), ct := Pv (i + 1), bk := D.nx } σ2 H2) (hd : ∀ σ H, Pv n σ H → D.nx σ H) :
    ∃ W : Nat → Nat → St → Hp → Prop, (∃ m, W 0 m σ H) ∧ ∀ i m σ H, W i m σ H →
      ((Itr lo n).stop i H ∧ D.nx σ H) ∨ ((Itr lo n).go i H ∧ ∃ N : St → Hp → Prop, (∀ σ' H', N σ' H' → ∃ m', m' < m ∧ W (i + 1) m' σ' H') ∧ ∀ x H', (Itr lo n).yld i H x H' → g x σ H' fun σ2 H2 => tb { D with nx := N, ct := N, bk := D.nx } σ2 H2) := by
  refine ⟨fun i m σ H => m = n - i ∧ i ≤ n ∧ Pv i σ H, ⟨n, by simp, Nat.zero_le _, h0⟩, ?_⟩
  rintro i m σ H ⟨rfl, hi, p⟩
  by_cases hlt : i < n
  · refine .inr ⟨hlt, Pv (i + 1), fun σ' H' p' => ⟨n - (i + 1), by omega, rfl, hlt, p'⟩, fun x H' y => ?_⟩
    obtain ⟨e, y⟩ := y
    subst e y
    exact hs i σ _ hlt p
  · have e : i = n := by omega
    subst e
    exact .inl ⟨Nat.le_refl _, hd σ H p⟩

theorem while_by {c : TT} {tb : TS} {D : Ends} {σ : St} {H : Hp} (Pv : St → Hp → Prop) (μ : St → Hp → Nat) (h0 : Pv σ H)
    (hs : ∀ σ H, Pv σ H → c σ H fun b H1 => if b = true then tb { D with nx := fun σ' H' => Pv σ' H' ∧ μ σ' H' < μ σ H, ct := fun σ' H' => Pv σ' H' ∧ μ σ' H' < μ σ H, bk := D.nx } σ H1 else D.nx σ H1)
    (mono : ∀ σ H Q Q', (∀ b H1, Q b H1 → Q' b H1) → c σ H Q → c σ H Q') : tWhile c tb D σ H := by
  refine ⟨fun m σ H => m = μ σ H ∧ Pv σ H, ⟨_, rfl, h0⟩, ?_⟩
  rintro m σ H ⟨rfl, p⟩
  refine mono σ H _ _ (fun b H1 q => ?_) (hs σ H p)
  cases b with
  | true => exact ⟨_, fun σ' H' ⟨p', l⟩ => ⟨_, l, rfl, p'⟩, q⟩
  | false => exact q
end L2

namespace L2
open PySem PySem.Spec PyProof.Rows

abbrev R2 := V → V → Hp → VK → Prop

def OpR (X : Cx) (f : Value → Value → Sem Value) (r : R2) : Prop :=
  ∀ (pins : List (Addr × Obj)) (s : Shared) (σ : St) (H : Hp) (x y : V) (v u : Value) (Q : VK), Inv X pins σ H s → RelV x v → RelV y u → r x y H Q →
    wpAny (model X.prog X.w) X.A (f v u) (EP X pins σ Q) X.xe s

def UnR (X : Cx) (f : Value → Sem Value) (r : V → Hp → VK → Prop) : Prop :=
  ∀ (pins : List (Addr × Obj)) (s : Shared) (σ : St) (H : Hp) (x : V) (v : Value) (Q : VK), Inv X pins σ H s → RelV x v → r x H Q →
    wpAny (model X.prog X.w) X.A (f v) (EP X pins σ Q) X.xe s

def CallR (X : Cx) (f : Value) (r : List V → Hp → VK → Prop) : Prop :=
  ∀ (pins : List (Addr × Obj)) (s : Shared) (σ : St) (H : Hp) (xs : List V) (us : List Value) (Q : VK), Inv X pins σ H s → Vals xs us → r xs H Q →
    wpAny (model X.prog X.w) X.A (call f us) (EP X pins σ Q) X.xe s

def tOp (r : R2) (ta tb : TE) : TE := fun σ H Q => ta σ H fun x H1 => tb σ H1 fun y H2 => r x y H2 Q
def tUn (r : V → Hp → VK → Prop) (ta : TE) : TE := fun σ H Q => ta σ H fun x H1 => r x H1 Q

def rI (C : Int → Int → Prop) (g : Int → Int → V) : R2 := fun x y H Q => ∃ i j, x = .int i ∧ y = .int j ∧ C i j ∧ Q (g i j) H
def rI0 (g : Int → Int → V) : R2 := fun x y H Q => ∃ i j, x = .int i ∧ y = .int j ∧ Q (g i j) H
def rU (g : Int → V) : V → Hp → VK → Prop := fun x H Q => ∃ i, x = .int i ∧ Q (g i) H

section
variable {X : Cx} {a b c : Expr} {ta tb tc : TE} {pos : Pos}

theorem binT (ha : PE X a ta) (hb : PE X b tb) {pins : List (Addr × Obj)} {s : Shared} {σ : St} {H : Hp} {R : V → V → Hp → Prop} (I : Inv X pins σ H s)
    (h : ta σ H fun x H1 => tb σ H1 fun y H2 => R x y H2) {Q : Value → Shared → Prop} {f : Value → Value → Sem Value}
    (hf : ∀ v u s2 x y H2, Inv X pins σ H2 s2 → RelV x v → RelV y u → R x y H2 → wpAny (model X.prog X.w) X.A (f v u) Q X.xe s2) :
    wpAny (model X.prog X.w) X.A (eval a X.env) (fun v s₁ => wpAny (model X.prog X.w) X.A (eval b X.env) (fun u s₂ => wpAny (model X.prog X.w) X.A (f v u) Q X.xe s₂) X.xe s₁) X.xe s := by
  refine thn (ha pins s σ H _ I h) fun v s1 ⟨x, H1, I1, r1, q1⟩ => ?_
  refine thn (hb pins s1 σ H1 _ I1 q1) fun u s2 ⟨y, H2, I2, r2, q2⟩ => ?_
  exact hf v u s2 x y H2 I2 r1 r2 q2

theorem pe_op {op : Operator} {r : R2} (ho : OpR X (binaryOp op) r) (ha : PE X a ta) (hb : PE X b tb) : PE X (.BinOp a op b pos) (tOp r ta tb) := by
  intro pins s σ H Q I h
  exact wpAny_BinOp (binT ha hb I h fun v u s2 x y H2 I2 rx ry q => ho pins s2 σ H2 x y v u Q I2 rx ry q)
theorem pe_un {op : UnaryOp} {r : V → Hp → VK → Prop} (ho : UnR X (unaryOp op) r) (ha : PE X a ta) : PE X (.UnaryOp op a pos) (tUn r ta) := by
  intro pins s σ H Q I h
  exact UnaryOp_ (thn (ha pins s σ H _ I h) fun v s1 ⟨x, H1, I1, r1, q1⟩ => ho pins s1 σ H1 x v Q I1 r1 q1)

theorem opI {f : Value → Value → Sem Value} {C : Int → Int → Prop} {g : Int → Int → Int}
    (rule : ∀ (i j : Int) (t u : Tok) (s : Shared) (Q : Value → Shared → Prop) (E : Value → Shared → Prop), C i j → Q (.int (g i j) s.toks) { s with toks := s.toks + 1 } → wpAny (model X.prog X.w) X.A (f (.int i t) (.int j u)) Q E s) :
    OpR X f (rI C fun i j => .int (g i j)) := by
  intro pins s σ H x y v u Q I rx ry h
  obtain ⟨i, j, rfl, rfl, hc, q⟩ := h
  obtain ⟨t, rfl⟩ := rx
  obtain ⟨t', rfl⟩ := ry
  exact rule i j t t' s _ _ hc ⟨.int (g i j), H, I.tok _, ⟨_, rfl⟩, q⟩
theorem opI0 {f : Value → Value → Sem Value} {g : Int → Int → Int}
    (rule : ∀ (i j : Int) (t u : Tok) (s : Shared) (Q : Value → Shared → Prop) (E : Value → Shared → Prop), Q (.int (g i j) s.toks) { s with toks := s.toks + 1 } → wpAny (model X.prog X.w) X.A (f (.int i t) (.int j u)) Q E s) :
    OpR X f (rI0 fun i j => .int (g i j)) := by
  intro pins s σ H x y v u Q I rx ry h
  obtain ⟨i, j, rfl, rfl, q⟩ := h
  obtain ⟨t, rfl⟩ := rx
  obtain ⟨t', rfl⟩ := ry
  exact rule i j t t' s _ _ ⟨.int (g i j), H, I.tok _, ⟨_, rfl⟩, q⟩
theorem opB0 {f : Value → Value → Sem Value} {g : Int → Int → Bool}
    (rule : ∀ (i j : Int) (t u : Tok) (s : Shared) (Q : Value → Shared → Prop) (E : Value → Shared → Prop), Q (.bool (g i j)) s → wpAny (model X.prog X.w) X.A (f (.int i t) (.int j u)) Q E s) :
    OpR X f (rI0 fun i j => .bl (g i j)) := by
  intro pins s σ H x y v u Q I rx ry h
  obtain ⟨i, j, rfl, rfl, q⟩ := h
  obtain ⟨t, rfl⟩ := rx
  obtain ⟨t', rfl⟩ := ry
  exact rule i j t t' s _ _ ⟨.bl (g i j), H, I, rfl, q⟩

def CDiv (i j : Int) : Prop := 0 < j ∧ j < 1073741824
def CMul (i j : Int) : Prop := (-(2 ^ 64) < i ∧ i < 2 ^ 64) ∨ (-(2 ^ 64) < j ∧ j < 2 ^ 64)
theorem CMul.ok {i j : Int} (h : CMul i j) : IntMulOk i j := by
  rcases h with ⟨h1, h2⟩ | ⟨h1, h2⟩
  · exact .of_left (intBits_le_64 h1 h2)
  · exact .of_right (intBits_le_64 h1 h2)
theorem op_add : OpR X (binaryOp .Add) (rI0 fun i j => .int (i + j)) := opI0 fun _ _ _ _ _ _ _ q => add_int q
theorem op_sub : OpR X (binaryOp .Sub) (rI0 fun i j => .int (i - j)) := opI0 fun _ _ _ _ _ _ _ q => sub_int q
theorem op_mul : OpR X (binaryOp .Mult) (rI CMul fun i j => .int (i * j)) := opI fun _ _ _ _ _ _ _ hc q => mul_int q hc.ok

theorem op_fdiv : OpR X (binaryOp .FloorDiv) (rI CDiv fun i j => .int (i / j)) := opI fun i j _ _ _ _ _ hc q => by
  have h1 : (0 : Int) < j := hc.1
  have h2 : j < 1073741824 := hc.2
  exact floordiv_int (by omega) (by rw [Int.fdiv_eq_ediv_of_nonneg i (by omega)]; exact q) (.inl (PyProof.noPylong_small (by omega)))
theorem op_mod : OpR X (binaryOp .Mod) (rI (fun _ j => 0 < j) fun i j => .int (i % j)) := opI fun i j _ _ _ _ _ hc q => by
  have h1 : (0 : Int) < j := hc
  exact mod_int' (by omega) (by rw [Int.fmod_eq_emod_of_nonneg i (by omega)]; exact q)
theorem unI {f : Value → Sem Value} {g : Int → Int}
    (rule : ∀ (i : Int) (t : Tok) (s : Shared) (Q : Value → Shared → Prop) (E : Value → Shared → Prop), Q (.int (g i) s.toks) { s with toks := s.toks + 1 } → wpAny (model X.prog X.w) X.A (f (.int i t)) Q E s) :
    UnR X f (rU fun i => .int (g i)) := by
  intro pins s σ H x v Q I rx h
  obtain ⟨i, rfl, q⟩ := h
  obtain ⟨t, rfl⟩ := rx
  exact rule i t s _ _ ⟨.int (g i), H, I.tok _, ⟨_, rfl⟩, q⟩
theorem un_neg : UnR X (unaryOp .USub) (rU fun i => .int (-i)) := unI fun _ _ _ _ _ q => neg_int q
end



def scal : V → V → Bool
  | .non, .non => true | .non, .int _ => true | .int _, .non => true | .non, .bl _ => true | .bl _, .non => true | .non, .str _ => true | .str _, .non => true
  | .int _, .int _ => true | .bl _, .bl _ => true | .str _, .str _ => true | .byt _, .byt _ => true
  | .int _, .str _ => true | .str _, .int _ => true | .bl _, .str _ => true | .str _, .bl _ => true
  | _, _ => false
def rEq : R2 := fun x y H Q => scal x y = true ∧ Q (.bl (decide (x = y))) H
def rNe : R2 := fun x y H Q => scal x y = true ∧ Q (.bl (!decide (x = y))) H

theorem dec_int {i j : Int} : decide (V.int i = V.int j) = (i == j) := by
  rw [Bool.eq_iff_iff]
  simp
theorem dec_bl {i j : Bool} : decide (V.bl i = V.bl j) = (i == j) := by
  rw [Bool.eq_iff_iff]
  simp
theorem dec_str {i j : Str} : decide (V.str i = V.str j) = (i == j) := by
  rw [Bool.eq_iff_iff]
  simp
theorem dec_byt {i j : Array UInt8} : decide (V.byt i = V.byt j) = (i.toList == j.toList) := by
  rw [Bool.eq_iff_iff]
  cases i
  cases j
  simp

section
variable {X : Cx} {a b c : Expr} {ta tb tc : TE} {pos : Pos}
theorem fin_bl {pins : List (Addr × Obj)} {σ : St} {H : Hp} {s : Shared} {Q : VK} {k k' : Bool} (I : Inv X pins σ H s) (q : Q (.bl k) H) (e : k = k') : EP X pins σ Q (.bool k') s := by
  subst e
  exact ⟨.bl k, H, I, rfl, q⟩
theorem op_eq : OpR X (compareOp .Eq) rEq := by
  intro pins s σ H x y v u Q I rx ry h
  obtain ⟨hs, q⟩ := h
  cases x with
  | non =>
    cases rx
    cases y with
    | non => cases ry; exact PySem.EqNone.eq_none_none (fin_bl I q (by simp))
    | bl j => cases ry; exact PySem.EqNone.eq_none_bool (fin_bl I q (by simp))
    | int j => obtain ⟨t', rfl⟩ := ry; exact PySem.EqNone.eq_none_int (fin_bl I q (by simp))
    | str j => obtain ⟨t', rfl⟩ := ry; exact PySem.EqNone.eq_none_str (fin_bl I q (by simp))
    | _ => exact absurd (show false = true from hs) Bool.false_ne_true
  | bl i =>
    cases rx
    cases y with
    | non => cases ry; exact PySem.EqNone.eq_bool_none (fin_bl I q (by simp))
    | bl j => cases ry; exact eq_bool (fin_bl I q dec_bl)
    | str j => obtain ⟨t', rfl⟩ := ry; exact PySem.EqMixed.eq_bool_str (fin_bl I q (by simp))
    | _ => exact absurd (show false = true from hs) Bool.false_ne_true
  | int i =>
    obtain ⟨t, rfl⟩ := rx
    cases y with
    | non => cases ry; exact PySem.EqNone.eq_int_none (fin_bl I q (by simp))
    | int j => obtain ⟨t', rfl⟩ := ry; exact eq_int (fin_bl I q dec_int)
    | str j => obtain ⟨t', rfl⟩ := ry; exact PySem.EqMixed.eq_int_str (fin_bl I q (by simp))
    | _ => exact absurd (show false = true from hs) Bool.false_ne_true
  | str i =>
    obtain ⟨t, rfl⟩ := rx
    cases y with
    | non => cases ry; exact PySem.EqNone.eq_str_none (fin_bl I q (by simp))
    | bl j => cases ry; exact PySem.EqMixed.eq_str_bool (fin_bl I q (by simp))
    | int j => obtain ⟨t', rfl⟩ := ry; exact PySem.EqMixed.eq_str_int (fin_bl I q (by simp))
    | str j => obtain ⟨t', rfl⟩ := ry; exact eq_str (fin_bl I q dec_str)
    | _ => exact absurd (show false = true from hs) Bool.false_ne_true
  | byt i =>
    obtain ⟨t, rfl⟩ := rx
    cases y with
    | byt j => obtain ⟨t', rfl⟩ := ry; exact PySem.W.eq_bytes (fin_bl I q dec_byt)
    | _ => exact absurd (show false = true from hs) Bool.false_ne_true
  | _ => cases y <;> exact absurd (show false = true from hs) Bool.false_ne_true
theorem op_ne : OpR X (compareOp .NotEq) rNe := by
  intro pins s σ H x y v u Q I rx ry h
  obtain ⟨hs, q⟩ := h
  cases x with
  | non =>
    cases rx
    cases y with
    | non => cases ry; exact PySem.EqNone.ne_none_none (fin_bl I q (by simp))
    | bl j => cases ry; exact PySem.EqNone.ne_none_bool (fin_bl I q (by simp))
    | int j => obtain ⟨t', rfl⟩ := ry; exact PySem.EqNone.ne_none_int (fin_bl I q (by simp))
    | str j => obtain ⟨t', rfl⟩ := ry; exact PySem.EqNone.ne_none_str (fin_bl I q (by simp))
    | _ => exact absurd (show false = true from hs) Bool.false_ne_true
  | bl i =>
    cases rx
    cases y with
    | non => cases ry; exact PySem.EqNone.ne_bool_none (fin_bl I q (by simp))
    | bl j => cases ry; exact ne_bool (fin_bl I q (congrArg not dec_bl))
    | str j => obtain ⟨t', rfl⟩ := ry; exact PySem.EqMixed.ne_bool_str (fin_bl I q (by simp))
    | _ => exact absurd (show false = true from hs) Bool.false_ne_true
  | int i =>
    obtain ⟨t, rfl⟩ := rx
    cases y with
    | non => cases ry; exact PySem.EqNone.ne_int_none (fin_bl I q (by simp))
    | int j => obtain ⟨t', rfl⟩ := ry; exact ne_int (fin_bl I q (congrArg not dec_int))
    | str j => obtain ⟨t', rfl⟩ := ry; exact PySem.EqMixed.ne_int_str (fin_bl I q (by simp))
    | _ => exact absurd (show false = true from hs) Bool.false_ne_true
  | str i =>
    obtain ⟨t, rfl⟩ := rx
    cases y with
    | non => cases ry; exact PySem.EqNone.ne_str_none (fin_bl I q (by simp))
    | bl j => cases ry; exact PySem.EqMixed.ne_str_bool (fin_bl I q (by simp))
    | int j => obtain ⟨t', rfl⟩ := ry; exact PySem.EqMixed.ne_str_int (fin_bl I q (by simp))
    | str j => obtain ⟨t', rfl⟩ := ry; exact ne_str (fin_bl I q (congrArg not dec_str))
    | _ => exact absurd (show false = true from hs) Bool.false_ne_true
  | byt i =>
    obtain ⟨t, rfl⟩ := rx
    cases y with
    | byt j => obtain ⟨t', rfl⟩ := ry; exact PySem.W.ne_bytes (fin_bl I q (congrArg not dec_byt))
    | _ => exact absurd (show false = true from hs) Bool.false_ne_true
  | _ => cases y <;> exact absurd (show false = true from hs) Bool.false_ne_true

theorem op_lt : OpR X (compareOp .Lt) (rI0 fun i j => .bl (decide (i < j))) := opB0 fun _ _ _ _ _ _ _ q => lt_int q
theorem op_gt : OpR X (compareOp .Gt) (rI0 fun i j => .bl (decide (j < i))) := opB0 fun _ _ _ _ _ _ _ q => gt_int q
theorem op_ge : OpR X (compareOp .GtE) (rI0 fun i j => .bl (decide (j ≤ i))) := opB0 fun _ _ _ _ _ _ _ q => ge_int q
theorem OpR.or {f : Value → Value → Sem Value} {r r' : R2} (h : OpR X f r) (h' : OpR X f r') : OpR X f (fun x y H Q => r x y H Q ∨ r' x y H Q) := by
  intro pins s σ H x y v u Q I rx ry q
  rcases q with q | q
  · exact h pins s σ H x y v u Q I rx ry q
  · exact h' pins s σ H x y v u Q I rx ry q

theorem nomark (b : Expr) {op : CmpOp} (h : op ≠ .In := by decide) (h2 : op ≠ .NotIn := by decide) : behindInMarks op b = false := by
  have e1 : (op == CmpOp.In) = false := by cases op <;> first | rfl | exact absurd rfl h
  have e2 : (op == CmpOp.NotIn) = false := by cases op <;> first | rfl | exact absurd rfl h2
  cases b <;> simp [behindInMarks, e1, e2]

theorem pe_cmpR {op : CmpOp} {r : R2} (ho : OpR X (compareOp op) r) (ha : PE X a ta) (hb : PE X b tb) (hm : behindInMarks op b = false) : PE X (.Compare a [op] [b] pos) (tOp r ta tb) := by
  intro pins s σ H Q I h
  exact wpAny_Compare1 (binT ha hb I h fun v u s2 x y H2 I2 rx ry q => ho pins s2 σ H2 x y v u Q I2 rx ry q) hm

def tTest (t : TE) : TT := fun σ H Q => t σ H fun x H' => ∃ k, x = .bl k ∧ Q k H'
theorem pt_cmpR {op : CmpOp} {r : R2} (ho : OpR X (compareOp op) r) (ha : PE X a ta) (hb : PE X b tb) (hm : behindInMarks op b = false) : PT X (.Compare a [op] [b] pos) (tTest (tOp r ta tb)) := by
  intro pins s σ H Q I h
  refine wpAny_isTrue_Compare1 (thn (ha pins s σ H _ I h) fun v s1 ⟨x, H1, I1, r1, q1⟩ => thn (hb pins s1 σ H1 _ I1 q1) fun u s2 ⟨y, H2, I2, r2, q2⟩ =>
    thn (ho pins s2 σ H2 x y v u _ I2 r1 r2 q2) fun c s3 ⟨z, H3, I3, r3, k, e, q3⟩ => ?_) hm
  subst e
  cases r3
  exact wpAny_truthy_bool ⟨H3, I3, q3⟩

theorem line63 : (sizeLine : Nat) < 2 ^ 63 := by rw [sizeLine_eq]; decide
theorem vals1 {x : V} {us : List Value} (r : Vals [x] us) : ∃ u, us = [u] ∧ RelV x u := by
  cases r with
  | cons r1 r2 => cases r2; exact ⟨_, rfl, r1⟩
theorem vals2 {x y : V} {us : List Value} (r : Vals [x, y] us) : ∃ u w', us = [u, w'] ∧ RelV x u ∧ RelV y w' := by
  cases r with
  | cons r1 r2 =>
    cases r2 with
    | cons r3 r4 => cases r4; exact ⟨_, _, rfl, r1, r3⟩
theorem call_min2 (hc : X.calm = true) : CallR X (.builtin "min") (fun xs H Q => ∃ i j, xs = [.int i, .int j] ∧ Q (.int (if j < i then j else i)) H) := by
  intro pins s σ H xs us Q I r h
  obtain ⟨i, j, rfl, q⟩ := h
  obtain ⟨u, w', rfl, ⟨t, rfl⟩, ⟨t', rfl⟩⟩ := vals2 r
  refine min_two_ints (I.ok.hd hc) fun h' tk k => ⟨_, H, I.kept k, ?_, q⟩
  by_cases hj : j < i
  · rw [if_pos hj, if_pos hj]; exact ⟨_, rfl⟩
  · rw [if_neg hj, if_neg hj]; exact ⟨_, rfl⟩
end
end L2

namespace L2
open PySem PySem.Spec PyProof.Rows


structure ObjM (h : Heap) (x dx C : Addr) (mA : Str → Option Value) : Prop where
  obj : h.get? x = some (PySem.W.instObj C dx)
  ns : h.Ns1 dx mA
  ne : dx ≠ x

theorem lookIn_ns {h : Heap} {dx : Addr} {mA : Str → Option Value} (n : h.Ns1 dx mA) : ∃ od, h.get? dx = some od ∧ ∀ name, PySem.W.lookIn name od = some (mA name) := by
  obtain ⟨o, es, ep, ho, hd, hk, _, hm⟩ := n
  refine ⟨o, ho, fun name => ?_⟩
  have e := hm name
  unfold nsFind findBy at e
  rw [← Array.find?_toList] at e
  unfold PySem.W.lookIn
  rw [hd]
  dsimp only
  split
  · rename_i y q
    rw [q] at e
    exact congrArg some e
  · rename_i q
    rw [q] at e
    have a : es.toList.any (·.refKey) = false := by
      rw [List.any_eq_false]
      intro y hy
      obtain ⟨z, t, hkey⟩ := hk y (Array.mem_toList_iff.mp hy)
      simp [DictEntry.refKey, hkey]
    have a' : ¬ es.toList.any (·.refKey) = true := by rw [a]; exact Bool.false_ne_true
    rw [if_neg a']
    exact congrArg some e

theorem ObjM.look {h : Heap} {x dx C : Addr} {mA : Str → Option Value} (I : ObjM h x dx C mA) : ∃ od, PySem.W.InstAt h x (PySem.W.instObj C dx) C (some od) ∧ ∀ name, PySem.W.lookIn name od = some (mA name) :=
  let ⟨od, ho, hl⟩ := lookIn_ns I.ns
  ⟨od, ⟨I.obj, rfl, rfl, ho⟩, hl⟩

section
variable {prog : Program} {w : World} {A : Around} {E : Value → Shared → Prop} {s : Shared} {K : PySem.W.Frag} {x dx C f : Addr} {mA : Str → Option Value} {name : Str} {v : Value}

theorem get_map {expr : Bool} {Q : Value → Shared → Prop} (X : K.In s.heap) (I : ObjM s.heap x dx C mA) (hg : PySem.W.plainGet K C name = true) (hh : PySem.W.hasDictIn K C = true)
    (ha : PySem.W.findIn K (.ref C) name = some none) (hv : mA name = some v) (hv' : PySem.W.handedIn v = true) (h : Q v { s with toks := s.toks + 1 }) :
    wpAny (model prog w) A (getAttr (.ref x) name expr) Q E s := by
  obtain ⟨od, J, hl⟩ := I.look
  exact PySem.W.get_value X J (PySem.W.plainGet_of hg).1 (PySem.W.findObj_own hh ha rfl (by rw [hl, hv])) hv' h

theorem get_meth {pl : Sem Bool} {Q : Value × List Value → Shared → Prop} (X : K.In s.heap) (I : ObjM s.heap x dx C mA) (hg : PySem.W.plainGet K C name = true)
    (hf : PySem.W.findIn K (.ref C) name = some (some (.ref f))) (ht : PySem.W.isFn K (.ref f) = true) (hv : mA name = none) (h : Q (.ref f, [.ref x]) s) :
    wpAny (model prog w) A (getMethod (.ref x) name pl) Q E s := by
  obtain ⟨od, J, hl⟩ := I.look
  exact PySem.W.method_fn X J (PySem.W.plainGet_of hg).1 (PySem.W.plainGet_of hg).2 hf (beq_iff_eq.mp ht) (by show (PySem.W.lookIn name od).map (·.isSome) = some false; rw [hl, hv]; rfl) h

theorem set_map {ns : List Str} {Q : Unit → Shared → Prop} (X : K.In s.heap) (I : ObjM s.heap x dx C mA)
    (hs : PySem.W.findIn K (.ref C) "__setattr__" = some (some (.builtin "object.__setattr__"))) (hp : PySem.W.plainOver K C = true) (ht : PySem.W.takerIn K C name = some none) (hh : PySem.W.hasDictIn K C = true)
    (hw : PySem.Within mA ns) (hsz : ns.length ≤ sizeLine)
    (h : ∀ h', ObjM h' x dx C (fun y => if y = name then some v else mA y) → Heap.SameBut dx s.heap h' → Q () { s with heap := h', toks := s.toks + 2 }) :
    wpAny (model prog w) A (setAttr (.ref x) name v) Q E s := by
  obtain ⟨od, J, hl⟩ := I.look
  refine PySem.W.set_plain X J hs (PySem.W.osa_open (s := { s with toks := s.toks + 1 }) (r := none) X J hp ht fun b => ?_)
  obtain ⟨cd, hc, hd'⟩ := PySem.W.any_some hh
  have hx : s.heap.get? x = some ⟨.ref C, some dx, .plain, #[]⟩ := I.obj
  refine wpAny_bind (wpAny_pure (wpAny_bind (wpAny_bind (wpAny_loadPart hx (wpAny_bind (PySem.W.Looks.here (s := { s with toks := s.toks + 1 }) (PySem.W.looks_clsIn X hc) ?_))))))
  rw [hd']
  refine wpAny_pure (a := some dx) (wpAny_bind (wpAny_pure (wpAny_bind ?_)))
  refine wpAny_nsSet1 (s := { s with toks := s.toks + 1 }) I.ns fun h' hn2 hs2 => ?_
  obtain ⟨oD, esD, epD, hoD, hdD, hcD⟩ := hn2.count (PySem.Within.cons name v hw)
  refine wpAny_bind (wpAny_lookBehind hoD (by rw [hdD]; exact pastItsLine_dict (Nat.le_trans hcD (by rw [List.length_cons]; omega))) ?_)
  exact wpAny_pure (h _ ⟨(hs2.2 _ (Ne.symm I.ne)).trans I.obj, hn2, I.ne⟩ hs2)


theorem make_map {R : Result → Shared → Prop} {vs : List Value} {kw : List (Str × Value)} (X : K.In s.heap) (hm : PySem.W.makesIn K C = true)
    (hi : PySem.W.findIn K (.ref C) "__init__" = some (some (.ref f))) (hf : PySem.W.typeIn K (.ref f) = some (.type "function"))
    (h : codeAny (model prog w) (A.under (.builtin "type.__call__" ⟨.ref C :: vs, kw⟩)) (.call (.ref f) ⟨.ref (s.heap.objs.size + 1) :: vs, kw⟩) (PySem.W.InitBack (s.heap.objs.size + 1) R)
      { s with heap := (s.heap.push PySem.W.emptyDict).push (PySem.W.instObj C s.heap.objs.size) }) :
    codeAny (model prog w) A (.call (.ref C) ⟨vs, kw⟩) R s := by
  obtain ⟨hh, g, d, t, os⟩ := s
  exact PySem.W.make_core (PySem.W.makes_of X hm) (PySem.W.looks_findIn X hi) (fun self => PySem.W.bind_fn X self hf) (.inl rfl) h

end


def putF (f : Str) (v : V) : List (Str × V) → List (Str × V)
  | [] => [(f, v)]
  | (g, x) :: r => if g = f then (g, v) :: r else (g, x) :: putF f v r
theorem lookup_putF (f g : Str) (v : V) : ∀ fs : List (Str × V), (putF f v fs).lookup g = if g = f then some v else fs.lookup g
  | [] => by
    show List.lookup g [(f, v)] = _
    by_cases h : g = f
    · have hb : (g == f) = true := beq_iff_eq.mpr h
      simp only [List.lookup, hb, if_pos h]
    · have hb : (g == f) = false := beq_eq_false_iff_ne.mpr h
      simp only [List.lookup, hb, if_neg h]
  | (k, x) :: r => by
    have ih := lookup_putF f g v r
    rw [show putF f v ((k, x) :: r) = (if k = f then (k, v) :: r else (k, x) :: putF f v r) from rfl]
    by_cases hk : k = f
    · rw [if_pos hk]
      by_cases h : g = k
      · have hb : (g == k) = true := beq_iff_eq.mpr h
        simp only [List.lookup, hb, if_pos (h.trans hk)]
      · have hb : (g == k) = false := beq_eq_false_iff_ne.mpr h
        simp only [List.lookup, hb, if_neg (fun e : g = f => h (e.trans hk.symm))]
    · rw [if_neg hk]
      by_cases h : g = k
      · have hb : (g == k) = true := beq_iff_eq.mpr h
        simp only [List.lookup, hb, if_neg (fun e : g = f => hk (h.symm.trans e))]
      · have hb : (g == k) = false := beq_eq_false_iff_ne.mpr h
        simp only [List.lookup, hb]
        exact ih
theorem keys_putF (f : Str) (v : V) : ∀ fs : List (Str × V), f ∈ (putF f v fs).map (·.1) ∧ ∀ g, g ∈ fs.map (·.1) → g ∈ (putF f v fs).map (·.1)
  | [] => ⟨by simp [putF], fun g h => by simp at h⟩
  | (k, x) :: r => by
    obtain ⟨i1, i2⟩ := keys_putF f v r
    rw [show putF f v ((k, x) :: r) = (if k = f then (k, v) :: r else (k, x) :: putF f v r) from rfl]
    by_cases hk : k = f
    · rw [if_pos hk]
      subst hk
      exact ⟨by simp, fun g h => by simpa using h⟩
    · rw [if_neg hk]
      refine ⟨?_, fun g h => ?_⟩
      · rw [List.map_cons]
        exact List.mem_cons_of_mem _ i1
      · rw [List.map_cons] at h ⊢
        rcases List.mem_cons.mp h with e | e
        · exact List.mem_cons.mpr (.inl e)
        · exact List.mem_cons_of_mem _ (i2 g e)
theorem length_putF (f : Str) (v : V) : ∀ fs : List (Str × V), (putF f v fs).length ≤ fs.length + 1
  | [] => by simp [putF]
  | (k, x) :: r => by
    have ih := length_putF f v r
    rw [show putF f v ((k, x) :: r) = (if k = f then (k, v) :: r else (k, x) :: putF f v r) from rfl]
    by_cases hk : k = f
    · rw [if_pos hk, List.length_cons, List.length_cons]; omega
    · rw [if_neg hk, List.length_cons, List.length_cons]; omega

theorem RelO.some_of {v : V} {o : Option Value} (r : RelO (some v) o) : ∃ u, o = some u ∧ RelV v u := by
  cases o with
  | none => exact (show False from r).elim
  | some u => exact ⟨u, rfl, r⟩
theorem RelO.none_of {o : Option Value} (r : RelO none o) : o = none := by
  cases o with
  | none => rfl
  | some u => exact (show False from r).elim
theorem handed_of {v : V} {u : Value} (r : RelV v u) : PySem.W.handedIn u = true := by
  cases v with
  | non => cases (show u = Value.none from r); rfl
  | bl b => cases (show u = Value.bool b from r); rfl
  | int i => obtain ⟨t, e⟩ := (show ∃ t, u = Value.int i t from r); cases e; rfl
  | str x => obtain ⟨t, e⟩ := (show ∃ t, u = Value.str x t from r); cases e; rfl
  | byt b => obtain ⟨t, e⟩ := (show ∃ t, u = Value.bytes b t from r); cases e; rfl
  | flt b => obtain ⟨t, e⟩ := (show ∃ t, u = Value.float b t from r); cases e; rfl
  | ref a => cases (show u = Value.ref a from r); rfl
  | ty n => cases (show u = Value.type n from r); rfl

section
variable {P : Program} {w : World} {H H' : Hp} {h h' : Heap} {a C dx : Addr} {fs fs' : List (Str × V)}
theorem ins_get (hok : HOk P w H h) (e : H a = some (.ins C dx fs)) : ∃ mA, ObjM h a dx C mA ∧ (∀ f, RelO (fs.lookup f) (mA f)) ∧ PySem.Within mA (fs.map (·.1)) ∧ fs.length ≤ 1000 ∧ H dx = some (.own a) := by
  obtain ⟨d, z, ne, ob, mA, n, r, q⟩ := (show ObjOk P w H h a (.ins C dx fs) from hok a _ e)
  exact ⟨mA, ⟨ob, n, ne⟩, r, q, z, d⟩
end


structure Cls (K : PySem.W.Frag) (C : Addr) : Prop where
  pg : PySem.W.plainGet K C Str.empty = true
  hd : PySem.W.hasDictIn K C = true
  po : PySem.W.plainOver K C = true
  sa : PySem.W.findIn K (.ref C) "__setattr__" = some (some (.builtin "object.__setattr__"))
theorem Cls.get {K : PySem.W.Frag} {C : Addr} (c : Cls K C) (f : Str) : PySem.W.plainGet K C f = true := c.pg

def NoAttr (K : PySem.W.Frag) (C : Addr) (f : Str) : Prop := PySem.W.findIn K (.ref C) f = some none
theorem NoAttr.taker {K : PySem.W.Frag} {C : Addr} {f : Str} (n : NoAttr K C f) : PySem.W.takerIn K C f = some none := by
  unfold PySem.W.takerIn
  rw [show PySem.W.findIn K (.ref C) f = some none from n]
  rfl

structure Meth (K : PySem.W.Frag) (C : Addr) (m : Str) (f : Addr) : Prop where
  at_ : PySem.W.findIn K (.ref C) m = some (some (.ref f))
  fn : PySem.W.isFn K (.ref f) = true
  kp : PySem.W.keepIn K (.ref f) = true

section
variable {X : Cx} {pins : List (Addr × Obj)} {σ : St} {H : Hp} {s : Shared} {a C dx : Addr} {fs : List (Str × V)} {f : Str} {v : V} {A : Around} {E : Value → Shared → Prop}

theorem getattr_ok {b : Bool} {Q : Value → Shared → Prop} (I : Inv X pins σ H s) (e : H a = some (.ins C dx fs)) (c : Cls X.K C) (n : NoAttr X.K C f) (l : fs.lookup f = some v)
    (h : ∀ u s', Inv X pins σ H s' → RelV v u → Q u s') : wpAny (model X.prog X.w) A (getAttr (.ref a) f b) Q E s := by
  obtain ⟨mA, O, r, _, _, _⟩ := ins_get I.hok e
  obtain ⟨u, hu, ru⟩ := RelO.some_of (v := v) (o := mA f) (by rw [← l]; exact r f)
  exact get_map I.kIn O (c.get f) c.hd n hu (handed_of ru) (h u _ (I.tok _) ru)

theorem getmeth_ok {m : Str} {g : Addr} {pl : Sem Bool} {Q : Value × List Value → Shared → Prop} (I : Inv X pins σ H s) (e : H a = some (.ins C dx fs)) (c : Cls X.K C) (k : Meth X.K C m g) (l : fs.lookup m = none)
    (h : Q (.ref g, [.ref a]) s) : wpAny (model X.prog X.w) A (getMethod (.ref a) m pl) Q E s := by
  obtain ⟨mA, O, r, _, _, _⟩ := ins_get I.hok e
  have hn : mA m = none := RelO.none_of (by rw [← l]; exact r m)
  exact get_meth I.kIn O (c.get m) k.at_ k.fn hn h

theorem setattr_ok {y : V} {u : Value} {Q : Unit → Shared → Prop} (I : Inv X pins σ H s) (e : H a = some (.ins C dx fs)) (c : Cls X.K C) (n : NoAttr X.K C f) (hl : fs.length < 1000) (ry : RelV y u)
    (h : ∀ s', Inv X pins σ (upd H a (.ins C dx (putF f y fs))) s' → Q () s') : wpAny (model X.prog X.w) A (setAttr (.ref a) f u) Q E s := by
  obtain ⟨mA, O, r, wi, _, ho⟩ := ins_get I.hok e
  have hz : (fs.map (·.1)).length ≤ sizeLine := by rw [List.length_map, sizeLine_eq]; omega
  refine set_map I.kIn O c.sa c.po n.taker c.hd wi hz fun h' O' sb => h _ ?_
  have hd : ∃ o, h'.get? dx = some o := let ⟨o, _, _, e', _⟩ := O'.ns; ⟨o, e'⟩
  refine I.write (x := a) (e := dx) (by rw [e]; exact True.intro) (.inr ho) (fun b q hb z => (sb.2 b hb).trans z) hd ?_
  refine ⟨by rw [upd_ne O.ne]; exact ho, ?_, O.ne, O'.obj, _, O'.ns, fun g => ?_, fun g hg => ?_⟩
  · have := length_putF f y fs; omega
  · show RelO ((putF f y fs).lookup g) (if g = f then some u else mA g)
    rw [lookup_putF]
    by_cases q : g = f
    · rw [if_pos q, if_pos q]; exact ry
    · rw [if_neg q, if_neg q]; exact r g
  · by_cases q : g = f
    · rw [q]; exact (keys_putF f y fs).1
    · refine (keys_putF f y fs).2 g (wi g fun z => hg ?_)
      show (if g = f then some u else mA g) = none
      rw [if_neg q]; exact z


theorem Inv.made (I : Inv X pins σ H s) : Inv X pins σ (upd (upd H s.heap.objs.size (.own (s.heap.objs.size + 1))) (s.heap.objs.size + 1) (.ins C s.heap.objs.size []))
    { s with heap := (s.heap.push PySem.W.emptyDict).push (PySem.W.instObj C s.heap.objs.size) } := by
  have e1 : (s.heap.push PySem.W.emptyDict).get? s.heap.objs.size = some PySem.W.emptyDict := Heap.get?_push_size s.heap rfl
  have e2 : ((s.heap.push PySem.W.emptyDict).push (PySem.W.instObj C s.heap.objs.size)).get? (s.heap.objs.size + 1) = some (PySem.W.instObj C s.heap.objs.size) := by
    have := Heap.get?_push_size (s.heap.push PySem.W.emptyDict) (o := PySem.W.instObj C s.heap.objs.size) rfl
    rwa [Heap.size_push] at this
  have e3 : (s.heap.push PySem.W.emptyDict).Ns s.heap.objs.size (fun _ => none) := ⟨PySem.W.emptyDict, #[], _, e1, rfl, (fun e he => absurd he (by simp)), fun _ => rfl⟩
  have I1 := I.laid (a := s.heap.objs.size) (o := .own (s.heap.objs.size + 1)) (h' := s.heap.push PySem.W.emptyDict) (t' := s.toks) (fun b u q => Heap.get?_push_of_some _ q) (Nat.le_refl _) ⟨_, e1⟩
  refine I1.laid (a := s.heap.objs.size + 1) (o := .ins C s.heap.objs.size []) (t' := s.toks) (fun b u q => Heap.get?_push_of_some _ q) (Nat.le_of_eq (Heap.size_push _ _)) ?_
  have ne : s.heap.objs.size ≠ s.heap.objs.size + 1 := Nat.ne_of_lt (Nat.lt_succ_self _)
  refine ⟨by rw [upd_ne ne, upd_same], Nat.zero_le _, ne, e2, fun _ => none, (Heap.Ns1.of_empty e3).at fun o q => Heap.get?_push_of_some _ q, fun _ => True.intro, fun y hy => absurd rfl hy⟩


theorem attr_of {prog : Program} {w : World} {env : Env} {e : Expr} {f : Str} {pos : Pos} {s : Shared} {Q : Value → Shared → Prop} (hb : attributeBase e f env (eval e env) = eval e env)
    (h : wpAny (model prog w) A (eval e env) (fun o s₁ => wpAny (model prog w) A (getAttr o f true) Q E s₁) E s) : wpAny (model prog w) A (eval (.Attribute e f pos) env) Q E s :=
  Attribute_any_ h (by rw [arm_eval_Attribute, hb])
end



def tFld (K : PySem.W.Frag) (ta : TE) (f : Str) : TE := fun σ H Q => ta σ H fun x H1 => ∃ a C dx fs v, x = .ref a ∧ H1 a = some (.ins C dx fs) ∧ Cls K C ∧ NoAttr K C f ∧ fs.lookup f = some v ∧ Q v H1

def sFld (K : PySem.W.Frag) (ta tv : TE) (f : Str) : TS := fun D σ H => tv σ H fun y H1 => ta σ H1 fun x H2 => ∃ a C dx fs, x = .ref a ∧ H2 a = some (.ins C dx fs) ∧ Cls K C ∧ NoAttr K C f ∧ fs.length < 1000 ∧
  D.nx σ (upd H2 a (.ins C dx (putF f y fs)))

section
variable {X : Cx} {o e value : Expr} {f : Str} {pos pos' tpos : Pos} {ta tv : TE}
theorem pe_fld (he : PE X e ta) (hb : attributeBase e f X.env (eval e X.env) = eval e X.env) : PE X (.Attribute e f pos) (tFld X.K ta f) := by
  intro pins s σ H Q I h
  refine attr_of hb (thn (he pins s σ H _ I h) fun u s1 ⟨x, H1, I1, rx, a, C, dx, fs, v, ex, ea, c, n, l, q⟩ => ?_)
  subst ex
  obtain rfl : u = Value.ref a := rx
  exact getattr_ok I1 ea c n l fun u' s2 I2 ru => ⟨v, H1, I2, ru, q⟩
theorem ps_fld (ha : PE X o ta) (hv : PE X value tv) (hs : swapsWith value (some (.Attribute o f pos')) pos.line X.env = pure false) : PS X (.Assign [.Attribute o f pos'] value pos) (sFld X.K ta tv f) := by
  intro pins s σ H D I h
  refine plainObj_wpAny_Assign_Attribute (thn (hv pins s σ H _ I h) fun u s1 ⟨y, H1, I1, ry, q⟩ => thn (ha pins s1 σ H1 _ I1 q) fun ov s2 ⟨x, H2, I2, rx, a, C, dx, fs, ex, ea, c, n, l, q2⟩ => ?_) hs
  subst ex
  obtain rfl : ov = Value.ref a := rx
  exact setattr_ok I2 ea c n l ry fun s3 I3 => ⟨σ, _, I3, q2⟩
end


section
variable {X : Cx} {pins : List (Addr × Obj)} {σ : St} {H : Hp} {s : Shared} {A : Around} {E : Value → Shared → Prop} {Q : Value → Shared → Prop} {c : Value} {b : Bool}

inductive TyOf (K : PySem.W.Frag) (H : Hp) : V → Value → Prop where
  | non : TyOf K H .non (.type "NoneType")
  | bl (x : Bool) : TyOf K H (.bl x) (.type "bool")
  | int (i : Int) : TyOf K H (.int i) (.type "int")
  | str (x : Str) : TyOf K H (.str x) (.type "str")
  | flt (x : UInt64) : TyOf K H (.flt x) (.type "float")
  | lst {a : Addr} {xs : List V} (e : H a = some (.lst xs)) : TyOf K H (.ref a) (.type "list")
  | frz {a : Addr} {o : Obj} {xs : List V} (e : H a = some (.frz o (.lst xs))) : TyOf K H (.ref a) (.type "list")
  | tup {a : Addr} {xs : List V} (e : H a = some (.tup xs)) : TyOf K H (.ref a) (.type "tuple")
  | dK {a : Addr} {kvs : List (Key × V)} (e : H a = some (.dK kvs)) : TyOf K H (.ref a) (.type "dict")
  | dT {a : Addr} {kvs : List (List Key × V)} (e : H a = some (.dT kvs)) : TyOf K H (.ref a) (.type "dict")
  | ins {a C dx : Addr} {fs : List (Str × V)} (e : H a = some (.ins C dx fs)) (cl : Cls K C) (ha : PySem.W.findIn K (.ref C) "__class__" = some (some (.builtin "object.__class__")))
      (hn : PySem.W.specialIn K (.builtin "object.__class__") "__get__" = some (some (.builtin "getset_descriptor.__get__"))) (htk : PySem.W.takesIn K (.builtin "object.__class__") = some true)
      (hm : PySem.W.mroIn K C (.type "object") = some true) : TyOf K H (.ref a) (.ref C)

theorem isinst_ok {x : V} {u t : Value} (I : Inv X pins σ H s) (rx : RelV x u) (ty : TyOf X.K H x t) (e : PySem.W.kitOne X.K t c = some b) (h : ∀ tk, Q (.bool b) { s with toks := tk }) :
    wpAny (model X.prog X.w) A (call (.builtin "isinstance") [u, c]) Q E s := by
  cases ty with
  | non => cases (show u = Value.none from rx); exact PySem.W.kia_one PySem.W.kitx_none I.kIn True.intro e (fun z => nomatch z) h
  | bl y => cases (show u = Value.bool y from rx); exact PySem.W.kia_one PySem.W.kitx_bool I.kIn True.intro e (fun z => nomatch z) h
  | int i => obtain ⟨t, q⟩ := (show ∃ t, u = Value.int i t from rx); cases q; exact PySem.W.kia_one PySem.W.kitx_int I.kIn True.intro e (fun z => nomatch z) h
  | str y => obtain ⟨t, q⟩ := (show ∃ t, u = Value.str y t from rx); cases q; exact PySem.W.kia_one PySem.W.kitx_str I.kIn True.intro e (fun z => nomatch z) h
  | flt y => obtain ⟨t, q⟩ := (show ∃ t, u = Value.float y t from rx); cases q; exact PySem.W.kia_one PySem.W.kitx_float I.kIn True.intro e (fun z => nomatch z) h
  | @lst a xs ea =>
    cases (show u = Value.ref a from rx)
    obtain ⟨_, _, n, _, h1⟩ := (show ObjOk X.prog X.w H s.heap a (.lst xs) from I.hok a _ ea)
    exact PySem.W.kia_one PySem.W.kitx_list I.kIn ⟨_, h1, rfl⟩ e (fun z => nomatch z) h
  | @frz a ob xs ea =>
    cases (show u = Value.ref a from rx)
    obtain ⟨_, _, _, n, _, h1⟩ := (show ObjOk X.prog X.w H s.heap a (.frz ob (.lst xs)) from I.hok a _ ea)
    exact PySem.W.kia_one PySem.W.kitx_list I.kIn ⟨_, h1, rfl⟩ e (fun z => nomatch z) h
  | @tup a xs ea =>
    cases (show u = Value.ref a from rx)
    obtain ⟨_, _, _, p⟩ := (show ObjOk X.prog X.w H s.heap a (.tup xs) from I.hok a _ ea)
    obtain ⟨o, h1, h2, _⟩ := p
    exact PySem.W.kia_one PySem.W.kitx_tuple I.kIn ⟨o, h1, h2⟩ e (fun z => nomatch z) h
  | @dK a kvs ea =>
    cases (show u = Value.ref a from rx)
    obtain ⟨_, _, vs, _, p⟩ := (show ObjOk X.prog X.w H s.heap a (.dK kvs) from I.hok a _ ea)
    obtain ⟨o, es, ep, h1, h2, _⟩ := p
    exact PySem.W.kia_one PySem.W.kitx_dict I.kIn ⟨o, h1, h2.1⟩ e (fun z => nomatch z) h
  | @dT a kvs ea =>
    cases (show u = Value.ref a from rx)
    obtain ⟨_, _, xs, _, o, es, ep, h1, h2, _⟩ := (show ObjOk X.prog X.w H s.heap a (.dT kvs) from I.hok a _ ea)
    exact PySem.W.kia_one PySem.W.kitx_dict I.kIn ⟨o, h1, h2.1⟩ e (fun z => nomatch z) h
  | @ins a C dx fs ea cl ha hn htk hm =>
    cases (show u = Value.ref a from rx)
    obtain ⟨mA, O, _⟩ := ins_get I.hok ea
    obtain ⟨od, J, _⟩ := O.look
    exact PySem.W.kia_one (PySem.W.kitx_own (cl.get _) cl.hd ha hn htk hm) I.kIn J e (fun z => nomatch z) h
end
end L2

namespace L2
open PySem PySem.Spec PyProof.Rows


structure Room (k : Nat) (A : Around) : Prop where
  hd : A.handled = none
  dp : A.depth + 3 * k + 5 < recursionLimit
  un : A.units + 16 * k + 200 < cLine
theorem Room.mono {j k : Nat} {A : Around} (r : Room k A) (h : j ≤ k) : Room j A := ⟨r.hd, by have := r.dp; omega, by have := r.un; omega⟩
theorem Room.deeper {k : Nat} {A : Around} (r : Room (k + 1) A) (env : Env) : Room k (A.deeper env) :=
  ⟨r.hd, by have := r.dp; show A.depth + 1 + 3 * k + 5 < _; omega, by have := r.un; show A.units + 3 + 16 * k + 200 < _; omega⟩
theorem Room.in1 {k : Nat} {A : Around} (r : Room (k + 1) A) : Room k A.in1 :=
  ⟨r.hd, by have := r.dp; show A.depth + 3 * k + 5 < _; omega, by have := r.un; show A.units + 1 + 16 * k + 200 < _; omega⟩
theorem make_depth {A : Around} {C : Addr} {us : List Value} {kw : List (Str × Value)} : (A.under (.builtin "type.__call__" ⟨.ref C :: us, kw⟩)).depth = A.depth + 1 := by
  first | rfl | simp [Around.under, Code.weight, Code.isCreation, Code.isGuard, Code.isCaller, Code.frames, Code.isFrame, guardIds]
theorem make_units {A : Around} {C : Addr} {us : List Value} {kw : List (Str × Value)} : (A.under (.builtin "type.__call__" ⟨.ref C :: us, kw⟩)).units = A.units + 1 := by
  first | rfl | simp [Around.under, Code.cUnits, Code.frames, Code.isFrame]
theorem Room.make {k : Nat} {A : Around} (r : Room (k + 1) A) (C : Addr) (us : List Value) (kw : List (Str × Value)) : Room k (A.under (.builtin "type.__call__" ⟨.ref C :: us, kw⟩)) :=
  ⟨r.hd, by have := r.dp; rw [make_depth]; omega, by have := r.un; rw [make_units]; omega⟩
theorem Room.depth {k : Nat} {A : Around} (r : Room k A) : A.depth < recursionLimit := by have := r.dp; omega
theorem Room.units {k : Nat} {A : Around} (r : Room k A) : A.units + 64 < cLine := by have := r.un; omega
def tNil : TA := fun _ H Q => Q [] H
def tCons (ta : TE) (tr : TA) : TA := fun σ H Q => ta σ H fun x H1 => tr σ H1 fun xs H2 => Q (x :: xs) H2
section
variable {X : Cx} {e : Expr} {es : List Expr} {te : TE} {t : TA} {pos : Pos}
theorem pa_nil : PA X [] tNil := fun _ _ _ _ H Q I h => Calls.spliced_nil ⟨[], H, I, .nil, h⟩
theorem pa_cons (ha : PE X e te) (hr : PA X es t) (hs : starEach (e :: es) X.env = (false, eval e X.env) :: starEach es X.env := by rfl) : PA X (e :: es) (tCons te t) := by
  intro pos pins s σ H Q I h
  rw [hs]
  show wpAny _ _ (spliced ((false, eval e X.env) :: backTo pos (starEach es X.env))) _ _ s
  refine Calls.spliced_cons (thn (ha pins s σ H _ I h) fun u s1 ⟨x, H1, I1, r1, q1⟩ => ?_)
  exact thn (hr pos pins s1 σ H1 _ I1 q1) fun us s2 ⟨xs, H2, I2, r2, q2⟩ => ⟨x :: xs, H2, I2, .cons r1 r2, q2⟩


def tTup (t : TA) : TE := fun σ H Q => t σ H fun xs H1 => xs.length ≤ sizeLine ∧ ∀ p, H1 p = none → Q (.ref p) (upd H1 p (.tup xs))
def tLst (t : TA) : TE := fun σ H Q => t σ H fun xs H1 => xs.length ≤ sizeLine ∧ ∀ p, H1 p = none → Q (.ref p) (upd H1 p (.lst xs))
theorem pe_tup {x1} (h : PA X es t) : PE X (.Tuple es x1 pos) (tTup t) := by
  intro pins s σ H Q I hq
  refine wpAny_Tuple_spliced (thn (h pos pins s σ H _ I hq) fun us s1 ⟨xs, H1, I1, r, z, q⟩ => ⟨by rw [← r.length]; exact z, ?_⟩)
  have hf : H1 s1.heap.objs.size = none := I1.hok.fresh (Nat.le_refl _)
  refine ⟨.ref s1.heap.objs.size, upd H1 s1.heap.objs.size (.tup xs), I1.laid (t' := s1.toks) (fun b u e => Heap.get?_push_of_some _ e) (Nat.le_refl _) ?_, rfl, q _ hf⟩
  exact ⟨z, us, r, ⟨_, Heap.get?_push_size _ rfl, rfl, _, rfl⟩⟩
theorem pe_lst (h : PA X es t) : PE X (.List es pos) (tLst t) := by
  intro pins s σ H Q I hq
  refine wpAny_List_spliced (thn (h pos pins s σ H _ I hq) fun us s1 ⟨xs, H1, I1, r, z, q⟩ => ⟨by rw [← r.length]; exact z, ?_⟩)
  have hf : H1 s1.heap.objs.size = none := I1.hok.fresh (Nat.le_refl _)
  refine ⟨.ref s1.heap.objs.size, upd H1 s1.heap.objs.size (.lst xs), I1.laid (t' := s1.toks) (fun b u e => Heap.get?_push_of_some _ e) (Nat.le_refl _) ?_, rfl, q _ hf⟩
  exact ⟨z, us, 0, r, Heap.get?_push_size _ rfl⟩
end



abbrev Sp := List V → Hp → VK → XK → Prop

abbrev CXT := List Env → Hp → Shared → XK → Value → Shared → Prop


structure Env0 (P : Program) (w : World) (K : PySem.W.Frag) (mg : Str → Option Value) (base : Heap) (A : Around) (outer : List Env) (s : Shared) (H : Hp) : Prop where
  frames : A.frames = some outer
  mod : Mod K mg base
  bs : ∀ b o, base.get? b = some o → s.heap.get? b = some o ∧ H b = none
  bsz : base.objs.size ≤ s.heap.objs.size
  funs : s.heap.FunFrames base outer
  frf : ∀ b ∈ frs outer, H b = none
  hok : HOk P w H s.heap
  bare : AllBare s.gens

def CE (outer : List Env) (P : Program) (w : World) (H : Hp) (s : Shared) (Q : VK) (u : Value) (s' : Shared) : Prop :=
  ∃ v H', s'.os = s.os ∧ AllBare s'.gens ∧ Un (frs outer) [] H H' s.heap s'.heap ∧ HOk P w H' s'.heap ∧ RelV v u ∧ Q v H'
def CR (CX : CXT) (outer : List Env) (P : Program) (w : World) (H : Hp) (s : Shared) (Q : VK) (E : XK) (r : Result) (s' : Shared) : Prop :=
  match r with
  | .ok (.ret u) => CE outer P w H s Q u s'
  | .ok _ => False
  | .error e => CX outer H s E e s'
structure FnOk (P : Program) (w : World) (K : PySem.W.Frag) (mg : Str → Option Value) (base : Heap) (CX : CXT) (k : Nat) (f : Addr) (fd : FuncData) (ps : List Str) (sp : Sp) : Prop where
  len : ∀ vs H Q E, sp vs H Q E → vs.length = ps.length
  run : ∀ (A : Around) (outer : List Env) (s : Shared) (H : Hp) (args : Args) (us : List Value) (vs : List V) (Q : VK) (E : XK), Room k A → Env0 P w K mg base A outer s H → BindsTo s fd args (ps.zip us) → Vals vs us → sp vs H Q E →
    codeAny (model P w) A (.call (.ref f) args) (CR CX outer P w H s Q E) s
theorem FnOk.mono {P : Program} {w : World} {K : PySem.W.Frag} {mg : Str → Option Value} {base : Heap} {CX : CXT} {j k : Nat} {f : Addr} {fd : FuncData} {ps : List Str} {sp : Sp} (F : FnOk P w K mg base CX j f fd ps sp) (h : j ≤ k) :
    FnOk P w K mg base CX k f fd ps sp := ⟨F.len, fun A outer s H args us vs Q E hr => F.run A outer s H args us vs Q E (hr.mono h)⟩

theorem FnOk.imp {P : Program} {w : World} {K : PySem.W.Frag} {mg : Str → Option Value} {base : Heap} {CX : CXT} {k : Nat} {f : Addr} {fd : FuncData} {ps : List Str} {sp sp' : Sp} (F : FnOk P w K mg base CX k f fd ps sp)
    (h : ∀ vs H Q E, sp' vs H Q E → sp vs H Q E) : FnOk P w K mg base CX k f fd ps sp' :=
  ⟨fun vs H Q E q => F.len vs H Q E (h _ _ _ _ q), fun A outer s H args us vs Q E hr he hb hv hs => F.run A outer s H args us vs Q E hr he hb hv (h _ _ _ _ hs)⟩

theorem Env0.make {P : Program} {w : World} {K : PySem.W.Frag} {mg : Str → Option Value} {base : Heap} {A : Around} {outer : List Env} {s : Shared} {H : Hp} (e : Env0 P w K mg base A outer s H) (C : Addr) (us : List Value) (kw : List (Str × Value)) :
    Env0 P w K mg base (A.under (.builtin "type.__call__" ⟨.ref C :: us, kw⟩)) outer s H := ⟨by first | exact e.frames | (simpa [Around.under, Code.envs, Code.isFrame, pushEnvs] using e.frames), e.mod, e.bs, e.bsz, e.funs, e.frf, e.hok, e.bare⟩
theorem Env0.in1 {P : Program} {w : World} {K : PySem.W.Frag} {mg : Str → Option Value} {base : Heap} {A : Around} {outer : List Env} {s : Shared} {H : Hp} (e : Env0 P w K mg base A outer s H) :
    Env0 P w K mg base A.in1 outer s H := ⟨e.frames, e.mod, e.bs, e.bsz, e.funs, e.frf, e.hok, e.bare⟩

section
variable {X : Cx} {pins : List (Addr × Obj)} {σ : St} {H : Hp} {s s' : Shared}

theorem Inv.env0 (I : Inv X pins σ H s) : Env0 X.prog X.w X.K X.mg X.base X.A X.stack s H :=
  ⟨I.ok.frames, I.ok.mod, I.bs, Nat.le_trans I.ok.bsz I.sz, I.stack, I.stkFree, I.hok, I.bare⟩

theorem Inv.after {Q : VK} {u : Value} (I : Inv X pins σ H s) (h : CE X.stack X.prog X.w H s Q u s') : EP X pins σ Q u s' := by
  obtain ⟨v, H', os, bare, un, hok, r, q⟩ := h
  obtain ⟨hh, g, d, t, os'⟩ := s'
  obtain rfl : os' = s.os := os
  exact ⟨v, H', I.call (h' := hh) (g' := g) (d' := d) (t' := t) (ch := []) un hok bare (fun b z => absurd z (by simp)), r, q⟩
end



def tCall (sp : Sp) (dvs : List V) (E : XK) (t : TA) : TE := fun σ H Q => t σ H fun vs H1 => sp (vs ++ dvs) H1 Q E

def tMeth (C : Addr) (m : Str) (sp : Sp) (dvs : List V) (E : XK) (ta : TE) (t : TA) : TE := fun σ H Q => ta σ H fun x H1 => ∃ a dx fs, x = .ref a ∧ H1 a = some (.ins C dx fs) ∧ fs.lookup m = none ∧
  t σ H1 fun vs H2 => sp (x :: (vs ++ dvs)) H2 Q E

def tMake (C : Addr) (sp : Sp) (dvs : List V) (E : XK) (t : TA) : TE := fun σ H Q => t σ H fun vs H1 => ∀ x dx, H1 x = none → H1 dx = none → dx ≠ x →
  sp (.ref x :: (vs ++ dvs)) (upd (upd H1 dx (.own x)) x (.ins C dx [])) (fun v H2 => v = .non ∧ Q (.ref x) H2) E


def Binds (K : PySem.W.Frag) (fd : FuncData) (ps : List Str) (ds : List Value) : Prop :=
  ∀ (s : Shared) (us : List Value), K.In s.heap → (us ++ ds).length = ps.length → BindsTo s fd ⟨us, []⟩ (ps.zip (us ++ ds))

theorem Binds.all {K : PySem.W.Frag} {fd : FuncData} {ps : List Str} (h : ∀ us : List Value, us.length = ps.length → bindArgs fd ⟨us, []⟩ = pure (ps.zip us)) : Binds K fd ps [] := fun s us _ hl => by
  rw [List.append_nil] at hl ⊢
  exact .of_eq (h us hl)


def Passes (CX : CXT) (X : Cx) (E : XK) : Prop := ∀ (pins : List (Addr × Obj)) (σ : St) (H : Hp) (s : Shared) (e : Value) (s' : Shared), Inv X pins σ H s → CX X.stack H s E e s' → X.xe e s'

section
variable {X : Cx} {CX : CXT} {k : Nat} {f C : Addr} {fd : FuncData} {ps : List Str} {sp : Sp} {dvs : List V} {ds : List Value} {E : XK} {x m : Str} {p pos apos : Pos} {e o : Expr} {es : List Expr} {ta : TE} {t : TA}


theorem run_fn {pins : List (Addr × Obj)} {σ : St} {H : Hp} {s : Shared} {Q : VK} {us : List Value} {vs : List V} (F : FnOk X.prog X.w X.K X.mg X.base CX k f fd ps sp) (hr : Room k X.A) (hb : Binds X.K fd ps ds) (hd : Vals dvs ds) (hx : Passes CX X E)
    (I : Inv X pins σ H s) (r : Vals vs us) (h : sp (vs ++ dvs) H Q E) : wpAny (model X.prog X.w) X.A (call (.ref f) us) (EP X pins σ Q) X.xe s := by
  have r2 : Vals (vs ++ dvs) (us ++ ds) := r.append hd
  have hl : (us ++ ds).length = ps.length := by rw [← r2.length]; exact F.len _ _ _ _ h
  refine wpAny_call (codeAny_mono (F.run X.A X.stack s H ⟨us, []⟩ (us ++ ds) (vs ++ dvs) Q E hr I.env0 (hb s us I.kIn hl) r2 h) fun r s' hq => ?_)
  cases r with
  | error e => exact hx pins σ H s e s' I hq
  | ok fl =>
    cases fl with
    | ret u => exact I.after hq
    | next => exact False.elim hq
    | brk => exact False.elim hq
    | cont => exact False.elim hq

theorem pe_call (F : FnOk X.prog X.w X.K X.mg X.base CX k f fd ps sp) (hr : Room k X.A) (hg : Gl X x) (hm : X.mg x = some (.ref f)) (hk : PySem.W.keepIn X.K (.ref f) = true) (hb : Binds X.K fd ps ds) (hd : Vals dvs ds) (hx : Passes CX X E)
    (ha : PA X (e :: es) t) (hdb : (x == ("__debug__" : Str)) = false := by decide) (he : starEach (e :: es) X.env = (false, eval e X.env) :: starEach es X.env := by rfl) (hpl : (backTo pos (starEach es X.env)).any (·.1) = false := by rfl) :
    PE X (.Call (.Name x p) (e :: es) [] pos) (tCall sp dvs E t) := by
  intro pins s σ H Q I h
  refine wpAny_Call_Name_kw (ld_glob I hg hm ?_ hdb)
  refine PySem.W.callWith_K (h₀ := X.base) I.ok.mod.kin hk (thn (ha pos pins s σ H _ I h) fun us s1 ⟨vs, H1, I1, r, q⟩ => ⟨I1.kIn, ?_⟩) he hpl
  exact run_fn F hr hb hd hx I1 r q
theorem pe_meth {pl : Sem Bool} (he : PE X o ta) (c : Cls X.K C) (hm : Meth X.K C m f) (F : FnOk X.prog X.w X.K X.mg X.base CX k f fd ps sp) (hr : Room k X.A) (hb : Binds X.K fd ps ds) (hd : Vals dvs ds) (hx : Passes CX X E) (ha : PA X (e :: es) t)
    (hst : starEach (e :: es) X.env = (false, eval e X.env) :: starEach es X.env := by rfl) (hpl : (backTo pos (starEach es X.env)).any (·.1) = false := by rfl)
    (ht : eval (.Call (.Attribute o m apos) (e :: es) [] pos) X.env = (do
      let ov ← eval o X.env
      standAt apos.atName
      let (f, first) ← holding [ov] (getMethod ov m pl)
      callWith pos f first (backTo pos (starEach (e :: es) X.env)) (backToKw pos (keywordEach [] X.env))) := by rfl) :
    PE X (.Call (.Attribute o m apos) (e :: es) [] pos) (tMeth C m sp dvs E ta t) := by
  intro pins s σ H Q I h
  refine PySem.W.methodCall_KW (pl := pl) (thn (he pins s σ H _ I h) fun u s1 ⟨x, H1, I1, rx, a, dx, fs, ex, ea, l, q⟩ => ?_) ht
  subst ex
  obtain rfl : u = Value.ref a := rx
  refine getmeth_ok I1 ea c hm l ?_
  refine PySem.W.callWith_K (first := [.ref a]) (h₀ := X.base) I.ok.mod.kin hm.kp (thn (ha pos pins s1 σ H1 _ I1 q) fun us s2 ⟨vs, H2, I2, r, q2⟩ => ⟨I2.kIn, ?_⟩) hst hpl
  exact run_fn (us := .ref a :: us) (vs := .ref a :: vs) F hr hb hd hx I2 (.cons rfl r) q2

structure Mk (K : PySem.W.Frag) (C f : Addr) : Prop where
  makes : PySem.W.makesIn K C = true
  init : PySem.W.findIn K (.ref C) "__init__" = some (some (.ref f))
  fn : PySem.W.isFn K (.ref f) = true
  kp : PySem.W.keepIn K (.ref C) = true

theorem run_make {pins : List (Addr × Obj)} {σ : St} {H : Hp} {s : Shared} {Q : VK} {us : List Value} {vs : List V} (M : Mk X.K C f) (F : FnOk X.prog X.w X.K X.mg X.base CX k f fd ps sp) (hr : Room (k + 1) X.A) (hb : Binds X.K fd ps ds) (hd : Vals dvs ds)
    (hx : Passes CX X E) (I : Inv X pins σ H s) (r : Vals vs us)
    (h : ∀ x dx, H x = none → H dx = none → dx ≠ x → sp (.ref x :: (vs ++ dvs)) (upd (upd H dx (.own x)) x (.ins C dx [])) (fun v H2 => v = .non ∧ Q (.ref x) H2) E) :
    wpAny (model X.prog X.w) X.A (call (.ref C) us) (EP X pins σ Q) X.xe s := by
  have hq := h (s.heap.objs.size + 1) s.heap.objs.size (I.hok.fresh (Nat.le_succ _)) (I.hok.fresh (Nat.le_refl _)) (Nat.ne_of_lt (Nat.lt_succ_self _))
  have I2 := Inv.made (C := C) I
  have r2 : Vals (V.ref (s.heap.objs.size + 1) :: (vs ++ dvs)) (Value.ref (s.heap.objs.size + 1) :: (us ++ ds)) := .cons rfl (r.append hd)
  have hl : (Value.ref (s.heap.objs.size + 1) :: us ++ ds).length = ps.length := by
    have e := r2.length
    rw [F.len _ _ _ _ hq] at e
    exact e.symm
  refine wpAny_call (make_map (f := f) I.kIn M.makes M.init (beq_iff_eq.mp M.fn) (codeAny_mono (F.run _ X.stack _ _ ⟨Value.ref (s.heap.objs.size + 1) :: us, []⟩ (Value.ref (s.heap.objs.size + 1) :: (us ++ ds)) _ _ E (hr.make C us [])
    (I2.env0.make C us []) (hb _ (Value.ref (s.heap.objs.size + 1) :: us) I2.kIn hl) r2 hq) fun r s' hq' => ?_))
  cases r with
  | error e => exact hx pins σ _ _ e s' I2 hq'
  | ok fl =>
    cases fl with
    | ret u =>
      obtain ⟨v, H', I3, rv, ev, q3⟩ := I2.after hq'
      subst ev
      exact ⟨rv, ⟨V.ref (s.heap.objs.size + 1), H', I3, rfl, q3⟩⟩
    | next => exact False.elim hq'
    | brk => exact False.elim hq'
    | cont => exact False.elim hq'
theorem pe_make (M : Mk X.K C f) (F : FnOk X.prog X.w X.K X.mg X.base CX k f fd ps sp) (hr : Room (k + 1) X.A) (hg : Gl X x) (hm : X.mg x = some (.ref C)) (hb : Binds X.K fd ps ds) (hd : Vals dvs ds) (hx : Passes CX X E)
    (ha : PA X (e :: es) t) (hdb : (x == ("__debug__" : Str)) = false := by decide) (he : starEach (e :: es) X.env = (false, eval e X.env) :: starEach es X.env := by rfl) (hpl : (backTo pos (starEach es X.env)).any (·.1) = false := by rfl) :
    PE X (.Call (.Name x p) (e :: es) [] pos) (tMake C sp dvs E t) := by
  intro pins s σ H Q I h
  refine wpAny_Call_Name_kw (ld_glob I hg hm ?_ hdb)
  refine PySem.W.callWith_K (h₀ := X.base) I.ok.mod.kin M.kp (thn (ha pos pins s σ H _ I h) fun us s1 ⟨vs, H1, I1, r, q⟩ => ⟨I1.kIn, ?_⟩) he hpl
  exact run_make M F hr hb hd hx I1 r q
end



section
variable {X : Cx} {CX : CXT} {k : Nat} {f C : Addr} {fd : FuncData} {ps ks : List Str} {sp : Sp} {E : XK} {x m : Str} {p pos apos kpos : Pos} {e o : Expr} {es : List Expr} {kws : List Keyword} {te ta : TE} {t tk : TA} {nm : Option Str}
variable {g : List Value → List Value → List Value} {gV : List V → List V → List V}
end



structure FnScope (N P : List Str) (sc : Scope) : Prop where
  kind : sc.kind = .function
  co : sc.isCoroutine = false
  gen : sc.isGenerator = false
  nd : N.Nodup
  pre : N.take P.length = P
  par : ∀ x ∈ P, sc.names.lookup x = some .local ∨ sc.names.lookup x = some .cell
  nofree : ∀ y ∈ sc.names, y.2 ≠ .free

theorem bindL_out {kindOf : Str → Option NameKind} {x : Str} : ∀ {binds : List (Str × Value)} {m : Str → Option Value}, (∀ v, (x, v) ∉ binds) → bindL kindOf binds m x = m x
  | [], _, _ => rfl
  | (n, v) :: r, m, h => by
    unfold bindL
    rw [bindL_out fun w hw => h w (List.mem_cons_of_mem _ hw)]
    split
    · have : x ≠ n := by rintro rfl; exact h v List.mem_cons_self
      simp [this]
    · rfl
theorem bindC_out {kindOf : Str → Option NameKind} {x : Str} : ∀ {binds : List (Str × Value)} {m : Str → Option Value}, (∀ v, (x, v) ∉ binds) → bindC kindOf binds m x = m x
  | [], _, _ => rfl
  | (n, v) :: r, m, h => by
    unfold bindC
    rw [bindC_out fun w hw => h w (List.mem_cons_of_mem _ hw)]
    split
    · rfl
    · have : x ≠ n := by rintro rfl; exact h v List.mem_cons_self
      simp [this]
theorem bindL_get {kindOf : Str → Option NameKind} {x : Str} {v : Value} : ∀ {P : List Str} {vs : List Value} {i : Nat} {m : Str → Option Value}, P.Nodup → P[i]? = some x → vs[i]? = some v → kindOf x = some .local →
    bindL kindOf (P.zip vs) m x = some v
  | [], _, _, _, _, h, _, _ => by simp at h
  | _ :: _, [], _, _, _, _, h, _ => by simp at h
  | p :: P, w :: vs, 0, m, nd, h1, h2, hk => by
    simp at h1 h2; subst h1; subst h2
    show bindL kindOf ((p, w) :: P.zip vs) m p = _
    unfold bindL
    rw [bindL_out fun v hv => (List.nodup_cons.mp nd).1 (List.of_mem_zip hv).1, if_pos hk]
    simp
  | p :: P, w :: vs, i + 1, m, nd, h1, h2, hk => by
    show bindL kindOf ((p, w) :: P.zip vs) m x = _
    unfold bindL
    exact bindL_get (i := i) (List.nodup_cons.mp nd).2 (by simpa using h1) (by simpa using h2) hk
theorem bindC_get {kindOf : Str → Option NameKind} {x : Str} {v : Value} : ∀ {P : List Str} {vs : List Value} {i : Nat} {m : Str → Option Value}, P.Nodup → P[i]? = some x → vs[i]? = some v → kindOf x ≠ some .local →
    bindC kindOf (P.zip vs) m x = some v
  | [], _, _, _, _, h, _, _ => by simp at h
  | _ :: _, [], _, _, _, _, h, _ => by simp at h
  | p :: P, w :: vs, 0, m, nd, h1, h2, hk => by
    simp at h1 h2; subst h1; subst h2
    show bindC kindOf ((p, w) :: P.zip vs) m p = _
    unfold bindC
    rw [bindC_out fun v hv => (List.nodup_cons.mp nd).1 (List.of_mem_zip hv).1, if_neg hk]
    simp
  | p :: P, w :: vs, i + 1, m, nd, h1, h2, hk => by
    show bindC kindOf ((p, w) :: P.zip vs) m x = _
    unfold bindC
    exact bindC_get (i := i) (List.nodup_cons.mp nd).2 (by simpa using h1) (by simpa using h2) hk


def start (N : List Str) (vs : List V) : St := vs.map some ++ List.replicate (N.length - vs.length) none


def cxOf (CX : CXT) (P : Program) (w : World) (K : PySem.W.Frag) (mg : Str → Option Value) (base : Heap) (N : List Str) (qual : Str) (scope : Scope) (f : Addr) (cd : Value) (A : Around) (outer : List Env) (s : Shared) (H : Hp) (E : XK) : Cx where
  prog := P
  w := w
  K := K
  mg := mg
  base := base
  A := A.deeper (envOfC qual scope s.heap.objs.size f cd)
  N := N
  s₀ := s
  H₀ := H
  env := envOfC qual scope s.heap.objs.size f cd
  outer := outer
  stack := envOfC qual scope s.heap.objs.size f cd :: outer
  ex := []
  calm := true
  fn := fun _ => true
  pn := []
  xe := fun e s' => wpAny (model P w) (A.deeper (envOfC qual scope s.heap.objs.size f cd)) (leaving (envOfC qual scope s.heap.objs.size f cd) e) (fun _ s'' => CX outer H s E e s'') (fun e' s'' => CX outer H s E e' s'') s'

theorem cell_has {sc : Scope} {n : Nat} {x : Str} (h : sc.names.lookup x = some .cell) : ∃ c, (cellsFrom n sc.names []).lookup x = some c := by
  have q := PySem.W.cellsFrom_some sc.names n [] (.inl h)
  exact Option.isSome_iff_exists.mp q

theorem inv_start {CX : CXT} {P : Program} {w : World} {K : PySem.W.Frag} {mg : Str → Option Value} {base : Heap} {N ps : List Str} {qual : Str} {scope : Scope} {f : Addr} {cd : Value} {A : Around} {outer : List Env} {s s1 : Shared} {H : Hp} {E : XK} {us : List Value} {vs : List V}
    (S : FnScope N ps scope) (hd : A.handled = none) (e0 : Env0 P w K mg base A outer s H) (hl : vs.length = ps.length) (r : Vals vs us)
    (x : InCallC s s.heap.objs.size (bindL (envOfC qual scope s.heap.objs.size f cd).kindOf (ps.zip us) fun _ => none) (cellsFrom (s.heap.objs.size + 1) scope.names []) (bindC (envOfC qual scope s.heap.objs.size f cd).kindOf (ps.zip us) fun _ => none) s1) :
    Inv (cxOf CX P w K mg base N qual scope f cd A outer s H E) [] (start N vs) H s1 := by
  have hpl : ps.length ≤ N.length := by have := congrArg List.length S.pre; rw [List.length_take] at this; omega
  obtain ⟨h1, tk, rfl, hk⟩ := x.done
  have noA : ∀ b : Addr, b ∉ (cxOf CX P w K mg base N qual scope f cd A outer s H E).ex := fun b z => absurd (show b ∈ ([] : List Addr) from z) (by simp)
  refine ⟨⟨e0.mod, S.kind, rfl, rfl, Nat.le_refl _, fun y z c h1 h2 => ?_, fun y hy => ?_, fun y c _ h => ?_, fun _ => hd, Around.frames_deeper e0.frames, .inr ⟨rfl, rfl⟩, fun b z => absurd z (noA b), e0.bs, e0.bsz, fun b _ _ => noA b, fun b z => absurd z (noA b), e0.funs, e0.frf⟩,
    rfl, e0.bare, Un.kept hk, ⟨_, x.toInCall.ns, fun i y v h1 h2 h3 => ?_⟩, fun y c h => ⟨_, x.cell y c h⟩, e0.hok.fresh (Nat.le_refl _), fun y c h => ?_, fun p hp => absurd (show p ∈ ([] : List (Addr × Obj)) from hp) (by simp), e0.hok.kept hk, ?_⟩
  · exact name_of_addr x.apart (PySem.mem_of_lookup h1) (PySem.mem_of_lookup h2)
  · have hy : scope.names.lookup y = some .cell ∨ scope.names.lookup y = some .free := hy
    rcases hy with hy | hy
    · exact cell_has hy
    · exact absurd rfl (S.nofree _ (PySem.mem_of_lookup hy))
  · exact Nat.le_of_lt (x.above y c (PySem.mem_of_lookup h))
  · have hi : i < vs.length := by
      unfold start at h2
      by_cases hi : i < vs.length
      · exact hi
      · rw [List.getElem?_append_right (by simpa using hi)] at h2
        rw [List.getElem?_replicate] at h2
        split at h2 <;> cases h2
    have ha : vs[i]? = some v := by
      unfold start at h2
      rw [List.getElem?_append_left (by simpa using hi), List.getElem?_map] at h2
      cases e : vs[i]? with
      | none => rw [e] at h2; cases h2
      | some a => rw [e] at h2; cases h2; rfl
    obtain ⟨u, hu, rv⟩ := r.get ha
    have hp : ps[i]? = some y := by
      rw [← S.pre, List.getElem?_take_of_lt (by omega)]; exact h1
    have ndP : ps.Nodup := by rw [← S.pre]; exact S.nd.sublist (List.take_sublist _ _)
    refine ⟨u, rv, ?_⟩
    rcases S.par y (List.mem_of_getElem? hp) with k | k
    · exact .inl ⟨k, bindL_get ndP hp hu k⟩
    · obtain ⟨c, e⟩ := cell_has (n := s.heap.objs.size + 1) k
      refine .inr ⟨.inl k, c, e, ?_⟩
      have q := x.cell y c e
      rw [bindC_get ndP hp hu (by show scope.names.lookup y ≠ _; rw [k]; decide)] at q
      exact q
  · exact e0.hok.fresh (Nat.le_of_lt (x.above y c (PySem.mem_of_lookup h)))
  · unfold start
    show _ = N.length
    rw [List.length_append, List.length_map, List.length_replicate]
    omega


theorem fn_of {CX : CXT} {P : Program} {w : World} {K : PySem.W.Frag} {mg : Str → Option Value} {base : Heap} {k : Nat} {f : Addr} {name qual : Str} {params : Arguments} {body : List Stmt} {scope : Scope} {dV kV doc pm cdv ct oc : Value} {an od : Option Addr}
    {osl : Array (Option Value)} {N ps : List Str} {sp : Sp} (lk : K.lookup f = some ⟨oc, od, .func (PySem.W.fnOf name qual params body scope dV kV doc pm an cdv ct), osl⟩) (hcd : PySem.W.codeIn K cdv qual = true) (S : FnScope N ps scope)
    (len : ∀ vs H Q E, sp vs H Q E → vs.length = ps.length)
    (hbody : ∀ (A : Around) (outer : List Env) (s : Shared) (H : Hp) (vs : List V) (Q : VK) (E : XK), Room k (A.deeper (envOfC qual scope s.heap.objs.size f cdv)) → sp vs H Q E →
      ∃ t, PSs (cxOf CX P w K mg base N qual scope f cdv A outer s H E) body t ∧ t { nx := fun _ H' => Q .non H', rt := Q } (start N vs) H) :
    FnOk P w K mg base CX (k + 1) f (PySem.W.fnOf name qual params body scope dV kV doc pm an cdv ct) ps sp := by
  refine ⟨len, fun A outer s H args us vs Q E hr e0 hb r hsp => ?_⟩
  have hl := len _ _ _ _ hsp
  have KX : K.In s.heap := e0.mod.kin.keeps fun b o e => (e0.bs b o e).1
  have lim : s.heap.NoLimit := e0.mod.nolimit.keeps fun b o e => (e0.bs b o e).1
  have hkind : ∀ y ∈ ps.zip us, scope.names.lookup y.1 = some .local ∨ (scope.names.lookup y.1 = some .cell ∧ ((cellsFrom (s.heap.objs.size + 1) scope.names []).lookup y.1).isSome = true) := fun ⟨n, v⟩ hy => by
    rcases S.par n (List.of_mem_zip hy).1 with q | q
    · exact .inl q
    · exact .inr ⟨q, PySem.W.cellsFrom_some _ _ _ (.inl q)⟩
  refine codeAny_call_function hr.depth (KX _ _ lk) rfl S.co S.gen rfl (PySem.W.codeRec_of KX hcd) (hb _ _ _ _ ?_)
  refine wpAny_newFunctionEnv_cells S.kind hkind fun env he s1 x => ?_
  subst he
  refine ⟨lim.keeps x.toInCall.keep, codeAny_func ?_⟩
  obtain ⟨t, ht, hq⟩ := hbody A outer s H vs Q E (hr.deeper _) hsp
  have I : Inv (cxOf CX P w K mg base N qual scope f cdv A outer s H E) [] (start N vs) H s1 := inv_start S hr.hd e0 hl r x
  refine wpAny_mono (ht [] s1 (start N vs) H _ I hq) (fun fl s' hs => ?_) fun e s' hs => hs
  have fin : ∀ {σ' : St} {H' : Hp} {v : V} {u : Value}, Inv (cxOf CX P w K mg base N qual scope f cdv A outer s H E) [] σ' H' s' → RelV v u → Q v H' → CE outer P w H s Q u s' :=
    fun {σ' H' v u} J rv q => ⟨v, H', J.os, J.bare, J.base, J.hok, rv, q⟩
  cases fl with
  | ret u =>
    obtain ⟨v, σ', H', J, rv, q⟩ := hs
    exact fin J rv q
  | next =>
    obtain ⟨σ', H', J, q⟩ := hs
    exact fin (v := V.non) (u := Value.none) J rfl q
  | brk =>
    obtain ⟨_, _, _, q⟩ := hs
    exact False.elim q
  | cont =>
    obtain ⟨_, _, _, q⟩ := hs
    exact False.elim q
end L2

namespace L2
open PySem PySem.Spec PyProof.Rows
section
variable {X : Cx} {x : Str} {p pos : Pos} {e : Expr} {es : List Expr} {t : TA} {id T : String} {r : List V → Hp → VK → Prop}

def tCB (r : List V → Hp → VK → Prop) (t : TA) : TE := fun σ H Q => t σ H fun vs H1 => r vs H1 Q

theorem pe_callB (hc : CallR X (.builtin id) r) (hg : Gl X x) (hm : X.mg x = none) (hv : bootBuiltins x = some (.builtin id)) (ha : PA X (e :: es) t) (hn : x ≠ "__name__" := by decide) (hdb : (x == ("__debug__" : Str)) = false := by decide)
    (he : starEach (e :: es) X.env = (false, eval e X.env) :: starEach es X.env := by rfl) (hpl : (backTo pos (starEach es X.env)).any (·.1) = false := by rfl) : PE X (.Call (.Name x p) (e :: es) [] pos) (tCB r t) := by
  intro pins s σ H Q I h
  refine wpAny_Call_Name_kw (ld_blt I hg hm hv ?_ hn hdb)
  exact PyProof.Rows.callWith_builtin1 (thn (ha pos pins s σ H _ I h) fun us s1 ⟨vs, H1, I1, r1, q1⟩ => hc pins s1 σ H1 vs us Q I1 r1 q1) he hpl

theorem pe_callTy (hc : CallR X (.type T) r) (hg : Gl X x) (hm : X.mg x = none) (hv : bootBuiltins x = some (.type T)) (ha : PA X (e :: es) t) (hn : x ≠ "__name__" := by decide) (hdb : (x == ("__debug__" : Str)) = false := by decide)
    (he : starEach (e :: es) X.env = (false, eval e X.env) :: starEach es X.env := by rfl) (hpl : (backTo pos (starEach es X.env)).any (·.1) = false := by rfl) : PE X (.Call (.Name x p) (e :: es) [] pos) (tCB r t) := by
  intro pins s σ H Q I h
  refine wpAny_Call_Name_kw (ld_blt I hg hm hv ?_ hn hdb)
  exact PyProof.Rows.callWith_type1 (thn (ha pos pins s σ H _ I h) fun us s1 ⟨vs, H1, I1, r1, q1⟩ => hc pins s1 σ H1 vs us Q I1 r1 q1) he hpl

end
end L2

namespace HT
open PySem PyProof.Rows


section
open PySem.SeqAt
open PySem.AutoSeq1 (wpAny_loadPart')
open PySem.MeetsSeq PySem.MeetsSeq2 PySem.MeetsSeq3

end

section
variable {prog : Program} {w : World} {A : Around} {E : Value → Shared → Prop} {s : Shared}

theorem cat_tup {t b : Addr} {vs ws : List Value} {Q : Value → Shared → Prop} (ht : IsTup s.heap t vs.toArray) (hb : IsTup s.heap b ws.toArray) (hv : vs ≠ [])
    (h1 : ws = [] → Q (.ref t) s) (h2 : ws ≠ [] → Q (.ref s.heap.objs.size) { s with heap := s.heap.push { cls := .type "tuple", data := .seq (vs ++ ws).toArray } })
    (hsz : vs.length + ws.length ≤ sizeLine) : wpAny (model prog w) A (binaryOp .Add (.ref t) (.ref b)) Q E s := by
  obtain ⟨⟨cls, dd, data, sl⟩, ho, hc, n, hd⟩ := id ht
  obtain ⟨⟨cls2, dd2, data2, sl2⟩, ho2, hc2, n2, hd2⟩ := id hb
  simp only at hc hd hc2 hd2
  subst hc hd hc2 hd2
  have e : vs.toArray ++ ws.toArray = (vs ++ ws).toArray := by simp
  by_cases hw : ws = []
  · exact concat_meets ⟨_, ho, rfl⟩ ⟨_, ho2, rfl⟩ noFill_tuple_add seq_tuple_add PySem.F.slot_tuple_add PySem.F.entry_tuple_add (PySem.F.args_tuple_add_2 _ _)
      (tuple_addW1 t b vs.toArray ws.toArray n n2 dd dd2 sl sl2 (by simpa using hv) (by simp [hw])) ⟨ho, ho2, h1 hw⟩
  · refine concat_meets ⟨_, ho, rfl⟩ ⟨_, ho2, rfl⟩ noFill_tuple_add seq_tuple_add PySem.F.slot_tuple_add PySem.F.entry_tuple_add (PySem.F.args_tuple_add_2 _ _)
      (tuple_addW2 t b vs.toArray ws.toArray n n2 dd dd2 sl sl2 (by simpa using hv) (by simpa using hw) (by rw [List.size_toArray, List.size_toArray]; exact hsz)) ⟨ho, ho2, ?_⟩
    rw [e]
    exact h2 hw



def sIx (n d : Nat) : Option Int → Nat
  | none => d
  | some v => if v < 0 then (v + (n : Int)).toNat else min v.toNat n
theorem sIx_none (n d : Nat) : sIx n d none = d := rfl
theorem sIx_le (n d : Nat) (hd : d ≤ n) (o : Option Int) : sIx n d o ≤ n := by
  cases o with
  | none => exact hd
  | some v =>
    show (if v < 0 then (v + (n : Int)).toNat else min v.toNat n) ≤ n
    by_cases hv : v < 0
    · rw [if_pos hv]; omega
    · rw [if_neg hv]; exact Nat.min_le_right _ _
theorem clip_eq (v : Int) (n d : Nat) : (if v < 0 then max (v + (n : Int)) 0 else min v (n : Int)) = ((sIx n d (some v) : Nat) : Int) := by
  show (if v < 0 then max (v + (n : Int)) 0 else min v (n : Int)) = (((if v < 0 then (v + (n : Int)).toNat else min v.toNat n) : Nat) : Int)
  by_cases hv : v < 0
  · simp only [if_pos hv]; omega
  · simp only [if_neg hv]; omega
theorem adjust_gen (lo hi : Option Int) (n : Nat) : Builtin.Slice.sliceAdjust lo hi 1 (n : Int) = (((sIx n 0 lo : Nat) : Int), ((sIx n n hi : Nat) : Int)) := by
  have h1 : ¬ ((1 : Int) < 0) := by omega
  unfold Builtin.Slice.sliceAdjust
  simp only [h1, if_false]
  refine Prod.ext ?_ ?_
  · cases lo with
    | none => rfl
    | some v => exact clip_eq v n 0
  · cases hi with
    | none => rfl
    | some v => exact clip_eq v n n
theorem places_gen (i j : Nat) : Builtin.Slice.slicePlaces (i : Int) (j : Int) 1 = j - i := by
  unfold Builtin.Slice.slicePlaces
  have h1 : (1 : Int) > 0 := by omega
  simp only [h1, if_true, Int.ediv_one]
  split <;> omega
theorem slicePart_ {v : Value} {o : Option Int} {Q : Option Int → Shared → Prop} (p : IsPart v o) (h : Q o s) : wpAny (model prog w) A (Builtin.Slice.slicePartIndex v) Q E s := by
  cases p with
  | none => exact slicePart_none h
  | int i t => exact slicePart_int h
theorem sliceApplied_gen {sl : Addr} {vl vu : Value} {lo hi : Option Int} {n : Nat} {Q : Int × Int × Nat → Shared → Prop} (hs : s.heap.IsSliceOf sl vl vu .none) (pl : IsPart vl lo) (pu : IsPart vu hi)
    (h : Q (((sIx n 0 lo : Nat) : Int), 1, sIx n n hi - sIx n 0 lo) s) : wpAny (model prog w) A (Builtin.Slice.sliceApplied (.ref sl) (pure (n : Int))) Q E s := by
  obtain ⟨os, hos, hcs, hds⟩ := id hs
  unfold Builtin.Slice.sliceApplied Builtin.Slice.sliceFields
  refine wpAny_bind (wpAny_bind (wpAny_field hos hds (x := vl) rfl (wpAny_bind (wpAny_field hos hds (x := vu) rfl (wpAny_bind (wpAny_field hos hds (x := .none) rfl (wpAny_pure ?_)))))))
  refine wpAny_bind (slicePart_none ?_)
  show wpAny _ _ (if ((1 : Int) == 0) = true then _ else _) _ _ s
  rw [if_neg (by decide)]
  refine wpAny_bind (slicePart_ pl (wpAny_bind (slicePart_ pu (wpAny_bind (wpAny_pure ?_)))))
  show wpAny _ _ (match Builtin.Slice.sliceAdjust lo hi 1 (n : Int) with | (lo, hi) => pure (lo, (1 : Int), Builtin.Slice.slicePlaces lo hi 1)) _ _ s
  rw [adjust_gen lo hi n]
  show wpAny _ _ (pure (((sIx n 0 lo : Nat) : Int), (1 : Int), Builtin.Slice.slicePlaces ((sIx n 0 lo : Nat) : Int) ((sIx n n hi : Nat) : Int) 1)) _ _ s
  rw [places_gen]
  exact wpAny_pure h
theorem pick_gen (xs : Array Value) (i k : Nat) : ((List.range k).filterMap fun (m : Nat) => xs[((i : Int) + (m : Int) * 1).toNat]?).toArray = ((xs.toList.drop i).take k).toArray := by
  have e : (fun (m : Nat) => xs[((i : Int) + (m : Int) * 1).toNat]?) = fun m => xs[i + m]? := by
    funext m
    have : ((i : Int) + (m : Int) * 1).toNat = i + m := by omega
    rw [this]
  rw [e]
  have := pick_run xs i k
  rw [List.filterMap_map] at this
  have e2 : ((fun x => xs[x]?) ∘ fun x => i + x) = fun m => xs[i + m]? := rfl
  rw [e2] at this
  rw [this]

theorem getItem_tuple_cut {t sl : Addr} {items : Array Value} {vl vu : Value} {lo hi : Option Int} {Q : Value → Shared → Prop} (ht : IsTup s.heap t items) (hs : s.heap.IsSliceOf sl vl vu .none) (pl : IsPart vl lo) (pu : IsPart vu hi)
    (hw : ¬ (sIx items.size 0 lo = 0 ∧ sIx items.size items.size hi = items.size))
    (h : Q (.ref s.heap.objs.size) { s with heap := s.heap.push { cls := .type "tuple", data := .seq ((items.toList.drop (sIx items.size 0 lo)).take (sIx items.size items.size hi - sIx items.size 0 lo)).toArray } })
    (hsz : items.size ≤ sizeLine) : wpAny (model prog w) A (getItem (.ref t) (.ref sl)) Q E s := by
  have htake : sizeOk (.seq ((items.toList.drop (sIx items.size 0 lo)).take (sIx items.size items.size hi - sIx items.size 0 lo)).toArray) := by
    show ((items.toList.drop (sIx items.size 0 lo)).take (sIx items.size items.size hi - sIx items.size 0 lo)).toArray.size ≤ sizeLine
    rw [List.size_toArray, List.length_take, List.length_drop, Array.length_toList]
    omega
  have hj : sIx items.size items.size hi ≤ items.size := sIx_le _ _ (Nat.le_refl _) hi
  obtain ⟨os, hos, hcs, hds⟩ := id hs
  have hTs : s.TypeIs (.ref sl) "slice" := ⟨os, hos, hcs⟩
  unfold getItem
  try with_reducible refine wpAny_holding ?_
  first | refine wpAny_bind (wpAny_pure ?_) | skip
  refine wpAny_bind (wpAny_sequenceKey ht.typeIs (by decide) ?_)
  refine wpAny_bind (wpAny_callSpecial?_slot (name := Str.ofString "__getitem__") ht.typeIs PyProof.Rows.slot_tuple_getitem
    (wpAny_call_entry PyProof.Rows.slot_tuple_getitem ht.typeIs entry_tuple_getitem ?_ (args_tuple_getitem _ _)))
  show wpAny _ _ (Builtin.Tuple.tupleItemsOf (.ref t) >>= _) _ _ s
  refine wpAny_bind (tupleItemsOf_ ht ?_)
  refine wpAny_bind (wpAny_typeOf hTs ?_)
  rw [if_pos (by decide)]
  refine wpAny_bind (sliceApplied_gen hs pl pu ?_)
  have hno : ¬ ((((sIx items.size 0 lo : Nat) : Int) == 0 && (1 : Int) == 1 && (sIx items.size items.size hi - sIx items.size 0 lo) == items.size) = true) := by
    intro q
    rw [Bool.and_eq_true, Bool.and_eq_true] at q
    have q1 : ((sIx items.size 0 lo : Nat) : Int) = 0 := eq_of_beq q.1.1
    have q2 : sIx items.size items.size hi - sIx items.size 0 lo = items.size := eq_of_beq q.2
    exact hw ⟨by omega, by omega⟩
  show wpAny _ _ (if (((sIx items.size 0 lo : Nat) : Int) == 0 && (1 : Int) == 1 && (sIx items.size items.size hi - sIx items.size 0 lo) == items.size) = true then _ else _) _ _ s
  rw [if_neg hno, pick_gen]
  first
    | exact wpAny_bind (m := Builtin.Tuple.tupleExact _) (wpAny_newObj_type (wpAny_pure ⟨_, rfl, wpAny_pure h⟩) htake)
    | exact wpAny_bind (m := Builtin.Tuple.tupleExact _) (wpAny_newObj_type (wpAny_bind (wpAny_pure (wpAny_pure ⟨_, rfl, wpAny_pure h⟩))) htake)
    | exact wpAny_bind (wpAny_bind (m := Builtin.Tuple.tupleExact _) (wpAny_newObj_type (wpAny_pure (wpAny_pure ⟨_, rfl, wpAny_pure h⟩)) htake))
    | exact wpAny_bind (wpAny_bind (m := Builtin.Tuple.tupleExact _) (wpAny_newObj_type (wpAny_pure ⟨_, rfl, wpAny_pure h⟩) htake))
end
end HT

namespace L2
open PySem PySem.Spec PyProof.Rows


abbrev TO := St → Hp → (Option Int → Hp → Prop) → Prop

def PO (X : Cx) (e : Option Expr) (t : TO) : Prop :=
  ∀ (pins : List (Addr × Obj)) (s : Shared) (σ : St) (H : Hp) (Q : Option Int → Hp → Prop), Inv X pins σ H s → t σ H Q →
    wpAny (model X.prog X.w) X.A (evalPart e X.env) (fun u s' => ∃ o H', Inv X pins σ H' s' ∧ IsPart u o ∧ Q o H') X.xe s
def tNoPart : TO := fun _ H Q => Q none H
def tPart (t : TE) : TO := fun σ H Q => t σ H fun x H1 => ∃ i, x = .int i ∧ Q (some i) H1

section
variable {X : Cx} {e : Expr} {te : TE} {lo hi : Option Expr} {tl th : TO} {pos p2 : Pos}

theorem po_none : PO X none tNoPart := by
  intro pins s σ H Q I h
  rw [evalPart_none]
  exact wpAny_pure ⟨none, H, I, .none, h⟩
theorem po_some (h : PE X e te) : PO X (some e) (tPart te) := by
  intro pins s σ H Q I hw
  rw [evalPart_some]
  refine thn (h pins s σ H _ I hw) fun u s1 ⟨x, H1, I1, r1, q1⟩ => ?_
  obtain ⟨i, rfl, q⟩ := q1
  obtain ⟨t, rfl⟩ := r1
  exact ⟨some i, H1, I1, .int i t, q⟩


def SlR (X : Cx) (r : V → Option Int → Option Int → Hp → VK → Prop) : Prop :=
  ∀ (pins : List (Addr × Obj)) (s : Shared) (σ : St) (H : Hp) (x : V) (v vl vu : Value) (lo hi : Option Int) (sl : Addr) (Q : VK), Inv X pins σ H s → RelV x v → s.heap.IsSliceOf sl vl vu .none → IsPart vl lo → IsPart vu hi → r x lo hi H Q →
    ∃ T id, typeLookup (.type T) "__getitem__" = pure (some (.builtin id)) ∧ s.TypeIs v T ∧ wpAny (model X.prog X.w) X.A (getItem v (.ref sl)) (EP X pins σ Q) X.xe s
theorem SlR.or {r r' : V → Option Int → Option Int → Hp → VK → Prop} (h : SlR X r) (h' : SlR X r') : SlR X (fun x lo hi H Q => r x lo hi H Q ∨ r' x lo hi H Q) := by
  intro pins s σ H x v vl vu lo hi sl Q I rx hs pl pu q
  rcases q with q | q
  · exact h pins s σ H x v vl vu lo hi sl Q I rx hs pl pu q
  · exact h' pins s σ H x v vl vu lo hi sl Q I rx hs pl pu q
def tSl (r : V → Option Int → Option Int → Hp → VK → Prop) (te : TE) (tl th : TO) : TE := fun σ H Q => te σ H fun x H1 => tl σ H1 fun l H2 => th σ H2 fun u H3 => r x l u H3 Q

theorem pe_slice {r : V → Option Int → Option Int → Hp → VK → Prop} (hr : SlR X r) (he : PE X e te) (hl : PO X lo tl) (hu : PO X hi th) : PE X (.Subscript e (.Slice lo hi none p2) pos) (tSl r te tl th) := by
  intro pins s σ H Q I h
  refine Subscript_ (thn (he pins s σ H _ I h) fun v s1 ⟨x, H1, I1, r1, q1⟩ => ?_)
  refine wpAny_Slice (thn (hl pins s1 σ H1 _ I1 q1) fun vl s2 ⟨l, H2, I2, pl, q2⟩ => thn (hu pins s2 σ H2 _ I2 q2) fun vu s3 ⟨u, H3, I3, pu, q3⟩ => ?_)
  rw [evalPart_none]
  refine wpAny_pure ?_
  have I4 : Inv X pins σ H3 { s3 with heap := s3.heap.push { cls := .type "slice", data := .fields #[vl, vu, .none] } } := I3.kept (t' := s3.toks) fun b ob q => Heap.get?_push_of_some _ q
  obtain ⟨T, id, hT, ht, hg⟩ := hr pins { s3 with heap := s3.heap.push { cls := .type "slice", data := .fields #[vl, vu, .none] } } σ H3 x v vl vu l u s3.heap.objs.size Q I4 r1 (Heap.IsSliceOf.new ..) pl pu q3
  show wpAny (model X.prog X.w) X.A (subscriptTail e (.Slice lo hi none p2) v (.ref s3.heap.objs.size)) (EP X pins σ Q) X.xe { s3 with heap := s3.heap.push { cls := .type "slice", data := .fields #[vl, vu, .none] } }
  exact tail_any (ops := [.ref s3.heap.objs.size, v]) ht hT hg (by with_unfolding_all rfl)


def cutV (xs : List V) (lo hi : Option Int) : List V := (xs.drop (HT.sIx xs.length 0 lo)).take (HT.sIx xs.length xs.length hi - HT.sIx xs.length 0 lo)
theorem cutV_length (xs : List V) (lo hi : Option Int) : (cutV xs lo hi).length ≤ xs.length := by
  unfold cutV
  rw [List.length_take, List.length_drop]
  omega

def rSlT (K : PySem.W.Frag) : V → Option Int → Option Int → Hp → VK → Prop := fun x lo hi H Q => ∃ a xs, x = .ref a ∧ SqT K H a xs ∧
  ¬ (HT.sIx xs.length 0 lo = 0 ∧ HT.sIx xs.length xs.length hi = xs.length) ∧ ∀ p, H p = none → Q (.ref p) (upd H p (.tup (cutV xs lo hi)))
theorem sl_tup : SlR X (rSlT X.K) := by
  intro pins s σ H x v vl vu lo hi sl Q I rx hs pl pu h
  obtain ⟨a, xs, rfl, hx, hw, q⟩ := h
  cases rx
  obtain ⟨its, r, ht, hz⟩ := I.tuple hx
  have hlen : its.toArray.size = xs.length := by rw [List.size_toArray]; exact r.length.symm
  refine ⟨"tuple", _, PyProof.Rows.slot_tuple_getitem.lookup, ht.typeIs, ?_⟩
  refine HT.getItem_tuple_cut ht hs pl pu (by rw [hlen]; exact hw) ?_ (by rw [hlen]; exact hz)
  rw [hlen]
  refine ⟨.ref s.heap.objs.size, _, I.laid (t' := s.toks) (o := .tup (cutV xs lo hi)) (fun b ob q => Heap.get?_push_of_some _ q) (Nat.le_refl _) ?_, rfl, q _ (I.hok.fresh (Nat.le_refl _))⟩
  exact ⟨Nat.le_trans (cutV_length xs lo hi) hz, _, (r.drop (HT.sIx xs.length 0 lo)).take (HT.sIx xs.length xs.length hi - HT.sIx xs.length 0 lo), IsTup.new _ _⟩


def rCatT (K : PySem.W.Frag) : R2 := fun x y H Q => ∃ a b xs ys, x = .ref a ∧ y = .ref b ∧ SqT K H a xs ∧ SqT K H b ys ∧ xs ≠ [] ∧ xs.length + ys.length ≤ sizeLine ∧
  (ys = [] → Q (.ref a) H) ∧ (ys ≠ [] → ∀ p, H p = none → Q (.ref p) (upd H p (.tup (xs ++ ys))))
theorem Vals.nil_iff {xs : List V} {us : List Value} (r : Vals xs us) : us = [] ↔ xs = [] := by
  cases r with
  | nil => simp
  | cons _ _ => simp
theorem op_catT : OpR X (binaryOp .Add) (rCatT X.K) := by
  intro pins s σ H x y v u Q I rx ry h
  obtain ⟨a, b, xs, ys, rfl, rfl, ha, hb, hx, hz, q1, q2⟩ := h
  cases rx
  cases ry
  obtain ⟨its, r1, p1, _⟩ := I.tuple ha
  obtain ⟨its2, r2, p2, _⟩ := I.tuple hb
  refine HT.cat_tup p1 p2 (fun z => hx (r1.nil_iff.mp z)) (fun z => ⟨.ref a, H, I, rfl, q1 (r2.nil_iff.mp z)⟩) (fun z => ?_) (by rw [← r1.length, ← r2.length]; exact hz)
  refine ⟨.ref s.heap.objs.size, _, I.laid (t' := s.toks) (o := .tup (xs ++ ys)) (fun b ob q => Heap.get?_push_of_some _ q) (Nat.le_refl _) ?_, rfl, q2 (fun w => z (r2.nil_iff.mpr w)) _ (I.hok.fresh (Nat.le_refl _))⟩
  exact ⟨by rw [List.length_append]; exact hz, _, r1.append r2, IsTup.new _ _⟩

end
end L2

namespace L2
open PySem PySem.Spec PyProof.Rows



def ixN (n : Nat) (i : Int) : Option Nat := if 0 ≤ i then (if i < n then some i.toNat else none) else if -(n : Int) ≤ i then some (i + n).toNat else none
def atI {α : Type} (xs : List α) (i : Int) : Option α := (ixN xs.length i).bind fun j => xs[j]?
theorem ixN_seq {n : Nat} {i : Int} {j : Nat} (h : ixN n i = some j) : seqIndex? i n = some j ∧ j < n ∧ -(n : Int) ≤ i ∧ i < n := by
  unfold ixN at h
  by_cases h0 : 0 ≤ i
  · rw [if_pos h0] at h
    by_cases h1 : i < n
    · rw [if_pos h1] at h
      have e : i.toNat = j := Option.some.inj h
      exact ⟨by rw [seqIndex_of h0 h1, e], by omega, by omega, h1⟩
    · rw [if_neg h1] at h; cases h
  · rw [if_neg h0] at h
    by_cases h1 : -(n : Int) ≤ i
    · rw [if_pos h1] at h
      have e : (i + n).toNat = j := Option.some.inj h
      exact ⟨by rw [seqIndex_neg (by omega) h1, e], by omega, h1, by omega⟩
    · rw [if_neg h1] at h; cases h
theorem atI_get {α : Type} {xs : List α} {i : Int} {v : α} (h : atI xs i = some v) : ∃ j, seqIndex? i xs.length = some j ∧ xs[j]? = some v ∧ j < xs.length ∧ -(xs.length : Int) ≤ i ∧ i < xs.length := by
  unfold atI at h
  cases e : ixN xs.length i with
  | none => rw [e] at h; cases h
  | some j =>
    rw [e] at h
    obtain ⟨h1, h2, h3, h4⟩ := ixN_seq e
    exact ⟨j, h1, h, h2, h3, h4⟩
theorem atI_nat {α : Type} {xs : List α} {j : Nat} {v : α} (h : xs[j]? = some v) : atI xs (j : Int) = some v := by
  have hj : j < xs.length := (List.getElem?_eq_some_iff.mp h).1
  have e : ixN xs.length (j : Int) = some j := by
    unfold ixN
    rw [if_pos (by omega), if_pos (by omega)]; simp
  unfold atI; rw [e]; exact h
theorem atI_last {α : Type} (xs : List α) (v : α) : atI (xs ++ [v]) (-1) = some v := by
  have hl : (xs ++ [v]).length = xs.length + 1 := by simp
  have e : ixN (xs ++ [v]).length (-1) = some xs.length := by
    unfold ixN
    rw [hl, if_neg (by decide), if_pos (by omega)]
    congr 1
    omega
  unfold atI
  rw [e]
  show (xs ++ [v])[xs.length]? = some v
  simp



def PlainIx (b : Expr) : Prop := ∀ o i, subscripted b false o i = operate [o, i] (getItem o i)

def IxR (X : Cx) (r : R2) : Prop :=
  ∀ (value slice : Expr) (pins : List (Addr × Obj)) (s : Shared) (σ : St) (H : Hp) (x y : V) (v u : Value) (Q : VK), Inv X pins σ H s → RelV x v → RelV y u → r x y H Q →
    subscripted slice false v u = operate [v, u] (getItem v u) → wpAny (model X.prog X.w) X.A (subscriptTail value slice v u) (EP X pins σ Q) X.xe s

def MtR (X : Cx) (id : String) (r : V → List V → Hp → VK → Prop) : Prop :=
  ∀ (pins : List (Addr × Obj)) (s : Shared) (σ : St) (H : Hp) (x : V) (xs : List V) (v : Value) (us : List Value) (Q : VK), Inv X pins σ H s → RelV x v → Vals xs us → r x xs H Q →
    wpAny (model X.prog X.w) X.A (call (.builtin id) (v :: us)) (EP X pins σ Q) X.xe s
section
variable {X : Cx} {a b : Expr} {ta tb : TE} {pos : Pos}
theorem IxR.or {r r' : R2} (h : IxR X r) (h' : IxR X r') : IxR X (fun x y H Q => r x y H Q ∨ r' x y H Q) := by
  intro value slice pins s σ H x y v u Q I rx ry q hs
  rcases q with q | q
  · exact h value slice pins s σ H x y v u Q I rx ry q hs
  · exact h' value slice pins s σ H x y v u Q I rx ry q hs
theorem MtR.or {id : String} {r r' : V → List V → Hp → VK → Prop} (h : MtR X id r) (h' : MtR X id r') : MtR X id (fun x xs H Q => r x xs H Q ∨ r' x xs H Q) := by
  intro pins s σ H x xs v us Q I rx rs q
  rcases q with q | q
  · exact h pins s σ H x xs v us Q I rx rs q
  · exact h' pins s σ H x xs v us Q I rx rs q

theorem pe_ix {r : R2} (hr : IxR X r) (ha : PE X a ta) (hb : PE X b tb) (hs : PlainIx b) : PE X (.Subscript a b pos) (tOp r ta tb) := by
  intro pins s σ H Q I h
  exact Subscript_ (binT ha hb I h fun v u s2 x y H2 I2 rx ry q => hr a b pins s2 σ H2 x y v u Q I2 rx ry q (hs _ _))

def rIxL (K : PySem.W.Frag) : R2 := fun x y H Q => ∃ p xs i v, x = .ref p ∧ y = .int i ∧ SqL K H p xs ∧ atI xs i = some v ∧ Q v H
def rIxT (K : PySem.W.Frag) : R2 := fun x y H Q => ∃ p xs i v, x = .ref p ∧ y = .int i ∧ SqT K H p xs ∧ atI xs i = some v ∧ Q v H
theorem ix_list : IxR X (rIxL X.K) := by
  intro value slice pins s σ H x y v u Q I rx ry h hs
  obtain ⟨p, xs, i, z, rfl, rfl, hq, he, q⟩ := h
  cases rx
  obtain ⟨t, rfl⟩ := ry
  obtain ⟨its, r, pl, hz⟩ := I.list hq
  obtain ⟨j, h1, h2, h3, h4, h5⟩ := atI_get he
  obtain ⟨w, ew, rw'⟩ := r.get h2
  have hl := r.length
  have hn := line63
  have fin : EP X pins σ Q w s := ⟨z, H, I, rw', q⟩
  by_cases h0 : 0 ≤ i
  · have hj : i.toNat = j := by
      rw [seqIndex_of h0 h5] at h1
      exact Option.some.inj h1
    exact item_listR pl.isList h0 (by omega) (by rw [hj]; simpa using ew) fin hs
  · have hj : (i + (its.toArray.size : Int)).toNat = j := by
      rw [seqIndex_neg (by omega) h4] at h1
      rw [List.size_toArray, ← hl]
      exact Option.some.inj h1
    exact subscriptTail_builtinR (x := w) pl.isList.typeIs slot_list_getitem.lookup
      (wpAny_getItem_list_neg (Q := fun r s' => r = w ∧ EP X pins σ Q r s') pl.isList (by omega) (by rw [List.size_toArray] <;> omega) (by omega) (by rw [hj]; simpa using ew) ⟨rfl, fin⟩) hs
theorem ix_tup : IxR X (rIxT X.K) := by
  intro value slice pins s σ H x y v u Q I rx ry h hs
  obtain ⟨p, xs, i, z, rfl, rfl, hq, he, q⟩ := h
  cases rx
  obtain ⟨t, rfl⟩ := ry
  obtain ⟨its, r, pl, hz⟩ := I.tuple hq
  obtain ⟨j, h1, h2, h3, h4, h5⟩ := atI_get he
  obtain ⟨w, ew, rw'⟩ := r.get h2
  have hl := r.length
  have hn := line63
  have fin : EP X pins σ Q w s := ⟨z, H, I, rw', q⟩
  exact subscriptTail_builtinR (x := w) pl.typeIs slot_tuple_getitem.lookup
    (getItem_tuple (j := j) (Q := fun r s' => r = w ∧ EP X pins σ Q r s') pl (by omega) (by omega) (by rw [List.size_toArray, ← hl]; exact h1) (by simpa using ew) ⟨rfl, fin⟩) hs
theorem mapSeq_set (its : List Value) (n j : Nat) (u : Value) : Obj.mapSeq (·.setIfInBounds j u) { cls := .type "list", data := .seq its.toArray n } = { cls := .type "list", data := .seq (its.set j u).toArray n } := by
  simp [Obj.mapSeq]
theorem Inv.lst {pins : List (Addr × Obj)} {σ : St} {H : Hp} {s : Shared} {p : Addr} {xs : List V} (I : Inv X pins σ H s) (h : H p = some (.lst xs)) :
    ∃ (its : List Value) (n : Nat), Vals xs its ∧ s.heap.get? p = some { cls := .type "list", data := .seq its.toArray n } ∧ xs.length ≤ sizeLine := by
  obtain ⟨z, its, n, r, e⟩ := I.hok p _ h
  exact ⟨its, n, r, e, z⟩

theorem Inv.lstUpd {pins : List (Addr × Obj)} {σ : St} {H : Hp} {s : Shared} {p : Addr} {xs ys : List V} {its its' : List Value} {n n' : Nat} {f : Obj → Obj} (I : Inv X pins σ H s) (h : H p = some (.lst xs))
    (ho : s.heap.get? p = some { cls := .type "list", data := .seq its.toArray n }) (hf : f { cls := .type "list", data := .seq its.toArray n } = { cls := .type "list", data := .seq its'.toArray n' }) (r : Vals ys its') (hz : ys.length ≤ sizeLine) (t : Nat) :
    Inv X pins σ (upd H p (.lst ys)) { s with heap := s.heap.update p f, toks := t } := by
  have e : (s.heap.update p f).get? p = some { cls := .type "list", data := .seq its'.toArray n' } := by
    rw [Heap.get?_update_self f ho (by rw [hf] <;> rfl), hf]
  refine I.write (x := p) (e := p) (by rw [h]; trivial) (.inl rfl) (fun b u hb q => (Heap.get?_update_other _ _ (Ne.symm hb)).trans q) ⟨_, e⟩ ?_
  exact ⟨hz, its', n', r, e⟩
def rSetL : V → V → V → Hp → (Hp → Prop) → Prop := fun o i v H Q => ∃ p xs k j, o = .ref p ∧ i = .int k ∧ H p = some (.lst xs) ∧ ixN xs.length k = some j ∧ Q (upd H p (.lst (xs.set j v)))
theorem set_list : PSet X rSetL := by
  intro pins s σ H o i v ov iv u Q I ro ri rv h
  obtain ⟨p, xs, k, j, rfl, rfl, hp, hj, q⟩ := h
  cases ro
  obtain ⟨t, rfl⟩ := ri
  obtain ⟨its, n, r, ho, hz⟩ := I.lst hp
  obtain ⟨h1, h2, h3, h4⟩ := ixN_seq hj
  have hl := r.length
  have hn := line63
  have I' : Inv X pins σ (upd H p (.lst (xs.set j v))) { s with heap := s.heap.update p (Obj.mapSeq (·.setIfInBounds j u)) } :=
    I.lstUpd hp ho (mapSeq_set its n j u) (r.set rv j) (by rw [List.length_set]; exact hz) s.toks
  by_cases h0 : 0 ≤ k
  · have hk : k.toNat = j := by
      rw [seqIndex_of h0 h4] at h1
      exact Option.some.inj h1
    exact PySem.W.ki_setAt ho h0 (by omega) (by rw [List.size_toArray, ← hl]; exact h4) (by rw [hk]; exact ⟨_, I', q⟩)
  · have hk : (k + (its.toArray.size : Int)).toNat = j := by
      rw [seqIndex_neg (by omega) h3] at h1
      rw [List.size_toArray, ← hl]
      exact Option.some.inj h1
    exact PySem.W.ki_setBack ho (by omega) (by rw [List.size_toArray, ← hl]; exact h3) (by omega) (by rw [hk]; exact ⟨_, I', q⟩)


def flatV : V → Bool
  | .non => true
  | .bl _ => true
  | .int _ => true
  | .str _ => true
  | _ => false

def eqV : V → V → Bool
  | .non, .non => true
  | .bl a, .bl b => a == b
  | .bl a, .int b => (if a then 1 else 0) == b
  | .int a, .bl b => a == (if b then 1 else 0)
  | .int a, .int b => a == b
  | .str a, .str b => a == b
  | _, _ => false
theorem eqAt_V {A : Around} {s : Shared} {y x : V} {u v : Value} (ry : RelV y u) (rx : RelV x v) (fy : flatV y = true) (fx : flatV x = true) : SeqAt.EqAt A s u v (eqV y x) := by
  cases y with
  | non =>
    cases ry
    cases x with
    | non => cases rx; exact SeqAt.EqAt.same _
    | bl b => cases rx; exact SeqAt.EqAt.none_bool b
    | int b => obtain ⟨t, rfl⟩ := rx; exact SeqAt.EqAt.none_int b t
    | str b => obtain ⟨t, rfl⟩ := rx; exact SeqAt.EqAt.none_str b t
    | _ => exact absurd (show false = true from fx) Bool.false_ne_true
  | bl a =>
    cases ry
    cases x with
    | non => cases rx; exact SeqAt.EqAt.bool_none a
    | bl b => cases rx; exact SeqAt.EqAt.bool_bool a b
    | int b => obtain ⟨t, rfl⟩ := rx; exact SeqAt.EqAt.bool_int a b t
    | str b => obtain ⟨t, rfl⟩ := rx; exact SeqAt.EqAt.bool_str a b t
    | _ => exact absurd (show false = true from fx) Bool.false_ne_true
  | int a =>
    obtain ⟨t', rfl⟩ := ry
    cases x with
    | non => cases rx; exact SeqAt.EqAt.int_none a t'
    | bl b => cases rx; exact SeqAt.EqAt.int_bool a t' b
    | int b => obtain ⟨t, rfl⟩ := rx; exact SeqAt.EqAt.int_int a t' b t
    | str b => obtain ⟨t, rfl⟩ := rx; exact SeqAt.EqAt.int_str a t' b t
    | _ => exact absurd (show false = true from fx) Bool.false_ne_true
  | str a =>
    obtain ⟨t', rfl⟩ := ry
    cases x with
    | non => cases rx; exact SeqAt.EqAt.str_none a t'
    | bl b => cases rx; exact SeqAt.EqAt.str_bool a t' b
    | int b => obtain ⟨t, rfl⟩ := rx; exact SeqAt.EqAt.str_int a t' b t
    | str b => obtain ⟨t, rfl⟩ := rx; exact SeqAt.EqAt.str_str a t' b t
    | _ => exact absurd (show false = true from fx) Bool.false_ne_true
  | _ => exact absurd (show false = true from fy) Bool.false_ne_true

def eqU (x : V) (u : Value) : Bool := match u with
  | .none => eqV .non x
  | .bool b => eqV (.bl b) x
  | .int i _ => eqV (.int i) x
  | .str z _ => eqV (.str z) x
  | _ => false
theorem eqU_of {x y : V} {u : Value} (r : RelV y u) (f : flatV y = true) : eqU x u = eqV y x := by
  cases y with
  | non => cases r; rfl
  | bl b => cases r; rfl
  | int i => obtain ⟨t, rfl⟩ := r; rfl
  | str z => obtain ⟨t, rfl⟩ := r; rfl
  | _ => exact absurd (show false = true from f) Bool.false_ne_true
theorem any_eqU {x : V} : ∀ {xs : List V} {us : List Value}, Vals xs us → xs.all flatV = true → us.any (eqU x) = xs.any fun y => eqV y x
  | _, _, .nil, _ => rfl
  | y :: xs, u :: us, .cons r t, f => by
    rw [List.all_cons, Bool.and_eq_true] at f
    rw [List.any_cons, List.any_cons, eqU_of r f.1, any_eqU t f.2]
theorem mem_eqAt {A : Around} {s : Shared} {x : V} {v : Value} (rx : RelV x v) (fx : flatV x = true) : ∀ {xs : List V} {us : List Value}, Vals xs us → xs.all flatV = true → ∀ u ∈ us, SeqAt.EqAt A s u v (eqU x u)
  | _, _, .nil, _ => fun u hu => by cases hu
  | y :: xs, u :: us, .cons r t, f => fun u' hu => by
    rw [List.all_cons, Bool.and_eq_true] at f
    rcases List.mem_cons.mp hu with rfl | hu
    · rw [eqU_of r f.1]; exact eqAt_V r rx f.1 fx
    · exact mem_eqAt rx fx t f.2 u' hu
def inV (x : V) (xs : List V) : Bool := xs.any fun y => eqV y x

def rIn (K : PySem.W.Frag) (neg : Bool) : R2 := fun x y H Q => ∃ p xs, y = .ref p ∧ (SqL K H p xs ∨ SqT K H p xs) ∧ flatV x = true ∧ xs.all flatV = true ∧ Q (.bl (if neg then !inV x xs else inV x xs)) H
theorem op_in_seq : OpR X (compareOp .In) (rIn X.K false) := by
  intro pins s σ H x y v u Q I rx ry h
  obtain ⟨p, xs, rfl, hq, fx, fs, q⟩ := h
  cases ry
  rcases hq with hq | hq
  · obtain ⟨its, r, pl, hz⟩ := I.list hq
    refine SeqAt.in_listAt (eqU x) pl.isList (fun w hw => mem_eqAt rx fx r fs w (by simpa using hw)) ⟨.bl _, H, I, rfl, ?_⟩
    rw [show its.toArray.any (eqU x) = its.any (eqU x) by simp, any_eqU r fs]
    exact q
  · obtain ⟨its, r, pl, hz⟩ := I.tuple hq
    refine SeqAt.in_tupleAt (eqU x) pl (fun w hw => mem_eqAt rx fx r fs w (by simpa using hw)) ⟨.bl _, H, I, rfl, ?_⟩
    rw [show its.toArray.any (eqU x) = its.any (eqU x) by simp, any_eqU r fs]
    exact q
theorem call_len_seq : CallR X (.builtin "len") (fun xs H Q => ∃ p ys, xs = [.ref p] ∧ (SqL X.K H p ys ∨ SqT X.K H p ys) ∧ Q (.int ys.length) H) := by
  intro pins s σ H xs us Q I r h
  obtain ⟨p, ys, rfl, hq, q⟩ := h
  obtain ⟨u, rfl, rx⟩ := vals1 r
  cases rx
  have hn := line63
  rcases hq with hq | hq
  · obtain ⟨its, r', pl, hz⟩ := I.list hq
    have hlen := r'.length
    exact Calls.call_len_list pl.isList (by simp only [List.size_toArray] <;> omega) ⟨.int ys.length, H, I.tok _, ⟨s.toks + 1, by rw [List.size_toArray, hlen]⟩, q⟩
  · obtain ⟨its, r', pl, hz⟩ := I.tuple hq
    have hlen := r'.length
    exact len_tuple pl (by simp only [List.size_toArray] <;> omega) ⟨.int ys.length, H, I.tok _, ⟨s.toks + 1, by rw [List.size_toArray, hlen]⟩, q⟩
theorem CallR.or {f : Value} {r r' : List V → Hp → VK → Prop} (h : CallR X f r) (h' : CallR X f r') : CallR X f (fun xs H Q => r xs H Q ∨ r' xs H Q) := by
  intro pins s σ H xs us Q I rs q
  rcases q with q | q
  · exact h pins s σ H xs us Q I rs q
  · exact h' pins s σ H xs us Q I rs q
theorem call_list_of : CallR X (.type "list") (fun xs H Q => ∃ p ys, xs = [.ref p] ∧ (SqL X.K H p ys ∨ SqT X.K H p ys) ∧ ∀ l, H l = none → Q (.ref l) (upd H l (.lst ys))) := by
  intro pins s σ H xs us Q I r h
  obtain ⟨p, ys, rfl, hq, q⟩ := h
  obtain ⟨u, rfl, rx⟩ := vals1 r
  cases rx
  have fin : ∀ (its : List Value), Vals ys its → ys.length ≤ sizeLine → ∀ (h' : Heap) (c' : Nat), (∀ b o', s.heap.get? b = some o' → h'.get? b = some o') →
      h'.get? s.heap.objs.size = some { cls := .type "list", dict := none, data := .seq its.toArray c', slots := #[] } → EP X pins σ Q (.ref s.heap.objs.size) { s with heap := h' } := fun its r' hz h' c' kp e =>
    ⟨.ref s.heap.objs.size, _, I.laid (t' := s.toks) kp (Nat.le_refl _) (show ObjOk X.prog X.w _ h' _ (.lst ys) from ⟨hz, its, c', r', e⟩), rfl, q _ (I.hok.fresh (Nat.le_refl _))⟩
  rcases hq with hq | hq
  · obtain ⟨its, r', pl, hz⟩ := I.list hq
    have hlen := r'.length
    obtain ⟨o, ho, hc, n, hd⟩ := pl.isList
    exact call_list_seq p (.inl rfl) ho hc hd (fun h' c' kp e => fin its r' hz h' c' kp e) (by simp only [List.size_toArray] <;> omega)
  · obtain ⟨its, r', pl, hz⟩ := I.tuple hq
    have hlen := r'.length
    obtain ⟨o, ho, hc, n, hd⟩ := pl
    exact call_list_seq p (.inr rfl) ho hc hd (fun h' c' kp e => fin its r' hz h' c' kp e) (by simp only [List.size_toArray] <;> omega)
theorem call_tuple_of : CallR X (.type "tuple") (fun xs H Q => ∃ p ys, xs = [.ref p] ∧ ((SqL X.K H p ys ∧ ∀ l, H l = none → Q (.ref l) (upd H l (.tup ys))) ∨ (SqT X.K H p ys ∧ Q (.ref p) H))) := by
  intro pins s σ H xs us Q I r h
  obtain ⟨p, ys, rfl, h⟩ := h
  obtain ⟨u, rfl, rx⟩ := vals1 r
  cases rx
  rcases h with ⟨hq, q⟩ | ⟨hq, q⟩
  · obtain ⟨its, r', pl, hz⟩ := I.list hq
    have hlen := r'.length
    refine call_tuple_list pl.isList (fun h' kp => ?_) (by simp only [List.size_toArray] <;> omega)
    have I1 : Inv X pins σ H { s with heap := h' } := I.kept (t' := s.toks) kp
    have I2 : Inv X pins σ (upd H h'.objs.size (.tup ys)) { s with heap := h'.push { cls := .type "tuple", data := .seq its.toArray } } :=
      I1.laid (t' := s.toks) (fun b o e => Heap.get?_push_of_some _ e) (Nat.le_refl _) (show ObjOk X.prog X.w _ _ _ (.tup ys) from ⟨hz, its, r', IsTup.new _ _⟩)
    exact ⟨.ref h'.objs.size, _, I2, rfl, q _ (I1.hok.fresh (Nat.le_refl _))⟩
  · obtain ⟨its, r', pl, hz⟩ := I.tuple hq
    exact call_tuple_same pl ⟨.ref p, H, I, rfl, q⟩



def tyV (K : PySem.W.Frag) (T : String) (x : V) (H : Hp) : Prop := match x with
  | .str _ => T = "str"
  | .int _ => T = "int"
  | .ref p => (T = "list" ∧ ∃ xs, SqL K H p xs) ∨ (T = "tuple" ∧ ∃ o, K.lookup p = some o ∧ o.cls = .type "tuple" ∧ o.dict = none) ∨
      (T = "dict" ∧ ((∃ kvs, H p = some (.dK kvs)) ∨ ∃ kvs, H p = some (.dT kvs))) ∨ (T = "set" ∧ ∃ S n, H p = some (.set S n))
  | _ => False
theorem tyV_is {pins : List (Addr × Obj)} {σ : St} {H : Hp} {s : Shared} {T : String} {x : V} {v : Value} (I : Inv X pins σ H s) (r : RelV x v) (ty : tyV X.K T x H) :
    s.TypeIs v T ∧ ∀ a, v = .ref a → ∃ ob, s.heap.get? a = some ob ∧ ob.dict = none := by
  cases x with
  | str z =>
    obtain ⟨t, rfl⟩ := r
    cases (show T = "str" from ty)
    exact ⟨typeIs_str s z t, fun _ e => nomatch e⟩
  | int i =>
    obtain ⟨t, rfl⟩ := r
    cases (show T = "int" from ty)
    exact ⟨typeIs_int s i t, fun _ e => nomatch e⟩
  | ref p =>
    cases r
    rcases ty with ⟨rfl, xs, hq⟩ | ⟨rfl, o, hk, hc, hd⟩ | ⟨rfl, hk⟩ | ⟨rfl, S, n, hk⟩
    · obtain ⟨its, _, pl, _⟩ := I.list hq
      refine ⟨pl.isList.typeIs, fun a e => ?_⟩
      cases e
      obtain ⟨o, n, e, c, hd, _⟩ := pl
      exact ⟨o, e, hd⟩
    · refine ⟨⟨o, I.kIn p o hk, hc⟩, fun a e => ?_⟩
      cases e
      exact ⟨o, I.kIn _ o hk, hd⟩
    · have z : ∃ o, s.heap.get? p = some o ∧ o.ExactDict := by
        rcases hk with ⟨kvs, hk⟩ | ⟨kvs, hk⟩
        · obtain ⟨_, _, _, _, o, _, _, e, ex, _⟩ := I.hok p _ hk
          exact ⟨o, e, ex⟩
        · obtain ⟨_, _, _, _, o, _, _, e, ex, _⟩ := I.hok p _ hk
          exact ⟨o, e, ex⟩
      obtain ⟨o, e, ex⟩ := z
      refine ⟨⟨o, e, ex.1⟩, fun a e2 => ?_⟩
      cases e2
      exact ⟨o, e, ex.2.1⟩
    · obtain ⟨o, _, _, _, e, ex, _⟩ := I.hok p _ hk
      refine ⟨⟨o, e, ex.1⟩, fun a e2 => ?_⟩
      cases e2
      exact ⟨o, e, ex.2.1⟩
  | _ => exact False.elim ty
def tBM0 (K : PySem.W.Frag) (T : String) (r : V → List V → Hp → VK → Prop) (to : TE) : TE := fun σ H Q => to σ H fun x H1 => tyV K T x H1 ∧ r x [] H1 Q
def tBM (K : PySem.W.Frag) (T : String) (r : V → List V → Hp → VK → Prop) (to : TE) (t : TA) : TE := fun σ H Q => to σ H fun x H1 => tyV K T x H1 ∧ t σ H1 fun xs H2 => r x xs H2 Q
variable {o e : Expr} {es : List Expr} {to : TE} {t : TA} {name : Str} {apos cpos : Pos} {T id : String} {r : V → List V → Hp → VK → Prop}
theorem pe_bm0 (pa : PlainAttrs T) (slot : Slot T name id) (hty : typeOf (.builtin id) = pure (.type "method_descriptor")) (hm : MtR X id r) (ho : PE X o to)
    (hbase : attributeBase o name X.env (eval o X.env) = eval o X.env := by rfl) (hline : (apos.endLine == cpos.line) = true := by rfl) : PE X (.Call (.Attribute o name apos) [] [] cpos) (tBM0 X.K T r to) := by
  intro pins s σ H Q I h
  refine wpAny_Call_method0_late hbase hline (thn (ho pins s σ H _ I h) fun v s1 ⟨x, H1, I1, r1, ty, q1⟩ => ?_)
  obtain ⟨h1, h2⟩ := tyV_is I1 r1 ty
  exact ⟨T, id, pa, slot, hty, h1, h2, Calls.callWith_builtin rfl (PySem.evalArgs_none (hm pins s1 σ H1 x [] v [] Q I1 r1 .nil q1))⟩
theorem pe_bm (pa : PlainAttrs T) (slot : Slot T name id) (hty : typeOf (.builtin id) = pure (.type "method_descriptor")) (hm : MtR X id r) (ho : PE X o to) (ha : PA X (e :: es) t)
    (hbase : attributeBase o name X.env (eval o X.env) = eval o X.env := by rfl)
    (hfew : ((backTo cpos (starEach (e :: es) X.env)).all (fun x => !x.1) && (backToKw cpos (keywordEach [] X.env)).all (fun x => x.1.isSome)
      && decide ((e :: es).length + ([] : List Keyword).length + (if ([] : List Keyword).isEmpty then 0 else 1) < 30)) = true := by rfl)
    (hline : (apos.endLine == cpos.line) = true := by rfl) (hs : starEach (e :: es) X.env = (false, eval e X.env) :: starEach es X.env := by rfl) (hplain : (backTo cpos (starEach es X.env)).any (·.1) = false := by rfl) :
    PE X (.Call (.Attribute o name apos) (e :: es) [] cpos) (tBM X.K T r to t) := by
  intro pins s σ H Q I h
  refine wpAny_Call_method_late hbase hfew hline rfl (thn (ho pins s σ H _ I h) fun v s1 ⟨x, H1, I1, r1, ty, q1⟩ => ?_)
  obtain ⟨h1, h2⟩ := tyV_is I1 r1 ty
  refine ⟨T, id, pa, slot, hty, h1, h2, ?_⟩
  have hA := ha cpos pins s1 σ H1 _ I1 q1
  rw [hs] at hA ⊢
  refine Calls.callWith_builtin (by show (false || (backTo cpos (starEach es X.env)).any (·.1)) = false; rw [hplain] <;> rfl) (Calls.evalArgs_plain ?_)
  exact thn hA fun us s2 ⟨vs, H2, I2, r2, q2⟩ => hm pins s2 σ H2 x vs v us Q I2 r1 r2 q2

end
end L2

namespace L2
open PySem PySem.Spec PyProof.Rows

def MtM (X : Cx) (id : String) (r : V → List V → Hp → VK → Prop) : Prop :=
  ∀ (pins : List (Addr × Obj)) (s : Shared) (σ : St) (H : Hp) (x : V) (xs : List V) (v : Value) (us : List Value) (Q : VK), Inv X pins σ H s → RelV x v → Vals xs us → r x xs H Q →
    wpAny (model X.prog X.w) X.A (call (.builtin id) (v :: us)) (EP X pins σ Q) X.xe s


theorem Vals.one : ∀ {x : V} {us : List Value}, Vals [x] us → ∃ u, us = [u] ∧ RelV x u
  | _, _, .cons r .nil => ⟨_, rfl, r⟩
theorem Vals.two : ∀ {x y : V} {us : List Value}, Vals [x, y] us → ∃ u v, us = [u, v] ∧ RelV x u ∧ RelV y v
  | _, _, _, .cons r (.cons q .nil) => ⟨_, _, rfl, r, q⟩
theorem Vals.zero : ∀ {us : List Value}, Vals [] us → us = []
  | _, .nil => rfl
theorem Vals.dropLast {xs : List V} {us : List Value} (h : Vals xs us) : Vals xs.dropLast us.dropLast := by
  induction h with
  | nil => exact .nil
  | cons r t ih =>
    cases t with
    | nil => exact .nil
    | cons q t' => exact .cons r ih
theorem Vals.eraseIdx : ∀ {xs : List V} {us : List Value} (i : Nat), Vals xs us → Vals (xs.eraseIdx i) (us.eraseIdx i)
  | _, _, _, .nil => .nil
  | _, _, 0, .cons _ t => t
  | _, _, i + 1, .cons r t => .cons r (Vals.eraseIdx i t)
theorem Vals.reverse {xs : List V} {us : List Value} (h : Vals xs us) : Vals xs.reverse us.reverse := by
  induction h with
  | nil => exact .nil
  | cons r t ih => rw [List.reverse_cons, List.reverse_cons]; exact Vals.append ih (.cons r .nil)
theorem Vals.rep {xs : List V} {us : List Value} (h : Vals xs us) : ∀ k : Nat, Vals (List.replicate k xs).flatten (List.replicate k us).flatten
  | 0 => .nil
  | k + 1 => by
    rw [List.replicate_succ, List.replicate_succ, List.flatten_cons, List.flatten_cons]
    exact Vals.append h (Vals.rep h k)
theorem erase_last {α : Type} (l : List α) : l.eraseIdx (l.length - 1) = l.dropLast := by
  induction l with
  | nil => rfl
  | cons a r ih =>
    cases r with
    | nil => rfl
    | cons b r =>
      have e : (a :: b :: r).length - 1 = ((b :: r).length - 1) + 1 := by
        have h1 : (a :: b :: r).length = r.length + 2 := rfl
        have h2 : (b :: r).length = r.length + 1 := rfl
        omega
      rw [e, List.eraseIdx_cons_succ, ih]
      all_goals rfl
theorem foldl_rep (its : List Value) : ∀ (k : Nat) (acc : List Value),
    List.foldl (fun x1 x2 => x1 ++ x2) acc.toArray (List.replicate k its.toArray) = (acc ++ (List.replicate k its).flatten).toArray
  | 0, acc => by simp
  | k + 1, acc => by
    have e : acc.toArray ++ its.toArray = (acc ++ its).toArray := by simp
    have e2 : (acc ++ its) ++ (List.replicate k its).flatten = acc ++ (List.replicate (k + 1) its).flatten := by
      rw [List.replicate_succ, List.flatten_cons, List.append_assoc]
    rw [← e2, ← foldl_rep its k (acc ++ its), ← e, List.replicate_succ, List.foldl_cons]

section
variable {X : Cx} {pins : List (Addr × Obj)} {σ : St} {H : Hp} {s : Shared} {l b : Addr} {xs ys zs : List V}


theorem Inv.lset {its its' : List Value} {n : Nat} {f : Array Value → Array Value} {t' : Nat} (I : Inv X pins σ H s) (hH : H l = some (.lst xs))
    (e : s.heap.get? l = some { cls := .type "list", data := .seq its.toArray n }) (hf : f its.toArray = its'.toArray) (hv : Vals ys its') (hz : ys.length ≤ sizeLine) :
    Inv X pins σ (upd H l (.lst ys)) { s with heap := s.heap.update l (Obj.mapSeq f), toks := t' } := by
  have q := PySem.IsL.update e f
  rw [hf] at q
  refine I.write (x := l) (e := l) (by rw [hH]; exact trivial) (.inl rfl) (fun b' u hb hu => (Heap.get?_update_other s.heap (Obj.mapSeq f) (Ne.symm hb)).trans hu) ⟨_, q⟩ ?_
  exact ⟨hz, its', _, hv, q⟩
theorem Inv.lnew {its : List Value} {t' : Nat} (I : Inv X pins σ H s) (hv : Vals ys its) (hz : ys.length ≤ sizeLine) :
    Inv X pins σ (upd H s.heap.objs.size (.lst ys)) { s with heap := s.heap.push { cls := .type "list", data := .seq its.toArray }, toks := t' } :=
  I.laid (fun _ _ q => Heap.get?_push_of_some _ q) (Nat.le_refl _) ⟨hz, its, 0, hv, Heap.get?_push_size _ rfl⟩
theorem Inv.fresh (I : Inv X pins σ H s) : H s.heap.objs.size = none := I.hok.fresh (Nat.le_refl _)
theorem Inv.lstM (I : Inv X pins σ H s) (hH : H l = some (.lst xs)) : xs.length ≤ sizeLine ∧ ∃ (its : List Value) (n : Nat), Vals xs its ∧ xs.length = its.length ∧ s.heap.get? l = some { cls := .type "list", data := .seq its.toArray n } := by
  obtain ⟨z, its, n, r, e⟩ := I.hok l _ hH
  exact ⟨z, its, n, r, r.length, e⟩

theorem notLongL {n : Nat} (h : n ≤ sizeLine) : Builtin.List.listTooLong n = false := by
  unfold Builtin.List.listTooLong
  exact decide_eq_false (by omega)
end

section
variable {X : Cx}


def rAppend : V → List V → Hp → VK → Prop := fun x vs H Q => ∃ l xs y, x = .ref l ∧ vs = [y] ∧ H l = some (.lst xs) ∧ xs.length < sizeLine ∧ Q .non (upd H l (.lst (xs ++ [y])))
theorem mt_append : MtM X "list.append" rAppend := by
  intro pins s σ H x vs v us Q I rx rv h
  obtain ⟨l, xs, y, rfl, rfl, hH, hz, q⟩ := h
  cases rx
  obtain ⟨u, rfl, ru⟩ := rv.one
  obtain ⟨z, its, n, r, hl, e⟩ := I.lstM hH
  refine call_meets F.slot_list_append ⟨_, e, rfl⟩ F.entry_list_append (F.args_list_append_2 _ _) (PySem.list_append l its.toArray n u (by rw [List.size_toArray]; omega)) ⟨e, ?_⟩
  refine ⟨.non, _, I.lset (its' := its ++ [u]) hH e (by simp) (r.append (.cons ru .nil)) ?_, rfl, q⟩
  rw [List.length_append, List.length_singleton]
  omega

def rExtend : V → List V → Hp → VK → Prop := fun x vs H Q => ∃ l b xs zs, x = .ref l ∧ vs = [.ref b] ∧ H l = some (.lst xs) ∧ H b = some (.lst zs) ∧ xs.length + zs.length ≤ sizeLine ∧ Q .non (upd H l (.lst (xs ++ zs)))
theorem mt_extend : MtM X "list.extend" rExtend := by
  intro pins s σ H x vs v us Q I rx rv h
  obtain ⟨l, b, xs, zs, rfl, rfl, hH, hB, hz, q⟩ := h
  cases rx
  obtain ⟨u, rfl, ru⟩ := rv.one
  cases ru
  obtain ⟨z, its, n, r, hl, e⟩ := I.lstM hH
  obtain ⟨z2, its2, n2, r2, hl2, e2⟩ := I.lstM hB
  have hsz : its.toArray.size + its2.toArray.size ≤ sizeLine := by rw [List.size_toArray, List.size_toArray]; omega
  have hlong : ¬ (!its.toArray.isEmpty && Builtin.List.listTooLong (its.toArray.size + its2.toArray.size)) = true := by
    rw [notLongL hsz, Bool.and_false]
    exact Bool.false_ne_true
  refine call_meets F.slot_list_extend ⟨_, e, rfl⟩ F.entry_list_extend (F.args_list_extend_2 _ _)
    (AutoSeq1.list_extend_list_list_0 l its.toArray n b its2.toArray n2 hlong (by rw [List.size_toArray]; omega) (by omega)) ⟨e, e2, ?_⟩
  refine ⟨.non, _, I.lset (its' := its ++ its2) hH e (by simp) (r.append r2) ?_, rfl, q⟩
  rw [List.length_append]
  omega

def rPop : V → List V → Hp → VK → Prop := fun x vs H Q => ∃ l xs y, x = .ref l ∧ vs = [] ∧ H l = some (.lst xs) ∧ xs[xs.length - 1]? = some y ∧ Q y (upd H l (.lst xs.dropLast))
theorem mt_pop : MtM X "list.pop" rPop := by
  intro pins s σ H x vs v us Q I rx rv h
  obtain ⟨l, xs, y, rfl, rfl, hH, hy, q⟩ := h
  cases rx
  have hus := rv.zero
  subst hus
  obtain ⟨z, its, n, r, hl, e⟩ := I.lstM hH
  obtain ⟨u, hu, ru⟩ := r.get hy
  have hy' : its.toArray[its.toArray.size - 1]? = some u := by
    show its.toArray[its.length - 1]? = some u
    rw [← Array.getElem?_toList, ← hl]
    exact hu
  refine call_meets F.slot_list_pop ⟨_, e, rfl⟩ F.entry_list_pop (F.args_list_pop_1 _) (MeetsSeq.list_pop_last l its.toArray n u hy' (by rw [List.size_toArray]; omega)) ⟨e, ?_⟩
  refine ⟨y, _, I.lset (its' := its.dropLast) hH e ?_ r.dropLast ?_, ru, q⟩
  · show its.toArray.eraseIdxIfInBounds (its.toArray.size - 1) = its.dropLast.toArray
    rw [List.size_toArray, List.eraseIdxIfInBounds_toArray, erase_last]
  · rw [List.length_dropLast]
    omega

def rRep : R2 := fun x y H Q => ∃ l k xs, x = .ref l ∧ y = .int k ∧ H l = some (.lst xs) ∧ -(2 ^ 63) ≤ k ∧ k < 2 ^ 63 ∧ xs.length * k.toNat ≤ sizeLine ∧
  ∀ p, H p = none → Q (.ref p) (upd H p (.lst (List.replicate k.toNat xs).flatten))
theorem len_rep {α : Type} (xs : List α) (k : Nat) : (List.replicate k xs).flatten.length = k * xs.length := by
  induction k with
  | zero => simp
  | succ k ih => rw [List.replicate_succ, List.flatten_cons, List.length_append, ih, Nat.succ_mul, Nat.add_comm]
theorem op_rep : OpR X (binaryOp .Mult) rRep := by
  intro pins s σ H x y v u Q I rx ry h
  obtain ⟨l, k, xs, rfl, rfl, hH, h1, h2, hz, q⟩ := h
  cases rx
  obtain ⟨t, rfl⟩ := ry
  obtain ⟨z, its, n, r, hl, e⟩ := I.lstM hH
  have hlen : its.toArray.size * k.toNat ≤ sizeLine := by rw [List.size_toArray, ← hl]; exact hz
  have hcap : ¬ its.toArray.size * k.toNat > (2 ^ 63 - 1) / 8 := by
    have : (sizeLine : Nat) ≤ (2 ^ 63 - 1) / 8 := by decide
    omega
  have hfit : ¬ (!Builtin.List.listFitsIndex k) = true := by
    rw [fitsIndex_both h1 h2]
    exact Bool.false_ne_true
  have hlong : ¬ Builtin.List.listTooLong (its.toArray.size * k.toNat) = true := by
    rw [notLongL hlen]
    exact Bool.false_ne_true
  have hnew : List.foldl (fun x1 x2 => x1 ++ x2) #[] (List.replicate (if its.toArray.isEmpty = true then 0 else k.toNat) its.toArray) = (List.replicate k.toNat its).flatten.toArray := by
    have f0 : ∀ m : Nat, List.foldl (fun x1 x2 => x1 ++ x2) #[] (List.replicate m its.toArray) = (List.replicate m its).flatten.toArray := fun m => by
      have := foldl_rep its m []
      rw [List.nil_append] at this
      exact this
    rw [f0]
    cases its with
    | nil => simp
    | cons a r' => rw [if_neg (by simp)]
  refine wpAny_binaryOp_repeat_ref (T := "list") (U := "int") (by decide) ⟨_, e, rfl⟩ (fun s' => typeIs_int s' k t) noFill_list_mul F.fills_int_mul F.slot_int_rmul repeat_list F.slot_int_index.lookup
    (call_meets F.slot_int_rmul (typeIs_int s k t) F.entry_int_rmul (F.args_int_rmul_2 _ _) (int___rmul___int_list k t l its.toArray n)
      ⟨e, rfl, ⟨_, e, rfl⟩, call_meets F.slot_list_mul ⟨_, e, rfl⟩ F.entry_list_mul (F.args_list_mul_2 _ _) (AutoListH.list___mul___list_int_3 l its.toArray n k t hfit hcap hlong) ⟨e, ?_⟩⟩)
  rw [hnew]
  exact ⟨.ref _, _, I.lnew (t' := s.toks) (r.rep k.toNat) (by rw [len_rep, Nat.mul_comm]; exact hz), rfl, q _ I.fresh⟩


end


section
variable {prog : Program} {w : World} {A : Around} {E : Value → Shared → Prop} {s : Shared}
end

section
variable {X : Cx}

end
end L2

namespace Att
open PySem PySem.W PySem.Calls PyProof.Rows


theorem ints_of_wellAll {P : Params} {h : Heap} : ∀ (ns : List Int) (vs : List Value), WellAll P h vs (ns.map WData.int) → IntsAre vs ns := by
  intro ns
  induction ns with
  | nil =>
    intro vs w
    rw [List.map_nil] at w
    cases w
    exact .nil
  | cons n ns ih =>
    intro vs w
    rw [List.map_cons] at w
    cases w with
    | cons a b =>
      cases a
      exact .cons _ _ (ih _ b)

theorem script_of {l : OpenLaw} {n : Nat} (hn : l.most = some n) {P : Params} {h : Heap} {args : List WData} {vals : List Value}
    (hpre : l.row.toRowW.claim.pre args = true) (hwl : WellAll P h vals args) :
    ∃ a vs ns, vals = [Value.ref a] ∧ args = [WData.list (ns.map WData.int)] ∧ h.get? a = some { cls := .type "list", data := .seq vs.toArray } ∧ IntsAre vs ns ∧ ns.length ≤ n := by
  have hsh : WShape.hasAll [] args [.list .int] = true := (pre_splitW hpre).1
  have hc : l.pre.holds [] { args := args } = true := (pre_splitW hpre).2
  obtain ⟨d, r, rfl, h1, h2⟩ := hasAllW_cons hsh
  obtain rfl := hasAllW_nil h2
  obtain ⟨xs, rfl, h3⟩ := hasW_list h1
  obtain ⟨ns, rfl⟩ := items_int h3
  have hlen : ns.length ≤ n := by
    unfold OpenLaw.pre at hc
    have h4 : (WTm.not (.lt (.lit (.int (n : Int))) (.len (.arg 0)))).holds [] { args := [.list (ns.map .int)] } = true := by
      have h4 := (holds_andW hc).1
      rw [hn] at h4
      exact h4
    have h5 := condW_of h4 (w_not (w_lt w_lit (w_len_list (w_arg rfl))))
    rw [List.length_map] at h5
    refine Nat.le_of_not_lt fun q => ?_
    have q' : (n : Int) < ((ns.length : Nat) : Int) := by omega
    first
      | (rw [decide_eq_true q'] at h5; exact absurd h5 (by decide))
      | (simp at h5; omega)
  cases hwl with
  | cons w1 w2 =>
    cases w2
    cases w1 with
    | list ho hall => exact ⟨_, _, ns, rfl, rfl, ho, ints_of_wellAll ns _ hall, hlen⟩

theorem post_true (l : OpenLaw) (args : List WData) : l.row.toRowW.claim.post args (.bool true) args = true :=
  postW_of (r := l.row.toRowW) (X := (true == true))
    (show WShape.has [] (.bool true) .bool = true by first | rfl | decide | simp [WShape.has, WShape.arms, WShape.armsAll])
    (show (WTm.eq .res (.lit (.bool true))).value [] { args := args, res := some (.bool true), after := args } = some (.bool (true == true)) from w_eq_bool (w_res rfl) w_lit) rfl


theorem attach_call {l : OpenLaw} {n : Nat} {q : Program} {loose : List Str} {XP : (Str → Option Value) → Heap → Prop} {YP : World → Heap → Prop} {d : DefRec}
    (hn : l.most = some n) (hdf : d.params.defaults = [])
    (call : ∀ (w : World) (s₀ s₁ : Shared) (mg mb : Str → Option Value) (fa : Addr) (o : Obj) (pm cd doc : Value) (a : Addr) (vs : List Value) (ns : List Int),
      Ground q loose [] XP w s₀ mg mb s₁.heap → YP w s₁.heap →
      s₁.heap.get? fa = some o → o.data = .func (docDef d.name d.params d.body d.scope pm cd doc) → s₁.heap.CodeRec cd d.name → mg d.name = some (.ref fa) →
      s₁.heap.get? a = some { cls := .type "list", data := .seq vs.toArray } → IntsAre vs ns → ns.length ≤ n → s₁.gens = #[] →
      codeAny (model l.prog w) callerA (.call (.ref fa) ⟨[.ref a], []⟩) (fun r s' => r = .ok (.ret (.bool true)) ∧ OldK s₁.heap s'.heap ∧ s'.os = s₁.os ∧ AllBare s'.gens) s₁) :
    WalkO q loose XP YP l.row.toRowW d [] (fun f vs => PySem.call f vs) := by
  intro w s₀ s₁ mg mb G Y fa o pm cd doc dV kV ho hd hcd hD hmg hg args vals as hpre hlay hrd hwl hlo
  obtain rfl : dV = .none := Dflts.none hD hdf
  obtain rfl : kV = .none := Dflts.noKw hD
  obtain ⟨a, vs, ns, rfl, rfl, hobj, hints, hlen⟩ := script_of hn hpre hwl
  refine enter_call (codeAny_mono (call w s₀ s₁ mg mb fa o pm cd doc a vs ns G Y ho (fd_plain hd) hcd hmg hobj hints hlen hg) fun r s' hq => ?_)
  obtain ⟨rfl, h2, h3, h4⟩ := hq
  exact ⟨.inl ⟨.bool true, .bool true, [], rfl, fun _ => rfl, .bool true, post_true l _, fun _ => ⟨List.Pairwise.nil, fun _ hm => (nomatch hm)⟩⟩, h2, h3, h4⟩


section
variable {prog : Program} {w : World} {A : Around} {E : Value → Shared → Prop} {s : Shared} {K : Frag}


end
end Att

namespace L2
open PySem PySem.Spec PyProof.Rows

theorem vals_ints : ∀ {vs : List Value} {ns : List Int}, IntsAre vs ns → Vals (ns.map V.int) vs
  | _, _, .nil => .nil
  | _, _, .cons n t h => .cons ⟨t, rfl⟩ (vals_ints h)


def Only (H : Hp) : Prop := ∀ b, H b = none ∨ ∃ o xs, H b = some (.frz o (.lst xs))


theorem law_call {P : Program} {w : World} {K : PySem.W.Frag} {mg mb : Str → Option Value} {CX : CXT} {k : Nat} {fa a : Addr} {fd : FuncData} {x : Str} {sp : Sp} {s₁ : Shared} {vs : List Value} {ns : List Int}
    (KX : K.In s₁.heap) (hns : s₁.heap.Ns mainGlobals mg) (hb : s₁.heap.Ns builtinsNs mb) (hbb : ∀ x : Str, x ≠ "__name__" → mb x = bootBuiltins x) (hlim : s₁.heap.NoLimit) (hg : s₁.gens = #[])
    (ha : s₁.heap.get? a = some { cls := .type "list", data := .seq vs.toArray }) (hi : IntsAre vs ns) (hl : ns.length ≤ sizeLine) (hr : Room k callerA)
    (F : ∀ base : Heap, K.In base → base.Ns mainGlobals mg → FnOk P w K mg base CX k fa fd [x] sp) (hbind : ∀ (s : Shared) (u : Value), BindsTo s fd ⟨[u], []⟩ [(x, u)])
    (hsp : ∀ H : Hp, Only H → SqL K H a (ns.map V.int) → sp [.ref a] H (fun v _ => v = .bl true) fun _ _ _ => False)
    (hCX : ∀ H e s', CX [] H s₁ (fun _ _ _ => False) e s' → False) :
    codeAny (model P w) callerA (.call (.ref fa) ⟨[.ref a], []⟩) (fun r s' => r = .ok (.ret (.bool true)) ∧ OldK s₁.heap s'.heap ∧ s'.os = s₁.os ∧ AllBare s'.gens) s₁ := by
  have rv := vals_ints hi
  have lenV := hi.length
  -- from an abstract heap in which nothing but the script may be tracked
  have core : ∀ H : Hp, Only H → SqL K H a (ns.map V.int) → HOk P w H s₁.heap → (∀ b, H b ≠ none → b = a) → (H a ≠ none → K.lookup a = none) →
      codeAny (model P w) callerA (.call (.ref fa) ⟨[.ref a], []⟩) (fun r s' => r = .ok (.ret (.bool true)) ∧ OldK s₁.heap s'.heap ∧ s'.os = s₁.os ∧ AllBare s'.gens) s₁ := by
    intro H hO hS hok hA hK
    have base_of : ∀ {b : Addr} {o : Obj}, s₁.heap.get? b = some o → H b = none → (hidT s₁.heap H).get? b = some o := fun e n => hidT_get e n
    have noA : ∀ {b : Addr} {o : Obj} {es : Array DictEntry} {ep : Nat}, s₁.heap.get? b = some o → o.data = .dict es ep → H b = none := fun {b o es ep} e d => by
      cases q : H b with
      | none => rfl
      | some u =>
        have e' : b = a := hA b (by rw [q]; simp)
        subst e'
        rw [ha] at e; cases e
        have d' : Data.seq vs.toArray _ = Data.dict es ep := d
        cases d'
    have nsK : ∀ {b : Addr} {m : Str → Option Value}, s₁.heap.Ns b m → (hidT s₁.heap H).Ns b m := fun {b m} ⟨o, es, ep, e, d, r⟩ => ⟨o, es, ep, base_of e (noA e d), d, r⟩
    have hKb : K.In (hidT s₁.heap H) := fun b o e => base_of (KX b o e) (by
      cases q : H b with
      | none => rfl
      | some u =>
        have e' : b = a := hA b (by rw [q]; simp)
        subst e'
        rw [hK (by rw [q]; simp)] at e; cases e)
    have hM : Mod K mg (hidT s₁.heap H) := ⟨hKb, nsK hns, ⟨mb, nsK hb, hbb⟩, let ⟨mc, h1, h2⟩ := hlim; ⟨mc, nsK h1, h2⟩⟩
    have e0 : Env0 P w K mg (hidT s₁.heap H) callerA [] s₁ H := ⟨rfl, hM, fun b o e => of_hidT e, Nat.le_of_eq (hidT_size _ _), trivial, fun b hb => absurd (show b ∈ ([] : List Addr) from hb) (by simp), hok, .of_eq hg⟩
    refine codeAny_mono ((F _ hKb (nsK hns)).run callerA [] s₁ H ⟨[.ref a], []⟩ [.ref a] [.ref a] _ _ hr e0 (hbind s₁ (.ref a)) (.cons rfl .nil) (hsp H hO hS)) fun r s' h => ?_
    cases r with
    | error e => exact (hCX H e s' h).elim
    | ok fl =>
      cases fl with
      | next => exact False.elim h
      | brk => exact False.elim h
      | cont => exact False.elim h
      | ret u =>
        obtain ⟨v, H', os, bare, un, hok', r', q⟩ := h
        have q' : v = .bl true := q
        subst q'
        obtain rfl : u = Value.bool true := r'
        refine ⟨rfl, OldK.of_keep fun b o e => ?_, os, bare⟩
        cases q : H b with
        | none => exact un.keep b o e q (by intro z; exact absurd (show b ∈ ([] : List Addr) from z) (by simp)) (by simp)
        | some u =>
          rcases hO b with z | ⟨ob, xs, z⟩
          · rw [q] at z; cases z
          · have z2 := un.frzs b ob _ z
            obtain ⟨e1, _⟩ := hok b _ z
            obtain ⟨e2, _⟩ := hok' b _ z2
            rw [e] at e1; cases e1
            exact e2
  cases hk : K.lookup a with
  | some o =>
    -- the script is one of the module's own objects
    have e := KX a o hk
    rw [ha] at e
    cases e
    refine core (fun _ => none) (fun _ => .inl rfl) (.inr ⟨_, vs.toArray, _, hk, rfl, rfl, rfl, by rw [List.size_toArray, lenV]; exact hl, by simpa using rv⟩) (fun b u z => by have z' : (none : Option HO) = some u := z; cases z') (fun b z => absurd rfl z) fun z => absurd rfl z
  | none =>
    refine core (fun b => if b = a then some (.frz { cls := .type "list", data := .seq vs.toArray } (.lst (ns.map V.int))) else none) (fun b => ?_) (.inl (.inr ⟨{ cls := .type "list", data := .seq vs.toArray }, if_pos rfl⟩)) (fun b u z => ?_) (fun b z => ?_) fun _ => hk
    · by_cases hb : b = a
      · exact .inr ⟨_, _, if_pos hb⟩
      · exact .inl (if_neg hb)
    · by_cases hb : b = a
      · have z' := (if_pos hb).symm.trans z
        cases z'
        subst hb
        exact ⟨ha, by rw [List.length_map]; exact hl, vs, _, rv, ha⟩
      · have z' := (if_neg hb).symm.trans z
        cases z'
    · by_cases hb : b = a
      · exact hb
      · exact absurd (if_neg hb) z
end L2

namespace L2
open PySem PySem.Spec PyProof.Rows

abbrev KOf {K : PySem.W.Frag} {h : Heap} (_ : K.In h) : PySem.W.Frag := K


theorem walk_of {l : PySem.W.OpenLaw} {n k : Nat} {q : Program} {loose : List Str} {XP : (Str → Option Value) → Heap → Prop} {YP : World → Heap → Prop} {d : DefRec} {K : Params → PySem.W.Frag} {CX : World → CXT} {sp : World → Sp} {x : Str}
    (hn : l.most = some n) (hn2 : n ≤ sizeLine) (hdf : d.params.defaults = []) (hr : Room k callerA)
    (hY : ∀ (w : World) (h : Heap), YP w h → (K w.params).In h)
    (F : ∀ (w : World) (mg : Str → Option Value) (fa : Addr) (h : Heap), (K w.params).In h → h.Ns mainGlobals mg → mg d.name = some (.ref fa) →
      ∃ fd : FuncData, (∀ (s : Shared) (u : Value), BindsTo s fd ⟨[u], []⟩ [(x, u)]) ∧
        ∀ base : Heap, (K w.params).In base → base.Ns mainGlobals mg → FnOk l.prog w (K w.params) mg base (CX w) k fa fd [x] (sp w))
    (hsp : ∀ (w : World) (H : Hp) (a : Addr) (ns : List Int), ns.length ≤ n → Only H → SqL (K w.params) H a (ns.map V.int) → sp w [.ref a] H (fun v _ => v = .bl true) fun _ _ _ => False)
    (hCX : ∀ (w : World) (H : Hp) (s : Shared) (e : Value) (s' : Shared), CX w [] H s (fun _ _ _ => False) e s' → False) :
    PySem.W.WalkO q loose XP YP l.row.toRowW d [] (fun f vs => PySem.call f vs) := by
  refine Att.attach_call hn hdf fun w s₀ s₁ mg mb fa o pm cd doc a vs ns G Y ho hd hcd hmg hobj hints hlen hg => ?_
  have KX := hY w _ Y
  obtain ⟨fd, hb, hF⟩ := F w mg fa _ KX G.T.g hmg
  exact law_call KX G.T.g G.T.b G.T.builtins G.T.nolimit hg hobj hints (Nat.le_trans hlen hn2) hr hF hb (fun H hO hS => hsp w H a ns hlen hO hS) fun H e s' => hCX w H s₁ e s'

theorem walk_ofK {l : PySem.W.OpenLaw} {n k : Nat} {q : Program} {loose : List Str} {XP : (Str → Option Value) → Heap → Prop} {YP : World → Heap → Prop} {d : DefRec} {K : Params → PySem.W.Frag} {CX : CXT} {sp : PySem.W.Frag → Sp} {x : Str}
    (hn : l.most = some n) (hn2 : n ≤ sizeLine) (hdf : d.params.defaults = []) (hr : Room k callerA)
    (hY : ∀ (w : World) (h : Heap), YP w h → (K w.params).In h)
    (F : ∀ (w : World) (mg : Str → Option Value) (fa : Addr) (h : Heap), (K w.params).In h → h.Ns mainGlobals mg → mg d.name = some (.ref fa) →
      ∃ fd : FuncData, (∀ (s : Shared) (u : Value), BindsTo s fd ⟨[u], []⟩ [(x, u)]) ∧
        ∀ base : Heap, (K w.params).In base → base.Ns mainGlobals mg → FnOk l.prog w (K w.params) mg base CX k fa fd [x] (sp (K w.params)))
    (hsp : ∀ (K : PySem.W.Frag) (H : Hp) (a : Addr) (ns : List Int), ns.length ≤ n → Only H → SqL K H a (ns.map V.int) → sp K [.ref a] H (fun v _ => v = .bl true) fun _ _ _ => False)
    (hCX : ∀ (H : Hp) (s : Shared) (e : Value) (s' : Shared), CX [] H s (fun _ _ _ => False) e s' → False) :
    PySem.W.WalkO q loose XP YP l.row.toRowW d [] (fun f vs => PySem.call f vs) :=
  walk_of (K := K) (CX := fun _ => CX) (sp := fun w => sp (K w.params)) hn hn2 hdf hr hY F (fun w H a ns h1 h2 h3 => hsp (K w.params) H a ns h1 h2 h3) fun _ H s e s' => hCX H s e s'
end L2




namespace L2
open PySem PySem.Spec PyProof.Rows



def inClass (s : Stmt) (j : Nat) : Stmt := match s with
  | .ClassDef _ _ _ body _ _ _ _ _ _ _ => body.getD j (.Pass ⟨0, 0, 0, 0⟩)
  | _ => .Pass ⟨0, 0, 0, 0⟩
def defArgs (s : Stmt) : Arguments := match s with
  | .FunctionDef _ a _ _ _ _ _ _ _ _ => a
  | _ => { posonlyargs := [], args := [], vararg := none, kwonlyargs := [], kw_defaults := [], kwarg := none, defaults := [] }
def defBody (s : Stmt) : List Stmt := match s with
  | .FunctionDef _ _ b _ _ _ _ _ _ _ => b
  | _ => []
def defScope (s : Stmt) : Scope := match s with
  | .FunctionDef _ _ _ _ _ _ sc _ _ _ => sc
  | _ => { kind := .function, names := [], isGenerator := false, isCoroutine := false }


abbrev CX0 : CXT := fun _ _ _ _ _ _ => False
abbrev E0 : XK := fun _ _ _ => False
theorem pass0 {X : Cx} : Passes CX0 X E0 := fun _ _ _ _ _ _ _ h => h.elim


structure Fun (K : PySem.W.Frag) (x qual : Str) (st : Stmt) (f : Addr) (fd : FuncData) : Prop where
  ex : ∃ (oc : Value) (od : Option Addr) (kV doc pm : Value) (an : Option Addr) (cdv ct : Value) (osl : Array (Option Value)),
    fd = PySem.W.fnOf x qual (defArgs st) (defBody st) (defScope st) .none kV doc pm an cdv ct ∧ K.lookup f = some ⟨oc, od, .func fd, osl⟩ ∧ PySem.W.codeIn K cdv qual = true
  kp : PySem.W.keepIn K (.ref f) = true
section
variable {P : Program} {w : World} {K : PySem.W.Frag} {mg : Str → Option Value} {base : Heap}

theorem Fun.ok {x qual : Str} {st : Stmt} {f : Addr} {fd : FuncData} {N ps : List Str} {k : Nat} {sp : Sp} (F : Fun K x qual st f fd) (S : FnScope N ps (defScope st)) (len : ∀ vs H Q E, sp vs H Q E → vs.length = ps.length)
    (hbody : ∀ (cdv : Value) (A : Around) (outer : List Env) (s : Shared) (H : Hp) (vs : List V) (Q : VK) (E : XK), Room k (A.deeper (envOfC qual (defScope st) s.heap.objs.size f cdv)) → sp vs H Q E →
      ∃ t, PSs (cxOf CX0 P w K mg base N qual (defScope st) f cdv A outer s H E).nox (defBody st) t ∧ t { nx := fun _ H' => Q .non H', rt := Q } (start N vs) H) : FnOk P w K mg base CX0 (k + 1) f fd ps sp := by
  obtain ⟨oc, od, kV, doc, pm, an, cdv, ct, osl, rfl, lk, hcd⟩ := F.ex
  refine fn_of lk hcd S len fun A outer s H vs Q E hr hsp => ?_
  obtain ⟨t, h, q⟩ := hbody cdv A outer s H vs Q E hr hsp
  exact ⟨t, h.nox, q⟩

theorem Fun.binds {x qual : Str} {st : Stmt} {f : Addr} {fd : FuncData} {ps : List Str} (F : Fun K x qual st f fd)
    (h : ∀ (kV doc pm : Value) (an : Option Addr) (cdv ct : Value) (us : List Value), us.length = ps.length → bindArgs (PySem.W.fnOf x qual (defArgs st) (defBody st) (defScope st) .none kV doc pm an cdv ct) ⟨us, []⟩ = pure (ps.zip us)) : Binds K fd ps [] := by
  obtain ⟨oc, od, kV, doc, pm, an, cdv, ct, osl, rfl, lk, hcd⟩ := F.ex
  exact .all (h kV doc pm an cdv ct)
theorem fun_mk {x qual : Str} {st : Stmt} {f : Addr} {oc : Value} {od an : Option Addr} {osl : Array (Option Value)} {kV doc pm cdv ct : Value} (l : K.lookup f = some ⟨oc, od, .func (PySem.W.fnOf x qual (defArgs st) (defBody st) (defScope st) .none kV doc pm an cdv ct), osl⟩)
    (c : PySem.W.codeIn K cdv qual = true) (k : PySem.W.keepIn K (.ref f) = true) : Fun K x qual st f (PySem.W.fnOf x qual (defArgs st) (defBody st) (defScope st) .none kV doc pm an cdv ct) := ⟨⟨oc, od, kV, doc, pm, an, cdv, ct, osl, rfl, l, c⟩, k⟩
end
theorem small1000 {n : Nat} (h : n ≤ 1000) : n < sizeLine := Nat.lt_of_le_of_lt h (by decide)


section
variable {X : Cx}
theorem pv (i : Nat) {x : Str} {pos : Pos} (hN : X.N[i]? = some x := by rfl) (hv : Vis X.env.scope x := by first | exact Or.inl rfl | exact Or.inr (Or.inl rfl) | exact Or.inr (Or.inr rfl)) (hd : (x == ("__debug__" : Str)) = false := by decide)
    (hcd : (x == ("__classdict__" : Str)) = false := by decide) : PE X (.Name x pos) (tVar i) := pe_var hN hv hd hcd
end


theorem iteF {A B : Prop} (h : B) : if false = true then A else B := by
  rw [if_neg Bool.false_ne_true]
  exact h
theorem iteT {A B : Prop} (h : A) : if true = true then A else B := by
  rw [if_pos rfl]
  exact h
theorem ite2 {c A B : Prop} [Decidable c] (h1 : c → A) (h2 : ¬ c → B) : if c then A else B := by
  by_cases h : c
  · rw [if_pos h]
    exact h1 h
  · rw [if_neg h]
    exact h2 h
def Same (H H' : Hp) : Prop := ∀ b o, H b = some o → H' b = some o
theorem Same.refl (H : Hp) : Same H H := fun _ _ h => h
theorem Same.trans {H H1 H2 : Hp} (a : Same H H1) (b : Same H1 H2) : Same H H2 := fun c o h => b c o (a c o h)
theorem Same.free {H H' : Hp} (e : Same H H') {l : Addr} (h : H' l = Option.none) : H l = Option.none := by
  cases q : H l with
  | none => rfl
  | some o =>
    rw [e l o q] at h
    cases h
theorem Same.seq {K : PySem.W.Frag} {H H' : Hp} {a : Addr} {xs : List V} (e : Same H H') (h : SqL K H a xs) : SqL K H' a xs := by
  rcases h with (h | ⟨o, h⟩) | h
  · exact .inl (.inl (e _ _ h))
  · exact .inl (.inr ⟨o, e _ _ h⟩)
  · exact .inr h

end L2

set_option Elab.async false
set_option linter.all false
set_option maxRecDepth 100000
namespace L2
open PySem PySem.Spec PyProof.Rows


section
variable {κ : Type} [DecidableEq κ]
def valV (kvs : List (κ × V)) (k : κ) : Option V := (kvs.find? fun kv => decide (kv.1 = k)).map (·.2)

def putK (kvs : List (κ × V)) (k : κ) (v : V) : List (κ × V) :=
  if (kvs.any fun kv => decide (kv.1 = k)) = true then kvs.map (fun kv => if kv.1 = k then (kv.1, v) else kv) else kvs ++ [(k, v)]
def dropK (kvs : List (κ × V)) (k : κ) : List (κ × V) := kvs.filter fun kv => decide (kv.1 ≠ k)

theorem valV_pos {p : κ × V} {r : List (κ × V)} {k : κ} (e : p.1 = k) : valV (p :: r) k = some p.2 := by simp [valV, List.find?_cons, e]
theorem valV_neg {p : κ × V} {r : List (κ × V)} {k : κ} (e : ¬ p.1 = k) : valV (p :: r) k = valV r k := by simp [valV, List.find?_cons, e]
theorem valV_any (k : κ) : ∀ kvs : List (κ × V), (kvs.any fun kv => decide (kv.1 = k)) = (valV kvs k).isSome
  | [] => rfl
  | p :: r => by
    rw [List.any_cons]
    by_cases e : p.1 = k
    · simp only [valV_pos e, decide_eq_true e, Bool.true_or, Option.isSome_some]
    · rw [valV_neg e, decide_eq_false e, Bool.false_or]; exact valV_any k r
theorem valV_map (k j : κ) (y : V) : ∀ kvs : List (κ × V), valV (kvs.map fun kv => if kv.1 = k then (kv.1, y) else kv) j = (valV kvs j).map fun x => if j = k then y else x
  | [] => rfl
  | p :: r => by
    have ih := valV_map k j y r
    rw [List.map_cons]
    by_cases h : p.1 = k
    · rw [if_pos h]
      by_cases e : p.1 = j
      · rw [valV_pos (p := (p.1, y)) e, valV_pos e, Option.map_some, if_pos (e.symm.trans h)]
      · rw [valV_neg (p := (p.1, y)) e, valV_neg e, ih]
    · rw [if_neg h]
      by_cases e : p.1 = j
      · rw [valV_pos (p := p) e, valV_pos e, Option.map_some, if_neg (fun z => h (e.trans z))]
      · rw [valV_neg (p := p) e, valV_neg e, ih]
theorem valV_snoc (k j : κ) (y : V) : ∀ kvs : List (κ × V), valV kvs k = none → valV (kvs ++ [(k, y)]) j = if j = k then some y else valV kvs j
  | [], _ => by
    by_cases e : k = j
    · rw [if_pos e.symm]; exact valV_pos (p := (k, y)) e
    · rw [if_neg (fun z => e z.symm)]; exact valV_neg (p := (k, y)) e
  | p :: r, hn => by
    rw [List.cons_append]
    have hk : ¬ p.1 = k := fun z => by rw [valV_pos z] at hn; cases hn
    rw [valV_neg hk] at hn
    have ih := valV_snoc k j y r hn
    by_cases e : p.1 = j
    · rw [valV_pos e, valV_pos e, if_neg (fun z => hk (e.trans z))]
    · rw [valV_neg e, valV_neg e, ih]
theorem valV_put (kvs : List (κ × V)) (k j : κ) (y : V) : valV (putK kvs k y) j = if j = k then some y else valV kvs j := by
  unfold putK
  by_cases a : (kvs.any fun kv => decide (kv.1 = k)) = true
  · rw [if_pos a, valV_map]
    rw [valV_any] at a
    by_cases e : j = k
    · obtain ⟨x, hx⟩ := Option.isSome_iff_exists.mp a
      rw [if_pos e, e, hx, Option.map_some, if_pos rfl]
    · rw [if_neg e]
      cases valV kvs j with
      | none => rfl
      | some x => rw [Option.map_some, if_neg e]
  · rw [if_neg a]
    refine valV_snoc k j y kvs ?_
    rw [valV_any] at a
    cases q : valV kvs k with
    | none => rfl
    | some x => rw [q] at a; exact (a rfl).elim
theorem length_putK (kvs : List (κ × V)) (k : κ) (v : V) : (putK kvs k v).length ≤ kvs.length + 1 := by
  unfold putK
  split
  · rw [List.length_map]; omega
  · rw [List.length_append, List.length_cons, List.length_nil]; omega
theorem putK_new {kvs : List (κ × V)} {k : κ} (v : V) (h : valV kvs k = none) : putK kvs k v = kvs ++ [(k, v)] := by
  unfold putK
  rw [valV_any, h]
  exact if_neg (by decide)

theorem RelO.isSome_eq {o : Option V} {u : Option Value} (r : RelO o u) : o.isSome = u.isSome := by
  cases o with
  | none => cases u with
    | none => rfl
    | some _ => exact (show False from r).elim
  | some _ => cases u with
    | none => exact (show False from r).elim
    | some _ => rfl
theorem RelO.getD {o : Option V} {u : Option Value} {d : V} {d' : Value} (r : RelO o u) (rd : RelV d d') : RelV (o.getD d) (u.getD d') := by
  cases o with
  | none => cases u with
    | none => exact rd
    | some _ => exact (show False from r).elim
  | some _ => cases u with
    | none => exact (show False from r).elim
    | some _ => exact r


theorem KV.val {kvs : List (κ × V)} {vs : List (κ × Value)} (r : KV kvs vs) (k : κ) : RelO (valV kvs k) (valueAt vs k) := by
  unfold KV at r
  induction r with
  | nil => exact True.intro
  | @cons p q ps qs h t ih =>
    obtain ⟨h1, h2⟩ := h
    by_cases e : p.1 = k
    · have e' : q.1 = k := h1.symm.trans e
      have b : valueAt (q :: qs) k = some q.2 := by simp [valueAt, List.find?_cons, e']
      rw [valV_pos e, b]; exact h2
    · have e' : ¬ q.1 = k := fun z => e (h1.trans z)
      have b : valueAt (q :: qs) k = valueAt qs k := by simp [valueAt, List.find?_cons, e']
      rw [valV_neg e, b]; exact ih
theorem KV.any {kvs : List (κ × V)} {vs : List (κ × Value)} (r : KV kvs vs) (k : κ) : (kvs.any fun kv => decide (kv.1 = k)) = vs.any fun kv => decide (kv.1 = k) := by
  unfold KV at r
  induction r with
  | nil => rfl
  | cons h t ih => rw [List.any_cons, List.any_cons, ih, h.1]
theorem KV.repl {kvs : List (κ × V)} {vs : List (κ × Value)} (r : KV kvs vs) (k : κ) {y : V} {u : Value} (ry : RelV y u) :
    KV (kvs.map fun kv => if kv.1 = k then (kv.1, y) else kv) (vs.map fun kv => if kv.1 = k then (kv.1, u) else kv) := by
  unfold KV at r ⊢
  induction r with
  | nil => exact .nil
  | @cons p q ps qs h t ih =>
    rw [List.map_cons, List.map_cons]
    refine .cons ?_ ih
    obtain ⟨h1, h2⟩ := h
    by_cases e : p.1 = k
    · rw [if_pos e, if_pos (h1.symm.trans e)]; exact ⟨h1, ry⟩
    · rw [if_neg e, if_neg (fun z => e (h1.trans z))]; exact ⟨h1, h2⟩
theorem KV.put {kvs : List (κ × V)} {vs : List (κ × Value)} (r : KV kvs vs) (k : κ) {y : V} {u : Value} (ry : RelV y u) : KV (putK kvs k y) (stored vs k u) := by
  unfold putK stored
  rw [r.any k]
  by_cases e : (vs.any fun kv => decide (kv.1 = k)) = true
  · rw [if_pos e, if_pos e]; exact r.repl k ry
  · rw [if_neg e, if_neg e]; exact Paired.snoc r ⟨rfl, ry⟩
theorem KV.drop {kvs : List (κ × V)} {vs : List (κ × Value)} (r : KV kvs vs) (k : κ) : KV (dropK kvs k) (without vs k) := by
  unfold KV at r ⊢
  unfold dropK without
  induction r with
  | nil => exact .nil
  | @cons p q ps qs h t ih =>
    obtain ⟨h1, h2⟩ := h
    rw [List.filter_cons, List.filter_cons]
    by_cases e : p.1 = k
    · have a : ¬ decide (p.1 ≠ k) = true := by simp [e]
      have b : ¬ decide (q.1 ≠ k) = true := by simp [h1.symm.trans e]
      rw [if_neg a, if_neg b]; exact ih
    · have e' : ¬ q.1 = k := fun z => e (h1.trans z)
      have a : decide (p.1 ≠ k) = true := by simp [e]
      have b : decide (q.1 ≠ k) = true := by simp [e']
      rw [if_pos a, if_pos b]; exact .cons ⟨h1, h2⟩ ih
theorem KV.keys {kvs : List (κ × V)} {vs : List (κ × Value)} (r : KV kvs vs) : kvs.map (·.1) = vs.map (·.1) := by
  unfold KV at r
  induction r with
  | nil => rfl
  | cons h t ih => rw [List.map_cons, List.map_cons, ih, h.1]
theorem KV.length {kvs : List (κ × V)} {vs : List (κ × Value)} (r : KV kvs vs) : kvs.length = vs.length := Paired.length r
end



theorem kV_is {P : Program} {w : World} {k : Key} {u : Value} (r : RelV (kV k) u) : (mixKind P w).is k u = true := by
  cases k with
  | inl i => obtain ⟨t, e⟩ := (show ∃ t, u = Value.int i t from r); subst e; exact mixKind_int P w i t
  | inr x => obtain ⟨t, e⟩ := (show ∃ t, u = Value.str x t from r); subst e; exact mixKind_str P w x t
theorem items_are {P : Program} {w : World} : ∀ {ks : List Key} {us : List Value}, Vals (ks.map kV) us → ItemsAre (mixKind P w) ks us
  | [], _, r => by rw [List.map_nil] at r; cases r; exact .nil
  | k :: ks, _, r => by
    rw [List.map_cons] at r
    cases r with
    | cons h t => exact .cons (kV_is h) (items_are t)


abbrev KT (H : Hp) : List (List Key × V) → List (List Key × Addr × Value) → Prop := Paired fun p q => p.1 = q.1 ∧ H q.2.1 = some (.tup (p.1.map kV)) ∧ RelV p.2 q.2.2
theorem KT.val {H : Hp} {kvs : List (List Key × V)} {xs : List (List Key × Addr × Value)} (r : KT H kvs xs) (k : List Key) : RelO (valV kvs k) ((atKey xs k).map (·.2)) := by
  induction r with
  | nil => exact True.intro
  | @cons p q ps qs h t ih =>
    obtain ⟨h1, _, h2⟩ := h
    by_cases e : p.1 = k
    · have e' : q.1 = k := h1.symm.trans e
      have b : atKey (q :: qs) k = some q.2 := by simp [atKey, List.find?_cons, e']
      rw [valV_pos e, b]; exact h2
    · have e' : ¬ q.1 = k := fun z => e (h1.trans z)
      have b : atKey (q :: qs) k = atKey qs k := by simp [atKey, List.find?_cons, e']
      rw [valV_neg e, b]; exact ih
theorem KT.repl {H : Hp} {kvs : List (List Key × V)} {xs : List (List Key × Addr × Value)} (r : KT H kvs xs) (k : List Key) {y : V} {u : Value} (ry : RelV y u) :
    KT H (kvs.map fun kv => if kv.1 = k then (kv.1, y) else kv) (xs.map (putAt k u)) := by
  induction r with
  | nil => exact .nil
  | @cons p q ps qs h t ih =>
    rw [List.map_cons, List.map_cons]
    refine .cons ?_ ih
    obtain ⟨h1, h2, h3⟩ := h
    unfold putAt
    by_cases e : p.1 = k
    · rw [if_pos e, if_pos (h1.symm.trans e)]; exact ⟨h1, h2, ry⟩
    · rw [if_neg e, if_neg (fun z => e (h1.trans z))]; exact ⟨h1, h2, h3⟩
theorem KT.put {H : Hp} {kvs : List (List Key × V)} {xs : List (List Key × Addr × Value)} (r : KT H kvs xs) (k : List Key) {b : Addr} {y : V} {u : Value} (hb : H b = some (.tup (k.map kV))) (ry : RelV y u) :
    KT H (putK kvs k y) (storedH xs k b u) := by
  have e : (kvs.any fun kv => decide (kv.1 = k)) = (atKey xs k).isSome := by
    rw [valV_any, (r.val k).isSome_eq, Option.isSome_map]
  unfold putK storedH
  rw [e]
  by_cases q : (atKey xs k).isSome = true
  · rw [if_pos q, if_pos q]; exact r.repl k ry
  · rw [if_neg q, if_neg q]; exact Paired.snoc r ⟨rfl, hb, ry⟩
theorem KT.keeps {H H' : Hp} {kvs : List (List Key × V)} {xs : List (List Key × Addr × Value)} (r : KT H kvs xs) (ht : ∀ b ys, H b = some (.tup ys) → H' b = some (.tup ys)) : KT H' kvs xs :=
  Paired.mapP r fun _ _ z => ⟨z.1, ht _ _ z.2.1, z.2.2⟩

section
variable {P : Program} {w : World} {H : Hp} {h : Heap} {a : Addr}
theorem rd_of {u : HO} (ok : HOk P w H h) (e : Rd H a u) : ObjOk P w H h a u := e.ok ok
theorem dk_rd {kvs : List (Key × V)} (ok : HOk P w H h) (e : Rd H a (.dK kvs)) : kvs.length ≤ sizeLine ∧ (a == sysModules) = false ∧ ∃ vs, KV kvs vs ∧ h.DictOf (mixKind P w) a vs :=
  show ObjOk P w H h a (.dK kvs) from rd_of ok e
theorem dk_of {kvs : List (Key × V)} (ok : HOk P w H h) (e : H a = some (.dK kvs)) : kvs.length ≤ sizeLine ∧ (a == sysModules) = false ∧ ∃ vs, KV kvs vs ∧ h.DictOf (mixKind P w) a vs := dk_rd ok (.inl e)

theorem key_of {ks : List Key} (ok : HOk P w H h) (e : H a = some (.tup (ks.map kV))) : (tupleKind (mixKind P w)).is h ks a := by
  obtain ⟨_, its, r, o, h1, h2, n, h3⟩ := (show ObjOk P w H h a (.tup (ks.map kV)) from ok a _ e)
  exact ⟨o, its.toArray, n, h1, h2, h3, by simpa using items_are r⟩
theorem dt_rd {kvs : List (List Key × V)} (ok : HOk P w H h) (e : Rd H a (.dT kvs)) : kvs.length ≤ sizeLine ∧ (a == sysModules) = false ∧
    ∃ xs, KT H kvs xs ∧ h.DictOfH (tupleKind (mixKind P w)) a xs := by
  obtain ⟨z, y, xs, r, o, es, ep, h1, h2, h3, h4, h5⟩ := (show ObjOk P w H h a (.dT kvs) from rd_of ok e)
  refine ⟨z, y, xs, r, o, es, ep, h1, h2, h3, h4, fun x hx => ?_, h5⟩
  have all : ∀ {l : List (List Key × V)} {m : List (List Key × Addr × Value)}, KT H l m → ∀ x ∈ m, (tupleKind (mixKind P w)).is h x.1 x.2.1 := by
    intro l m q
    induction q with
    | nil => intro x hx; exact nomatch hx
    | @cons p q ps qs hq t ih =>
      intro x hx
      rcases List.mem_cons.mp hx with e | hx
      · subst e
        exact key_of ok (by rw [← hq.1]; exact hq.2.1)
      · exact ih x hx
  exact all r x hx
theorem dt_of {kvs : List (List Key × V)} (ok : HOk P w H h) (e : H a = some (.dT kvs)) : kvs.length ≤ sizeLine ∧ (a == sysModules) = false ∧
    ∃ xs, KT H kvs xs ∧ h.DictOfH (tupleKind (mixKind P w)) a xs := dt_rd ok (.inl e)
end


def DGet (H : Hp) (a : Addr) (y : V) (r : Option V) : Prop :=
  (∃ kvs k, Rd H a (.dK kvs) ∧ y = kV k ∧ r = valV kvs k) ∨ ∃ kvs k b, Rd H a (.dT kvs) ∧ y = .ref b ∧ H b = some (.tup (k.map kV)) ∧ r = valV kvs k

def DPut (H : Hp) (a : Addr) (y v : V) (H' : Hp) : Prop :=
  (∃ kvs k, H a = some (.dK kvs) ∧ y = kV k ∧ kvs.length < sizeLine ∧ H' = upd H a (.dK (putK kvs k v))) ∨
  ∃ kvs k b, H a = some (.dT kvs) ∧ y = .ref b ∧ H b = some (.tup (k.map kV)) ∧ kvs.length < sizeLine ∧ H' = upd H a (.dT (putK kvs k v))
theorem DGet.k {H : Hp} {a : Addr} {kvs : List (Key × V)} {k : Key} (e : H a = some (.dK kvs)) : DGet H a (kV k) (valV kvs k) := .inl ⟨kvs, k, .inl e, rfl, rfl⟩
theorem DGet.t {H : Hp} {a b : Addr} {kvs : List (List Key × V)} {k : List Key} (e : H a = some (.dT kvs)) (eb : H b = some (.tup (k.map kV))) : DGet H a (.ref b) (valV kvs k) := .inr ⟨kvs, k, b, .inl e, rfl, eb, rfl⟩
theorem DPut.k {H : Hp} {a : Addr} {kvs : List (Key × V)} {k : Key} {v : V} (e : H a = some (.dK kvs)) (hl : kvs.length < sizeLine) : DPut H a (kV k) v (upd H a (.dK (putK kvs k v))) := .inl ⟨kvs, k, e, rfl, hl, rfl⟩
theorem DPut.t {H : Hp} {a b : Addr} {kvs : List (List Key × V)} {k : List Key} {v : V} (e : H a = some (.dT kvs)) (eb : H b = some (.tup (k.map kV))) (hl : kvs.length < sizeLine) :
    DPut H a (.ref b) v (upd H a (.dT (putK kvs k v))) := .inr ⟨kvs, k, b, e, rfl, eb, hl, rfl⟩


section
variable {X : Cx} {pins : List (Addr × Obj)} {σ : St} {H : Hp} {s : Shared} {a : Addr} {y v : V} {u r : Value} {o : Option V} {A : Around} {E : Value → Shared → Prop}

theorem Inv.big (I : Inv X pins σ H s) : sysModules < s.heap.objs.size := by
  have h : mainGlobals < s.heap.objs.size := (I.mod.glob.keeps I.bk).lt
  exact Nat.lt_trans (by decide) h


theorem d_getItem {Q : Value → Shared → Prop} (hu : A.units + 1 < cLine) (I : Inv X pins σ H s) (g : DGet H a y (some v)) (ry : RelV y u) (h : ∀ w' s', Inv X pins σ H s' → RelV v w' → Q w' s') :
    wpAny (model X.prog X.w) A (getItem (.ref a) u) Q E s := by
  rcases g with ⟨kvs, k, e, ey, l⟩ | ⟨kvs, k, b, e, ey, eb, l⟩
  · subst ey
    obtain ⟨z, hd, vs, rel, dd⟩ := dk_rd I.hok e
    obtain ⟨w', hw, rw'⟩ := RelO.some_of (v := v) (o := valueAt vs k) (by rw [l]; exact rel.val k)
    exact wpAny_getItem_of (kV_is ry) dd.mapOf hw (h w' _ (I.tok _) rw')
  · subst ey
    cases (show u = Value.ref b from ry)
    obtain ⟨z, hd, xs, rel, dd⟩ := dt_rd I.hok e
    obtain ⟨w', hw, rw'⟩ := RelO.some_of (v := v) (o := (atKey xs k).map (·.2)) (by rw [l]; exact rel.val k)
    obtain ⟨p, hp, hp2⟩ := Option.map_eq_some_iff.mp hw
    refine wpAny_getItem_heap (tupleKind_room_in1 hu) (key_of I.hok eb) dd hp ?_
    rw [hp2]
    exact h w' _ (I.tok _) rw'

theorem d_in {Q : Value → Shared → Prop} (hu : A.units + 1 < cLine) (I : Inv X pins σ H s) (g : DGet H a y o) (ry : RelV y u) (h : ∀ s', Inv X pins σ H s' → Q (.bool o.isSome) s') :
    wpAny (model X.prog X.w) A (compareOp .In u (.ref a)) Q E s := by
  rcases g with ⟨kvs, k, e, ey, l⟩ | ⟨kvs, k, b, e, ey, eb, l⟩
  · subst ey
    obtain ⟨z, hd, vs, rel, dd⟩ := dk_rd I.hok e
    refine wpAny_in_of (kV_is ry) hd dd.mapOf ?_
    rw [← (rel.val k).isSome_eq, ← l]
    exact h _ (I.tok _)
  · subst ey
    cases (show u = Value.ref b from ry)
    obtain ⟨z, hd, xs, rel, dd⟩ := dt_rd I.hok e
    refine wpAny_in_heap (tupleKind_room_in1 hu) (key_of I.hok eb) hd dd ?_
    have q := (rel.val k).isSome_eq
    rw [Option.isSome_map] at q
    rw [← q, ← l]
    exact h _ (I.tok _)
theorem d_write {h' : Heap} {t' : Nat} {ob : HO} (I : Inv X pins σ H s) (mu : Mut (H a)) (hs : Heap.SameBut a s.heap h') (he : ∃ q, h'.get? a = some q) (new : ObjOk X.prog X.w (upd H a ob) h' a ob) :
    Inv X pins σ (upd H a ob) { s with heap := h', toks := t' } :=
  I.write (x := a) (e := a) mu (.inl rfl) (fun b q hb z => (hs.2 b hb).trans z) he new
theorem dk_new {P : Program} {w : World} {H' : Hp} {h' : Heap} {kvs : List (Key × V)} {vs : List (Key × Value)} (z : kvs.length ≤ sizeLine) (hd : (a == sysModules) = false) (rel : KV kvs vs) (dd : h'.DictOf (mixKind P w) a vs) :
    ObjOk P w H' h' a (.dK kvs) := ⟨z, hd, vs, rel, dd⟩

theorem d_setItem {H' : Hp} {Q : Unit → Shared → Prop} (hu : A.units + 1 < cLine) (I : Inv X pins σ H s) (g : DPut H a y v H') (ry : RelV y u) (rv : RelV v r) (h : ∀ s', Inv X pins σ H' s' → Q () s') :
    wpAny (model X.prog X.w) A (setItem (.ref a) u r) Q E s := by
  rcases g with ⟨kvs, k, e, ey, l, eH⟩ | ⟨kvs, k, b, e, ey, eb, l, eH⟩
  · subst ey eH
    obtain ⟨z, hd, vs, rel, dd⟩ := dk_of I.hok e
    have hz : vs.length ≤ sizeLine := by rw [← rel.length]; exact z
    have hl : (putK kvs k v).length ≤ sizeLine := by have := length_putK kvs k v; omega
    refine wpAny_setItem_pairs (hsz := hz) (kV_is ry) dd fun h' dd' hs => h _ ?_
    have he : ∃ q, h'.get? a = some q := let ⟨q, _, _, hq, _⟩ := dd'; ⟨q, hq⟩
    exact d_write I (by rw [e]; exact True.intro) hs he (dk_new hl hd (rel.put k rv) dd')
  · subst ey eH
    cases (show u = Value.ref b from ry)
    obtain ⟨z, hd, xs, rel, dd⟩ := dt_of I.hok e
    have hz : xs.length ≤ sizeLine := by rw [← Paired.length rel]; exact z
    have hl : (putK kvs k v).length ≤ sizeLine := by have := length_putK kvs k v; omega
    refine wpAny_setItem_heap (hsz := hz) (tupleKind_room_in1 hu) (key_of I.hok eb) dd fun h' dd' hs => h _ ?_
    obtain ⟨q, es, ep, hq, h2, h3, h4, _, h5⟩ := dd'
    refine d_write I (by rw [e]; exact True.intro) hs ⟨q, hq⟩ ⟨hl, hd, _, (rel.put k eb rv).keeps fun c ys ec => ?_, q, es, ep, hq, h2, h3, h4, h5⟩
    rw [upd_ne (ne_of ec e (fun z => nomatch z))]
    exact ec
end

section
variable {X : Cx} {pins : List (Addr × Obj)} {σ : St} {H : Hp} {s : Shared} {a : Addr} {kvs : List (Key × V)} {k : Key} {u : Value} {A : Around} {E : Value → Shared → Prop}

end




def NoSl (i : Expr) : Prop := ∀ ov iv, subscripted i false ov iv = operate [ov, iv] (getItem ov iv)
theorem subD_of {prog : Program} {w : World} {A : Around} {E : Value → Shared → Prop} {s : Shared} {env : Env} {value slice : Expr} {pos : Pos} {T id : String} {Q : Value → Shared → Prop}
    (hl : typeLookup (.type T) "__getitem__" = pure (some (.builtin id))) (hs : NoSl slice)
    (h : wpAny (model prog w) A (eval value env) (fun o s₁ => wpAny (model prog w) A (eval slice env) (fun i s₂ => s₂.TypeIs o T ∧ wpAny (model prog w) A (getItem o i) Q E s₂) E s₁) E s) :
    wpAny (model prog w) A (eval (.Subscript value slice pos) env) Q E s := by
  refine Subscript_ (wpAny_mono h (fun o s₁ h₁ => wpAny_mono h₁ (fun i s₂ h₂ => ?_) fun _ _ x => x) fun _ _ x => x)
  obtain ⟨hT, h₂⟩ := h₂
  unfold subscriptTail
  refine wpAny_bind ?_
  rw [getitemInPython_of_ne hT.not_modules]
  refine wpAny_bind (wpAny_specialOf hT hl ?_)
  have fin : wpAny (model prog w) A (subscripted slice false o i) (fun r s₃ => wpAny (model prog w) A (letTemporaryGo value o r >>= fun _ => pure r) Q E s₃) E s₂ := by
    rw [hs o i]
    exact wpAny_operating (wpAny_mono h₂ (fun r s₃ h₃ => wpAny_bind (wpAny_letTemporaryGo (wpAny_pure h₃))) fun _ _ x => x)
  first
    | exact wpAny_pure (wpAny_bind fin)
    | exact wpAny_bind (wpAny_pure (wpAny_bind fin))
    | exact wpAny_bind fin

theorem dict_typeIs {X : Cx} {pins : List (Addr × Obj)} {σ : St} {H : Hp} {s : Shared} {a : Addr} {y : V} {o : Option V} (I : Inv X pins σ H s) (g : DGet H a y o) : s.TypeIs (.ref a) "dict" := by
  rcases g with ⟨kvs, k, e, _, _⟩ | ⟨kvs, k, b, e, _, _, _⟩
  · obtain ⟨_, _, vs, _, dd⟩ := dk_rd I.hok e
    exact dd.typeIs
  · obtain ⟨_, _, xs, _, dd⟩ := dt_rd I.hok e
    exact dd.typeIs
def tDGet (td ty : TE) : TE := fun σ H Q => td σ H fun x H1 => ty σ H1 fun y H2 => ∃ a v, x = .ref a ∧ DGet H2 a y (some v) ∧ Q v H2

def tDIn (ty td : TE) : TE := fun σ H Q => ty σ H fun y H1 => td σ H1 fun x H2 => ∃ a o, x = .ref a ∧ DGet H2 a y o ∧ Q (.bl o.isSome) H2
def sDPut (td ty tv : TE) : TS := fun D σ H => tv σ H fun v H1 => td σ H1 fun x H2 => ty σ H2 fun y H3 => ∃ a H4, x = .ref a ∧ DPut H3 a y v H4 ∧ D.nx σ H4

section
variable {X : Cx} {o i e value : Expr} {pos pos' tpos : Pos} {td ty tv : TE}
theorem pe_dget (hu : X.A.units + 1 < cLine) (ho : PE X o td) (hi : PE X i ty) (hs : NoSl i) : PE X (.Subscript o i pos) (tDGet td ty) := by
  intro pins s σ H Q I h
  refine subD_of PySem.F.slot_dict_getitem.lookup hs (thn (ho pins s σ H _ I h) fun u s1 ⟨x, H1, I1, rx, q1⟩ => thn (hi pins s1 σ H1 _ I1 q1) fun iv s2 ⟨y, H2, I2, ry, a, v, ex, g, q2⟩ => ?_)
  subst ex
  obtain rfl : u = Value.ref a := rx
  exact ⟨dict_typeIs I2 g, d_getItem hu I2 g ry fun w' s3 I3 rw' => ⟨v, H2, I3, rw', q2⟩⟩
theorem pc_din (hu : X.A.units + 1 < cLine) (hi : PE X i ty) (ho : PE X o td) : PC X .In i o (tDIn ty td) := by
  intro pins s σ H Q I h
  refine thn (hi pins s σ H _ I h) fun iv s1 ⟨y, H1, I1, ry, q1⟩ => thn (ho pins s1 σ H1 _ I1 q1) fun u s2 ⟨x, H2, I2, rx, a, ov, ex, g, q2⟩ => ?_
  subst ex
  obtain rfl : u = Value.ref a := rx
  exact d_in hu I2 g ry fun s3 I3 => ⟨.bl ov.isSome, H2, I3, rfl, q2⟩
theorem ps_dput (hu : X.A.units + 1 < cLine) (ho : PE X o td) (hi : PE X i ty) (hv : PE X value tv) (hs : swapsWith value (some (.Subscript o i pos')) pos.line X.env = pure false) :
    PS X (.Assign [.Subscript o i pos'] value pos) (sDPut td ty tv) := by
  intro pins s σ H D I h
  refine wpAny_Assign_Subscript (thn (hv pins s σ H _ I h) fun r s1 ⟨v, H1, I1, rv, q1⟩ => thn (ho pins s1 σ H1 _ I1 q1) fun u s2 ⟨x, H2, I2, rx, q2⟩ => thn (hi pins s2 σ H2 _ I2 q2) fun iv s3 ⟨y, H3, I3, ry, a, H4, ex, g, q3⟩ => ?_) hs
  subst ex
  obtain rfl : u = Value.ref a := rx
  exact d_setItem hu I3 g ry rv fun s4 I4 => ⟨σ, H4, I4, q3⟩
end



theorem dk_empty {P : Program} {w : World} {H : Hp} (h : Heap) (hb : sysModules < h.objs.size) : ObjOk P w H (h.push { cls := .type "dict", data := .dict #[] }) h.objs.size (.dK []) :=
  ⟨Nat.zero_le _, beq_eq_false_iff_ne.mpr (Ne.symm (Nat.ne_of_lt hb)), [], .nil, Heap.DictOf.new h⟩
def tDNewK : TE := fun _ H Q => ∀ p, H p = none → Q (.ref p) (upd H p (.dK []))
section
variable {X : Cx} {pos : Pos}
theorem pe_dnewK : PE X (.Dict [] [] pos) tDNewK := fun pins s σ H Q I h =>
  wpAny_Dict_empty ⟨.ref s.heap.objs.size, _, I.laid (a := s.heap.objs.size) (o := .dK []) (t' := s.toks) (fun _ _ q => Heap.get?_push_of_some _ q) (Nat.le_refl _) (dk_empty s.heap I.big), rfl, h _ (I.hok.fresh (Nat.le_refl _))⟩
end


def tPairs : List (TE × TE) → St → Hp → (List (V × V) → Hp → Prop) → Prop
  | [], _, H, Q => Q [] H
  | (tk, tv) :: r, σ, H, Q => tk σ H fun x H1 => tv σ H1 fun y H2 => tPairs r σ H2 fun ps H3 => Q ((x, y) :: ps) H3
abbrev VV : List (V × V) → List (Value × Value) → Prop := Paired fun p q => RelV p.1 q.1 ∧ RelV p.2 q.2
def PPs (X : Cx) (pos : Pos) (keys : List (Option Expr)) (values : List Expr) (trs : List (TE × TE)) : Prop :=
  ∀ (pins : List (Addr × Obj)) (s : Shared) (σ : St) (H : Hp) (Q : List (V × V) → Hp → Prop), Inv X pins σ H s → tPairs trs σ H Q →
    wpAny (model X.prog X.w) X.A (evalPairs (pairTrees keys values X.env pos)) (fun vs s' => ∃ ps H', Inv X pins σ H' s' ∧ VV ps vs ∧ Q ps H') X.xe s
theorem pps_nil {X : Cx} {pos : Pos} : PPs X pos [] [] [] := fun pins s σ H Q I h => pairTrees_nil_walk ⟨[], H, I, .nil, h⟩
theorem pps_cons {X : Cx} {pos : Pos} {k v : Expr} {ks : List (Option Expr)} {vs : List Expr} {tk tv : TE} {trs : List (TE × TE)} (hk : PE X k tk) (hv : PE X v tv) (hr : PPs X pos ks vs trs) :
    PPs X pos (some k :: ks) (v :: vs) ((tk, tv) :: trs) := fun pins s σ H Q I h =>
  pairTrees_cons_walk (thn (hk pins s σ H _ I h) fun u s1 ⟨x, H1, I1, rx, q1⟩ => thn (hv pins s1 σ H1 _ I1 q1) fun w2 s2 ⟨y, H2, I2, ry, q2⟩ =>
    thn (hr pins s2 σ H2 _ I2 q2) fun ws s3 ⟨ps, H3, I3, rel, q3⟩ => ⟨(x, y) :: ps, H3, I3, .cons ⟨rx, ry⟩ rel, q3⟩)

structure M2 (X : Cx) (o : Expr) (m : Str) (apos : Pos) (e f : Expr) (cpos : Pos) : Prop where
  base : attributeBase o m X.env (eval o X.env) = eval o X.env
  few : ((backTo cpos (starEach [e, f] X.env)).all (fun x => !x.1) && (backToKw cpos (keywordEach [] X.env)).all (fun x => x.1.isSome)
    && decide (([e, f] : List Expr).length + ([] : List Keyword).length + (if ([] : List Keyword).isEmpty then 0 else 1) < 30)) = true
  line : (apos.endLine == cpos.line) = true
  trees : backTo cpos (starEach [e, f] X.env) = [(false, eval e X.env), (false, eval f X.env)]


def IsD (H : Hp) (a : Addr) : Prop := (∃ kvs, Rd H a (.dK kvs)) ∨ ∃ kvs, Rd H a (.dT kvs)
theorem isD_at {X : Cx} {pins : List (Addr × Obj)} {σ : St} {H : Hp} {s : Shared} {a : Addr} (I : Inv X pins σ H s) (d : IsD H a) :
    s.TypeIs (.ref a) "dict" ∧ (∀ b, Value.ref a = .ref b → ∃ ob, s.heap.get? b = some ob ∧ ob.dict = none) ∧ (a == sysModules) = false := by
  rcases d with ⟨kvs, e⟩ | ⟨kvs, e⟩
  · obtain ⟨_, hd, vs, _, dd⟩ := dk_rd I.hok e
    refine ⟨dd.typeIs, fun b q => ?_, hd⟩
    cases q
    obtain ⟨ob, _, _, h1, h2, _⟩ := dd
    exact ⟨ob, h1, h2.2.1⟩
  · obtain ⟨_, hd, xs, _, dd⟩ := dt_rd I.hok e
    refine ⟨dd.typeIs, fun b q => ?_, hd⟩
    cases q
    obtain ⟨ob, _, _, h1, h2, _⟩ := dd
    exact ⟨ob, h1, h2.2.1⟩

section
variable {X : Cx} {pins : List (Addr × Obj)} {σ : St} {H : Hp} {s : Shared} {a : Addr} {y d : V} {u r : Value} {o : Option V} {A : Around} {E : Value → Shared → Prop}

end

section
variable {X : Cx} {o e f : Expr} {apos cpos : Pos} {td ty tx : TE}
end


section
variable {X : Cx} {pins : List (Addr × Obj)} {σ : St} {H : Hp} {s : Shared} {a : Addr} {kvs : List (Key × V)} {A : Around} {E : Value → Shared → Prop}
end


section
variable {X : Cx} {pins : List (Addr × Obj)} {σ : St} {H : Hp} {s : Shared} {a : Addr} {y : V} {u : Value} {A : Around} {E : Value → Shared → Prop}

end
end L2

set_option Elab.async false
set_option linter.all false
set_option maxRecDepth 100000
set_option maxHeartbeats 4000000

namespace L2
open PySem PySem.Spec PyProof.Rows


def closL : List (Str × NameKind) → List (Str × Addr) → List (Str × Addr) → List (Str × Addr)
  | [], _, acc => acc
  | (n, k) :: r, cells, acc => if k == .free then closL r cells ((n, (cells.lookup n).getD 0) :: acc) else closL r cells acc
theorem closL_for {env : Env} : ∀ (names : List (Str × NameKind)) (acc : List (Str × Addr)), (∀ y ∈ names, y.2 = .free → ∃ c, env.cells.lookup y.1 = some c) →
    (forIn names acc fun x r => (match x with | (name, kind) => if (kind == NameKind.free) = true then do let a ← cellOf env name; pure (ForInStep.yield ((name, a) :: r)) else pure (ForInStep.yield r) : Sem (ForInStep (List (Str × Addr))))) = (pure (closL names env.cells acc) : Sem (List (Str × Addr)))
  | [], acc, _ => rfl
  | (n, k) :: r, acc, h => by
    have ih := fun acc => closL_for (env := env) r acc fun y hy => h y (List.mem_cons_of_mem _ hy)
    rw [List.forIn_cons]
    unfold closL
    cases hk : (k == NameKind.free) with
    | true =>
      obtain ⟨c, hc⟩ := h (n, k) List.mem_cons_self (by simpa using hk)
      have hc : env.cells.lookup n = some c := hc
      have e : cellOf env n = pure c := by unfold cellOf; rw [hc]
      simp only [hk, if_true, e, pure_bind, hc, Option.getD_some]
      exact ih _
    | false =>
      simp only [hk, Bool.false_eq_true, if_false, pure_bind]
      exact ih _
theorem closL_eq {scope : Scope} {env : Env} (h : ∀ y ∈ scope.names, y.2 = .free → ∃ c, env.cells.lookup y.1 = some c) : closureFor scope env = pure (closL scope.names env.cells []) := by
  have e := closL_for (env := env) scope.names [] h
  unfold closureFor
  first
    | (rw [e]; rfl)
    | (simp only [e]; rfl)
    | exact (congrArg (fun t => t >>= fun r => pure r) e)
theorem closL_sub {cells : List (Str × Addr)} : ∀ (names : List (Str × NameKind)) (acc : List (Str × Addr)), (∀ y ∈ names, y.2 = .free → ∃ c, cells.lookup y.1 = some c) → (∀ x c, acc.lookup x = some c → cells.lookup x = some c) →
    ∀ x c, (closL names cells acc).lookup x = some c → cells.lookup x = some c
  | [], acc, _, h2 => h2
  | (n, k) :: r, acc, h, h2 => by
    unfold closL
    cases hk : (k == NameKind.free) with
    | true =>
      rw [if_pos rfl]
      refine closL_sub r _ (fun y hy => h y (List.mem_cons_of_mem _ hy)) fun x c e => ?_
      obtain ⟨c', hc⟩ := h (n, k) List.mem_cons_self (by simpa using hk)
      have hc : cells.lookup n = some c' := hc
      rw [List.lookup_cons] at e
      cases hx : x == n with
      | true =>
        have hx' : x = n := by simpa using hx
        rw [hx] at e
        rw [hx', hc]
        simpa [hc] using e
      | false =>
        rw [hx] at e
        exact h2 x c e
    | false =>
      rw [if_neg (by simp)]
      exact closL_sub r _ (fun y hy => h y (List.mem_cons_of_mem _ hy)) h2
theorem closL_acc {cells : List (Str × Addr)} {x : Str} : ∀ (names : List (Str × NameKind)) (acc : List (Str × Addr)), (acc.lookup x).isSome = true → ((closL names cells acc).lookup x).isSome = true
  | [], _, h => h
  | (n, k) :: r, acc, h => by
    unfold closL
    split
    · refine closL_acc r _ ?_
      rw [List.lookup_cons]
      cases x == n <;> simp [h]
    · exact closL_acc r _ h
theorem closL_has {cells : List (Str × Addr)} {x : Str} : ∀ (names : List (Str × NameKind)) (acc : List (Str × Addr)), (x, NameKind.free) ∈ names → ((closL names cells acc).lookup x).isSome = true
  | (n, k) :: r, acc, h => by
    unfold closL
    rcases List.mem_cons.mp h with e | e
    · cases e
      rw [if_pos (by rfl)]
      exact closL_acc r _ (by rw [List.lookup_cons]; simp)
    · split
      · exact closL_has r _ e
      · exact closL_has r _ e


def compCx (X : Cx) (N' : List Str) (scope : Scope) (C : Addr) (s : Shared) (H : Hp) (fp : List Addr) : Cx :=
  { X with N := N', s₀ := s, H₀ := H, env := compEnvC scope (closL scope.names X.env.cells []) C X.env, outer := X.stack, stack := X.stack, ex := fp, fn := fun _ => false, pn := [], xe := fun _ _ => False }
def cap (js : List (Option Nat)) (σ : St) : St := js.map fun o => o.bind fun j => (σ[j]?).join

def compOk (scope osc : Scope) (N' N : List Str) (js : List (Option Nat)) : Bool :=
  (scope.kind == .function) && (scope.names.all fun y => y.2 != .cell && (if y.2 == .local then scope.names.lookup y.1 == some .local else true) &&
    (if y.2 == .free then osc.names.lookup y.1 == some .cell || osc.names.lookup y.1 == some .free else true)) &&
  js.length == N'.length && ((js.zip N').all fun q => match q.1 with
    | none => true
    | some j => N[j]? == some q.2 && (osc.names.lookup q.2 == some .cell || osc.names.lookup q.2 == some .free) && scope.names.lookup q.2 == some .free)
structure CompOk (scope osc : Scope) (N' N : List Str) (js : List (Option Nat)) : Prop where
  kind : scope.kind = .function
  nocell : ∀ y ∈ scope.names, y.2 ≠ .cell
  names : ∀ y ∈ scope.names, y.2 = .local → scope.names.lookup y.1 = some .local
  free : ∀ y ∈ scope.names, y.2 = .free → osc.names.lookup y.1 = some .cell ∨ osc.names.lookup y.1 = some .free
  len : js.length = N'.length
  slots : ∀ (i j : Nat) (x : Str), js[i]? = some (some j) → N'[i]? = some x → N[j]? = some x ∧ (osc.names.lookup x = some .cell ∨ osc.names.lookup x = some .free) ∧ scope.names.lookup x = some .free
theorem compOk_of {scope osc : Scope} {N' N : List Str} {js : List (Option Nat)} (h : compOk scope osc N' N js = true) : CompOk scope osc N' N js := by
  unfold compOk at h
  rw [Bool.and_eq_true, Bool.and_eq_true, Bool.and_eq_true, List.all_eq_true, List.all_eq_true] at h
  obtain ⟨⟨⟨h1, h2⟩, h3⟩, h4⟩ := h
  refine ⟨by cases hk : scope.kind <;> first | rfl | (rw [hk] at h1; cases h1), fun y hy e => ?_, fun y hy e => ?_, fun y hy e => ?_, by simpa using h3, fun i j x e1 e2 => ?_⟩
  · have q := h2 y hy
    rw [e] at q
    simp at q
  · have q := h2 y hy
    rw [Bool.and_eq_true, Bool.and_eq_true] at q
    have q2 := q.1.2
    rw [e] at q2
    simpa using q2
  · have q := h2 y hy
    rw [Bool.and_eq_true, Bool.and_eq_true] at q
    have q2 := q.2
    rw [e] at q2
    simpa using q2
  · have hm : (some j, x) ∈ js.zip N' := by
      refine List.mem_of_getElem? (i := i) ?_
      rw [List.getElem?_zip_eq_some]
      exact ⟨e1, e2⟩
    have q := h4 _ hm
    simp only [Bool.and_eq_true, Bool.or_eq_true, beq_iff_eq] at q
    exact ⟨q.1.1, q.1.2, q.2⟩
theorem relabel_lookup {env : Env} : ∀ (names : List (Str × NameKind)) (x : Str), names.lookup x = some .free →
    ((names.map fun (n, k) => if (k == NameKind.free && env.scope.kind == .function && env.kindOf n == some .cell) then (n, NameKind.cell) else (n, k)).lookup x = some .cell ∨
      (names.map fun (n, k) => if (k == NameKind.free && env.scope.kind == .function && env.kindOf n == some .cell) then (n, NameKind.cell) else (n, k)).lookup x = some .free)
  | [], x, h => by simp at h
  | (n, k) :: r, x, h => by
    have ih := relabel_lookup (env := env) r x
    rw [List.map_cons]
    rw [List.lookup_cons] at h
    by_cases hb : (k == NameKind.free && env.scope.kind == .function && env.kindOf n == some .cell) = true
    · have e1 : (if (k == NameKind.free && env.scope.kind == .function && env.kindOf n == some .cell) = true then (n, NameKind.cell) else (n, k)) = (n, NameKind.cell) := if_pos hb
      simp only [e1, List.lookup_cons]
      cases hx : x == n with
      | true => exact .inl rfl
      | false =>
        rw [hx] at h
        exact ih h
    · have e1 : (if (k == NameKind.free && env.scope.kind == .function && env.kindOf n == some .cell) = true then (n, NameKind.cell) else (n, k)) = (n, k) := if_neg hb
      simp only [e1, List.lookup_cons]
      cases hx : x == n with
      | true =>
        rw [hx] at h
        exact .inr h
      | false =>
        rw [hx] at h
        exact ih h
theorem relabel_free {scope : Scope} {env : Env} : ∀ (names : List (Str × NameKind)) (x : Str), (∀ y ∈ names, y.2 ≠ .cell) →
    ((names.map fun (n, k) => if (k == NameKind.free && env.scope.kind == .function && env.kindOf n == some .cell) then (n, NameKind.cell) else (n, k)).lookup x = some .cell ∨
      (names.map fun (n, k) => if (k == NameKind.free && env.scope.kind == .function && env.kindOf n == some .cell) then (n, NameKind.cell) else (n, k)).lookup x = some .free) → (x, NameKind.free) ∈ names
  | [], x, _, h => by simp at h
  | (n, k) :: r, x, hc, h => by
    have ih := relabel_free (scope := scope) (env := env) r x fun y hy => hc y (List.mem_cons_of_mem _ hy)
    rw [List.map_cons] at h
    by_cases hb : (k == NameKind.free && env.scope.kind == .function && env.kindOf n == some .cell) = true
    · have hkf : k = .free := by
        rw [Bool.and_eq_true, Bool.and_eq_true] at hb
        simpa using hb.1.1
      have e1 : (if (k == NameKind.free && env.scope.kind == .function && env.kindOf n == some .cell) = true then (n, NameKind.cell) else (n, k)) = (n, NameKind.cell) := if_pos hb
      simp only [e1, List.lookup_cons] at h
      cases hx : x == n with
      | true =>
        have hx' : x = n := by simpa using hx
        rw [hx', hkf]
        exact List.mem_cons_self
      | false =>
        rw [hx] at h
        exact List.mem_cons_of_mem _ (ih h)
    · have e1 : (if (k == NameKind.free && env.scope.kind == .function && env.kindOf n == some .cell) = true then (n, NameKind.cell) else (n, k)) = (n, k) := if_neg hb
      simp only [e1, List.lookup_cons] at h
      cases hx : x == n with
      | true =>
        have hx' : x = n := by simpa using hx
        rw [hx] at h
        rcases h with h | h
        · exact absurd (Option.some.inj h) (hc (n, k) List.mem_cons_self)
        · have hkf : k = .free := Option.some.inj h
          rw [hx', hkf]
          exact List.mem_cons_self
      | false =>
        rw [hx] at h
        exact List.mem_cons_of_mem _ (ih h)

theorem Un.sameBut {fs ex : List Addr} {H H' : Hp} {h h1 h2 : Heap} {C : Addr} (u : Un fs ex H H' h h1) (hs : Heap.SameBut C h1 h2) (hC : h.objs.size ≤ C) : Un fs ex H H' h h2 := by
  have ne : ∀ b o, h.get? b = some o → b ≠ C := fun b o e => Nat.ne_of_lt (Nat.lt_of_lt_of_le (Heap.lt_size e) hC)
  refine ⟨fun b o e n hb hx => (hs.2 b (ne b o e)).trans (u.keep b o e n hb hx), fun b o e n hb hx => ?_, u.free, fun b o e hx => ?_, u.tups, u.frzs, u.tbls⟩
  · obtain ⟨sl, q⟩ := u.slot b o e n hb hx
    exact ⟨sl, (hs.2 b (ne b o e)).trans q⟩
  · obtain ⟨o', q⟩ := u.there b o e hx
    exact ⟨o', (hs.2 b (ne b o e)).trans q⟩

theorem thn0 {α : Type} {t : Sem α} {Q Q' : α → Shared → Prop} {M : Model} {A : Around} {E : Value → Shared → Prop} {s : Shared} (h : wpAny M A t Q (fun _ _ => False) s) (hQ : ∀ a s, Q a s → Q' a s) : wpAny M A t Q' E s := wpAny_mono h hQ fun _ _ f => f.elim

theorem comp_loop {prog : Program} {w : World} {A : Around} {R : Result → Shared → Prop} {s : Shared} {elt target iter : Expr} {ifs : List Expr} {scope : Scope} {pos : Pos} {it acc : Value} {env : Env} (I : Nat → Shared → Prop)
    (turn : ∀ n s, I n s → wpAny (model prog w) A (pyNext it) (fun r s₁ => match r with
      | none => R (.ok .next) s₁
      | some v => wpAny (model prog w) A (letOwnedTupleGo target it v) (fun _ s₂ => wpAny (model prog w) A (assign target env v) (fun _ s₃ =>
          wpAny (model prog w) A (forIn ifs true fun c r => if r = true then do let ok ← isTrue c env (eval c env); pure (ForInStep.yield ok) else pure (ForInStep.yield r)) (fun ok s₄ =>
            if ok = true then wpAny (model prog w) A (eval elt env) (fun x s₅ =>
              wpAny (model prog w) A (call (.builtin "list.append") [acc, x]) (fun _ s₆ => ∃ m, m < n ∧ I m s₆) (fun _ _ => False) s₅) (fun _ _ => False) s₄
            else ∃ m, m < n ∧ I m s₄) (fun _ _ => False) s₃) (fun _ _ => False) s₂) (fun _ _ => False) s₁) (fun _ _ => False) s)
    (n : Nat) (h : I n s) : codeAny (model prog w) A (.compLoop (.ListComp elt [⟨target, iter, ifs, 0⟩] scope pos) 0 it acc env) R s := by
  refine codeAny_loop rfl I (fun n s hI => ?_) n h
  show wpAny _ A ((compTurn (.ListComp elt [⟨target, iter, ifs, 0⟩] scope pos) 0 it acc env).onRaise (fun x => do noteFrame x env; theTreesLotGoes x)) _ _ s
  refine wpAny_noted ?_
  rw [compTurn_list]
  refine wpAny_bind (wpAny_standAt (wpAny_bind (thn0 (turn n s hI) fun r s₁ h₁ => ?_)))
  cases r with
  | none => exact wpAny_pure h₁
  | some v =>
    refine wpAny_bind (thn0 h₁ fun _ s₂ h₂ => wpAny_bind (thn0 h₂ fun _ s₃ h₃ => wpAny_bind (thn0 h₃ fun ok s₄ h₄ => ?_)))
    cases ok with
    | false => exact wpAny_pure ⟨rfl, h₄⟩
    | true =>
      exact wpAny_bind (wpAny_bind (thn0 h₄ fun x s₅ h₅ => wpAny_bind (thn0 h₅ fun _ s₆ h₆ => wpAny_pure (wpAny_pure ⟨rfl, h₆⟩))))


def PIf (X : Cx) (ifs : List Expr) (t : TT) : Prop :=
  ∀ (pins : List (Addr × Obj)) (s : Shared) (σ : St) (H : Hp) (Q : Bool → Hp → Prop), Inv X pins σ H s → t σ H Q →
    wpAny (model X.prog X.w) X.A (forIn ifs true fun c r => if r = true then do let ok ← isTrue c X.env (eval c X.env); pure (ForInStep.yield ok) else pure (ForInStep.yield r)) (TP X pins σ Q) X.xe s
def tYes : TT := fun _ H Q => Q true H
theorem pif_nil {X : Cx} : PIf X [] tYes := fun _ _ _ H _ I h => wpAny_tests_nil ⟨H, I, h⟩
theorem pif_one {X : Cx} {c : Expr} {t : TT} (h : PT X c t) : PIf X [c] t := fun pins s σ H Q I hq => wpAny_tests_one (h pins s σ H Q I hq)


def OwnG (js : List (Option Nat)) (g : TG) : Prop := ∀ (x : V) (σ : St) (H : Hp) (Q : St → Hp → Prop), σ.length = js.length → g x σ H Q → g x σ H fun σ' H' => Q σ' H' ∧ σ'.length = js.length ∧ ∀ (i j : Nat), js[i]? = some (some j) → σ'[i]? = σ[i]?
theorem own_name {js : List (Option Nat)} {i : Nat} (h : js[i]? = some none := by rfl) : OwnG js (gName i) := fun x σ H Q hl q => ⟨q, by rw [List.length_set]; exact hl, fun k j e => by
  rw [List.getElem?_set_ne]
  intro z
  subst z
  rw [h] at e
  cases e⟩
def CompW (J : It) (g : TG) (tif : TT) (te : TE) (js : List (Option Nat)) (σ : St) (Q : VK) (p : Addr) (H1 : Hp) : Prop :=
  ∃ W : Nat → Nat → List V → Hp → Prop, (∃ m, W 0 m [] (upd H1 p (.lst []))) ∧ ∀ i m acc H2, W i m acc H2 → H2 p = some (.lst acc) ∧
    ((J.stop i H2 ∧ Q (.ref p) H2) ∨ (J.go i H2 ∧ acc.length < sizeLine ∧ ∃ N : List V → Hp → Prop, (∀ acc' H', N acc' H' → ∃ m', m' < m ∧ W (i + 1) m' acc' H') ∧
      ∀ x H', J.yld i H2 x H' → g x (cap js σ) H' fun σ2 H3 => tif σ2 H3 fun c H4 =>
        if c = true then te σ2 H4 fun y H5 => H5 p = some (.lst acc) ∧ N (acc ++ [y]) (upd H5 p (.lst (acc ++ [y]))) else N acc H4))

def tComp (wi : TI) (g : TG) (tif : TT) (te : TE) (js : List (Option Nat)) : TE := fun σ H Q => wi σ H fun J H1 => ∀ p, H1 p = none → CompW J g tif te js σ Q p H1

theorem comp_core {X : Cx} {use : Option (Value → Sem Unit)} {Q' : Value → Shared → Prop} {Q : VK} {pins : List (Addr × Obj)} {s : Shared} {σ : St} {H : Hp} {elt target iter : Expr} {ifs : List Expr} {scope : Scope} {pos : Pos} {wi : TI} {g : TG} {tif : TT} {te : TE} {N' : List Str} {js : List (Option Nat)} (hok : compOk scope X.env.scope N' X.N js = true) (hc : X.calm = true)
    (hi : PI X target iter wi) (ho : OwnG js g) (hg : ∀ C s H fp, PG (compCx X N' scope C s H fp) target g) (hif : ∀ C s H fp, PIf (compCx X N' scope C s H fp) ifs tif) (he : ∀ C s H fp, PE (compCx X N' scope C s H fp) elt te)
    (hs : ∀ x, foldedSetIterable iter X.env x = pure x) (I : Inv X pins σ H s) (h : tComp wi g tif te js σ H Q)
    (hfin : ∀ (s2 : Shared) (H2 : Hp) (fp : List Addr) (C : Addr), Inv X pins σ H2 s2 → (∀ b ∈ fp, FpOk X pins H2 b) → s2.heap.objs.size ≤ C → ∀ (σ' : St) (H' : Hp) (s' : Shared), Inv (compCx X N' scope C s2 H2 fp) [] σ' H' s' → Q (.ref s2.heap.objs.size) H' →
      compPost (model X.prog X.w) X.A X.xe use Q' (.ref s2.heap.objs.size) C (.ok .next) s') :
    wpAny (model X.prog X.w) X.A (comprehension (.ListComp elt [⟨target, iter, ifs, 0⟩] scope pos) scope X.env (firstIterPos [⟨target, iter, ifs, 0⟩] pos) (newList []) false (eval iter X.env) use) Q' X.xe s := by
  have O := compOk_of hok
  have hfr : ∀ y ∈ scope.names, y.2 = .free → ∃ c, X.env.cells.lookup y.1 = some c := fun y hy e => I.ok.has y.1 (O.free y hy e)
  refine wpAny_comprehension_free (use := use) rfl hs (closL_eq hfr) O.kind O.names (thn (hi pins s σ H _ I h) fun v s1 h1 => thn h1 fun itv s2 h2 => ?_)
  obtain ⟨it, fp, tn, J, H2, e, I2, T, st2, f2, hq⟩ := h2
  subst e
  have hf0 : H2 s2.heap.objs.size = none := I2.hok.fresh (Nat.le_refl _)
  obtain ⟨W, ⟨m0, w0⟩, turn⟩ := hq _ hf0
  refine wpAny_newObj_type (wpAny_newFunctionEnv O.nocell (by intro y hy; simp at hy) (fun h₁ hns₁ hsb₁ => ?_) O.kind)
  dsimp only at hns₁ hsb₁ ⊢
  generalize hH2 : s2.heap.push { cls := .type "list", dict := none, data := .seq ([] : List Value).toArray } = B at hns₁ hsb₁ ⊢
  have hC : B.objs.size = s2.heap.objs.size + 1 := by rw [← hH2, Heap.size_push]
  have hCle : s2.heap.objs.size ≤ B.objs.size := by rw [hC]; exact Nat.le_succ _
  have old : ∀ b o, s2.heap.get? b = some o → h₁.get? b = some o := fun b o e => hsb₁.extBut b o (by rw [hC]; exact Nat.ne_of_lt (Nat.lt_succ_of_lt (Heap.lt_size e))) (Heap.get?_push_of_some _ (hH2 ▸ Heap.get?_push_of_some _ e))
  have hDC : s2.heap.objs.size ≠ B.objs.size := by rw [hC]; exact Nat.ne_of_lt (Nat.lt_succ_self _)
  have hacc : h₁.get? s2.heap.objs.size = some { cls := .type "list", dict := none, data := .seq ([] : List Value).toArray } := hsb₁.extBut _ _ hDC (Heap.get?_push_of_some _ (hH2 ▸ Heap.get?_push_size _ rfl))
  have fpO : ∀ b ∈ fp, b < s2.heap.objs.size := fun b hb => by
    obtain ⟨o, e, _⟩ := T.obj 0 _ st2 b hb
    exact Heap.lt_size e
  have sub : ∀ x c, (closL scope.names X.env.cells []).lookup x = some c → X.env.cells.lookup x = some c := closL_sub scope.names [] hfr (fun x c e => by cases e)
  have hasC : ∀ x, ((relabel scope X.env).names.lookup x = some .cell ∨ (relabel scope X.env).names.lookup x = some .free) → ∃ c, (closL scope.names X.env.cells []).lookup x = some c := fun x hx =>
    Option.isSome_iff_exists.mp (closL_has scope.names [] (relabel_free (scope := scope) (env := X.env) scope.names x O.nocell hx))
  -- the block's context at its begin
  have IY : ∀ t, Inv (compCx X N' scope B.objs.size s2 H2 fp) [] (cap js σ) (upd H2 s2.heap.objs.size (.lst [])) { s2 with heap := h₁, toks := t } := by
    intro t
    refine ⟨⟨I2.ok.mod, O.kind, I2.ok.glob, I2.ok.blt, hCle, fun x y c h1 h2 => I2.ok.inj x y c (sub x c h1) (sub y c h2), fun x hx => hasC x hx, fun x c h => (by cases h), I2.ok.hd, I2.ok.frames, .inl rfl, fun b hb => ⟨Nat.ne_of_lt (Nat.lt_of_lt_of_le (fpO b hb) hCle), fun x c e => (f2 b hb).2.2.2.2.1 x c (sub x c e)⟩,
      I2.bs, Nat.le_trans I2.ok.bsz I2.sz, fun b o e hb => ?_, fun b hb z => ?_, I2.stack, I2.stkFree⟩, rfl, I2.bare, Un.laid old (Nat.le_refl _) hf0, ⟨_, hns₁, fun i x v e1 e2 e3 => ?_⟩, fun x c e => ?_, ?_, fun x c e => ?_, fun p hp => absurd (show p ∈ ([] : List (Addr × Obj)) from hp) (by simp), ?_, ?_⟩
    · rcases (f2 b hb).2.2.2.1 with z | z
      · exact I2.ok.noex b o e z
      · exact absurd (Nat.lt_of_lt_of_le (Nat.lt_of_lt_of_le (Heap.lt_size e) I2.ok.bsz) z) (Nat.lt_irrefl _)
    · rcases List.mem_cons.mp (I2.stkSub b z) with q | q
      · exact (f2 b hb).2.1 q
      · exact (f2 b hb).2.2.1 q
    · have e1 : N'[i]? = some x := e1
      unfold cap at e2
      rw [List.getElem?_map] at e2
      cases q : js[i]? with
      | none => rw [q] at e2; cases e2
      | some o =>
        rw [q] at e2
        cases o with
        | none => cases e2
        | some j =>
          have e2 : (σ[j]?).join = some v := by simpa using e2
          have e2' : σ[j]? = some (some v) := by
            cases z : σ[j]? with
            | none => rw [z] at e2; cases e2
            | some a => rw [z] at e2; cases a with
              | none => cases e2
              | some a => cases e2; rfl
          obtain ⟨hN, hk, hsf⟩ := O.slots i j x q e1
          obtain ⟨m, hn, hl⟩ := I2.loc
          obtain ⟨u, r, l⟩ := hl j x v hN e2' (.inr hk)
          refine ⟨u, r, ?_⟩
          have hkX : X.env.kindOf x = some .cell ∨ X.env.kindOf x = some .free := hk
          rcases l with ⟨k, _⟩ | ⟨k, c, hc', hcell⟩
          · rcases hkX with z | z
            · rw [k] at z; cases z
            · rw [k] at z; cases z
          · have hky : (relabel scope X.env).names.lookup x = some .cell ∨ (relabel scope X.env).names.lookup x = some .free := relabel_lookup (env := X.env) scope.names x hsf
            obtain ⟨c2, hc2⟩ := hasC x hky
            have : c2 = c := by
              have := sub x c2 hc2
              rw [hc'] at this
              exact (Option.some.inj this).symm
            subst this
            obtain ⟨ob, ho, hd⟩ := hcell
            exact .inr ⟨hky, c2, hc2, ob, old _ _ ho, hd⟩
    · obtain ⟨v, ob, ho, hd⟩ := I2.cell x c (sub x c e)
      exact ⟨v, ob, old _ _ ho, hd⟩
    · show upd H2 s2.heap.objs.size (.lst []) B.objs.size = none
      rw [upd_ne (Ne.symm hDC)]
      exact I2.hok.fresh hCle
    · obtain ⟨v, ob, ho, hd⟩ := I2.cell x c (sub x c e)
      rw [upd_ne (Nat.ne_of_lt (Heap.lt_size ho))]
      exact I2.freeC x c (sub x c e)
    · exact I2.hok.laid old (Nat.le_refl _) ⟨Nat.zero_le _, [], 0, .nil, hacc⟩
    · unfold cap
      rw [List.length_map]
      exact O.len
  have hcl : (cap js σ).length = js.length := by unfold cap; rw [List.length_map]
  have fin : ∀ {σ' : St} {H' : Hp} {s' : Shared}, Inv (compCx X N' scope B.objs.size s2 H2 fp) [] σ' H' s' → Q (.ref s2.heap.objs.size) H' → compPost (model X.prog X.w) X.A X.xe use Q' (.ref s2.heap.objs.size) B.objs.size (.ok .next) s' :=
    fun {σ' H' s'} J q => hfin s2 H2 fp B.objs.size I2 f2 hCle σ' H' s' J q
  have loop : ∀ t, codeAny (model X.prog X.w) X.A (.compLoop (.ListComp elt [⟨target, iter, ifs, 0⟩] scope pos) 0 (.ref it) (.ref s2.heap.objs.size) (compEnvC scope (closL scope.names X.env.cells []) B.objs.size X.env))
      (compPost (model X.prog X.w) X.A X.xe use Q' (.ref s2.heap.objs.size) B.objs.size) { s2 with heap := h₁, toks := t } := by
    intro t
    have stat : ∀ {H' : Hp}, (∀ b ∈ fp, H' b = none) → ∀ b ∈ fp, FpOk (compCx X N' scope B.objs.size s2 H2 fp) [] H' b := fun hn b hb =>
      ⟨hn b hb, Nat.ne_of_lt (Nat.lt_of_lt_of_le (fpO b hb) hCle), (IY t).ok.exfs b hb, .inl hb, fun x c e => ((IY t).ok.exf b hb).2 x c e, fun p hp => absurd (show p ∈ ([] : List (Addr × Obj)) from hp) (by simp)⟩
    refine comp_loop (fun n s' => ∃ i acc H', Inv (compCx X N' scope B.objs.size s2 H2 fp) [] (cap js σ) H' s' ∧ tn i s'.heap ∧ (∀ b ∈ fp, H' b = none) ∧ W i n acc H') ?_ m0
      ⟨0, [], _, IY t, T.keep 0 _ _ st2 (fun b _ o e => old b o e), fun b hb => by rw [upd_ne (Nat.ne_of_lt (fpO b hb))]; exact (f2 b hb).1, w0⟩
    rintro n s3 ⟨i, acc, H3, I3, st3, fr3, w3⟩
    obtain ⟨hD, turn⟩ := turn i n acc H3 w3
    rcases turn with ⟨stop, qn⟩ | ⟨go, hlen, N, hN, step⟩
    · refine thn (T.done (compCx X N' scope B.objs.size s2 H2 fp) rfl rfl rfl hc i [] s3 (cap js σ) H3 (fun _ _ => False) I3 (stat fr3) st3 stop) fun r s4 ⟨hr, I4⟩ => ?_
      subst hr
      exact fin I4 qn
    · refine thn (T.item (compCx X N' scope B.objs.size s2 H2 fp) rfl rfl rfl hc i [] s3 (cap js σ) H3 (fun _ _ => False) I3 (stat fr3) st3 go) fun r s4 ⟨u, hr, h4⟩ => ?_
      subst hr
      refine thn h4 fun _ s5 ⟨x, H5, I5, r5, y5, st5, fr5⟩ => ?_
      have I5' := I5.pinned (stat fr5) (T.obj _ _ st5)
      refine thn (hg _ _ _ _ _ s5 (cap js σ) H5 x u _ I5' r5 (ho x (cap js σ) H5 _ hcl (step x H5 y5))) fun _ s6 ⟨σ6, H6, I6, q6, hl6, hk6⟩ => ?_
      refine thn (hif _ _ _ _ _ s6 σ6 H6 _ I6 q6) fun ok s7 ⟨H7, I7, q7⟩ => ?_
      have again : ∀ {H8 : Hp} {acc8 : List V} {s8 : Shared}, Inv (compCx X N' scope B.objs.size s2 H2 fp) ([] ++ pinsAt fp s5.heap) σ6 H8 s8 → N acc8 H8 →
          ∃ m, m < n ∧ ∃ i acc H', Inv (compCx X N' scope B.objs.size s2 H2 fp) [] (cap js σ) H' s8 ∧ tn i s8.heap ∧ (∀ b ∈ fp, H' b = none) ∧ W i m acc H' := by
        intro H8 acc8 s8 I8 n8
        obtain ⟨m', hm, w8⟩ := hN acc8 H8 n8
        refine ⟨m', hm, i + 1, acc8, H8, ?_, T.keep _ _ _ st5 fun b hb o e => (I8.pin (b, o) (List.mem_append_right _ (List.mem_append_right _ (mem_pinsAt hb e)))).1, fun b hb => ?_, w8⟩
        · refine Inv.weak I8.unpinned (by rw [hl6, hcl]) fun k v e => ?_
          have e' := e
          unfold cap at e
          rw [List.getElem?_map] at e
          cases q : js[k]? with
          | none => rw [q] at e; cases e
          | some o =>
            cases o with
            | none => rw [q] at e; cases e
            | some j => rw [hk6 k j q]; exact e'
        · obtain ⟨o, e, d⟩ := T.obj _ _ st5 b hb
          exact (I8.pin (b, o) (List.mem_append_right _ (List.mem_append_right _ (mem_pinsAt hb e)))).2.1
      cases ok with
      | false => exact again I7 q7
      | true =>
        refine thn (he _ _ _ _ _ s7 σ6 H7 _ I7 q7) fun y s8 ⟨yv, H8, I8, r8, hD8, q8⟩ => ?_
        refine thn (mt_append _ s8 σ6 H8 (.ref s2.heap.objs.size) [yv] (.ref s2.heap.objs.size) [y] (fun _ H9 => N (acc ++ [yv]) H9) I8 rfl (.cons r8 .nil) ⟨_, acc, yv, rfl, rfl, hD8, hlen, q8⟩) fun _ s9 ⟨_, H9, I9, _, q9⟩ => ?_
        exact again I9 q9
  exact codeAny_compStart_list (loop _) (T.self X.A 0 _ _ _ (T.keep 0 _ _ st2 (fun b _ o e => old b o e)) (loop _))
theorem pe_comp {X : Cx} {elt target iter : Expr} {ifs : List Expr} {scope : Scope} {pos : Pos} {wi : TI} {g : TG} {tif : TT} {te : TE} {N' : List Str} {js : List (Option Nat)} (hok : compOk scope X.env.scope N' X.N js = true) (hc : X.calm = true)
    (hi : PI X target iter wi) (ho : OwnG js g) (hg : ∀ C s H fp, PG (compCx X N' scope C s H fp) target g) (hif : ∀ C s H fp, PIf (compCx X N' scope C s H fp) ifs tif) (he : ∀ C s H fp, PE (compCx X N' scope C s H fp) elt te)
    (hs : ∀ x, foldedSetIterable iter X.env x = pure x := by intro _; rfl) : PE X (.ListComp elt [⟨target, iter, ifs, 0⟩] scope pos) (tComp wi g tif te js) := by
  intro pins s σ H Q I h
  rw [eval_ListComp]
  refine comp_core (use := none) hok hc hi ho hg hif he hs I h fun s2 H2 fp C I2 f2 hCle σ' H' s' J q => ?_
  obtain ⟨m, hn, _⟩ := J.loc
  refine ⟨m, hn, fun h' hs' => ⟨.ref s2.heap.objs.size, H', ?_, rfl, q⟩⟩
  refine I2.call' (s' := { s' with heap := h' }) (ch := fp) J.os (J.base.sameBut hs' hCle) (fun b ob e => ?_) J.bare fun b hb => ⟨(f2 b hb).2.2.2.1, (f2 b hb).2.1, (f2 b hb).2.2.2.2.1, (f2 b hb).2.2.2.2.2⟩
  refine (J.hok b ob e).stay (fun c w' hc q => (hs'.2 c ?_).trans q) (fun _ q => q) fun _ _ q => q
  have hfree : H' C = none := J.free
  intro hcC
  rw [hcC] at hc
  rcases hc with z | z
  · rw [← z, hfree] at e; cases e
  · rw [hfree] at z; cases z

theorem ps_setc {X : Cx} {i : Nat} {y : Str} {elt target iter : Expr} {ifs : List Expr} {scope : Scope} {pos py spos : Pos} {wi : TI} {g : TG} {tif : TT} {te : TE} {N' : List Str} {js : List (Option Nat)} (hN : X.N.Nodup) (hi' : X.N[i]? = some y) (hx : Loc X.env.scope y)
    (hok : compOk scope X.env.scope N' X.N js = true) (hc : X.calm = true)
    (hi : PI X target iter wi) (ho : OwnG js g) (hg : ∀ C s H fp, PG (compCx X N' scope C s H fp) target g) (hif : ∀ C s H fp, PIf (compCx X N' scope C s H fp) ifs tif) (he : ∀ C s H fp, PE (compCx X N' scope C s H fp) elt te)
    (hsw : swapsWith (.ListComp elt [⟨target, iter, ifs, 0⟩] scope pos) (some (.Name y py)) spos.line X.env = pure true)
    (hs : ∀ x, foldedSetIterable iter X.env x = pure x := by intro _; rfl) (hf : X.fn y = true ∨ X.env.scope.names.lookup y = some .local := by first | exact .inl rfl | exact .inr rfl | assumption) :
    PS X (.Assign [.Name y py] (.ListComp elt [⟨target, iter, ifs, 0⟩] scope pos) spos) (tAsg (tComp wi g tif te js) (gName i)) := by
  intro pins s σ H D I h
  rw [exec_Assign_Name_used _ _ _ _ hsw]
  refine wpAny_bind (wpAny_standAt (wpAny_bind ?_))
  show wpAny _ X.A (do let _ ← comprehension (.ListComp elt [⟨target, iter, ifs, 0⟩] scope pos) scope X.env _ (newList []) false (eval iter X.env) (some (assign (.Name y py) X.env))) _ _ s
  refine wpAny_bind (thn (comp_core (use := some (assign (.Name y py) X.env)) (Q' := fun _ s' => SP X pins D .next s') hok hc hi ho hg hif he hs I h fun s2 H2 fp C I2 f2 hCle σ' H' s' J q => ?_) fun _ s' q => ?_)
  · obtain ⟨m, hn, _⟩ := J.loc
    have I3 : Inv X pins σ H' s' := I2.call' (ch := fp) J.os J.base J.hok J.bare fun b hb => ⟨(f2 b hb).2.2.2.1, (f2 b hb).2.1, (f2 b hb).2.2.2.2.1, (f2 b hb).2.2.2.2.2⟩
    have hCL : C ≠ X.env.locals := fun z => absurd (Nat.lt_of_lt_of_le I2.lt hCle) (by rw [z]; exact Nat.lt_irrefl _)
    have hCc : ∀ x c, X.env.cells.lookup x = some c → c ≠ C := fun x c e z => by
      obtain ⟨v, ob, ho, _⟩ := I2.cell x c e
      exact absurd (Nat.lt_of_lt_of_le (Heap.lt_size ho) hCle) (by rw [z]; exact Nat.lt_irrefl _)
    have hCp : ∀ p ∈ X.pn ++ pins, p.1 ≠ C := fun p hp z => by
      have e := (I2.pin p hp).1
      exact absurd (Nat.lt_of_lt_of_le (Heap.lt_size e) hCle) (by rw [z]; exact Nat.lt_irrefl _)
    show wpAny _ X.A (assign (.Name y py) X.env (.ref s2.heap.objs.size)) _ _ s'
    refine wpAny_assign_Name (store_ok2 I3 hN hi' hx (v := .ref s2.heap.objs.size) rfl (fun s'' I4 ⟨a, hsb, ha⟩ => ?_) hf)
    have hna : C ≠ a := by
      rcases ha with z | z
      · rw [z]; exact hCL
      · exact (hCc _ _ z).symm
    refine ⟨m, hn.sameBut hsb hna, fun h' hs' => ⟨_, H', ?_, q⟩⟩
    exact I4.turned (t' := s''.toks) (h' := h') (it := C) (fun b o hb e => (hs'.2 b hb).trans e) J.free hCL (.inr (Nat.le_trans I2.sz hCle)) hCc hCp
  · exact wpAny_pure (wpAny_pure q)

end L2

set_option Elab.async false
set_option linter.all false
set_option maxRecDepth 100000
set_option maxHeartbeats 4000000
namespace L2
open PySem PySem.Spec PyProof.Rows


section
variable {X : Cx} {tg : Expr}
end
section
variable {g : TG} {tif : TT} {te : TE} {js : List (Option Nat)} {σ : St} {H : Hp} {Q : VK}

def cTurn (g : TG) (tif : TT) (te : TE) (σ : St) (p : Addr) (acc : List V) (N : List V → Hp → Prop) (x : V) (H : Hp) : Prop :=
  g x σ H fun σ2 H3 => tif σ2 H3 fun c H4 => if c = true then te σ2 H4 fun y H5 => H5 p = some (.lst acc) ∧ N (acc ++ [y]) (upd H5 p (.lst (acc ++ [y]))) else N acc H4
theorem comp_range {lo : Int} {n : Nat} {p : Addr} (hn : n ≤ 1000000) (Pv : Nat → List V → Hp → Prop) (h0 : Pv 0 [] (upd H p (.lst [])))
    (hl : ∀ i acc H2, i ≤ n → Pv i acc H2 → H2 p = some (.lst acc) ∧ acc.length ≤ i)
    (hs : ∀ i acc H2, i < n → Pv i acc H2 → cTurn g tif te (cap js σ) p acc (Pv (i + 1)) (.int (lo + i)) H2) (hd : ∀ acc H2, Pv n acc H2 → Q (.ref p) H2) :
    CompW (Itr lo n) g tif te js σ Q p H := by
  refine ⟨fun i m acc H => m = n - i ∧ i ≤ n ∧ Pv i acc H, ⟨n, by simp, Nat.zero_le _, h0⟩, ?_⟩
  rintro i m acc H2 ⟨rfl, hi, q⟩
  obtain ⟨q1, q2⟩ := hl i acc H2 hi q
  refine ⟨q1, ?_⟩
  by_cases hlt : i < n
  · refine .inr ⟨hlt, ?_, Pv (i + 1), fun acc' H' p' => ⟨n - (i + 1), by omega, rfl, hlt, p'⟩, fun x H' y => ?_⟩
    · have : (1000000 : Nat) < sizeLine := by decide
      omega
    · obtain ⟨e, y⟩ := y
      subst e y
      exact hs i acc _ hlt q
  · have e : i = n := by omega
    subst e
    exact .inl ⟨Nat.le_refl _, hd acc H2 q⟩
theorem comp_list {K : PySem.W.Frag} {a : Addr} {xs : List V} {p : Addr} (hn : xs.length ≤ 1000000) (Pv : Nat → List V → Hp → Prop) (h0 : Pv 0 [] (upd H p (.lst [])))
    (hl : ∀ i acc H2, i ≤ xs.length → Pv i acc H2 → H2 p = some (.lst acc) ∧ acc.length ≤ i ∧ SqL K H2 a xs)
    (hs : ∀ i x acc H2, xs[i]? = some x → Pv i acc H2 → cTurn g tif te (cap js σ) p acc (Pv (i + 1)) x H2) (hd : ∀ acc H2, Pv xs.length acc H2 → Q (.ref p) H2) :
    CompW (Itl K a) g tif te js σ Q p H := by
  refine ⟨fun i m acc H => m = xs.length - i ∧ i ≤ xs.length ∧ Pv i acc H, ⟨xs.length, by simp, Nat.zero_le _, h0⟩, ?_⟩
  rintro i m acc H2 ⟨rfl, hi, q⟩
  obtain ⟨q1, q2, q3⟩ := hl i acc H2 hi q
  refine ⟨q1, ?_⟩
  by_cases hlt : i < xs.length
  · refine .inr ⟨⟨xs, xs[i], q3, by simp [hlt]⟩, ?_, Pv (i + 1), fun acc' H' p' => ⟨xs.length - (i + 1), by omega, rfl, hlt, p'⟩, fun x H' y => ?_⟩
    · have : (1000000 : Nat) < sizeLine := by decide
      omega
    · obtain ⟨e, y⟩ := y
      subst e
      exact hs i x acc _ (y xs q3) q
  · have e : i = xs.length := by omega
    subst e
    exact .inl ⟨⟨xs, q3, Nat.le_refl _⟩, hd acc H2 q⟩
theorem comp_tup {K : PySem.W.Frag} {a : Addr} {xs : List V} {p : Addr} (hn : xs.length ≤ 1000000) (Pv : Nat → List V → Hp → Prop) (h0 : Pv 0 [] (upd H p (.lst [])))
    (hl : ∀ i acc H2, i ≤ xs.length → Pv i acc H2 → H2 p = some (.lst acc) ∧ acc.length ≤ i ∧ SqT K H2 a xs)
    (hs : ∀ i x acc H2, xs[i]? = some x → Pv i acc H2 → cTurn g tif te (cap js σ) p acc (Pv (i + 1)) x H2) (hd : ∀ acc H2, Pv xs.length acc H2 → Q (.ref p) H2) :
    CompW (Itt K a) g tif te js σ Q p H := by
  refine ⟨fun i m acc H => m = xs.length - i ∧ i ≤ xs.length ∧ Pv i acc H, ⟨xs.length, by simp, Nat.zero_le _, h0⟩, ?_⟩
  rintro i m acc H2 ⟨rfl, hi, q⟩
  obtain ⟨q1, q2, q3⟩ := hl i acc H2 hi q
  refine ⟨q1, ?_⟩
  by_cases hlt : i < xs.length
  · refine .inr ⟨⟨xs, xs[i], q3, by simp [hlt]⟩, ?_, Pv (i + 1), fun acc' H' p' => ⟨xs.length - (i + 1), by omega, rfl, hlt, p'⟩, fun x H' y => ?_⟩
    · have : (1000000 : Nat) < sizeLine := by decide
      omega
    · obtain ⟨e, y⟩ := y
      subst e
      exact hs i x acc _ (y xs q3) q
  · have e : i = xs.length := by omega
    subst e
    exact .inl ⟨⟨xs, q3, Nat.le_refl _⟩, hd acc H2 q⟩
end


section
variable {X : Cx}
theorem call_isinst : CallR X (.builtin "isinstance") (fun xs H Q => ∃ x c t b, xs = [x, .ty c] ∧ TyOf X.K H x t ∧ PySem.W.kitOne X.K t (.type c) = some b ∧ Q (.bl b) H) := by
  intro pins s σ H xs us Q I r h
  obtain ⟨x, c, t, b, rfl, ty, hk, q⟩ := h
  obtain ⟨u, w', rfl, rx, rc⟩ := vals2 r
  cases (show w' = Value.type c from rc)
  exact isinst_ok I rx ty hk fun tk => ⟨.bl b, H, I.tok _, rfl, q⟩
end


def litV : Expr → Option V
  | .Constant (.str x) _ _ => some (.str x)
  | .Constant (.int i) _ _ => some (.int i)
  | .Constant (.bool b) _ _ => some (.bl b)
  | .Constant .none _ _ => some .non
  | _ => none
def litsOf : List Expr → Option (List V)
  | [] => some []
  | e :: r => match litV e, litsOf r with
    | some v, some vs => some (v :: vs)
    | _, _ => none
theorem pe_lit {X : Cx} {e : Expr} {v : V} (h : litV e = some v) : PE X e (tC v) := by
  unfold litV at h
  split at h
  · cases h; exact pe_str
  · cases h; exact pe_int
  · cases h; exact pe_bl
  · cases h; exact pe_non
  · cases h
theorem star_lit {X : Cx} {e : Expr} {es : List Expr} {v : V} (h : litV e = some v) : starEach (e :: es) X.env = (false, eval e X.env) :: starEach es X.env := by
  unfold litV at h
  split at h <;> first | rfl | cases h
theorem pa_lits {X : Cx} : ∀ {es : List Expr} {vs : List V}, litsOf es = some vs → PA X es (fun _ H Q => Q vs H)
  | [], vs, h => by
    cases h
    exact pa_nil
  | e :: r, vs, h => by
    unfold litsOf at h
    split at h
    · rename_i v vs' h1 h2
      cases h
      exact pa_cons (pe_lit h1) (pa_lits h2) (star_lit h1)
    · cases h


theorem Same.tup {K : PySem.W.Frag} {H H' : Hp} {a : Addr} {xs : List V} (e : Same H H') (h : SqT K H a xs) : SqT K H' a xs := by
  rcases h with (h | ⟨o, h⟩) | h
  · exact .inl (.inl (e _ _ h))
  · exact .inl (.inr ⟨o, e _ _ h⟩)
  · exact .inr h
theorem Same.new {H : Hp} {p : Addr} {o : HO} (h : H p = none) : Same H (upd H p o) := fun b u e => by
  rw [upd_ne (ne_of_none e h)]
  exact e

theorem Same.upd {H H' : Hp} {p : Addr} {o : HO} (e : Same H H') (h : H p = none) : Same H (upd H' p o) := fun b u q => by
  rw [upd_ne (ne_of_none q h)]
  exact e b u q
end L2

set_option Elab.async false
set_option linter.all false
set_option maxRecDepth 100000
set_option maxHeartbeats 4000000
namespace L2
open PySem PySem.Spec PyProof.Rows


structure DefOk (K : PySem.W.Frag) (mg : Str → Option Value) (name : Str) (st : Stmt) (ps : List Str) (f : Addr) (fd : FuncData) : Prop where
  F : Fun K name name st f fd
  g : mg name = some (.ref f)
  b : Binds K fd ps []
section
variable {X : Cx} {k : Nat} {f : Addr} {fd : FuncData} {ps : List Str} {sp : Sp} {x : Str} {st : Stmt} {p pos : Pos} {e : Expr} {es : List Expr} {t : TA}
theorem callD (D : DefOk X.K X.mg x st ps f fd) (G : FnOk X.prog X.w X.K X.mg X.base CX0 k f fd ps sp) (hr : Room k X.A) (ha : PA X (e :: es) t) (hg : Gl X x := by rfl)
    (hdb : (x == ("__debug__" : Str)) = false := by decide) (he : starEach (e :: es) X.env = (false, eval e X.env) :: starEach es X.env := by rfl) (hpl : (backTo pos (starEach es X.env)).any (·.1) = false := by rfl) :
    PE X (.Call (.Name x p) (e :: es) [] pos) (tCall sp [] E0 t) := pe_call G hr hg D.g D.F.kp D.b .nil pass0 ha hdb he hpl
theorem pe_gint {z : Int} (h : ∃ t, X.mg x = some (.int z t)) (hg : Gl X x := by rfl) (hd : (x == ("__debug__" : Str)) = false := by decide) : PE X (.Name x pos) (tC (.int z)) := by
  obtain ⟨t, h⟩ := h
  exact pe_glob hg h ⟨t, rfl⟩ hd
theorem pe_gtuple {a : Addr} (h : X.mg x = some (.ref a)) (hg : Gl X x := by rfl) (hd : (x == ("__debug__" : Str)) = false := by decide) : PE X (.Name x pos) (tC (.ref a)) := pe_glob hg h rfl hd
end
theorem defOk_mk {K : PySem.W.Frag} {mg : Str → Option Value} {h : Heap} {name : Str} {st : Stmt} {ps : List Str} {f : Addr} {oc : Value} {od an : Option Addr} {osl : Array (Option Value)} {kV doc pm cdv ct : Value} (X : K.In h) (G : h.Ns mainGlobals mg)
    (a : PySem.W.nsIn K mainGlobals name = some (some (.ref f))) (l : K.lookup f = some ⟨oc, od, .func (PySem.W.fnOf name name (defArgs st) (defBody st) (defScope st) .none kV doc pm an cdv ct), osl⟩) (c : PySem.W.codeIn K cdv name = true) (k : PySem.W.keepIn K (.ref f) = true)
    (b : ∀ (kV doc pm : Value) (an : Option Addr) (cdv ct : Value) (us : List Value), us.length = ps.length → bindArgs (PySem.W.fnOf name name (defArgs st) (defBody st) (defScope st) .none kV doc pm an cdv ct) ⟨us, []⟩ = pure (ps.zip us)) :
    DefOk K mg name st ps f (PySem.W.fnOf name name (defArgs st) (defBody st) (defScope st) .none kV doc pm an cdv ct) :=
  ⟨fun_mk l c k, PySem.W.mg_of X G a, (fun_mk l c k).binds b⟩


theorem atI_some {α : Type} {xs : List α} {i : Int} (h0 : 0 ≤ i) (h1 : i < xs.length) : ∃ v, atI xs i = some v ∧ v ∈ xs := by
  have hi : i.toNat < xs.length := by omega
  refine ⟨xs[i.toNat], ?_, List.getElem_mem hi⟩
  have := atI_nat (xs := xs) (j := i.toNat) (v := xs[i.toNat]) (by simp [hi])
  have e : ((i.toNat : Nat) : Int) = i := by omega
  rwa [e] at this
theorem at_ints {ns : List Int} {i : Int} (h0 : 0 ≤ i) (h1 : i < ns.length) : ∃ z, atI (ns.map V.int) i = some (.int z) := by
  obtain ⟨v, e, hv⟩ := atI_some (xs := ns.map V.int) h0 (by rw [List.length_map]; exact h1)
  obtain ⟨z, _, rfl⟩ := List.mem_map.mp hv
  exact ⟨z, e⟩
theorem dec_true {p : Prop} [Decidable p] (h : decide p = true) : p := of_decide_eq_true h
end L2
namespace L2
open PySem PySem.Spec PyProof.Rows
theorem iteP {c A B : Prop} [Decidable c] (hc : c) (h : A) : if c then A else B := by
  rw [if_pos hc]
  exact h
theorem iteN {c A B : Prop} [Decidable c] (hc : ¬ c) (h : B) : if c then A else B := by
  rw [if_neg hc]
  exact h
end L2
namespace L2
open PySem
theorem bt_len : bootBuiltins "len" = some (.builtin "len") := by decide +kernel
theorem bt_isinstance : bootBuiltins "isinstance" = some (.builtin "isinstance") := by decide +kernel
theorem bt_min : bootBuiltins "min" = some (.builtin "min") := by decide +kernel
theorem bt_str : bootBuiltins "str" = some (.type "str") := by decide +kernel
theorem bt_list : bootBuiltins "list" = some (.type "list") := by decide +kernel
theorem bt_tuple : bootBuiltins "tuple" = some (.type "tuple") := by decide +kernel
theorem bt_dict : bootBuiltins "dict" = some (.type "dict") := by decide +kernel
theorem bt_enumerate : bootBuiltins "enumerate" = some (.type "enumerate") := by decide +kernel
theorem falseN {b : Bool} (h : b = false) : ¬ b = true := by rw [h]; decide
end L2

set_option Elab.async false
set_option linter.all false
set_option maxRecDepth 100000
set_option maxHeartbeats 4000000
namespace L2
open PySem PySem.Spec PyProof.Rows


mutual
def DatV (K : PySem.W.Frag) (H : Hp) : PyData → V → Prop
  | .none, v => v = .non
  | .bool b, v => v = .bl b
  | .int i, v => v = .int i
  | .str x, v => v = .str x
  | .list ds, v => ∃ a xs, v = .ref a ∧ SqL K H a xs ∧ DatAll K H ds xs
  | .tuple ds, v => ∃ a xs, v = .ref a ∧ SqT K H a xs ∧ DatAll K H ds xs
  | .dict _, _ => False
def DatAll (K : PySem.W.Frag) (H : Hp) : List PyData → List V → Prop
  | [], xs => xs = []
  | d :: ds, xs => ∃ x r, xs = x :: r ∧ DatV K H d x ∧ DatAll K H ds r
end
section
variable {X : Cx} {pins : List (Addr × Obj)} {σ : St} {H : Hp} {s : Shared}
mutual
theorem reads_of (I : Inv X pins σ H s) : ∀ (d : PyData) (v : V) (u : Value), DatV X.K H d v → RelV v u → ∃ as, Reads s.heap u d as
  | .none, v, u, h, r => by
    unfold DatV at h
    subst h
    cases (show u = Value.none from r)
    exact ⟨_, .none⟩
  | .bool b, v, u, h, r => by
    unfold DatV at h
    subst h
    cases (show u = Value.bool b from r)
    exact ⟨_, .bool b⟩
  | .int i, v, u, h, r => by
    unfold DatV at h
    subst h
    obtain ⟨t, rfl⟩ := (show ∃ t, u = Value.int i t from r)
    exact ⟨_, .int i t⟩
  | .str x, v, u, h, r => by
    unfold DatV at h
    subst h
    obtain ⟨t, rfl⟩ := (show ∃ t, u = Value.str x t from r)
    exact ⟨_, .str x t⟩
  | .list ds, v, u, h, r => by
    unfold DatV at h
    obtain ⟨a, xs, rfl, hq, hd⟩ := h
    cases (show u = Value.ref a from r)
    obtain ⟨its, rv, ⟨o, n, ho, hc, _, hdt⟩, _⟩ := I.list hq
    obtain ⟨as, ra⟩ := readsAll_of I ds xs its hd rv
    exact ⟨_, .list ho hc hdt (by simpa using ra)⟩
  | .tuple ds, v, u, h, r => by
    unfold DatV at h
    obtain ⟨a, xs, rfl, hq, hd⟩ := h
    cases (show u = Value.ref a from r)
    obtain ⟨its, rv, ⟨o, ho, hc, n, hdt⟩, _⟩ := I.tuple hq
    obtain ⟨as, ra⟩ := readsAll_of I ds xs its hd rv
    exact ⟨_, .tuple ho hc hdt (by simpa using ra)⟩
  | .dict _, v, u, h, r => by
    unfold DatV at h
    exact h.elim
theorem readsAll_of (I : Inv X pins σ H s) : ∀ (ds : List PyData) (xs : List V) (us : List Value), DatAll X.K H ds xs → Vals xs us → ∃ as, ReadsAll s.heap us ds as
  | [], xs, us, h, r => by
    unfold DatAll at h
    subst h
    cases r
    exact ⟨_, .nil⟩
  | d :: ds, xs, us, h, r => by
    unfold DatAll at h
    obtain ⟨x, rest, rfl, hd, hds⟩ := h
    cases r with
    | cons r1 r2 =>
      obtain ⟨as, ra⟩ := reads_of I d _ _ hd r1
      obtain ⟨bs, rb⟩ := readsAll_of I ds _ _ hds r2
      exact ⟨_, .cons ra rb⟩
end
end

def rEqD (K : PySem.W.Frag) : R2 := fun x y H Q => ∃ d e, DatV K H d x ∧ DatV K H e y ∧ SeqAt.shaped d = true ∧ SeqAt.shaped e = true ∧ Q (.bl (PyData.eqv d e)) H
theorem op_eqD {X : Cx} (hu : X.A.units + 64 < cLine) : OpR X (compareOp .Eq) (rEqD X.K) := by
  intro pins s σ H x y v u Q I rx ry h
  obtain ⟨d, e, hd, he, sd, se, q⟩ := h
  obtain ⟨as, ra⟩ := reads_of I d x v hd rx
  obtain ⟨bs, rb⟩ := reads_of I e y u he ry
  exact SeqAt.compareEq_shaped ra rb sd se hu ⟨.bl _, H, I, rfl, q⟩
section
variable {prog : Program} {w : World} {A : Around} {E : Value → Shared → Prop}
end

end L2
namespace L2
open PySem PySem.Spec PyProof.Rows
end L2

set_option Elab.async false
set_option linter.all false
set_option maxRecDepth 100000
set_option maxHeartbeats 4000000
namespace PySem
theorem gx_keys_list : typeLookup (.type "list") "keys" = pure none := by rw [typeLookup_type, builtinLookup_eq_fast]; kernel_rfl
theorem gx_entry_loop : entryFor table "dict.update.loop" = some Builtin.«dict.update.loop» := entryFor_of_tree (by kernel_rfl)
theorem gx_plain_loop : plainId "dict.update.loop" = true := by decide +kernel
theorem gx_noKeys {prog : Program} {w : World} {A : Around} {E : Value → Shared → Prop} {s : Shared} {a : Addr} {o : Obj} {xs : Array Value} {k : Nat} {Q : Option Value → Shared → Prop}
    (hx : s.heap.get? a = some o) (hc : o.cls = .type "list") (hdat : o.data = .seq xs k) (hd : o.dict = none) (hA : A.handled = none)
    (h : ∀ h' tk, (∀ b ob, s.heap.get? b = some ob → h'.get? b = some ob) → Q none { s with heap := h', toks := tk }) :
    wpAny (model prog w) A (getAttr? (.ref a) "keys") Q E s := by
  obtain ⟨c, dct, dat, sl⟩ := o
  simp only at hc hdat hd
  subst hc hdat hd
  obtain ⟨hp, g, d, tk, os⟩ := s
  have hT : ∀ tk', (⟨hp, g, d, tk', os⟩ : Shared).TypeIs (.ref a) "list" := fun _ => ⟨_, hx, rfl⟩
  have f1 := sub_AttributeError
  have f3 := F.slot_list_getattribute.lookup
  have f4 := F.slot_list_getattribute.bind (.ref a)
  have f5 := am_list_getattr_none
  unfold getAttr? getAttrBy? getAttrBy
  repeat (any_goals (first | assumption | exact hT _ | ((with_reducible show wpAny _ _ (call (Value.builtin "list.__getattribute__") _ _) _ _ _); refine call_meets F.slot_list_getattribute (hT _) am_entry_list_getattribute (F.args_list_getattribute_2 _ _) (meets_getattribute_miss_list a xs k sl "keys" _ gx_keys_list (by decide +kernel) (by decide +kernel)) ⟨hx, hA, fun h' tk' e hx' => ?_⟩) | wp_step))
  obtain ⟨t', u', he⟩ := hx'.there
  try (show wpAny _ _ (getattributeRaised _ _ _ _ _ _ _) _ _ _)
  try unfold getattributeRaised
  repeat (any_goals (first | assumption | wp_step))
  all_goals (first | exact h _ _ hx'.keeps | trace_state)
end PySem
namespace L2
open PySem PySem.Spec PyProof.Rows
section
variable {X : Cx} {pins : List (Addr × Obj)} {σ : St} {H : Hp}
theorem paired_at {α β : Type} {F : α → β → Prop} : ∀ {l : List α} {m : List β}, Paired F l m → ∀ {i : Nat} (h1 : i < l.length) (h2 : i < m.length), F l[i] m[i]
  | _, _, .cons h _, 0, _, _ => h
  | _, _, .cons _ t, i + 1, h1, h2 => by
    have := paired_at t (i := i) (by simpa using h1) (by simpa using h2)
    simpa using this

theorem dict_loop {A : Around} {R : Result → Shared → Prop} {p D it : Addr} {ps : List Addr} {kvs : List (Key × V)} (hA : A.handled = none) (hpD : p ≠ D) (hS : SqL X.K H p (ps.map V.ref)) (hps : Paired (fun a (kv : Key × V) => SqT X.K H a [kV kv.1, kv.2]) ps kvs)
    (hD : H D = none) (hz : kvs.length ≤ 100000) (hit0 : it ≠ D)
    (hR : ∀ s', Inv X pins σ (upd H D (.dK (kvs.foldl (fun acc kv => putK acc kv.1 kv.2) []))) s' → R (.ok (.ret .none)) s') :
    ∀ (k i : Nat) (t : Tok) (s : Shared), kvs.length - i = k → i ≤ kvs.length → Inv X pins σ (upd H D (.dK ((kvs.take i).foldl (fun acc kv => putK acc kv.1 kv.2) []))) s → s.heap.IsListIter it p i →
      (∀ H', H' it = none → FpOk X pins H' it) → H it = none → codeAny (model X.prog X.w) A (.builtin "dict.update.loop" ⟨[.ref D, .ref it, .int (i : Nat) t, .none], []⟩) R s := by
  have sameD : ∀ o, Same H (upd H D o) := fun o => Same.new hD
  have hlen : ps.length = kvs.length := hps.length
  have flen : ∀ (l : List (Key × V)) (acc : List (Key × V)), (l.foldl (fun acc kv => putK acc kv.1 kv.2) acc).length ≤ acc.length + l.length := by
    intro l
    induction l with
    | nil => intro acc; simp
    | cons x r ih =>
      intro acc
      rw [List.foldl_cons]
      have h1 := ih (putK acc x.1 x.2)
      have h2 := length_putK acc x.1 x.2
      simp only [List.length_cons]
      omega
  have big : (100000 : Nat) < sizeLine := by decide
  intro k
  induction k with
  | zero =>
    intro i t s hk hi I hit hfp hHit
    have e : i = kvs.length := by omega
    subst e
    rw [List.take_length] at I
    obtain ⟨its, rv, pl, hz'⟩ := I.list ((sameD _).seq hS)
    obtain ⟨f0, f1, f2, f3, f4, f5⟩ := hfp (upd H D (.dK (kvs.foldl (fun acc kv => putK acc kv.1 kv.2) []))) (by rw [upd_ne hit0]; exact hHit)
    refine codeAny_builtin gx_entry_loop ?_
    rw [Around.under_plainId gx_plain_loop _]
    show wpAny _ A.in1 (pyNext (.ref it) >>= _) _ _ s
    have hl := rv.length
    rw [List.length_map] at hl
    refine wpAny_bind (wpAny_pyNext_list_end hA hit pl.isList (by simp; omega) fun h' eb => ?_)
    have I1 : Inv X pins σ (upd H D (.dK (kvs.foldl (fun acc kv => putK acc kv.1 kv.2) []))) { s with heap := h' } := I.turned (t' := s.toks) (fun b o hb e => eb b o hb e) f0 f1 f3 f4 f5
    show wpAny _ _ (Builtin.Dict.addKeywords D [] >>= _) _ _ _
    exact wpAny_bind (wpAny_pure (wpAny_pure (hR _ I1)))
  | succ k ih =>
    intro i t s hk hi I hit hfp hHit
    have hlt : i < kvs.length := by omega
    obtain ⟨its, rv, pl, hz'⟩ := I.list ((sameD _).seq hS)
    have hpi : (ps.map V.ref)[i]? = some (.ref (ps[i]'(by omega))) := by simp [show i < ps.length by omega]
    obtain ⟨u, hu, ru⟩ := rv.get hpi
    cases (show u = Value.ref _ from ru)
    obtain ⟨f0, f1, f2, f3, f4, f5⟩ := hfp (upd H D (.dK ((kvs.take i).foldl (fun acc kv => putK acc kv.1 kv.2) []))) (by rw [upd_ne hit0]; exact hHit)
    refine codeAny_builtin gx_entry_loop ?_
    rw [Around.under_plainId gx_plain_loop _]
    show wpAny _ A.in1 (pyNext (.ref it) >>= _) _ _ s
    refine wpAny_bind (wpAny_pyNext_list_item hit pl.isList (x := .ref ps[i]) (by simpa using hu) fun h' hit' sb => ?_)
    have I1 : Inv X pins σ (upd H D (.dK ((kvs.take i).foldl (fun acc kv => putK acc kv.1 kv.2) []))) { s with heap := h' } := I.turned (t' := s.toks) (fun b o hb e => (sb.2 b hb).trans e) f0 f1 f3 f4 f5
    have hpair : SqT X.K H ps[i] [kV (kvs[i]).1, (kvs[i]).2] := paired_at hps (by omega) hlt
    obtain ⟨its2, rv2, ⟨o2, ho2, hc2, n2, hd2⟩, _⟩ := I1.tuple ((sameD _).tup hpair)
    cases rv2 with
    | cons r1 rr =>
      cases rr with
      | cons r2 rr =>
        cases rr
        rename_i ku vu
        refine wpAny_bind (wpAny_holding (wpAny_bind (wpAny_tryCatch ?_)))
        show wpAny _ _ (Builtin.Dict.pairItems (.ref ps[i])) _ _ _
        unfold Builtin.Dict.pairItems
        refine wpAny_bind (wpAny_typeOf (T := "tuple") ⟨o2, ho2, hc2⟩ ?_)
        rw [if_pos (by decide)]
        refine wpAny_bind ?_
        show wpAny _ _ (load ps[i] >>= _) _ _ _
        refine wpAny_bind (wpAny_load ho2 ?_)
        rw [hd2]
        refine wpAny_pure (wpAny_pure ?_)
        show wpAny _ _ (holding [ku, vu] (dictSet D ku vu)) _ _ _
        refine wpAny_holding ?_
        obtain ⟨z, hd, vs, rel, dd⟩ := dk_of I1.hok upd_same
        have hl1 := flen (kvs.take i) []
        have hl2 : (kvs.take i).length ≤ kvs.length := by rw [List.length_take]; omega
        simp only [List.length_nil, Nat.zero_add] at hl1
        have hzv : vs.length ≤ sizeLine := by rw [← rel.length]; exact z
        refine wpAny_dictSet_pairs (hsz := hzv) (kV_is r1) dd fun h2 dd2 hs2 => ?_
        have he : ∃ q, h2.get? D = some q := let ⟨q, _, _, hq, _⟩ := dd2; ⟨q, hq⟩
        have hl3 : (putK ((kvs.take i).foldl (fun acc kv => putK acc kv.1 kv.2) []) (kvs[i]).1 (kvs[i]).2).length ≤ sizeLine := by
          have := length_putK ((kvs.take i).foldl (fun acc kv => putK acc kv.1 kv.2) []) (kvs[i]).1 (kvs[i]).2
          omega
        have I2 := d_write (t' := ({ s with heap := h' } : Shared).toks + 1) I1 (by rw [upd_same]; exact True.intro) hs2 he (dk_new hl3 hd (rel.put (kvs[i]).1 r2) dd2)
        rw [upd_upd] at I2
        have e3 : (kvs.take (i + 1)).foldl (fun acc kv => putK acc kv.1 kv.2) [] = putK ((kvs.take i).foldl (fun acc kv => putK acc kv.1 kv.2) []) (kvs[i]).1 (kvs[i]).2 := by
          rw [List.take_add_one, List.foldl_append]
          simp [hlt]
        rw [← e3] at I2
        have hit2 : h2.IsListIter it p (i + 1) := by
          obtain ⟨oi, hoi, ri⟩ := hit'
          exact ⟨oi, (hs2.2 it hit0).trans hoi, ri⟩
        refine wpAny_pure ⟨plainId_quiet gx_plain_loop _, ?_⟩
        have := ih (i + 1) 0 _ (by omega) (by omega) I2 hit2 hfp hHit
        exact this
end
end L2

set_option Elab.async false
set_option linter.all false
set_option maxRecDepth 100000
set_option maxHeartbeats 4000000
namespace L2
open PySem PySem.Spec PyProof.Rows
section
variable {X : Cx}

def rDictOf (K : PySem.W.Frag) : List V → Hp → VK → Prop := fun xs H Q => ∃ (p : Addr) (ps : List Addr) (kvs : List (Key × V)), xs = [.ref p] ∧ SqL K H p (ps.map V.ref) ∧ Paired (fun a (kv : Key × V) => SqT K H a [kV kv.1, kv.2]) ps kvs ∧ kvs.length ≤ 100000 ∧
  ∀ d, H d = none → Q (.ref d) (upd H d (.dK (kvs.foldl (fun acc kv => putK acc kv.1 kv.2) [])))
theorem call_dict_of (hc : X.calm = true) : CallR X (.type "dict") (rDictOf X.K) := by
  intro pins s σ H xs us Q I r h
  obtain ⟨p, ps, kvs, rfl, hS, hps, hz, q⟩ := h
  obtain ⟨u, rfl, ru⟩ := vals1 r
  cases (show u = Value.ref p from ru)
  have hA := I.ok.hd hc
  have hD : H s.heap.objs.size = none := I.hok.fresh (Nat.le_refl _)
  obtain ⟨its, rv, pl, _⟩ := I.list hS
  have hplt : p < s.heap.objs.size := pl.lt
  have I0 : Inv X pins σ (upd H s.heap.objs.size (.dK [])) { s with heap := s.heap.push { cls := .type "dict", data := .dict #[] } } :=
    I.laid (a := s.heap.objs.size) (o := .dK []) (t' := s.toks) (fun _ _ q => Heap.get?_push_of_some _ q) (Nat.le_refl _) (dk_empty s.heap I.big)
  refine callType_codes (Q₁ := fun obj s₁ => obj = .ref s.heap.objs.size ∧ s₁ = { s with heap := s.heap.push { cls := .type "dict", data := .dict #[] } }) PySem.F.kt_called_dict (PySem.F.kt_typeCall_dict_1 _) PySem.F.entry_dict_init (kt_code_dict_new _ ⟨rfl, rfl⟩) ?_
  rintro obj s₁ ⟨rfl, rfl⟩
  have hnew : (s.heap.push { cls := .type "dict", data := .dict #[] }).DictOf (mixKind X.prog X.w) s.heap.objs.size [] := Heap.DictOf.new s.heap
  refine ⟨hnew.typeIs, PySem.F.args_dict_init_2 _ _, ?_⟩
  unfold Builtin.«dict.__init__»
  refine wpAny_bind ?_
  unfold Builtin.Dict.selfAndRest
  refine wpAny_bind (wpAny_notOrdered_dict hnew.typeIs ?_)
  show wpAny _ _ (pure (s.heap.objs.size, [Value.ref p])) _ _ _
  refine wpAny_pure ?_
  show wpAny _ _ (Builtin.Dict.updateFrom "dict.__init__" s.heap.objs.size (.ref p) [] .none) _ _ _
  unfold Builtin.Dict.updateFrom
  obtain ⟨o, n, ho, hcl, hdi, hda⟩ := pl
  have ho1 : (s.heap.push { cls := .type "dict", data := .dict #[] }).get? p = some o := Heap.get?_push_of_some _ ho
  refine wpAny_bind (wpAny_typeOf (T := "list") ⟨o, ho1, hcl⟩ ?_)
  rw [if_pos (by decide)]
  refine wpAny_bind (gx_noKeys (s := { s with heap := s.heap.push { cls := .type "dict", data := .dict #[] } }) ho1 hcl hda hdi hA fun h' tk hk => ?_)
  have I1 : Inv X pins σ (upd H s.heap.objs.size (.dK [])) { s with heap := h', toks := tk } := I0.kept hk
  rw [if_pos (by rfl)]
  refine wpAny_bind (wpAny_rule ?_)
  have ho2 : h'.get? p = some o := hk _ _ ho1
  refine wpAny_bind (wpAny_pyIter_list (s := { s with heap := h', toks := tk }) (items := its.toArray) ⟨o, ho2, hcl, n, hda⟩ ?_)
  have I2 : Inv X pins σ (upd H s.heap.objs.size (.dK [])) { s with heap := h'.push { cls := .type "list_iterator", data := .fields #[.ref p, .int 0 0] }, toks := tk } := I1.kept (t' := tk) fun b o e => Heap.get?_push_of_some _ e
  have hsz : s.heap.objs.size < h'.objs.size := by
    have e : (s.heap.push { cls := .type "dict", data := .dict #[] }).get? s.heap.objs.size = some { cls := .type "dict", data := .dict #[] } := Heap.get?_push_size _ rfl
    exact Heap.lt_size (hk _ _ e)
  have hit0 : h'.objs.size ≠ s.heap.objs.size := Nat.ne_of_gt hsz
  have hHit : H h'.objs.size = none := I.hok.fresh (Nat.le_of_lt hsz)
  refine wpAny_pure ⟨plainId_quiet gx_plain_loop _, ?_⟩
  refine dict_loop (A := X.A.in1) (it := h'.objs.size) hA (Nat.ne_of_lt hplt) hS hps hD hz hit0 (fun s' J => ⟨rfl, .ref s.heap.objs.size, _, J, rfl, q _ hD⟩) kvs.length 0 0 _ (by omega) (Nat.zero_le _) (by simpa using I2) ⟨_, Heap.get?_push_size _ rfl, rfl, rfl⟩ (fun H' hn => I1.fpOk (Nat.le_refl _) hn) hHit
theorem vals_at : ∀ (xs : List V) (us : List Value), xs.length = us.length → (∀ (i : Nat) (x : V) (u : Value), xs[i]? = some x → us[i]? = some u → RelV x u) → Vals xs us
  | [], [], _, _ => .nil
  | [], _ :: _, h, _ => by simp at h
  | _ :: _, [], h, _ => by simp at h
  | x :: xs, u :: us, h, k => .cons (k 0 x u rfl rfl) (vals_at xs us (by simpa using h) fun i y v e1 e2 => k (i + 1) y v (by simpa using e1) (by simpa using e2))
theorem is_rel {P : Program} {w : World} {k : Key} {v : Value} (h : (mixKind P w).is k v = true) : RelV (kV k) v := by
  rcases keyIs_shape (show keyIs k v = true from h) with ⟨i, t, rfl, rfl⟩ | ⟨x, t, rfl, rfl⟩
  · exact ⟨t, rfl⟩
  · exact ⟨t, rfl⟩
theorem keys_vals {P : Program} {w : World} {kvs : List (Key × V)} {vs : List (Key × Value)} {acc : Array Value} (rel : KV kvs vs) (h : ItemsOf (fun i v => ∃ k x, vs[i]? = some (k, x) ∧ (mixKind P w).is k v = true) acc vs.length) :
    Vals (kvs.map fun kv => kV kv.1) acc.toList := by
  have hl := rel.length
  have el : acc.toList.length = acc.size := by simp
  have hlen : (kvs.map fun kv => kV kv.1).length = acc.toList.length := by rw [List.length_map, el, h.1]; exact hl
  refine vals_at _ _ hlen fun i x u e1 e2 => ?_
  obtain ⟨k, y, e3, e4⟩ := h.2 i u (by simpa using e2)
  rw [List.getElem?_map] at e1
  cases e5 : kvs[i]? with
  | none => rw [e5] at e1; cases e1
  | some kv =>
    rw [e5] at e1
    have e1 : kV kv.1 = x := by simpa using e1
    have e6 : kv.1 = k := by
      have h1 : i < kvs.length := (List.getElem?_eq_some_iff.mp e5).1
      have h2 : i < vs.length := by omega
      have e7 := paired_at rel h1 h2
      have e8 : kvs[i] = kv := by have := List.getElem?_eq_some_iff.mp e5; exact this.2
      have e9 : vs[i] = (k, y) := by have := List.getElem?_eq_some_iff.mp e3; exact this.2
      rw [e8, e9] at e7
      exact e7.1
    rw [← e1, e6]
    exact is_rel e4

theorem call_list_dk (hc : X.calm = true) : CallR X (.type "list") (fun xs H Q => ∃ d kvs, xs = [.ref d] ∧ H d = some (.dK kvs) ∧ ∀ l, H l = none → Q (.ref l) (upd H l (.lst (kvs.map fun kv => kV kv.1)))) := by
  intro pins s σ H xs us Q I r h
  obtain ⟨d, kvs, rfl, hd, q⟩ := h
  obtain ⟨u, rfl, ru⟩ := vals1 r
  cases (show u = Value.ref d from ru)
  obtain ⟨z, lo, vs, rel, dd⟩ := dk_of I.hok hd
  have hlen := rel.length
  obtain ⟨ep, dat⟩ : ∃ ep, s.heap.DictAt (mixKind X.prog X.w) d vs ep := dd.dictAt
  refine PySem.W.kdl_call (PySem.W.kdl_dict (knd := mixKind X.prog X.w) (kvs := vs) (ep := ep) lo) (I.ok.hd hc) dat (by rw [← hlen]; exact z) fun h' tk acc' c' hk hS hit => ?_
  have hv : Vals (kvs.map fun kv => kV kv.1) acc'.toList := keys_vals rel hit
  refine ⟨.ref s.heap.objs.size, _, I.laid (a := s.heap.objs.size) (o := .lst (kvs.map fun kv => kV kv.1)) hk (Nat.le_refl _) ⟨by rw [List.length_map]; exact z, acc'.toList, c', hv, by simpa using hS⟩, rfl, q _ (I.hok.fresh (Nat.le_refl _))⟩
end
end L2

set_option Elab.async false
set_option linter.all false
set_option maxRecDepth 100000
set_option maxHeartbeats 4000000
namespace L2
open PySem PySem.Spec PyProof.Rows PySem.W
section
variable {prog : Program} {w : World} {A : Around} {E : Value → Shared → Prop} {s : Shared} {δ : Type} {R : δ → Value → Prop} {a : Addr} {D : List (Str × δ)} {k : Str} {tk : Tok} {d : δ}
theorem tab_typeIs (T : KTD.TabOf R s.heap a D) : s.TypeIs (.ref a) "dict" := let ⟨_, o, _, _, ho, hc, _⟩ := T; ⟨o, ho, hc.1⟩
theorem getItem_tab {Q : Value → Shared → Prop} (T : KTD.TabOf R s.heap a D) (hd : KTD.datumAt k D = some d) (h : ∀ v, R d v → Q v { s with toks := s.toks + 1 }) :
    wpAny (model prog w) A (getItem (.ref a) (.str k tk)) Q E s := by
  have ty := tab_typeIs T
  obtain ⟨_, o, es, ep, ho, hc, hdt, hr⟩ := T
  unfold getItem
  try with_reducible refine wpAny_holding ?_
  refine wpAny_bind (wpAny_sequenceKey ty (by decide) ?_)
  refine wpAny_bind (wpAny_callSpecial?_slot (name := Str.ofString "__getitem__") ty slot_dict_getitem
    (wpAny_call_entry slot_dict_getitem ty entry_dict_getitem ?_ (args_dict_getitem _ _)))
  show wpAny _ _ (dictGet a (.str k tk) >>= _) _ _ s
  refine wpAny_bind ?_
  unfold dictGet
  try with_reducible refine wpAny_holding ?_
  refine wpAny_bind (wpAny_pyHash_str (wpAny_bind (KTD.kt_dictFind_strs (s := { s with toks := s.toks + 1 }) ho hdt (by obtain ⟨l⟩ := es; simpa using hr.exact) ?_)))
  have hq : ∃ v, findBy (fun k v => v.isStr k) es k = some v ∧ R d v := by
    have hf : findBy (fun k v => v.isStr k) es k = (es.toList.find? fun e => e.key.isStr k).map (·.val) := by
      obtain ⟨l⟩ := es
      simp [findBy]
    rw [hf]
    exact hr.find_some hd
  obtain ⟨v, hv, hR⟩ := hq
  rw [findBy_of_findIdx?] at hv
  cases hi : es.findIdx? fun e => e.key.isStr k with
  | none => rw [hi] at hv; cases hv
  | some i =>
    rw [hi] at hv
    have hv : es[i]?.map (·.val) = some v := hv
    refine wpAny_bind (wpAny_dictEntries (s := { s with toks := s.toks + 1 }) ho hdt (wpAny_pure ?_))
    show wpAny _ _ _ _ _ _
    rw [hv]
    exact wpAny_pure ⟨v, rfl, wpAny_pure (h v hR)⟩
end

def TabK (K : PySem.W.Frag) (d : Addr) (rows : List (Str × List V)) : Prop :=
  ∃ (o : Obj) (es : Array DictEntry) (ep : Nat), K.lookup d = some o ∧ (d == sysModules) = false ∧ o.ExactDict ∧ o.data = .dict es ep ∧ KTD.Rows (fun (xs : List V) v => ∃ a, v = .ref a ∧ ∀ H : Hp, SqT K H a xs) es.toList rows
def rIxTab (K : PySem.W.Frag) : R2 := fun x y H Q => ∃ d rows k xs, x = .ref d ∧ y = .str k ∧ TabK K d rows ∧ KTD.datumAt k rows = some xs ∧ ∀ a, SqT K H a xs → Q (.ref a) H
theorem ix_tab {X : Cx} : IxR X (rIxTab X.K) := by
  intro value slice pins s σ H x y v u Q I rx ry h hs
  obtain ⟨d, rows, k, xs, rfl, rfl, ⟨o, es, ep, ho, lo, hc, hd, hr⟩, hk, q⟩ := h
  cases (show v = Value.ref d from rx)
  obtain ⟨t, rfl⟩ := (show ∃ t, u = Value.str k t from ry)
  have T : KTD.TabOf (fun (xs : List V) v => ∃ a, v = .ref a ∧ ∀ H : Hp, SqT X.K H a xs) s.heap d rows := ⟨lo, o, es, ep, I.kIn d o ho, hc, hd, hr⟩
  refine tail_any (tab_typeIs T) slot_dict_getitem.lookup (getItem_tab T hk fun v hv => ?_) hs
  obtain ⟨a, rfl, hsq⟩ := hv
  exact ⟨.ref a, H, I.tok _, rfl, q a (hsq H)⟩
end L2

set_option Elab.async false
set_option linter.all false
set_option maxRecDepth 100000
set_option maxHeartbeats 4000000
namespace L2
open PySem PySem.Spec PyProof.Rows

def relLook : V → Value → Bool
  | .non, .none => true
  | .bl b, .bool c => b == c
  | .int i, .int j _ => i == j
  | .str x, .str y _ => x == y
  | _, _ => false
theorem rel_of_look : ∀ {x : V} {v : Value}, relLook x v = true → RelV x v := by
  intro x v h
  unfold relLook at h
  split at h
  · rfl
  · obtain rfl := beq_iff_eq.mp h; rfl
  · obtain rfl := beq_iff_eq.mp h; exact ⟨_, rfl⟩
  · obtain rfl := beq_iff_eq.mp h; exact ⟨_, rfl⟩
  · cases h
def relsLook : List V → List Value → Bool
  | [], [] => true
  | x :: xs, v :: vs => relLook x v && relsLook xs vs
  | _, _ => false
theorem rels_of_look : ∀ {xs : List V} {vs : List Value}, relsLook xs vs = true → Vals xs vs
  | [], [], _ => .nil
  | x :: xs, v :: vs, h => by
    simp only [relsLook, Bool.and_eq_true] at h
    exact .cons (rel_of_look h.1) (rels_of_look h.2)
  | [], _ :: _, h => by simp [relsLook] at h
  | _ :: _, [], h => by simp [relsLook] at h
def tupLook (K : PySem.W.Frag) (xs : List V) (v : Value) : Bool := match v with
  | .ref a => match K.lookup a with
    | some o => o.cls == .type "tuple" && (match o.data with | .seq its _ => decide (its.size ≤ sizeLine) && relsLook xs its.toList | _ => false)
    | none => false
  | _ => false
theorem tup_of_look {K : PySem.W.Frag} (xs : List V) (v : Value) (h : tupLook K xs v = true) : ∃ a, v = .ref a ∧ ∀ H : Hp, SqT K H a xs := by
  unfold tupLook at h
  split at h
  · rename_i a
    split at h
    · rename_i o ho
      rw [Bool.and_eq_true] at h
      obtain ⟨h1, h2⟩ := h
      split at h2
      · rename_i its n hd
        rw [Bool.and_eq_true] at h2
        exact ⟨a, rfl, fun H => .inr ⟨o, its, n, ho, beq_iff_eq.mp h1, hd, of_decide_eq_true h2.1, rels_of_look h2.2⟩⟩
      · cases h2
    · cases h
  · cases h
theorem tabK_of_look {K : PySem.W.Frag} {d : Addr} {rows : List (Str × List V)} (h : KTD.tabLook (tupLook K) (fun a => K.lookup a) d rows = true) : TabK K d rows := by
  simp only [KTD.tabLook, Bool.and_eq_true] at h
  obtain ⟨h0, hl⟩ := h
  split at hl
  · rename_i o ho
    simp only [Bool.and_eq_true] at hl
    obtain ⟨⟨⟨e1, e2⟩, e3⟩, e4⟩ := hl
    split at e4
    · rename_i es ep hd
      exact ⟨o, es, ep, ho, by simpa using h0, ⟨beq_iff_eq.mp e1, by simpa using e2, by simpa using e3⟩, hd, KTD.rows_of_look tup_of_look e4⟩
    · cases e4
  · cases hl
end L2
namespace L2
open PySem

end L2

set_option Elab.async false
set_option linter.all false
set_option maxRecDepth 100000
set_option maxHeartbeats 4000000
namespace L2
open PySem PySem.Spec PyProof.Rows

section
variable {prog : Program} {w : World} {A : Around} {E : Value → Shared → Prop} {s : Shared}
theorem gx_nextOf_tup {it t : Addr} {i : Nat} {items : Array Value} {x : Value} {Q : Value → Shared → Prop} (hit : s.heap.IsTupleIter it t i) (ht : s.heap.IsTuple t items) (hx : items[i]? = some x)
    (hQ : ∀ h', h'.IsTupleIter it t (i + 1) → Heap.SameBut it s.heap h' → Q x { s with heap := h' }) : wpAny (model prog w) A (Builtin.SmallTypes.nextOf (.ref it)) Q E s := by
  obtain ⟨⟨o, ho, hc, hd⟩, ⟨ol, hol, _, nl, hdl⟩⟩ := (⟨id hit, ht⟩ : _ ∧ _)
  unfold Builtin.SmallTypes.nextOf; refine wpAny_bind (wpAny_callSpecial?_slot (name := Str.ofString "__next__") hit.typeIs F.slot_tuple_iterator_next (wpAny_call_entry F.slot_tuple_iterator_next hit.typeIs F.entry_tuple_iterator_next ?_ (F.args_tuple_iterator_next_1 _)))
  show wpAny (model prog w) _ (field (.ref it) 0 >>= _) _ _ s; refine wpAny_bind (wpAny_field ho hd (x := .ref t) rfl ?_)
  show wpAny (model prog w) _ (if (Value.ref t == Value.none) = true then _ else _) _ _ s; rw [if_neg (by exact Bool.false_ne_true)]
  show wpAny (model prog w) _ (field (.ref it) 1 >>= _) _ _ s; refine wpAny_bind (wpAny_field ho hd (x := .int i 0) rfl ?_)
  show wpAny (model prog w) _ (seqItems? (.ref t) >>= _) _ _ s; refine wpAny_bind (wpAny_seqItems hol hdl ?_); simp only [Int.toNat_natCast, hx]
  refine wpAny_bind (wpAny_setField ho hd (by simp) (wpAny_pure ⟨x, rfl, wpAny_pure (hQ _ ⟨_, Heap.get?_update_self _ ho (Obj.isFreed_of_fields (Obj.data_mapFields hd _)), (Obj.cls_mapFields ..).trans hc, by rw [Obj.data_mapFields hd]; simp [rawInt]⟩ (Heap.SameBut.update ..))⟩))
theorem gx_nextOf_tup_end {it t : Addr} {i : Nat} {items : Array Value} {Q : Value → Shared → Prop} (hh : A.handled = none) (hit : s.heap.IsTupleIter it t i) (ht : s.heap.IsTuple t items) (hx : items[i]? = none)
    (hE : ∀ h' e, Heap.ExtBut it s.heap h' → (∃ o, h'.get? e = some o ∧ o.cls = .type "StopIteration") → E (.ref e) { s with heap := h' }) : wpAny (model prog w) A (Builtin.SmallTypes.nextOf (.ref it)) Q E s := by
  obtain ⟨⟨o, ho, hc, hd⟩, ⟨ol, hol, _, nl, hdl⟩⟩ := (⟨id hit, ht⟩ : _ ∧ _)
  unfold Builtin.SmallTypes.nextOf; refine wpAny_bind (wpAny_callSpecial?_slot (name := Str.ofString "__next__") hit.typeIs F.slot_tuple_iterator_next (wpAny_call_entry F.slot_tuple_iterator_next hit.typeIs F.entry_tuple_iterator_next ?_ (F.args_tuple_iterator_next_1 _)))
  show wpAny (model prog w) _ (field (.ref it) 0 >>= _) _ _ s; refine wpAny_bind (wpAny_field ho hd (x := .ref t) rfl ?_)
  show wpAny (model prog w) _ (if (Value.ref t == Value.none) = true then _ else _) _ _ s; rw [if_neg (by exact Bool.false_ne_true)]
  show wpAny (model prog w) _ (field (.ref it) 1 >>= _) _ _ s; refine wpAny_bind (wpAny_field ho hd (x := .int i 0) rfl ?_)
  show wpAny (model prog w) _ (seqItems? (.ref t) >>= _) _ _ s; refine wpAny_bind (wpAny_seqItems hol hdl ?_); simp only [Int.toNat_natCast, hx]
  refine wpAny_bind (wpAny_rule (wpAny_bind (wpAny_setField ho hd (by simp) ?_))); show wpAny (model prog w) _ (newExc (.type "StopIteration") [] >>= _) _ _ _
  refine wpAny_bind ?_; simp only [newExc, newTuple]; refine wpAny_bind (wpAny_newObj_type ?_ (by size_fits))
  refine wpAny_bind (m := firstArgMember _ _) (wpAny_of_eq (a := Value.none) (by first | rfl | (simp only [firstArgMember]; rfl)) (wpAny_newObj_type ?_ (by size_fits)))
  simp only [raiseNew]; refine wpAny_bind (wpAny_handled ?_); first | rw [show A.in1.handled = none from hh] | rw [hh]
  refine wpAny_bind (wpAny_pure (wpAny_throw (hE _ _ (((Heap.SameBut.update ..).extBut.push _).push _) ⟨_, Heap.get?_push_size _ rfl, rfl⟩)))
end
theorem gx_draws_tup {prog : Program} {w : World} {A : Around} (hh : A.handled = none) (it t : Addr) (hne : t ≠ it) (items : Array Value) :
    Draws prog w A it [it, t] items.size (fun i v => items[i]? = some v) (fun i h => h.IsTupleIter it t i ∧ h.IsTuple t items) where
  live := fun _ _ ⟨⟨o, ho, _⟩, _⟩ => ⟨o, ho⟩
  frame := fun _ _ _ ⟨⟨o, ho, r⟩, ⟨o2, ho2, r2⟩⟩ hk => ⟨⟨o, hk it (by simp) o ho, r⟩, ⟨o2, hk t (by simp) o2 ho2, r2⟩⟩
  item := fun i s Q E hi ⟨s1, s2⟩ hQ => gx_nextOf_tup s1 s2 (x := items[i]) (by simp [hi]) fun h' hit' hs' => hQ _ h' s.toks (by simp [hi]) ⟨hit', s2.extBut hs'.extBut hne⟩ hs'
  done := fun s Q E ⟨s1, s2⟩ hE => gx_nextOf_tup_end hh s1 s2 (by simp) hE
end L2

namespace L2
open PySem PySem.Spec PyProof.Rows

section
variable {X : Cx} {pins : List (Addr × Obj)} {σ : St} {H : Hp} {s : Shared} {h' : Heap}
theorem Inv.turnedL {t' : Nat} {ch : List Addr} (I : Inv X pins σ H s) (k : ∀ b o, b ∉ ch → s.heap.get? b = some o → h'.get? b = some o) (hf : ∀ b ∈ ch, FpOk X pins H b) : Inv X pins σ H { s with heap := h', toks := t' } := by
  have nit : ∀ b u, H b = some u → b ∉ ch := fun b u e z => by rw [(hf b z).1] at e; cases e
  refine I.step (g' := s.gens) (d' := s.drawn) (ch := ch) (fun b hb => ⟨(hf b hb).2.2.2.1, (hf b hb).2.1, (hf b hb).2.2.2.2.1, (hf b hb).2.2.2.2.2⟩) (fun b o _ _ hc e _ => k b o hc e) (fun b o _ _ hc e _ => ⟨o.slots, k b o hc e⟩) (fun _ _ _ _ n => n) (fun b o hc e => ⟨o, k b o hc e⟩) (fun _ _ e => e) (fun _ _ _ e => e) (fun b ps e => ⟨#[], by rw [e]; simp⟩) (fun m hm => ?_) (fun b u e => ?_) I.bare
  · obtain ⟨o, es, ep, ho, r⟩ := hm
    exact ⟨o, es, ep, k _ _ (fun z => (hf _ z).2.1 rfl) ho, r⟩
  · have key : ∀ c, c = b ∨ H c = some (.own b) → c ∉ ch := fun c hc => by
      rcases hc with z | z
      · subst z; exact nit _ u e
      · exact nit c _ z
    exact (I.hok b u e).stay (fun c v hc q => k c v (key c hc) q) (fun _ q => q) fun _ _ q => q

theorem Inv.turnLaid {t' : Nat} {ch : List Addr} {a : Addr} {o : HO} (I : Inv X pins σ H s) (k : ∀ b o, b ∉ ch → s.heap.get? b = some o → h'.get? b = some o) (hf : ∀ b ∈ ch, FpOk X pins H b) (hp : s.heap.objs.size ≤ a) (new : ObjOk X.prog X.w (upd H a o) h' a o) :
    Inv X pins σ (upd H a o) { s with heap := h', toks := t' } := by
  have nit : ∀ b u, H b = some u → b ∉ ch := fun b u e z => by rw [(hf b z).1] at e; cases e
  have hn : H a = none := I.hok.fresh hp
  refine I.step (g' := s.gens) (d' := s.drawn) (ch := ch) (fun b hb => ⟨(hf b hb).2.2.2.1, (hf b hb).2.1, (hf b hb).2.2.2.2.1, (hf b hb).2.2.2.2.2⟩) (fun b o _ _ hc e _ => k b o hc e) (fun b o _ _ hc e _ => ⟨o.slots, k b o hc e⟩) (fun b u _ q n => by rw [upd_ne (fun z => by subst z; exact absurd (Nat.lt_of_lt_of_le (Heap.lt_size q) hp) (Nat.lt_irrefl _))]; exact n) (fun b o hc e => ⟨o, k b o hc e⟩) (fun b xs q => by rw [upd_ne (ne_of_none q hn)]; exact q) (fun b u xs q => by rw [upd_ne (ne_of_none q hn)]; exact q) (fun b ps q => ⟨#[], by rw [upd_ne (ne_of_none q hn), q]; simp⟩) (fun m hm => ?_) (fun b u e => ?_) I.bare
  · obtain ⟨o, es, ep, ho, r⟩ := hm
    exact ⟨o, es, ep, k _ _ (fun z => (hf _ z).2.1 rfl) ho, r⟩
  · by_cases hb : b = a
    · subst hb
      rw [upd_same] at e
      cases e
      exact new
    · rw [upd_ne hb] at e
      have key : ∀ c, c = b ∨ H c = some (.own b) → c ∉ ch := fun c hc => by
        rcases hc with z | z
        · subst z; exact nit _ u e
        · exact nit c _ z
      exact (I.hok b u e).stay (fun c v hc q => k c v (key c hc) q) (fun c q => (upd_ne (ne_of_none q hn)).trans q) fun c xs q => (upd_ne (ne_of_none q hn)).trans q
end

theorem gx_meets_enum_tup (l : Addr) (items : Array Value) (n : Nat) (dct : Option Addr) (sl : Array (Option Value)) :
    Meets (Builtin.«enumerate.__new__» ⟨[.type "enumerate", .ref l], []⟩) (fun _ R s => s.heap.get? l = some { cls := .type "tuple", dict := dct, data := .seq items n, slots := sl } ∧
      R (.ok (.ret (.ref (s.heap.push { cls := .type "tuple_iterator", data := .fields #[.ref l, .int 0 0] }).objs.size)))
        { s with heap := (s.heap.push { cls := .type "tuple_iterator", data := .fields #[.ref l, .int 0 0] }).push { cls := .type "enumerate", data := .fields #[.none, .bool false, .ref s.heap.objs.size, rawInt 0, .none, .none] } }) :=
  .of_wp fun prog w A R s h => by
    obtain ⟨h0, g0, d0, t0, o0⟩ := s
    obtain ⟨hl, h⟩ := h
    have hsub := sub_enumerate
    have hL : Heap.IsTuple (Shared.heap ⟨h0, g0, d0, t0, o0⟩) l items := ⟨_, hl, rfl, n, rfl⟩
    wp_walk using AutoSeq1.wpAny_loadPart' hl
    refine wpAny_stack_any fun st => wpAny_pure ?_
    split
    · rename_i c _ _ _ _ _
      cases (c == Value.type "enumerate") <;> (wp_walk using AutoSeq1.wpAny_loadPart' hl, wpAny_pyIter_tuple hL; exact ⟨_, rfl, h⟩)
    · wp_walk using AutoSeq1.wpAny_loadPart' hl, wpAny_pyIter_tuple hL; exact ⟨_, rfl, h⟩
theorem gx_call_enum_tup {prog : Program} {w : World} {A : Around} {E : Value → Shared → Prop} {s : Shared} {l : Addr} {items : Array Value} {Q : Value → Shared → Prop} (hL : s.heap.IsTuple l items)
    (h : ∀ h', IsEnum h' (s.heap.objs.size + 1) s.heap.objs.size 0 .none → h'.IsTupleIter s.heap.objs.size l 0 → (∀ b o, s.heap.get? b = some o → h'.get? b = some o) → Q (.ref (s.heap.objs.size + 1)) { s with heap := h' }) :
    wpAny (model prog w) A (call (.type "enumerate") [.ref l]) Q E s := by
  obtain ⟨⟨c, dct, dt, sl⟩, hl, hc, n, hd⟩ := hL
  cases (show c = .type "tuple" from hc); cases (show dt = .seq items n from hd)
  refine callType_new F.called_enumerate (by decide) (F.typeCall_enumerate_1 _) (F.newCall_enumerate_1 _) (fun obj => F.args_object_init_2 obj _) F.entry_enumerate_new (gx_meets_enum_tup l items n dct sl) ⟨hl, ?_⟩
  have hz : (s.heap.push { cls := .type "tuple_iterator", data := .fields #[.ref l, .int 0 0] }).objs.size = s.heap.objs.size + 1 := Heap.size_push ..
  have he : IsEnum ((s.heap.push { cls := .type "tuple_iterator", data := .fields #[.ref l, .int 0 0] }).push { cls := .type "enumerate", data := .fields #[.none, .bool false, .ref s.heap.objs.size, rawInt 0, .none, .none] }) (s.heap.objs.size + 1) s.heap.objs.size 0 .none := by
    have e := Heap.get?_push_size (s.heap.push { cls := .type "tuple_iterator", data := .fields #[.ref l, .int 0 0] }) (o := { cls := .type "enumerate", data := .fields #[.none, .bool false, .ref s.heap.objs.size, rawInt 0, .none, .none] }) rfl
    rw [hz] at e
    exact e
  show _ ∧ _
  rw [hz]
  exact ⟨⟨_, he, rfl⟩, h _ he ⟨_, Heap.get?_push_of_some _ (Heap.get?_push_size _ rfl), rfl, rfl⟩ fun b o x => Heap.get?_push_of_some _ (Heap.get?_push_of_some _ x)⟩

def Ite (K : PySem.W.Frag) (a : Addr) : It :=
  ⟨fun i H => ∃ xs x, SqT K H a xs ∧ xs[i]? = some x, fun i H y H' => ∃ b, y = .ref b ∧ H b = none ∧ ∀ xs x, SqT K H a xs → xs[i]? = some x → H' = upd H b (.tup [.int i, x]), fun i H => ∃ xs, SqT K H a xs ∧ xs.length = i⟩
theorem turn_enum {P : Program} {w : World} {K : PySem.W.Frag} {elts : List Expr} {k : Nat} {pos : Pos} (a e it : Addr) (hne : e ≠ it) : Turn P w K (.Tuple elts k pos) (Ite K a) [e, it] e (fun i h => (∃ old, IsEnum h e it i old) ∧ h.IsTupleIter it a i) where
  mem := by simp
  obj := fun i h st b hb => by
    obtain ⟨⟨old, he⟩, ⟨o, ho, hc, hd⟩⟩ := st
    rcases List.mem_cons.mp hb with z | z
    · subst z
      exact ⟨_, he, fun v z => by cases (show Data.fields _ = Data.cell v from z)⟩
    · have z : b = it := by simpa using z
      subst z
      exact ⟨o, ho, fun v z => by rw [hd] at z; cases z⟩
  keep := fun i h h' st kk => by
    obtain ⟨⟨old, he⟩, ⟨o, ho, r⟩⟩ := st
    exact ⟨⟨old, kk e (by simp) _ he⟩, ⟨o, kk it (by simp) o ho, r⟩⟩
  item := by
    intro X hP hw hK hc i pins s σ H E I hf st hg
    subst hP hw hK
    obtain ⟨⟨old, he⟩, hit⟩ := st
    obtain ⟨xs, x, hq, hx⟩ := hg
    obtain ⟨its, rv, p, hz⟩ := I.tuple hq
    have pt : s.heap.IsTuple a its.toArray := p
    obtain ⟨u, hu, ru⟩ := rv.get hx
    have hia : a ≠ it := fun z => by
      subst z
      obtain ⟨o1, h1, c1, _⟩ := hit
      obtain ⟨o2, h2, c2, _⟩ := pt
      rw [h1] at h2
      cases h2
      rw [c1] at c2
      injection c2 with c2
      exact absurd c2 (by decide)
    have hea : e ∉ [it, a] := fun z => by
      rcases List.mem_cons.mp z with z | z
      · exact hne z
      · have z : e = a := by simpa using z
        subst z
        obtain ⟨o2, h2, c2, _⟩ := pt
        rw [he] at h2
        cases h2
        injection (show Value.type "enumerate" = Value.type "tuple" from c2) with c2
        exact absurd c2 (by decide)
    have hlt : i < its.toArray.size := by
      have := (List.getElem?_eq_some_iff.mp hu).1
      simpa using this
    refine wpAny_pyNext_enum_itemD (gx_draws_tup (A := X.A.in1) (I.ok.hd hc) it a hia its.toArray) he ⟨hit, pt⟩ hlt hne hea fun y h' tk hy hout hst hT hsz hk => ?_
    refine ⟨_, rfl, wpAny_letOwnedTupleGo_enum hout fun h2 he2 hs2 => ?_⟩
    have hs2 : Heap.SameBut e h' h2 := hs2
    have hyu : y = u := by
      have hy : its.toArray[i]? = some y := hy
      have : its[i]? = some y := by simpa using hy
      rw [hu] at this
      exact (Option.some.inj this).symm
    subst hyu
    have helt : e < s.heap.objs.size := Heap.lt_size he
    have hfr : H s.heap.objs.size = none := I.hok.fresh (Nat.le_refl _)
    have hnS : s.heap.objs.size ≠ e := Nat.ne_of_gt helt
    have hT2 : h2.get? s.heap.objs.size = some { cls := .type "tuple", data := .seq #[.int i tk, y] } := (hs2.2 _ hnS).trans hT
    refine ⟨.ref s.heap.objs.size, upd H s.heap.objs.size (.tup [.int i, x]), I.turnLaid (t' := tk + 1) (ch := [e, it]) (fun b o hb q => ?_) hf (Nat.le_refl _) ?_, rfl, ⟨s.heap.objs.size, rfl, hfr, fun xs' x' hq' hx' => ?_⟩, ⟨⟨y, by exact_mod_cast he2⟩, ?_⟩, fun b hb => ?_⟩
    · have h1 : b ≠ e := fun z => hb (by simp [z])
      have h3 : b ≠ it := fun z => hb (by simp [z])
      exact (hs2.2 b h1).trans (hk b o h1 h3 q)
    · exact ⟨by show 2 ≤ sizeLine; decide, [.int i tk, y], .cons ⟨tk, rfl⟩ (.cons ru .nil), ⟨_, hT2, rfl, _, rfl⟩⟩
    · have := I.tuple_inj hq' hq
      subst this
      rw [hx] at hx'
      cases hx'
      rfl
    · obtain ⟨⟨o, ho, r⟩, _⟩ := hst
      exact ⟨o, (hs2.2 it hne.symm).trans ho, r⟩
    · have hb0 := (hf b hb).1
      rw [upd_ne]
      · exact hb0
      · intro z
        subst z
        obtain ⟨o, ho, _⟩ := hit
        rcases List.mem_cons.mp hb with z | z
        · exact hnS z
        · have z : s.heap.objs.size = it := by simpa using z
          exact absurd (Heap.lt_size ho) (by rw [← z]; exact Nat.lt_irrefl _)
  done := by
    intro X hP hw hK hc i pins s σ H E I hf st hg
    subst hP hw hK
    obtain ⟨⟨old, he⟩, hit⟩ := st
    obtain ⟨xs, hq, hx⟩ := hg
    obtain ⟨its, rv, p, hz⟩ := I.tuple hq
    have pt : s.heap.IsTuple a its.toArray := p
    have hl := rv.length
    have hia : a ≠ it := fun z => by
      subst z
      obtain ⟨o1, h1, c1, _⟩ := hit
      obtain ⟨o2, h2, c2, _⟩ := pt
      rw [h1] at h2
      cases h2
      rw [c1] at c2
      injection c2 with c2
      exact absurd c2 (by decide)
    have hi : i = its.toArray.size := by simp; omega
    refine wpAny_pyNext_enum_endD (gx_draws_tup (A := X.A.in1) (I.ok.hd hc) it a hia its.toArray) he (by rw [← hi]; exact ⟨hit, pt⟩) fun h' eb => ⟨rfl, ?_⟩
    exact I.turnedL (t' := s.toks) (ch := [e, it]) (fun b o hb q => eb b o (fun z => hb (by simp [z])) q) hf
  self := fun _ _ _ _ _ st h => by
    obtain ⟨⟨old, he⟩, _⟩ := st
    exact wpAny_pyIter_enum he h
end L2

namespace L2
open PySem PySem.Spec PyProof.Rows
section
variable {X : Cx}
theorem boot_enum : bootBuiltins "enumerate" = some (.type "enumerate") := bt_enumerate

def iEnumT (K : PySem.W.Frag) (ta : TA) : TI := fun σ H R => ta σ H fun vs H1 => ∃ a, vs = [.ref a] ∧ (∃ xs, SqT K H1 a xs) ∧ R (Ite K a) H1
theorem pi_enumT {a : Expr} {ta : TA} {p pos tpos : Pos} {elts : List Expr} {k : Nat} (hg : Gl X "enumerate") (hm : X.mg "enumerate" = none) (ha : PA X [a] ta) (hs : starEach [a] X.env = [(false, eval a X.env)] := by rfl) : PI X (.Tuple elts k tpos) (.Call (.Name "enumerate" p) [a] [] pos) (iEnumT X.K ta) := by
  intro pins s σ H R I h
  refine Call_ (ld_blt I hg hm boot_enum (PyProof.Rows.callWith_type1 (thn (ha pos pins s σ H _ I h) fun us s1 ⟨vs, H1, I1, r1, q1⟩ => ?_) hs rfl))
  obtain ⟨a, e, ⟨xs, hq⟩, q⟩ := q1
  subst e
  cases r1 with
  | cons r rr =>
    cases rr
    cases r
    obtain ⟨its, rv, p, hz⟩ := I1.tuple hq
    refine gx_call_enum_tup (show s1.heap.IsTuple a its.toArray from p) fun h' he hit hk => ?_
    refine wpAny_pyIter_enum he ?_
    refine ⟨s1.heap.objs.size + 1, [s1.heap.objs.size + 1, s1.heap.objs.size], _, _, H1, rfl, I1.kept (t' := s1.toks) hk, turn_enum a (s1.heap.objs.size + 1) s1.heap.objs.size (Nat.succ_ne_self _), ⟨⟨.none, he⟩, hit⟩, fun b hb => ?_, q⟩
    rcases List.mem_cons.mp hb with z | z
    · subst z
      exact I1.fpOk (Nat.le_succ _) (I1.hok.fresh (Nat.le_succ _))
    · have z : b = s1.heap.objs.size := by simpa using z
      subst z
      exact I1.fpOk (Nat.le_refl _) (I1.hok.fresh (Nat.le_refl _))

theorem for_enumT {K : PySem.W.Frag} {a : Addr} {xs : List V} {g : TG} {tb : TS} {D : Ends} {σ : St} {H : Hp} (Pv : Nat → St → Hp → Prop) (h0 : Pv 0 σ H) (hl : ∀ i σ H, i ≤ xs.length → Pv i σ H → SqT K H a xs)
    (hs : ∀ i x σ H b, xs[i]? = some x → Pv i σ H → H b = none → g (.ref b) σ (upd H b (.tup [.int i, x])) fun σ2 H2 => tb { D with nx := Pv (i + 1), ct := Pv (i + 1), bk := D.nx } σ2 H2) (hd : ∀ σ H, Pv xs.length σ H → D.nx σ H) :
    ∃ W : Nat → Nat → St → Hp → Prop, (∃ m, W 0 m σ H) ∧ ∀ i m σ H, W i m σ H → ((Ite K a).stop i H ∧ D.nx σ H) ∨ ((Ite K a).go i H ∧ ∃ N : St → Hp → Prop, (∀ σ' H', N σ' H' → ∃ m', m' < m ∧ W (i + 1) m' σ' H') ∧ ∀ x H', (Ite K a).yld i H x H' → g x σ H' fun σ2 H2 => tb { D with nx := N, ct := N, bk := D.nx } σ2 H2) := by
  refine ⟨fun i m σ H => m = xs.length - i ∧ i ≤ xs.length ∧ Pv i σ H, ⟨xs.length, by simp, Nat.zero_le _, h0⟩, ?_⟩
  rintro i m σ H ⟨rfl, hi, p⟩
  have q := hl i σ H hi p
  by_cases hlt : i < xs.length
  · refine .inr ⟨⟨xs, xs[i], q, by simp [hlt]⟩, Pv (i + 1), fun σ' H' p' => ⟨xs.length - (i + 1), by omega, rfl, hlt, p'⟩, fun x H' y => ?_⟩
    obtain ⟨b, rfl, hb, y⟩ := y
    rw [y xs xs[i] q (by simp [hlt])]
    exact hs i xs[i] σ H b (by simp [hlt]) p hb
  · have e : i = xs.length := by omega
    subst e
    exact .inl ⟨⟨xs, q, rfl⟩, hd σ H p⟩
end
end L2

set_option Elab.async false
set_option linter.all false
set_option maxRecDepth 100000
set_option maxHeartbeats 4000000
namespace L2
open PySem PySem.Spec PyProof.Rows
section
variable {X : Cx} {pins : List (Addr × Obj)} {σ : St} {H : Hp} {s : Shared}

theorem Inv.freeze {d : Addr} {kvs : List (Key × V)} (I : Inv X pins σ H s) (e : H d = some (.dK kvs)) : ∃ o, s.heap.get? d = some o ∧ Inv X pins σ (upd H d (.frz o (.dK kvs))) s := by
  obtain ⟨z, hd, vs, rel, ⟨o, es, ep, ho, r⟩⟩ := I.hok d _ e
  refine ⟨o, ho, ?_⟩
  have nd : ∀ b u, H b = some u → u ≠ .dK kvs → b ≠ d := fun b u q n z => by
    subst z
    rw [e] at q
    cases q
    exact n rfl
  refine I.step (g' := s.gens) (t' := s.toks) (d' := s.drawn) (h' := s.heap) (ch := []) (fun _ z => nomatch z) (fun b o _ _ _ q _ => q) (fun b o _ _ _ q _ => ⟨o.slots, q⟩) (fun b o _ _ n => ?_) (fun b o _ q => ⟨o, q⟩) (fun b xs q => ?_) (fun b o u q => ?_) (fun b ps q => ⟨#[], ?_⟩) (fun m hm => hm) (fun b u q => ?_) I.bare
  · rw [upd_ne (fun z => by subst z; rw [e] at n; cases n)]
    exact n
  · rw [upd_ne (nd b _ q (by intro z; cases z))]
    exact q
  · rw [upd_ne (nd b _ q (by intro z; cases z))]
    exact q
  · rw [upd_ne (nd b _ q (by intro z; cases z)), q]
    simp
  · have own : ∀ c b, H c = some (.own b) → (upd H d (.frz o (.dK kvs))) c = some (.own b) := fun c b q => (upd_ne (nd c _ q (by intro z; cases z))).trans q
    have tup : ∀ c xs, H c = some (.tup xs) → (upd H d (.frz o (.dK kvs))) c = some (.tup xs) := fun c xs q => (upd_ne (nd c _ q (by intro z; cases z))).trans q
    by_cases hb : b = d
    · subst hb
      rw [upd_same] at q
      cases q
      exact ⟨ho, (I.hok _ _ e).stay (fun _ _ _ q => q) (fun c q => own c _ q) tup⟩
    · rw [upd_ne hb] at q
      exact (I.hok b u q).stay (fun _ _ _ q => q) (fun c q => own c _ q) tup
end
theorem gx_entry_iiter : entryFor table "dict_itemiterator.__iter__" = some Builtin.«dict_keyiterator.__iter__» := entryFor_alias (id' := "dict_keyiterator.__iter__") (by kernel_rfl) (by first | rfl | decide +kernel | (unfold String.splitOn; simp +decide [String.splitOnAux])) (by decide +kernel) (by kernel_rfl)

def Itd (o : Obj) (d : Addr) (kvs : List (Key × V)) : It :=
  ⟨fun i H => H d = some (.frz o (.dK kvs)) ∧ i < kvs.length, fun i H y H' => ∃ b, y = .ref b ∧ H b = none ∧ ∀ kv, kvs[i]? = some kv → H' = upd H b (.tup [kV kv.1, kv.2]), fun i H => H d = some (.frz o (.dK kvs)) ∧ i = kvs.length⟩
theorem frz_at {X : Cx} {pins : List (Addr × Obj)} {σ : St} {H : Hp} {s : Shared} {o : Obj} {d : Addr} {kvs : List (Key × V)} (I : Inv X pins σ H s) (e : H d = some (.frz o (.dK kvs))) {es0 : Array DictEntry} {ep : Nat} (hep : o.data = .dict es0 ep) :
    ∃ vs, KV kvs vs ∧ s.heap.DictAt (mixKind X.prog X.w) d vs ep := by
  obtain ⟨h1, z, hd, vs, rel, ⟨o', es, ep', ho, hx, hdat, r⟩⟩ := I.hok d _ e
  rw [h1] at ho
  cases ho
  rw [hep] at hdat
  cases hdat
  exact ⟨vs, rel, o, es0, h1, hx, hep, r⟩
theorem turn_items {P : Program} {w : World} {K : PySem.W.Frag} {elts : List Expr} {k : Nat} {pos : Pos} (o : Obj) (d it : Addr) (kvs : List (Key × V)) (es0 : Array DictEntry) (ep : Nat) (hep : o.data = .dict es0 ep) :
    Turn P w K (.Tuple elts k pos) (Itd o d kvs) [it] it (fun i h => ∃ ok ov, IsItemIter h it d i kvs.length ep ok ov) where
  mem := by simp
  obj := fun i h st b hb => by
    obtain ⟨ok, ov, he⟩ := st
    have z : b = it := by simpa using hb
    subst z
    exact ⟨_, he, fun v z => by cases (show Data.fields _ = Data.cell v from z)⟩
  keep := fun i h h' st kk => by
    obtain ⟨ok, ov, he⟩ := st
    exact ⟨ok, ov, kk it (by simp) _ he⟩
  item := by
    intro X hP hw hK hc i pins s σ H E I hf st hg
    subst hP hw hK
    obtain ⟨ok, ov, he⟩ := st
    obtain ⟨hfz, hi⟩ := hg
    obtain ⟨vs, rel, hD⟩ := frz_at I hfz hep
    have hlen : kvs.length = vs.length := KV.length rel
    have hi' : i < vs.length := by omega
    have rk : kvs[i].1 = vs[i].1 ∧ RelV kvs[i].2 vs[i].2 := paired_at rel hi hi'
    refine wpAny_pyNext_items_item (knd := mixKind X.prog X.w) (k := vs[i].1) (v := vs[i].2) (kvs := vs) (by rw [← hlen]; exact he) hD (by simp [hi']) fun key h' hkey hout hT hsz hk => ?_
    refine ⟨_, rfl, wpAny_letOwnedTupleGo_items hout fun h2 he2 hs2 => ?_⟩
    have hs2 : Heap.SameBut it h' h2 := hs2
    have hilt : it < s.heap.objs.size := Heap.lt_size he
    have hnS : s.heap.objs.size ≠ it := Nat.ne_of_gt hilt
    have hfr : H s.heap.objs.size = none := I.hok.fresh (Nat.le_refl _)
    have hT2 : h2.get? s.heap.objs.size = some { cls := .type "tuple", data := .seq #[key, vs[i].2] } := (hs2.2 _ hnS).trans hT
    refine ⟨.ref s.heap.objs.size, upd H s.heap.objs.size (.tup [kV kvs[i].1, kvs[i].2]), I.turnLaid (t' := s.toks) (ch := [it]) (fun b o hb q => ?_) hf (Nat.le_refl _) ?_, rfl, ⟨s.heap.objs.size, rfl, hfr, fun kv hkv => ?_⟩, ⟨_, _, by rw [hlen]; exact he2⟩, fun b hb => ?_⟩
    · have h1 : b ≠ it := fun z => hb (by simp [z])
      exact (hs2.2 b h1).trans (hk b o h1 q)
    · exact ⟨by show 2 ≤ sizeLine; decide, [key, vs[i].2], .cons (by rw [rk.1]; exact is_rel hkey) (.cons rk.2 .nil), ⟨_, hT2, rfl, _, rfl⟩⟩
    · have : kvs[i] = kv := by simpa [hi] using hkv
      rw [← this]
    · have z : b = it := by simpa using hb
      subst z
      rw [upd_ne hnS.symm]
      exact (hf _ hb).1
  done := by
    intro X hP hw hK hc i pins s σ H E I hf st hg
    subst hP hw hK
    obtain ⟨ok, ov, he⟩ := st
    obtain ⟨hfz, hi⟩ := hg
    obtain ⟨vs, rel, hD⟩ := frz_at I hfz hep
    have hlen : kvs.length = vs.length := KV.length rel
    refine wpAny_pyNext_items_end (knd := mixKind X.prog X.w) (kvs := vs) (I.ok.hd hc) (by rw [← hlen]; exact he) hD (by simp; omega) fun h' eb => ⟨rfl, ?_⟩
    exact I.turnedL (t' := s.toks) (ch := [it]) (fun b o hb q => eb b o (fun z => hb (by simp [z])) q) hf
  self := fun A i s Q E st h => by
    obtain ⟨ok, ov, he⟩ := st
    have hT : s.TypeIs (.ref it) "dict_itemiterator" := ⟨_, he, rfl⟩
    exact wpAny_pyIter_slot hT F.slot_dict_itemiterator_iter (wpAny_call_entry F.slot_dict_itemiterator_iter hT gx_entry_iiter (show wpAny _ _ (ret (.ref it)) _ _ s from wpAny_pure ⟨_, rfl, "dict_itemiterator", _, hT, F.slot_dict_itemiterator_next.lookup, h⟩) (F.args_dict_itemiterator_iter_1 _))
section
variable {X : Cx}

def iItems (td : TE) : TI := fun σ H R => td σ H fun x H1 => ∃ d kvs, x = .ref d ∧ ((H1 d = some (.dK kvs) ∧ ∀ o, R (Itd o d kvs) (upd H1 d (.frz o (.dK kvs)))) ∨ ∃ o, H1 d = some (.frz o (.dK kvs)) ∧ R (Itd o d kvs) H1)
theorem pi_items {l : Expr} {td : TE} {apos cpos tpos : Pos} {elts : List Expr} {k : Nat} (hl : PE X l td) (hbase : attributeBase l "items" X.env (eval l X.env) = eval l X.env := by rfl) (hline : (apos.endLine == cpos.line) = true := by rfl) :
    PI X (.Tuple elts k tpos) (.Call (.Attribute l "items" apos) [] [] cpos) (iItems td) := by
  intro pins s σ H R I h
  refine wpAny_Call_method0_late hbase hline (thn (hl pins s σ H _ I h) fun v s1 ⟨x, H1, I1, r1, q1⟩ => ?_)
  obtain ⟨d, kvs, rfl, q1⟩ := q1
  cases r1
  have key : ∃ o H2, Inv X pins σ H2 s1 ∧ H2 d = some (.frz o (.dK kvs)) ∧ R (Itd o d kvs) H2 := by
    rcases q1 with ⟨e, q⟩ | ⟨o, e, q⟩
    · obtain ⟨o, ho, I2⟩ := I1.freeze e
      exact ⟨o, _, I2, upd_same, q o⟩
    · exact ⟨o, H1, I1, e, q⟩
  obtain ⟨o, H2, I2, e2, q⟩ := key
  obtain ⟨ho, z, hd, vs, rel, dd⟩ := I2.hok d _ e2
  obtain ⟨o', es, ep, ho', hx, hdat, r⟩ := id dd
  rw [ho] at ho'
  cases ho'
  refine ⟨"dict", "dict.items", PySem.F.plainAttrs_dict, PySem.F.slot_dict_items, PySem.F.type_dict_items, dd.typeIs, fun b q => ?_, Calls.callWith_builtin rfl (PySem.evalArgs_none ?_)⟩
  · cases q
    exact ⟨o, ho, hx.2.1⟩
  refine call_meetsIn PySem.F.slot_dict_items dd.typeIs PySem.F.entry_dict_items (PySem.F.args_dict_items_1 _) (meets_dict_items (mixKind X.prog X.w) d hd) ⟨⟨vs, dd⟩, ?_⟩
  have I3 : Inv X pins σ H2 { s1 with heap := s1.heap.push { cls := .type "dict_items", data := .fields #[.ref d] } } := I2.kept (t' := s1.toks) fun b o e => Heap.get?_push_of_some _ e
  obtain ⟨vs3, rel3, hD3⟩ := frz_at I3 e2 hdat
  refine wpAny_pyIter_items (knd := mixKind X.prog X.w) (kvs := vs3) (ep := ep) ⟨_, Heap.get?_push_size _ rfl, rfl, rfl⟩ hD3 ?_
  have hlen : kvs.length = vs3.length := KV.length rel3
  rw [← hlen]
  generalize hh3 : s1.heap.push { cls := .type "dict_items", data := .fields #[.ref d] } = h3 at I3 ⊢
  refine ⟨h3.objs.size, [h3.objs.size], _, _, H2, rfl, I3.kept (t' := s1.toks) fun b o e => Heap.get?_push_of_some _ e, turn_items o d h3.objs.size kvs es ep hdat, ⟨_, _, Heap.get?_push_size _ rfl⟩, fun b hb => ?_, q⟩
  have z : b = h3.objs.size := by simpa using hb
  subst z
  exact I3.fpOk (Nat.le_refl _) (I3.hok.fresh (Nat.le_refl _))
theorem for_items {o : Obj} {d : Addr} {kvs : List (Key × V)} {g : TG} {tb : TS} {D : Ends} {σ : St} {H : Hp} (Pv : Nat → St → Hp → Prop) (h0 : Pv 0 σ H) (hl : ∀ i σ H, i ≤ kvs.length → Pv i σ H → H d = some (.frz o (.dK kvs)))
    (hs : ∀ i kv σ H b, kvs[i]? = some kv → Pv i σ H → H b = none → g (.ref b) σ (upd H b (.tup [kV kv.1, kv.2])) fun σ2 H2 => tb { D with nx := Pv (i + 1), ct := Pv (i + 1), bk := D.nx } σ2 H2) (hd : ∀ σ H, Pv kvs.length σ H → D.nx σ H) :
    ∃ W : Nat → Nat → St → Hp → Prop, (∃ m, W 0 m σ H) ∧ ∀ i m σ H, W i m σ H → ((Itd o d kvs).stop i H ∧ D.nx σ H) ∨ ((Itd o d kvs).go i H ∧ ∃ N : St → Hp → Prop, (∀ σ' H', N σ' H' → ∃ m', m' < m ∧ W (i + 1) m' σ' H') ∧ ∀ x H', (Itd o d kvs).yld i H x H' → g x σ H' fun σ2 H2 => tb { D with nx := N, ct := N, bk := D.nx } σ2 H2) := by
  refine ⟨fun i m σ H => m = kvs.length - i ∧ i ≤ kvs.length ∧ Pv i σ H, ⟨kvs.length, by simp, Nat.zero_le _, h0⟩, ?_⟩
  rintro i m σ H ⟨rfl, hi, p⟩
  have q := hl i σ H hi p
  by_cases hlt : i < kvs.length
  · refine .inr ⟨⟨q, hlt⟩, Pv (i + 1), fun σ' H' p' => ⟨kvs.length - (i + 1), by omega, rfl, hlt, p'⟩, fun x H' y => ?_⟩
    obtain ⟨b, rfl, hb, y⟩ := y
    rw [y kvs[i] (by simp [hlt])]
    exact hs i kvs[i] σ H b (by simp [hlt]) p hb
  · have e : i = kvs.length := by omega
    subst e
    exact .inl ⟨⟨q, rfl⟩, hd σ H p⟩
end

section
variable {X : Cx} {o e f : Expr} {apos cpos : Pos} {td ty tx : TE}
def tDSetd (td ty tx : TE) : TE := fun σ H Q => td σ H fun x H1 => ∃ a, x = .ref a ∧ IsD H1 a ∧ ty σ H1 fun y H2 => tx σ H2 fun z H3 => ∃ kvs k, H3 a = some (.dK kvs) ∧ y = kV k ∧ kvs.length < sizeLine ∧
  (∀ v, valV kvs k = some v → Q v H3) ∧ (valV kvs k = none → Q z (upd H3 a (.dK (putK kvs k z))))
theorem pe_dsetd (ho : PE X o td) (he : PE X e ty) (hf : PE X f tx) (m : M2 X o "setdefault" apos e f cpos) : PE X (.Call (.Attribute o "setdefault" apos) [e, f] [] cpos) (tDSetd td ty tx) := by
  intro pins s σ H Q I h
  refine wpAny_Call_method m.base m.few m.line PySem.F.plainAttrs_dict PySem.F.slot_dict_setdefault PySem.F.type_dict_setdefault (thn (ho pins s σ H _ I h) fun u s1 ⟨x, H1, I1, rx, a, ex, d, q1⟩ => ?_)
  subst ex
  obtain rfl : u = Value.ref a := rx
  obtain ⟨t1, t2, _⟩ := isD_at I1 d
  refine ⟨t1, t2, ?_⟩
  rw [m.trees]
  refine Calls.callWith_builtin rfl (Calls.evalArgs_plain (Calls.spliced_cons (thn (he pins s1 σ H1 _ I1 q1) fun iv s2 ⟨y, H2, I2, ry, q2⟩ => Calls.spliced_cons (thn (hf pins s2 σ H2 _ I2 q2) fun fv s3 ⟨z, H3, I3, rz, kvs, k, ea, ey, hl, q3, q4⟩ => Calls.spliced_nil ?_))))
  subst ey
  obtain ⟨hz, hd, vs, rel, dd⟩ := dk_of I3.hok ea
  refine call_meetsIn PySem.F.slot_dict_setdefault dd.typeIs PySem.F.entry_dict_setdefault (PySem.F.args_dict_setdefault_3 _ _ _) (kt_meets_setdefault (mixKind X.prog X.w) a (kV_is ry) hd fv) ⟨vs, dd, by rw [← rel.length]; exact hz, fun v hv => ?_, fun hn h' dd' hs => ?_⟩
  · have rv := rel.val k
    rw [hv] at rv
    cases l : valV kvs k with
    | none => rw [l] at rv; exact absurd rv (by intro z; cases z)
    | some v' =>
      rw [l] at rv
      exact ⟨v', H3, I3.tok _, rv, q3 v' l⟩
  · have rv := rel.val k
    rw [hn] at rv
    have l : valV kvs k = none := by
      cases l : valV kvs k with
      | none => rfl
      | some v' => rw [l] at rv; exact absurd rv (by intro z; cases z)
    have hex : ∃ q, h'.get? a = some q := let ⟨q, _, _, hq, _⟩ := dd'; ⟨q, hq⟩
    have hlp : (putK kvs k z).length ≤ sizeLine := by have := length_putK kvs k z; omega
    exact ⟨z, _, d_write I3 (by rw [ea]; exact True.intro) hs hex (dk_new hlp hd (rel.put k rz) dd'), rz, q4 l⟩
end
end L2

set_option Elab.async false
set_option linter.all false
set_option maxRecDepth 100000
set_option maxHeartbeats 4000000
namespace L2
open PySem PySem.Spec PyProof.Rows


def Itn (hi : Int) (n : Nat) : It := ⟨fun i _ => i < n, fun i H x H' => H' = H ∧ x = .int (hi - i), fun i _ => n ≤ i⟩
theorem turn_down {P : Program} {w : World} {K : PySem.W.Frag} {tg : Expr} (it : Addr) (hi : Int) (n : Nat) : Turn P w K tg (Itn hi n) [it] it (fun i h => IsRangeIter h it (hi + (i : Nat) * (-1)) ((n : Int) - (i : Nat)) (-1)) where
  mem := by simp
  obj := fun i h st b hb => by
    have e : b = it := by simpa using hb
    subst e
    exact ⟨_, st, fun v z => by cases (show Data.fields _ = Data.cell v from z)⟩
  keep := fun i h h' st k => k it (by simp) _ st
  item := by
    intro X hP hw hK hc i pins s σ H E I hf st hg
    subst hP hw hK
    refine (Walks.range (prog := X.prog) (w := X.w) (I.ok.hd hc) it hi (-1) n).item i s _ _ hg st fun v h' tk hv st' kk => ?_
    obtain ⟨t, rfl⟩ := hv
    have I1 : Inv X pins σ H { s with heap := h', toks := tk } := I.turnedL (ch := [it]) (fun b o hb e => kk b o hb e) hf
    have e : hi + (i : Int) * (-1) = hi - (i : Int) := by omega
    exact ⟨_, rfl, go_of (s := { s with heap := h', toks := tk }) (n := "range_iterator") st' rfl rfl (by decide) ⟨.int (hi - i), H, I1, ⟨t, by rw [e]⟩, ⟨rfl, rfl⟩, st', fun b hb => (hf b hb).1⟩⟩
  done := by
    intro X hP hw hK hc i pins s σ H E I hf st hg
    subst hP hw hK
    exact wpAny_pyNext_range_end (I.ok.hd hc) st (by have : n ≤ i := hg; omega) fun h' eb => ⟨rfl, I.turnedL (t' := s.toks) (ch := [it]) (fun b o hb e => eb b o (fun z => hb (by simp [z])) e) hf⟩
  self := fun _ _ _ _ _ st h => wpAny_pyIter_rangeiter st h
theorem rangeSize_down (a b : Int) : Builtin.Range.rangeSize a b (-1) = if b < a then a - b else 0 := by
  unfold Builtin.Range.rangeSize
  rw [if_neg (by decide)]
  have : (-(-1) : Int) = 1 := by decide
  rw [this]
  rw [Int.ediv_one]
  by_cases h : b < a
  · rw [if_pos h, if_pos h]; omega
  · rw [if_neg h, if_neg h]
theorem small_down {a b : Int} (ha : -(2 ^ 60) ≤ a) (ha' : a < 2 ^ 60) (hb : -(2 ^ 60) ≤ b) (hb' : b < 2 ^ 60) : Builtin.Range.small a b (-1) = true := by
  unfold Builtin.Range.small
  rw [rangeSize_down]
  simp only [Builtin.Range.rangeFitsLong, Bool.and_eq_true, Bool.or_eq_true, decide_eq_true_eq, beq_iff_eq, show ¬ ((-1 : Int) > 0) by decide, if_false]
  by_cases h : b < a
  · simp only [if_pos h]; omega
  · simp only [if_neg h]; omega
section
variable {X : Cx} {tg : Expr}
def iDown (ta : TA) : TI := fun σ H R => ta σ H fun vs H1 => ∃ i j : Int, vs = [.int i, .int j, .int (-1)] ∧ (-(2 ^ 60) ≤ i ∧ i < 2 ^ 60 ∧ -(2 ^ 60) ≤ j ∧ j < 2 ^ 60) ∧ R (Itn i (i - j).toNat) H1
theorem pi_down {a b c : Expr} {ta : TA} {p pos : Pos} (hg : Gl X "range") (hm : X.mg "range" = none) (ha : PA X [a, b, c] ta) (hs : starEach [a, b, c] X.env = (false, eval a X.env) :: starEach [b, c] X.env := by rfl) (hs2 : (backTo pos (starEach [b, c] X.env)).any (·.1) = false := by rfl) :
    PI X tg (.Call (.Name "range" p) [a, b, c] [] pos) (iDown ta) := by
  intro pins s σ H R I h
  refine Call_ (ld_blt I hg hm boot_range (PyProof.Rows.callWith_type1 (thn (ha pos pins s σ H _ I h) fun us s1 ⟨vs, H1, I1, r1, q1⟩ => ?_) hs hs2))
  obtain ⟨i, j, e, ⟨q1, q2, q3, q4⟩, q⟩ := q1
  subst e
  cases r1 with
  | cons r rr =>
    cases rr with
    | cons r' rr =>
      cases rr with
      | cons r'' rr =>
        cases rr
        obtain ⟨t, rfl⟩ := r
        obtain ⟨t', rfl⟩ := r'
        obtain ⟨t'', rfl⟩ := r''
        refine call_range_3 (by decide) ?_ (.inl (PyProof.noPylong_small (by omega)))
        refine wpAny_pyIter_range (IsRange.new ..) (small_down q1 q2 q3 q4) ?_
        have I2 : Inv X pins σ H1 { s1 with heap := s1.heap.push { cls := .type "range", data := .fields #[.int i t, .int j t', .int (-1) t''] }, toks := s1.toks } := I1.kept fun b o e => Heap.get?_push_of_some _ e
        refine ⟨_, [(s1.heap.push { cls := .type "range", data := .fields #[.int i t, .int j t', .int (-1) t''] }).objs.size], _, _, H1, rfl, I2.kept (t' := s1.toks) fun b o e => Heap.get?_push_of_some _ e, turn_down _ i (i - j).toNat, ?_, fun b hb => ?_, q⟩
        · have e1 : i + ((0 : Nat) : Int) * (-1) = i := by omega
          have e2 : (((i - j).toNat : Nat) : Int) - ((0 : Nat) : Int) = Builtin.Range.rangeSize i j (-1) := by rw [rangeSize_down]; split <;> omega
          show IsRangeIter _ _ (i + ((0 : Nat) : Int) * (-1)) ((((i - j).toNat : Nat) : Int) - ((0 : Nat) : Int)) (-1)
          rw [e1, e2]
          exact Heap.get?_push_size _ rfl
        · have e : b = (s1.heap.push { cls := .type "range", data := .fields #[.int i t, .int j t', .int (-1) t''] }).objs.size := by simpa using hb
          subst e
          exact I2.fpOk (Nat.le_refl _) (I2.hok.fresh (Nat.le_refl _))
theorem for_down {hi : Int} {n : Nat} {g : TG} {tb : TS} {D : Ends} {σ : St} {H : Hp} (Pv : Nat → St → Hp → Prop) (h0 : Pv 0 σ H) (hs : ∀ i σ H, i < n → Pv i σ H → g (.int (hi - i)) σ H fun σ2 H2 => tb { D with nx := Pv (i + 1), ct := Pv (i + 1), bk := D.nx } σ2 H2) (hd : ∀ σ H, Pv n σ H → D.nx σ H) :
    ∃ W : Nat → Nat → St → Hp → Prop, (∃ m, W 0 m σ H) ∧ ∀ i m σ H, W i m σ H → ((Itn hi n).stop i H ∧ D.nx σ H) ∨ ((Itn hi n).go i H ∧ ∃ N : St → Hp → Prop, (∀ σ' H', N σ' H' → ∃ m', m' < m ∧ W (i + 1) m' σ' H') ∧ ∀ x H', (Itn hi n).yld i H x H' → g x σ H' fun σ2 H2 => tb { D with nx := N, ct := N, bk := D.nx } σ2 H2) := by
  refine ⟨fun i m σ H => m = n - i ∧ i ≤ n ∧ Pv i σ H, ⟨n, by simp, Nat.zero_le _, h0⟩, ?_⟩
  rintro i m σ H ⟨rfl, hi', p⟩
  by_cases hlt : i < n
  · refine .inr ⟨hlt, Pv (i + 1), fun σ' H' p' => ⟨n - (i + 1), by omega, rfl, hlt, p'⟩, fun x H' y => ?_⟩
    obtain ⟨e, y⟩ := y
    subst e y
    exact hs i σ _ hlt p
  · have e : i = n := by omega
    subst e
    exact .inl ⟨Nat.le_refl _, hd σ H p⟩
end
end L2

set_option Elab.async false
set_option linter.all false
set_option maxRecDepth 100000
set_option maxHeartbeats 4000000
namespace L2
open PySem PySem.Spec PyProof.Rows

def rCatT0 (K : PySem.W.Frag) : R2 := fun x y H Q => ∃ a b ys, x = .ref a ∧ y = .ref b ∧ SqT K H a [] ∧ SqT K H b ys ∧ Q (.ref b) H
theorem op_catT0 {X : Cx} : OpR X (binaryOp .Add) (rCatT0 X.K) := by
  intro pins s σ H x y v u Q I rx ry h
  obtain ⟨a, b, ys, rfl, rfl, ha, hb, q⟩ := h
  cases rx
  cases ry
  obtain ⟨its, r1, p1, _⟩ := I.tuple ha
  obtain ⟨its2, r2, p2, _⟩ := I.tuple hb
  obtain ⟨⟨cls, dd, data, sl⟩, ho, hc, n, hd⟩ := id p1
  obtain ⟨⟨cls2, dd2, data2, sl2⟩, ho2, hc2, n2, hd2⟩ := id p2
  simp only at hc hd hc2 hd2
  subst hc hd hc2 hd2
  exact concat_meets ⟨_, ho, rfl⟩ ⟨_, ho2, rfl⟩ noFill_tuple_add seq_tuple_add PySem.F.slot_tuple_add PySem.F.entry_tuple_add (PySem.F.args_tuple_add_2 _ _)
    (tuple_addW0 a b its.toArray its2.toArray n n2 dd dd2 sl sl2 (by simp [r1.nil_iff.mpr rfl])) ⟨ho, ho2, ⟨.ref b, H, I, rfl, q⟩⟩
theorem op_catTT {X : Cx} : OpR X (binaryOp .Add) (fun x y H Q => rCatT X.K x y H Q ∨ rCatT0 X.K x y H Q) := op_catT.or op_catT0

theorem pss_cut {X : Cx} {st : Stmt} {rest : List Stmt} {t u : TS} (h1 : PS X st t) (h2 : PSs X rest u) : PSs X (st :: rest) (fun D σ H => ∃ M : St → Hp → Prop, t { D with nx := M } σ H ∧ ∀ σ' H', M σ' H' → u D σ' H') := by
  intro pins s σ H D I h
  obtain ⟨M, h, hm⟩ := h
  refine wpAny_execs_cons (thn (h1 pins s σ H { D with nx := M } I h) fun f s1 q => ?_)
  cases f with
  | next =>
    obtain ⟨σ', H', I', q⟩ := q
    exact h2 pins s1 σ' H' D I' (hm _ _ q)
  | ret v => exact q
  | brk => exact q
  | cont => exact q
end L2

set_option Elab.async false
set_option linter.all false
set_option maxRecDepth 100000
set_option maxHeartbeats 4000000
namespace L2
open PySem PySem.Spec PyProof.Rows

end L2

set_option Elab.async false
set_option linter.all false
set_option maxRecDepth 100000
set_option maxHeartbeats 4000000
namespace L2
open PySem PySem.Spec PyProof.Rows PySem.W

theorem Paired.len {α β : Type} {R : α → β → Prop} : ∀ {xs : List α} {ys : List β}, Paired R xs ys → xs.length = ys.length
  | _, _, .nil => rfl
  | _, _, .cons _ r => by rw [List.length_cons, List.length_cons, Paired.len r]
def selfV : V → Bool
  | .int _ => true
  | .ref _ => true
  | _ => false
end L2

set_option Elab.async false
set_option linter.all false
set_option maxRecDepth 100000
set_option maxHeartbeats 4000000
namespace L2
open PySem PySem.Spec PyProof.Rows

end L2

set_option Elab.async false
set_option linter.all false
set_option maxRecDepth 100000
set_option maxHeartbeats 4000000
namespace L2
open PySem PySem.Spec PyProof.Rows

def Lay (n : Nat) (d : PyData) : Prop := PyData.canLay0 d = true ∧ PyData.depth d ≤ n
theorem Lay.int {n : Nat} (i : Int) : Lay n (.int i) := ⟨by unfold PyData.canLay0; rfl, by unfold PyData.depth; exact Nat.zero_le _⟩
theorem Lay.bool {n : Nat} (b : Bool) : Lay n (.bool b) := ⟨by unfold PyData.canLay0; rfl, by unfold PyData.depth; exact Nat.zero_le _⟩
theorem Lay.none {n : Nat} : Lay n .none := ⟨by unfold PyData.canLay0; rfl, by unfold PyData.depth; exact Nat.zero_le _⟩
theorem Lay.str {n : Nat} {x : Str} (h : PyData.strOk x = true) : Lay n (.str x) := ⟨by unfold PyData.canLay0; exact h, by unfold PyData.depth; exact Nat.zero_le _⟩
theorem lays {n : Nat} : ∀ {ds : List PyData}, (∀ d ∈ ds, Lay n d) → PyData.canLayAll0 ds = true ∧ PyData.depthAll ds ≤ n
  | [], _ => ⟨by unfold PyData.canLayAll0; rfl, by unfold PyData.depthAll; exact Nat.zero_le _⟩
  | d :: ds, h => by
    have h1 := h d List.mem_cons_self
    have h2 := lays (fun x hx => h x (List.mem_cons_of_mem _ hx))
    constructor
    · unfold PyData.canLayAll0; rw [h1.1, h2.1]; rfl
    · unfold PyData.depthAll; exact Nat.max_le.mpr ⟨h1.2, h2.2⟩
theorem Lay.list {n : Nat} {ds : List PyData} (h : ∀ d ∈ ds, Lay n d) : Lay (n + 1) (.list ds) := by
  have h2 := lays h
  exact ⟨by unfold PyData.canLay0; exact h2.1, by unfold PyData.depth; have := h2.2; omega⟩
theorem Lay.tuple {n : Nat} {ds : List PyData} (h : ∀ d ∈ ds, Lay n d) : Lay (n + 1) (.tuple ds) := by
  have h2 := lays h
  exact ⟨by unfold PyData.canLay0; exact h2.1, by unfold PyData.depth; have := h2.2; omega⟩
theorem Lay.shaped {n : Nat} {d : PyData} (h : Lay n d) (hn : n ≤ 64) : SeqAt.shaped d = true := by
  unfold SeqAt.shaped
  rw [h.1, decide_eq_true (Nat.le_trans h.2 hn)]
  rfl
theorem Lay.refl {n : Nat} {d : PyData} (h : Lay n d) : PyData.eqv d d = true := SeqAt.eqv_refl d h.1
theorem Lay.mono {n m : Nat} {d : PyData} (h : Lay n d) (hn : n ≤ m) : Lay m d := ⟨h.1, Nat.le_trans h.2 hn⟩

theorem rEqD_same {K : PySem.W.Frag} {x y : V} {H : Hp} {Q : VK} {d : PyData} {n : Nat} (hn : n ≤ 64) (l : Lay n d) (hx : DatV K H d x) (hy : DatV K H d y) (q : Q (.bl true) H) : rEqD K x y H Q :=
  ⟨d, d, hx, hy, l.shaped hn, l.shaped hn, by rw [l.refl]; exact q⟩
mutual
theorem DatV.mono {K : PySem.W.Frag} {H H' : Hp} (e : Same H H') : ∀ (d : PyData) (v : V), DatV K H d v → DatV K H' d v
  | .none, v, h => by unfold DatV at h ⊢; exact h
  | .bool b, v, h => by unfold DatV at h ⊢; exact h
  | .int i, v, h => by unfold DatV at h ⊢; exact h
  | .str x, v, h => by unfold DatV at h ⊢; exact h
  | .list ds, v, h => by
    unfold DatV at h ⊢
    obtain ⟨a, xs, rfl, hq, hd⟩ := h
    exact ⟨a, xs, rfl, e.seq hq, DatAll.mono e ds xs hd⟩
  | .tuple ds, v, h => by
    unfold DatV at h ⊢
    obtain ⟨a, xs, rfl, hq, hd⟩ := h
    exact ⟨a, xs, rfl, e.tup hq, DatAll.mono e ds xs hd⟩
  | .dict _, v, h => by unfold DatV at h; exact h.elim
theorem DatAll.mono {K : PySem.W.Frag} {H H' : Hp} (e : Same H H') : ∀ (ds : List PyData) (xs : List V), DatAll K H ds xs → DatAll K H' ds xs
  | [], xs, h => by unfold DatAll at h ⊢; exact h
  | d :: ds, xs, h => by
    unfold DatAll at h ⊢
    obtain ⟨x, r, rfl, hd, hds⟩ := h
    exact ⟨x, r, rfl, DatV.mono e d x hd, DatAll.mono e ds r hds⟩
end

def ers (l : Addr) (H : Hp) : Hp := fun b => if b = l then none else H b
theorem ers_ne {l b : Addr} {H : Hp} (h : b ≠ l) : ers l H b = H b := by unfold ers; rw [if_neg h]
theorem ers_same {l : Addr} {H : Hp} : Same (ers l H) H := fun b o h => by
  unfold ers at h
  split at h
  · cases h
  · exact h
theorem ers_upd {l : Addr} {H : Hp} {o : HO} : ers l (upd H l o) = ers l H := by
  funext b
  unfold ers upd
  split <;> rfl
theorem Same.ers {l : Addr} {H H' : Hp} (e : Same H H') : Same (ers l H) (ers l H') := fun b o h => by
  unfold L2.ers at h ⊢
  split at h
  · cases h
  · rename_i hb
    rw [if_neg hb]
    exact e b o h
end L2
namespace L2
open PySem PySem.Spec PyProof.Rows

section
variable {g : TG} {tif : TT} {te : TE} {js : List (Option Nat)} {σ : St} {H : Hp} {Q : VK}
end
end L2
namespace Gx
open PySem L2
theorem le0 : 0 ≤ sizeLine := by decide
theorem le1 : 1 ≤ sizeLine := by decide
theorem le2 : 2 ≤ sizeLine := by decide
theorem le3 : 3 ≤ sizeLine := by decide
theorem le4 : 4 ≤ sizeLine := by decide
theorem lt_line {n : Nat} (h : n < 1000000) : n ≤ sizeLine := by
  have : (1000000 : Nat) < sizeLine := by decide
  omega
theorem at0 {x : V} {r : List V} : atI (x :: r) 0 = some x := by
  unfold atI ixN
  rw [if_pos (by decide), if_pos (by simp)]
  rfl
theorem vq {Q : VK} {H : Hp} {x y : V} (h : x = y) (q : Q y H) : Q x H := by subst h; exact q
theorem map_at {α : Type} {es : List α} {f : α → V} {i : Nat} {x : V} (h : (es.map f)[i]? = some x) : ∃ e, es[i]? = some e ∧ e ∈ es ∧ x = f e := by
  rw [List.getElem?_map] at h
  cases he : es[i]? with
  | none => rw [he] at h; cases h
  | some e => rw [he] at h; cases h; exact ⟨e, rfl, List.mem_of_getElem? he, rfl⟩
end Gx

set_option Elab.async false
set_option linter.all false
set_option maxRecDepth 100000
set_option maxHeartbeats 4000000
namespace L2
open PySem PySem.Spec PyProof.Rows

section
variable {X : Cx} {tg : Expr}
end
section
variable {g : TG} {tif : TT} {te : TE} {js : List (Option Nat)} {σ : St} {H : Hp} {Q : VK}
end

end L2
namespace Gx
open PySem L2

def tx (l : List Nat) : Str := ⟨l.toArray⟩
end Gx

set_option Elab.async false
set_option linter.all false
set_option maxRecDepth 100000
set_option maxHeartbeats 4000000
namespace PySem
open PySem.SeqAt
end PySem
namespace L2
open PySem PySem.Spec PyProof.Rows

end L2

set_option Elab.async false
set_option linter.all false
set_option maxRecDepth 100000
set_option maxHeartbeats 4000000
namespace L2
open PySem PySem.Spec PyProof.Rows


def ItE (K : PySem.W.Frag) (a : Addr) : It :=
  ⟨fun i H => ∃ xs x, SqL K H a xs ∧ xs[i]? = some x, fun i H y H' => ∃ b, y = .ref b ∧ H b = none ∧ ∀ xs x, SqL K H a xs → xs[i]? = some x → H' = upd H b (.tup [.int i, x]), fun i H => ∃ xs, SqL K H a xs ∧ xs.length = i⟩
theorem turn_enumL {P : Program} {w : World} {K : PySem.W.Frag} {elts : List Expr} {k : Nat} {pos : Pos} (a e it : Addr) (hne : e ≠ it) : Turn P w K (.Tuple elts k pos) (ItE K a) [e, it] e (fun i h => (∃ old, IsEnum h e it i old) ∧ h.IsListIter it a i) where
  mem := by simp
  obj := fun i h st b hb => by
    obtain ⟨⟨old, he⟩, ⟨o, ho, hc, hd⟩⟩ := st
    rcases List.mem_cons.mp hb with z | z
    · subst z
      exact ⟨_, he, fun v z => by cases (show Data.fields _ = Data.cell v from z)⟩
    · have z : b = it := by simpa using z
      subst z
      exact ⟨o, ho, fun v z => by rw [hd] at z; cases z⟩
  keep := fun i h h' st kk => by
    obtain ⟨⟨old, he⟩, ⟨o, ho, r⟩⟩ := st
    exact ⟨⟨old, kk e (by simp) _ he⟩, ⟨o, kk it (by simp) o ho, r⟩⟩
  item := by
    intro X hP hw hK hc i pins s σ H E I hf st hg
    subst hP hw hK
    obtain ⟨⟨old, he⟩, hit⟩ := st
    obtain ⟨xs, x, hq, hx⟩ := hg
    obtain ⟨its, rv, p, hz⟩ := I.list hq
    have pt : s.heap.IsList a its.toArray := p.isList
    obtain ⟨u, hu, ru⟩ := rv.get hx
    have hia : a ≠ it := fun z => by
      subst z
      obtain ⟨o1, h1, c1, _⟩ := hit
      obtain ⟨o2, h2, c2, _⟩ := pt
      rw [h1] at h2
      cases h2
      rw [c1] at c2
      injection c2 with c2
      exact absurd c2 (by decide)
    have hea : e ∉ [it, a] := fun z => by
      rcases List.mem_cons.mp z with z | z
      · exact hne z
      · have z : e = a := by simpa using z
        subst z
        obtain ⟨o2, h2, c2, _⟩ := pt
        rw [he] at h2
        cases h2
        injection (show Value.type "enumerate" = Value.type "list" from c2) with c2
        exact absurd c2 (by decide)
    have hlt : i < its.toArray.size := by
      have := (List.getElem?_eq_some_iff.mp hu).1
      simpa using this
    refine wpAny_pyNext_enum_itemD (Draws.list (A := X.A.in1) (I.ok.hd hc) it a hia its.toArray) he ⟨hit, pt⟩ hlt hne hea fun y h' tk hy hout hst hT hsz hk => ?_
    refine ⟨_, rfl, wpAny_letOwnedTupleGo_enum hout fun h2 he2 hs2 => ?_⟩
    have hs2 : Heap.SameBut e h' h2 := hs2
    have hyu : y = u := by
      have hy : its.toArray[i]? = some y := hy
      have : its[i]? = some y := by simpa using hy
      rw [hu] at this
      exact (Option.some.inj this).symm
    subst hyu
    have helt : e < s.heap.objs.size := Heap.lt_size he
    have hfr : H s.heap.objs.size = none := I.hok.fresh (Nat.le_refl _)
    have hnS : s.heap.objs.size ≠ e := Nat.ne_of_gt helt
    have hT2 : h2.get? s.heap.objs.size = some { cls := .type "tuple", data := .seq #[.int i tk, y] } := (hs2.2 _ hnS).trans hT
    refine ⟨.ref s.heap.objs.size, upd H s.heap.objs.size (.tup [.int i, x]), I.turnLaid (t' := tk + 1) (ch := [e, it]) (fun b o hb q => ?_) hf (Nat.le_refl _) ?_, rfl, ⟨s.heap.objs.size, rfl, hfr, fun xs' x' hq' hx' => ?_⟩, ⟨⟨y, by exact_mod_cast he2⟩, ?_⟩, fun b hb => ?_⟩
    · have h1 : b ≠ e := fun z => hb (by simp [z])
      have h3 : b ≠ it := fun z => hb (by simp [z])
      exact (hs2.2 b h1).trans (hk b o h1 h3 q)
    · exact ⟨by show 2 ≤ sizeLine; decide, [.int i tk, y], .cons ⟨tk, rfl⟩ (.cons ru .nil), ⟨_, hT2, rfl, _, rfl⟩⟩
    · have := I.list_inj hq' hq
      subst this
      rw [hx] at hx'
      cases hx'
      rfl
    · obtain ⟨⟨o, ho, r⟩, _⟩ := hst
      exact ⟨o, (hs2.2 it hne.symm).trans ho, r⟩
    · have hb0 := (hf b hb).1
      rw [upd_ne]
      · exact hb0
      · intro z
        subst z
        obtain ⟨o, ho, _⟩ := hit
        rcases List.mem_cons.mp hb with z | z
        · exact hnS z
        · have z : s.heap.objs.size = it := by simpa using z
          exact absurd (Heap.lt_size ho) (by rw [← z]; exact Nat.lt_irrefl _)
  done := by
    intro X hP hw hK hc i pins s σ H E I hf st hg
    subst hP hw hK
    obtain ⟨⟨old, he⟩, hit⟩ := st
    obtain ⟨xs, hq, hx⟩ := hg
    obtain ⟨its, rv, p, hz⟩ := I.list hq
    have pt : s.heap.IsList a its.toArray := p.isList
    have hl := rv.length
    have hia : a ≠ it := fun z => by
      subst z
      obtain ⟨o1, h1, c1, _⟩ := hit
      obtain ⟨o2, h2, c2, _⟩ := pt
      rw [h1] at h2
      cases h2
      rw [c1] at c2
      injection c2 with c2
      exact absurd c2 (by decide)
    have hi : i = its.toArray.size := by simp; omega
    refine wpAny_pyNext_enum_endD (Draws.list (A := X.A.in1) (I.ok.hd hc) it a hia its.toArray) he (by rw [← hi]; exact ⟨hit, pt⟩) fun h' eb => ⟨rfl, ?_⟩
    exact I.turnedL (t' := s.toks) (ch := [e, it]) (fun b o hb q => eb b o (fun z => hb (by simp [z])) q) hf
  self := fun _ _ _ _ _ st h => by
    obtain ⟨⟨old, he⟩, _⟩ := st
    exact wpAny_pyIter_enum he h
end L2

namespace L2
open PySem PySem.Spec PyProof.Rows
section
variable {X : Cx}

def iEnumL (K : PySem.W.Frag) (ta : TA) : TI := fun σ H R => ta σ H fun vs H1 => ∃ a, vs = [.ref a] ∧ (∃ xs, SqL K H1 a xs) ∧ R (ItE K a) H1
theorem pi_enumL {a : Expr} {ta : TA} {p pos tpos : Pos} {elts : List Expr} {k : Nat} (hg : Gl X "enumerate") (hm : X.mg "enumerate" = none) (ha : PA X [a] ta) (hs : starEach [a] X.env = [(false, eval a X.env)] := by rfl) : PI X (.Tuple elts k tpos) (.Call (.Name "enumerate" p) [a] [] pos) (iEnumL X.K ta) := by
  intro pins s σ H R I h
  refine Call_ (ld_blt I hg hm boot_enum (PyProof.Rows.callWith_type1 (thn (ha pos pins s σ H _ I h) fun us s1 ⟨vs, H1, I1, r1, q1⟩ => ?_) hs rfl))
  obtain ⟨a, e, ⟨xs, hq⟩, q⟩ := q1
  subst e
  cases r1 with
  | cons r rr =>
    cases rr
    cases r
    obtain ⟨its, rv, p, hz⟩ := I1.list hq
    refine call_enumerate_list p.isList fun h' he hit _ hk => ?_
    refine wpAny_pyIter_enum he ?_
    refine ⟨s1.heap.objs.size + 1, [s1.heap.objs.size + 1, s1.heap.objs.size], _, _, H1, rfl, I1.kept (t' := s1.toks) hk, turn_enumL a (s1.heap.objs.size + 1) s1.heap.objs.size (Nat.succ_ne_self _), ⟨⟨.none, he⟩, hit⟩, fun b hb => ?_, q⟩
    rcases List.mem_cons.mp hb with z | z
    · subst z
      exact I1.fpOk (Nat.le_succ _) (I1.hok.fresh (Nat.le_succ _))
    · have z : b = s1.heap.objs.size := by simpa using z
      subst z
      exact I1.fpOk (Nat.le_refl _) (I1.hok.fresh (Nat.le_refl _))

theorem for_enumL {K : PySem.W.Frag} {a : Addr} {xs : List V} {g : TG} {tb : TS} {D : Ends} {σ : St} {H : Hp} (Pv : Nat → St → Hp → Prop) (h0 : Pv 0 σ H) (hl : ∀ i σ H, i ≤ xs.length → Pv i σ H → SqL K H a xs)
    (hs : ∀ i x σ H b, xs[i]? = some x → Pv i σ H → H b = none → g (.ref b) σ (upd H b (.tup [.int i, x])) fun σ2 H2 => tb { D with nx := Pv (i + 1), ct := Pv (i + 1), bk := D.nx } σ2 H2) (hd : ∀ σ H, Pv xs.length σ H → D.nx σ H) :
    ∃ W : Nat → Nat → St → Hp → Prop, (∃ m, W 0 m σ H) ∧ ∀ i m σ H, W i m σ H → ((ItE K a).stop i H ∧ D.nx σ H) ∨ ((ItE K a).go i H ∧ ∃ N : St → Hp → Prop, (∀ σ' H', N σ' H' → ∃ m', m' < m ∧ W (i + 1) m' σ' H') ∧ ∀ x H', (ItE K a).yld i H x H' → g x σ H' fun σ2 H2 => tb { D with nx := N, ct := N, bk := D.nx } σ2 H2) := by
  refine ⟨fun i m σ H => m = xs.length - i ∧ i ≤ xs.length ∧ Pv i σ H, ⟨xs.length, by simp, Nat.zero_le _, h0⟩, ?_⟩
  rintro i m σ H ⟨rfl, hi, p⟩
  have q := hl i σ H hi p
  by_cases hlt : i < xs.length
  · refine .inr ⟨⟨xs, xs[i], q, by simp [hlt]⟩, Pv (i + 1), fun σ' H' p' => ⟨xs.length - (i + 1), by omega, rfl, hlt, p'⟩, fun x H' y => ?_⟩
    obtain ⟨b, rfl, hb, y⟩ := y
    rw [y xs xs[i] q (by simp [hlt])]
    exact hs i xs[i] σ H b (by simp [hlt]) p hb
  · have e : i = xs.length := by omega
    subst e
    exact .inl ⟨⟨xs, q, rfl⟩, hd σ H p⟩
end
end L2

set_option Elab.async false
set_option linter.all false
set_option maxRecDepth 100000
set_option maxHeartbeats 4000000
namespace PySem
open Sem (wp)

def ItB (b : Bool) (h : Heap) (it l : Addr) (k : Nat) : Prop := match b with | true => h.IsTupleIter it l k | false => h.IsListIter it l k
def SqB (b : Bool) (h : Heap) (l : Addr) (xs : Array Value) : Prop := match b with | true => h.IsTuple l xs | false => h.IsList l xs
theorem ItB.at {b : Bool} {h h' : Heap} {it l : Addr} {k : Nat} (p : ItB b h it l k) (e : ∀ o, h.get? it = some o → h'.get? it = some o) : ItB b h' it l k := by
  cases b <;> (obtain ⟨o, ho, r⟩ := p; exact ⟨o, e o ho, r⟩)
theorem SqB.at {b : Bool} {h h' : Heap} {l : Addr} {xs : Array Value} (p : SqB b h l xs) (e : ∀ o, h.get? l = some o → h'.get? l = some o) : SqB b h' l xs := by
  cases b <;> (obtain ⟨o, ho, r⟩ := p; exact ⟨o, e o ho, r⟩)
theorem ItB.extBut {b : Bool} {h h' : Heap} {it l c : Addr} {k : Nat} (p : ItB b h it l k) (e : Heap.ExtBut c h h') (n : it ≠ c) : ItB b h' it l k := p.at fun o ho => e _ _ n ho
theorem SqB.extBut {b : Bool} {h h' : Heap} {l c : Addr} {xs : Array Value} (p : SqB b h l xs) (e : Heap.ExtBut c h h') (n : l ≠ c) : SqB b h' l xs := p.at fun o ho => e _ _ n ho
theorem ItB.lt {b : Bool} {h : Heap} {it l : Addr} {k : Nat} (p : ItB b h it l k) : it < h.objs.size := by
  cases b <;> (obtain ⟨o, ho, r⟩ := p; exact Heap.lt_size ho)
section
variable {prog : Program} {w : World} {A : Around} {E : Value → Shared → Prop} {s : Shared}
end
end PySem

set_option Elab.async false
set_option linter.all false
set_option maxRecDepth 100000
set_option maxHeartbeats 4000000
namespace PySem
open Sem (wp)

end PySem

set_option Elab.async false
set_option linter.all false
set_option maxRecDepth 100000
set_option maxHeartbeats 4000000
namespace PySem
open Sem (wp)
section
variable {prog : Program} {w : World} {A : Around} {E : Value → Shared → Prop} {s : Shared}
end
end PySem
namespace L2
open PySem PySem.Spec PyProof.Rows
theorem SqB.lt {b : Bool} {h : Heap} {l : Addr} {xs : Array Value} (p : SqB b h l xs) : l < h.objs.size := by
  cases b <;> (obtain ⟨o, ho, r⟩ := p; exact Heap.lt_size ho)

section
variable {X : Cx}
end
end L2

set_option Elab.async false
set_option linter.all false
set_option maxRecDepth 100000
set_option maxHeartbeats 4000000
namespace L2
open PySem PySem.Spec PyProof.Rows

structure ClsOk (K : PySem.W.Frag) (mg : Str → Option Value) (name : Str) (C : Addr) : Prop where
  cl : Cls K C
  g : mg name = some (.ref C)
structure MetOk (K : PySem.W.Frag) (C : Addr) (m qual : Str) (st : Stmt) (ps : List Str) (f : Addr) (fd : FuncData) : Prop where
  F : Fun K m qual st f fd
  b : Binds K fd ps []
  m : Meth K C m f
structure IniOk (K : PySem.W.Frag) (C : Addr) (qual : Str) (st : Stmt) (ps : List Str) (f : Addr) (fd : FuncData) : Prop where
  F : Fun K "__init__" qual st f fd
  b : Binds K fd ps []
  M : Mk K C f
section
variable {X : Cx} {k : Nat} {C f : Addr} {fd : FuncData} {ps : List Str} {sp : Sp} {x m qual : Str} {st : Stmt} {p pos apos : Pos} {o e : Expr} {es : List Expr} {ta : TE} {t : TA}
theorem makeD (Cc : ClsOk X.K X.mg x C) (D : IniOk X.K C qual st ps f fd) (G : FnOk X.prog X.w X.K X.mg X.base CX0 k f fd ps sp) (hr : Room (k + 1) X.A) (ha : PA X (e :: es) t) (hg : Gl X x := by rfl)
    (hdb : (x == ("__debug__" : Str)) = false := by decide) (he : starEach (e :: es) X.env = (false, eval e X.env) :: starEach es X.env := by rfl) (hpl : (backTo pos (starEach es X.env)).any (·.1) = false := by rfl) :
    PE X (.Call (.Name x p) (e :: es) [] pos) (tMake C sp [] E0 t) := pe_make D.M G hr hg Cc.g D.b .nil pass0 ha hdb he hpl
theorem metOk_mk {K : PySem.W.Frag} {C : Addr} {m qual : Str} {st : Stmt} {ps : List Str} {f : Addr} {oc : Value} {od an : Option Addr} {osl : Array (Option Value)} {kV doc pm cdv ct : Value}
    (a : PySem.W.findIn K (.ref C) m = some (some (.ref f))) (i : PySem.W.isFn K (.ref f) = true) (l : K.lookup f = some ⟨oc, od, .func (PySem.W.fnOf m qual (defArgs st) (defBody st) (defScope st) .none kV doc pm an cdv ct), osl⟩) (c : PySem.W.codeIn K cdv qual = true) (k : PySem.W.keepIn K (.ref f) = true)
    (b : ∀ (kV doc pm : Value) (an : Option Addr) (cdv ct : Value) (us : List Value), us.length = ps.length → bindArgs (PySem.W.fnOf m qual (defArgs st) (defBody st) (defScope st) .none kV doc pm an cdv ct) ⟨us, []⟩ = pure (ps.zip us)) :
    MetOk K C m qual st ps f (PySem.W.fnOf m qual (defArgs st) (defBody st) (defScope st) .none kV doc pm an cdv ct) :=
  ⟨fun_mk l c k, (fun_mk l c k).binds b, ⟨a, i, k⟩⟩
theorem iniOk_mk {K : PySem.W.Frag} {C : Addr} {qual : Str} {st : Stmt} {ps : List Str} {f : Addr} {oc : Value} {od an : Option Addr} {osl : Array (Option Value)} {kV doc pm cdv ct : Value}
    (mk : PySem.W.makesIn K C = true) (kc : PySem.W.keepIn K (.ref C) = true) (a : PySem.W.findIn K (.ref C) "__init__" = some (some (.ref f))) (i : PySem.W.isFn K (.ref f) = true) (l : K.lookup f = some ⟨oc, od, .func (PySem.W.fnOf "__init__" qual (defArgs st) (defBody st) (defScope st) .none kV doc pm an cdv ct), osl⟩) (c : PySem.W.codeIn K cdv qual = true) (k : PySem.W.keepIn K (.ref f) = true)
    (b : ∀ (kV doc pm : Value) (an : Option Addr) (cdv ct : Value) (us : List Value), us.length = ps.length → bindArgs (PySem.W.fnOf "__init__" qual (defArgs st) (defBody st) (defScope st) .none kV doc pm an cdv ct) ⟨us, []⟩ = pure (ps.zip us)) :
    IniOk K C qual st ps f (PySem.W.fnOf "__init__" qual (defArgs st) (defBody st) (defScope st) .none kV doc pm an cdv ct) :=
  ⟨fun_mk l c k, (fun_mk l c k).binds b, ⟨mk, a, i, kc⟩⟩
end
theorem u1' {A : Around} (h : A.units + 64 < cLine) : A.units + 1 < cLine := by omega
end L2

set_option Elab.async false
set_option linter.all false
set_option maxRecDepth 100000
set_option maxHeartbeats 4000000
namespace L2
open PySem PySem.Spec PyProof.Rows

section
variable {prog : Program} {w : World} {A : Around} {E : Value → Shared → Prop} {s : Shared}
open HT in
theorem getItem_tuple_all {t sl : Addr} {items : Array Value} {vl vu : Value} {lo hi : Option Int} {Q : Value → Shared → Prop} (ht : IsTup s.heap t items) (hs : s.heap.IsSliceOf sl vl vu .none) (pl : IsPart vl lo) (pu : IsPart vu hi)
    (hw : sIx items.size 0 lo = 0 ∧ sIx items.size items.size hi = items.size) (h : Q (.ref t) s) : wpAny (model prog w) A (getItem (.ref t) (.ref sl)) Q E s := by
  obtain ⟨os, hos, hcs, hds⟩ := id hs
  have tS : s.TypeIs (.ref sl) "slice" := ⟨os, hos, hcs⟩
  unfold getItem; try with_reducible refine wpAny_holding ?_
  first | refine wpAny_bind (wpAny_pure ?_) | skip
  refine wpAny_bind (wpAny_sequenceKey ht.typeIs (by decide) ?_); refine wpAny_bind (wpAny_callSpecial?_slot (name := Str.ofString "__getitem__") ht.typeIs PyProof.Rows.slot_tuple_getitem (wpAny_call_entry PyProof.Rows.slot_tuple_getitem ht.typeIs entry_tuple_getitem ?_ (args_tuple_getitem _ _)))
  show wpAny _ _ (Builtin.Tuple.tupleItemsOf (.ref t) >>= _) _ _ s; refine wpAny_bind (tupleItemsOf_ ht ?_); refine wpAny_bind (wpAny_typeOf tS ?_); rw [if_pos (by decide)]; refine wpAny_bind (sliceApplied_gen hs pl pu ?_)
  have yes : (((sIx items.size 0 lo : Nat) : Int) == 0 && (1 : Int) == 1 && (sIx items.size items.size hi - sIx items.size 0 lo) == items.size) = true := by
    rw [hw.1, hw.2]
    simp
  show wpAny _ _ (if (((sIx items.size 0 lo : Nat) : Int) == 0 && (1 : Int) == 1 && (sIx items.size items.size hi - sIx items.size 0 lo) == items.size) = true then _ else _) _ _ s; rw [if_pos yes]
  show wpAny _ _ (Builtin.Tuple.tupleIsExact (.ref t) >>= _) _ _ s
  unfold Builtin.Tuple.tupleIsExact
  refine wpAny_bind (wpAny_bind (wpAny_typeOf ht.typeIs (wpAny_pure ?_)))
  rw [if_pos (by decide)]
  exact wpAny_bind (wpAny_rule (wpAny_bind (wpAny_pure (wpAny_pure ⟨_, rfl, wpAny_pure h⟩))))
end
def rSlW (K : PySem.W.Frag) : V → Option Int → Option Int → Hp → VK → Prop := fun x lo hi H Q => ∃ a xs, x = .ref a ∧ SqT K H a xs ∧
  (HT.sIx xs.length 0 lo = 0 ∧ HT.sIx xs.length xs.length hi = xs.length) ∧ Q (.ref a) H
theorem sl_tupW {X : Cx} : SlR X (rSlW X.K) := by
  intro pins s σ H x v vl vu lo hi sl Q I rx hs pl pu h
  obtain ⟨a, xs, rfl, hx, hw, q⟩ := h
  cases rx
  obtain ⟨its, r, ht, hz⟩ := I.tuple hx
  have hlen : its.toArray.size = xs.length := by rw [List.size_toArray]; exact r.length.symm
  refine ⟨"tuple", _, PyProof.Rows.slot_tuple_getitem.lookup, ht.typeIs, getItem_tuple_all ht hs pl pu (by rw [hlen]; exact hw) ⟨.ref a, H, I, rfl, q⟩⟩

def rSlA (K : PySem.W.Frag) : V → Option Int → Option Int → Hp → VK → Prop := fun x lo hi H Q => rSlT K x lo hi H Q ∨ rSlW K x lo hi H Q
theorem sl_tupA {X : Cx} : SlR X (rSlA X.K) := sl_tup.or sl_tupW
theorem rSlA_of {K : PySem.W.Frag} {H : Hp} {Q : VK} {a : Addr} {xs : List V} {lo hi : Option Int} (h : SqT K H a xs) (q : ∀ p H', Same H H' → SqT K H' p (cutV xs lo hi) → Q (.ref p) H') : rSlA K (.ref a) lo hi H Q := by
  by_cases hw : HT.sIx xs.length 0 lo = 0 ∧ HT.sIx xs.length xs.length hi = xs.length
  · refine .inr ⟨a, xs, rfl, h, hw, q a H (Same.refl _) ?_⟩
    have : cutV xs lo hi = xs := by
      unfold cutV
      rw [hw.1, hw.2, List.drop_zero, Nat.sub_zero, List.take_length]
    rw [this]
    exact h
  · exact .inl ⟨a, xs, rfl, h, hw, fun p hp => q p _ (Same.new hp) (SqT.of upd_same)⟩
end L2

set_option Elab.async false
set_option linter.all false
set_option maxRecDepth 100000
set_option maxHeartbeats 4000000
namespace L2
open PySem PySem.Spec PyProof.Rows

def sB : Stmt → List Stmt
  | .For _ _ b _ _ => b
  | .While _ b _ _ => b
  | .If _ b _ _ => b
  | _ => []
section
variable {g : TG} {tif : TT} {te : TE} {js : List (Option Nat)} {σ : St} {H : Hp} {Q : VK}

end
end L2

set_option Elab.async false
set_option linter.all false
set_option maxRecDepth 100000
set_option maxHeartbeats 4000000
namespace L2
open PySem PySem.Spec PyProof.Rows

theorem IxR.imp {X : Cx} {r r' : R2} (h : IxR X r) (f : ∀ x y H Q, r' x y H Q → r x y H Q) : IxR X r' := fun a b pins s σ H x y v u Q I r1 r2 q z => h a b pins s σ H x y v u Q I r1 r2 (f x y H Q q) z
theorem OpR.imp {X : Cx} {g : Value → Value → Sem Value} {r r' : R2} (h : OpR X g r) (f : ∀ x y H Q, r' x y H Q → r x y H Q) : OpR X g r' := fun pins s σ H x y v u Q I r1 r2 q => h pins s σ H x y v u Q I r1 r2 (f x y H Q q)
theorem CallR.imp {X : Cx} {g : Value} {r r' : List V → Hp → VK → Prop} (h : CallR X g r) (f : ∀ xs H Q, r' xs H Q → r xs H Q) : CallR X g r' := fun pins s σ H xs us Q I r1 q => h pins s σ H xs us Q I r1 (f xs H Q q)
section
variable {X : Cx} {a b : Expr} {ta tb : TE} {pos : Pos}
end

end L2

set_option Elab.async false
set_option linter.all false
set_option maxRecDepth 100000
set_option maxHeartbeats 4000000
namespace L2
open PySem PySem.Spec PyProof.Rows PySem.Builtin PySem.Builtin.Str
section
variable {X : Cx}

end
end L2

set_option Elab.async false
set_option linter.all false
set_option maxRecDepth 100000
set_option maxHeartbeats 4000000
namespace L2
open PySem PySem.Spec PyProof.Rows

section
variable {prog : Program} {w : World} {A : Around} {E : Value → Shared → Prop} {s : Shared}
end

section
variable {X : Cx} {tg : Expr}
end
end L2

set_option Elab.async false
set_option linter.all false
set_option maxRecDepth 100000
set_option maxHeartbeats 4000000
namespace PySem
end PySem
namespace PySem
open Sem (wp)
abbrev IsZipA (h : Heap) (z TI TO T : Addr) (fb : Bool) : Prop :=
  h.get? z = some { cls := .type "zip", dict := none, data := .fields #[rawInt T, .bool fb, .bool false, .ref TI, .ref TO], slots := #[] }
section
variable {prog : Program} {w : World} {A : Around} {E : Value → Shared → Prop} {s : Shared}
def ZipSt (h : Heap) (z TI TO : Addr) : Option Addr → Prop
  | none => IsZip h z TI TO .none ∧ ∃ a b, IsPair h TO a b
  | some T => (∃ fb, IsZipA h z TI TO T fb) ∧ ∃ o, h.get? T = some o
theorem ZipSt.at {h h' : Heap} {z TI TO : Addr} {m : Option Addr} (p : ZipSt h z TI TO m) (ez : ∀ o, h.get? z = some o → h'.get? z = some o) (eT : ∀ o, h.get? TO = some o → h'.get? TO = some o) (em : ∀ T, m = some T → ∀ o, h.get? T = some o → h'.get? T = some o) : ZipSt h' z TI TO m := by
  cases m with
  | none => obtain ⟨a, b, c, d⟩ := p; exact ⟨ez _ a, b, c, eT _ d⟩
  | some T => obtain ⟨⟨fb, a⟩, o, ho⟩ := p; exact ⟨⟨fb, ez _ a⟩, o, em T rfl _ ho⟩
end
end PySem

set_option Elab.async false
set_option linter.all false
set_option maxRecDepth 100000
set_option maxHeartbeats 4000000
namespace L2
open PySem PySem.Spec PyProof.Rows
section
variable {X : Cx} {pins : List (Addr × Obj)} {σ : St} {H : Hp}

end
end L2

set_option Elab.async false
set_option linter.all false
set_option maxRecDepth 100000
set_option maxHeartbeats 4000000
namespace L2
open PySem PySem.Spec PyProof.Rows

section
variable {g : TG} {tif : TT} {te : TE} {js : List (Option Nat)} {σ : St} {H : Hp} {Q : VK}
end

end L2

set_option Elab.async false
set_option linter.all false
set_option maxRecDepth 100000
set_option maxHeartbeats 4000000
namespace Ex
open PySem PySem.W PyProof.Rows PySem.Spec
section
variable {prog : Program} {w : World} {A : Around} {E : Value → Shared → Prop} {R : Result → Shared → Prop} {h : Heap} {g : Array GenState} {d : Drawn} {t : Nat} {os : OsState}
  {nm q : Str} {C N : Addr} {bs bm : List Value} {hdct : Bool} {sn : List Str} {sub : List Value} {ab : Bool} {col : Option Bool} {dd : Option Addr} {k0 k1 k2 k3 k5 : Option Value}

structure VE (C : Addr) (bm : List Value) : Prop where
  b : (Value.ref C :: bm).contains (.type "ValueError") = true
  e : (Value.ref C :: bm).contains (.type "BaseException") = true
  a : (Value.ref C :: bm).contains (.type "AttributeError") = false
  n : (Value.ref C :: bm).contains (.type "NameError") = false
theorem x_check {M : Model} (hC : h.get? C = some (excClassObj nm q C N bs bm hdct sn sub ab col dd k0 k1 k2 k3 k5 "ValueError.__new__")) (V : VE C bm) {rest : List Value} {Q : Unit → Shared → Prop}
    (hq : Q () ⟨h, g, d, t, os⟩) : wpAny M A (checkBuiltinCall "ValueError.__new__" ⟨.ref C :: rest, []⟩) Q E ⟨h, g, d, t, os⟩ := by
  have F := PySem.F.excBase_ValueError
  have v := V.b
  have st := F.noStar
  simp only [checkBuiltinCall, F.newKind, F.newSplit, F.newRow]
  repeat (first | refine wpAny_loadPart_at hC ?_ | (refine wpAny_isSubtype_exc hC ?_; rw [v]) | refine wpAny_staticBase_exc hC ?_ | refine wpAny_madeBy_exc hC ?_ | simp only [bne_self_eq_false, Bool.false_eq_true, if_false] | wp_step)
  exact hq

def heapX (h : Heap) (C : Addr) (rest : List Value) : Heap := (h.push { cls := .type "tuple", data := .seq rest.toArray }).push { cls := .ref C, data := .fields #[.ref h.objs.size, .none, .none, .none, .bool false, .none] }
theorem heapX_keeps {rest : List Value} : ∀ b o, h.get? b = some o → (heapX h C rest).get? b = some o := fun _ _ e => Heap.get?_push_of_some _ (Heap.get?_push_of_some _ e)
theorem heapX_at {rest : List Value} : (heapX h C rest).get? (h.objs.size + 1) = some { cls := .ref C, data := .fields #[.ref h.objs.size, .none, .none, .none, .bool false, .none] } := by
  unfold heapX; heap_get
theorem x_new (hC : h.get? C = some (excClassObj nm q C N bs bm hdct sn sub ab col dd k0 k1 k2 k3 k5 "ValueError.__new__")) (V : VE C bm) {rest : List Value} (hz : rest.length ≤ sizeLine)
    (hq : R (.ok (.ret (.ref (h.objs.size + 1)))) ⟨heapX h C rest, g, d, t, os⟩) : codeAny (model prog w) A (.builtin "ValueError.__new__" ⟨.ref C :: rest, []⟩) R ⟨h, g, d, t, os⟩ := by
  have F := PySem.F.excBase_ValueError
  have en := F.ends
  have vb := V.b
  have va := V.a
  have vn := V.n
  refine codeAny_builtinAt F.entry ?_
  unfold Builtin.«BaseException.__new__»
  refine PySem.wpAt_bind ?_
  show PySem.wpAt _ _ _ (stack >>= _) _ _ _
  refine PySem.wpAt_bind (PySem.wpAt_stack fun p below => PySem.wpAt_of_wpAny ?_)
  wp_walk
  refine PySem.wpAt_of_wpAny ?_
  rw [F.owner]
  repeat (first | with_reducible refine wpAny_madeHere_exc F.canon hC ?_ | with_reducible refine wpAny_loadPart_at hC ?_ | (with_reducible refine wpAny_isSubtype_exc hC ?_; first | rw [vb] | rw [va] | rw [vn]) | wp_step)
  show R _ _
  rw [Heap.size_push]
  exact hq

theorem x_type (hC : h.get? C = some (excClassObj nm q C N bs bm hdct sn sub ab col dd k0 k1 k2 k3 k5 "ValueError.__new__")) (V : VE C bm) {rest : List Value} (hz : rest.length ≤ sizeLine) {fI : Value}
    (hi : Looks (model prog w) h (typeLookup (.ref C) "__init__") (some fI)) (hb : Looks (model prog w) h (bindSpecial fI (.ref (h.objs.size + 1))) (fI, [.ref (h.objs.size + 1)])) {Q : Fin → Shared → Prop}
    (hq : wpAny (model prog w) A (call fI (.ref (h.objs.size + 1) :: rest)) (fun r s' => r = .none ∧ Q (.done (.ret (.ref (h.objs.size + 1)))) s') E ⟨heapX h C rest, g, d, t, os⟩) :
    wpAny (model prog w) A (Builtin.«type.__call__» ⟨.ref C :: rest, []⟩) Q E ⟨h, g, d, t, os⟩ := by
  repeat (first | with_reducible refine wpAny_loadPart_at hC ?_ | with_reducible refine wpAny_madeBy_exc hC ?_ | wp_step)
  refine codeAny_call_builtin_code (Code.quiet_builtin _ PySem.F.excBase_ValueError.quiet) (x_check hC V ?_)
  refine x_new hC V hz ?_
  show wpAny _ _ _ _ _ _
  have hC1 := heapX_keeps (C := C) (rest := rest) _ _ hC
  have hg := heapX_at (h := h) (C := C) (rest := rest)
  have hcC : (Value.ref C :: bm).contains (.ref C) = true := by simp
  have i1 := hi.keeps (heapX_keeps (C := C) (rest := rest))
  have b1 := hb.keeps (heapX_keeps (C := C) (rest := rest))
  unfold isInstance
  repeat (first | with_reducible refine wpAny_loadPart_at hg ?_ | (with_reducible refine wpAny_isSubtype_exc hC1 ?_; rw [hcC]) | wp_step)
  show wpAny _ _ (typeLookup (.ref C) _) _ _ _
  refine i1.at ?_
  refine wpAny_holding (wpAny_bind ?_)
  refine b1.at ?_
  refine wpAny_bind (wpAny_mono hq (fun r s' hr => ?_) fun _ _ x => x)
  obtain ⟨rfl, hQ⟩ := hr
  wp_walk
  exact hQ
theorem x_call (hC : h.get? C = some (excClassObj nm q C N bs bm hdct sn sub ab col dd k0 k1 k2 k3 k5 "ValueError.__new__")) (V : VE C bm) {rest : List Value} (hz : rest.length ≤ sizeLine) {fI : Value}
    (hi : Looks (model prog w) h (typeLookup (.ref C) "__init__") (some fI)) (hb : Looks (model prog w) h (bindSpecial fI (.ref (h.objs.size + 1))) (fI, [.ref (h.objs.size + 1)])) {Q : Value → Shared → Prop}
    (hq : wpAny (model prog w) (A.under (.builtin "type.__call__" ⟨.ref C :: rest, []⟩)) (call fI (.ref (h.objs.size + 1) :: rest)) (fun r s' => r = .none ∧ Q (.ref (h.objs.size + 1)) s') E ⟨heapX h C rest, g, d, t, os⟩) :
    wpAny (model prog w) A (call (.ref C) rest) Q E ⟨h, g, d, t, os⟩ := by
  have f1 := tc_lookup
  have f2 := tc_bind (.ref C)
  have hT : (⟨h, g, d, t, os⟩ : Shared).TypeIs (.ref C) "type" := ⟨_, hC, rfl⟩
  refine wpAny_call (codeAny_of_tree ?_)
  show wpAny _ _ (callAny (.ref C) _) _ _ _
  repeat (any_goals (first | assumption | with_reducible refine wpAny_loadPart_at hC ?_ | wp_step))
  refine ⟨rfl, ?_⟩
  exact codeAny_call_builtin_at (Code.quiet_builtin _ (by decide +kernel)) entry_typeCall (wpAny_check_type_call_sub hC (x_type hC V hz hi hb hq))
theorem x_raise {M : Model} {env : Env} {s : Shared} {x : Sem Value} {Q : Flow → Shared → Prop} (hh : A.handled = none)
    (hx : wpAny M A x (fun v s₁ => ∃ e o vs, v = .ref e ∧ s₁.heap.get? C = some (excClassObj nm q C N bs bm hdct sn sub ab col dd k0 k1 k2 k3 k5 "ValueError.__new__") ∧ VE C bm ∧
      s₁.heap.get? e = some o ∧ o.cls = .ref C ∧ o.data = .fields vs ∧ vs[1]? = some .none ∧ E (.ref e) s₁) E s) : wpAny M A (raiseStmt env (some x) none) Q E s := by
  unfold raiseStmt
  refine wpAny_bind (wpAny_mono hx (fun v s₁ h₁ => ?_) fun _ _ x => x)
  obtain ⟨e, o, vs, rfl, hC, V, he, hc, hd, h1, hE⟩ := h₁
  obtain ⟨hp, g, d, tk, os⟩ := s₁
  obtain ⟨oc, od, oda, osl⟩ := o
  dsimp only at hc hd
  subst hc hd
  have ve := V.e
  repeat (first | with_reducible refine wpAny_loadPart_at he ?_ | with_reducible refine wpAny_loadPart_at hC ?_ | (with_reducible refine wpAny_isSubtype_exc hC ?_; rw [ve]) | wp_step)
  rw [h1]
  refine wpAny_pure ?_
  rw [if_neg (by decide)]
  exact wpAny_pure (wpAny_raiseNew_none hh hE)
end
end Ex

set_option Elab.async false
set_option linter.all false
set_option maxRecDepth 100000
set_option maxHeartbeats 4000000
namespace Ex
open PySem PySem.W PyProof.Rows PySem.Spec L2


structure Mvd (S : List Addr) (D : Addr → Prop) (h h' : Heap) : Prop where
  keep : ∀ b o, ¬ D b → b ∉ S → h.get? b = some o → h'.get? b = some o
  slot : ∀ b o, ¬ D b → h.get? b = some o → ∃ sl, h'.get? b = some { o with slots := sl }
theorem Mvd.trans {S : List Addr} {D : Addr → Prop} {h h1 h2 : Heap} (a : Mvd S D h h1) (b : Mvd S D h1 h2) : Mvd S D h h2 :=
  ⟨fun c o n m e => b.keep c o n m (a.keep c o n m e), fun c o n e => by
    obtain ⟨sl, e1⟩ := a.slot c o n e
    obtain ⟨sl2, e2⟩ := b.slot c _ n e1
    exact ⟨sl2, e2⟩⟩
theorem Mvd.mono {S : List Addr} {D D' : Addr → Prop} {h h' : Heap} (a : Mvd S D h h') (hd : ∀ b, D b → D' b) : Mvd S D' h h' := ⟨fun b o n => a.keep b o fun z => n (hd b z), fun b o n => a.slot b o fun z => n (hd b z)⟩

def Tr (h : Heap) (e : Addr) (cls : Value) (d : Option Addr) (T : Addr) (fl : Value) : Prop :=
  ∃ o vs oT ts, h.get? e = some o ∧ o.cls = cls ∧ o.dict = d ∧ o.data = .fields vs ∧ vs[1]? = some (.ref T) ∧ T ≠ e ∧ h.get? T = some oT ∧ oT.data = .fields ts ∧ ts[3]? = some fl

def Raw (h : Heap) (e : Addr) (cls : Value) (d : Option Addr) : Prop := ∃ o vs, h.get? e = some o ∧ o.cls = cls ∧ o.dict = d ∧ o.data = .fields vs ∧ vs[1]? = some .none
section
variable {M : Model} {A : Around} {E : Value → Shared → Prop} {s : Shared} {base : Heap} {env : Env} {outer : List Env} {L e : Addr} {cls : Value} {d : Option Addr}
theorem mapF (f : Array Value → Array Value) {o : Obj} {vs : Array Value} (hd : o.data = .fields vs) : Obj.mapFields f o = { o with data := .fields (f vs) } := by
  obtain ⟨c, d, dt, sl⟩ := o
  dsimp only at hd
  subst hd
  rfl
theorem x_entry {oe : Obj} {vs : Array Value} {head : Value} {hadNext : Bool} {Q : Unit → Shared → Prop} (hfr : A.frames = some (env :: outer)) (hl : s.heap.FunFrames base (env :: outer)) (hf : env.frame = some L)
    (he : s.heap.get? e = some oe) (hd : oe.data = .fields vs) (hsz : 1 < vs.size)
    (h : ∀ h' T, s.heap.get? T = none → Mvd (frs (env :: outer)) (fun b => b = e) s.heap h' → Tr h' e oe.cls oe.dict T (rawInt L) → Q () { s with heap := h' }) :
    wpAny M A (do let a ← frameOf env; let pl ← entryPlaceOf L hadNext; let b ← EntryCells.newEntry head a .none (rawInt L) .none pl; setField (.ref e) 1 b) Q E s := by
  have hene : e ∉ frs (env :: outer) := fun hm => by
    obtain ⟨_, o, ho, hnf⟩ := hl.mem hm
    rw [he] at ho; cases ho; exact hnf vs hd
  refine wpAny_bind (wpAny_frameOf_fun hfr hl hf fun h₁ hs₁ => ?_)
  refine wpAny_bind (wpAny_entryPlaceOf fun pl hpl => ?_)
  unfold EntryCells.newEntry newFields
  refine wpAny_bind (wpAny_newObj_type ?_ (hpl.sizeOk5 _ _ _ _ _))
  have he₁ : h₁.get? e = some oe := (hs₁.2.1 e hene).trans he
  have he₂ := Heap.get?_push_of_some (h := h₁) { cls := .type "traceback", dict := none, data := .fields ([head, .ref L, .none, rawInt L, .none] ++ (if pl.isEmpty then List.replicate 6 Value.none else pl)).toArray } he₁
  refine wpAny_setField he₂ hd hsz (h _ h₁.objs.size (Heap.get?_none_of_le (by rw [hs₁.1]; exact Nat.le_refl _)) ?_ ?_)
  · refine ⟨fun b o hb hm hbo => ?_, fun b o hb hbo => ?_⟩
    · rw [Heap.get?_update_other _ _ (Ne.symm hb)]
      exact Heap.get?_push_of_some _ ((hs₁.2.1 b hm).trans hbo)
    · obtain ⟨sl, e1⟩ := hs₁.2.2 b o hbo
      refine ⟨sl, ?_⟩
      rw [Heap.get?_update_other _ _ (Ne.symm hb)]
      exact Heap.get?_push_of_some _ e1
  · have hTe : h₁.objs.size ≠ e := Nat.ne_of_gt (Heap.lt_size he₁)
    have hd₃ := Obj.data_mapFields hd (·.setIfInBounds 1 (Value.ref h₁.objs.size))
    have he₃ := Heap.get?_update_self (Obj.mapFields (·.setIfInBounds 1 (Value.ref h₁.objs.size))) he₂ (Obj.isFreed_of_fields hd₃)
    have hT₃ := (Heap.get?_update_other (h₁.push { cls := .type "traceback", dict := none, data := .fields ([head, .ref L, .none, rawInt L, .none] ++ (if pl.isEmpty then List.replicate 6 Value.none else pl)).toArray })
      (Obj.mapFields (·.setIfInBounds 1 (Value.ref h₁.objs.size))) (Ne.symm hTe)).trans (Heap.get?_push_size h₁ rfl)
    refine ⟨_, _, _, _, he₃, ?_, ?_, hd₃, by simp [hsz], hTe, hT₃, rfl, by first | (simp; done) | (rcases hpl with rfl | ⟨_, _, _, _, _, _, _, rfl⟩ <;> simp)⟩
    · rw [mapF _ hd]
    · rw [mapF _ hd]

theorem x_mark {T : Addr} {fl : Value} {fr : Option Addr} {Q : Unit → Shared → Prop} (ht : Tr s.heap e cls d T fl)
    (h : ∀ h', Mvd [] (fun b => b = T) s.heap h' → Tr h' e cls d T (fr.elim .none fun f => rawInt f) → Q () { s with heap := h' }) : wpAny M A (setFlight (.ref e) fr) Q E s := by
  obtain ⟨o, vs, oT, ts, he, hc, hdc, hd, h1, hTe, hT, hdT, h3⟩ := ht
  have hsz : 3 < ts.size := (Array.getElem?_eq_some_iff.mp h3).1
  unfold setFlight
  refine wpAny_bind (wpAny_field he hd h1 ?_)
  rw [if_pos (show (Value.ref T != Value.none) = true from by simp)]
  have other : ∀ (g : Obj → Obj) (b : Addr), b ≠ T → (s.heap.update T g).get? b = s.heap.get? b := fun g b hb => Heap.get?_update_other _ _ (Ne.symm hb)
  refine wpAny_setField hT hdT hsz (h _ ⟨fun b o hb _ hbo => (other _ b hb).trans hbo, fun b o hb hbo => ⟨o.slots, (other _ b hb).trans hbo⟩⟩ ?_)
  exact ⟨o, vs, _, _, (other _ e (Ne.symm hTe)).trans he, hc, hdc, hd, h1, hTe, Heap.get?_update_self _ hT (Obj.isFreed_of_fields (Obj.data_mapFields hdT _)), Obj.data_mapFields hdT _, by simp [hsz]⟩

theorem x_noteR {Q : Unit → Shared → Prop} (hfr : A.frames = some (env :: outer)) (hl : s.heap.FunFrames base (env :: outer)) (hf : env.frame = some L) (hr : Raw s.heap e cls d)
    (h : ∀ h' T, s.heap.get? T = none → Mvd (frs (env :: outer)) (fun b => b = e) s.heap h' → Tr h' e cls d T (rawInt L) → Q () { s with heap := h' }) : wpAny M A (noteFrame (.ref e) env) Q E s := by
  obtain ⟨o, vs, he, rfl, rfl, hd, h1⟩ := hr
  unfold noteFrame
  simp only [hf]
  refine wpAny_bind (wpAny_field he hd h1 ?_)
  rw [if_neg (by decide)]
  exact x_entry hfr hl hf he hd (Array.getElem?_eq_some_iff.mp h1).1 h

theorem x_noteT {T0 : Addr} {Q : Unit → Shared → Prop} (hfr : A.frames = some (env :: outer)) (hl : s.heap.FunFrames base (env :: outer)) (hf : env.frame = some L) (hr : Tr s.heap e cls d T0 .none)
    (h : ∀ h' T, s.heap.get? T = none → Mvd (frs (env :: outer)) (fun b => b = e ∨ b = T0) s.heap h' → Tr h' e cls d T (rawInt L) → Q () { s with heap := h' }) : wpAny M A (noteFrame (.ref e) env) Q E s := by
  obtain ⟨o, vs, oT, ts, he, rfl, rfl, hd, h1, hTe, hT, hdT, h3⟩ := hr
  unfold noteFrame
  simp only [hf]
  refine wpAny_bind (wpAny_field he hd h1 ?_)
  rw [if_pos (show (Value.ref T0 != Value.none) = true from by simp)]
  refine wpAny_bind (wpAny_field hT hdT h3 ?_)
  rw [if_neg (show ¬ ((Value.none == rawInt L) = true) from by simp [rawInt])]
  refine wpAny_bind (wpAny_setField hT hdT (Array.getElem?_eq_some_iff.mp h3).1 ?_)
  have other : ∀ (g : Obj → Obj) (b : Addr), b ≠ T0 → (s.heap.update T0 g).get? b = s.heap.get? b := fun g b hb => Heap.get?_update_other _ _ (Ne.symm hb)
  have noT : ∀ b o, s.heap.get? b = some o → (∀ vs, o.data ≠ .fields vs) → b ≠ T0 := fun b o hb hnf q => by
    rw [q, hT] at hb; cases hb; exact hnf ts hdT
  have m1 : Mvd (frs (env :: outer)) (fun b => b = e ∨ b = T0) s.heap (s.heap.update T0 (Obj.mapFields (·.setIfInBounds 3 Value.none))) :=
    ⟨fun b o hb _ hbo => (other _ b fun z => hb (.inr z)).trans hbo, fun b o hb hbo => ⟨o.slots, (other _ b fun z => hb (.inr z)).trans hbo⟩⟩
  have hl2 : (s.heap.update T0 (Obj.mapFields (·.setIfInBounds 3 Value.none))).FunFrames base (env :: outer) := hl.of_keeps fun b o hb hnf => ⟨o, (other _ b (noT b o hb hnf)).trans hb, rfl⟩
  refine x_entry (s := { s with heap := s.heap.update T0 (Obj.mapFields (·.setIfInBounds 3 Value.none)) }) hfr hl2 hf ((other _ e (Ne.symm hTe)).trans he) hd (Array.getElem?_eq_some_iff.mp h1).1 fun h' T hT' m2 tr => h h' T ?_ (m1.trans (m2.mono fun b z => .inl z)) tr
  by_cases z : T = T0
  · subst z
    exfalso
    have q := Heap.get?_update_self (Obj.mapFields (·.setIfInBounds 3 Value.none)) hT (Obj.isFreed_of_fields (Obj.data_mapFields hdT _))
    dsimp only at hT'
    rw [q] at hT'; cases hT'
  · dsimp only at hT'
    rwa [other _ T z] at hT'
end
end Ex

set_option Elab.async false
set_option linter.all false
set_option maxRecDepth 100000
set_option maxHeartbeats 4000000
namespace L2
open PySem PySem.Spec PyProof.Rows


def XO (e C : Addr) (d : Option Addr) : HO := .ext fun h => ∃ t, h.get? e = some { cls := .ref C, dict := d, data := .fields #[.ref t, .none, .none, .none, .bool false, .none] }

def XC (e C : Addr) (d : Option Addr) : HO := .ext fun h => ∃ o vs, h.get? e = some o ∧ o.cls = .ref C ∧ o.dict = d ∧ o.data = .fields vs

def XCls (K : PySem.W.Frag) (C : Addr) : Prop := ∃ (nm q : Str) (N : Addr) (bs bm : List Value) (sn : List Str) (sub : List Value) (ab : Bool) (col : Option Bool) (dd : Option Addr) (k0 k1 k2 k3 k5 : Option Value),
  K.lookup C = some (excClassObj nm q C N bs bm true sn sub ab col dd k0 k1 k2 k3 k5 "ValueError.__new__") ∧ Ex.VE C bm

def CXe (P : Program) (w : World) : CXT := fun outer H s E e s' => ∃ ea cls d T H', e = .ref ea ∧ s'.os = s.os ∧ AllBare s'.gens ∧ Un (frs outer) [] H H' s.heap s'.heap ∧ HOk P w H' s'.heap ∧
  s.heap.get? ea = none ∧ H' ea = none ∧ s.heap.get? T = none ∧ H' T = none ∧ Ex.Tr s'.heap ea cls d T .none ∧ E cls d H'
section
variable {P : Program} {w : World} {H H' : Hp} {h h' : Heap} {a : Addr} {o : HO} {fs S : List Addr} {D : Addr → Prop} {H0 : Hp} {h0 : Heap}
theorem ObjOk.some_at (x : ObjOk P w H h a o) : ∃ u, h.get? a = some u := by
  cases o with
  | lst xs => obtain ⟨_, _, _, _, e⟩ := x; exact ⟨_, e⟩
  | tup xs => obtain ⟨_, _, _, ob, e, _⟩ := x; exact ⟨_, e⟩
  | dK kvs => obtain ⟨_, _, _, _, o, _, _, e, _⟩ := x; exact ⟨_, e⟩
  | dT kvs => obtain ⟨_, _, _, _, o, _, _, e, _⟩ := x; exact ⟨_, e⟩
  | set S n => obtain ⟨o, _, _, _, e, _⟩ := x; exact ⟨_, e⟩
  | ins C dx fs => obtain ⟨_, _, _, e, _⟩ := x; exact ⟨_, e⟩
  | own y => exact x
  | xd fs => obtain ⟨_, ⟨_, _, _, e, _⟩, _⟩ := x; exact ⟨_, e⟩
  | rng lo hi => obtain ⟨_, _, _, e⟩ := x; exact ⟨_, e⟩
  | frz ob u => obtain ⟨e, _⟩ := x; exact ⟨_, e⟩
  | tbl ps => exact ⟨_, (show h.get? a = some _ from x)⟩
  | met f y => exact ⟨_, (show h.get? a = some _ from x)⟩
  | ext φ => exact x.2.1
theorem HOk.none_of (x : HOk P w H h) (e : h.get? a = none) : H a = none := by
  cases q : H a with
  | none => rfl
  | some u => obtain ⟨v, z⟩ := (x a u q).some_at; rw [e] at z; cases z
theorem Un.moved (u : Un fs [] H0 H h0 h) (m : Ex.Mvd S D h h') (hD : ∀ b, D b → h0.get? b = none) (hS : ∀ b ∈ S, b ∈ fs ∨ h0.get? b = none) : Un fs [] H0 H h0 h' where
  keep := fun b o q n hb hx => m.keep b o (fun z => by rw [hD b z] at q; cases q) (fun z => (hS b z).elim hb fun r => by rw [r] at q; cases q) (u.keep b o q n hb hx)
  slot := fun b o q n hb hx => by
    obtain ⟨sl, e⟩ := u.slot b o q n hb hx
    obtain ⟨sl2, e2⟩ := m.slot b _ (fun z => by rw [hD b z] at q; cases q) e
    exact ⟨sl2, e2⟩
  free := u.free
  there := fun b o q hx => by
    obtain ⟨o', e⟩ := u.there b o q hx
    obtain ⟨sl2, e2⟩ := m.slot b _ (fun z => by rw [hD b z] at q; cases q) e
    exact ⟨_, e2⟩
  tups := u.tups
  frzs := u.frzs
  tbls := u.tbls
theorem HOk.moved (x : HOk P w H h) (m : Ex.Mvd S D h h') (hD : ∀ b, D b → H b = none) (hS : ∀ b ∈ S, H b = none) : HOk P w H h' := fun a o e =>
  (x a o e).stay (fun b u hb q => by
    have t : ∃ z, H b = some z := by
      rcases hb with rfl | hb
      · exact ⟨_, e⟩
      · exact ⟨_, hb⟩
    obtain ⟨z, t⟩ := t
    exact m.keep b u (fun y => by rw [hD b y] at t; cases t) (fun y => by rw [hS b y] at t; cases t) q) (fun _ q => q) fun _ _ q => q
theorem Un.ers {φ : Heap → Prop} (u : Un fs [] H0 H h0 h) (e : H a = some (.ext φ)) : Un fs [] H0 (ers a H) h0 h where
  keep := u.keep
  slot := u.slot
  free := fun b o q n hx => by
    have r := u.free b o q n hx
    unfold L2.ers
    split
    · rfl
    · exact r
  there := u.there
  tups := fun b xs q => by
    have r := u.tups b xs q
    rw [ers_ne (fun z => by rw [z, e] at r; cases r)]; exact r
  frzs := fun b o xs q => by
    have r := u.frzs b o xs q
    rw [ers_ne (fun z => by rw [z, e] at r; cases r)]; exact r
  tbls := fun b ps q => by
    obtain ⟨m, r⟩ := u.tbls b ps q
    exact ⟨m, by rw [ers_ne (fun z => by rw [z, e] at r; cases r)]; exact r⟩
theorem HOk.ers {φ : Heap → Prop} (x : HOk P w H h) (e : H a = some (.ext φ)) : HOk P w (ers a H) h := fun b o q => by
  have hb : b ≠ a := fun z => by subst z; unfold L2.ers at q; rw [if_pos rfl] at q; cases q
  rw [ers_ne hb] at q
  exact (x b o q).stay (fun c u _ r => r) (fun c r => by rw [ers_ne (fun z => by rw [z, e] at r; cases r)]; exact r) fun c xs r => by rw [ers_ne (fun z => by rw [z, e] at r; cases r)]; exact r
end
theorem mvd_S {S S' : List Addr} {D : Addr → Prop} {h h' : Heap} (m : Ex.Mvd S D h h') (hs : ∀ b ∈ S, b ∈ S') : Ex.Mvd S' D h h' := ⟨fun b o n z => m.keep b o n fun q => z (hs b q), m.slot⟩
section
variable {P : Program} {w : World} {K : PySem.W.Frag} {mg : Str → Option Value} {base : Heap} {N : List Str} {qual : Str} {sc : Scope} {f : Addr} {cd : Value} {A : Around} {outer : List Env} {s0 s : Shared} {H0 H : Hp} {E : XK}
  {pins : List (Addr × Obj)} {σ : St} {cls : Value} {d : Option Addr} {e : Addr}
theorem xe_end {h2 : Heap} {T : Addr} {D : Addr → Prop} {S : List Addr} (I : Inv (cxOf (CXe P w) P w K mg base N qual sc f cd A outer s0 H0 E) pins σ H s) {H1 : Hp} (hn : s0.heap.get? e = none) (hT : s.heap.get? T = none)
    (u : Un (frs outer) [] H0 H1 s0.heap s.heap) (hok : HOk P w H1 s.heap) (he1 : H1 e = none) (hS : S = frs (cxOf (CXe P w) P w K mg base N qual sc f cd A outer s0 H0 E).stack) (hS1 : ∀ b ∈ S, H1 b = none)
    (m : Ex.Mvd S D s.heap h2) (hD0 : ∀ b, D b → s0.heap.get? b = none) (hD1 : ∀ b, D b → H1 b = none)
    (t : Ex.Tr h2 e cls d T .none) (hE : E cls d H1) : CXe P w outer H0 s0 E (.ref e) { s with heap := h2 } := by
  have fresh : ∀ b, s.heap.get? b = none → s0.heap.get? b = none := fun b q => by
    cases r : s0.heap.get? b with
    | none => rfl
    | some o => obtain ⟨o', z⟩ := u.there b o r (by simp); rw [q] at z; cases z
  refine ⟨e, cls, d, T, H1, rfl, I.os, I.bare, u.moved m hD0 fun b hb => ?_, hok.moved m hD1 hS1, hn, he1, fresh T hT, hok.none_of hT, t, hE⟩
  subst hS
  rcases List.mem_cons.mp (I.stkSub b hb) with z | z
  · exact .inr (by rw [z]; exact Heap.get?_none_of_le I.ok.above)
  · exact .inl z

theorem xe_raw (I : Inv (cxOf (CXe P w) P w K mg base N qual sc f cd A outer s0 H0 E) pins σ H s) {φ : Heap → Prop} (he : H e = some (.ext φ)) (hn : s0.heap.get? e = none) (hr : Ex.Raw s.heap e cls d) (hE : E cls d (ers e H)) :
    (cxOf (CXe P w) P w K mg base N qual sc f cd A outer s0 H0 E).xe (.ref e) s := by
  show wpAny _ _ (leaving _ _) _ _ s
  unfold leaving
  refine wpAny_bind (Ex.x_noteR I.ok.frames I.stack rfl hr fun h1 T hT m1 t1 => ?_)
  refine Ex.x_mark (fr := none) t1 fun h2 m2 t2 => ?_
  have hfr := I.stkFree
  have fresh : ∀ b, s.heap.get? b = none → s0.heap.get? b = none := fun b q => by
    cases r : s0.heap.get? b with
    | none => rfl
    | some o => obtain ⟨o', z⟩ := I.base.there b o r (fun q => nomatch q); rw [q] at z; cases z
  refine xe_end (s := s) (D := fun b => b = e ∨ b = T) (S := frs (cxOf (CXe P w) P w K mg base N qual sc f cd A outer s0 H0 E).stack) I hn hT (Un.ers I.base he) (HOk.ers I.hok he) (if_pos rfl) rfl (fun b hb => ?_) ((m1.mono fun b z => .inl z).trans (mvd_S (m2.mono fun b z => .inr z) fun b z => nomatch z)) ?_ ?_ t2 hE
  · unfold L2.ers; split; rfl; exact hfr b hb
  · rintro b (rfl | rfl); exact hn; exact fresh _ hT
  · rintro b (rfl | rfl)
    · exact if_pos rfl
    · exact (HOk.ers I.hok he).none_of hT

theorem pass_e : Passes (CXe P w) (cxOf (CXe P w) P w K mg base N qual sc f cd A outer s0 H0 E) E := by
  intro pins σ H s ev s' I c
  obtain ⟨e, cls, d, T0, H1, rfl, os, bare, un, hok, hn, he1, hT0, hT1, tr, hE⟩ := c
  have I1 : Inv (cxOf (CXe P w) P w K mg base N qual sc f cd A outer s0 H0 E) pins σ H1 s' := I.call' os un hok bare fun b z => nomatch z
  show wpAny _ _ (leaving _ _) _ _ s'
  unfold leaving
  refine wpAny_bind (Ex.x_noteT I1.ok.frames I1.stack rfl tr fun h1 T hT m1 t1 => ?_)
  refine Ex.x_mark (fr := none) t1 fun h2 m2 t2 => ?_
  have fr0 : ∀ b, s.heap.get? b = none → s0.heap.get? b = none := fun b q => by
    cases r : s0.heap.get? b with
    | none => rfl
    | some o => obtain ⟨o', z⟩ := I.base.there b o r (fun q => nomatch q); rw [q] at z; cases z
  have fr1 : ∀ b, s'.heap.get? b = none → s0.heap.get? b = none := fun b q => by
    cases r : s0.heap.get? b with
    | none => rfl
    | some o => obtain ⟨o', z⟩ := I1.base.there b o r (fun q => nomatch q); rw [q] at z; cases z
  refine xe_end (s := s') (D := fun b => (b = e ∨ b = T0) ∨ b = T) (S := frs (cxOf (CXe P w) P w K mg base N qual sc f cd A outer s0 H0 E).stack) I1 (fr0 _ hn) hT I1.base I1.hok he1 rfl I1.stkFree ((m1.mono fun b z => .inl z).trans (mvd_S (m2.mono fun b z => .inr z) fun b z => nomatch z)) ?_ ?_ t2 hE
  · rintro b ((rfl | rfl) | rfl)
    · exact fr0 _ hn
    · exact fr0 _ hT0
    · exact fr1 _ hT
  · rintro b ((rfl | rfl) | rfl)
    · exact he1
    · exact hT1
    · exact I1.hok.none_of hT
theorem pass_own : PassesOwn (model P w) (cxOf (CXe P w) P w K mg base N qual sc f cd A outer s0 H0 E).A (cxOf (CXe P w) P w K mg base N qual sc f cd A outer s0 H0 E).env (cxOf (CXe P w) P w K mg base N qual sc f cd A outer s0 H0 E).xe := PassesOwn.leaving
end

def Throws (X : Cx) (EX : XK) : Prop := ∀ (pins : List (Addr × Obj)) (σ : St) (H : Hp) (s : Shared) (e : Addr) (φ : Heap → Prop) (cls : Value) (d : Option Addr),
  Inv X pins σ H s → H e = some (.ext φ) → X.s₀.heap.get? e = none → Ex.Raw s.heap e cls d → EX cls d (ers e H) → X.xe (.ref e) s
theorem throws_e {P : Program} {w : World} {K : PySem.W.Frag} {mg : Str → Option Value} {base : Heap} {N : List Str} {qual : Str} {sc : Scope} {f : Addr} {cd : Value} {A : Around} {outer : List Env} {s0 : Shared} {H0 : Hp} {E : XK} :
    Throws (cxOf (CXe P w) P w K mg base N qual sc f cd A outer s0 H0 E) E := fun _ _ _ _ _ _ _ _ I he hn hr hE => xe_raw I he hn hr hE
end L2

set_option Elab.async false
set_option linter.all false
set_option maxRecDepth 100000
set_option maxHeartbeats 4000000
namespace L2
open PySem PySem.Spec PyProof.Rows
theorem xo_ok {P : Program} {w : World} {H : Hp} {h : Heap} {e C : Addr} {d : Option Addr} {t : Addr} (q : h.get? e = some { cls := .ref C, dict := d, data := .fields #[.ref t, .none, .none, .none, .bool false, .none] }) : ObjOk P w H h e (XO e C d) :=
  ⟨⟨t, q⟩, ⟨_, q⟩, fun h1 h2 ⟨u, z⟩ k => ⟨u, k _ z⟩⟩
theorem xc_ok {P : Program} {w : World} {H : Hp} {h : Heap} {e C : Addr} {d : Option Addr} {o : Obj} {vs : Array Value} (q : h.get? e = some o) (hc : o.cls = .ref C) (hd : o.dict = d) (hf : o.data = .fields vs) : ObjOk P w H h e (XC e C d) :=
  ⟨⟨o, vs, q, hc, hd, hf⟩, ⟨_, q⟩, fun h1 h2 ⟨o, vs, z, r⟩ k => ⟨o, vs, k _ z, r⟩⟩
def tRaise (C : Addr) (sp : Sp) (EX : XK) (t : TA) : TS := fun _ σ H => t σ H fun vs H1 => ∀ x, H1 x = none →
  sp (.ref x :: vs) (upd H1 x (XO x C none)) (fun v H2 => v = .non ∧ ∃ d, H2 x = some (XO x C d) ∧ EX (.ref C) d (ers x H2)) E0
section
variable {X : Cx} {k : Nat} {f C : Addr} {fd : FuncData} {ps : List Str} {sp : Sp} {EX : XK} {x : Str} {p pos cpos : Pos} {e : Expr} {es : List Expr} {t : TA}

theorem ps_raise (hX : XCls X.K C) (hm : X.mg x = some (.ref C)) (hi : PySem.W.findIn X.K (.ref C) "__init__" = some (some (.ref f))) (hf : PySem.W.isFn X.K (.ref f) = true) (hk : PySem.W.keepIn X.K (.ref C) = true)
    (F : FnOk X.prog X.w X.K X.mg X.base CX0 k f fd ps sp) (hb : Binds X.K fd ps []) (hr : Room (k + 1) X.A) (hc : X.calm = true) (hx : Throws X EX) (ha : PA X (e :: es) t) (hz : ps.length ≤ 1000 := by decide) (hg : Gl X x := by rfl)
    (hdb : (x == ("__debug__" : Str)) = false := by decide) (he : starEach (e :: es) X.env = (false, eval e X.env) :: starEach es X.env := by rfl) (hpl : (backTo cpos (starEach es X.env)).any (·.1) = false := by rfl) :
    PS X (.Raise (some (.Call (.Name x p) (e :: es) [] cpos)) none pos) (tRaise C sp EX t) := by
  intro pins s σ H D I h
  obtain ⟨nm, q, N, bs, bm, sn, sub, ab, col, dd, k0, k1, k2, k3, k5, hl, VV⟩ := hX
  rw [arm_exec_Raise]
  refine wpAny_bind (wpAny_standAt (Ex.x_raise (C := C) (nm := nm) (q := q) (N := N) (bs := bs) (bm := bm) (hdct := true) (sn := sn) (sub := sub) (ab := ab) (col := col) (dd := dd) (k0 := k0) (k1 := k1) (k2 := k2) (k3 := k3) (k5 := k5) (I.ok.hd hc) ?_))
  show wpAny _ _ (eval (.Call (.Name x p) (e :: es) [] cpos) X.env >>= fun v => standAt pos >>= fun _ => pure v) _ _ _
  refine wpAny_bind (wpAny_mono (Q := fun v s₁ => ∃ e o vs, v = .ref e ∧ s₁.heap.get? C = some (excClassObj nm q C N bs bm true sn sub ab col dd k0 k1 k2 k3 k5 "ValueError.__new__") ∧ Ex.VE C bm ∧
      s₁.heap.get? e = some o ∧ o.cls = .ref C ∧ o.data = .fields vs ∧ vs[1]? = some .none ∧ X.xe (.ref e) s₁) ?_ (fun v s3 h3 => wpAny_bind (wpAny_standAt (wpAny_pure h3))) fun _ _ z => z)
  refine wpAny_Call_Name_kw (ld_glob I hg hm ?_ hdb)
  refine PySem.W.callWith_K (h₀ := X.base) I.ok.mod.kin hk (thn (ha cpos pins s σ H _ I h) fun us s1 ⟨vs, H1, I1, r, q1⟩ => ⟨I1.kIn, ?_⟩) he hpl
  have hq := q1 (s1.heap.objs.size + 1) (I1.hok.fresh (Nat.le_succ _))
  have hlen := F.len _ _ _ _ hq
  have hlen' : us.length ≤ sizeLine := by
    rw [List.length_cons, r.length] at hlen
    exact Nat.le_of_lt (small1000 (by omega))
  obtain ⟨hp, g, dr, tk, os⟩ := s1
  refine Ex.x_call (fI := .ref f) (I1.kIn _ _ hl) VV hlen' (PySem.W.looks_findIn I1.kIn hi) (PySem.W.bind_fn I1.kIn _ (beq_iff_eq.mp hf)) ?_
  have I2 : Inv X pins σ (upd H1 (hp.objs.size + 1) (XO (hp.objs.size + 1) C none)) ⟨Ex.heapX hp C us, g, dr, tk, os⟩ :=
    I1.laid (h' := Ex.heapX hp C us) (t' := tk) (fun b u z => Ex.heapX_keeps b u z) (Nat.le_succ _) (xo_ok Ex.heapX_at)
  have r2 : Vals (V.ref (hp.objs.size + 1) :: vs) (Value.ref (hp.objs.size + 1) :: us) := .cons rfl r
  have hl2 : (Value.ref (hp.objs.size + 1) :: us).length = ps.length := by rw [← r2.length]; exact hlen
  have hb2 : BindsTo ⟨Ex.heapX hp C us, g, dr, tk, os⟩ fd ⟨Value.ref (hp.objs.size + 1) :: us, []⟩ (ps.zip (Value.ref (hp.objs.size + 1) :: us)) := by
    have := hb ⟨Ex.heapX hp C us, g, dr, tk, os⟩ (Value.ref (hp.objs.size + 1) :: us) I2.kIn (by rw [List.append_nil]; exact hl2)
    rwa [List.append_nil] at this
  refine wpAny_call (codeAny_mono (F.run _ X.stack _ _ ⟨Value.ref (hp.objs.size + 1) :: us, []⟩ (Value.ref (hp.objs.size + 1) :: us) _ _ E0 (hr.make C us []) (I2.env0.make C us []) hb2 r2 hq) fun rr s' hq' => ?_)
  cases rr with
  | error ev => exact False.elim hq'
  | ok fl =>
    cases fl with
    | ret u =>
      obtain ⟨v, H3, I3, rv, ev, dd', hx3, hE⟩ := I2.after hq'
      subst ev
      obtain ⟨t0, hob⟩ := (I3.hok _ _ hx3).1
      exact ⟨rv, _, _, _, rfl, I3.kIn _ _ hl, VV, hob, rfl, rfl, rfl, hx pins σ H3 s' _ _ (.ref C) dd' I3 hx3 (Heap.get?_none_of_le (Nat.le_trans I1.sz (Nat.le_succ _))) ⟨_, _, hob, rfl, rfl, rfl, rfl⟩ hE⟩
    | next => exact False.elim hq'
    | brk => exact False.elim hq'
    | cont => exact False.elim hq'
end
end L2

set_option Elab.async false
set_option linter.all false
set_option maxRecDepth 100000
set_option maxHeartbeats 4000000
namespace Ex
open PySem PySem.W PyProof.Rows PySem.Spec
section
variable {prog : Program} {w : World} {A : Around} {E : Value → Shared → Prop} {R : Result → Shared → Prop} {h : Heap} {g : Array GenState} {d : Drawn} {t : Nat} {os : OsState}
  {nm q : Str} {C N : Addr} {bs bm : List Value} {hdct : Bool} {sn : List Str} {sub : List Value} {ab : Bool} {col : Option Bool} {dd : Option Addr} {k0 k1 k2 k3 k5 : Option Value}
end
end Ex
namespace L2
open PySem PySem.Spec PyProof.Rows
section
variable {X : Cx} {C : Addr} {EX : XK} {x : Str} {p pos cpos : Pos}

end
end L2

set_option Elab.async false
set_option linter.all false
set_option maxRecDepth 100000
set_option maxHeartbeats 4000000
namespace Ex
open PySem PySem.W PyProof.Rows PySem.Spec

def veTail : List Value → Bool
  | .ref _ :: r => veTail r
  | l => l == [.type "ValueError", .type "Exception", .type "BaseException", .type "object"]
theorem veTail_ind {p : List Value → Prop} (h0 : p [.type "ValueError", .type "Exception", .type "BaseException", .type "object"]) (h1 : ∀ a r, p r → p (.ref a :: r)) : ∀ {l : List Value}, veTail l = true → p l
  | [], e => by cases e
  | c :: r, e => by
    cases c with
    | ref a => exact h1 a r (veTail_ind h0 h1 e)
    | _ => rw [show _ :: r = _ from beq_iff_eq.mp e]; exact h0
theorem veTail_has {l : List Value} (h : veTail l = true) {X : String} {b : Bool} (hb : ([.type "ValueError", .type "Exception", .type "BaseException", .type "object"] : List Value).contains (.type X) = b) : l.contains (.type X) = b :=
  veTail_ind (p := fun l => l.contains (.type X) = b) hb (fun a r z => by rw [List.contains_cons, z]; rfl) h
theorem veTail_pass {l : List Value} (h : veTail l = true) (self : Value) : refuseLoop self "__setattr__" l = pure () :=
  veTail_ind (p := fun l => refuseLoop self "__setattr__" l = pure ()) (PySem.F.store_ValueError.passes self) (fun a r z => by rw [refuseLoop_ref]; exact z) h
theorem VE.of {C : Addr} {bm : List Value} (h : veTail bm = true) : VE C bm := by
  have h' : veTail (.ref C :: bm) = true := h
  exact ⟨veTail_has h' (by decide +kernel), veTail_has h' (by decide +kernel), veTail_has h' (by decide +kernel), veTail_has h' (by decide +kernel)⟩
section
variable {prog : Program} {w : World} {A : Around} {K : Frag} {C x : Addr} {s : Shared} {R : Result → Shared → Prop}
theorem xa_open {ox : Obj} {od : Option Obj} {name : Str} {tk : Tok} {v : Value} {cd : ClassData} (X : K.In s.heap) (I : InstAt s.heap x ox C od) (hc : clsIn K C = some cd) (hv : veTail cd.mro = true) (ht : takerIn K C name = some none)
    (h : ∀ b, wpAny (model prog w) A.in1 (Builtin.ObjectAttr.storeInOwnDict (.ref x) (.ref C) (.str name tk) name v b)
      (fun fin s' => match fin with | .done f => R (.ok f) s' | .again c' => c'.quiet = true ∧ codeAny (model prog w) A c' R s') (fun e s' => R (.error e) s') s) :
    codeAny (model prog w) A (.call (.builtin "object.__setattr__") ⟨[.ref x, .str name tk, v], []⟩) R s := by
  have SF := PySem.F.store_object
  have ne : cd.mro.isEmpty = false := by cases q : cd.mro with | nil => rw [q] at hv; cases hv | cons _ _ => rfl
  have sub : Looks (model prog w) s.heap (isInstance (.ref x) (.type "object")) true := I.type.andThen (looks_mroIn X (by unfold mroIn; rw [hc, Option.bind_some, if_neg (by rw [ne]; decide), veTail_has (X := "object") (b := true) hv (by decide +kernel)]))
  refine codeAny_call_builtin SF.slot.plain SF.entry (@check_slot (model prog w) _ _ s "object.__setattr__" "object" "__setattr__" (.ref x) [.str name tk, v] [] _ SF.kind SF.split sub (SF.args (.ref x) (.str name tk) v) ?_)
  obtain ⟨attr, ha, hr⟩ := Option.bind_eq_some_iff.mp ht
  have hm : Looks (model prog w) s.heap (mroOf (.ref C)) cd.mro := (looks_clsIn X hc).andThen .now
  have L3 : Looks (model prog w) s.heap (Builtin.ObjectAttr.storeTaker? attr) none := by
    cases attr with
    | none => exact .now
    | some a =>
      obtain ⟨b, hb, e⟩ := Option.map_eq_some_iff.mp hr
      refine (looks_takesIn X hb).andThen ?_
      cases b
      · exact .now
      · cases e
  rw [osa_eq, refuse_eq]
  refine wpAny_bind (wpAny_bind (I.type.here (wpAny_bind (hm.here ?_))))
  rw [veTail_pass hv]
  exact wpAny_pure (wpAny_bind (I.type.here (wpAny_bind ((looks_findIn X ha).here (wpAny_bind (L3.here (h _)))))))
end
end Ex

set_option Elab.async false
set_option linter.all false
set_option maxRecDepth 100000
set_option maxHeartbeats 4000000
namespace L2
open PySem PySem.Spec PyProof.Rows

def XD (dx : Addr) (fs : List (Str × V)) : HO := .ext fun h => ∃ mA, h.Ns1 dx mA ∧ (∀ f, RelO (fs.lookup f) (mA f)) ∧ PySem.Within mA (fs.map (·.1)) ∧ fs.length ≤ 1000
theorem xd_ok {P : Program} {w : World} {H : Hp} {h : Heap} {dx : Addr} {fs : List (Str × V)} {mA : Str → Option Value} (n : h.Ns1 dx mA) (r : ∀ f, RelO (fs.lookup f) (mA f)) (wi : PySem.Within mA (fs.map (·.1))) (z : fs.length ≤ 1000) : ObjOk P w H h dx (XD dx fs) :=
  ⟨⟨mA, n, r, wi, z⟩, let ⟨o, _, _, e, _⟩ := n; ⟨o, e⟩, fun h1 h2 ⟨m, ⟨o, es, ep, e, q⟩, r⟩ k => ⟨m, ⟨o, es, ep, k _ e, q⟩, r⟩⟩

structure XClsOk (K : PySem.W.Frag) (mg : Str → Option Value) (name : Str) (C : Addr) : Prop where
  g : mg name = some (.ref C)
  obj : ∃ (nm q : Str) (N : Addr) (bs bm : List Value) (sn : List Str) (sub : List Value) (ab : Bool) (col : Option Bool) (dd : Option Addr) (k0 k1 k2 k3 k5 : Option Value),
    K.lookup C = some (excClassObj nm q C N bs bm true sn sub ab col dd k0 k1 k2 k3 k5 "ValueError.__new__") ∧ Ex.veTail bm = true
  kp : PySem.W.keepIn K (.ref C) = true
  sa : PySem.W.findIn K (.ref C) "__setattr__" = some (some (.builtin "object.__setattr__"))
  ga : PySem.W.findIn K (.ref C) "__getattribute__" = some (some (.builtin "BaseException.__getattribute__"))
  gt : PySem.W.findIn K (.ref C) "__getattr__" = some none
  cl : PySem.W.findIn K (.ref C) "__class__" = some (some (.builtin "object.__class__"))
  sg : PySem.W.specialIn K (.builtin "object.__class__") "__get__" = some (some (.builtin "getset_descriptor.__get__"))
  tk : PySem.W.takesIn K (.builtin "object.__class__") = some true
theorem XClsOk.cls {K : PySem.W.Frag} {mg : Str → Option Value} {name : Str} {C : Addr} (c : XClsOk K mg name C) : XCls K C := by
  obtain ⟨nm, q, N, bs, bm, sn, sub, ab, col, dd, k0, k1, k2, k3, k5, l, v⟩ := c.obj
  exact ⟨nm, q, N, bs, bm, sn, sub, ab, col, dd, k0, k1, k2, k3, k5, l, Ex.VE.of v⟩
theorem XClsOk.cd {K : PySem.W.Frag} {mg : Str → Option Value} {name : Str} {C : Addr} (c : XClsOk K mg name C) : ∃ cd, PySem.W.clsIn K C = some cd ∧ Ex.veTail cd.mro = true ∧ cd.hasDict = true ∧ ∃ bm, cd.mro = .ref C :: bm := by
  obtain ⟨nm, q, N, bs, bm, sn, sub, ab, col, dd, k0, k1, k2, k3, k5, l, v⟩ := c.obj
  refine ⟨_, by unfold PySem.W.clsIn; rw [l], v, rfl, _, rfl⟩
section
variable {X : Cx} {pins : List (Addr × Obj)} {σ : St} {H : Hp} {s : Shared} {a C dx : Addr} {fs : List (Str × V)} {f : Str} {A : Around} {E : Value → Shared → Prop} {nm : Str}

theorem xset0 {y : V} {u : Value} {Q : Unit → Shared → Prop} (I : Inv X pins σ H s) (e : H a = some (XO a C none)) (c : XClsOk X.K X.mg nm C) (n : NoAttr X.K C f) (ry : RelV y u)
    (h : ∀ dx s', H dx = none → Inv X pins σ (upd (upd H dx (XD dx [(f, y)])) a (XO a C (some dx))) s' → Q () s') : wpAny (model X.prog X.w) A (setAttr (.ref a) f u) Q E s := by
  obtain ⟨t0, hx⟩ := (I.hok _ _ e).1
  obtain ⟨cd, hcd, hv, hdct, _⟩ := c.cd
  have J : PySem.W.InstAt s.heap a { cls := .ref C, dict := none, data := .fields #[.ref t0, .none, .none, .none, .bool false, .none] } C none := ⟨hx, rfl, rfl, trivial⟩
  refine PySem.W.set_plain I.kIn J c.sa (Ex.xa_open (s := { s with toks := s.toks + 1 }) I.kIn J hcd hv n.taker fun b => ?_)
  obtain ⟨hp, g, dr, tk, os⟩ := s
  have hx : hp.get? a = some { cls := .ref C, dict := none, data := .fields #[.ref t0, .none, .none, .none, .bool false, .none] } := hx
  refine wpAny_bind (wpAny_pure (wpAny_bind (wpAny_bind (wpAny_loadPart hx (wpAny_bind (PySem.W.Looks.here (s := ⟨hp, g, dr, tk + 1, os⟩) (PySem.W.looks_clsIn I.kIn hcd) ?_))))))
  rw [hdct]
  rw [if_neg (by decide)]
  dsimp only
  rw [if_neg (by simp [typeHasDict])]
  have hsz : a ≠ hp.objs.size := Nat.ne_of_lt (Heap.lt_size hx)
  refine wpAny_bind (wpAny_alloc' ?_)
  have hx1 : (hp.push { cls := .type "dict", data := .dict #[] }).get? a = some { cls := .ref C, dict := none, data := .fields #[.ref t0, .none, .none, .none, .bool false, .none] } := Heap.get?_push_of_some _ hx
  refine wpAny_bind (wpAny_update' hx1 ?_)
  refine wpAny_pure ?_
  have gd0 : (hp.push { cls := .type "dict", data := .dict #[] }).get? hp.objs.size = some { cls := .type "dict", data := .dict #[] } := Heap.get?_push_at rfl rfl
  have gd1 : ((hp.push { cls := .type "dict", data := .dict #[] }).update a fun o => { cls := o.cls, dict := some hp.objs.size, data := o.data, slots := o.slots }).get? hp.objs.size = some { cls := .type "dict", data := .dict #[] } :=
    (Heap.get?_update_ne _ _ _ _ (Ne.symm hsz)).trans gd0
  have ga1 : ((hp.push { cls := .type "dict", data := .dict #[] }).update a fun o => { cls := o.cls, dict := some hp.objs.size, data := o.data, slots := o.slots }).get? a = some { cls := .ref C, dict := some hp.objs.size, data := .fields #[.ref t0, .none, .none, .none, .bool false, .none] } :=
    Heap.get?_update_self _ hx1 rfl
  have n0 : (hp.push { cls := .type "dict", data := .dict #[] }).Ns1 hp.objs.size (fun _ => none) := Heap.Ns1.of_empty ⟨_, #[], _, gd0, rfl, fun e he => absurd he (by simp), fun _ => rfl⟩
  have n1 : ((hp.push { cls := .type "dict", data := .dict #[] }).update a fun o => { cls := o.cls, dict := some hp.objs.size, data := o.data, slots := o.slots }).Ns1 hp.objs.size (fun _ => none) := Heap.Ns1.of_empty ⟨_, #[], _, gd1, rfl, fun e he => absurd he (by simp), fun _ => rfl⟩
  have I1 : Inv X pins σ (upd H hp.objs.size (XD hp.objs.size [])) ⟨hp.push { cls := .type "dict", data := .dict #[] }, g, dr, tk + 1, os⟩ :=
    I.laid (h' := hp.push { cls := .type "dict", data := .dict #[] }) (t' := tk + 1) (fun b u z => Heap.get?_push_of_some _ z) (Nat.le_refl _) (xd_ok n0 (fun _ => trivial) PySem.Within.nil (by simp))
  have e1 : upd H hp.objs.size (XD hp.objs.size []) a = some (XO a C none) := by rw [upd_ne hsz]; exact e
  have I2 : Inv X pins σ (upd (upd H hp.objs.size (XD hp.objs.size [])) a (XO a C (some hp.objs.size))) ⟨(hp.push { cls := .type "dict", data := .dict #[] }).update a fun o => { cls := o.cls, dict := some hp.objs.size, data := o.data, slots := o.slots }, g, dr, tk + 1, os⟩ :=
    I1.write (x := a) (e := a) (t' := tk + 1) (by rw [e1]; trivial) (.inl rfl) (fun b u hb z => (Heap.get?_update_ne _ _ _ _ hb).trans z) ⟨_, ga1⟩ (xo_ok ga1)
  have e2 : upd (upd H hp.objs.size (XD hp.objs.size [])) a (XO a C (some hp.objs.size)) hp.objs.size = some (XD hp.objs.size []) := by rw [upd_ne (Ne.symm hsz), upd_same]
  show wpAny _ _ (Builtin.ObjectAttr.storeInDict hp.objs.size (.str f tk) f u) _ _ _
  unfold Builtin.ObjectAttr.storeInDict Builtin.ObjectAttr.newKeyGuard
  refine wpAny_bind (wpAny_pure (wpAny_bind (wpAny_nsSet1 n1 fun h' hn' hs => ?_)))
  obtain ⟨oD, esD, epD, hoD, hdD, hcD⟩ := hn'.count (Within.cons f u Within.nil)
  refine wpAny_bind (wpAny_lookBehind hoD (by rw [hdD]; exact pastItsLine_dict (Nat.le_trans hcD (by rw [List.length_cons, List.length_nil, sizeLine_eq]; omega))) ?_)
  refine wpAny_pure ?_
  have I3 := I2.write (x := hp.objs.size) (e := hp.objs.size) (o := XD hp.objs.size [(f, y)]) (h' := h') (t' := tk + 1 + 1) (by rw [e2]; trivial) (.inl rfl) (fun b u hb z => (hs.2 b hb).trans z) (let ⟨o, _, _, z, _⟩ := hn'; ⟨o, z⟩)
    (xd_ok hn' (fun g => by
      by_cases q : g = f
      · have hb : (g == f) = true := beq_iff_eq.mpr q
        simp only [List.lookup, hb, if_pos q]; exact ry
      · have hb : (g == f) = false := beq_eq_false_iff_ne.mpr q
        simp only [List.lookup, hb, if_neg q]; trivial) (fun g hg => by
      by_cases q : g = f
      · rw [q]; simp
      · exact absurd (by simp [q]) hg) (by simp))
  have eH : upd (upd (upd H hp.objs.size (XD hp.objs.size [])) a (XO a C (some hp.objs.size))) hp.objs.size (XD hp.objs.size [(f, y)]) = upd (upd H hp.objs.size (XD hp.objs.size [(f, y)])) a (XO a C (some hp.objs.size)) := by
    funext b
    unfold upd
    by_cases z1 : b = hp.objs.size
    · rw [if_pos z1, if_neg (fun z => hsz (z.symm.trans z1)), if_pos z1]
    · rw [if_neg z1]
      by_cases z2 : b = a
      · rw [if_pos z2, if_pos z2]
      · rw [if_neg z2, if_neg z2, if_neg z1, if_neg z1]
  rw [eH] at I3
  exact h hp.objs.size _ (I.hok.fresh (Nat.le_refl _)) I3

theorem xset1 {y : V} {u : Value} {Q : Unit → Shared → Prop} (I : Inv X pins σ H s) (e : H a = some (XO a C (some dx))) (ed : H dx = some (XD dx fs)) (ne : dx ≠ a) (c : XClsOk X.K X.mg nm C) (n : NoAttr X.K C f) (hl : fs.length < 1000) (ry : RelV y u)
    (h : ∀ s', Inv X pins σ (upd H dx (XD dx (putF f y fs))) s' → Q () s') : wpAny (model X.prog X.w) A (setAttr (.ref a) f u) Q E s := by
  obtain ⟨t0, hx⟩ := (I.hok _ _ e).1
  obtain ⟨mA, nd, r, wi, _⟩ := (I.hok _ _ ed).1
  obtain ⟨cd, hcd, hv, hdct, _⟩ := c.cd
  obtain ⟨od, hod, _⟩ := lookIn_ns nd
  have J : PySem.W.InstAt s.heap a { cls := .ref C, dict := some dx, data := .fields #[.ref t0, .none, .none, .none, .bool false, .none] } C (some od) := ⟨hx, rfl, rfl, hod⟩
  refine PySem.W.set_plain I.kIn J c.sa (Ex.xa_open (s := { s with toks := s.toks + 1 }) I.kIn J hcd hv n.taker fun b => ?_)
  obtain ⟨hp, g, dr, tk, os⟩ := s
  refine wpAny_bind (wpAny_pure (wpAny_bind (wpAny_bind (wpAny_loadPart hx (wpAny_bind (PySem.W.Looks.here (s := ⟨hp, g, dr, tk + 1, os⟩) (PySem.W.looks_clsIn I.kIn hcd) ?_))))))
  rw [hdct]
  refine wpAny_pure (a := some dx) (wpAny_bind (wpAny_pure (wpAny_bind ?_)))
  refine wpAny_nsSet1 (s := ⟨hp, g, dr, tk + 1, os⟩) nd fun h' hn' hs => ?_
  have hz : (fs.map (·.1)).length ≤ sizeLine := by rw [List.length_map, sizeLine_eq]; omega
  obtain ⟨oD, esD, epD, hoD, hdD, hcD⟩ := hn'.count (Within.cons f u wi)
  refine wpAny_bind (wpAny_lookBehind hoD (by rw [hdD]; exact pastItsLine_dict (Nat.le_trans hcD (by rw [List.length_cons]; omega))) ?_)
  refine wpAny_pure (h _ (I.write (x := dx) (e := dx) (t' := tk + 1 + 1) (by rw [ed]; trivial) (.inl rfl) (fun b u hb z => (hs.2 b hb).trans z) (let ⟨o, _, _, z, _⟩ := hn'; ⟨o, z⟩) (xd_ok hn' (fun g => ?_) (fun g hg => ?_) ?_)))
  · rw [lookup_putF]
    by_cases q : g = f
    · rw [if_pos q, if_pos q]; exact ry
    · rw [if_neg q, if_neg q]; exact r g
  · by_cases q : g = f
    · rw [q]; exact (keys_putF f y fs).1
    · refine (keys_putF f y fs).2 g (wi g fun z => hg ?_)
      show (if g = f then some u else mA g) = none
      rw [if_neg q]; exact z
  · have := length_putF f y fs; omega
end

def sXFld (K : PySem.W.Frag) (mg : Str → Option Value) (ta tv : TE) (f : Str) : TS := fun D σ H => tv σ H fun y H1 => ta σ H1 fun x H2 => ∃ a C nm, x = .ref a ∧ XClsOk K mg nm C ∧ NoAttr K C f ∧
  ((H2 a = some (XO a C none) ∧ ∀ dx, H2 dx = none → D.nx σ (upd (upd H2 dx (XD dx [(f, y)])) a (XO a C (some dx)))) ∨
   ∃ dx fs, H2 a = some (XO a C (some dx)) ∧ H2 dx = some (XD dx fs) ∧ dx ≠ a ∧ fs.length < 1000 ∧ D.nx σ (upd H2 dx (XD dx (putF f y fs))))
section
variable {X : Cx} {o value : Expr} {f : Str} {pos pos' : Pos} {ta tv : TE}
theorem ps_xfld (ha : PE X o ta) (hv : PE X value tv) (hs : swapsWith value (some (.Attribute o f pos')) pos.line X.env = pure false) : PS X (.Assign [.Attribute o f pos'] value pos) (sXFld X.K X.mg ta tv f) := by
  intro pins s σ H D I h
  refine plainObj_wpAny_Assign_Attribute (thn (hv pins s σ H _ I h) fun u s1 ⟨y, H1, I1, ry, q⟩ => thn (ha pins s1 σ H1 _ I1 q) fun ov s2 ⟨x, H2, I2, rx, a, C, nm, ex, c, n, q2⟩ => ?_) hs
  subst ex
  obtain rfl : ov = Value.ref a := rx
  rcases q2 with ⟨ea, q2⟩ | ⟨dx, fs, ea, ed, ne, hl, q2⟩
  · exact xset0 I2 ea c n ry fun dx s3 z I3 => ⟨σ, _, I3, q2 dx z⟩
  · exact xset1 I2 ea ed ne c n hl ry fun s3 I3 => ⟨σ, _, I3, q2⟩
end
end L2

set_option Elab.async false
set_option linter.all false
set_option maxRecDepth 100000
set_option maxHeartbeats 4000000
namespace Ex
open PySem PySem.W PyProof.Rows PySem.Spec
section
variable {prog : Program} {w : World} {A : Around} {E : Value → Shared → Prop} {K : Frag} {x C : Addr} {ox : Obj} {od : Option Obj} {name : Str} {expr : Bool} {h : Heap} {g : Array GenState} {d : Drawn} {t : Nat} {os : OsState}
theorem xg_call {tk : Tok} {v : Value} {R : Result → Shared → Prop} (X : K.In h) (I : InstAt h x ox C od) (hb : mroIn K C (.type "BaseException") = some true) (hf : findObj K C od name = some (.value v)) (hq : R (.ok (.ret v)) ⟨h, g, d, t, os⟩) :
    codeAny (model prog w) A (.call (.builtin "BaseException.__getattribute__") ⟨[.ref x, .str name tk], []⟩) R ⟨h, g, d, t, os⟩ := by
  have hk : builtinKind "BaseException.__getattribute__" = some .slot := by decide +kernel
  have hsp : splitId "BaseException.__getattribute__" = some ("BaseException", "__getattribute__") := by decide +kernel
  have sub : Looks (model prog w) h (isInstance (.ref x) (.type "BaseException")) true := I.type.andThen (looks_mroIn X hb)
  have L0 := I.type (M := model prog w)
  have L1 := looks_find (M := model prog w) X I hf
  refine codeAny_call_builtin PySem.F.attrBase_ValueError.ga.plain PySem.F.entry_bexc_ga (@check_slot (model prog w) _ _ ⟨h, g, d, t, os⟩ "BaseException.__getattribute__" "BaseException" "__getattribute__" (.ref x) [.str name tk] [] _ hk hsp sub (PySem.F.args_bexc_ga (.ref x) (.str name tk)) ?_)
  unfold Builtin.«object.__getattribute__»
  refine wpAny_bind (wpAny_pure ?_)
  refine wpAny_bind (wpAny_pure ?_)
  refine wpAny_bind (L0.at ?_)
  refine wpAny_bind (L1.at ?_)
  exact wpAny_pure hq
theorem xg_attr {v : Value} {Q : Value → Shared → Prop} (X : K.In h) (I : InstAt h x ox C od) (hb : mroIn K C (.type "BaseException") = some true)
    (hga : findIn K (.ref C) "__getattribute__" = some (some (.builtin "BaseException.__getattribute__"))) (hgt : findIn K (.ref C) "__getattr__" = some none) (hf : findObj K C od name = some (.value v)) (hh : handedIn v = true)
    (hq : Q v ⟨h, g, d, t + 1, os⟩) : wpAny (model prog w) A (getAttr (.ref x) name expr) Q E ⟨h, g, d, t, os⟩ := by
  have L0 := I.type (M := model prog w)
  have L1 := looks_findIn (M := model prog w) X hga
  have L2 := looks_findIn (M := model prog w) X hgt
  have f3 := PySem.F.attrBase_ValueError.ga.bind (.ref x)
  have hx0 : (expr && onTheHeap (Value.builtin "BaseException.__getattribute__")) = false := by cases expr <;> rfl
  have hx2 : (Value.builtin "BaseException.__getattribute__" == Value.builtin "object.__getattribute__") = false := by decide +kernel
  have hx1 : (onTheHeap (Value.ref C) && Value.builtin "BaseException.__getattribute__" == Value.builtin "object.__getattribute__") = false := by rw [hx2]; rfl
  unfold getAttr getAttrBy
  refine wpAny_bind (wpAny_mkText (wpAny_holding (wpAny_bind (L0.at (wpAny_bind (L1.at ?_))))))
  repeat (any_goals (first | assumption | with_reducible refine L0.at ?_ | with_reducible refine L1.at ?_ | with_reducible refine L2.at ?_ | wp_step))
  refine xg_call X I hb hf ?_
  show wpAny _ _ (handedOut v) Q E _
  rw [handedOut_of hh]
  exact wpAny_pure hq
end
end Ex
namespace L2
open PySem PySem.Spec PyProof.Rows
theorem XClsOk.mro {K : PySem.W.Frag} {mg : Str → Option Value} {name : Str} {C : Addr} (c : XClsOk K mg name C) {X : String} {b : Bool} (hb : ([.type "ValueError", .type "Exception", .type "BaseException", .type "object"] : List Value).contains (.type X) = b) : PySem.W.mroIn K C (.type X) = some b := by
  obtain ⟨cd, hcd, hv, _, bm, hm⟩ := c.cd
  unfold PySem.W.mroIn
  rw [hcd, Option.bind_some, if_neg (by rw [hm]; exact Bool.false_ne_true), Ex.veTail_has hv hb]

def tXFld (K : PySem.W.Frag) (mg : Str → Option Value) (ta : TE) (f : Str) : TE := fun σ H Q => ta σ H fun x H1 => ∃ a C nm dx fs v, x = .ref a ∧ H1 a = some (XC a C (some dx)) ∧ H1 dx = some (XD dx fs) ∧ XClsOk K mg nm C ∧ NoAttr K C f ∧ fs.lookup f = some v ∧ Q v H1
section
variable {X : Cx} {e : Expr} {f : Str} {pos : Pos} {ta : TE}
theorem pe_xfld (he : PE X e ta) (hb : attributeBase e f X.env (eval e X.env) = eval e X.env) : PE X (.Attribute e f pos) (tXFld X.K X.mg ta f) := by
  intro pins s σ H Q I h
  refine attr_of hb (thn (he pins s σ H _ I h) fun u s1 ⟨x, H1, I1, rx, a, C, nm, dx, fs, v, ex, ea, ed, c, n, l, q⟩ => ?_)
  subst ex
  obtain rfl : u = Value.ref a := rx
  obtain ⟨o, vs, ho, hc, hd, hdat⟩ := (I1.hok _ _ ea).1
  obtain ⟨mA, nd, r, _, _⟩ := (I1.hok _ _ ed).1
  obtain ⟨od, hod, hl⟩ := lookIn_ns nd
  obtain ⟨u', hu, ru⟩ := RelO.some_of (v := v) (o := mA f) (by rw [← l]; exact r f)
  obtain ⟨cd, hcd, hv, hdct, _⟩ := c.cd
  have J : PySem.W.InstAt s1.heap a o C (some od) := ⟨ho, hc, by unfold PySem.W.notCls; rw [hdat], by rw [hd]; exact hod⟩
  have hh : PySem.W.hasDictIn X.K C = true := by unfold PySem.W.hasDictIn; rw [hcd]; exact hdct
  have I2 : Inv X pins σ H1 { s1 with toks := s1.toks + 1 } := I1.tok _
  obtain ⟨hp, g, dr, tk, os⟩ := s1
  exact Ex.xg_attr I1.kIn J (c.mro (by decide +kernel)) c.ga c.gt (PySem.W.findObj_own hh n rfl (by rw [hl, hu])) (handed_of ru) ⟨v, H1, I2, ru, q⟩
end
end L2

set_option Elab.async false
set_option linter.all false
set_option maxRecDepth 100000
set_option maxHeartbeats 4000000
namespace Ex
open PySem PySem.W PyProof.Rows PySem.Spec
section
variable {prog : Program} {w : World} {A : Around} {E : Value → Shared → Prop} {K : Frag} {x C : Addr} {ox : Obj} {od : Option Obj} {h : Heap} {g : Array GenState} {d : Drawn} {t : Nat} {os : OsState}
theorem xc_call {tk : Tok} {R : Result → Shared → Prop} (X : K.In h) (I : InstAt h x ox C od) (hb : mroIn K C (.type "BaseException") = some true) (ho : mroIn K C (.type "object") = some true)
    (hf : findObj K C od "__class__" = some (.bind (.builtin "getset_descriptor.__get__") (.builtin "object.__class__"))) (hq : R (.ok (.ret (.ref C))) ⟨h, g, d, t, os⟩) :
    codeAny (model prog w) A (.call (.builtin "BaseException.__getattribute__") ⟨[.ref x, .str "__class__" tk], []⟩) R ⟨h, g, d, t, os⟩ := by
  have hk : builtinKind "BaseException.__getattribute__" = some .slot := by decide +kernel
  have hsp : splitId "BaseException.__getattribute__" = some ("BaseException", "__getattribute__") := by decide +kernel
  have sub : Looks (model prog w) h (isInstance (.ref x) (.type "BaseException")) true := I.type.andThen (looks_mroIn X hb)
  have L0 := I.type (M := model prog w)
  have L1 := looks_find (M := model prog w) X I hf
  refine codeAny_call_builtin PySem.F.attrBase_ValueError.ga.plain PySem.F.entry_bexc_ga (@check_slot (model prog w) _ _ ⟨h, g, d, t, os⟩ "BaseException.__getattribute__" "BaseException" "__getattribute__" (.ref x) [.str "__class__" tk] [] _ hk hsp sub (PySem.F.args_bexc_ga (.ref x) (.str "__class__" tk)) ?_)
  unfold Builtin.«object.__getattribute__»
  refine wpAny_bind (wpAny_pure ?_)
  refine wpAny_bind (wpAny_pure ?_)
  refine wpAny_bind (L0.at ?_)
  refine wpAny_bind (L1.at ?_)
  show wpAny _ _ (holding [.builtin "object.__class__"] (call (.builtin "getset_descriptor.__get__") [.builtin "object.__class__", .ref x, .ref C]) >>= ret) _ _ _
  exact wpAny_bind (wpAny_holding (wpAny_call (class_get (ox := ox) (od := od) X I ho (wpAny_pure hq))))
theorem xc_attr {Q : Option Value → Shared → Prop} (X : K.In h) (I : InstAt h x ox C od) (hb : mroIn K C (.type "BaseException") = some true) (ho : mroIn K C (.type "object") = some true)
    (hga : findIn K (.ref C) "__getattribute__" = some (some (.builtin "BaseException.__getattribute__"))) (hgt : findIn K (.ref C) "__getattr__" = some none)
    (hf : findObj K C od "__class__" = some (.bind (.builtin "getset_descriptor.__get__") (.builtin "object.__class__"))) (hq : Q (some (.ref C)) ⟨h, g, d, t + 1, os⟩) : wpAny (model prog w) A (getAttr? (.ref x) "__class__") Q E ⟨h, g, d, t, os⟩ := by
  have L0 := I.type (M := model prog w)
  have L1 := looks_findIn (M := model prog w) X hga
  have L2 := looks_findIn (M := model prog w) X hgt
  have f3 := PySem.F.attrBase_ValueError.ga.bind (.ref x)
  have hx0 : (false && onTheHeap (Value.builtin "BaseException.__getattribute__")) = false := rfl
  have hx2 : (Value.builtin "BaseException.__getattribute__" == Value.builtin "object.__getattribute__") = false := by decide +kernel
  have hx1 : (onTheHeap (Value.ref C) && Value.builtin "BaseException.__getattribute__" == Value.builtin "object.__getattribute__") = false := by rw [hx2]; rfl
  unfold getAttr? getAttrBy? getAttrBy
  refine wpAny_bind (wpAny_mkText (wpAny_bind (wpAny_attempt (wpAny_holding (wpAny_bind (L0.at (wpAny_bind (L1.at ?_))))))))
  repeat (any_goals (first | assumption | with_reducible refine L0.at ?_ | with_reducible refine L1.at ?_ | with_reducible refine L2.at ?_ | wp_step))
  refine xc_call X I hb ho hf ?_
  show wpAny _ _ (handedOut (.ref C)) _ _ _
  exact wpAny_pure (wpAny_pure hq)
end
end Ex
namespace L2
open PySem PySem.Spec PyProof.Rows

def XAt (x C : Addr) (h : Heap) : Prop := ∃ o vs, h.get? x = some o ∧ o.cls = .ref C ∧ o.data = .fields vs ∧ (o.dict = none ∨ ∃ dx od, o.dict = some dx ∧ h.get? dx = some od)
theorem XAt.inst {x C : Addr} {h : Heap} (p : XAt x C h) : ∃ ox od, PySem.W.InstAt h x ox C od := by
  obtain ⟨o, vs, ho, hc, hd, z | ⟨dx, od, z, q⟩⟩ := p
  · exact ⟨o, none, ho, hc, by unfold PySem.W.notCls; rw [hd], by rw [z]; trivial⟩
  · exact ⟨o, some od, ho, hc, by unfold PySem.W.notCls; rw [hd], by rw [z]; exact q⟩
theorem kitx_exc {K : PySem.W.Frag} {mg : Str → Option Value} {nm : Str} {x C : Addr} (c : XClsOk K mg nm C) : PySem.W.KitX K (.ref x) (.ref C) (XAt x C) where
  ty := fun M h _ p => by obtain ⟨ox, od, I⟩ := p.inst; exact I.type
  it := fun M h X _ => by
    obtain ⟨nm, q, N, bs, bm, sn, sub, ab, col, dd, k0, k1, k2, k3, k5, l, v⟩ := c.obj
    intro A' Q' E' s' k q
    unfold isType loadHead
    exact wpAny_bind (wpAny_loadPart (k _ _ (X _ _ l)) (wpAny_pure q))
  ne := fun h tp dd its n sl X htp => by
    obtain ⟨nm, q, N, bs, bm, sn, sub, ab, col, dd', k0, k1, k2, k3, k5, l, v⟩ := c.obj
    refine Bool.eq_false_iff.mpr fun q => ?_
    have e : C = tp := Value.ref.inj (beq_iff_eq.mp q)
    subst e
    have z := congrArg Obj.cls (Option.some.inj ((X _ _ l).symm.trans htp))
    exact absurd (Value.type.inj z) (by decide)
  ca := fun {prog w A E Q s} X p hq => by
    obtain ⟨ox, od, I⟩ := p.inst
    obtain ⟨cd, hcd, _⟩ := c.cd
    have hf : PySem.W.findObj K C od "__class__" = some (.bind (.builtin "getset_descriptor.__get__") (.builtin "object.__class__")) := by
      unfold PySem.W.findObj
      rw [hcd, Option.bind_some, c.cl, Option.bind_some]
      simp [c.sg, c.tk]
    obtain ⟨hp, g, dr, tk, os⟩ := s
    exact Ex.xc_attr X I (c.mro (by decide +kernel)) (c.mro (by decide +kernel)) c.ga c.gt hf hq

def rIsX (K : PySem.W.Frag) (mg : Str → Option Value) : List V → Hp → VK → Prop := fun xs H Q => ∃ a C d nm y u b, xs = [.ref a, y] ∧ H a = some (XC a C d) ∧ (∀ dx, d = some dx → ∃ o, H dx = some o) ∧ XClsOk K mg nm C ∧ RelV y u ∧ PySem.W.kitOne K (.ref C) u = some b ∧ Q (.bl b) H

section
variable {X : Cx}
theorem xat_of {pins : List (Addr × Obj)} {σ : St} {H : Hp} {s : Shared} {a C : Addr} {d : Option Addr} (I : Inv X pins σ H s) (e : H a = some (XC a C d)) (hd : ∀ dx, d = some dx → ∃ o, H dx = some o) : XAt a C s.heap := by
  obtain ⟨o, vs, ho, hc, hdd, hf⟩ := (I.hok _ _ e).1
  refine ⟨o, vs, ho, hc, hf, ?_⟩
  cases d with
  | none => exact .inl hdd
  | some dx =>
    obtain ⟨z, q⟩ := hd dx rfl
    obtain ⟨u, r⟩ := (I.hok _ _ q).some_at
    exact .inr ⟨dx, u, hdd, r⟩
theorem call_isx : CallR X (.builtin "isinstance") (rIsX X.K X.mg) := by
  intro pins s σ H xs us Q I r h
  obtain ⟨a, C, d, nm, y, u, b, rfl, e, hd, c, ry, hk, q⟩ := h
  obtain ⟨v, w', rfl, rx, rc⟩ := vals2 r
  cases (show v = Value.ref a from rx)
  have hw : PySem.W.kitOne X.K (.ref C) w' = some b := by
    cases y with
    | ref z => cases (show w' = Value.ref z from rc); cases (show u = Value.ref z from ry); exact hk
    | ty z => cases (show w' = Value.type z from rc); cases (show u = Value.type z from ry); exact hk
    | non => cases (show w' = Value.none from rc); cases (show u = Value.none from ry); exact hk
    | bl z => cases (show w' = Value.bool z from rc); cases (show u = Value.bool z from ry); exact hk
    | int z => obtain ⟨t, rfl⟩ := ry; cases hk
    | str z => obtain ⟨t, rfl⟩ := ry; cases hk
    | byt z => obtain ⟨t, rfl⟩ := ry; cases hk
    | flt z => obtain ⟨t, rfl⟩ := ry; cases hk
  exact PySem.W.kia_one (kitx_exc c) I.kIn (xat_of I e hd) hw (fun z => nomatch z) fun tk => ⟨.bl b, H, I.tok _, rfl, q⟩
end
end L2

set_option Elab.async false
set_option linter.all false
set_option maxRecDepth 100000
set_option maxHeartbeats 4000000
namespace Ex
open PySem PySem.W PyProof.Rows PySem.Spec
theorem x_match {M : Model} {A : Around} {E : Value → Shared → Prop} {s : Shared} {K : Frag} {e C G : Addr} {Q : Bool → Shared → Prop} (X : K.In s.heap) (ht : Looks M s.heap (typeOf (.ref e)) (.ref C)) (hG : typeIn K (.ref G) = some (.type "type"))
    (hi : Looks M s.heap (isType (.ref G)) true) (hb : mroIn K G (.type "BaseException") = some true) (hs : mroIn K C (.ref G) = some true) (h : Q true s) : wpAny M A (excMatches (.ref e) (.ref G)) Q E s := by
  obtain ⟨hp, g, d, tk, os⟩ := s
  have L0 := looks_typeIn (M := M) X hG
  have L1 := looks_mroIn (M := M) X hb
  have L2 := looks_mroIn (M := M) X hs
  have f := tc_notTuple
  unfold excMatches isExcClass isInstance
  refine wpAny_bind (wpAny_bind (L0.at ?_))
  rw [f]
  refine wpAny_pure ?_
  simp only [Bool.false_eq_true, if_false]
  refine wpAny_bind (wpAny_pure ?_)
  simp only [List.forIn_cons, List.forIn_nil]
  refine wpAny_bind (wpAny_bind (wpAny_bind (wpAny_bind (hi.at ?_))))
  simp only [if_true]
  refine L1.at ?_
  simp only [Bool.not_true, Bool.false_eq_true, if_false]
  refine wpAny_pure (wpAny_pure (wpAny_bind (ht.at ?_)))
  refine wpAny_bind (wpAny_bind (wpAny_bind (L2.at ?_)))
  simp only [if_true]
  exact wpAny_pure (wpAny_pure (wpAny_pure h))
end Ex
namespace L2
open PySem PySem.Spec PyProof.Rows

abbrev TX := St → Hp → VK → XK → Prop
def PX (X : Cx) (e : Expr) (t : TX) : Prop := ∀ (pins : List (Addr × Obj)) (s : Shared) (σ : St) (H : Hp) (Q : VK) (E : XK), Inv X pins σ H s → t σ H Q E →
  wpAny (model X.prog X.w) X.A (eval e X.env) (EP X pins σ Q) (fun ev s' => ∃ H1 s1, Inv X pins σ H1 s1 ∧ CXe X.prog X.w X.stack H1 s1 E ev s') s

def PSx (X : Cx) (st : Stmt) (t : Ends → XK → St → Hp → Prop) : Prop := ∀ (pins : List (Addr × Obj)) (s : Shared) (σ : St) (H : Hp) (D : Ends) (E : XK), Inv X pins σ H s → t D E σ H →
  wpAny (model X.prog X.w) X.A (exec st X.env) (SP X pins D) (fun ev s' => ∃ H1 s1, Inv X pins σ H1 s1 ∧ CXe X.prog X.w X.stack H1 s1 E ev s') s
section
variable {X : Cx} {k : Nat} {f : Addr} {fd : FuncData} {ps : List Str} {sp : Sp} {x : Str} {st : Stmt} {p pos : Pos} {e : Expr} {es : List Expr} {t : TA} {tx : TX}
theorem px_call (Dd : DefOk X.K X.mg x st ps f fd) (F : FnOk X.prog X.w X.K X.mg X.base (CXe X.prog X.w) k f fd ps sp) (hr : Room k X.A) (ha : PA X.nox (e :: es) t) (hg : Gl X x := by rfl)
    (hdb : (x == ("__debug__" : Str)) = false := by decide) (he : starEach (e :: es) X.env = (false, eval e X.env) :: starEach es X.env := by rfl) (hpl : (backTo pos (starEach es X.env)).any (·.1) = false := by rfl) :
    PX X (.Call (.Name x p) (e :: es) [] pos) (fun σ H Q E => t σ H fun vs H1 => sp vs H1 Q E) := by
  intro pins s σ H Q E I h
  refine wpAny_Call_Name_kw (ld_glob I hg Dd.g ?_ hdb)
  refine PySem.W.callWith_K (h₀ := X.base) I.ok.mod.kin Dd.F.kp (wpAny_mono (ha pos pins s σ H _ (I.wish _) h) (fun us s1 ⟨vs, H1, I1, r, q⟩ => ⟨I1.kIn, ?_⟩) fun _ _ z => z.elim) he hpl
  have I1 := I1.unwish
  have hl : us.length = ps.length := by rw [← r.length]; exact F.len _ _ _ _ q
  have hb : BindsTo s1 fd ⟨us, []⟩ (ps.zip us) := by
    have := Dd.b s1 us I1.kIn (by rw [List.append_nil]; exact hl)
    rwa [List.append_nil] at this
  refine wpAny_call (codeAny_mono (F.run X.A X.stack s1 H1 ⟨us, []⟩ us vs Q E hr I1.env0 hb r q) fun rr s' hq => ?_)
  cases rr with
  | error ev => exact ⟨H1, s1, I1, hq⟩
  | ok fl =>
    cases fl with
    | ret u => exact I1.after hq
    | next => exact False.elim hq
    | brk => exact False.elim hq
    | cont => exact False.elim hq
theorem psx_expr (he : PX X e tx) (hs : swapsWith e none pos.line X.env = pure false := by rfl) : PSx X (.Expr e pos) (fun D E σ H => tx σ H (fun _ H' => D.nx σ H') E) := by
  intro pins s σ H D E I h
  exact wpAny_Expr_any (wpAny_mono (he pins s σ H _ E I h) (fun v s1 ⟨x, H1, I1, r1, q1⟩ => ⟨σ, H1, I1, q1⟩) fun _ _ z => z) I.quiet hs
end

abbrev Cx.hdl (X : Cx) (ea : Addr) : Cx := { X with A := X.A.mark (some (.ref ea)), calm := false }
theorem Inv.hdl {X : Cx} {pins : List (Addr × Obj)} {σ : St} {H : Hp} {s : Shared} (I : Inv X pins σ H s) (ea : Addr) : Inv (X.hdl ea) pins σ H s :=
  ⟨⟨I.ok.mod, I.ok.kind, I.ok.glob, I.ok.blt, I.ok.above, I.ok.inj, I.ok.has, I.ok.cab, fun z => Bool.noConfusion z, I.ok.frames, I.ok.stk, I.ok.exf, I.ok.bs, I.ok.bsz, I.ok.noex, I.ok.exfs, I.ok.funs, I.ok.frf⟩, I.os, I.bare, I.base, I.loc, I.cell, I.free, I.freeC, I.pin, I.hok, I.len⟩
theorem Inv.unhdl {X : Cx} {pins : List (Addr × Obj)} {σ : St} {H : Hp} {s : Shared} {ea : Addr} {E : Value → Shared → Prop} (ok : X.Ok) (I : Inv ((X.hdl ea).wish E) pins σ H s) : Inv X pins σ H s :=
  ⟨ok, I.os, I.bare, I.base, I.loc, I.cell, I.free, I.freeC, I.pin, I.hok, I.len⟩

theorem Inv.dropped {X : Cx} {pins : List (Addr × Obj)} {σ : St} {H : Hp} {s : Shared} {j : Nat} {n : Str} {m : Str → Option Value} {h' : Heap} {v : Option Value} {t' : Nat} (I : Inv X pins σ H s) (hN : X.N.Nodup) (hj : X.N[j]? = some n) (hk : X.env.kindOf n = some .local)
    (hm : ∀ (i : Nat) (x : Str) (v : V), X.N[i]? = some x → σ[i]? = some (some v) → Vis X.env.scope x → ∃ u, RelV v u ∧ Look X.env s.heap m x u) (hn0 : s.heap.Ns X.env.locals m)
    (hn : h'.Ns X.env.locals (fun x => if x = n then v else m x)) (hs : Heap.SameBut X.env.locals s.heap h') : Inv X pins (σ.set j none) H { s with heap := h', toks := t' } := by
  have cne := I.cne
  have lt : ∀ b o, X.s₀.heap.get? b = some o → b ≠ X.env.locals := fun b o e => Nat.ne_of_lt (Nat.lt_of_lt_of_le (Heap.lt_size e) I.ok.above)
  obtain ⟨oL, _, _, hoL, _⟩ := id hn0
  refine ⟨I.ok, I.os, I.bare, ⟨fun b o e n hb hx => (hs.2 b (lt b o e)).trans (I.base.keep b o e n hb hx), fun b o e n hb hx => ?_, I.base.free, fun b o e hx => ?_, I.base.tups, I.base.frzs, I.base.tbls⟩,
    ⟨_, hn, fun i y w e1 e2 e3 => ?_⟩, fun y c e => ?_, I.free, I.freeC, fun p hp => ?_, fun b ob e => ?_, by rw [List.length_set]; exact I.len⟩
  · obtain ⟨sl, e1⟩ := I.base.slot b o e n hb hx
    exact ⟨sl, (hs.2 b (lt b o e)).trans e1⟩
  · obtain ⟨o', e1⟩ := I.base.there b o e hx
    exact ⟨o', (hs.2 b (lt b o e)).trans e1⟩
  · have hij : j ≠ i := fun z => by
      subst z
      by_cases q : j < σ.length
      · rw [List.getElem?_set_self q] at e2; cases e2
      · rw [List.getElem?_eq_none (by rw [List.length_set]; omega)] at e2; cases e2
    rw [List.getElem?_set_ne hij] at e2
    obtain ⟨u, r, q⟩ := hm i y w e1 e2 e3
    refine ⟨u, r, ?_⟩
    rcases q with ⟨k, e⟩ | ⟨k, c, e, z⟩
    · have : y ≠ n := fun z => hij (nodup_ix hN hj (z ▸ e1))
      exact .inl ⟨k, by show (if y = n then v else m y) = some u; rw [if_neg this]; exact e⟩
    · exact .inr ⟨k, c, e, z.sameBut hs (cne y c e)⟩
  · obtain ⟨w', z⟩ := I.cell y c e
    exact ⟨w', z.sameBut hs (cne y c e)⟩
  · obtain ⟨e, n, ne, nf, d⟩ := I.pin p hp
    exact ⟨(hs.2 p.1 ne).trans e, n, ne, nf, d⟩
  · refine (I.hok b ob e).stay (fun c w' hc q => (hs.2 c ?_).trans q) (fun _ q => q) fun _ _ q => q
    rintro rfl
    rcases hc with rfl | hc
    · rw [I.free] at e; cases e
    · rw [I.free] at hc; cases hc
end L2

set_option Elab.async false
set_option linter.all false
set_option maxRecDepth 100000
set_option maxHeartbeats 4000000
namespace L2
open PySem PySem.Spec PyProof.Rows
theorem Un.track {fs : List Addr} {H0 H : Hp} {h0 h : Heap} {a : Addr} {o : HO} (u : Un fs [] H0 H h0 h) (n : h0.get? a = none) (e : H a = none) : Un fs [] H0 (upd H a o) h0 h where
  keep := u.keep
  slot := u.slot
  free := fun b ob q z hx => by rw [upd_ne (fun y => by rw [y, n] at q; cases q)]; exact u.free b ob q z hx
  there := u.there
  tups := fun b xs q => by
    have r := u.tups b xs q
    rw [upd_ne (ne_of_none r e)]; exact r
  frzs := fun b ob xs q => by
    have r := u.frzs b ob xs q
    rw [upd_ne (ne_of_none r e)]; exact r
  tbls := fun b ps q => by
    obtain ⟨m, r⟩ := u.tbls b ps q
    exact ⟨m, by rw [upd_ne (ne_of_none r e)]; exact r⟩
theorem HOk.track {P : Program} {w : World} {H : Hp} {h : Heap} {a : Addr} {o : HO} (x : HOk P w H h) (e : H a = none) (k : ObjOk P w (upd H a o) h a o) : HOk P w (upd H a o) h := fun b u q => by
  by_cases hb : b = a
  · subst hb; rw [upd_same] at q; cases q; exact k
  · rw [upd_ne hb] at q
    exact (x b u q).stay (fun c v _ r => r) (fun c r => by rw [upd_ne (ne_of_none r e)]; exact r) fun c xs r => by rw [upd_ne (ne_of_none r e)]; exact r

def tTry (K : PySem.W.Frag) (mg : Str → Option Value) (G : Addr) (j : Nat) (tb : Ends → XK → St → Hp → Prop) (th : TS) : TS := fun D σ H => tb D (fun cls d H' => ∃ C nm, cls = .ref C ∧ XClsOk K mg nm C ∧ PySem.W.mroIn K C (.ref G) = some true ∧
  ∀ ea, H' ea = none → th { nx := fun σ' H2 => D.nx (σ'.set j none) H2, rt := D.rt, bk := fun σ' H2 => D.bk (σ'.set j none) H2, ct := fun σ' H2 => D.ct (σ'.set j none) H2 } (σ.set j (some (.ref ea))) (upd H' ea (XC ea C d))) σ H
section
variable {X : Cx} {st b0 : Stmt} {suite : List Stmt} {tb : Ends → XK → St → Hp → Prop} {th : TS} {G : Addr} {j : Nat} {c n : Str} {cp hp pos : Pos}
theorem ps_try (hN : X.N.Nodup) (hj : X.N[j]? = some n) (hk : X.env.scope.names.lookup n = some .local) (hG : XClsOk X.K X.mg c G) (hst : X.stack = X.env :: X.outer) (hfr : X.env.frame = some X.env.locals)
    (hb : PSx X st tb) (hh : ∀ ea, PSs (X.hdl ea).nox (b0 :: suite) th) (hg : Gl X c := by rfl) (hdb : (c == ("__debug__" : Str)) = false := by decide) :
    PS X (.Try [st] [.ExceptHandler (some (.Name c cp)) (some n) (b0 :: suite) hp] [] [] pos) (tTry X.K X.mg G j tb th) := by
  intro pins s σ H D I h
  refine wpAny_Try_except (wpAny_execs_cons (wpAny_mono (hb pins s σ H D _ I h) (fun f s1 q => ?_) fun ev s1 q => ?_))
  · cases f with
    | next => exact wpAny_execs_nil (wpAny_execs_nil q)
    | ret v => exact q
    | brk => exact q
    | cont => exact q
  obtain ⟨H1, s2, I1, ea, cls, d, T0, H', rfl, os, bare, un, hok, hn, he1, hT0, hT1, tr, C, nm, rfl, hC, hsub, hth⟩ := q
  have I2 : Inv X pins σ H' s1 := I1.call' os un hok bare fun b z => nomatch z
  have hframes : X.A.frames = some (X.env :: X.outer) := by rw [← hst]; exact I.ok.frames
  have hfun : s1.heap.FunFrames X.base (X.env :: X.outer) := by rw [← hst]; exact I2.stack
  have hS1 : ∀ b ∈ frs (X.env :: X.outer), H' b = none := by rw [← hst]; exact I2.stkFree
  -- the state with a heap that moved
  have mv : ∀ (h' : Heap) (D' : Addr → Prop) (g : Array GenState) (dr : Drawn) (tk : Nat), Ex.Mvd (frs (X.env :: X.outer)) D' s1.heap h' → (∀ b, D' b → s2.heap.get? b = none) → (∀ b, D' b → H' b = none) → AllBare g →
      Inv X pins σ H' ⟨h', g, dr, tk, s1.os⟩ := fun h' D' g dr tk m h1 h2 h3 => by
    refine I1.call' (s' := ⟨h', g, dr, tk, s1.os⟩) os (Un.moved un m h1 fun b hb => .inl ?_) (HOk.moved hok m h2 hS1) h3 fun b z => nomatch z
    rw [hst]; exact hb
  refine Ex.x_noteT hframes hfun hfr tr fun h3 T hT m3 t3 => ?_
  refine Ex.x_mark (fr := none) t3 fun h4 m4 t4 => ?_
  have fr2 : ∀ b, s1.heap.get? b = none → s2.heap.get? b = none := fun b q => by
    cases r : s2.heap.get? b with
    | none => rfl
    | some o => obtain ⟨o', z⟩ := un.there b o r (by simp); rw [q] at z; cases z
  have D1 : ∀ b, ((b = ea ∨ b = T0) ∨ b = T) → s2.heap.get? b = none := by
    rintro b ((rfl | rfl) | rfl)
    · exact hn
    · exact hT0
    · exact fr2 _ hT
  have D2 : ∀ b, ((b = ea ∨ b = T0) ∨ b = T) → H' b = none := by
    rintro b ((rfl | rfl) | rfl)
    · exact he1
    · exact hT1
    · exact hok.none_of hT
  have M4 : Ex.Mvd (frs (X.env :: X.outer)) (fun b => (b = ea ∨ b = T0) ∨ b = T) s1.heap h4 := (m3.mono fun b z => .inl z).trans (mvd_S (m4.mono fun b z => .inr z) fun b z => nomatch z)
  have I4 : Inv X pins σ H' { s1 with heap := h4 } := mv h4 _ s1.gens s1.drawn s1.toks M4 D1 D2 bare
  have Ih := I4.hdl ea
  obtain ⟨cdG, hcG, hvG, _, bmG, hmG⟩ := hG.cd
  obtain ⟨nmG, qG, NG, bsG, bm', snG, subG, abG, colG, ddG, k0, k1, k2, k3, k5, lG, vG⟩ := hG.obj
  refine wpAny_handleBy_cons (codeAny_handlers_test (A := X.A.mark (some (.ref ea))) (ld_glob Ih hg hG.g ?_ hdb)) (by intro q; cases q)
  have ty : PySem.W.typeIn X.K (.ref G) = some (.type "type") := by show (List.lookup G X.K).map (·.cls) = _; rw [lG]; rfl
  obtain ⟨oe, vs, oT, ts, q1, q2, q3, q4, q5, q6, q7, q8, q9⟩ := id t4
  have Lt : PySem.W.Looks (model X.prog X.w) h4 (typeOf (.ref ea)) (.ref C) := q2 ▸ (PySem.W.Looks.ld q1).andThen .now
  have Li : PySem.W.Looks (model X.prog X.w) h4 (isType (.ref G)) true := by
    intro A' Q' E' s' k q
    unfold isType loadHead
    exact wpAny_bind (wpAny_loadPart (k _ _ (I4.kIn _ _ lG)) (wpAny_pure q))
  refine Ex.x_match (s := { s1 with heap := h4 }) I4.kIn Lt ty Li (hG.mro (by decide +kernel)) hsub ?_
  dsimp only
  refine codeAny_handlers_suite_as ?_
  refine Ex.x_mark (s := { s1 with heap := h4 }) (fr := none) t4 fun h5 m5 t5 => ?_
  have M5 : Ex.Mvd (frs (X.env :: X.outer)) (fun b => (b = ea ∨ b = T0) ∨ b = T) s1.heap h5 := M4.trans (mvd_S (m5.mono fun b z => .inr z) fun b z => nomatch z)
  have I5 : Inv X pins σ H' { s1 with heap := h5 } := mv h5 _ s1.gens s1.drawn s1.toks M5 D1 D2 bare
  obtain ⟨oe5, vs5, oT5, ts5, p1, p2, p3, p4, _⟩ := id t5
  have I6 : Inv X pins σ (upd H' ea (XC ea C d)) { s1 with heap := h5 } := by
    refine I1.call' (s' := { s1 with heap := h5 }) os (Un.track (Un.moved un M5 D1 fun b hb => .inl (by rw [hst]; exact hb)) hn he1) (HOk.track (HOk.moved hok M5 D2 hS1) he1 (xc_ok p1 p2 p3 p4)) bare fun b z => nomatch z
  refine store_ok I6 hN hj (.inl hk) (show RelV (.ref ea) (.ref ea) from rfl) (fun s6 I7 => ?_) (.inr hk)
  refine wpAny_mono (hh ea pins s6 _ _ _ ((I7.hdl ea).wish _) (hth ea he1)) (fun f s7 q => ?_) fun _ _ z => z.elim
  have go : ∀ {σ' : St} {H2 : Hp} {Q : Flow → Shared → Prop}, Inv ((X.hdl ea).nox) pins σ' H2 s7 → (∀ s8, Inv X pins (σ'.set j none) H2 s8 → Q f s8) → wpAny (model X.prog X.w) X.A (do bindName X.env n .none; unbindBehindTheSuite X.env n hp) (fun _ s8 => Q f s8) X.xe s7 := fun {σ' H2 Q} J k => by
    have J' := J.unhdl I.ok
    obtain ⟨m, hm, hl⟩ := id J'.loc
    exact wpAny_nameGoes_keeps hk hm (by rw [I.ok.kind]; rfl) fun h' v hn' hs' => k _ (J'.dropped hN hj hk hl hm hn' hs')
  cases f with
  | next =>
    obtain ⟨σ', H2, J, z⟩ := q
    exact go J fun s8 K8 => ⟨_, H2, K8, z⟩
  | ret u =>
    obtain ⟨v, σ', H2, J, rv, z⟩ := q
    exact go J fun s8 K8 => ⟨v, _, H2, K8, rv, z⟩
  | brk =>
    obtain ⟨σ', H2, J, z⟩ := q
    exact go J fun s8 K8 => ⟨_, H2, K8, z⟩
  | cont =>
    obtain ⟨σ', H2, J, z⟩ := q
    exact go J fun s8 K8 => ⟨_, H2, K8, z⟩
end
end L2

set_option Elab.async false
set_option linter.all false
set_option maxRecDepth 100000
set_option maxHeartbeats 4000000
namespace L2
open PySem PySem.Spec PyProof.Rows

structure XIniOk (K : PySem.W.Frag) (C : Addr) (qual : Str) (st : Stmt) (ps : List Str) (f : Addr) (fd : FuncData) : Prop where
  F : Fun K "__init__" qual st f fd
  b : Binds K fd ps []
  i : PySem.W.findIn K (.ref C) "__init__" = some (some (.ref f))
  f : PySem.W.isFn K (.ref f) = true
section
variable {P : Program} {w : World} {K : PySem.W.Frag} {mg : Str → Option Value} {base : Heap}
theorem Fun.okE {x qual : Str} {st : Stmt} {f : Addr} {fd : FuncData} {N ps : List Str} {k : Nat} {sp : Sp} (F : Fun K x qual st f fd) (S : FnScope N ps (defScope st)) (len : ∀ vs H Q E, sp vs H Q E → vs.length = ps.length)
    (hbody : ∀ (cdv : Value) (A : Around) (outer : List Env) (s : Shared) (H : Hp) (vs : List V) (Q : VK) (E : XK), Room k (A.deeper (envOfC qual (defScope st) s.heap.objs.size f cdv)) → sp vs H Q E →
      ∃ t, PSs (cxOf (CXe P w) P w K mg base N qual (defScope st) f cdv A outer s H E) (defBody st) t ∧ t { nx := fun _ H' => Q .non H', rt := Q } (start N vs) H) : FnOk P w K mg base (CXe P w) (k + 1) f fd ps sp := by
  obtain ⟨oc, od, kV, doc, pm, an, cdv, ct, osl, rfl, lk, hcd⟩ := F.ex
  exact fn_of lk hcd S len fun A outer s H vs Q E hr hsp => hbody cdv A outer s H vs Q E hr hsp
end
section
variable {X : Cx} {k : Nat} {f C : Addr} {fd : FuncData} {ps : List Str} {sp : Sp} {x qual : Str} {st : Stmt} {p pos cpos : Pos} {e : Expr} {es : List Expr} {t : TA} {E : XK}

theorem callX (D : DefOk X.K X.mg x st ps f fd) (G : FnOk X.prog X.w X.K X.mg X.base (CXe X.prog X.w) k f fd ps sp) (hr : Room k X.A) (hx : Passes (CXe X.prog X.w) X E) (ha : PA X (e :: es) t) (hg : Gl X x := by rfl)
    (hdb : (x == ("__debug__" : Str)) = false := by decide) (he : starEach (e :: es) X.env = (false, eval e X.env) :: starEach es X.env := by rfl) (hpl : (backTo pos (starEach es X.env)).any (·.1) = false := by rfl) :
    PE X (.Call (.Name x p) (e :: es) [] pos) (tCall sp [] E t) := pe_call G hr hg D.g D.F.kp D.b .nil hx ha hdb he hpl
theorem raiseD (c : XClsOk X.K X.mg x C) (D : XIniOk X.K C qual st ps f fd) (G : FnOk X.prog X.w X.K X.mg X.base CX0 k f fd ps sp) (hr : Room (k + 1) X.A) (hc : X.calm = true) (hx : Throws X E) (ha : PA X (e :: es) t) (hz : ps.length ≤ 1000 := by decide) (hg : Gl X x := by rfl)
    (hdb : (x == ("__debug__" : Str)) = false := by decide) (he : starEach (e :: es) X.env = (false, eval e X.env) :: starEach es X.env := by rfl) (hpl : (backTo cpos (starEach es X.env)).any (·.1) = false := by rfl) :
    PS X (.Raise (some (.Call (.Name x p) (e :: es) [] cpos)) none pos) (tRaise C sp E t) := ps_raise c.cls c.g D.i D.f c.kp G D.b hr hc hx ha hz hg hdb he hpl
end
theorem xIniOk_mk {K : PySem.W.Frag} {C : Addr} {qual : Str} {st : Stmt} {ps : List Str} {f : Addr} {oc : Value} {od an : Option Addr} {osl : Array (Option Value)} {kV doc pm cdv ct : Value}
    (a : PySem.W.findIn K (.ref C) "__init__" = some (some (.ref f))) (i : PySem.W.isFn K (.ref f) = true) (l : K.lookup f = some ⟨oc, od, .func (PySem.W.fnOf "__init__" qual (defArgs st) (defBody st) (defScope st) .none kV doc pm an cdv ct), osl⟩) (c : PySem.W.codeIn K cdv qual = true) (k : PySem.W.keepIn K (.ref f) = true)
    (b : ∀ (kV doc pm : Value) (an : Option Addr) (cdv ct : Value) (us : List Value), us.length = ps.length → bindArgs (PySem.W.fnOf "__init__" qual (defArgs st) (defBody st) (defScope st) .none kV doc pm an cdv ct) ⟨us, []⟩ = pure (ps.zip us)) :
    XIniOk K C qual st ps f (PySem.W.fnOf "__init__" qual (defArgs st) (defBody st) (defScope st) .none kV doc pm an cdv ct) :=
  have F := fun_mk l c k
  ⟨F, F.binds b, a, i⟩
theorem xClsOk_mk {K : PySem.W.Frag} {mg : Str → Option Value} {h : Heap} {name : Str} {C N : Addr} {nm q : Str} {bs bm : List Value} {sn : List Str} {sub : List Value} {ab : Bool} {col : Option Bool} {dd : Option Addr} {k0 k1 k2 k3 k5 : Option Value} (X : K.In h) (G : h.Ns mainGlobals mg)
    (a : PySem.W.nsIn K mainGlobals name = some (some (.ref C))) (l : K.lookup C = some (excClassObj nm q C N bs bm true sn sub ab col dd k0 k1 k2 k3 k5 "ValueError.__new__")) (v : Ex.veTail bm = true) (kp : PySem.W.keepIn K (.ref C) = true)
    (sa : PySem.W.findIn K (.ref C) "__setattr__" = some (some (.builtin "object.__setattr__"))) (ga : PySem.W.findIn K (.ref C) "__getattribute__" = some (some (.builtin "BaseException.__getattribute__"))) (gt : PySem.W.findIn K (.ref C) "__getattr__" = some none)
    (cl : PySem.W.findIn K (.ref C) "__class__" = some (some (.builtin "object.__class__"))) (sg : PySem.W.specialIn K (.builtin "object.__class__") "__get__" = some (some (.builtin "getset_descriptor.__get__"))) (tk : PySem.W.takesIn K (.builtin "object.__class__") = some true) : XClsOk K mg name C :=
  ⟨PySem.W.mg_of X G a, ⟨nm, q, N, bs, bm, sn, sub, ab, col, dd, k0, k1, k2, k3, k5, l, v⟩, kp, sa, ga, gt, cl, sg, tk⟩
theorem bt_ValueError : bootBuiltins "ValueError" = some (.type "ValueError") := by decide +kernel
section
variable {X : Cx}

end
end L2

set_option Elab.async false
set_option linter.all false
set_option maxRecDepth 100000
set_option maxHeartbeats 4000000
namespace L2
open PySem PySem.Spec PyProof.Rows
open PySem.Builtin

end L2

set_option Elab.async false
set_option linter.all false
set_option maxRecDepth 100000
set_option maxHeartbeats 4000000
namespace L2
open PySem PySem.Spec PyProof.Rows

def noX : XK := fun _ _ _ => False
theorem pass_no {P : Program} {w : World} {X : Cx} : Passes (CXe P w) X noX := by
  rintro pins σ H s e s' I ⟨ea, cls, d, T, H', _, _, _, _, _, _, _, _, _, _, h⟩
  exact h.elim
end L2

set_option Elab.async false
set_option linter.all false
set_option maxRecDepth 100000
set_option maxHeartbeats 4000000
namespace Sk
open PySem PySem.Spec PyProof.Rows

mutual
def hsh (w : World) : PyData → Int
  | .int i => hashInt i
  | .str x => hashStr w x
  | .bool b => hashInt (if b then 1 else 0)
  | .tuple ds => reduceHash (Builtin.Tuple.tupleHashOf (hshs w ds))
  | _ => 0
def hshs (w : World) : List PyData → List Int
  | [] => []
  | d :: ds => hsh w d :: hshs w ds
end
mutual
def drw : PyData → Nat
  | .tuple ds => drws ds + 1
  | _ => 1
def drws : List PyData → Nat
  | [] => 0
  | d :: ds => drw d + drws ds
end
theorem hshs_app (w : World) : ∀ a b, hshs w (a ++ b) = hshs w a ++ hshs w b
  | [], b => by simp [hshs]
  | d :: a, b => by simp [hshs, hshs_app w a b]
theorem drws_app : ∀ a b, drws (a ++ b) = drws a + drws b
  | [], b => by simp [drws]
  | d :: a, b => by simp [drws, drws_app a b, Nat.add_assoc]

def hok : Nat → PyData → Bool
  | _, .int _ => true
  | _, .str x => PyData.strOk x
  | _, .bool _ => true
  | n + 1, .tuple ds => ds.all (hok n)
  | _, _ => false
section
variable {prog : Program} {w : World}
theorem wpAny_pyHash_bool {A : Around} {E : Value → Shared → Prop} {s : Shared} {b : Bool} {Q : Int → Shared → Prop} (h : Q (hashInt (if b then 1 else 0)) { s with toks := s.toks + 1 }) :
    wpAny (model prog w) A (pyHash (.bool b)) Q E s := by
  have hr := rawHash_range (if b then 1 else 0)
  have hT : s.TypeIs (.bool b) "bool" := rfl
  unfold pyHash
  have hv : [Value.bool b].any Value.onHeap = false := rfl
  refine wpAny_bind ?_
  rw [cRoomFor, if_neg (by rw [hv]; exact Bool.false_ne_true)]; refine wpAny_pure ?_
  refine wpAny_bind (wpAny_specialOf hT F.slot_bool_hash.lookup ?_)
  show wpAny _ _ (if (some (Value.builtin "int.__hash__") == some Value.none) = true then _ else _) Q E s
  rw [if_neg (by rw [beq_builtin_none]; exact Bool.false_ne_true)]
  refine wpAny_bind (wpAny_specialOf hT F.slot_bool_hash.lookup ?_)
  show wpAny _ _ (callSpecialIfBoundUnlessNone? (.bool b) "__hash__" _ >>= _) Q E s
  refine wpAny_bind (wpAny_callSpecialIfBoundUnlessNone?_slot hT F.slot_bool_hash
    (wpAny_call_entry F.slot_bool_hash hT entry_int_hash
      (show wpAny _ _ (do ret (← mkInt (rawHash (if b then 1 else 0)))) _ _ s from wpAny_ret_mkInt ?_) (args_int_hash _)))
  show wpAny _ _ (if (decide (-(2 : Int) ^ 63 ≤ rawHash (if b then 1 else 0)) && decide (rawHash (if b then 1 else 0) < 2 ^ 63)) = true then _ else _) Q E _
  rw [if_pos (by rw [decide_eq_true hr.1, decide_eq_true hr.2]; rfl)]
  exact wpAny_pure h
theorem hash_of : ∀ (n : Nat) (d : PyData) {A : Around} {E : Value → Shared → Prop} {s : Shared} {v : Value} {as : List Addr} {Q : Int → Shared → Prop}, hok n d = true → A.units + n < cLine → Reads s.heap v d as → Q (hsh w d) { s with toks := s.toks + drw d } →
    wpAny (model prog w) A (pyHash v) Q E s
  | n, .int i, A, E, s, v, as, Q, _, _, r, h => by
    cases r; unfold hsh drw at h; exact wpAny_pyHash_int h
  | n, .str x, A, E, s, v, as, Q, _, _, r, h => by
    cases r; unfold hsh drw at h; exact wpAny_pyHash_str h
  | n, .bool x, A, E, s, v, as, Q, _, _, r, h => by
    cases r; unfold hsh drw at h; exact wpAny_pyHash_bool h
  | n + 1, .tuple ds, A, E, s, v, as, Q, hk, hu, r, h => by
    unfold hsh drw at h
    cases r with
    | @tuple a o items m _ _ ho hc hd hi =>
    have hT : s.TypeIs (.ref a) "tuple" := ⟨o, ho, hc⟩
    have hk : ∀ d ∈ ds, hok n d = true := by
      unfold hok at hk
      exact List.all_eq_true.mp hk
    unfold pyHash
    first | unfold pyHashByItsType | skip
    refine wpAny_bind (wpAny_cRoomFor_or (.inr (by omega)) ?_)
    refine wpAny_bind (wpAny_specialOf hT F.slot_tuple_hash.lookup ?_)
    show wpAny _ _ (if (some (Value.builtin "tuple.__hash__") == some Value.none) = true then _ else _) Q E s
    rw [if_neg (by rw [beq_builtin_none]; exact Bool.false_ne_true)]
    refine wpAny_bind (wpAny_specialOf hT F.slot_tuple_hash.lookup ?_)
    show wpAny _ _ (callSpecialIfBoundUnlessNone? (.ref a) "__hash__" _ >>= _) Q E s
    refine wpAny_bind (wpAny_callSpecialIfBoundUnlessNone?_slot hT F.slot_tuple_hash (wpAny_call_entry F.slot_tuple_hash hT F.entry_tuple_hash ?_ (F.args_tuple_hash_1 _)))
    show wpAny _ _ (Builtin.Tuple.tupleItemsOf (.ref a) >>= _) _ _ s
    refine wpAny_bind (wpAny_tupleItemsOf ho hd ?_)
    refine wpAny_bind ?_
    rw [← Array.forIn_toList]
    refine wpAny_forIn_list _
      (fun rest (b : Array Int) s' => ∃ done left bs, ds = done ++ left ∧ ReadsAll s.heap rest left bs ∧ b.toList = hshs w done ∧ s' = { s with toks := s.toks + drws done })
      _ ?_ ?_ _ _ ⟨[], ds, _, rfl, hi, by simp [hshs], by simp [drws]⟩
    · rintro x rest b s' ⟨done, left, bs, e, hl, hb, rfl⟩
      cases hl with
      | @cons _ _ k ks' _ _ h1 hl' =>
        refine wpAny_bind (hash_of n k (hk k (by rw [e]; simp)) (show A.in1.units + n < cLine by show A.units + 1 + n < cLine; omega) h1 ?_)
        have q : ({ s with toks := s.toks + drws done + drw k } : Shared) = { s with toks := s.toks + drws (done ++ [k]) } := by rw [drws_app]; simp [drws, Nat.add_assoc]
        first
          | exact wpAny_pure ⟨done ++ [k], ks', _, by rw [e]; simp, hl', by rw [hshs_app]; simp [hb, hshs], q⟩
          | exact wpAny_bind (wpAny_pure (wpAny_pure ⟨done ++ [k], ks', _, by rw [e]; simp, hl', by rw [hshs_app]; simp [hb, hshs], q⟩))
    · rintro b s' ⟨done, left, bs, rfl, hl, hb, rfl⟩
      cases hl
      rw [List.append_nil] at h
      show wpAny _ _ (retInt (Builtin.Tuple.tupleHashOf b.toList)) _ _ _
      rw [hb]
      refine wpAny_ret_mkInt ?_
      show wpAny _ _ (if (decide (-(2 : Int) ^ 63 ≤ Builtin.Tuple.tupleHashOf (hshs w done)) && decide (Builtin.Tuple.tupleHashOf (hshs w done) < 2 ^ 63)) = true then _ else _) Q E _
      unfold reduceHash at h
      by_cases hr : (decide (-(2 : Int) ^ 63 ≤ Builtin.Tuple.tupleHashOf (hshs w done)) && decide (Builtin.Tuple.tupleHashOf (hshs w done) < 2 ^ 63)) = true
      · rw [if_pos hr]
        rw [if_pos hr] at h
        exact wpAny_pure (by simpa [Nat.add_assoc] using h)
      · rw [if_neg hr]
        rw [if_neg hr] at h
        exact wpAny_bind (wpAny_rule (wpAny_pure (by simpa [Nat.add_assoc] using h)))
  | 0, .tuple _, _, _, _, _, _, _, hk, _, _, _ => by unfold hok at hk; cases hk
  | 0, .none, _, _, _, _, _, _, hk, _, _, _ => by unfold hok at hk; cases hk
  | 0, .list _, _, _, _, _, _, _, hk, _, _, _ => by unfold hok at hk; cases hk
  | 0, .dict _, _, _, _, _, _, _, hk, _, _, _ => by unfold hok at hk; cases hk
  | n + 1, .none, _, _, _, _, _, _, hk, _, _, _ => by unfold hok at hk; cases hk
  | n + 1, .list _, _, _, _, _, _, _, hk, _, _, _ => by unfold hok at hk; cases hk
  | n + 1, .dict _, _, _, _, _, _, _, hk, _, _, _ => by unfold hok at hk; cases hk
theorem quiet_of : ∀ (n : Nat) (d : PyData) (m : Nat) {A : Around} {E : Value → Shared → Prop} {s : Shared} {v : Value} {as : List Addr} {Q : Bool → Shared → Prop}, hok n d = true → n ≤ m → Reads s.heap v d as → Q true s →
    wpAny (model prog w) A (eqIsQuiet m v) Q E s
  | n, .int i, m, A, E, s, v, as, Q, _, _, r, h => by
    cases r; rw [eqIsQuiet_byValue _ rfl]; exact wpAny_pure h
  | n, .str x, m, A, E, s, v, as, Q, _, _, r, h => by
    cases r; rw [eqIsQuiet_byValue _ rfl]; exact wpAny_pure h
  | n, .bool x, m, A, E, s, v, as, Q, _, _, r, h => by
    cases r; rw [eqIsQuiet_byValue _ rfl]; exact wpAny_pure h
  | n + 1, .tuple ds, m + 1, A, E, s, v, as, Q, hk, hm, r, h => by
    cases r with
    | @tuple a o items _ _ _ ho hc hd hi =>
    have hT : s.TypeIs (.ref a) "tuple" := ⟨o, ho, hc⟩
    have hk : ∀ d ∈ ds, hok n d = true := by
      unfold hok at hk
      exact List.all_eq_true.mp hk
    unfold eqIsQuiet
    refine wpAny_bind (wpAny_specialOf hT F.slot_tuple_eq.lookup ?_)
    show wpAny _ _ (isInstance (.ref a) (.type "tuple") >>= _) _ _ s
    refine wpAny_bind (wpAny_isInstance hT isSubtype_tuple_tuple ?_)
    simp only [Bool.not_true, Bool.false_eq_true, if_false]
    refine wpAny_bind (wpAny_seqItems ho hd ?_)
    refine wpAny_bind ?_
    show wpAny _ _ (forIn items _ _) _ _ s
    rw [← Array.forIn_toList]
    refine wpAny_forIn_list _ (fun rest r s' => r.1 = none ∧ s' = s ∧ ∃ left bs, ReadsAll s.heap rest left bs ∧ ∀ d ∈ left, hok n d = true) _ ?_ ?_ _ _ ⟨rfl, rfl, ds, _, hi, hk⟩
    · rintro v rest r s' ⟨hr, rfl, left, bs, hl, hall⟩
      cases hl with
      | @cons _ _ k ks' _ _ h1 hl' =>
        refine wpAny_bind (quiet_of n k m (hall k List.mem_cons_self) (by omega) h1 ?_)
        simp only [Bool.not_true, Bool.false_eq_true, if_false]
        exact wpAny_pure ⟨rfl, rfl, ks', _, hl', fun d hd => hall d (List.mem_cons_of_mem _ hd)⟩
    · rintro ⟨r1, r2⟩ s' ⟨hr, rfl, _⟩
      simp only at hr
      subst hr
      exact wpAny_pure h
  | n + 1, .tuple ds, 0, _, _, _, _, _, _, _, hm, _, _ => by omega
  | 0, .tuple _, _, _, _, _, _, _, _, hk, _, _, _ => by unfold hok at hk; cases hk
  | 0, .none, _, _, _, _, _, _, _, hk, _, _, _ => by unfold hok at hk; cases hk
  | 0, .list _, _, _, _, _, _, _, _, hk, _, _, _ => by unfold hok at hk; cases hk
  | 0, .dict _, _, _, _, _, _, _, _, hk, _, _, _ => by unfold hok at hk; cases hk
  | n + 1, .none, _, _, _, _, _, _, _, hk, _, _, _ => by unfold hok at hk; cases hk
  | n + 1, .list _, _, _, _, _, _, _, _, hk, _, _, _ => by unfold hok at hk; cases hk
  | n + 1, .dict _, _, _, _, _, _, _, _, hk, _, _, _ => by unfold hok at hk; cases hk
end
theorem hok_lay : ∀ (n : Nat) (d : PyData), hok n d = true → d.canLay0 = true ∧ d.depth ≤ n
  | n, .int i, _ => ⟨rfl, by simp [PyData.depth]⟩
  | n, .str x, hk => ⟨by unfold hok at hk; exact hk, by simp [PyData.depth]⟩
  | n, .bool x, _ => ⟨rfl, by simp [PyData.depth]⟩
  | n + 1, .tuple ds, hk => by
    have hk : ∀ d ∈ ds, hok n d = true := by
      unfold hok at hk
      exact List.all_eq_true.mp hk
    have key : ∀ l : List PyData, (∀ d ∈ l, hok n d = true) → PyData.canLayAll0 l = true ∧ PyData.depthAll l ≤ n := by
      intro l
      induction l with
      | nil => intro _; exact ⟨rfl, Nat.zero_le _⟩
      | cons d l ih =>
        intro hl
        obtain ⟨a1, a2⟩ := hok_lay n d (hl d List.mem_cons_self)
        obtain ⟨b1, b2⟩ := ih fun e he => hl e (List.mem_cons_of_mem _ he)
        refine ⟨by simp [PyData.canLayAll0, a1, b1], ?_⟩
        simp only [PyData.depthAll]
        omega
    obtain ⟨h1, h2⟩ := key ds hk
    refine ⟨h1, ?_⟩
    simp only [PyData.depth]
    omega
  | 0, .tuple _, hk => by unfold hok at hk; cases hk
  | 0, .none, hk => by unfold hok at hk; cases hk
  | 0, .list _, hk => by unfold hok at hk; cases hk
  | 0, .dict _, hk => by unfold hok at hk; cases hk
  | n + 1, .none, hk => by unfold hok at hk; cases hk
  | n + 1, .list _, hk => by unfold hok at hk; cases hk
  | n + 1, .dict _, hk => by unfold hok at hk; cases hk
theorem reads_keeps {h h' : Heap} {c : Addr} {ob : Obj} {es ep} (hob : h.get? c = some ob) (hod : ob.data = .dict es ep) (hs : Heap.SameBut c h h') : ∀ (n : Nat) (d : PyData) {v : Value} {as : List Addr}, hok n d = true → Reads h v d as → Reads h' v d as
  | n, .int i, v, as, _, r => by cases r; exact .int _ _
  | n, .str x, v, as, _, r => by cases r; exact .str _ _
  | n, .bool x, v, as, _, r => by cases r; exact .bool _
  | n + 1, .tuple ds, v, as, hk, r => by
    cases r with
    | @tuple a o items _ _ _ ho hc hd hi =>
    have hk : ∀ d ∈ ds, hok n d = true := by
      unfold hok at hk
      exact List.all_eq_true.mp hk
    have key : ∀ (l : List PyData) {vs : List Value} {bs : List Addr}, (∀ d ∈ l, hok n d = true) → ReadsAll h vs l bs → ReadsAll h' vs l bs := by
      intro l
      induction l with
      | nil => intro vs bs _ r; cases r; exact .nil
      | cons d l ih =>
        intro vs bs hl r
        cases r with
        | cons r1 r2 => exact .cons (reads_keeps hob hod hs n d (hl d List.mem_cons_self) r1) (ih (fun e he => hl e (List.mem_cons_of_mem _ he)) r2)
    have hne : a ≠ c := by
      rintro rfl
      obtain rfl : o = ob := Option.some.inj (ho.symm.trans hob)
      rw [hd] at hod; exact nomatch hod
    exact .tuple ((hs.2 a hne).trans ho) hc hd (key ds hk hi)
  | 0, .tuple _, _, _, hk, _ => by unfold hok at hk; cases hk
  | 0, .none, _, _, hk, _ => by unfold hok at hk; cases hk
  | 0, .list _, _, _, hk, _ => by unfold hok at hk; cases hk
  | 0, .dict _, _, _, hk, _ => by unfold hok at hk; cases hk
  | n + 1, .none, _, _, hk, _ => by unfold hok at hk; cases hk
  | n + 1, .list _, _, _, hk, _ => by unfold hok at hk; cases hk
  | n + 1, .dict _, _, _, hk, _ => by unfold hok at hk; cases hk

structure DK (K : Type) [DecidableEq K] where
  D : K → PyData
  n : Nat
  n8 : n ≤ 8
  ok : ∀ k, hok n (D k) = true
  eqv : ∀ a b, PyData.eqv (D a) (D b) = decide (a = b)
  inj : ∀ a b, D a = D b → a = b
def kindOf {K : Type} [DecidableEq K] (T : DK K) (prog : Program) (w : World) : HeapKind prog w K where
  is := fun h k a => ∃ as, Reads h (.ref a) (T.D k) as
  hash := fun k => hsh w (T.D k)
  draws := fun k => drw (T.D k)
  room := fun A => A.units + 8 < cLine
  inj := fun {h a x y} ⟨as, r⟩ ⟨bs, r'⟩ => T.inj _ _ (SeqAt.Reads.unique _ _ _ _ _ (hok_lay _ _ (T.ok x)).1 r r')
  keeps := fun {h h' k a d o es ep} ⟨as, r⟩ ho hd hs => ⟨as, reads_keeps ho hd hs _ _ (T.ok k) r⟩
  pyHash := fun {A E s k a Q} hu ⟨as, r⟩ h => hash_of _ _ (T.ok k) (Nat.lt_of_le_of_lt (Nat.add_le_add_left T.n8 _) hu) r h
  eqBool := fun {A E s x y a b Q} hu ⟨as, r⟩ ⟨bs, r'⟩ h => by
    have l1 := hok_lay _ _ (T.ok x)
    have l2 := hok_lay _ _ (T.ok y)
    refine SeqAt.eqAt_reads _ _ A s _ _ _ _ r r' l1.1 l2.1 ?_ _ _ _ _ (by rw [T.eqv]; exact h)
    have := T.n8
    have h3 : min (T.D x).depth (T.D y).depth ≤ (T.D x).depth := Nat.min_le_left _ _
    omega
  quiet := fun {A E s k a Q} ⟨as, r⟩ h => quiet_of _ _ 8 (T.ok k) T.n8 r h
end Sk

set_option Elab.async false
set_option linter.all false
set_option maxRecDepth 100000
set_option maxHeartbeats 4000000
namespace L2
open PySem PySem.Spec PyProof.Rows Sk

def SDp {κ : Type} [DecidableEq κ] (T : DK κ) (P : Program) (w : World) (a : Addr) (kvs : List (κ × Addr × V)) (h : Heap) : Prop :=
  kvs.length ≤ sizeLine ∧ (a == sysModules) = false ∧ ∃ xs : List (κ × Addr × Value), Paired (fun (p : κ × Addr × V) (q : κ × Addr × Value) => p.1 = q.1 ∧ p.2.1 = q.2.1 ∧ RelV p.2.2 q.2.2) kvs xs ∧
    ∃ o es ep, h.get? a = some o ∧ o.ExactDict ∧ o.data = .dict es ep ∧ es.toList = xs.map (entryOfKey (kindOf T P w)) ∧ (xs.map (·.1)).Nodup
def SD {κ : Type} [DecidableEq κ] (T : DK κ) (P : Program) (w : World) (a : Addr) (kvs : List (κ × Addr × V)) : HO := .ext (SDp T P w a kvs)
def KsAt {κ : Type} [DecidableEq κ] (T : DK κ) (K : PySem.W.Frag) (H : Hp) (kvs : List (κ × Addr × V)) : Prop := ∀ p ∈ kvs, DatV K H (T.D p.1) (.ref p.2.1)
section
variable {κ : Type} [DecidableEq κ] {T : DK κ} {P : Program} {w : World}
theorem sd_ok {H : Hp} {h : Heap} {a : Addr} {kvs : List (κ × Addr × V)} (x : SDp T P w a kvs h) : ObjOk P w H h a (SD T P w a kvs) := by
  refine ⟨x, ?_, fun h1 h2 y k => ?_⟩
  · obtain ⟨_, _, _, _, o, _, _, e, _⟩ := x; exact ⟨o, e⟩
  · obtain ⟨z, hd, xs, rel, o, es, ep, e, c⟩ := y
    exact ⟨z, hd, xs, rel, o, es, ep, k _ e, c⟩
theorem paired_get {α β : Type} {F : α → β → Prop} : ∀ {l₁ : List α} {l₂ : List β}, Paired F l₁ l₂ → ∀ {i : Nat} {a : α}, l₁[i]? = some a → ∃ b, l₂[i]? = some b ∧ F a b
  | _, _, .nil, i, a, e => by simp at e
  | _, _, .cons r t, 0, a, e => by simp at e; subst e; exact ⟨_, rfl, r⟩
  | _, _, .cons r t, i + 1, a, e => by
    obtain ⟨b, h1, h2⟩ := paired_get t (i := i) (a := a) (by simpa using e)
    exact ⟨b, by simpa using h1, h2⟩
theorem paired_back {α β : Type} {F : α → β → Prop} : ∀ {l₁ : List α} {l₂ : List β}, Paired F l₁ l₂ → ∀ {i : Nat} {b : β}, l₂[i]? = some b → ∃ a, l₁[i]? = some a ∧ F a b
  | _, _, .nil, i, a, e => by simp at e
  | _, _, .cons r t, 0, a, e => by simp at e; subst e; exact ⟨_, rfl, r⟩
  | _, _, .cons r t, i + 1, a, e => by
    obtain ⟨b, h1, h2⟩ := paired_back t (i := i) (b := a) (by simpa using e)
    exact ⟨b, by simpa using h1, h2⟩
theorem paired_keys {kvs : List (κ × Addr × V)} {xs : List (κ × Addr × Value)} (r : Paired (fun (p : κ × Addr × V) (q : κ × Addr × Value) => p.1 = q.1 ∧ p.2.1 = q.2.1 ∧ RelV p.2.2 q.2.2) kvs xs) : kvs.map (·.1) = xs.map (·.1) := by
  induction r with
  | nil => rfl
  | cons h t ih => rw [List.map_cons, List.map_cons, ih, h.1]
theorem atKey_isSome {xs : List (κ × Addr × Value)} {k : κ} : (atKey xs k).isSome = decide (k ∈ xs.map (·.1)) := by
  unfold atKey
  rw [Option.isSome_map, Bool.eq_iff_iff, List.find?_isSome, decide_eq_true_eq, List.mem_map]
  constructor
  · rintro ⟨x, h1, h2⟩; exact ⟨x, h1, by simpa using h2⟩
  · rintro ⟨x, h1, h2⟩; exact ⟨x, h1, by simpa using h2⟩
section
variable {X : Cx} {pins : List (Addr × Obj)} {σ : St} {H : Hp} {s : Shared} {a b : Addr} {kvs : List (κ × Addr × V)} {k : κ}
theorem is_of (I : Inv X pins σ H s) (h : DatV X.K H (T.D k) (.ref b)) : (kindOf T X.prog X.w).is s.heap k b := reads_of I _ _ _ h (show RelV (.ref b) (.ref b) from rfl)
theorem sd_of (I : Inv X pins σ H s) (e : H a = some (SD T X.prog X.w a kvs)) (ks : KsAt T X.K H kvs) : kvs.length ≤ sizeLine ∧ (a == sysModules) = false ∧
    ∃ xs : List (κ × Addr × Value), Paired (fun (p : κ × Addr × V) (q : κ × Addr × Value) => p.1 = q.1 ∧ p.2.1 = q.2.1 ∧ RelV p.2.2 q.2.2) kvs xs ∧ s.heap.DictOfH (kindOf T X.prog X.w) a xs := by
  obtain ⟨⟨z, hd, xs, rel, o, es, ep, h1, h2, h3, h4, h5⟩, _⟩ := (show ObjOk X.prog X.w H s.heap a (SD T X.prog X.w a kvs) from I.hok a _ e)
  refine ⟨z, hd, xs, rel, o, es, ep, h1, h2, h3, h4, fun x hx => ?_, h5⟩
  obtain ⟨i, hi⟩ := List.getElem?_of_mem hx
  obtain ⟨p, hp, e1, e2, _⟩ := paired_back rel hi
  rw [← e1, ← e2]
  exact is_of I (ks p (List.mem_of_getElem? hp))
end

def rNotInS (T : DK κ) (P : Program) (w : World) (K : PySem.W.Frag) : R2 := fun x y H Q => ∃ a b kvs k, y = .ref a ∧ x = .ref b ∧ H a = some (SD T P w a kvs) ∧ KsAt T K H kvs ∧ DatV K H (T.D k) (.ref b) ∧ Q (.bl (!decide (k ∈ kvs.map (·.1)))) H
theorem op_notInS {X : Cx} (T : DK κ) (hu : X.A.units + 64 < cLine) : OpR X (compareOp .NotIn) (rNotInS T X.prog X.w X.K) := by
  intro pins s σ H x y v u Q I rx ry h
  obtain ⟨a, b, kvs, k, rfl, rfl, e, ks, hk, q⟩ := h
  cases (show v = Value.ref b from rx)
  cases (show u = Value.ref a from ry)
  obtain ⟨z, hd, xs, rel, dd⟩ := sd_of I e ks
  refine wpAny_notIn_heap (show X.A.in1.units + 8 < cLine by show X.A.units + 1 + 8 < cLine; omega) (is_of I hk) hd dd ?_
  rw [atKey_isSome, ← paired_keys rel]
  exact ⟨.bl _, H, I.tok _, rfl, q⟩

def tSGet (T : DK κ) (P : Program) (w : World) (K : PySem.W.Frag) (td ty : TE) : TE := fun σ H Q => td σ H fun x H1 => ty σ H1 fun y H2 => ∃ a b kvs k c v, x = .ref a ∧ y = .ref b ∧ H2 a = some (SD T P w a kvs) ∧ KsAt T K H2 kvs ∧ DatV K H2 (T.D k) (.ref b) ∧ (k, c, v) ∈ kvs ∧ Q v H2

def sSPut (T : DK κ) (P : Program) (w : World) (K : PySem.W.Frag) (td ty tv : TE) : TS := fun D σ H => tv σ H fun v H1 => td σ H1 fun x H2 => ty σ H2 fun y H3 => ∃ a b kvs k, x = .ref a ∧ y = .ref b ∧ H3 a = some (SD T P w a kvs) ∧ KsAt T K H3 kvs ∧
  DatV K H3 (T.D k) (.ref b) ∧ k ∉ kvs.map (·.1) ∧ kvs.length < sizeLine ∧ D.nx σ (upd H3 a (SD T P w a (kvs ++ [(k, b, v)])))

def tSDisp (T : DK κ) (P : Program) (w : World) (K : PySem.W.Frag) (tk tv : TE) : TE := fun σ H Q => ∀ p, H p = none → tPairs [(tk, tv)] σ (upd H p (SD T P w p [])) fun ps H2 => ∃ b k v, ps = [(.ref b, v)] ∧ H2 p = some (SD T P w p []) ∧ DatV K H2 (T.D k) (.ref b) ∧ Q (.ref p) (upd H2 p (SD T P w p [(k, b, v)]))
section
variable {X : Cx} {o i e value : Expr} {pos pos' tpos : Pos} {td ty tv tk : TE}
theorem pe_sget (T : DK κ) (hu : X.A.units + 64 < cLine) (ho : PE X o td) (hi : PE X i ty) (hs : NoSl i) : PE X (.Subscript o i pos) (tSGet T X.prog X.w X.K td ty) := by
  intro pins s σ H Q I h
  refine subD_of PySem.F.slot_dict_getitem.lookup hs (thn (ho pins s σ H _ I h) fun u s1 ⟨x, H1, I1, rx, q1⟩ => thn (hi pins s1 σ H1 _ I1 q1) fun iv s2 ⟨y, H2, I2, ry, a, b, kvs, k, c, v, ex, ey, hd, ks, hk, hm, q2⟩ => ?_)
  subst ex ey
  obtain rfl : u = Value.ref a := rx
  obtain rfl : iv = Value.ref b := ry
  obtain ⟨z, hd, xs, rel, dd⟩ := sd_of I2 hd ks
  obtain ⟨i, hi⟩ := List.getElem?_of_mem hm
  obtain ⟨⟨k2, c2, v2⟩, hx, e1, e2, rv⟩ := paired_get rel hi
  obtain rfl : k = k2 := e1
  have hp := atKey_of_get (let ⟨_, _, _, _, _, _, _, _, n⟩ := dd; n) hx
  exact ⟨dd.typeIs, wpAny_getItem_heap (show X.A.in1.units + 8 < cLine by show X.A.units + 1 + 8 < cLine; omega) (is_of I2 hk) dd hp ⟨v, H2, I2.tok _, rv, q2⟩⟩
theorem sd_put {pins : List (Addr × Obj)} {σ : St} {H : Hp} {s : Shared} {a b : Addr} {kvs : List (κ × Addr × V)} {k : κ} {v : V} {r : Value} {h' : Heap} {t' : Nat} {xs : List (κ × Addr × Value)} (I : Inv X pins σ H s) (e : H a = some (SD T X.prog X.w a kvs))
    (rel : Paired (fun (p : κ × Addr × V) (q : κ × Addr × Value) => p.1 = q.1 ∧ p.2.1 = q.2.1 ∧ RelV p.2.2 q.2.2) kvs xs) (hd : (a == sysModules) = false) (l : kvs.length < sizeLine) (rv : RelV v r) (n : k ∉ kvs.map (·.1))
    (dd' : h'.DictOfH (kindOf T X.prog X.w) a (storedH xs k b r)) (hs : Heap.SameBut a s.heap h') : Inv X pins σ (upd H a (SD T X.prog X.w a (kvs ++ [(k, b, v)]))) { s with heap := h', toks := t' } := by
  have hn : atKey xs k = none := by
    cases q : atKey xs k with
    | none => rfl
    | some z =>
      have := atKey_isSome (xs := xs) (k := k)
      rw [q, ← paired_keys rel] at this
      exact absurd (of_decide_eq_true this.symm) n
  rw [storedH_new hn] at dd'
  obtain ⟨q, es, ep, hq, h2, h3, h4, _, h5⟩ := dd'
  refine d_write I (by rw [e]; exact True.intro) hs ⟨q, hq⟩ (sd_ok ⟨by rw [List.length_append]; exact l, hd, _, Paired.snoc rel ⟨rfl, rfl, rv⟩, q, es, ep, hq, h2, h3, h4, h5⟩)
theorem ps_sput (T : DK κ) (hu : X.A.units + 64 < cLine) (ho : PE X o td) (hi : PE X i ty) (hv : PE X value tv) (hs : swapsWith value (some (.Subscript o i pos')) pos.line X.env = pure false) :
    PS X (.Assign [.Subscript o i pos'] value pos) (sSPut T X.prog X.w X.K td ty tv) := by
  intro pins s σ H D I h
  refine wpAny_Assign_Subscript (thn (hv pins s σ H _ I h) fun r s1 ⟨v, H1, I1, rv, q1⟩ => thn (ho pins s1 σ H1 _ I1 q1) fun u s2 ⟨x, H2, I2, rx, q2⟩ => thn (hi pins s2 σ H2 _ I2 q2) fun iv s3 ⟨y, H3, I3, ry, a, b, kvs, k, ex, ey, hd, ks, hk, n, l, q3⟩ => ?_) hs
  subst ex ey
  obtain rfl : u = Value.ref a := rx
  obtain rfl : iv = Value.ref b := ry
  obtain ⟨z, hm, xs, rel, dd⟩ := sd_of I3 hd ks
  have hz : xs.length ≤ sizeLine := by rw [← Paired.length rel]; exact z
  exact wpAny_setItem_heap (hsz := hz) (show X.A.in1.units + 8 < cLine by show X.A.units + 1 + 8 < cLine; omega) (is_of I3 hk) dd fun h' dd' hs' => ⟨σ, _, sd_put I3 hd rel hm l rv n dd' hs', q3⟩
theorem pe_sdisp (T : DK κ) (hu : X.A.units + 64 < cLine) (hk : PE X i tk) (hv : PE X value tv) : PE X (.Dict [some i] [value] pos) (tSDisp T X.prog X.w X.K tk tv) := by
  intro pins s σ H Q I q
  have hn := I.hok.fresh (Nat.le_refl s.heap.objs.size)
  have I1 : Inv X pins σ (upd H s.heap.objs.size (SD T X.prog X.w s.heap.objs.size [])) { s with heap := s.heap.push { cls := .type "dict", data := .dict #[] } } := I.laid (a := s.heap.objs.size) (h' := s.heap.push { cls := .type "dict", data := .dict #[] }) (t' := s.toks) (fun _ _ q => Heap.get?_push_of_some _ q) (Nat.le_refl _)
    (sd_ok ⟨Nat.zero_le _, beq_eq_false_iff_ne.mpr (Ne.symm (Nat.ne_of_lt I.big)), [], .nil, _, #[], 0, Heap.get?_push_size _ rfl, ⟨rfl, rfl, rfl⟩, rfl, rfl, List.nodup_nil⟩)
  have hp : PPs X pos [some i] [value] [(tk, tv)] := pps_cons hk hv pps_nil
  refine wpAny_Dict_any rfl rfl (by simp) (by show 1 ≤ 15; decide) (thn (hp pins _ σ _ _ I1 (q _ hn)) fun ws s2 ⟨ps, H2, I2, rel, b, k, v, ep, e, dk, q2⟩ => ?_)
  subst ep
  cases rel with
  | @cons _ y _ ys hy hys =>
  cases hys
  obtain ⟨y1, y2⟩ := y
  obtain ⟨r1, r2⟩ := hy
  obtain rfl : y1 = Value.ref b := r1
  obtain ⟨z, hm, xs, rl, dd⟩ := sd_of I2 e (fun p hp => nomatch hp)
  have hz : xs.length ≤ sizeLine := by rw [← Paired.length rl]; exact z
  unfold storeAll
  simp only [List.forIn_cons, List.forIn_nil]
  refine wpAny_bind (wpAny_bind (wpAny_dictSet_heap (hsz := hz) (show X.A.units + 8 < cLine by omega) (is_of I2 dk) dd fun h' dd' hs' => wpAny_pure (wpAny_pure ⟨.ref s.heap.objs.size, _, sd_put I2 e rl hm (Nat.lt_of_lt_of_le (Nat.zero_lt_one) (by decide)) r2 (fun z => nomatch z) dd' hs', rfl, q2⟩)))
end
end
end L2

set_option Elab.async false
set_option linter.all false
set_option maxRecDepth 100000
set_option maxHeartbeats 4000000
namespace L2
open PySem PySem.Spec PyProof.Rows

structure RoomH (k : Nat) (A : Around) : Prop where
  dp : A.depth + 3 * k + 5 < recursionLimit
  un : A.units + 16 * k + 200 < cLine
theorem Room.hd' {k j : Nat} {A : Around} (r : Room k A) (h : j ≤ k) : RoomH j A := ⟨by have := r.dp; omega, by have := r.un; omega⟩
theorem Room.hdm {k j : Nat} {A : Around} (r : Room k A) {v : Option Value} (h : j ≤ k) : RoomH j (A.mark v) := ⟨by have := r.dp; show A.depth + 3 * j + 5 < _; omega, by have := r.un; show A.units + 16 * j + 200 < _; omega⟩
theorem RoomH.units {k : Nat} {A : Around} (r : RoomH k A) : A.units + 64 < cLine := by have := r.un; omega
abbrev Cx.dim (X : Cx) : Cx := { X with calm := false }
structure FnOkH (P : Program) (w : World) (K : PySem.W.Frag) (mg : Str → Option Value) (base : Heap) (k : Nat) (f : Addr) (fd : FuncData) (ps : List Str) (sp : Sp) : Prop where
  len : ∀ vs H Q E, sp vs H Q E → vs.length = ps.length
  run : ∀ (A : Around) (outer : List Env) (s : Shared) (H : Hp) (args : Args) (us : List Value) (vs : List V) (Q : VK) (E : XK), RoomH k A → Env0 P w K mg base A outer s H → BindsTo s fd args (ps.zip us) → Vals vs us → sp vs H Q E →
    codeAny (model P w) A (.call (.ref f) args) (CR CX0 outer P w H s Q E) s
section
variable {P : Program} {w : World} {K : PySem.W.Frag} {mg : Str → Option Value} {base : Heap}
theorem Fun.okH {x qual : Str} {st : Stmt} {f : Addr} {fd : FuncData} {N ps : List Str} {k : Nat} {sp : Sp} (F : Fun K x qual st f fd) (S : FnScope N ps (defScope st)) (len : ∀ vs H Q E, sp vs H Q E → vs.length = ps.length)
    (hbody : ∀ (cdv : Value) (A : Around) (outer : List Env) (s : Shared) (H : Hp) (vs : List V) (Q : VK) (E : XK), RoomH k (A.deeper (envOfC qual (defScope st) s.heap.objs.size f cdv)) → sp vs H Q E →
      ∃ t, PSs (cxOf CX0 P w K mg base N qual (defScope st) f cdv A outer s H E).dim.nox (defBody st) t ∧ t { nx := fun _ H' => Q .non H', rt := Q } (start N vs) H) : FnOkH P w K mg base (k + 1) f fd ps sp := by
  obtain ⟨oc, od, kV, doc, pm, an, cdv, ct, osl, rfl, lk, hcd⟩ := F.ex
  refine ⟨len, fun A outer s H args us vs Q E hr e0 hb r hsp => ?_⟩
  have KX : K.In s.heap := e0.mod.kin.keeps fun b o e => (e0.bs b o e).1
  have hr' : RoomH k (A.deeper (envOfC qual (defScope st) s.heap.objs.size f cdv)) := ⟨by have := hr.dp; show A.depth + 1 + 3 * k + 5 < _; omega, by have := hr.un; show A.units + 3 + 16 * k + 200 < _; omega⟩
  obtain ⟨t, ht, hq⟩ := hbody cdv A outer s H vs Q E hr' hsp
  refine codeAny_call_function (by have := hr.dp; omega) (KX _ _ lk) rfl S.co S.gen rfl (PySem.W.codeRec_of KX hcd) (hb _ _ _ _ ?_)
  refine wpAny_newFunctionEnv_cells S.kind (fun ⟨n, v⟩ hy => ?_) fun env he s1 x => ?_
  · rcases S.par n (List.of_mem_zip hy).1 with q | q
    · exact .inl q
    · exact .inr ⟨q, PySem.W.cellsFrom_some _ _ _ (.inl q)⟩
  subst he
  refine ⟨(e0.mod.nolimit.keeps fun b o e => (e0.bs b o e).1).keeps x.toInCall.keep, codeAny_func ?_⟩
  -- the entry, as if nothing were handled
  have e1 : Env0 P w K mg base { A with handled := none } outer s H := ⟨e0.frames, e0.mod, e0.bs, e0.bsz, e0.funs, e0.frf, e0.hok, e0.bare⟩
  have J := inv_start (CX := CX0) (qual := qual) (f := f) (cd := cdv) (E := E) S rfl e1 (len _ _ _ _ hsp) r x
  have I : Inv (cxOf CX0 P w K mg base N qual (defScope st) f cdv A outer s H E).dim [] (start N vs) H s1 :=
    ⟨⟨J.ok.mod, J.ok.kind, J.ok.glob, J.ok.blt, J.ok.above, J.ok.inj, J.ok.has, J.ok.cab, fun z => Bool.noConfusion z, Around.frames_deeper e0.frames, J.ok.stk, J.ok.exf, J.ok.bs, J.ok.bsz, J.ok.noex, J.ok.exfs, J.ok.funs, J.ok.frf⟩, J.os, J.bare, J.base, J.loc, J.cell, J.free, J.freeC, J.pin, J.hok, J.len⟩
  refine wpAny_mono (ht.nox [] s1 (start N vs) H _ I hq) (fun fl s' hs => ?_) fun e s' hs => hs
  cases fl with
  | ret u =>
    obtain ⟨v, σ', H', J, rv, q⟩ := hs
    exact ⟨v, H', J.os, J.bare, J.base, J.hok, rv, q⟩
  | next =>
    obtain ⟨σ', H', J, q⟩ := hs
    exact ⟨V.non, H', J.os, J.bare, J.base, J.hok, rfl, q⟩
  | brk =>
    obtain ⟨_, _, _, q⟩ := hs
    exact False.elim q
  | cont =>
    obtain ⟨_, _, _, q⟩ := hs
    exact False.elim q
end
section
variable {X : Cx} {k : Nat} {f : Addr} {fd : FuncData} {ps : List Str} {sp : Sp} {x : Str} {st : Stmt} {p pos : Pos} {e : Expr} {es : List Expr} {t : TA}

theorem callH (D : DefOk X.K X.mg x st ps f fd) (G : FnOkH X.prog X.w X.K X.mg X.base k f fd ps sp) (hr : RoomH k X.A) (ha : PA X (e :: es) t) (hg : Gl X x := by rfl)
    (hdb : (x == ("__debug__" : Str)) = false := by decide) (he : starEach (e :: es) X.env = (false, eval e X.env) :: starEach es X.env := by rfl) (hpl : (backTo pos (starEach es X.env)).any (·.1) = false := by rfl) :
    PE X (.Call (.Name x p) (e :: es) [] pos) (tCall sp [] E0 t) := by
  intro pins s σ H Q I h
  refine wpAny_Call_Name_kw (ld_glob I hg D.g ?_ hdb)
  refine PySem.W.callWith_K (h₀ := X.base) I.ok.mod.kin D.F.kp (thn (ha pos pins s σ H _ I h) fun us s1 ⟨vs, H1, I1, r, q⟩ => ⟨I1.kIn, ?_⟩) he hpl
  have q : sp vs H1 Q E0 := by have q : sp (vs ++ []) H1 Q E0 := q; rwa [List.append_nil] at q
  have hl : us.length = ps.length := by rw [← r.length]; exact G.len _ _ _ _ q
  have hb : BindsTo s1 fd ⟨us, []⟩ (ps.zip us) := by
    have := D.b s1 us I1.kIn (by rw [List.append_nil]; exact hl)
    rwa [List.append_nil] at this
  refine wpAny_call (codeAny_mono (G.run X.A X.stack s1 H1 ⟨us, []⟩ us vs Q _ hr I1.env0 hb r q) fun rr s' hq => ?_)
  cases rr with
  | error ev => exact False.elim hq
  | ok fl =>
    cases fl with
    | ret u => exact I1.after hq
    | next => exact False.elim hq
    | brk => exact False.elim hq
    | cont => exact False.elim hq
end
end L2

set_option Elab.async false
set_option linter.all false
set_option maxRecDepth 100000
set_option maxHeartbeats 4000000
namespace K21
open PySem L2
abbrev wide : Int := 281474976710656
def bw (s : Str) (a b : Int) : Int := if s = "&" then Builtin.bitAnd a b else if s = "|" then Builtin.bitOr a b else Builtin.bitXor a b
def valOf (s : Str) (a b : Int) : Int :=
  if s = "+" then (a + b) % wide else if s = "-" then (a - b) % wide else if s = "*" then (a * b) % wide else if s = "/" then (if b = 0 then 0 else a / b)
  else if s = "<" then (if a < b then 1 else 0) else if s = "=" then (if a = b then 1 else 0) else bw s a b
end K21

set_option Elab.async false
set_option linter.all false
set_option maxRecDepth 100000
set_option maxHeartbeats 4000000
namespace Rk2
open PySem L2 K21

inductive Tr where
  | box (k : Int) : Tr
  | num (v : Int) : Tr
  | op (s : Str) (l r : Tr) : Tr
  deriving DecidableEq
def lvs : Tr → List (Bool × Int)
  | .box k => [(true, k)]
  | .num v => [(false, v)]
  | .op _ l r => lvs l ++ lvs r
def dp : Tr → Nat
  | .box _ => 0
  | .num _ => 0
  | .op _ l r => max (dp l) (dp r) + 1
def RAt (H : Hp) : Tr → V → Prop
  | .box k, v => ∃ p, v = .ref p ∧ H p = some (.tup [.str "box", .int k])
  | .num n, v => ∃ p, v = .ref p ∧ H p = some (.tup [.str "num", .int n])
  | .op s l r, v => ∃ p x y, v = .ref p ∧ H p = some (.tup [.str s, x, y]) ∧ ¬ s = "box" ∧ ¬ s = "num" ∧ RAt H l x ∧ RAt H r y
theorem RAt.mono {H H' : Hp} (e : Same H H') : ∀ {t : Tr} {v : V}, RAt H t v → RAt H' t v
  | .box k, v, h => let ⟨p, h1, h2⟩ := h; ⟨p, h1, e _ _ h2⟩
  | .num n, v, h => let ⟨p, h1, h2⟩ := h; ⟨p, h1, e _ _ h2⟩
  | .op s l r, v, h => let ⟨p, x, y, h1, h2, h3, h4, h5, h6⟩ := h; ⟨p, x, y, h1, e _ _ h2, h3, h4, RAt.mono e h5, RAt.mono e h6⟩
theorem tup_lst {H : Hp} {a q : Addr} {xs l : List V} {o : HO} (h : H a = some (.tup xs)) (hq : H q = some (.lst l)) : (upd H q o) a = some (.tup xs) := by
  rw [upd_ne (ne_of h hq (by intro z; cases z))]
  exact h
theorem RAt.lst {H : Hp} {q : Addr} {l : List V} {o : HO} (hq : H q = some (.lst l)) : ∀ {t : Tr} {v : V}, RAt H t v → RAt (upd H q o) t v
  | .box k, v, h => let ⟨p, h1, h2⟩ := h; ⟨p, h1, tup_lst h2 hq⟩
  | .num n, v, h => let ⟨p, h1, h2⟩ := h; ⟨p, h1, tup_lst h2 hq⟩
  | .op s l r, v, h => let ⟨p, x, y, h1, h2, h3, h4, h5, h6⟩ := h; ⟨p, x, y, h1, tup_lst h2 hq, h3, h4, RAt.lst hq h5, RAt.lst hq h6⟩
theorem RAt.upd {H : Hp} {q : Addr} {o o' : HO} (hq : H q = some o') (hn : ∀ xs, o' ≠ .tup xs) : ∀ {t : Tr} {v : V}, RAt H t v → RAt (upd H q o) t v
  | .box k, v, h => let ⟨p, h1, h2⟩ := h; ⟨p, h1, by rw [upd_ne (ne_of h2 hq (fun z => hn _ z.symm))]; exact h2⟩
  | .num n, v, h => let ⟨p, h1, h2⟩ := h; ⟨p, h1, by rw [upd_ne (ne_of h2 hq (fun z => hn _ z.symm))]; exact h2⟩
  | .op s l r, v, h => let ⟨p, x, y, h1, h2, h3, h4, h5, h6⟩ := h; ⟨p, x, y, h1, by rw [upd_ne (ne_of h2 hq (fun z => hn _ z.symm))]; exact h2, h3, h4, RAt.upd hq hn h5, RAt.upd hq hn h6⟩

def Ps {α : Type} (R : α → V → Prop) : List V → List α → Prop
  | [], [] => True
  | v :: us, t :: ts => R t v ∧ Ps R us ts
  | _, _ => False
variable {α : Type} {R R' : α → V → Prop}
theorem Ps.imp (f : ∀ t v, R t v → R' t v) : ∀ {us : List V} {ts : List α}, Ps R us ts → Ps R' us ts
  | [], [], _ => trivial
  | v :: us, t :: ts, h => ⟨f _ _ h.1, Ps.imp f h.2⟩
  | [], _ :: _, h => h.elim
  | _ :: _, [], h => h.elim
theorem Ps.len : ∀ {us : List V} {ts : List α}, Ps R us ts → us.length = ts.length
  | [], [], _ => rfl
  | v :: us, t :: ts, h => by rw [List.length_cons, List.length_cons, Ps.len h.2]
  | [], _ :: _, h => h.elim
  | _ :: _, [], h => h.elim
theorem Ps.app : ∀ {us us' : List V} {ts ts' : List α}, Ps R us ts → Ps R us' ts' → Ps R (us ++ us') (ts ++ ts')
  | [], _, [], _, _, h => h
  | v :: us, _, t :: ts, _, h, h' => ⟨h.1, Ps.app h.2 h'⟩
  | [], _, _ :: _, _, h, _ => h.elim
  | _ :: _, _, [], _, h, _ => h.elim
theorem Ps.take : ∀ {us : List V} {ts : List α} (n : Nat), Ps R us ts → Ps R (us.take n) (ts.take n)
  | _, _, 0, _ => by simp [Ps]
  | [], [], n + 1, _ => trivial
  | v :: us, t :: ts, n + 1, h => ⟨h.1, Ps.take n h.2⟩
  | [], _ :: _, _ + 1, h => h.elim
  | _ :: _, [], _ + 1, h => h.elim
theorem Ps.drop : ∀ {us : List V} {ts : List α} (n : Nat), Ps R us ts → Ps R (us.drop n) (ts.drop n)
  | _, _, 0, h => h
  | [], [], n + 1, _ => trivial
  | v :: us, t :: ts, n + 1, h => Ps.drop n h.2
  | [], _ :: _, _ + 1, h => h.elim
  | _ :: _, [], _ + 1, h => h.elim
theorem Ps.at : ∀ {us : List V} {ts : List α} {n : Nat}, Ps R us ts → n < ts.length → ∃ u t, us[n]? = some u ∧ ts[n]? = some t ∧ R t u
  | v :: us, t :: ts, 0, h, _ => ⟨v, t, rfl, rfl, h.1⟩
  | v :: us, t :: ts, n + 1, h, hn => by
    obtain ⟨u, t', h1, h2, h3⟩ := Ps.at (n := n) h.2 (by simpa using hn)
    exact ⟨u, t', by simpa using h1, by simpa using h2, h3⟩
  | [], [], _, _, hn => absurd hn (Nat.not_lt_zero _)
  | [], _ :: _, _, h, _ => h.elim
  | _ :: _, [], _, h, _ => h.elim
def all (ts : List Tr) : List (Bool × Int) := (ts.map lvs).flatten
def pairD (s : Str) (k : Int) : PyData := .tuple [.str s, .int k]
theorem datV_pair {K : PySem.W.Frag} {H : Hp} {p : Addr} {s : Str} {k : Int} (h : SqT K H p [.str s, .int k]) : DatV K H (pairD s k) (.ref p) := by
  unfold pairD DatV
  refine ⟨p, _, rfl, h, ?_⟩
  unfold DatAll
  refine ⟨_, _, rfl, (by unfold DatV; rfl), ?_⟩
  unfold DatAll
  refine ⟨_, _, rfl, (by unfold DatV; rfl), ?_⟩
  unfold DatAll
  rfl
theorem RAt.head {H : Hp} {tr : Tr} {v : V} (h : RAt H tr v) : ∃ p hd rest, v = .ref p ∧ H p = some (.tup (.str hd :: rest)) ∧ (hd = "num" → ∃ k, tr = .num k ∧ rest = [.int k]) ∧ (¬ hd = "num" → ∀ k, tr ≠ .num k) := by
  cases tr with
  | box k =>
    obtain ⟨p, rfl, e⟩ := h
    exact ⟨p, _, _, rfl, e, fun z => absurd z (by decide +kernel), fun _ k z => by cases z⟩
  | num k =>
    obtain ⟨p, rfl, e⟩ := h
    exact ⟨p, _, _, rfl, e, fun _ => ⟨k, rfl, rfl⟩, fun z => absurd rfl z⟩
  | op s l r =>
    obtain ⟨p, x, y, rfl, e, n1, n2, _, _⟩ := h
    exact ⟨p, _, _, rfl, e, fun z => absurd z n2, fun _ k z => by cases z⟩
def tog (s : Str) : Tr → Tr → Tr
  | .num x, .num y => .num (valOf s x y)
  | a, b => .op s a b
def okl (l : List (Bool × Int)) : Prop := ∀ v, (false, v) ∈ l → 0 ≤ v ∧ v < wide
theorem vq {Q : VK} {H : Hp} {x y : V} (h : x = y) (q : Q y H) : Q x H := by subst h; exact q
theorem le0 : 0 ≤ sizeLine := by decide
theorem le1 : 1 ≤ sizeLine := by decide
theorem le2 : 2 ≤ sizeLine := by decide
theorem le3 : 3 ≤ sizeLine := by decide
theorem le4 : 4 ≤ sizeLine := by decide
theorem lt_line {n : Nat} (h : n < 1000000) : n ≤ sizeLine := by
  have : (1000000 : Nat) < sizeLine := by decide
  omega
theorem lt_line' {n : Nat} (h : n < 1000000) : n < sizeLine := by
  have : (1000000 : Nat) < sizeLine := by decide
  omega
theorem at0 {x : V} {r : List V} : atI (x :: r) 0 = some x := by
  unfold atI ixN
  rw [if_pos (by decide), if_pos (by simp)]
  rfl
theorem ok_box : PyData.strOk "box" = true := by decide +kernel
theorem ok_num : PyData.strOk "num" = true := by decide +kernel
def PAt (H : Hp) (t : Tr × Int × Int) (v : V) : Prop := ∃ p x, v = .ref p ∧ H p = some (.tup [x, .int t.2.1, .int t.2.2]) ∧ RAt H t.1 x
theorem PAt.mono {H H' : Hp} {t : Tr × Int × Int} {v : V} (h : PAt H t v) (e : Same H H') : PAt H' t v := let ⟨p, x, h1, h2, h3⟩ := h; ⟨p, x, h1, e _ _ h2, h3.mono e⟩
theorem PAt.upd {H : Hp} {q : Addr} {o o' : HO} {t : Tr × Int × Int} {v : V} (h : PAt H t v) (hq : H q = some o') (hn : ∀ xs, o' ≠ .tup xs) : PAt (upd H q o) t v :=
  let ⟨p, x, h1, h2, h3⟩ := h; ⟨p, x, h1, by rw [upd_ne (ne_of h2 hq (fun z => hn _ z.symm))]; exact h2, h3.upd hq hn⟩
end Rk2

set_option Elab.async false
set_option linter.all false
set_option maxRecDepth 100000
set_option maxHeartbeats 4000000
namespace Rk2
open PySem L2 K21

def pt (g : Int → Option Tr) : Tr → Tr
  | .num v => .num v
  | .box k => (g k).getD (.box k)
  | .op s l r => tog s (pt g l) (pt g r)
def NV (H : Hp) (kvs : List (Key × V)) (g : Int → Option Tr) : Prop := ∀ k, match g k with | none => valV kvs (Sum.inl k : Key) = none | some t => ∃ x, valV kvs (Sum.inl k : Key) = some x ∧ RAt H t x
theorem NV.no {H : Hp} {kvs : List (Key × V)} {g : Int → Option Tr} (h : NV H kvs g) {k : Int} (e : g k = none) : valV kvs (Sum.inl k : Key) = none := by
  have := h k
  rw [e] at this
  exact this
theorem NV.yes {H : Hp} {kvs : List (Key × V)} {g : Int → Option Tr} (h : NV H kvs g) {k : Int} {t : Tr} (e : g k = some t) : ∃ x, valV kvs (Sum.inl k : Key) = some x ∧ RAt H t x := by
  have := h k
  rw [e] at this
  exact this
theorem NV.of {H : Hp} {kvs : List (Key × V)} {g : Int → Option Tr} (h1 : ∀ k, g k = none → valV kvs (Sum.inl k : Key) = none) (h2 : ∀ k t, g k = some t → ∃ x, valV kvs (Sum.inl k : Key) = some x ∧ RAt H t x) : NV H kvs g := fun k => by
  cases e : g k with
  | none => exact h1 k e
  | some t => exact h2 k t e
theorem NV.mono {H H' : Hp} {kvs : List (Key × V)} {g : Int → Option Tr} (h : NV H kvs g) (s : Same H H') : NV H' kvs g :=
  .of (fun k e => h.no e) fun k t e => let ⟨x, h1, h2⟩ := h.yes e; ⟨x, h1, h2.mono s⟩
theorem NV.upd {H : Hp} {q : Addr} {o o' : HO} {kvs : List (Key × V)} {g : Int → Option Tr} (h : NV H kvs g) (hq : H q = some o') (hn : ∀ xs, o' ≠ .tup xs) : NV (upd H q o) kvs g :=
  .of (fun k e => h.no e) fun k t e => let ⟨x, h1, h2⟩ := h.yes e; ⟨x, h1, h2.upd hq hn⟩
def setG (g : Int → Option Tr) (k : Int) (t : Tr) : Int → Option Tr := fun j => if j = k then some t else g j
theorem NV.put {H : Hp} {kvs : List (Key × V)} {g : Int → Option Tr} (h : NV H kvs g) {k : Int} {t : Tr} {x : V} (r : RAt H t x) : NV H (putK kvs (Sum.inl k : Key) x) (setG g k t) := by
  refine .of (fun j e => ?_) fun j t' e => ?_
  · unfold setG at e
    split at e
    · cases e
    · rename_i hj
      rw [valV_put, if_neg (fun z => hj (Sum.inl.inj z))]
      exact h.no e
  · unfold setG at e
    split at e
    · rename_i hj
      cases e
      exact ⟨x, by rw [valV_put, if_pos (by rw [hj])], r⟩
    · rename_i hj
      obtain ⟨y, h1, h2⟩ := h.yes e
      exact ⟨y, by rw [valV_put, if_neg (fun z => hj (Sum.inl.inj z))]; exact h1, h2⟩
end Rk2

set_option Elab.async false
set_option linter.all false
set_option maxRecDepth 100000
set_option maxHeartbeats 4000000
namespace Rk2
open PySem L2 K21

theorem RAt.self {H : Hp} {t : Tr} {v : V} (h : RAt H t v) : selfV v = true := by
  obtain ⟨p, _, _, rfl, _⟩ := h.head
  rfl

def QAt (H : Hp) (t : Tr × Tr) (v : V) : Prop := ∃ p x y, v = .ref p ∧ H p = some (.tup [x, y]) ∧ RAt H t.1 x ∧ RAt H t.2 y
theorem QAt.mono {H H' : Hp} {t : Tr × Tr} {v : V} (h : QAt H t v) (e : Same H H') : QAt H' t v := let ⟨p, x, y, h1, h2, h3, h4⟩ := h; ⟨p, x, y, h1, e _ _ h2, h3.mono e, h4.mono e⟩
theorem QAt.upd {H : Hp} {q : Addr} {o o' : HO} {t : Tr × Tr} {v : V} (h : QAt H t v) (hq : H q = some o') (hn : ∀ xs, o' ≠ .tup xs) : QAt (upd H q o) t v :=
  let ⟨p, x, y, h1, h2, h3, h4⟩ := h; ⟨p, x, y, h1, by rw [upd_ne (ne_of h2 hq (fun z => hn _ z.symm))]; exact h2, h3.upd hq hn, h4.upd hq hn⟩
end Rk2

set_option Elab.async false
set_option linter.all false
set_option maxRecDepth 100000
set_option maxHeartbeats 4000000
namespace K12
open PySem L2

def step (acc : List Str) (s : Str) : List Str := if s ∈ acc then acc else acc ++ [s]
def onceL (ss : List Str) : List Str := ss.foldl step []
def strsOf (as : List V) : List Str := as.filterMap fun v => match v with | .str s => some s | _ => none
theorem strsOf_append (a b : List V) : strsOf (a ++ b) = strsOf a ++ strsOf b := List.filterMap_append ..
theorem strsOf_int (i : Int) : strsOf [.int i] = [] := rfl
theorem step_sub (acc : List Str) (s : Str) : ∀ x ∈ acc, x ∈ step acc s := fun x hx => by
  unfold step
  split
  · exact hx
  · exact List.mem_append_left _ hx
theorem step_has (acc : List Str) (s : Str) : s ∈ step acc s := by
  unfold step
  split
  · assumption
  · exact List.mem_append_right _ (by simp)
theorem fold_sub : ∀ (ss acc : List Str), ∀ x ∈ acc, x ∈ ss.foldl step acc
  | [], acc, x, hx => hx
  | s :: ss, acc, x, hx => fold_sub ss _ x (step_sub acc s x hx)
theorem fold_has : ∀ (ss acc : List Str), ∀ x ∈ ss, x ∈ ss.foldl step acc
  | s :: ss, acc, x, hx => by
    rcases List.mem_cons.mp hx with e | e
    · subst e
      exact fold_sub ss _ _ (step_has acc _)
    · exact fold_has ss _ x e
theorem fold_once : ∀ (B : List Str) (acc C : List Str), (B.foldl step C).foldl step acc = B.foldl step (C.foldl step acc)
  | [], acc, C => rfl
  | s :: B, acc, C => by
    rw [List.foldl_cons, fold_once B acc (step C s), List.foldl_cons]
    congr 1
    unfold step
    by_cases h : s ∈ C
    · rw [if_pos h]
      have h2 : s ∈ C.foldl step acc := fold_has C acc s h
      have h2' : s ∈ List.foldl (fun acc s => if s ∈ acc then acc else acc ++ [s]) acc C := h2
      rw [if_pos h2']
    · rw [if_neg h, List.foldl_append]
      rfl
theorem onceL_mid (A B C : List Str) : onceL (A ++ onceL B ++ C) = onceL (A ++ B ++ C) := by
  unfold onceL
  rw [List.foldl_append, List.foldl_append, List.foldl_append, List.foldl_append]
  have e := fold_once B (A.foldl step []) []
  rw [e]
  rfl
theorem step_len (acc : List Str) (s : Str) : (step acc s).length ≤ acc.length + 1 := by
  unfold step
  split
  · omega
  · simp
theorem onceL_len (ss : List Str) : (onceL ss).length ≤ ss.length := by
  have key : ∀ (ss acc : List Str), (ss.foldl step acc).length ≤ acc.length + ss.length := by
    intro ss
    induction ss with
    | nil => intro acc; simp
    | cons s ss ih =>
      intro acc
      have h1 := ih (step acc s)
      have h2 := step_len acc s
      rw [List.foldl_cons]
      simp only [List.length_cons]
      omega
  have := key ss []
  unfold onceL
  simpa using this

def tru (ss : List Str) : List (Key × V) := ss.map fun s => (Sum.inr s, V.bl true)
theorem tru_put (acc : List Str) (s : Str) : putK (tru acc) (Sum.inr s) (.bl true) = tru (step acc s) := by
  unfold putK step
  have e : ((tru acc).any fun kv => decide (kv.1 = (Sum.inr s : Key))) = decide (s ∈ acc) := by
    unfold tru
    rw [List.any_map]
    rw [Bool.eq_iff_iff, List.any_eq_true]
    simp only [Function.comp, decide_eq_true_eq]
    constructor
    · rintro ⟨x, hx, h⟩
      have : x = s := Sum.inr.inj h
      rw [← this]
      exact hx
    · intro h
      exact ⟨s, h, rfl⟩
  rw [e]
  by_cases h : s ∈ acc
  · rw [decide_eq_true h, if_pos rfl, if_pos h]
    unfold tru
    rw [List.map_map]
    apply List.map_congr_left
    intro x _
    show (if (Sum.inr x : Key) = Sum.inr s then ((Sum.inr x : Key), V.bl true) else (Sum.inr x, V.bl true)) = _
    split <;> rfl
  · rw [decide_eq_false h, if_neg (by decide), if_neg h]
    unfold tru
    rw [List.map_append]
    rfl
theorem tru_fold : ∀ (ss acc : List Str), (tru ss).foldl (fun acc kv => putK acc kv.1 kv.2) (tru acc) = tru (ss.foldl step acc)
  | [], acc => rfl
  | s :: ss, acc => by
    show (tru ss).foldl _ (putK (tru acc) (Sum.inr s) (.bl true)) = _
    rw [tru_put]
    exact tru_fold ss (step acc s)
theorem tru_once (ss : List Str) : (tru ss).foldl (fun acc kv => putK acc kv.1 kv.2) [] = tru (onceL ss) := tru_fold ss []
theorem tru_keys (ss : List Str) : ((tru ss).map fun kv => kV kv.1) = ss.map V.str := by
  unfold tru
  rw [List.map_map]
  rfl

theorem sqT_lst {K : PySem.W.Frag} {H : Hp} {a q : Addr} {xs l l' : List V} (h : SqT K H a xs) (hq : H q = some (.lst l)) : SqT K (upd H q (.lst l')) a xs := by
  rcases h with (h | ⟨o, h⟩) | h
  · exact .inl (.inl (by rw [upd_ne (ne_of h hq (by intro z; cases z))]; exact h))
  · exact .inl (.inr ⟨o, by rw [upd_ne (ne_of h hq (by intro z; cases z))]; exact h⟩)
  · exact .inr h

def Nm (s : Str) : Prop := s.length ≤ 1000 ∧ PyData.strOk s = true
end K12

namespace K12
open PySem L2 PySem.W PyProof.Rows

inductive RowS (K : PySem.W.Frag) (H : Hp) : List V → Option Str → List V → Prop
  | copy (x : Str) (a : V) : RowS K H [.str "copy", .str x, a] (some x) [a]
  | op (x s : Str) (a b : V) : RowS K H [.str "op", .str x, .str s, a, b] (some x) [a, b]
  | new (x : Str) : RowS K H [.str "new", .str x] (some x) []
  | get (x : Str) (a : V) (f : Str) : RowS K H [.str "get", .str x, a, .str f] (some x) [a]
  | put (a : V) (f : Str) (b : V) : RowS K H [.str "put", a, .str f, b] none [a, b]
  | call (x f : Str) (p : Addr) (as : List V) : SqT K H p as → RowS K H [.str "call", .str x, .str f, .ref p] (some x) as
  | out (a : V) : RowS K H [.str "out", a] none [a]
  | back (a : V) : RowS K H [.str "back", a] none [a]
  | ifs (a : V) : RowS K H [.str "if", a] none [a]
  | whl (a : V) : RowS K H [.str "while", a] none [a]
  | els : RowS K H [.str "else"] none []
  | fin : RowS K H [.str "end"] none []
theorem RowS.mono {K : PySem.W.Frag} {H H' : Hp} {xs : List V} {g : Option Str} {as : List V} (h : RowS K H xs g as) (e : Same H H') : RowS K H' xs g as := by
  cases h with
  | call x f p as hp => exact .call x f p as (e.tup hp)
  | copy x a => exact .copy x a
  | op x s a b => exact .op x s a b
  | new x => exact .new x
  | get x a f => exact .get x a f
  | put a f b => exact .put a f b
  | out a => exact .out a
  | back a => exact .back a
  | ifs a => exact .ifs a
  | whl a => exact .whl a
  | els => exact .els
  | fin => exact .fin
def tabl : List (Str × List V) := [("copy", [.int 2]), ("op", [.int 3, .int 4]), ("new", []), ("get", [.int 2]), ("put", [.int 1, .int 3]), ("out", [.int 1]), ("back", [.int 1]), ("if", [.int 1]), ("while", [.int 1]), ("else", []), ("end", [])]
def giving : List Str := ["copy", "op", "new", "get", "call"]
theorem row_places {K : PySem.W.Frag} {H : Hp} {xs : List V} {g : Option Str} {as : List V} (h : RowS K H xs g as) : ∃ kd : Str, atI xs 0 = some (.str kd) ∧
    ((kd = "call" ∧ ∃ p, atI xs 3 = some (.ref p) ∧ SqT K H p as) ∨ (kd ≠ "call" ∧ ∃ pl : List Int, KTD.datumAt kd tabl = some (pl.map V.int) ∧ pl.length = as.length ∧ ∀ (i : Nat) (a : V), as[i]? = some a → ∃ p, pl[i]? = some p ∧ atI xs p = some a)) := by
  cases h with
  | call x f p as hp => exact ⟨"call", rfl, .inl ⟨rfl, p, rfl, hp⟩⟩
  | copy x a => exact ⟨"copy", rfl, .inr ⟨by decide +kernel, [2], by decide +kernel, rfl, fun i a' e => by match i, e with | 0, e => exact ⟨2, rfl, e⟩⟩⟩
  | op x s a b => exact ⟨"op", rfl, .inr ⟨by decide +kernel, [3, 4], by decide +kernel, rfl, fun i a' e => by match i, e with | 0, e => exact ⟨3, rfl, e⟩ | 1, e => exact ⟨4, rfl, e⟩⟩⟩
  | new x => exact ⟨"new", rfl, .inr ⟨by decide +kernel, [], by decide +kernel, rfl, fun i a' e => by simp at e⟩⟩
  | get x a f => exact ⟨"get", rfl, .inr ⟨by decide +kernel, [2], by decide +kernel, rfl, fun i a' e => by match i, e with | 0, e => exact ⟨2, rfl, e⟩⟩⟩
  | put a f b => exact ⟨"put", rfl, .inr ⟨by decide +kernel, [1, 3], by decide +kernel, rfl, fun i a' e => by match i, e with | 0, e => exact ⟨1, rfl, e⟩ | 1, e => exact ⟨3, rfl, e⟩⟩⟩
  | out a => exact ⟨"out", rfl, .inr ⟨by decide +kernel, [1], by decide +kernel, rfl, fun i a' e => by match i, e with | 0, e => exact ⟨1, rfl, e⟩⟩⟩
  | back a => exact ⟨"back", rfl, .inr ⟨by decide +kernel, [1], by decide +kernel, rfl, fun i a' e => by match i, e with | 0, e => exact ⟨1, rfl, e⟩⟩⟩
  | ifs a => exact ⟨"if", rfl, .inr ⟨by decide +kernel, [1], by decide +kernel, rfl, fun i a' e => by match i, e with | 0, e => exact ⟨1, rfl, e⟩⟩⟩
  | whl a => exact ⟨"while", rfl, .inr ⟨by decide +kernel, [1], by decide +kernel, rfl, fun i a' e => by match i, e with | 0, e => exact ⟨1, rfl, e⟩⟩⟩
  | els => exact ⟨"else", rfl, .inr ⟨by decide +kernel, [], by decide +kernel, rfl, fun i a' e => by simp at e⟩⟩
  | fin => exact ⟨"end", rfl, .inr ⟨by decide +kernel, [], by decide +kernel, rfl, fun i a' e => by simp at e⟩⟩
def xv : Option Str → V
  | some x => .str x
  | none => .non
theorem row_gives {K : PySem.W.Frag} {H : Hp} {xs : List V} {g : Option Str} {as : List V} (h : RowS K H xs g as) : ∃ kd : Str, atI xs 0 = some (.str kd) ∧
    ((∃ x, g = some x ∧ inV (.str kd) (giving.map V.str) = true ∧ atI xs 1 = some (.str x)) ∨ (g = none ∧ inV (.str kd) (giving.map V.str) = false)) := by
  cases h with
  | call x f p as hp => exact ⟨"call", rfl, .inl ⟨x, rfl, by decide +kernel, rfl⟩⟩
  | copy x a => exact ⟨"copy", rfl, .inl ⟨x, rfl, by decide +kernel, rfl⟩⟩
  | op x s a b => exact ⟨"op", rfl, .inl ⟨x, rfl, by decide +kernel, rfl⟩⟩
  | new x => exact ⟨"new", rfl, .inl ⟨x, rfl, by decide +kernel, rfl⟩⟩
  | get x a f => exact ⟨"get", rfl, .inl ⟨x, rfl, by decide +kernel, rfl⟩⟩
  | put a f b => exact ⟨"put", rfl, .inr ⟨rfl, by decide +kernel⟩⟩
  | out a => exact ⟨"out", rfl, .inr ⟨rfl, by decide +kernel⟩⟩
  | back a => exact ⟨"back", rfl, .inr ⟨rfl, by decide +kernel⟩⟩
  | ifs a => exact ⟨"if", rfl, .inr ⟨rfl, by decide +kernel⟩⟩
  | whl a => exact ⟨"while", rfl, .inr ⟨rfl, by decide +kernel⟩⟩
  | els => exact ⟨"else", rfl, .inr ⟨rfl, by decide +kernel⟩⟩
  | fin => exact ⟨"end", rfl, .inr ⟨rfl, by decide +kernel⟩⟩
theorem giving_flat : (giving.map V.str).all flatV = true := by decide +kernel

def Atom (v : V) : Prop := (∃ s, v = .str s ∧ Nm s) ∨ ∃ i, v = .int i
structure RowD where
  r : Addr
  e : Addr
  a : Addr
  gx : Option Str
  as : List V
structure RowAt (K : PySem.W.Frag) (H : Hp) (d : RowD) : Prop where
  row : ∃ xs, SqT K H d.r xs ∧ RowS K H xs d.gx d.as
  ats : ∀ v ∈ d.as, Atom v
  len : d.as.length ≤ 10
  nm : ∀ x, d.gx = some x → Nm x
theorem RowAt.mono {K : PySem.W.Frag} {H H' : Hp} {d : RowD} (h : RowAt K H d) (e : Same H H') : RowAt K H' d :=
  ⟨let ⟨xs, h1, h2⟩ := h.row; ⟨xs, e.tup h1, h2.mono e⟩, h.ats, h.len, h.nm⟩
structure FunAt (K : PySem.W.Frag) (H : Hp) (f : Addr) (ps : List Str) (ds : List RowD) : Prop where
  fn : ∃ n b p r, SqT K H f [n, b, .ref p, .ref r] ∧ SqT K H p (ps.map V.str) ∧ SqT K H r (ds.map fun d => V.ref d.r)
  rows : ∀ d ∈ ds, RowAt K H d
  pn : ∀ s ∈ ps, Nm s
  pl : ps.length ≤ 100
  dl : ds.length ≤ 100
theorem FunAt.mono {K : PySem.W.Frag} {H H' : Hp} {f : Addr} {ps : List Str} {ds : List RowD} (h : FunAt K H f ps ds) (e : Same H H') : FunAt K H' f ps ds :=
  ⟨let ⟨n, b, p, r, h1, h2, h3⟩ := h.fn; ⟨n, b, p, r, e.tup h1, e.tup h2, e.tup h3⟩, fun d hd => (h.rows d hd).mono e, h.pn, h.pl, h.dl⟩
structure Built (K : PySem.W.Frag) (H : Hp) (b f : Addr) (ps : List Str) (ds : List RowD) : Prop where
  fa : FunAt K H f ps ds
  ob : ∃ p r, H b = some (.lst [.ref f, .ref p, .ref r]) ∧ H p = some (.lst (ps.map V.str)) ∧ H r = some (.lst (ds.map fun d => V.ref d.e))
  ents : ∀ d ∈ ds, H d.e = some (.lst [.ref d.r, xv d.gx, .ref d.a]) ∧ H d.a = some (.lst d.as)
theorem Built.mono {K : PySem.W.Frag} {H H' : Hp} {b f : Addr} {ps : List Str} {ds : List RowD} (h : Built K H b f ps ds) (e : Same H H') : Built K H' b f ps ds :=
  ⟨h.fa.mono e, let ⟨p, r, h1, h2, h3⟩ := h.ob; ⟨p, r, e _ _ h1, e _ _ h2, e _ _ h3⟩, fun d hd => ⟨e _ _ (h.ents d hd).1, e _ _ (h.ents d hd).2⟩⟩
def rowStrs (d : RowD) : List Str := d.gx.toList ++ strsOf d.as
def allOf (ps : List Str) (ds : List RowD) : List Str := ps ++ ds.flatMap rowStrs
theorem strsOf_len (as : List V) : (strsOf as).length ≤ as.length := List.length_filterMap_le _ _
end K12

set_option Elab.async false
set_option linter.all false
set_option maxRecDepth 100000
set_option maxHeartbeats 4000000
namespace K13
open PySem L2

def isO (s : Str) : Bool := decide (s = "if") || decide (s = "while")
def isE (s : Str) : Bool := decide (s = "else") || decide (s = "end")
def push (st : List Nat) (i : Nat) (s : Str) : List Nat := if isO s = true then i :: st else if s = "end" then st.tail else st
def kd (ks : List Str) (i : Nat) : Str := ks.getD i ""
def stk (ks : List Str) : Nat → List Nat
  | 0 => []
  | i + 1 => push (stk ks i) i (kd ks i)
theorem stk_succ (ks : List Str) (i : Nat) : stk ks (i + 1) = push (stk ks i) i (kd ks i) := rfl
theorem stk_lt (ks : List Str) : ∀ i, ∀ x ∈ stk ks i, x < i ∧ isO (kd ks x) = true
  | 0, x, h => by cases h
  | i + 1, x, h => by
    rw [stk_succ] at h
    unfold push at h
    split at h
    · rcases List.mem_cons.mp h with e | e
      · subst e
        exact ⟨Nat.lt_succ_self _, by assumption⟩
      · have := stk_lt ks i x e
        exact ⟨by omega, this.2⟩
    · split at h
      · have := stk_lt ks i x (List.mem_of_mem_tail h)
        exact ⟨by omega, this.2⟩
      · have := stk_lt ks i x h
        exact ⟨by omega, this.2⟩
theorem isO_not_end {s : Str} (h : isO s = true) : ¬ s = "end" := by
  intro e
  subst e
  revert h
  decide +kernel
theorem isO_not_else {s : Str} (h : isO s = true) : ¬ s = "else" := by
  intro e
  subst e
  revert h
  decide +kernel
theorem end_not_O : isO ("end" : Str) = false := by decide +kernel
structure Wf (ks : List Str) : Prop where
  open_ : ∀ i, i < ks.length → isE (kd ks i) = true → stk ks i ≠ []
  els : ∀ i b r, i < ks.length → kd ks i = "else" → stk ks i = b :: r → kd ks b = "if"
  shut : stk ks ks.length = []
  last : ∀ i, i + 1 = ks.length → kd ks i = "back"
  pos : 0 < ks.length


def At (ks : List Str) (b j d : Nat) : Prop := ∃ pre, stk ks j = pre ++ b :: stk ks b ∧ pre.length + 1 = d
theorem at_start {ks : List Str} {b : Nat} (h : isO (kd ks b) = true) : At ks b (b + 1) 1 := ⟨[], by rw [stk_succ]; unfold push; rw [if_pos h]; rfl, rfl⟩
theorem at_open {ks : List Str} {b j d : Nat} (h : At ks b j d) (ho : isO (kd ks j) = true) : At ks b (j + 1) (d + 1) := by
  obtain ⟨pre, e, l⟩ := h
  exact ⟨j :: pre, by rw [stk_succ]; unfold push; rw [if_pos ho, e]; rfl, by simp [l]⟩
theorem at_end {ks : List Str} {b j d : Nat} (h : At ks b j (d + 1)) (hd : 0 < d) (he : kd ks j = "end") : At ks b (j + 1) d := by
  obtain ⟨pre, e, l⟩ := h
  cases pre with
  | nil => simp at l; omega
  | cons p pre =>
    refine ⟨pre, ?_, by simpa using l⟩
    rw [stk_succ]
    unfold push
    rw [he, if_neg (by rw [end_not_O]; decide), if_pos rfl, e]
    rfl
theorem at_other {ks : List Str} {b j d : Nat} (h : At ks b j d) (ho : ¬ isO (kd ks j) = true) (he : ¬ kd ks j = "end") : At ks b (j + 1) d := by
  obtain ⟨pre, e, l⟩ := h
  exact ⟨pre, by rw [stk_succ]; unfold push; rw [if_neg ho, if_neg he, e], l⟩
theorem at_one {ks : List Str} {b j : Nat} (h : At ks b j 1) : stk ks j = b :: stk ks b := by
  obtain ⟨pre, e, l⟩ := h
  cases pre with
  | nil => exact e
  | cons p pre => simp at l
theorem at_lt {ks : List Str} (w : Wf ks) {b j d : Nat} (h : At ks b j d) (hj : j ≤ ks.length) : j < ks.length := by
  rcases Nat.lt_or_ge j ks.length with q | q
  · exact q
  · have e : j = ks.length := by omega
    subst e
    obtain ⟨pre, e, _⟩ := h
    rw [w.shut] at e
    simp at e
theorem at_pos {ks : List Str} {b j d : Nat} (h : At ks b j d) : 0 < d := by
  obtain ⟨pre, _, l⟩ := h
  omega

def Ends (ks : List Str) (b e : Nat) : Prop := b < e ∧ e < ks.length ∧ kd ks e = "end" ∧ stk ks e = b :: stk ks b ∧ ∀ j, b < j → j ≤ e → ∃ d, At ks b j d
theorem ends_uniq {ks : List Str} {b e e' : Nat} (h : Ends ks b e) (h' : Ends ks b e') : e = e' := by
  have key : ∀ {e e' : Nat}, Ends ks b e → Ends ks b e' → ¬ e < e' := by
    intro e e' h h' hlt
    obtain ⟨h1, h2, h3, h4, h5⟩ := h
    obtain ⟨d, pre, q, _⟩ := h'.2.2.2.2 (e + 1) (by omega) hlt
    rw [stk_succ] at q
    unfold push at q
    rw [h3, if_neg (by rw [end_not_O]; decide), if_pos rfl, h4] at q
    have : (stk ks b).length = (pre ++ b :: stk ks b).length := by rw [← q]; rfl
    simp at this
    omega
  have a := key h h'
  have b := key h' h
  omega


theorem ends_from {ks : List Str} (w : Wf ks) {b : Nat} : ∀ (m j d : Nat), m = ks.length - j → j ≤ ks.length → b < j → (∀ i, b < i → i ≤ j → ∃ d, At ks b i d) → At ks b j d → ∃ e, j ≤ e ∧ Ends ks b e
  | 0, j, d, hm, hj, hb, hall, h => absurd (at_lt w h hj) (by omega)
  | m + 1, j, d, hm, hj, hb, hall, h => by
    have hlt := at_lt w h hj
    have go : ∀ d', At ks b (j + 1) d' → ∃ e, j ≤ e ∧ Ends ks b e := fun d' h' => by
      obtain ⟨e, he, q⟩ := ends_from w m (j + 1) d' (by omega) (by omega) (by omega) (fun i h1 h2 => by
        rcases Nat.lt_or_ge j i with z | z
        · have : i = j + 1 := by omega
          subst this
          exact ⟨d', h'⟩
        · exact hall i h1 z) h'
      exact ⟨e, by omega, q⟩
    by_cases ho : isO (kd ks j) = true
    · exact go _ (at_open h ho)
    by_cases he : kd ks j = "end"
    · have hp := at_pos h
      by_cases hd : d = 1
      · subst hd
        exact ⟨j, Nat.le_refl _, hb, hlt, he, at_one h, hall⟩
      · obtain ⟨d', rfl⟩ : ∃ d', d = d' + 1 := ⟨d - 1, by omega⟩
        exact go _ (at_end h (by omega) he)
    · exact go _ (at_other h ho he)
theorem ends_ex {ks : List Str} (w : Wf ks) {b : Nat} (hb : b < ks.length) (ho : isO (kd ks b) = true) : ∃ e, Ends ks b e := by
  obtain ⟨e, _, h⟩ := ends_from w (ks.length - (b + 1)) (b + 1) 1 rfl (by omega) (by omega) (fun i h1 h2 => by
    have : i = b + 1 := by omega
    subst this
    exact ⟨1, at_start ho⟩) (at_start ho)
  exact ⟨e, h⟩

def Hit (ks : List Str) (b k : Nat) : Prop := isE (kd ks k) = true ∧ (stk ks k).head? = some b
theorem hit_lt {ks : List Str} {b k : Nat} (h : Hit ks b k) : b < k ∧ isO (kd ks b) = true := stk_lt ks k b (List.mem_of_mem_head? h.2)
theorem hit_end {ks : List Str} {b e : Nat} (h : Ends ks b e) : Hit ks b e := by
  refine ⟨?_, ?_⟩
  · rw [h.2.2.1]; decide +kernel
  · rw [h.2.2.2.1]; rfl
theorem gone {ks : List Str} {b e : Nat} (h : Ends ks b e) : ∀ j, e < j → b ∉ stk ks j
  | 0, hj, _ => by omega
  | j + 1, hj, hm => by
    rcases Nat.lt_or_ge e j with q | q
    · have ih := gone h j q
      rw [stk_succ] at hm
      unfold push at hm
      split at hm
      · rcases List.mem_cons.mp hm with z | z
        · have := h.1
          omega
        · exact ih z
      · split at hm
        · exact ih (List.mem_of_mem_tail hm)
        · exact ih hm
    · have e1 : j = e := by omega
      subst e1
      rw [stk_succ] at hm
      unfold push at hm
      rw [h.2.2.1, if_neg (by rw [end_not_O]; decide), if_pos rfl, h.2.2.2.1] at hm
      have := (stk_lt ks b b hm).1
      omega
theorem hit_le {ks : List Str} {b e k : Nat} (h : Ends ks b e) (hk : Hit ks b k) : k ≤ e := by
  rcases Nat.lt_or_ge e k with q | q
  · exact absurd (List.mem_of_mem_head? hk.2) (gone h k q)
  · exact q
def one (ks : List Str) (i : Nat) : List (Nat × Nat) := if isE (kd ks i) = true then (match stk ks i with | [] => [] | b :: _ => [(i, b)]) else []
def prs (ks : List Str) : Nat → List (Nat × Nat)
  | 0 => []
  | i + 1 => prs ks i ++ one ks i
def lastOf (L : List (Nat × Nat)) (b : Nat) : Option Nat := L.foldl (fun acc p => if p.2 = b then some p.1 else acc) none
def firstOf (L : List (Nat × Nat)) (b : Nat) : Option Nat := L.foldl (fun acc p => if acc.isSome = true then acc else if p.2 = b then some p.1 else none) none
theorem one_cases (ks : List Str) (i : Nat) : (∃ b, one ks i = [(i, b)] ∧ Hit ks b i) ∨ (one ks i = [] ∧ ∀ b, ¬ Hit ks b i) := by
  unfold one Hit
  by_cases h : isE (kd ks i) = true
  · rw [if_pos h]
    cases q : stk ks i with
    | nil => exact .inr ⟨rfl, fun b z => by simp at z⟩
    | cons b r => exact .inl ⟨b, rfl, h, rfl⟩
  · rw [if_neg h]
    exact .inr ⟨rfl, fun b z => h z.1⟩
theorem lastOf_snoc (L : List (Nat × Nat)) (p : Nat × Nat) (b : Nat) : lastOf (L ++ [p]) b = if p.2 = b then some p.1 else lastOf L b := by unfold lastOf; rw [List.foldl_append]; rfl
theorem firstOf_snoc (L : List (Nat × Nat)) (p : Nat × Nat) (b : Nat) : firstOf (L ++ [p]) b = if (firstOf L b).isSome = true then firstOf L b else if p.2 = b then some p.1 else none := by unfold firstOf; rw [List.foldl_append]; rfl
theorem hit_inj {ks : List Str} {b b' k : Nat} (h : Hit ks b k) (h' : Hit ks b' k) : b = b' := by
  have := h.2.symm.trans h'.2
  simpa using this
theorem last_spec (ks : List Str) (b : Nat) : ∀ i, (∀ m, lastOf (prs ks i) b = some m → m < i ∧ Hit ks b m ∧ ∀ k, m < k → k < i → ¬ Hit ks b k) ∧ (lastOf (prs ks i) b = none → ∀ k, k < i → ¬ Hit ks b k)
  | 0 => ⟨fun m h => (by cases h), fun _ k hk => (by omega)⟩
  | i + 1 => by
    obtain ⟨ih1, ih2⟩ := last_spec ks b i
    show (∀ m, lastOf (prs ks i ++ one ks i) b = some m → _) ∧ (lastOf (prs ks i ++ one ks i) b = none → _)
    rcases one_cases ks i with ⟨b', e, hh⟩ | ⟨e, hn⟩
    · rw [e, lastOf_snoc]
      by_cases hb : b' = b
      · rw [if_pos hb]
        subst hb
        exact ⟨fun m h => by cases h; exact ⟨Nat.lt_succ_self _, hh, fun k h1 h2 => by omega⟩, fun h => by cases h⟩
      · rw [if_neg hb]
        refine ⟨fun m h => ?_, fun h k hk => ?_⟩
        · obtain ⟨h1, h2, h3⟩ := ih1 m h
          refine ⟨by omega, h2, fun k q1 q2 hk => ?_⟩
          rcases Nat.lt_or_ge k i with z | z
          · exact h3 k q1 z hk
          · have : k = i := by omega
            subst this
            exact hb (hit_inj hh hk)
        · intro hk'
          rcases Nat.lt_or_ge k i with z | z
          · exact ih2 h k z hk'
          · have : k = i := by omega
            subst this
            exact hb (hit_inj hh hk')
    · rw [e, List.append_nil]
      refine ⟨fun m h => ?_, fun h k hk hk' => ?_⟩
      · obtain ⟨h1, h2, h3⟩ := ih1 m h
        refine ⟨by omega, h2, fun k q1 q2 hk => ?_⟩
        rcases Nat.lt_or_ge k i with z | z
        · exact h3 k q1 z hk
        · have : k = i := by omega
          subst this
          exact hn b hk
      · rcases Nat.lt_or_ge k i with z | z
        · exact ih2 h k z hk'
        · have : k = i := by omega
          subst this
          exact hn b hk'
theorem first_spec (ks : List Str) (b : Nat) : ∀ i, (∀ m, firstOf (prs ks i) b = some m → m < i ∧ Hit ks b m ∧ ∀ k, k < m → ¬ Hit ks b k) ∧ (firstOf (prs ks i) b = none → ∀ k, k < i → ¬ Hit ks b k)
  | 0 => ⟨fun m h => (by cases h), fun _ k hk => (by omega)⟩
  | i + 1 => by
    obtain ⟨ih1, ih2⟩ := first_spec ks b i
    show (∀ m, firstOf (prs ks i ++ one ks i) b = some m → _) ∧ (firstOf (prs ks i ++ one ks i) b = none → _)
    rcases one_cases ks i with ⟨b', e, hh⟩ | ⟨e, hn⟩
    · rw [e, firstOf_snoc]
      cases hf : firstOf (prs ks i) b with
      | some m0 =>
        rw [if_pos (show (some m0).isSome = true from rfl)]
        obtain ⟨h1, h2, h3⟩ := ih1 m0 hf
        exact ⟨fun m h => by cases h; exact ⟨by omega, h2, h3⟩, fun h => by cases h⟩
      | none =>
        rw [if_neg (show ¬ (none : Option Nat).isSome = true by decide)]
        have hno := ih2 hf
        by_cases hb : b' = b
        · rw [if_pos hb]
          subst hb
          exact ⟨fun m h => by cases h; exact ⟨Nat.lt_succ_self _, hh, fun k hk => hno k hk⟩, fun h => by cases h⟩
        · rw [if_neg hb]
          refine ⟨fun m h => (by cases h), fun _ k hk hk' => ?_⟩
          rcases Nat.lt_or_ge k i with z | z
          · exact hno k z hk'
          · have : k = i := by omega
            subst this
            exact hb (hit_inj hh hk')
    · rw [e, List.append_nil]
      refine ⟨fun m h => ?_, fun h k hk hk' => ?_⟩
      · obtain ⟨h1, h2, h3⟩ := ih1 m h
        exact ⟨by omega, h2, h3⟩
      · rcases Nat.lt_or_ge k i with z | z
        · exact ih2 h k z hk'
        · have : k = i := by omega
          subst this
          exact hn b hk'
theorem last_end {ks : List Str} {b e : Nat} (h : Ends ks b e) : lastOf (prs ks ks.length) b = some e := by
  obtain ⟨h1, h2⟩ := last_spec ks b ks.length
  cases q : lastOf (prs ks ks.length) b with
  | none => exact absurd (hit_end h) (h2 q e h.2.1)
  | some m =>
    obtain ⟨q1, q2, q3⟩ := h1 m q
    have := hit_le h q2
    rcases Nat.lt_or_ge m e with z | z
    · exact absurd (hit_end h) (q3 e z h.2.1)
    · have : m = e := by omega
      rw [this]

def First (ks : List Str) (b f : Nat) : Prop := f < ks.length ∧ Hit ks b f ∧ ∀ k, k < f → ¬ Hit ks b k
theorem first_uniq {ks : List Str} {b f f' : Nat} (h : First ks b f) (h' : First ks b f') : f = f' := by
  rcases Nat.lt_trichotomy f f' with z | z | z
  · exact absurd h.2.1 (h'.2.2 f z)
  · exact z
  · exact absurd h'.2.1 (h.2.2 f' z)
theorem first_of {ks : List Str} {b f : Nat} (h : First ks b f) : firstOf (prs ks ks.length) b = some f := by
  obtain ⟨h1, h2⟩ := first_spec ks b ks.length
  cases q : firstOf (prs ks ks.length) b with
  | none => exact absurd h.2.1 (h2 q f h.1)
  | some m =>
    obtain ⟨q1, q2, q3⟩ := h1 m q
    rw [first_uniq (⟨q1, q2, q3⟩ : First ks b m) h]
theorem first_none {ks : List Str} {b : Nat} (h : ¬ isO (kd ks b) = true) : firstOf (prs ks ks.length) b = none := by
  obtain ⟨h1, h2⟩ := first_spec ks b ks.length
  cases q : firstOf (prs ks ks.length) b with
  | none => rfl
  | some m => exact absurd (hit_lt (h1 m q).2.1).2 h

inductive Beh (ks : List Str) : Nat → Nat → Prop
  | els {k b e r : Nat} : kd ks (k + 1) = "else" → (stk ks (k + 1)).head? = some b → Ends ks b e → Beh ks e r → Beh ks k r
  | whl {k b : Nat} : kd ks (k + 1) = "end" → (stk ks (k + 1)).head? = some b → kd ks b = "while" → Beh ks k b
  | fin {k b r : Nat} : kd ks (k + 1) = "end" → (stk ks (k + 1)).head? = some b → ¬ kd ks b = "while" → Beh ks (k + 1) r → Beh ks k r
  | oth {k : Nat} : ¬ kd ks (k + 1) = "else" → ¬ kd ks (k + 1) = "end" → Beh ks k (k + 1)
theorem els_fin : ¬ (("else" : Str) = "end") := by decide +kernel
theorem Beh.uniq {ks : List Str} {k r : Nat} (h : Beh ks k r) : ∀ {r' : Nat}, Beh ks k r' → r = r' := by
  induction h with
  | els h1 h2 h3 h4 ih =>
    intro r' h'
    cases h' with
    | els g1 g2 g3 g4 =>
      have hb := Option.some.inj (h2.symm.trans g2)
      subst hb
      have he := ends_uniq h3 g3
      subst he
      exact ih g4
    | whl g1 _ _ => exact absurd (h1.symm.trans g1) els_fin
    | fin g1 _ _ _ => exact absurd (h1.symm.trans g1) els_fin
    | oth g1 _ => exact absurd h1 g1
  | whl h1 h2 h3 =>
    intro r' h'
    cases h' with
    | els g1 _ _ _ => exact absurd (g1.symm.trans h1) els_fin
    | whl g1 g2 g3 => exact Option.some.inj (h2.symm.trans g2)
    | fin g1 g2 g3 _ =>
      have hb := Option.some.inj (h2.symm.trans g2)
      subst hb
      exact absurd h3 g3
    | oth _ g2 => exact absurd h1 g2
  | fin h1 h2 h3 h4 ih =>
    intro r' h'
    cases h' with
    | els g1 _ _ _ => exact absurd (g1.symm.trans h1) els_fin
    | whl g1 g2 g3 =>
      have hb := Option.some.inj (h2.symm.trans g2)
      subst hb
      exact absurd g3 h3
    | fin g1 g2 g3 g4 => exact ih g4
    | oth _ g2 => exact absurd h1 g2
  | oth h1 h2 =>
    intro r' h'
    cases h' with
    | els g1 _ _ _ => exact absurd g1 h1
    | whl g1 _ _ => exact absurd g1 h2
    | fin g1 _ _ _ => exact absurd g1 h2
    | oth _ _ => rfl
theorem back_ne : ¬ (("back" : Str) = "else") ∧ ¬ (("back" : Str) = "end") := by decide +kernel
theorem isO_not_E {s : Str} (h : isO s = true) : ¬ isE s = true := by
  unfold isE
  rw [decide_eq_false (isO_not_else h), decide_eq_false (isO_not_end h)]
  decide
theorem isE_or {s : Str} (h1 : ¬ s = "else") (h2 : ¬ s = "end") : ¬ isE s = true := by
  unfold isE
  rw [decide_eq_false h1, decide_eq_false h2]
  decide
inductive Due (ks : List Str) : Nat → Option (List Nat) → Prop
  | no {k : Nat} : isE (kd ks k) = true → Due ks k none
  | back {k : Nat} : kd ks k = "back" → Due ks k (some [])
  | two {k f r1 r2 : Nat} : isO (kd ks k) = true → First ks k f → Beh ks k r1 → Beh ks f r2 → Due ks k (some [r1, r2])
  | one {k r : Nat} : ¬ isE (kd ks k) = true → ¬ kd ks k = "back" → ¬ isO (kd ks k) = true → Beh ks k r → Due ks k (some [r])
theorem back_E : ¬ isE ("back" : Str) = true := by decide +kernel
theorem back_O : ¬ isO ("back" : Str) = true := by decide +kernel
theorem Due.uniq {ks : List Str} {k : Nat} {o o' : Option (List Nat)} (h : Due ks k o) (h' : Due ks k o') : o = o' := by
  cases h with
  | no h =>
    cases h' with
    | no _ => rfl
    | back g => rw [g] at h; exact absurd h back_E
    | two g _ _ _ => exact absurd h (isO_not_E g)
    | one g _ _ _ => exact absurd h g
  | back h =>
    cases h' with
    | no g => rw [h] at g; exact absurd g back_E
    | back _ => rfl
    | two g _ _ _ => rw [h] at g; exact absurd g back_O
    | one _ g _ _ => exact absurd h g
  | two h1 h2 h3 h4 =>
    cases h' with
    | no g => exact absurd g (isO_not_E h1)
    | back g => rw [g] at h1; exact absurd h1 back_O
    | two g1 g2 g3 g4 =>
      have := first_uniq h2 g2
      subst this
      rw [h3.uniq g3, h4.uniq g4]
    | one _ _ g _ => exact absurd h1 g
  | one h1 h2 h3 h4 =>
    cases h' with
    | no g => exact absurd g h1
    | back g => exact absurd g h2
    | two g _ _ _ => exact absurd g h3
    | one _ _ _ g => rw [h4.uniq g]
theorem first_ex {ks : List Str} {b e : Nat} (h : Ends ks b e) : ∃ f, First ks b f := by
  obtain ⟨h1, h2⟩ := first_spec ks b ks.length
  cases q : firstOf (prs ks ks.length) b with
  | none => exact absurd (hit_end h) (h2 q e h.2.1)
  | some m =>
    obtain ⟨q1, q2, q3⟩ := h1 m q
    exact ⟨m, q1, q2, q3⟩
theorem not_last {ks : List Str} (w : Wf ks) {k : Nat} (hk : k < ks.length) (h : ¬ kd ks k = "back") : k + 1 < ks.length := by
  rcases Nat.lt_or_ge (k + 1) ks.length with z | z
  · exact z
  · exact absurd (w.last k (by omega)) h
theorem first_last {ks : List Str} (w : Wf ks) {b f : Nat} (h : First ks b f) : f + 1 < ks.length := by
  refine not_last w h.1 fun z => ?_
  have := h.2.1.1
  rw [z] at this
  exact back_E this
theorem kd_left {ks ys : List Str} {i : Nat} (h : i < ks.length) : kd (ks ++ ys) i = kd ks i := by
  unfold kd
  rw [List.getD_eq_getElem?_getD, List.getD_eq_getElem?_getD, List.getElem?_append_left h]
theorem kd_right (ks ys : List Str) (i : Nat) : kd (ks ++ ys) (ks.length + i) = kd ys i := by
  unfold kd
  rw [List.getD_eq_getElem?_getD, List.getD_eq_getElem?_getD, List.getElem?_append_right (Nat.le_add_right _ _), Nat.add_sub_cancel_left]
theorem kd_last (ks : List Str) (x : Str) : kd (ks ++ [x]) ks.length = x := by
  have := kd_right ks [x] 0
  rw [Nat.add_zero] at this
  rw [this]
  rfl
theorem stk_left (ks ys : List Str) : ∀ i, i ≤ ks.length → stk (ks ++ ys) i = stk ks i
  | 0, _ => rfl
  | i + 1, h => by
    rw [stk_succ, stk_succ, stk_left ks ys i (by omega), kd_left (by omega)]

structure Good (ks os : List Str) : Prop where
  open_ : ∀ i, i < ks.length → isE (kd ks i) = true → stk ks i ≠ []
  els : ∀ i b r, i < ks.length → kd ks i = "else" → stk ks i = b :: r → kd ks b = "if"
  len : (stk ks ks.length).length = os.length
  mt : ∀ (i b : Nat), (stk ks ks.length)[i]? = some b → os[i]? = some "if" → kd ks b = "if"
theorem good_nil : Good [] [] := ⟨fun i h => absurd h (Nat.not_lt_zero i), fun i _ _ h => absurd h (Nat.not_lt_zero i), rfl, fun i b h => by cases h⟩
theorem stk_snoc (ks : List Str) (x : Str) : stk (ks ++ [x]) (ks ++ [x]).length = push (stk ks ks.length) ks.length x := by
  rw [List.length_append]
  show stk (ks ++ [x]) (ks.length + 1) = _
  rw [stk_succ, stk_left _ _ _ (Nat.le_refl _), kd_last]
theorem Good.snoc {ks os os' : List Str} {x : Str} (g : Good ks os) (ho : isE x = true → os ≠ []) (he : x = "else" → ∃ r, os = ("if" : Str) :: r)
    (hl : (push (stk ks ks.length) ks.length x).length = os'.length) (hm : ∀ (i b : Nat), (push (stk ks ks.length) ks.length x)[i]? = some b → os'[i]? = some "if" → kd (ks ++ [x]) b = "if") : Good (ks ++ [x]) os' := by
  have hn : (ks ++ [x]).length = ks.length + 1 := by rw [List.length_append]; rfl
  refine ⟨fun i h hE => ?_, fun i b r h hE hs => ?_, by rw [stk_snoc]; exact hl, by rw [stk_snoc]; exact hm⟩
  · rw [stk_left _ _ _ (by omega)]
    rcases Nat.lt_or_ge i ks.length with z | z
    · rw [kd_left z] at hE
      exact g.open_ i z hE
    · have : i = ks.length := by omega
      subst this
      rw [kd_last] at hE
      intro e
      have := g.len
      rw [e] at this
      exact ho hE (List.length_eq_zero_iff.mp this.symm)
  · rw [stk_left _ _ _ (by omega)] at hs
    rcases Nat.lt_or_ge i ks.length with z | z
    · rw [kd_left z] at hE
      have hb := (stk_lt ks i b (by rw [hs]; exact List.mem_cons_self)).1
      rw [kd_left (by omega)]
      exact g.els i b r z hE hs
    · have : i = ks.length := by omega
      subst this
      rw [kd_last] at hE
      obtain ⟨r', e⟩ := he hE
      have hb := (stk_lt ks ks.length b (by rw [hs]; exact List.mem_cons_self)).1
      rw [kd_left hb]
      exact g.mt 0 b (by rw [hs]; rfl) (by rw [e]; rfl)
theorem Good.keep {ks os : List Str} (g : Good ks os) (x : Str) {i b : Nat} (h : (stk ks ks.length)[i]? = some b) (h' : os[i]? = some "if") : kd (ks ++ [x]) b = "if" := by
  have hb := (stk_lt ks ks.length b (List.mem_of_getElem? h)).1
  rw [kd_left hb]
  exact g.mt i b h h'
theorem Good.plain {ks os : List Str} {x : Str} (g : Good ks os) (h1 : ¬ isO x = true) (h2 : ¬ isE x = true) (h3 : ¬ x = "end") : Good (ks ++ [x]) os := by
  have e : push (stk ks ks.length) ks.length x = stk ks ks.length := by unfold push; rw [if_neg h1, if_neg h3]
  refine g.snoc (fun z => absurd z h2) (fun z => absurd (by rw [z]; decide +kernel) h2) (by rw [e, g.len]) ?_
  rw [e]
  intro i b h h'
  exact g.keep x h h'
theorem Good.fin {ks r : List Str} {o : Str} (g : Good ks (o :: r)) : Good (ks ++ [("end" : Str)]) r := by
  have e : push (stk ks ks.length) ks.length "end" = (stk ks ks.length).tail := by unfold push; rw [if_neg (by decide +kernel), if_pos rfl]
  have l := g.len
  rw [List.length_cons] at l
  refine g.snoc (fun _ => List.cons_ne_nil _ _) (fun z => absurd z.symm els_fin) (by rw [e, List.length_tail]; omega) ?_
  rw [e]
  intro i b h h'
  rw [List.getElem?_tail] at h
  exact g.keep _ h (by simpa using h')
theorem Good.ends {ks : List Str} : ∀ {os : List Str}, Good ks os → ∀ j, j ≤ os.length → Good (ks ++ List.replicate j ("end" : Str)) (os.drop j)
  | os, g, 0, _ => by simpa using g
  | os, g, j + 1, h => by
    have ih := Good.ends g j (by omega)
    have e : os.drop j = os[j] :: os.drop (j + 1) := List.drop_eq_getElem_cons (by omega)
    rw [e] at ih
    have := ih.fin
    rw [List.append_assoc] at this
    rw [List.replicate_succ']
    exact this
theorem Good.back {ks : List Str} (g : Good ks []) : Wf (ks ++ [("back" : Str)]) := by
  have hs : stk ks ks.length = [] := List.length_eq_zero_iff.mp g.len
  have g' := g.plain back_O back_E (by decide +kernel)
  refine ⟨g'.open_, g'.els, List.length_eq_zero_iff.mp g'.len, fun i h => ?_, by rw [List.length_append]; exact Nat.succ_pos _⟩
  have : i = ks.length := by rw [List.length_append] at h; simpa using h
  rw [this, kd_last]
end K13

set_option Elab.async false
set_option linter.all false
set_option maxRecDepth 100000
set_option maxHeartbeats 4000000
namespace K12
open PySem L2
section
variable {P : Program} {w : World} {K : PySem.W.Frag} {mg : Str → Option Value} {base : Heap}

def Gives (H : Hp) (Q : VK) (vs : List V) : Prop := ∀ l H', Same H H' → H l = none → H' l = some (.lst vs) → Q (.ref l) H'
def sp_gives (K : PySem.W.Frag) : Sp := fun vs H Q _ => ∃ (r : Addr) (xs : List V) (g : Option Str) (as : List V), vs = [.ref r] ∧ SqT K H r xs ∧ RowS K H xs g as ∧ Q (xv g) H
def sp_atoms_of (K : PySem.W.Frag) : Sp := fun vs H Q _ => ∃ (r : Addr) (xs : List V) (g : Option Str) (as : List V), vs = [.ref r] ∧ SqT K H r xs ∧ RowS K H xs g as ∧ as.length ≤ 10 ∧ Gives H Q as
def sp_each_once (K : PySem.W.Frag) : Sp := fun vs H Q _ => ∃ (p : Addr) (ss : List Str), vs = [.ref p] ∧ SqL K H p (ss.map V.str) ∧ ss.length ≤ 5000 ∧ Gives H Q ((onceL ss).map V.str)
def sp_reads (K : PySem.W.Frag) : Sp := fun vs H Q _ => ∃ (r : Addr) (xs : List V) (g : Option Str) (as : List V), vs = [.ref r] ∧ SqT K H r xs ∧ RowS K H xs g as ∧ as.length ≤ 10 ∧ (∀ v ∈ as, Atom v) ∧ Gives H Q ((onceL (strsOf as)).map V.str)
def sp_names_of (K : PySem.W.Frag) : Sp := fun vs H Q _ => ∃ (f : Addr) (ps : List Str) (ds : List RowD), vs = [.ref f] ∧ FunAt K H f ps ds ∧ Gives H Q ((onceL (allOf ps ds)).map V.str)
def sp_law (K : PySem.W.Frag) : Sp := fun vs H Q _ => ∃ (a : Addr) (ns : List Int), vs = [.ref a] ∧ SqL K H a (ns.map V.int) ∧ ns.length ≤ 63 ∧ ∀ H', Q (.bl true) H'
def rIsi (K : PySem.W.Frag) : List V → Hp → VK → Prop := fun xs H Q => ∃ x c t b, xs = [x, .ty c] ∧ TyOf K H x t ∧ PySem.W.kitOne K t (.type c) = some b ∧ Q (.bl b) H
theorem lt_line {n : Nat} (h : n < 1000000) : n ≤ sizeLine := by
  have : (1000000 : Nat) < sizeLine := by decide
  omega
theorem lt_line' {n : Nat} (h : n < 1000000) : n < sizeLine := by
  have : (1000000 : Nat) < sizeLine := by decide
  omega
theorem le0 : 0 ≤ sizeLine := by decide
theorem le1 : 1 ≤ sizeLine := by decide
theorem le2 : 2 ≤ sizeLine := by decide
theorem le3 : 3 ≤ sizeLine := by decide
theorem le4 : 4 ≤ sizeLine := by decide
theorem once_row {fs P G B : List Str} (h : onceL fs = onceL P) : onceL (fs ++ G ++ onceL B) = onceL (P ++ (G ++ B)) := by
  have e := onceL_mid (fs ++ G) B []
  rw [List.append_nil, List.append_nil] at e
  rw [e, List.append_assoc]
  unfold onceL at h ⊢
  rw [List.foldl_append, h, ← List.foldl_append]
theorem z_len : ("z" : Str).length = 1 := by decide +kernel
theorem rowS_lst {K : PySem.W.Frag} {H : Hp} {q : Addr} {l l' : List V} {xs : List V} {g : Option Str} {as : List V} (h : RowS K H xs g as) (hq : H q = some (.lst l)) : RowS K (upd H q (.lst l')) xs g as := by
  cases h with
  | call x f p as hp => exact .call x f p as (sqT_lst hp hq)
  | copy x a => exact .copy x a
  | op x s a b => exact .op x s a b
  | new x => exact .new x
  | get x a f => exact .get x a f
  | put a f b => exact .put a f b
  | out a => exact .out a
  | back a => exact .back a
  | ifs a => exact .ifs a
  | whl a => exact .whl a
  | els => exact .els
  | fin => exact .fin
theorem rowAt_lst {K : PySem.W.Frag} {H : Hp} {q : Addr} {l l' : List V} {d : RowD} (h : RowAt K H d) (hq : H q = some (.lst l)) : RowAt K (upd H q (.lst l')) d :=
  ⟨let ⟨xs, h1, h2⟩ := h.row; ⟨xs, sqT_lst h1 hq, rowS_lst h2 hq⟩, h.ats, h.len, h.nm⟩
end
end K12

set_option Elab.async false
set_option linter.all false
set_option maxRecDepth 100000
set_option maxHeartbeats 4000000
namespace K13
open PySem L2

structure RowsAt (K : PySem.W.Frag) (H : Hp) (a : Addr) (ks : List Str) : Prop where
  ex : ∃ rs : List Addr, SqT K H a (rs.map V.ref) ∧ rs.length = ks.length ∧ ∀ i r, rs[i]? = some r → ∃ rest, SqT K H r (V.str (kd ks i) :: rest)
theorem RowsAt.mono {K : PySem.W.Frag} {H H' : Hp} {a : Addr} {ks : List Str} (h : RowsAt K H a ks) (e : Same H H') : RowsAt K H' a ks :=
  ⟨let ⟨rs, h1, h2, h3⟩ := h.ex; ⟨rs, e.tup h1, h2, fun i r q => let ⟨rest, z⟩ := h3 i r q; ⟨rest, e.tup z⟩⟩⟩
theorem at0 {x : V} {r : List V} : atI (x :: r) 0 = some x := by
  unfold atI ixN
  rw [if_pos (by decide), if_pos (by simp)]
  rfl
theorem ixk {K : PySem.W.Frag} {H : Hp} {Q : VK} {a : Addr} {ks : List Str} {i : Int} (h : RowsAt K H a ks) (h0 : 0 ≤ i) (h1 : i < ks.length) (q : Q (.str (kd ks i.toNat)) H) : rIxT K (.ref a) (.int i) H fun x H1 => rIxT K x (.int 0) H1 Q := by
  obtain ⟨rs, e1, e2, e3⟩ := h.ex
  have hi : i.toNat < rs.length := by omega
  obtain ⟨rest, hr⟩ := e3 i.toNat rs[i.toNat] (by simp [hi])
  refine ⟨a, _, i, .ref rs[i.toNat], rfl, rfl, e1, ?_, rs[i.toNat], _, 0, _, rfl, rfl, hr, at0, q⟩
  have e : atI (rs.map V.ref) i = some (V.ref rs[i.toNat]) := by
    unfold atI ixN
    rw [if_pos h0, if_pos (by rw [List.length_map]; omega), Option.bind_some, List.getElem?_map]
    simp [hi]
  exact e
def bgOf (L : List (Nat × Nat)) : List (Key × V) := L.map fun p => (Sum.inl (p.1 : Int), V.int (p.2 : Int))
def bg (ks : List Str) (i : Nat) : List (Key × V) := bgOf (prs ks i)
theorem prs_lt (ks : List Str) : ∀ i, ∀ p ∈ prs ks i, p.1 < i
  | 0, p, h => by cases h
  | i + 1, p, h => by
    rcases List.mem_append.mp h with h | h
    · have := prs_lt ks i p h
      omega
    · rcases one_cases ks i with ⟨b, e, _⟩ | ⟨e, _⟩
      · rw [e] at h
        have : p = (i, b) := by simpa using h
        rw [this]
        exact Nat.lt_succ_self _
      · rw [e] at h
        cases h
theorem bg_new (ks : List Str) (i : Nat) : valV (bg ks i) (Sum.inl (i : Int) : Key) = none := by
  have h := valV_any (Sum.inl (i : Int) : Key) (bg ks i)
  cases q : valV (bg ks i) (Sum.inl (i : Int) : Key) with
  | none => rfl
  | some v =>
    rw [q] at h
    obtain ⟨kv, hm, e⟩ := List.any_eq_true.mp h
    obtain ⟨p, hp, rfl⟩ := List.mem_map.mp hm
    have e := of_decide_eq_true e
    have : (p.1 : Int) = (i : Int) := Sum.inl.inj e
    have := prs_lt ks i p hp
    omega
theorem bg_put {ks : List Str} {i b : Nat} (h : Hit ks b i) : putK (bg ks i) (Sum.inl (i : Int) : Key) (V.int (b : Int)) = bg ks (i + 1) := by
  rw [putK_new _ (bg_new ks i)]
  rcases one_cases ks i with ⟨b', e, h'⟩ | ⟨e, h'⟩
  · show bgOf (prs ks i) ++ _ = bgOf (prs ks i ++ one ks i)
    rw [e, hit_inj h h']
    unfold bgOf
    rw [List.map_append]
    rfl
  · exact absurd h (h' b)
theorem bg_same {ks : List Str} {i : Nat} (h : ¬ isE (kd ks i) = true) : bg ks (i + 1) = bg ks i := by
  rcases one_cases ks i with ⟨b', e, h'⟩ | ⟨e, h'⟩
  · exact absurd h'.1 h
  · show bgOf (prs ks i ++ one ks i) = _
    rw [e, List.append_nil]
    rfl
theorem prs_len (ks : List Str) : ∀ i, (prs ks i).length ≤ i
  | 0 => Nat.le_refl _
  | i + 1 => by
    have := prs_len ks i
    show (prs ks i ++ one ks i).length ≤ i + 1
    rw [List.length_append]
    rcases one_cases ks i with ⟨b', e, h'⟩ | ⟨e, h'⟩ <;> rw [e] <;> simp <;> omega
theorem bg_len (ks : List Str) (i : Nat) : (bg ks i).length ≤ i := by unfold bg bgOf; rw [List.length_map]; exact prs_len ks i
def stkV (ks : List Str) (i : Nat) : List V := (stk ks i).reverse.map fun (n : Nat) => V.int (n : Int)
theorem stkV_len (ks : List Str) : ∀ i, (stkV ks i).length ≤ i := by
  intro i
  unfold stkV
  rw [List.length_map, List.length_reverse]
  induction i with
  | zero => exact Nat.le_refl _
  | succ i ih =>
    rw [stk_succ]
    unfold push
    split
    · simp; omega
    · split
      · simp; omega
      · omega
theorem inO (s : Str) : inV (.str s) [V.str "if", V.str "while"] = isO s := by
  show ((("if" : Str) == s) || ((("while" : Str) == s) || false)) = isO s
  unfold isO
  rw [Bool.or_false]
  congr 1 <;> (rw [Bool.eq_iff_iff, beq_iff_eq, decide_eq_true_eq]; exact eq_comm)
theorem inE (s : Str) : inV (.str s) [V.str "else", V.str "end"] = isE s := by
  show ((("else" : Str) == s) || ((("end" : Str) == s) || false)) = isE s
  unfold isE
  rw [Bool.or_false]
  congr 1 <;> (rw [Bool.eq_iff_iff, beq_iff_eq, decide_eq_true_eq]; exact eq_comm)
theorem le0 : 0 ≤ sizeLine := by decide
theorem le1 : 1 ≤ sizeLine := by decide
theorem le2 : 2 ≤ sizeLine := by decide
theorem lt_line' {n : Nat} (h : n < 1000000) : n < sizeLine := by
  have : (1000000 : Nat) < sizeLine := by decide
  omega
theorem stkV_top {ks : List Str} {i b : Nat} {r : List Nat} (h : stk ks i = b :: r) : atI (stkV ks i) (-1) = some (.int (b : Int)) ∧ (stkV ks i)[(stkV ks i).length - 1]? = some (.int (b : Int)) ∧ (stkV ks i).dropLast = r.reverse.map fun (n : Nat) => V.int (n : Int) := by
  have e : stkV ks i = (r.reverse.map fun (n : Nat) => V.int (n : Int)) ++ [V.int (b : Int)] := by
    unfold stkV
    rw [h, List.reverse_cons, List.map_append]
    rfl
  rw [e]
  refine ⟨?_, by simp, by simp⟩
  unfold atI ixN
  rw [if_neg (by decide), if_pos (by simp; omega), Option.bind_some]
  have : ((-1 : Int) + (((r.reverse.map fun (n : Nat) => V.int (n : Int)) ++ [V.int (b : Int)]).length : Int)).toNat = (r.reverse.map fun (n : Nat) => V.int (n : Int)).length := by
    rw [List.length_append]
    simp
    omega
  rw [this]
  simp
theorem sqT_frz {K : PySem.W.Frag} {H : Hp} {a q : Addr} {xs : List V} {kvs : List (Key × V)} {o : HO} (h : SqT K H a xs) (hq : H q = some (.dK kvs)) : SqT K (upd H q o) a xs := by
  rcases h with (h | ⟨o, h⟩) | h
  · exact .inl (.inl (by rw [upd_ne (ne_of h hq (by intro z; cases z))]; exact h))
  · exact .inl (.inr ⟨o, by rw [upd_ne (ne_of h hq (by intro z; cases z))]; exact h⟩)
  · exact .inr h
theorem RowsAt.frz {K : PySem.W.Frag} {H : Hp} {a q : Addr} {ks : List Str} {kvs : List (Key × V)} {o : HO} (h : RowsAt K H a ks) (hq : H q = some (.dK kvs)) : RowsAt K (upd H q o) a ks :=
  ⟨let ⟨rs, h1, h2, h3⟩ := h.ex; ⟨rs, sqT_frz h1 hq, h2, fun i r z => let ⟨rest, y⟩ := h3 i r z; ⟨rest, sqT_frz y hq⟩⟩⟩
def BehL (H : Hp) (l : Addr) (ks : List Str) : Prop := ∃ bs, H l = some (.lst bs) ∧ bs.length = ks.length ∧ ∀ k, k + 1 < ks.length → ∃ r : Nat, Beh ks k r ∧ bs[k]? = some (.int (r : Int))
def nones (n : Nat) : List V := (List.replicate n [V.non]).flatten
theorem nones_len (n : Nat) : (nones n).length = n := by unfold nones; rw [len_rep]; simp
theorem bg_at {ks : List Str} {b k : Nat} (n : Nat) (hk : k < n) (h : Hit ks b k) : valV (bg ks n) (Sum.inl (k : Int) : Key) = some (.int (b : Int)) := by
  induction n with
  | zero => omega
  | succ n ih =>
    rcases Nat.lt_or_ge k n with z | z
    · rcases one_cases ks n with ⟨b', e, h'⟩ | ⟨e, h'⟩
      · rw [← bg_put h', valV_put, if_neg (fun z' => by have : (k : Int) = (n : Int) := Sum.inl.inj z'; omega)]
        exact ih z
      · have : bg ks (n + 1) = bg ks n := by
          show bgOf (prs ks n ++ one ks n) = _
          rw [e, List.append_nil]
          rfl
        rw [this]
        exact ih z
    · have : k = n := by omega
      subst this
      rw [← bg_put h, valV_put, if_pos rfl]
theorem prs_at {ks : List Str} {n i : Nat} {kv : Key × V} (h : (bg ks n)[i]? = some kv) : ∃ p : Nat × Nat, (prs ks n)[i]? = some p ∧ kv = (Sum.inl (p.1 : Int), V.int (p.2 : Int)) := by
  unfold bg bgOf at h
  rw [List.getElem?_map] at h
  cases q : (prs ks n)[i]? with
  | none => rw [q] at h; cases h
  | some p => rw [q] at h; exact ⟨p, rfl, by simpa using h.symm⟩
def natsV (l : List Nat) : List V := l.map fun (n : Nat) => V.int (n : Int)
def ValO (H : Hp) (v : V) : Option (List Nat) → Prop
  | none => v = .non
  | some l => ∃ p, v = .ref p ∧ H p = some (.tup (natsV l))
theorem ValO.mono {H H' : Hp} {v : V} {o : Option (List Nat)} (h : ValO H v o) (e : Same H H') : ValO H' v o := by
  cases o with
  | none => exact h
  | some l => obtain ⟨p, h1, h2⟩ := h; exact ⟨p, h1, e _ _ h2⟩
theorem ValO.lst {H : Hp} {q : Addr} {l l' : List V} {v : V} {o : Option (List Nat)} (h : ValO H v o) (hq : H q = some (.lst l)) : ValO (upd H q (.lst l')) v o := by
  cases o with
  | none => exact h
  | some l => obtain ⟨p, h1, h2⟩ := h; exact ⟨p, h1, by rw [upd_ne (ne_of h2 hq (by intro z; cases z))]; exact h2⟩
def FoundN (H : Hp) (l : Addr) (ks : List Str) (i : Nat) : Prop := ∃ vs : List V, H l = some (.lst vs) ∧ vs.length = i ∧ ∀ k v, vs[k]? = some v → ∃ o, Due ks k o ∧ ValO H v o
theorem FoundN.mono {H H' : Hp} {l : Addr} {ks : List Str} {i : Nat} (h : FoundN H l ks i) (e : Same H H') : FoundN H' l ks i :=
  let ⟨vs, h1, h2, h3⟩ := h; ⟨vs, e _ _ h1, h2, fun k v q => let ⟨o, d, z⟩ := h3 k v q; ⟨o, d, z.mono e⟩⟩
theorem FoundN.push {H : Hp} {l : Addr} {ks : List Str} {i : Nat} {vs : List V} {v : V} {o : Option (List Nat)} (h1 : H l = some (.lst vs)) (h2 : vs.length = i) (h3 : ∀ k v, vs[k]? = some v → ∃ o, Due ks k o ∧ ValO H v o) (hd : Due ks i o) (hv : ValO H v o) : FoundN (upd H l (.lst (vs ++ [v]))) l ks (i + 1) := by
  refine ⟨_, upd_same, by rw [List.length_append, h2]; rfl, fun k v' q => ?_⟩
  rcases Nat.lt_or_ge k vs.length with z | z
  · rw [List.getElem?_append_left z] at q
    obtain ⟨o', d, y⟩ := h3 k v' q
    exact ⟨o', d, y.lst h1⟩
  · rw [List.getElem?_append_right z] at q
    have hk : k - vs.length = 0 := by
      rcases Nat.eq_zero_or_pos (k - vs.length) with y | y
      · exact y
      · rw [List.getElem?_eq_none (by simp; omega)] at q
        cases q
    rw [hk] at q
    have hv' : v = v' := by simpa using q
    subst hv'
    have : k = i := by omega
    subst this
    exact ⟨o, hd, hv.lst h1⟩
def rIsi (K : PySem.W.Frag) : List V → Hp → VK → Prop := fun xs H Q => ∃ x c t b, xs = [x, .ty c] ∧ TyOf K H x t ∧ PySem.W.kitOne K t (.type c) = some b ∧ Q (.bl b) H
section
variable {P : Program} {w : World} {K : PySem.W.Frag} {mg : Str → Option Value} {base : Heap}

def sp_begins_of (K : PySem.W.Frag) : Sp := fun vs H Q _ => ∃ (a : Addr) (ks : List Str), vs = [.ref a] ∧ RowsAt K H a ks ∧ Wf ks ∧ ks.length ≤ 1000 ∧ ∀ d H', Same H H' → H d = none → H' d = some (.dK (bg ks ks.length)) → Q (.ref d) H'
def sp_firsts_behind (K : PySem.W.Frag) : Sp := fun vs H Q _ => ∃ (a d : Addr) (ks : List Str), vs = [.ref a, .ref d] ∧ RowsAt K H a ks ∧ Wf ks ∧ ks.length ≤ 1000 ∧ H d = some (.dK (bg ks ks.length)) ∧ ∀ l o H', Same (upd H d (.frz o (.dK (bg ks ks.length)))) H' → H l = none → BehL H' l ks → Q (.ref l) H'
def sp_ways (K : PySem.W.Frag) : Sp := fun vs H Q _ => ∃ (a : Addr) (ks : List Str), vs = [.ref a] ∧ RowsAt K H a ks ∧ Wf ks ∧ ks.length ≤ 1000 ∧ ∀ l H', Same H H' → H l = none → FoundN H' l ks ks.length → Q (.ref l) H'
theorem lt_line {n : Nat} (h : n < 1000000) : n ≤ sizeLine := by
  have : (1000000 : Nat) < sizeLine := by decide
  omega
theorem eq_str (s t : Str) : decide (V.str s = V.str t) = decide (s = t) := by
  by_cases h : s = t
  · rw [h, decide_eq_true rfl, decide_eq_true rfl]
  · rw [decide_eq_false h, decide_eq_false fun z => h (V.str.inj z)]
theorem vq {Q : VK} {H : Hp} {x y : V} (h : x = y) (q : Q y H) : Q x H := by subst h; exact q

theorem sqT_lst {K : PySem.W.Frag} {H : Hp} {a q : Addr} {xs l : List V} {o : HO} (h : SqT K H a xs) (hq : H q = some (.lst l)) : SqT K (upd H q o) a xs := by
  rcases h with (h | ⟨o, h⟩) | h
  · exact .inl (.inl (by rw [upd_ne (ne_of h hq (by intro z; cases z))]; exact h))
  · exact .inl (.inr ⟨o, by rw [upd_ne (ne_of h hq (by intro z; cases z))]; exact h⟩)
  · exact .inr h
def RowsL (K : PySem.W.Frag) (H : Hp) (vs : List V) (ks : List Str) : Prop := ∃ rs : List Addr, vs = rs.map V.ref ∧ rs.length = ks.length ∧ ∀ i r, rs[i]? = some r → ∃ rest, SqT K H r (V.str (kd ks i) :: rest)
theorem RowsL.mono {H H' : Hp} {vs : List V} {ks : List Str} (h : RowsL K H vs ks) (e : Same H H') : RowsL K H' vs ks :=
  let ⟨rs, h1, h2, h3⟩ := h; ⟨rs, h1, h2, fun i r q => let ⟨rest, z⟩ := h3 i r q; ⟨rest, e.tup z⟩⟩
theorem RowsL.lst {H : Hp} {q : Addr} {l vs : List V} {o : HO} {ks : List Str} (h : RowsL K H vs ks) (hq : H q = some (.lst l)) : RowsL K (upd H q o) vs ks :=
  let ⟨rs, h1, h2, h3⟩ := h; ⟨rs, h1, h2, fun i r q => let ⟨rest, z⟩ := h3 i r q; ⟨rest, sqT_lst z hq⟩⟩
theorem RowsL.len {H : Hp} {vs : List V} {ks : List Str} (h : RowsL K H vs ks) : vs.length = ks.length := by
  obtain ⟨rs, rfl, h2, _⟩ := h
  rw [List.length_map, h2]
theorem RowsL.nil {H : Hp} : RowsL K H [] [] := ⟨[], rfl, rfl, fun i r q => by cases q⟩
theorem RowsL.app {H : Hp} {vs us : List V} {ks js : List Str} (h : RowsL K H vs ks) (g : RowsL K H us js) : RowsL K H (vs ++ us) (ks ++ js) := by
  obtain ⟨rs, rfl, h2, h3⟩ := h
  obtain ⟨ts, rfl, g2, g3⟩ := g
  refine ⟨rs ++ ts, by rw [List.map_append], by rw [List.length_append, List.length_append, h2, g2], fun i r q => ?_⟩
  rcases Nat.lt_or_ge i rs.length with z | z
  · rw [List.getElem?_append_left z] at q
    rw [kd_left (by omega)]
    exact h3 i r q
  · rw [List.getElem?_append_right z] at q
    obtain ⟨j, rfl⟩ := Nat.exists_eq_add_of_le z
    rw [Nat.add_sub_cancel_left] at q
    rw [h2, kd_right]
    exact g3 j r q
theorem RowsL.one {H : Hp} {r : Addr} {x : Str} {rest : List V} (h : SqT K H r (V.str x :: rest)) : RowsL K H [V.ref r] [x] :=
  ⟨[r], rfl, rfl, fun i r' q => by
    cases i with
    | zero =>
      have : r = r' := by simpa using q
      subst this
      exact ⟨rest, h⟩
    | succ i => cases q⟩
theorem RowsL.push {H : Hp} {r : Addr} {x : Str} {rest vs : List V} {ks : List Str} (g : RowsL K H vs ks) (h : SqT K H r (V.str x :: rest)) : RowsL K H (vs ++ [V.ref r]) (ks ++ [x]) := g.app (.one h)
theorem RowsL.at {H : Hp} {a : Addr} {vs : List V} {ks : List Str} (g : RowsL K H vs ks) (h : SqT K H a vs) : RowsAt K H a ks := by
  obtain ⟨rs, rfl, h2, h3⟩ := g
  exact ⟨rs, h, h2, h3⟩
theorem RowsAt.rl {H : Hp} {a : Addr} {ks : List Str} (g : RowsAt K H a ks) : ∃ vs, SqT K H a vs ∧ RowsL K H vs ks :=
  let ⟨rs, h1, h2, h3⟩ := g.ex; ⟨_, h1, rs, rfl, h2, h3⟩
theorem RowsL.rep {H : Hp} {r : Addr} {x : Str} {rest : List V} (h : SqT K H r (V.str x :: rest)) : ∀ n, RowsL K H (List.replicate n [V.ref r]).flatten (List.replicate n x)
  | 0 => .nil
  | n + 1 => by
    rw [List.replicate_succ, List.replicate_succ, List.flatten_cons]
    exact RowsL.app (.one h) (RowsL.rep h n)
def sp_law (K : PySem.W.Frag) : Sp := fun vs H Q _ => ∃ (a : Addr) (ns : List Int), vs = [.ref a] ∧ SqL K H a (ns.map V.int) ∧ ns.length ≤ 63 ∧ ∀ H', Q (.bl true) H'
theorem le3 : 3 ≤ sizeLine := by decide
theorem le4 : 4 ≤ sizeLine := by decide
def Nm (s : Str) : Prop := PyData.strOk s = true
theorem RowsAt.lst {H : Hp} {a q : Addr} {l : List V} {o : HO} {ks : List Str} (h : RowsAt K H a ks) (hq : H q = some (.lst l)) : RowsAt K (upd H q o) a ks :=
  let ⟨_, h1, h2⟩ := h.rl; (h2.lst hq).at (sqT_lst h1 hq)
end
end K13

set_option Elab.async false
set_option linter.all false
set_option maxRecDepth 100000
set_option maxHeartbeats 4000000
namespace Fl
open PySem L2 Gx

structure Rw where
  r : Addr
  k : Str
  c : Str
structure Fd where
  name : Str
  fa : Addr
  ra : Addr
  rs : List Rw
def RowK (K : PySem.W.Frag) (H : Hp) (w : Rw) : Prop := ∃ rest, SqT K H w.r (V.str w.k :: rest) ∧ (w.k = "call" → ∃ x y, rest = [x, .str w.c, y])
theorem RowK.mono {K : PySem.W.Frag} {H H' : Hp} {w : Rw} (e : Same H H') (h : RowK K H w) : RowK K H' w := let ⟨rest, h1, h2⟩ := h; ⟨rest, e.tup h1, h2⟩
structure FnAt (K : PySem.W.Frag) (H : Hp) (f : Fd) : Prop where
  fn : ∃ fo pa, SqT K H f.fa [.str f.name, fo, .ref pa, .ref f.ra]
  rw_ : SqT K H f.ra (f.rs.map fun w => V.ref w.r)
  rk : ∀ w ∈ f.rs, RowK K H w
  fu : ∃ ps ds, K12.FunAt K H f.fa ps ds
  wf : K13.Wf (f.rs.map (·.k))
  len : f.rs.length ≤ 100
theorem FnAt.mono {K : PySem.W.Frag} {H H' : Hp} {f : Fd} (e : Same H H') (h : FnAt K H f) : FnAt K H' f :=
  ⟨let ⟨a, b, z⟩ := h.fn; ⟨a, b, e.tup z⟩, e.tup h.rw_, fun w hw => (h.rk w hw).mono e, let ⟨a, b, z⟩ := h.fu; ⟨a, b, z.mono e⟩, h.wf, h.len⟩
theorem FnAt.rows {K : PySem.W.Frag} {H : Hp} {f : Fd} (h : FnAt K H f) : K13.RowsAt K H f.ra (f.rs.map (·.k)) := by
  refine ⟨f.rs.map (·.r), by rw [List.map_map]; exact h.rw_, by rw [List.length_map, List.length_map], fun i r hr => ?_⟩
  rw [List.getElem?_map] at hr
  cases e : f.rs[i]? with
  | none => rw [e] at hr; cases hr
  | some w =>
    rw [e] at hr
    cases hr
    obtain ⟨rest, h1, _⟩ := h.rk w (List.mem_of_getElem? e)
    refine ⟨rest, ?_⟩
    have : K13.kd (f.rs.map (·.k)) i = w.k := by
      unfold K13.kd
      rw [List.getD_eq_getElem?_getD, List.getElem?_map, e]
      rfl
    rw [this]
    exact h1

def look (fns : List Fd) (g : Str) : Option Fd := fns.find? fun f => decide (f.name = g)
def rowsD (fns : List Fd) : List (Key × V) := fns.map fun f => (Sum.inr f.name, V.ref f.ra)
structure FS (C : Addr) (H : Hp) (x dx : Addr) (fs : List (Str × V)) (d : Nat → Addr) (kv : Nat → List (Key × V)) : Prop where
  ob : H x = some (.ins C dx fs)
  dc : ∀ j, j < 6 → H (d j) = some (.dK (kv j))
theorem FS.mono {C : Addr} {H H' : Hp} {x dx : Addr} {fs : List (Str × V)} {d : Nat → Addr} {kv : Nat → List (Key × V)} (e : Same H H') (h : FS C H x dx fs d kv) : FS C H' x dx fs d kv := ⟨e _ _ h.ob, fun j hj => e _ _ (h.dc j hj)⟩
theorem FS.put {C : Addr} {H : Hp} {x dx : Addr} {fs : List (Str × V)} {d : Nat → Addr} {kv : Nat → List (Key × V)} (h : FS C H x dx fs d kv) (inj : ∀ i j, i < 6 → j < 6 → d i = d j → i = j) (j : Nat) (hj : j < 6) (k' : List (Key × V)) : FS C (upd H (d j) (.dK k')) x dx fs d (fun i => if i = j then k' else kv i) := by
  refine ⟨?_, fun i hi => ?_⟩
  · rw [upd_ne (ne_of h.ob (h.dc j hj) (by intro z; cases z))]; exact h.ob
  · by_cases e : i = j
    · subst e
      rw [upd_same, if_pos rfl]
    · rw [upd_ne (fun z => e (inj i j hi hj z)), if_neg e]
      exact h.dc i hi
def flds (v : V) (d : Nat → Addr) : List (Str × V) := putF "ways_in" (.ref (d 5)) (putF "names_in" (.ref (d 4)) (putF "rows_of" (.ref (d 3)) (putF "params_of" (.ref (d 2)) (putF "folded_of" (.ref (d 1)) (putF "number_of" (.ref (d 0)) (putF "last" v []))))))
theorem lk_number (v : V) (d : Nat → Addr) : (flds v d).lookup ("number_of" : Str) = some (.ref (d 0)) := by
  unfold flds
  rw [lookup_putF, if_neg (by decide +kernel), lookup_putF, if_neg (by decide +kernel), lookup_putF, if_neg (by decide +kernel), lookup_putF, if_neg (by decide +kernel), lookup_putF, if_neg (by decide +kernel), lookup_putF, if_pos rfl]
theorem lk_folded (v : V) (d : Nat → Addr) : (flds v d).lookup ("folded_of" : Str) = some (.ref (d 1)) := by
  unfold flds
  rw [lookup_putF, if_neg (by decide +kernel), lookup_putF, if_neg (by decide +kernel), lookup_putF, if_neg (by decide +kernel), lookup_putF, if_neg (by decide +kernel), lookup_putF, if_pos rfl]
theorem lk_params (v : V) (d : Nat → Addr) : (flds v d).lookup ("params_of" : Str) = some (.ref (d 2)) := by
  unfold flds
  rw [lookup_putF, if_neg (by decide +kernel), lookup_putF, if_neg (by decide +kernel), lookup_putF, if_neg (by decide +kernel), lookup_putF, if_pos rfl]
theorem lk_rows (v : V) (d : Nat → Addr) : (flds v d).lookup ("rows_of" : Str) = some (.ref (d 3)) := by
  unfold flds
  rw [lookup_putF, if_neg (by decide +kernel), lookup_putF, if_neg (by decide +kernel), lookup_putF, if_pos rfl]
theorem lk_names (v : V) (d : Nat → Addr) : (flds v d).lookup ("names_in" : Str) = some (.ref (d 4)) := by
  unfold flds
  rw [lookup_putF, if_neg (by decide +kernel), lookup_putF, if_pos rfl]
theorem lk_ways (v : V) (d : Nat → Addr) : (flds v d).lookup ("ways_in" : Str) = some (.ref (d 5)) := by
  unfold flds
  rw [lookup_putF, if_pos rfl]
theorem lk_no (v : V) (d : Nat → Addr) : (flds v d).lookup ("row_at" : Str) = none ∧ (flds v d).lookup ("ways_at" : Str) = none := by
  unfold flds
  constructor <;> (rw [lookup_putF, if_neg (by decide +kernel), lookup_putF, if_neg (by decide +kernel), lookup_putF, if_neg (by decide +kernel), lookup_putF, if_neg (by decide +kernel), lookup_putF, if_neg (by decide +kernel), lookup_putF, if_neg (by decide +kernel), lookup_putF, if_neg (by decide +kernel)]; rfl)
def FlowsAt (K : PySem.W.Frag) (C : Addr) (H : Hp) (x : Addr) (fns : List Fd) : Prop := ∃ dx v d kv, FS C H x dx (flds v d) d kv ∧ kv 3 = rowsD fns ∧ ∀ f ∈ fns, FnAt K H f
theorem FlowsAt.mono {K : PySem.W.Frag} {C : Addr} {H H' : Hp} {x : Addr} {fns : List Fd} (e : Same H H') (h : FlowsAt K C H x fns) : FlowsAt K C H' x fns :=
  let ⟨dx, v, d, kv, h1, h2, h3⟩ := h; ⟨dx, v, d, kv, h1.mono e, h2, fun f hf => (h3 f hf).mono e⟩
def dd (d0 d1 d2 d3 d4 d5 : Addr) : Nat → Addr
  | 0 => d0
  | 1 => d1
  | 2 => d2
  | 3 => d3
  | 4 => d4
  | _ => d5
theorem new_ne {H : Hp} {a b : Addr} {o : HO} (h : upd H a o b = none) : b ≠ a ∧ H b = none := by
  have hn : b ≠ a := fun z => by rw [z, upd_same] at h; cases h
  rw [upd_ne hn] at h
  exact ⟨hn, h⟩
theorem upd_at {H : Hp} {a b : Addr} {o o' : HO} (h : H b = some o) (hn : b ≠ a) : upd H a o' b = some o := by rw [upd_ne hn]; exact h
theorem fld_len (f : Str) (v : V) (l : List (Str × V)) (k : Nat) (h : l.length ≤ k) : (putF f v l).length ≤ k + 1 := Nat.le_trans (length_putF f v l) (by omega)
theorem at_ref {α : Type} {l : List α} {f : α → V} {r : Int} {a : α} (h0 : 0 ≤ r) (h : l[r.toNat]? = some a) : atI (l.map f) r = some (f a) := by
  obtain ⟨j, rfl⟩ := Int.eq_ofNat_of_zero_le h0
  refine atI_nat ?_
  rw [Int.toNat_natCast] at h
  rw [List.getElem?_map, h]
  rfl
end Fl

set_option Elab.async false
set_option linter.all false
set_option maxRecDepth 100000
set_option maxHeartbeats 4000000
namespace L2
open PySem

def hl (H : Hp) : Hp := fun b => match H b with
  | some (.lst xs) => some (.lst xs)
  | some (.tup xs) => some (.tup xs)
  | _ => none
theorem hl_same {H : Hp} : Same (hl H) H := fun b o h => by
  unfold hl at h
  split at h
  · rename_i e; rw [e]; exact h
  · rename_i e; rw [e]; exact h
  · cases h
theorem hl_lst {H : Hp} {b : Addr} {xs : List V} (h : H b = some (.lst xs)) : hl H b = some (.lst xs) := by unfold hl; rw [h]
theorem hl_tup {H : Hp} {b : Addr} {xs : List V} (h : H b = some (.tup xs)) : hl H b = some (.tup xs) := by unfold hl; rw [h]
theorem Same.hl {H H' : Hp} (e : Same H H') : Same (hl H) (hl H') := fun b o h => by
  have h1 := hl_same _ _ h
  have h2 := e _ _ h1
  unfold L2.hl at h ⊢
  rw [h1] at h
  rw [h2]
  exact h

theorem hl_upd {H : Hp} {a : Addr} {o : HO} (h : ∀ xs, H a ≠ some (.lst xs) ∧ H a ≠ some (.tup xs)) (ho : ∀ xs, o ≠ .lst xs ∧ o ≠ .tup xs) : hl (upd H a o) = hl H := by
  funext b
  unfold hl upd
  by_cases hb : b = a
  · subst hb
    rw [if_pos rfl]
    cases o with
    | lst xs => exact absurd rfl (ho xs).1
    | tup xs => exact absurd rfl (ho xs).2
    | _ =>
      cases e : H b with
      | none => rfl
      | some u => cases u with
        | lst xs => exact absurd e (h xs).1
        | tup xs => exact absurd e (h xs).2
        | _ => rfl
  · rw [if_neg hb]
theorem hl_dK {H : Hp} {a : Addr} {kvs kvs' : List (Key × V)} (h : H a = some (.dK kvs)) : hl (upd H a (.dK kvs')) = hl H :=
  hl_upd (fun xs => ⟨(by rw [h]; intro z; cases z), (by rw [h]; intro z; cases z)⟩) fun xs => ⟨(by intro z; cases z), (by intro z; cases z)⟩
end L2
namespace K13
open PySem L2
theorem FoundN.hl {H : Hp} {l : Addr} {ks : List Str} {i : Nat} (h : FoundN H l ks i) : FoundN (L2.hl H) l ks i := by
  obtain ⟨vs, h1, h2, h3⟩ := h
  refine ⟨vs, hl_lst h1, h2, fun k v q => ?_⟩
  obtain ⟨o, d, z⟩ := h3 k v q
  refine ⟨o, d, ?_⟩
  cases o with
  | none => exact z
  | some l => obtain ⟨p, z1, z2⟩ := z; exact ⟨p, z1, hl_tup z2⟩
end K13
namespace F2
open PySem L2 Gx Fl
structure Fd where
  name : Str
  fo : V
  fa : Addr
  pa : Addr
  ra : Addr
  ps : List Str
  rs : List Rw
  ds : List K12.RowD
structure FnAt (K : PySem.W.Frag) (H : Hp) (f : Fd) : Prop where
  fn : SqT K H f.fa [.str f.name, f.fo, .ref f.pa, .ref f.ra]
  pr : SqT K H f.pa (f.ps.map V.str)
  rw_ : SqT K H f.ra (f.rs.map fun w => V.ref w.r)
  rk : ∀ w ∈ f.rs, RowK K H w
  fu : K12.FunAt K H f.fa f.ps f.ds
  wf : K13.Wf (f.rs.map (·.k))
  len : f.rs.length ≤ 100
theorem FnAt.mono {K : PySem.W.Frag} {H H' : Hp} {f : Fd} (e : Same H H') (h : FnAt K H f) : FnAt K H' f :=
  ⟨e.tup h.fn, e.tup h.pr, e.tup h.rw_, fun w hw => (h.rk w hw).mono e, h.fu.mono e, h.wf, h.len⟩
def toF (f : Fd) : Fl.Fd := ⟨f.name, f.fa, f.ra, f.rs⟩
theorem FnAt.old {K : PySem.W.Frag} {H : Hp} {f : Fd} (h : FnAt K H f) : Fl.FnAt K H (toF f) := ⟨⟨_, _, h.fn⟩, h.rw_, h.rk, ⟨_, _, h.fu⟩, h.wf, h.len⟩

def nms (f : Fd) : List Str := K12.onceL (K12.allOf f.ps f.ds)
def kds (f : Fd) : List Str := f.rs.map (·.k)

def kD (g : Nat → Fd → V) (fns : List Fd) : List (Key × V) := fns.mapIdx fun i f => (Sum.inr f.name, g i f)
theorem kD_snoc (g : Nat → Fd → V) (fns : List Fd) (f : Fd) : kD g (fns ++ [f]) = kD g fns ++ [(Sum.inr f.name, g fns.length f)] := by
  unfold kD
  rw [List.mapIdx_append]
  simp
theorem kD_congr {g g' : Nat → Fd → V} {fns : List Fd} (h : ∀ i f, i < fns.length → g i f = g' i f) : kD g fns = kD g' fns := by
  unfold kD
  refine List.ext_getElem (by simp) fun i h1 h2 => ?_
  simp only [List.getElem_mapIdx]
  rw [h i _ (by simpa using h1)]
theorem kD_none (g : Nat → Fd → V) {fns : List Fd} {s : Str} (h : s ∉ fns.map (·.name)) : valV (kD g fns) (Sum.inr s : Key) = none := by
  unfold valV
  rw [Option.map_eq_none_iff, List.find?_eq_none]
  intro kv hkv z
  unfold kD at hkv
  obtain ⟨i, hi, e⟩ := List.mem_mapIdx.mp hkv
  subst e
  have z : (Sum.inr fns[i].name : Key) = Sum.inr s := by simpa using z
  exact h (List.mem_map.mpr ⟨fns[i], List.getElem_mem hi, Sum.inr.inj z⟩)
theorem not_before {fns : List Fd} {f : Fd} {i : Nat} (h : fns[i]? = some f) (nd : (fns.map (·.name)).Nodup) : f.name ∉ (fns.take i).map (·.name) := by
  intro z
  obtain ⟨g, hg, e⟩ := List.mem_map.mp z
  obtain ⟨j, hj⟩ := List.getElem?_of_mem hg
  have hji : j < i := by
    have := (List.getElem?_eq_some_iff.mp hj).1
    rw [List.length_take] at this
    omega
  rw [List.getElem?_take_of_lt hji] at hj
  have h1 : (fns.map (·.name))[i]? = some f.name := by rw [List.getElem?_map, h]; rfl
  have h2 : (fns.map (·.name))[j]? = some f.name := by rw [List.getElem?_map, hj]; exact congrArg some e
  have := (List.getElem?_inj (List.getElem?_eq_some_iff.mp h2).1 nd).mp (h2.trans h1.symm)
  omega
theorem kD_put {g g' : Nat → Fd → V} {fns : List Fd} {f : Fd} {i : Nat} {v : V} (h : fns[i]? = some f) (nd : (fns.map (·.name)).Nodup) (hg : ∀ j f, j < i → g j f = g' j f) (hv : v = g' i f) : putK (kD g (fns.take i)) (Sum.inr f.name : Key) v = kD g' (fns.take (i + 1)) := by
  have hi : i < fns.length := (List.getElem?_eq_some_iff.mp h).1
  have hl : (fns.take i).length = i := by rw [List.length_take]; omega
  rw [putK_new _ (kD_none g (not_before h nd)), List.take_add_one, h]
  show _ = kD g' (fns.take i ++ [f])
  rw [kD_snoc, hl, ← hv, kD_congr (g := g) (g' := g') fun j f hj => hg j f (by omega)]
theorem kD_at (g : Nat → Fd → V) : ∀ {fns : List Fd} {i : Nat} {f : Fd}, (fns.map (·.name)).Nodup → fns[i]? = some f → valV (kD g fns) (Sum.inr f.name : Key) = some (g i f) := by
  intro fns i f nd h
  have hi : i < fns.length := (List.getElem?_eq_some_iff.mp h).1
  have key : ∀ k, i < k → k ≤ fns.length → valV (kD g (fns.take k)) (Sum.inr f.name : Key) = some (g i f) := by
    intro k
    induction k with
    | zero => intro h0; exact absurd h0 (Nat.not_lt_zero _)
    | succ k ih =>
      intro hk hk'
      obtain ⟨f', hf'⟩ : ∃ f', fns[k]? = some f' := ⟨fns[k], List.getElem?_eq_getElem (by omega)⟩
      rw [← kD_put (g := g) (g' := g) hf' nd (fun _ _ _ => rfl) rfl, valV_put]
      by_cases e : i = k
      · subst e
        rw [h] at hf'
        cases hf'
        rw [if_pos rfl]
      · have hn : ¬ (Sum.inr f.name : Key) = Sum.inr f'.name := fun z => not_before hf' nd (List.mem_map.mpr ⟨f, List.mem_of_getElem? (by rw [List.getElem?_take_of_lt (show i < k by omega)]; exact h), Sum.inr.inj z⟩)
        rw [if_neg hn]
        exact ih (by omega) (by omega)
  have := key fns.length hi (Nat.le_refl _)
  rw [List.take_length] at this
  exact this

structure FlowsAt (K : PySem.W.Frag) (C : Addr) (H : Hp) (x : Addr) (fns : List Fd) : Prop where
  all : ∀ f ∈ fns, FnAt K H f
  nd : (fns.map (·.name)).Nodup
  ob : ∃ dx fz d kv, ∃ nl wl : Nat → Addr, fns[fns.length - 1]? = some fz ∧ FS C H x dx (flds (V.str fz.name) d) d kv ∧ kv 0 = kD (fun i _ => .int i) fns ∧ kv 1 = kD (fun _ f => f.fo) fns ∧ kv 2 = kD (fun _ f => .ref f.pa) fns ∧ kv 3 = kD (fun _ f => .ref f.ra) fns ∧
    kv 4 = kD (fun i _ => .ref (nl i)) fns ∧ kv 5 = kD (fun i _ => .ref (wl i)) fns ∧ ∀ i f, fns[i]? = some f → H (nl i) = some (.lst ((nms f).map V.str)) ∧ K13.FoundN H (wl i) (kds f) (kds f).length
theorem FlowsAt.mono {K : PySem.W.Frag} {C : Addr} {H H' : Hp} {x : Addr} {fns : List Fd} (e : Same H H') (h : FlowsAt K C H x fns) : FlowsAt K C H' x fns := by
  obtain ⟨dx, fz, d, kv, nl, wl, h0, h1, h2, h3, h4, h5, h6, h7, h8⟩ := h.ob
  exact ⟨fun f hf => (h.all f hf).mono e, h.nd, ⟨dx, fz, d, kv, nl, wl, h0, h1.mono e, h2, h3, h4, h5, h6, h7, fun i f hi => ⟨e _ _ (h8 i f hi).1, (h8 i f hi).2.mono e⟩⟩⟩
end F2

set_option Elab.async false
set_option linter.all false
set_option maxRecDepth 100000
set_option maxHeartbeats 4000000
namespace K41
open PySem L2 Gx Fl
structure RR where
  w : Rw
  d : K12.RowD
def RRok (K : PySem.W.Frag) (H : Hp) (x : RR) : Prop := x.w.r = x.d.r ∧ RowK K H x.w ∧ K12.RowAt K H x.d
theorem at_i (i : Int) : K12.Atom (.int i) := .inr ⟨i, rfl⟩
theorem at_s {s : Str} (h : K12.Nm s) : K12.Atom (.str s) := .inl ⟨s, rfl, h⟩
theorem mem1 {p : V → Prop} {a : V} (h : p a) : ∀ v ∈ [a], p v := fun v hv => by rw [List.mem_singleton.mp hv]; exact h
def rcall (r : Addr) (nm f : Str) (as : List V) : RR := ⟨⟨r, "call", f⟩, ⟨r, 0, 0, some nm, as⟩⟩
def rone (k : Str) (r : Addr) (a : V) : RR := ⟨⟨r, k, ""⟩, ⟨r, 0, 0, none, [a]⟩⟩
theorem ok_call {K : PySem.W.Frag} {H : Hp} {r q : Addr} {nm f : Str} {as : List V} (h : SqT K H r [.str "call", .str nm, .str f, .ref q]) (hn : K12.Nm nm) (hq : SqT K H q as) (ha : ∀ v ∈ as, K12.Atom v) (hl : as.length ≤ 10) : RRok K H (rcall r nm f as) :=
  ⟨rfl, ⟨_, h, fun _ => ⟨_, _, rfl⟩⟩, ⟨⟨_, h, .call nm f q as hq⟩, ha, hl, fun x hx => by cases hx; exact hn⟩⟩
theorem ok_out {K : PySem.W.Frag} {H : Hp} {r : Addr} {a : V} (h : SqT K H r [.str "out", a]) (ha : K12.Atom a) : RRok K H (rone "out" r a) :=
  ⟨rfl, ⟨_, h, fun z => absurd z (by show ¬ (("out" : Str) = "call"); decide +kernel)⟩, ⟨⟨_, h, .out a⟩, mem1 ha, by show 1 ≤ 10; decide, fun x hx => by cases hx⟩⟩
theorem ok_back {K : PySem.W.Frag} {H : Hp} {r : Addr} {a : V} (h : SqT K H r [.str "back", a]) (ha : K12.Atom a) : RRok K H (rone "back" r a) :=
  ⟨rfl, ⟨_, h, fun z => absurd z (by show ¬ (("back" : Str) = "call"); decide +kernel)⟩, ⟨⟨_, h, .back a⟩, mem1 ha, by show 1 ≤ 10; decide, fun x hx => by cases hx⟩⟩
theorem good_rep {ks os : List Str} {x : Str} (g : K13.Good ks os) (h1 : ¬ K13.isO x = true) (h2 : ¬ K13.isE x = true) (h3 : ¬ x = "end") : ∀ n, K13.Good (ks ++ List.replicate n x) os
  | 0 => by rw [List.replicate_zero, List.append_nil]; exact g
  | n + 1 => by rw [List.replicate_succ', ← List.append_assoc]; exact (good_rep g h1 h2 h3 n).plain h1 h2 h3
theorem FnAt.lst {K : PySem.W.Frag} {H : Hp} {f : Fd} {u : Addr} {l l' : List V} (h : FnAt K H f) (hu : H u = some (.lst l)) : FnAt K (upd H u (.lst l')) f := by
  refine ⟨?_, K13.sqT_lst h.rw_ hu, fun w hw => ?_, ?_, h.wf, h.len⟩
  · obtain ⟨a, b, z⟩ := h.fn
    exact ⟨a, b, K13.sqT_lst z hu⟩
  · obtain ⟨rest, h1, h2⟩ := h.rk w hw
    exact ⟨rest, K13.sqT_lst h1 hu, h2⟩
  · obtain ⟨ps, ds, z⟩ := h.fu
    obtain ⟨n, b, pp, r, z1, z2, z3⟩ := z.fn
    exact ⟨ps, ds, ⟨n, b, pp, r, K13.sqT_lst z1 hu, K13.sqT_lst z2 hu, K13.sqT_lst z3 hu⟩, fun d hd => K12.rowAt_lst (z.rows d hd) hu, z.pn, z.pl, z.dl⟩
end K41

set_option Elab.async false
set_option linter.all false
set_option maxRecDepth 100000
set_option maxHeartbeats 4000000
namespace Bg
open PySem L2 Gx Rk2

def trD : Tr → PyData
  | .box k => .tuple [.str "box", .int k]
  | .num v => .tuple [.str "num", .int v]
  | .op s l r => .tuple [.str s, trD l, trD r]
def sgOk : Tr → Prop
  | .op s l r => PyData.strOk s = true ∧ sgOk l ∧ sgOk r
  | _ => True
theorem trD_lay : ∀ {t : Tr}, sgOk t → Lay (dp t + 1) (trD t)
  | .box k, _ => by
    unfold trD dp
    refine Lay.tuple fun d hd => ?_
    rcases List.mem_cons.mp hd with rfl | hd
    · exact Lay.str ok_box
    · cases List.mem_singleton.mp hd; exact Lay.int _
  | .num v, _ => by
    unfold trD dp
    refine Lay.tuple fun d hd => ?_
    rcases List.mem_cons.mp hd with rfl | hd
    · exact Lay.str ok_num
    · cases List.mem_singleton.mp hd; exact Lay.int _
  | .op s l r, h => by
    have h1 := trD_lay h.2.1
    have h2 := trD_lay h.2.2
    unfold trD dp
    refine Lay.tuple fun d hd => ?_
    rcases List.mem_cons.mp hd with rfl | hd
    · exact Lay.str h.1
    · rcases List.mem_cons.mp hd with rfl | hd
      · exact h1.mono (by have := Nat.le_max_left (dp l) (dp r); omega)
      · cases List.mem_singleton.mp hd; exact h2.mono (by have := Nat.le_max_right (dp l) (dp r); omega)
theorem datV_tr {K : PySem.W.Frag} {H : Hp} : ∀ {t : Tr} {v : V}, RAt H t v → DatV K H (trD t) v
  | .box k, v, h => by
    obtain ⟨p, rfl, e⟩ := h
    unfold trD DatV
    refine ⟨p, _, rfl, SqT.of e, ?_⟩
    unfold DatAll
    refine ⟨_, _, rfl, by unfold DatV; rfl, ?_⟩
    unfold DatAll
    refine ⟨_, _, rfl, by unfold DatV; rfl, ?_⟩
    unfold DatAll
    rfl
  | .num k, v, h => by
    obtain ⟨p, rfl, e⟩ := h
    unfold trD DatV
    refine ⟨p, _, rfl, SqT.of e, ?_⟩
    unfold DatAll
    refine ⟨_, _, rfl, by unfold DatV; rfl, ?_⟩
    unfold DatAll
    refine ⟨_, _, rfl, by unfold DatV; rfl, ?_⟩
    unfold DatAll
    rfl
  | .op s l r, v, h => by
    obtain ⟨p, x, y, rfl, e, n1, n2, hx, hy⟩ := h
    have ix := datV_tr (K := K) hx
    have iy := datV_tr (K := K) hy
    unfold trD DatV
    refine ⟨p, _, rfl, SqT.of e, ?_⟩
    unfold DatAll
    refine ⟨_, _, rfl, by unfold DatV; rfl, ?_⟩
    unfold DatAll
    refine ⟨_, _, rfl, ix, ?_⟩
    unfold DatAll
    refine ⟨_, _, rfl, iy, ?_⟩
    unfold DatAll
    rfl
structure Fr where
  a : Addr
  g : Str
  r : Int
def frD (f : Fr) : PyData := .tuple [.str f.g, .int f.r]
def chD (fr : List Fr) : PyData := .tuple (fr.map frD)
def ChAt (K : PySem.W.Frag) (H : Hp) (c : Addr) (fr : List Fr) : Prop := SqT K H c (fr.map fun f => V.ref f.a) ∧ ∀ f ∈ fr, SqT K H f.a [.str f.g, .int f.r] ∧ PyData.strOk f.g = true
theorem ChAt.mono {K : PySem.W.Frag} {H H' : Hp} {c : Addr} {fr : List Fr} (h : ChAt K H c fr) (e : Same H H') : ChAt K H' c fr := ⟨e.tup h.1, fun f hf => ⟨e.tup (h.2 f hf).1, (h.2 f hf).2⟩⟩
theorem datAll_fr {K : PySem.W.Frag} {H : Hp} : ∀ {fr : List Fr}, (∀ f ∈ fr, SqT K H f.a [.str f.g, .int f.r]) → DatAll K H (fr.map frD) (fr.map fun f => V.ref f.a)
  | [], _ => by rw [List.map_nil]; unfold DatAll; rfl
  | f :: fr, h => by
    rw [List.map_cons]
    unfold DatAll
    exact ⟨_, _, rfl, datV_pair (h f List.mem_cons_self), datAll_fr fun g hg => h g (List.mem_cons_of_mem _ hg)⟩
theorem ChAt.dat {K : PySem.W.Frag} {H : Hp} {c : Addr} {fr : List Fr} (h : ChAt K H c fr) : DatV K H (chD fr) (.ref c) := by
  unfold chD DatV
  exact ⟨c, _, rfl, h.1, datAll_fr fun f hf => (h.2 f hf).1⟩
theorem ChAt.lay {K : PySem.W.Frag} {H : Hp} {c : Addr} {fr : List Fr} (h : ChAt K H c fr) : Lay 2 (chD fr) := by
  unfold chD
  refine Lay.tuple fun d hd => ?_
  obtain ⟨f, hf, rfl⟩ := List.mem_map.mp hd
  unfold frD
  refine Lay.tuple fun d hd => ?_
  rcases List.mem_cons.mp hd with rfl | hd
  · exact Lay.str (h.2 f hf).2
  · cases List.mem_singleton.mp hd; exact Lay.int _
def gN (m : Int) : Int → Option Tr := fun k => if m ≤ k ∧ k < 128 then some (.num 0) else none
def VAt (H : Hp) : Option Tr → V → Prop
  | none, v => v = .non
  | some t, v => RAt H t v
theorem VAt.mono {H H' : Hp} {o : Option Tr} {v : V} (h : VAt H o v) (e : Same H H') : VAt H' o v := by
  cases o with
  | none => exact h
  | some t => exact RAt.mono e h
theorem VAt.lst {H : Hp} {q : Addr} {l : List V} {o : HO} (hq : H q = some (.lst l)) {u : Option Tr} {v : V} (h : VAt H u v) : VAt (upd H q o) u v := by
  cases u with
  | none => exact h
  | some t => exact RAt.lst hq h
def TOk (t : Tr) : Prop := okl (lvs t) ∧ sgOk t ∧ dp t ≤ 8 ∧ ∀ k, (true, k) ∈ lvs t → 0 ≤ k ∧ k < 128
def TOk' (n : Nat) (t : Tr) : Prop := okl (lvs t) ∧ sgOk t ∧ dp t ≤ n ∧ ∀ k, (true, k) ∈ lvs t → 0 ≤ k ∧ k < 128
theorem TOk'.ok {n : Nat} {t : Tr} (h : TOk' n t) (hn : n ≤ 8) : TOk t := ⟨h.1, h.2.1, Nat.le_trans h.2.2.1 hn, h.2.2.2⟩
theorem TOk'.mono {n m : Nat} {t : Tr} (h : TOk' n t) (hn : n ≤ m) : TOk' m t := ⟨h.1, h.2.1, Nat.le_trans h.2.2.1 hn, h.2.2.2⟩
def begun (m : Int) (k : Nat) : Tr := if (k : Int) < m then .box k else .num 0
def Holds (wait : Prop) (ch : List (Str × Int)) (name : Str) (m : Int) (view : List (Option Tr)) : Prop := ¬ wait ∧ ch = [(name, 0)] ∧ ∀ k t, view[k]? = some (some t) → pt (gN m) t = begun m k

def BgAt (K : PySem.W.Frag) (H : Hp) (sA mA : Addr) (kd : Str) (fr : List Fr) (view : List (Option Tr)) : Prop :=
  ∃ (s0 ac m0 ca va v0 : Addr) (u0 : V) (sr ar mr vr us : List V), SqL K H sA (.ref s0 :: sr) ∧ SqT K H s0 [u0, .ref ac] ∧ SqT K H ac (.str kd :: ar) ∧ SqL K H mA (.ref m0 :: mr) ∧ SqT K H m0 [.ref ca, .ref va] ∧ ChAt K H ca fr ∧ SqL K H va (.ref v0 :: vr) ∧ SqL K H v0 us ∧ Ps (VAt H) us view ∧ view.length ≤ 100 ∧ ∀ t, some t ∈ view → TOk t
theorem BgAt.mono {K : PySem.W.Frag} {H H' : Hp} {sA mA : Addr} {kd : Str} {fr : List Fr} {view : List (Option Tr)} (h : BgAt K H sA mA kd fr view) (e : Same H H') : BgAt K H' sA mA kd fr view := by
  obtain ⟨s0, ac, m0, ca, va, v0, u0, sr, ar, mr, vr, us, h1, h2, h3, h4, h5, h6, h7, h8, h9, h10, h11⟩ := h
  exact ⟨s0, ac, m0, ca, va, v0, u0, sr, ar, mr, vr, us, e.seq h1, e.tup h2, e.tup h3, e.seq h4, e.tup h5, h6.mono e, e.seq h7, e.seq h8, Ps.imp (fun _ _ z => VAt.mono z e) h9, h10, h11⟩

end Bg

set_option Elab.async false
set_option linter.all false
set_option maxRecDepth 100000
set_option maxHeartbeats 4000000
namespace Bg
open PySem L2 Gx K41

def HasD (K : PySem.W.Frag) (H : Hp) (n : Nat) (v : V) : Prop := ∃ d, Lay n d ∧ DatV K H d v
def HasA (K : PySem.W.Frag) (H : Hp) (n : Nat) (xs : List V) : Prop := ∃ ds, (∀ d ∈ ds, Lay n d) ∧ DatAll K H ds xs
theorem HasD.mono {K : PySem.W.Frag} {H H' : Hp} {n : Nat} {v : V} (h : HasD K H n v) (e : Same H H') : HasD K H' n v := let ⟨d, l, z⟩ := h; ⟨d, l, DatV.mono e d v z⟩
theorem HasD.up {K : PySem.W.Frag} {H : Hp} {n m : Nat} {v : V} (h : HasD K H n v) (e : n ≤ m) : HasD K H m v := let ⟨d, l, z⟩ := h; ⟨d, l.mono e, z⟩
theorem HasD.str {K : PySem.W.Frag} {H : Hp} {n : Nat} {s : Str} (h : PyData.strOk s = true) : HasD K H n (.str s) := ⟨.str s, Lay.str h, by unfold DatV; rfl⟩
theorem HasD.int {K : PySem.W.Frag} {H : Hp} {n : Nat} {i : Int} : HasD K H n (.int i) := ⟨.int i, Lay.int i, by unfold DatV; rfl⟩
theorem HasD.bl {K : PySem.W.Frag} {H : Hp} {n : Nat} {b : Bool} : HasD K H n (.bl b) := ⟨.bool b, Lay.bool b, by unfold DatV; rfl⟩
theorem HasD.non {K : PySem.W.Frag} {H : Hp} {n : Nat} : HasD K H n .non := ⟨.none, Lay.none, by unfold DatV; rfl⟩
theorem HasA.nil {K : PySem.W.Frag} {H : Hp} {n : Nat} : HasA K H n [] := ⟨[], fun d h => (by cases h), by unfold DatAll; rfl⟩
theorem HasA.cons {K : PySem.W.Frag} {H : Hp} {n : Nat} {x : V} {xs : List V} (h : HasD K H n x) (t : HasA K H n xs) : HasA K H n (x :: xs) := by
  obtain ⟨d, l, z⟩ := h
  obtain ⟨ds, ls, zs⟩ := t
  refine ⟨d :: ds, fun e he => (List.mem_cons.mp he).elim (fun z => z ▸ l) (ls e), ?_⟩
  unfold DatAll
  exact ⟨_, _, rfl, z, zs⟩
theorem HasA.of {K : PySem.W.Frag} {H : Hp} {n : Nat} : ∀ {xs : List V}, (∀ x ∈ xs, HasD K H n x) → HasA K H n xs
  | [], _ => .nil
  | x :: xs, h => .cons (h x List.mem_cons_self) (HasA.of fun y hy => h y (List.mem_cons_of_mem _ hy))
theorem HasD.tup {K : PySem.W.Frag} {H : Hp} {n : Nat} {a : Addr} {xs : List V} (h : SqT K H a xs) (t : HasA K H n xs) : HasD K H (n + 1) (.ref a) := by
  obtain ⟨ds, ls, zs⟩ := t
  refine ⟨.tuple ds, Lay.tuple ls, ?_⟩
  unfold DatV
  exact ⟨a, xs, rfl, h, zs⟩
theorem HasD.lst {K : PySem.W.Frag} {H : Hp} {n : Nat} {a : Addr} {xs : List V} (h : SqL K H a xs) (t : HasA K H n xs) : HasD K H (n + 1) (.ref a) := by
  obtain ⟨ds, ls, zs⟩ := t
  refine ⟨.list ds, Lay.list ls, ?_⟩
  unfold DatV
  exact ⟨a, xs, rfl, h, zs⟩

def Twin (K : PySem.W.Frag) (H : Hp) (n : Nat) (x y : V) : Prop := ∃ d, Lay n d ∧ DatV K H d x ∧ DatV K H d y
def TwinA (K : PySem.W.Frag) (H : Hp) (n : Nat) (xs ys : List V) : Prop := ∃ ds, (∀ d ∈ ds, Lay n d) ∧ DatAll K H ds xs ∧ DatAll K H ds ys
theorem Twin.of {K : PySem.W.Frag} {H : Hp} {n : Nat} {x : V} (h : HasD K H n x) : Twin K H n x x := let ⟨d, l, z⟩ := h; ⟨d, l, z, z⟩
theorem Twin.up {K : PySem.W.Frag} {H : Hp} {n m : Nat} {x y : V} (h : Twin K H n x y) (e : n ≤ m) : Twin K H m x y := let ⟨d, l, z⟩ := h; ⟨d, l.mono e, z⟩
theorem TwinA.nil {K : PySem.W.Frag} {H : Hp} {n : Nat} : TwinA K H n [] [] := ⟨[], fun d h => (by cases h), (by unfold DatAll; rfl), (by unfold DatAll; rfl)⟩
theorem TwinA.cons {K : PySem.W.Frag} {H : Hp} {n : Nat} {x y : V} {xs ys : List V} (h : Twin K H n x y) (t : TwinA K H n xs ys) : TwinA K H n (x :: xs) (y :: ys) := by
  obtain ⟨d, l, z1, z2⟩ := h
  obtain ⟨ds, ls, zs1, zs2⟩ := t
  refine ⟨d :: ds, fun e he => (List.mem_cons.mp he).elim (fun z => z ▸ l) (ls e), ?_, ?_⟩
  · unfold DatAll
    exact ⟨_, _, rfl, z1, zs1⟩
  · unfold DatAll
    exact ⟨_, _, rfl, z2, zs2⟩
theorem TwinA.of {K : PySem.W.Frag} {H : Hp} {n : Nat} {xs : List V} (h : HasA K H n xs) : TwinA K H n xs xs := let ⟨ds, l, z⟩ := h; ⟨ds, l, z, z⟩
theorem TwinA.at {K : PySem.W.Frag} {H : Hp} {n : Nat} : ∀ {xs ys : List V}, xs.length = ys.length → (∀ (i : Nat) x y, xs[i]? = some x → ys[i]? = some y → Twin K H n x y) → TwinA K H n xs ys
  | [], [], _, _ => .nil
  | x :: xs, y :: ys, e, h => .cons (h 0 x y rfl rfl) (TwinA.at (by simpa using e) fun i a b ha hb => h (i + 1) a b (by simpa using ha) (by simpa using hb))
  | [], _ :: _, e, _ => by cases e
  | _ :: _, [], e, _ => by cases e
theorem Twin.tup {K : PySem.W.Frag} {H : Hp} {n : Nat} {a b : Addr} {xs ys : List V} (h1 : SqT K H a xs) (h2 : SqT K H b ys) (t : TwinA K H n xs ys) : Twin K H (n + 1) (.ref a) (.ref b) := by
  obtain ⟨ds, ls, z1, z2⟩ := t
  refine ⟨.tuple ds, Lay.tuple ls, ?_, ?_⟩
  · unfold DatV
    exact ⟨a, xs, rfl, h1, z1⟩
  · unfold DatV
    exact ⟨b, ys, rfl, h2, z2⟩
theorem Twin.lst {K : PySem.W.Frag} {H : Hp} {n : Nat} {a b : Addr} {xs ys : List V} (h1 : SqL K H a xs) (h2 : SqL K H b ys) (t : TwinA K H n xs ys) : Twin K H (n + 1) (.ref a) (.ref b) := by
  obtain ⟨ds, ls, z1, z2⟩ := t
  refine ⟨.list ds, Lay.list ls, ?_, ?_⟩
  · unfold DatV
    exact ⟨a, xs, rfl, h1, z1⟩
  · unfold DatV
    exact ⟨b, ys, rfl, h2, z2⟩
theorem Twin.eq {K : PySem.W.Frag} {H : Hp} {Q : VK} {n : Nat} {x y : V} (h : Twin K H n x y) (hn : n ≤ 64) (q : Q (.bl true) H) : rEqD K x y H Q := let ⟨d, l, z1, z2⟩ := h; rEqD_same hn l z1 z2 q
theorem VAt.has {K : PySem.W.Frag} {H : Hp} {o : Option Rk2.Tr} {v : V} (h : VAt H o v) (t : ∀ t, o = some t → TOk t) : HasD K H 9 v := by
  cases o with
  | none => rw [show v = .non from h]; exact .non
  | some tr => exact ⟨trD tr, (trD_lay (t tr rfl).2.1).mono (by have := (t tr rfl).2.2.1; omega), datV_tr h⟩
theorem ChAt.has {K : PySem.W.Frag} {H : Hp} {c : Addr} {fr : List Fr} (h : ChAt K H c fr) : HasD K H 2 (.ref c) := ⟨chD fr, h.lay, h.dat⟩
theorem RRok.mono {K : PySem.W.Frag} {H H' : Hp} {x : RR} (h : RRok K H x) (e : Same H H') : RRok K H' x := ⟨h.1, h.2.1.mono e, h.2.2.mono e⟩
theorem fn_mk2 {K : PySem.W.Frag} {H : Hp} {nk : Str} {fa tr qC : Addr} {fo : V} {ps : List Str} (rr : List RR) (h1 : SqT K H fa [.str nk, fo, .ref qC, .ref tr]) (h2 : SqT K H tr (rr.map fun x => V.ref x.w.r)) (h3 : ∀ x ∈ rr, RRok K H x) (h4 : SqT K H qC (ps.map V.str)) (h5 : ∀ s ∈ ps, K12.Nm s) (h6 : ps.length ≤ 100) (h7 : rr.length ≤ 100) (wf : K13.Wf (rr.map fun x => x.w.k)) :
    F2.FnAt K H ⟨nk, fo, fa, qC, tr, ps, rr.map (·.w), rr.map (·.d)⟩ := by
  refine ⟨h1, h4, by show SqT K H tr ((rr.map (·.w)).map fun w => V.ref w.r); rw [List.map_map]; exact h2, fun w hw => ?_, ⟨⟨_, _, _, _, h1, h4, ?_⟩, fun d hd => ?_, h5, h6, by show (rr.map (·.d)).length ≤ 100; rw [List.length_map]; exact h7⟩, by show K13.Wf ((rr.map (·.w)).map (·.k)); rw [List.map_map]; exact wf, by show (rr.map (·.w)).length ≤ 100; rw [List.length_map]; exact h7⟩
  · obtain ⟨x, hx, rfl⟩ := List.mem_map.mp hw
    exact (h3 x hx).2.1
  · show SqT K H tr ((rr.map (·.d)).map fun d => V.ref d.r)
    rw [List.map_map]
    have : (rr.map fun x => V.ref x.w.r) = rr.map ((fun d => V.ref d.r) ∘ (·.d)) := List.map_congr_left fun x hx => by
      show V.ref x.w.r = V.ref x.d.r
      rw [(h3 x hx).1]
    rw [← this]
    exact h2
  · obtain ⟨x, hx, rfl⟩ := List.mem_map.mp hd
    exact (h3 x hx).2.2
def RowL (K : PySem.W.Frag) (H : Hp) (x : RR) : Prop := RRok K H x ∧ HasD K H 3 (.ref x.w.r)
theorem RowL.mono {K : PySem.W.Frag} {H H' : Hp} {x : RR} (h : RowL K H x) (e : Same H H') : RowL K H' x := ⟨RRok.mono h.1 e, h.2.mono e⟩
end Bg

set_option Elab.async false
set_option linter.all false
set_option maxRecDepth 100000
set_option maxHeartbeats 4000000
namespace K55
open PySem L2 Gx Fl Sk

abbrev SN := {x : Str // PyData.strOk x = true}

abbrev Stp := List (SN × Nat) × Bool
def frD (p : SN × Nat) : PyData := .tuple [.str p.1.1, .int p.2]
def stD (s : Stp) : PyData := .tuple [.tuple (s.1.reverse.map frD), .bool s.2]
theorem eqv_fr (p q : SN × Nat) : PyData.eqv (frD p) (frD q) = decide (p = q) := by
  obtain ⟨⟨x, hx⟩, n⟩ := p
  obtain ⟨⟨y, hy⟩, m⟩ := q
  unfold frD PyData.eqv PyData.eqvAll PyData.eqvAll PyData.eqvAll PyData.eqv
  rw [Bool.eq_iff_iff]
  simp
  intro _
  omega
theorem eqvAll_fr : ∀ l m : List (SN × Nat), PyData.eqvAll (l.map frD) (m.map frD) = decide (l = m)
  | [], [] => by simp [PyData.eqvAll]
  | [], _ :: _ => by simp [PyData.eqvAll]
  | _ :: _, [] => by simp [PyData.eqvAll]
  | p :: l, q :: m => by
    rw [List.map_cons, List.map_cons]
    unfold PyData.eqvAll
    rw [eqv_fr, eqvAll_fr l m, Bool.eq_iff_iff]
    simp
theorem eqv_st (s u : Stp) : PyData.eqv (stD s) (stD u) = decide (s = u) := by
  obtain ⟨c, b⟩ := s
  obtain ⟨d, e⟩ := u
  unfold stD
  have h : PyData.eqv (.tuple (c.reverse.map frD)) (.tuple (d.reverse.map frD)) = decide (c = d) := by
    unfold PyData.eqv
    rw [eqvAll_fr, Bool.eq_iff_iff]
    simp
  have h2 : PyData.eqv (.bool b) (.bool e) = decide (b = e) := by
    unfold PyData.eqv
    rw [Bool.eq_iff_iff]; simp
  show PyData.eqvAll [_, _] [_, _] = _
  unfold PyData.eqvAll PyData.eqvAll PyData.eqvAll
  rw [h, h2, Bool.eq_iff_iff]
  simp
theorem hok_fr (p : SN × Nat) : hok 1 (frD p) = true := by
  unfold frD hok
  simp [hok, p.1.2]
theorem hok_st (s : Stp) : hok 3 (stD s) = true := by
  have : (s.1.reverse.map frD).all (hok 1) = true := by
    rw [List.all_eq_true]
    intro d hd
    obtain ⟨p, _, rfl⟩ := List.mem_map.mp hd
    exact hok_fr p
  show (hok 2 (.tuple (s.1.reverse.map frD)) && (hok 2 (.bool s.2) && true)) = true
  have h2 : hok 2 (.tuple (s.1.reverse.map frD)) = true := this
  rw [h2]
  rfl
def stDK : DK Stp where
  D := stD
  n := 3
  n8 := by decide
  ok := hok_st
  eqv := eqv_st
  inj := fun a b h => by
    have e1 := eqv_st a b
    rw [← h, eqv_st a a, decide_eq_true rfl] at e1
    exact of_decide_eq_true e1.symm

def FrV (K : PySem.W.Frag) (H : Hp) (p : SN × Nat) (v : V) : Prop := ∃ a, v = .ref a ∧ SqT K H a [.str p.1.1, .int p.2]
def ChA (K : PySem.W.Frag) (H : Hp) (ca : Addr) (rc : List (SN × Nat)) : Prop := ∃ ys, SqT K H ca ys.reverse ∧ Paired (FrV K H) rc ys
def StA (K : PySem.W.Frag) (H : Hp) (b : Addr) (s : Stp) : Prop := ∃ ca, SqT K H b [.ref ca, .bl s.2] ∧ ChA K H ca s.1

def TS (H H' : Hp) : Prop := ∀ b xs, Rd H b (.tup xs) → Rd H' b (.tup xs)
theorem TS.tup {K : PySem.W.Frag} {H H' : Hp} {a : Addr} {xs : List V} (e : TS H H') (h : SqT K H a xs) : SqT K H' a xs := h.imp (e a xs) id
theorem TS.of {H H' : Hp} (e : Same H H') : TS H H' := fun b xs h => h.imp (e _ _) fun ⟨o, z⟩ => ⟨o, e _ _ z⟩
theorem TS.refl (H : Hp) : TS H H := fun _ _ h => h
theorem TS.trans {H H' H'' : Hp} (e : TS H H') (e' : TS H' H'') : TS H H'' := fun b xs h => e' b xs (e b xs h)
theorem TS.lst {H : Hp} {a : Addr} {xs : List V} {o : HO} (h : H a = some (.lst xs)) : TS H (upd H a o) := fun b ys q => by
  have : b ≠ a := by
    rintro rfl
    rcases q with q | ⟨_, q⟩ <;> (rw [h] at q; cases q)
  rcases q with q | ⟨o', q⟩
  · exact .inl (by rw [upd_ne this]; exact q)
  · exact .inr ⟨o', by rw [upd_ne this]; exact q⟩
theorem TS.ext {H : Hp} {a : Addr} {φ : Heap → Prop} {o : HO} (h : H a = some (.ext φ)) : TS H (upd H a o) := fun b ys q => by
  have : b ≠ a := by
    rintro rfl
    rcases q with q | ⟨_, q⟩ <;> (rw [h] at q; cases q)
  rcases q with q | ⟨o', q⟩
  · exact .inl (by rw [upd_ne this]; exact q)
  · exact .inr ⟨o', by rw [upd_ne this]; exact q⟩
theorem FrV.ts {K : PySem.W.Frag} {H H' : Hp} {p : SN × Nat} {v : V} (h : FrV K H p v) (e : TS H H') : FrV K H' p v := let ⟨a, h1, h2⟩ := h; ⟨a, h1, e.tup h2⟩
theorem ChA.ts {K : PySem.W.Frag} {H H' : Hp} {ca : Addr} {rc : List (SN × Nat)} (h : ChA K H ca rc) (e : TS H H') : ChA K H' ca rc := let ⟨ys, h1, h2⟩ := h; ⟨ys, e.tup h1, Paired.mapP h2 fun p v q => q.ts e⟩
theorem StA.ts {K : PySem.W.Frag} {H H' : Hp} {b : Addr} {s : Stp} (h : StA K H b s) (e : TS H H') : StA K H' b s := let ⟨ca, h1, h2⟩ := h; ⟨ca, e.tup h1, h2.ts e⟩
theorem FrV.dat {K : PySem.W.Frag} {H : Hp} {p : SN × Nat} {v : V} (h : FrV K H p v) : DatV K H (frD p) v := by
  obtain ⟨a, rfl, h2⟩ := h
  unfold frD DatV
  refine ⟨a, _, rfl, h2, ?_⟩
  unfold DatAll
  refine ⟨_, _, rfl, by unfold DatV; rfl, ?_⟩
  unfold DatAll
  refine ⟨_, _, rfl, by unfold DatV; rfl, ?_⟩
  unfold DatAll
  rfl
theorem datAll_snoc {K : PySem.W.Frag} {H : Hp} {d : PyData} {x : V} (h : DatV K H d x) : ∀ {ds : List PyData} {xs : List V}, DatAll K H ds xs → DatAll K H (ds ++ [d]) (xs ++ [x])
  | [], xs, z => by
    unfold DatAll at z
    subst z
    show DatAll K H [d] [x]
    unfold DatAll
    refine ⟨x, [], rfl, h, ?_⟩
    unfold DatAll
    rfl
  | e :: ds, xs, z => by
    unfold DatAll at z
    obtain ⟨y, r, rfl, h1, h2⟩ := z
    show DatAll K H (e :: (ds ++ [d])) _
    unfold DatAll
    exact ⟨y, r ++ [x], rfl, h1, datAll_snoc h h2⟩
theorem frs_dat {K : PySem.W.Frag} {H : Hp} : ∀ {rc : List (SN × Nat)} {ys : List V}, Paired (FrV K H) rc ys → DatAll K H (rc.reverse.map frD) ys.reverse
  | _, _, .nil => by simp; unfold DatAll; rfl
  | _, _, .cons h t => by
    rw [List.reverse_cons, List.map_append, List.reverse_cons]
    exact datAll_snoc h.dat (frs_dat t)
theorem StA.dat {K : PySem.W.Frag} {H : Hp} {b : Addr} {s : Stp} (h : StA K H b s) : DatV K H (stDK.D s) (.ref b) := by
  obtain ⟨ca, h1, ys, h2, h3⟩ := h
  show DatV K H (stD s) _
  unfold stD DatV
  refine ⟨b, _, rfl, h1, ?_⟩
  unfold DatAll
  refine ⟨_, _, rfl, ?_, ?_⟩
  · unfold DatV
    exact ⟨ca, _, rfl, h2, frs_dat h3⟩
  unfold DatAll
  refine ⟨_, _, rfl, by unfold DatV; rfl, ?_⟩
  unfold DatAll
  rfl

def lk (fns : List F2.Fd) (g : Str) : Option F2.Fd := fns.find? fun f => decide (f.name = g)
def no (fns : List F2.Fd) (g : Str) : Nat := fns.findIdx fun f => decide (f.name = g)
theorem lk_at {fns : List F2.Fd} {i : Nat} {f : F2.Fd} (nd : (fns.map (·.name)).Nodup) (h : fns[i]? = some f) : lk fns f.name = some f ∧ no fns f.name = i := by
  have hi : i < fns.length := (List.getElem?_eq_some_iff.mp h).1
  have hf : fns[i] = f := (List.getElem?_eq_some_iff.mp h).2
  have ne : ∀ j (hj : j < fns.length), fns[j].name = f.name → j = i := fun j hj e => by
    have h1 : (fns.map (·.name))[j]? = some f.name := by rw [List.getElem?_map, List.getElem?_eq_getElem hj]; exact congrArg some e
    have h2 : (fns.map (·.name))[i]? = some f.name := by rw [List.getElem?_map, h]; rfl
    exact (List.getElem?_inj (List.getElem?_eq_some_iff.mp h1).1 nd).mp (h1.trans h2.symm)
  have hn : no fns f.name = i := by
    unfold no
    rw [List.findIdx_eq hi]
    refine ⟨by rw [hf]; exact decide_eq_true rfl, fun j hj => decide_eq_false fun e => ?_⟩
    have := ne j (by omega) e
    omega
  refine ⟨?_, hn⟩
  unfold lk
  rw [List.find?_eq_getElem?_findIdx]
  show fns[no fns f.name]? = _
  rw [hn]; exact h
def row (fns : List F2.Fd) (p : SN × Nat) : Option Rw := (lk fns p.1.1).bind fun f => f.rs[p.2]?
def inPl (fns : List F2.Fd) (g c : Str) (n : Nat) : Bool := (match lk fns c with | some f => decide (f.fo = .bl true) | none => false) && decide (n + 1 < 3) && decide (no fns c < no fns g)
def toSN (x : Str) : SN := if h : PyData.strOk x = true then ⟨x, h⟩ else ⟨"", by decide +kernel⟩
def nxt (fns : List F2.Fd) : Stp → Option Stp
  | ([], _) => none
  | (p :: rest, wt) => (row fns p).bind fun w =>
    if w.k = "back" then (match rest with | [] => none | q :: r => some ((q.1, q.2 + 1) :: r, false))
    else if w.k = "call" ∧ wt = false then (if inPl fns p.1.1 w.c rest.length = true then some ((toSN w.c, 0) :: p :: rest, false) else some (p :: rest, true))
    else some ((p.1, p.2 + 1) :: rest, false)

structure AtW (fns : List F2.Fd) (p : SN × Nat) (f : F2.Fd) (w : Rw) : Prop where
  mem : f ∈ fns
  nm : f.name = p.1.1
  rw_ : f.rs[p.2]? = some w
structure Good (fns : List F2.Fd) (p : SN × Nat) (rest : List (SN × Nat)) : Prop where
  hd : ∃ f w, AtW fns p f w
  tl : ∀ q ∈ rest, ∃ f w, AtW fns q f w ∧ w.k = "call"
  len : rest.length ≤ 2

structure Stf (fns : List F2.Fd) : Prop where
  kd : ∀ f ∈ fns, ∀ w ∈ f.rs, w.k = "out" ∨ w.k = "back" ∨ (w.k = "call" ∧ PyData.strOk w.c = true ∧ ∃ g ∈ fns, g.name = w.c)
  fo : ∀ f ∈ fns, ∃ b, f.fo = .bl b
theorem row_of {fns : List F2.Fd} {p : SN × Nat} {f : F2.Fd} {w : Rw} (nd : (fns.map (·.name)).Nodup) (h : AtW fns p f w) : row fns p = some w := by
  obtain ⟨i, hi⟩ := List.getElem?_of_mem h.mem
  unfold row
  rw [← h.nm, (lk_at nd hi).1]
  exact h.rw_
theorem ne_bc : ¬ (("call" : Str) = "back") ∧ ¬ (("out" : Str) = "back") ∧ ¬ (("out" : Str) = "call") := by decide +kernel
section
variable {fns : List F2.Fd} {p : SN × Nat} {rest : List (SN × Nat)} {f : F2.Fd} {w : Rw} {wt : Bool}
theorem nxt_back (nd : (fns.map (·.name)).Nodup) (h : AtW fns p f w) (hk : w.k = "back") : nxt fns (p :: rest, wt) = (match rest with | [] => none | q :: r => some ((q.1, q.2 + 1) :: r, false)) := by
  show (row fns p).bind _ = _
  rw [row_of nd h, Option.bind_some, if_pos hk]
theorem nxt_in (nd : (fns.map (·.name)).Nodup) (h : AtW fns p f w) (hk : w.k = "call") (hi : inPl fns p.1.1 w.c rest.length = true) : nxt fns (p :: rest, false) = some ((toSN w.c, 0) :: p :: rest, false) := by
  show (row fns p).bind _ = _
  rw [row_of nd h, Option.bind_some, if_neg (by rw [hk]; exact ne_bc.1), if_pos ⟨hk, rfl⟩, if_pos hi]
theorem nxt_wait (nd : (fns.map (·.name)).Nodup) (h : AtW fns p f w) (hk : w.k = "call") (hi : ¬ inPl fns p.1.1 w.c rest.length = true) : nxt fns (p :: rest, false) = some (p :: rest, true) := by
  show (row fns p).bind _ = _
  rw [row_of nd h, Option.bind_some, if_neg (by rw [hk]; exact ne_bc.1), if_pos ⟨hk, rfl⟩, if_neg hi]
theorem nxt_on (nd : (fns.map (·.name)).Nodup) (h : AtW fns p f w) (hk : ¬ w.k = "back") (hi : ¬ (w.k = "call" ∧ wt = false)) : nxt fns (p :: rest, wt) = some ((p.1, p.2 + 1) :: rest, false) := by
  show (row fns p).bind _ = _
  rw [row_of nd h, Option.bind_some, if_neg hk, if_neg hi]
end

theorem due_one {fns : List F2.Fd} (sf : Stf fns) {f : F2.Fd} (hf : f ∈ fns) (wf : K13.Wf (F2.kds f)) {k : Nat} {w : Rw} (h : f.rs[k]? = some w) (hb : ¬ w.k = "back") : k + 1 < f.rs.length ∧ ∀ o, K13.Due (F2.kds f) k o → o = some [k + 1] := by
  have hl : (F2.kds f).length = f.rs.length := by unfold F2.kds; rw [List.length_map]
  have kdw : ∀ (j : Nat) (w : Rw), f.rs[j]? = some w → K13.kd (F2.kds f) j = w.k := fun j w h => by
    unfold K13.kd F2.kds
    rw [List.getD_eq_getElem?_getD, List.getElem?_map, h]
    rfl
  have hk : k < f.rs.length := (List.getElem?_eq_some_iff.mp h).1
  have h1 := K13.not_last wf (k := k) (by omega) (by rw [kdw k w h]; exact hb)
  rw [hl] at h1
  have nE : ∀ s : Str, s = "out" ∨ s = "back" ∨ s = "call" → ¬ K13.isE s = true ∧ ¬ K13.isO s = true ∧ ¬ s = "else" ∧ ¬ s = "end" := by
    rintro s (rfl | rfl | rfl) <;> decide +kernel
  have cls : ∀ (j : Nat) (w : Rw), f.rs[j]? = some w → w.k = "out" ∨ w.k = "back" ∨ w.k = "call" := fun j w h => (sf.kd f hf w (List.mem_of_getElem? h)).imp id fun z => z.imp id fun y => y.1
  have c1 := nE _ (cls k w h)
  have h2 : f.rs[k + 1]? = some f.rs[k + 1] := List.getElem?_eq_getElem h1
  have c2 := nE _ (cls (k + 1) _ h2)
  have due : K13.Due (F2.kds f) k (some [k + 1]) := .one (by rw [kdw k w h]; exact c1.1) (by rw [kdw k w h]; exact hb) (by rw [kdw k w h]; exact c1.2.1) (.oth (by rw [kdw _ _ h2]; exact c2.2.2.1) (by rw [kdw _ _ h2]; exact c2.2.2.2))
  exact ⟨h1, fun o ho => ho.uniq due⟩

def GoodS (fns : List F2.Fd) (s : Stp) : Prop := ∃ p rest, s.1 = p :: rest ∧ Good fns p rest
inductive Run (fns : List F2.Fd) : Stp → Nat → Stp → Prop
  | nil {s : Stp} : Run fns s 0 s
  | cons {s s' s'' : Stp} {n : Nat} : GoodS fns s → nxt fns s = some s' → Run fns s' n s'' → Run fns s (n + 1) s''
theorem Run.trans {fns : List F2.Fd} {a b c : Stp} {n m : Nat} (h : Run fns a n b) (h' : Run fns b m c) : Run fns a (n + m) c := by
  induction h with
  | nil => rw [Nat.zero_add]; exact h'
  | cons g e _ ih => rw [Nat.succ_add]; exact .cons g e (ih h')
theorem Run.one {fns : List F2.Fd} {a b : Stp} (g : GoodS fns a) (e : nxt fns a = some b) : Run fns a 1 b := .cons g e .nil

structure Walk (fns : List F2.Fd) (s : Stp) (N : Nat) (ss : Nat → Stp) : Prop where
  pos : 0 < N
  st : ss 0 = s
  good : ∀ i, i < N → GoodS fns (ss i)
  step : ∀ i, i + 1 < N → nxt fns (ss i) = some (ss (i + 1))
  fin : nxt fns (ss (N - 1)) = none
theorem Run.walk {fns : List F2.Fd} {a b : Stp} {n : Nat} (h : Run fns a n b) (g : GoodS fns b) (e : nxt fns b = none) : ∃ ss, Walk fns a (n + 1) ss := by
  induction h with
  | @nil s => exact ⟨fun _ => s, Nat.succ_pos _, rfl, fun _ _ => g, fun i hi => by omega, e⟩
  | @cons s s' s'' n gs es r ih =>
    obtain ⟨ss, w⟩ := ih g e
    refine ⟨fun i => match i with | 0 => s | i + 1 => ss i, Nat.succ_pos _, rfl, fun i hi => ?_, fun i hi => ?_, ?_⟩
    · cases i with
      | zero => exact gs
      | succ i => exact w.good i (by omega)
    · cases i with
      | zero =>
        show nxt fns s = some (ss 0)
        rw [w.st]; exact es
      | succ i => exact w.step i (by omega)
    · exact w.fin
theorem Walk.inj {fns : List F2.Fd} {s : Stp} {N : Nat} {ss : Nat → Stp} (w : Walk fns s N ss) {i j : Nat} (hij : i < j) (hj : j < N) : ss i ≠ ss j := by
  intro e
  have key : ∀ t, j + t < N → ss (i + t) = ss (j + t) := by
    intro t
    induction t with
    | zero => intro _; exact e
    | succ t ih =>
      intro ht
      have h1 := w.step (i + t) (by omega)
      have h2 := w.step (j + t) (by omega)
      rw [ih (by omega), h2] at h1
      exact (Option.some.inj h1).symm
  have h1 := key (N - 1 - j) (by omega)
  have h2 := w.step (i + (N - 1 - j)) (by omega)
  rw [h1, show j + (N - 1 - j) = N - 1 by omega, w.fin] at h2
  cases h2
end K55

set_option Elab.async false
set_option linter.all false
set_option maxRecDepth 100000
set_option maxHeartbeats 4000000
namespace K55
open PySem L2 Gx Fl Sk

structure Shp (f : F2.Fd) (nm : Str) (fo : Bool) (ex ca : Nat) (inner : Str) : Prop where
  name : f.name = nm
  fo_ : f.fo = .bl fo
  len : f.rs.length = ex + ca + 1
  out_ : ∀ i, i < ex → ∃ w : Rw, f.rs[i]? = some w ∧ w.k = "out"
  call_ : ∀ i, ex ≤ i → i < ex + ca → ∃ w : Rw, f.rs[i]? = some w ∧ w.k = "call" ∧ w.c = inner
  back_ : ∃ w : Rw, f.rs[ex + ca]? = some w ∧ w.k = "back"
theorem Shp.rows {f : F2.Fd} {nm : Str} {fo : Bool} {ex ca : Nat} {inner : Str} (h : Shp f nm fo ex ca inner) {w : Rw} (hw : w ∈ f.rs) : w.k = "out" ∨ w.k = "back" ∨ (w.k = "call" ∧ w.c = inner ∧ 0 < ca) := by
  obtain ⟨i, hi⟩ := List.getElem?_of_mem hw
  have hl : i < f.rs.length := (List.getElem?_eq_some_iff.mp hi).1
  rw [h.len] at hl
  rcases Nat.lt_or_ge i ex with a | a
  · obtain ⟨w', h1, h2⟩ := h.out_ i a
    rw [hi] at h1; cases h1
    exact .inl h2
  · rcases Nat.lt_or_ge i (ex + ca) with b | b
    · obtain ⟨w', h1, h2, h3⟩ := h.call_ i a b
      rw [hi] at h1; cases h1
      exact .inr (.inr ⟨h2, h3, by omega⟩)
    · obtain ⟨w', h1, h2⟩ := h.back_
      have : i = ex + ca := by omega
      rw [← this, hi] at h1; cases h1
      exact .inr (.inl h2)
def nLow : SN := ⟨"low", by decide +kernel⟩
def nMid : SN := ⟨"mid", by decide +kernel⟩
def nTop : SN := ⟨"top", by decide +kernel⟩
theorem toSN_low : toSN "low" = nLow := by unfold toSN; rw [dif_pos (by decide +kernel)]; rfl
theorem toSN_mid : toSN "mid" = nMid := by unfold toSN; rw [dif_pos (by decide +kernel)]; rfl
structure Pr (fns : List F2.Fd) (sm ex ca mo to : Nat) (fold : Bool) : Prop where
  ex_ : ∃ low mid top beh, fns = [low, mid, top, beh] ∧ Shp low "low" true sm 0 "" ∧ Shp mid "mid" fold ex ca "low" ∧ Shp top "top" false mo to "mid" ∧ Shp beh "behind" false 0 0 ""
theorem Pr.nd {fns : List F2.Fd} {sm ex ca mo to : Nat} {fold : Bool} (h : Pr fns sm ex ca mo to fold) : (fns.map (·.name)).Nodup := by
  obtain ⟨low, mid, top, beh, rfl, h1, h2, h3, h4⟩ := h.ex_
  show [low.name, mid.name, top.name, beh.name].Nodup
  rw [h1.name, h2.name, h3.name, h4.name]
  decide +kernel
theorem Pr.stf {fns : List F2.Fd} {sm ex ca mo to : Nat} {fold : Bool} (h : Pr fns sm ex ca mo to fold) : Stf fns := by
  obtain ⟨low, mid, top, beh, rfl, h1, h2, h3, h4⟩ := h.ex_
  refine ⟨fun f hf w hw => ?_, fun f hf => ?_⟩
  · simp only [List.mem_cons, List.not_mem_nil, or_false] at hf
    rcases hf with rfl | rfl | rfl | rfl
    · rcases h1.rows hw with a | a | ⟨a, b, c⟩
      · exact .inl a
      · exact .inr (.inl a)
      · omega
    · rcases h2.rows hw with a | a | ⟨a, b, c⟩
      · exact .inl a
      · exact .inr (.inl a)
      · exact .inr (.inr ⟨a, by rw [b]; decide +kernel, low, by simp, by rw [h1.name, b]⟩)
    · rcases h3.rows hw with a | a | ⟨a, b, c⟩
      · exact .inl a
      · exact .inr (.inl a)
      · exact .inr (.inr ⟨a, by rw [b]; decide +kernel, mid, by simp, by rw [h2.name, b]⟩)
    · rcases h4.rows hw with a | a | ⟨a, b, c⟩
      · exact .inl a
      · exact .inr (.inl a)
      · omega
  · simp only [List.mem_cons, List.not_mem_nil, or_false] at hf
    rcases hf with rfl | rfl | rfl | rfl
    · exact ⟨_, h1.fo_⟩
    · exact ⟨_, h2.fo_⟩
    · exact ⟨_, h3.fo_⟩
    · exact ⟨_, h4.fo_⟩

def Tl (fns : List F2.Fd) (rest : List (SN × Nat)) : Prop := ∀ q ∈ rest, ∃ f w, AtW fns q f w ∧ w.k = "call"
theorem Tl.cons {fns : List F2.Fd} {rest : List (SN × Nat)} {p : SN × Nat} {f : F2.Fd} {w : Rw} (h : Tl fns rest) (a : AtW fns p f w) (k : w.k = "call") : Tl fns (p :: rest) := fun q hq => by
  rcases List.mem_cons.mp hq with rfl | hq
  · exact ⟨f, w, a, k⟩
  · exact h q hq
section
variable {fns : List F2.Fd} (nd : (fns.map (·.name)).Nodup) {f : F2.Fd} {nm : SN} {fo : Bool} {ex ca : Nat} {inner : Str} (hf : f ∈ fns) (h : Shp f nm.1 fo ex ca inner) {rest : List (SN × Nat)} (tl : Tl fns rest) (l2 : rest.length ≤ 2)
include nd hf h tl l2
theorem run_outs : ∀ n, n ≤ ex → Run fns ((nm, 0) :: rest, false) n ((nm, n) :: rest, false)
  | 0, _ => .nil
  | n + 1, hn => by
    refine (run_outs n (by omega)).trans ?_
    obtain ⟨w, h1, h2⟩ := h.out_ n (by omega)
    have a : AtW fns (nm, n) f w := ⟨hf, h.name, h1⟩
    exact .one ⟨_, _, rfl, ⟨_, _, a⟩, tl, l2⟩ (nxt_on nd a (by rw [h2]; exact ne_bc.2.1) (fun z => ne_bc.2.2 (h2.symm.trans z.1)))
end
section
variable {fns : List F2.Fd} {sm ex ca mo to : Nat} {fold : Bool} (P : Pr fns sm ex ca mo to fold)
include P
theorem low_run {rest : List (SN × Nat)} (tl : Tl fns rest) (l2 : rest.length ≤ 2) : Run fns ((nLow, 0) :: rest, false) sm ((nLow, sm) :: rest, false) ∧ (∃ f w, AtW fns (nLow, sm) f w ∧ w.k = "back") := by
  obtain ⟨low, mid, top, beh, e, h1, h2, h3, h4⟩ := P.ex_
  have hm : low ∈ fns := by rw [e]; simp
  refine ⟨run_outs P.nd hm h1 tl l2 sm (Nat.le_refl _), ?_⟩
  obtain ⟨w, q1, q2⟩ := h1.back_
  exact ⟨low, w, ⟨hm, h1.name, q1⟩, q2⟩
theorem inPl_mid {rest : List (SN × Nat)} (l1 : rest.length ≤ 1) : inPl fns "mid" "low" rest.length = true := by
  obtain ⟨low, mid, top, beh, e, h1, h2, h3, h4⟩ := P.ex_
  have a1 := lk_at P.nd (i := 0) (f := low) (by rw [e]; rfl)
  have a2 := lk_at P.nd (i := 1) (f := mid) (by rw [e]; rfl)
  rw [h1.name] at a1
  rw [h2.name] at a2
  unfold inPl
  rw [a1.1, a1.2, a2.2]
  show (decide (low.fo = .bl true) && _ && _) = true
  rw [h1.fo_, decide_eq_true rfl, decide_eq_true (by omega), decide_eq_true (by omega)]
  rfl
theorem inPl_top : inPl fns "top" "mid" 0 = fold := by
  obtain ⟨low, mid, top, beh, e, h1, h2, h3, h4⟩ := P.ex_
  have a1 := lk_at P.nd (i := 2) (f := top) (by rw [e]; rfl)
  have a2 := lk_at P.nd (i := 1) (f := mid) (by rw [e]; rfl)
  rw [h3.name] at a1
  rw [h2.name] at a2
  unfold inPl
  rw [a2.1, a2.2, a1.2]
  show (decide (mid.fo = .bl true) && _ && _) = _
  rw [h2.fo_]
  cases fold <;> decide
theorem mid_call {rest : List (SN × Nat)} (tl : Tl fns rest) (l1 : rest.length ≤ 1) {i : Nat} (i0 : ex ≤ i) (i1 : i < ex + ca) : Run fns ((nMid, i) :: rest, false) (sm + 2) ((nMid, i + 1) :: rest, false) := by
  obtain ⟨low, mid, top, beh, e, h1, h2, h3, h4⟩ := id P.ex_
  have hm : mid ∈ fns := by rw [e]; simp
  obtain ⟨w, q1, q2, q3⟩ := h2.call_ i i0 i1
  have a : AtW fns (nMid, i) mid w := ⟨hm, h2.name, q1⟩
  have n1 : nxt fns ((nMid, i) :: rest, false) = some ((nLow, 0) :: (nMid, i) :: rest, false) := by
    rw [nxt_in P.nd a q2 (by rw [q3]; exact inPl_mid P l1), q3, toSN_low]
  have tl' := tl.cons a q2
  obtain ⟨r, f, w', b, k⟩ := low_run P tl' (by simp; omega)
  have n2 : nxt fns ((nLow, sm) :: (nMid, i) :: rest, false) = some ((nMid, i + 1) :: rest, false) := by rw [nxt_back P.nd b k]
  have r1 := Run.one (fns := fns) ⟨_, _, rfl, ⟨_, _, a⟩, tl, by omega⟩ n1
  have r2 := Run.one (fns := fns) ⟨_, _, rfl, ⟨_, _, b⟩, tl', by simp; omega⟩ n2
  have := (r1.trans r).trans r2
  rw [show sm + 2 = 1 + sm + 1 by omega]
  exact this
theorem mid_run {rest : List (SN × Nat)} (tl : Tl fns rest) (l1 : rest.length ≤ 1) : Run fns ((nMid, 0) :: rest, false) (ex + ca * (sm + 2)) ((nMid, ex + ca) :: rest, false) ∧ (∃ f w, AtW fns (nMid, ex + ca) f w ∧ w.k = "back") := by
  obtain ⟨low, mid, top, beh, e, h1, h2, h3, h4⟩ := id P.ex_
  have hm : mid ∈ fns := by rw [e]; simp
  have r0 := run_outs P.nd hm h2 (nm := nMid) tl (by omega) ex (Nat.le_refl _)
  have key : ∀ n, n ≤ ca → Run fns ((nMid, ex) :: rest, false) (n * (sm + 2)) ((nMid, ex + n) :: rest, false) := by
    intro n
    induction n with
    | zero => intro _; rw [Nat.zero_mul]; exact .nil
    | succ n ih =>
      intro hn
      have := (ih (by omega)).trans (mid_call P tl l1 (i := ex + n) (by omega) (by omega))
      rw [Nat.succ_mul]
      exact this
  refine ⟨r0.trans (key ca (Nat.le_refl _)), ?_⟩
  obtain ⟨w, q1, q2⟩ := h2.back_
  exact ⟨mid, w, ⟨hm, h2.name, q1⟩, q2⟩
def inn (sm ex ca : Nat) (fold : Bool) : Nat := if fold = true then ex + ca * (sm + 2) + 2 else 2
omit P in
theorem nil_tl : Tl fns [] := fun q hq => by cases hq
theorem top_call {i : Nat} (i0 : mo ≤ i) (i1 : i < mo + to) : Run fns ([(nTop, i)], false) (inn sm ex ca fold) ([(nTop, i + 1)], false) := by
  obtain ⟨low, mid, top, beh, e, h1, h2, h3, h4⟩ := id P.ex_
  have hm : top ∈ fns := by rw [e]; simp
  obtain ⟨w, q1, q2, q3⟩ := h3.call_ i i0 i1
  have a : AtW fns (nTop, i) top w := ⟨hm, h3.name, q1⟩
  have ip : inPl fns nTop.1 w.c ([] : List (SN × Nat)).length = fold := by rw [q3]; exact inPl_top P
  unfold inn
  cases hf : fold with
  | true =>
    rw [if_pos rfl]
    rw [hf] at ip
    have n1 : nxt fns ([(nTop, i)], false) = some ((nMid, 0) :: [(nTop, i)], false) := by rw [nxt_in P.nd a q2 ip, q3, toSN_mid]
    have tl' := (nil_tl (fns := fns)).cons a q2
    obtain ⟨r, f, w', b, k⟩ := mid_run P tl' (by simp)
    have n2 : nxt fns ((nMid, ex + ca) :: [(nTop, i)], false) = some ([(nTop, i + 1)], false) := by rw [nxt_back P.nd b k]
    have r1 := Run.one (fns := fns) ⟨_, _, rfl, ⟨_, _, a⟩, nil_tl, by simp⟩ n1
    have r2 := Run.one (fns := fns) ⟨_, _, rfl, ⟨_, _, b⟩, tl', by simp⟩ n2
    have := (r1.trans r).trans r2
    rw [show ex + ca * (sm + 2) + 2 = 1 + (ex + ca * (sm + 2)) + 1 by omega]
    exact this
  | false =>
    rw [if_neg (by simp)]
    rw [hf] at ip
    have n1 : nxt fns ([(nTop, i)], false) = some ([(nTop, i)], true) := nxt_wait P.nd a q2 (by rw [ip]; simp)
    have n2 : nxt fns ([(nTop, i)], true) = some ([(nTop, i + 1)], false) := nxt_on P.nd a (by rw [q2]; exact ne_bc.1) (fun z => by cases z.2)
    exact (Run.one (fns := fns) ⟨_, _, rfl, ⟨_, _, a⟩, nil_tl, by simp⟩ n1).trans (Run.one (fns := fns) ⟨_, _, rfl, ⟨_, _, a⟩, nil_tl, by simp⟩ n2)
theorem top_run : Run fns ([(nTop, 0)], false) (mo + to * inn sm ex ca fold) ([(nTop, mo + to)], false) ∧ (∃ f w, AtW fns (nTop, mo + to) f w ∧ w.k = "back") := by
  obtain ⟨low, mid, top, beh, e, h1, h2, h3, h4⟩ := id P.ex_
  have hm : top ∈ fns := by rw [e]; simp
  have r0 := run_outs P.nd hm h3 (nm := nTop) nil_tl (by simp) mo (Nat.le_refl _)
  have key : ∀ n, n ≤ to → Run fns ([(nTop, mo)], false) (n * inn sm ex ca fold) ([(nTop, mo + n)], false) := by
    intro n
    induction n with
    | zero => intro _; rw [Nat.zero_mul]; exact .nil
    | succ n ih =>
      intro hn
      have := (ih (by omega)).trans (top_call P (i := mo + n) (by omega) (by omega))
      rw [Nat.succ_mul]
      exact this
  refine ⟨r0.trans (key to (Nat.le_refl _)), ?_⟩
  obtain ⟨w, q1, q2⟩ := h3.back_
  exact ⟨top, w, ⟨hm, h3.name, q1⟩, q2⟩
theorem ends {a : Stp} {n : Nat} {p : SN × Nat} (r : Run fns a n ([p], false)) (h : ∃ f w, AtW fns p f w ∧ w.k = "back") : ∃ ss, Walk fns a (n + 1) ss := by
  obtain ⟨f, w, b, k⟩ := h
  exact r.walk ⟨_, _, rfl, ⟨_, _, b⟩, nil_tl, by simp⟩ (by rw [nxt_back P.nd b k])
theorem walk_low : ∃ ss, Walk fns ([(nLow, 0)], false) (sm + 1) ss := let ⟨r, h⟩ := low_run P nil_tl (by simp); ends P r h
theorem walk_mid : ∃ ss, Walk fns ([(nMid, 0)], false) (ex + ca * (sm + 2) + 1) ss := let ⟨r, h⟩ := mid_run P nil_tl (by simp); ends P r h
theorem walk_top : ∃ ss, Walk fns ([(nTop, 0)], false) (mo + to * inn sm ex ca fold + 1) ss := let ⟨r, h⟩ := top_run P; ends P r h
end
end K55

set_option Elab.async false
set_option linter.all false
set_option maxRecDepth 100000
set_option maxHeartbeats 4000000
namespace K55
open PySem L2 Gx Fl Sk K41 Bg

inductive RC (K : PySem.W.Frag) (H : Hp) (inner : Str) : Str → V → Prop
  | out {r : Addr} (i : Int) : SqT K H r [.str "out", .int i] → RC K H inner "out" (.ref r)
  | call {r u : Addr} : SqT K H r [.str "call", .str "x", .str inner, .ref u] → SqT K H u [] → RC K H inner "call" (.ref r)
  | back {r : Addr} : SqT K H r [.str "back", .str "x"] → RC K H inner "back" (.ref r)
theorem RC.ts {K : PySem.W.Frag} {H H' : Hp} {inner k : Str} {v : V} (h : RC K H inner k v) (e : TS H H') : RC K H' inner k v := by
  cases h with
  | out i h => exact .out i (e.tup h)
  | call h h' => exact .call (e.tup h) (e.tup h')
  | back h => exact .back (e.tup h)
theorem nmx : K12.Nm ("x" : Str) := ⟨by decide +kernel, by decide +kernel⟩

theorem hok_up : ∀ (n m : Nat) (d : PyData), n ≤ m → hok n d = true → hok m d = true
  | n, m, .int i, _, _ => by unfold hok; rfl
  | n, m, .str x, _, h => by unfold hok at h ⊢; exact h
  | n, m, .bool x, _, _ => by unfold hok; rfl
  | n + 1, m + 1, .tuple ds, hm, h => by
    unfold hok at h ⊢
    rw [List.all_eq_true] at h ⊢
    exact fun d hd => hok_up n m d (by omega) (h d hd)
  | n + 1, 0, .tuple ds, hm, h => by omega
  | 0, _, .tuple _, _, hk => by unfold hok at hk; cases hk
  | 0, _, .none, _, hk => by unfold hok at hk; cases hk
  | 0, _, .list _, _, hk => by unfold hok at hk; cases hk
  | 0, _, .dict _, _, hk => by unfold hok at hk; cases hk
  | n + 1, _, .none, _, hk => by unfold hok at hk; cases hk
  | n + 1, _, .list _, _, hk => by unfold hok at hk; cases hk
  | n + 1, _, .dict _, _, hk => by unfold hok at hk; cases hk
theorem dat_ts {K : PySem.W.Frag} {H H' : Hp} (e : TS H H') : ∀ (n : Nat) (d : PyData) (v : V), hok n d = true → DatV K H d v → DatV K H' d v
  | n, .int i, v, _, h => by unfold DatV at h ⊢; exact h
  | n, .str x, v, _, h => by unfold DatV at h ⊢; exact h
  | n, .bool x, v, _, h => by unfold DatV at h ⊢; exact h
  | n + 1, .tuple ds, v, hk, h => by
    have hk : ∀ d ∈ ds, hok n d = true := by
      unfold hok at hk
      exact List.all_eq_true.mp hk
    have key : ∀ (l : List PyData) (xs : List V), (∀ d ∈ l, hok n d = true) → DatAll K H l xs → DatAll K H' l xs := by
      intro l
      induction l with
      | nil => intro xs _ z; unfold DatAll at z ⊢; exact z
      | cons d l ih =>
        intro xs hl z
        unfold DatAll at z ⊢
        obtain ⟨x, r, h1, h2, h3⟩ := z
        exact ⟨x, r, h1, dat_ts e n d x (hl d List.mem_cons_self) h2, ih r (fun e he => hl e (List.mem_cons_of_mem _ he)) h3⟩
    unfold DatV at h ⊢
    obtain ⟨a, xs, h1, h2, h3⟩ := h
    exact ⟨a, xs, h1, e.tup h2, key ds xs hk h3⟩
  | 0, .tuple _, _, hk, _ => by unfold hok at hk; cases hk
  | 0, .none, _, hk, _ => by unfold hok at hk; cases hk
  | 0, .list _, _, hk, _ => by unfold hok at hk; cases hk
  | 0, .dict _, _, hk, _ => by unfold hok at hk; cases hk
  | n + 1, .none, _, hk, _ => by unfold hok at hk; cases hk
  | n + 1, .list _, _, hk, _ => by unfold hok at hk; cases hk
  | n + 1, .dict _, _, hk, _ => by unfold hok at hk; cases hk
def HasH (K : PySem.W.Frag) (H : Hp) (n : Nat) (v : V) : Prop := ∃ d, hok n d = true ∧ DatV K H d v
def HasHA (K : PySem.W.Frag) (H : Hp) (n : Nat) (xs : List V) : Prop := ∃ ds, (∀ d ∈ ds, hok n d = true) ∧ DatAll K H ds xs
theorem HasH.ts {K : PySem.W.Frag} {H H' : Hp} {n : Nat} {v : V} (h : HasH K H n v) (e : TS H H') : HasH K H' n v := let ⟨d, l, z⟩ := h; ⟨d, l, dat_ts e n d v l z⟩
theorem HasH.up {K : PySem.W.Frag} {H : Hp} {n m : Nat} {v : V} (h : HasH K H n v) (e : n ≤ m) : HasH K H m v := let ⟨d, l, z⟩ := h; ⟨d, hok_up n m d e l, z⟩
theorem HasH.str {K : PySem.W.Frag} {H : Hp} {n : Nat} {s : Str} (h : PyData.strOk s = true) : HasH K H n (.str s) := ⟨.str s, by unfold hok; exact h, by unfold DatV; rfl⟩
theorem HasH.int {K : PySem.W.Frag} {H : Hp} {n : Nat} {i : Int} : HasH K H n (.int i) := ⟨.int i, by unfold hok; rfl, by unfold DatV; rfl⟩
theorem HasH.bl {K : PySem.W.Frag} {H : Hp} {n : Nat} {b : Bool} : HasH K H n (.bl b) := ⟨.bool b, by unfold hok; rfl, by unfold DatV; rfl⟩
theorem HasHA.nil {K : PySem.W.Frag} {H : Hp} {n : Nat} : HasHA K H n [] := ⟨[], fun d h => (by cases h), by unfold DatAll; rfl⟩
theorem HasHA.cons {K : PySem.W.Frag} {H : Hp} {n : Nat} {x : V} {xs : List V} (h : HasH K H n x) (t : HasHA K H n xs) : HasHA K H n (x :: xs) := by
  obtain ⟨d, l, z⟩ := h
  obtain ⟨ds, ls, zs⟩ := t
  refine ⟨d :: ds, fun e he => (List.mem_cons.mp he).elim (fun z => z ▸ l) (ls e), ?_⟩
  unfold DatAll
  exact ⟨_, _, rfl, z, zs⟩
theorem HasH.tup {K : PySem.W.Frag} {H : Hp} {n : Nat} {a : Addr} {xs : List V} (h : SqT K H a xs) (t : HasHA K H n xs) : HasH K H (n + 1) (.ref a) := by
  obtain ⟨ds, ls, zs⟩ := t
  refine ⟨.tuple ds, by unfold hok; exact List.all_eq_true.mpr ls, ?_⟩
  unfold DatV
  exact ⟨a, xs, rfl, h, zs⟩

theorem eq_same {K : PySem.W.Frag} {H : Hp} {Q : VK} {n : Nat} {a b : Addr} {xs : List V} (hn : n ≤ 60) (h : HasHA K H n xs) (ha : SqL K H a xs) (hb : SqL K H b xs) (q : Q (.bl true) H) : rEqD K (.ref a) (.ref b) H Q := by
  obtain ⟨ds, ls, zs⟩ := h
  have key : ∀ l : List PyData, (∀ d ∈ l, hok n d = true) → PyData.canLayAll0 l = true ∧ PyData.depthAll l ≤ n := by
    intro l
    induction l with
    | nil => intro _; exact ⟨rfl, Nat.zero_le _⟩
    | cons d l ih =>
      intro hl
      obtain ⟨a1, a2⟩ := hok_lay n d (hl d List.mem_cons_self)
      obtain ⟨b1, b2⟩ := ih fun e he => hl e (List.mem_cons_of_mem _ he)
      refine ⟨by simp [PyData.canLayAll0, a1, b1], ?_⟩
      simp only [PyData.depthAll]
      omega
  obtain ⟨k1, k2⟩ := key ds ls
  have hs : SeqAt.shaped (.list ds) = true := by
    unfold SeqAt.shaped
    rw [Bool.and_eq_true, decide_eq_true_eq]
    refine ⟨k1, ?_⟩
    simp only [PyData.depth]
    omega
  have q' : Q (.bl (PyData.eqv (.list ds) (.list ds))) H := by rw [SeqAt.eqv_refl (.list ds) k1]; exact q
  refine ⟨.list ds, .list ds, ?_, ?_, hs, hs, q'⟩
  · unfold DatV
    exact ⟨a, xs, rfl, ha, zs⟩
  · unfold DatV
    exact ⟨b, xs, rfl, hb, zs⟩

theorem rows_ts {K : PySem.W.Frag} {H H' : Hp} {xs as : List V} {g : Option Str} (e : TS H H') (h : K12.RowS K H xs g as) : K12.RowS K H' xs g as := by
  cases h <;> first | (constructor; done) | (constructor; exact e.tup (by assumption))
theorem fnAt_ts {K : PySem.W.Frag} {H H' : Hp} {f : F2.Fd} (h : F2.FnAt K H f) (e : TS H H') : F2.FnAt K H' f :=
  ⟨e.tup h.fn, e.tup h.pr, e.tup h.rw_, fun w hw => let ⟨rest, h1, h2⟩ := h.rk w hw; ⟨rest, e.tup h1, h2⟩,
    ⟨let ⟨n, b, p, r, h1, h2, h3⟩ := h.fu.fn; ⟨n, b, p, r, e.tup h1, e.tup h2, e.tup h3⟩, fun d hd => let z := h.fu.rows d hd; ⟨let ⟨xs, h1, h2⟩ := z.row; ⟨xs, e.tup h1, rows_ts e h2⟩, z.ats, z.len, z.nm⟩, h.fu.pn, h.fu.pl, h.fu.dl⟩, h.wf, h.len⟩
theorem RC.rr {K : PySem.W.Frag} {H : Hp} {inner k : Str} {v : V} (h : RC K H inner k v) (hi : K12.Nm inner) : ∃ x : RR, V.ref x.w.r = v ∧ x.w.k = k ∧ (k = "call" → x.w.c = inner) ∧ RRok K H x ∧ HasH K H 2 v := by
  cases h with
  | @out r i h => exact ⟨rone "out" r (.int i), rfl, rfl, fun z => absurd z ne_bc.2.2, ok_out h (at_i i), .tup h (.cons (.str (by decide +kernel)) (.cons .int .nil))⟩
  | @call r u h h' => exact ⟨rcall r "x" inner [], rfl, rfl, fun _ => rfl, ok_call h nmx h' (fun v hv => by cases hv) (Nat.zero_le _), .tup h (.cons (.str (by decide +kernel)) (.cons (.str (by decide +kernel)) (.cons (.str hi.2) (.cons (.tup h' .nil) .nil))))⟩
  | @back r h => exact ⟨rone "back" r (.str "x"), rfl, rfl, fun z => absurd z (by decide +kernel), ok_back h (at_s nmx), .tup h (.cons (.str (by decide +kernel)) (.cons (.str (by decide +kernel)) .nil))⟩
theorem rcs {K : PySem.W.Frag} {H : Hp} {inner : Str} (hi : K12.Nm inner) : ∀ {ks : List Str} {vs : List V}, Paired (RC K H inner) ks vs → ∃ rr : List RR, (rr.map fun x => V.ref x.w.r) = vs ∧ (rr.map fun x => x.w.k) = ks ∧ (∀ x ∈ rr, x.w.k = "call" → x.w.c = inner) ∧ (∀ x ∈ rr, RRok K H x) ∧ HasHA K H 2 vs
  | _, _, .nil => ⟨[], rfl, rfl, (fun x h => by cases h), (fun x h => by cases h), .nil⟩
  | _, _, .cons h t => by
    obtain ⟨x, h1, h2, h3, h4, h5⟩ := h.rr hi
    obtain ⟨rr, g1, g2, g3, g4, g5⟩ := rcs hi t
    refine ⟨x :: rr, by rw [List.map_cons, h1, g1], by rw [List.map_cons, h2, g2], fun y hy hk => ?_, fun y hy => ?_, .cons h5 g5⟩
    · rcases List.mem_cons.mp hy with rfl | hy
      · exact h3 (h2.symm.trans hk)
      · exact g3 y hy hk
    · rcases List.mem_cons.mp hy with rfl | hy
      · exact h4
      · exact g4 y hy
def kinds (ex ca : Nat) : List Str := List.replicate ex ("out" : Str) ++ List.replicate ca ("call" : Str) ++ [("back" : Str)]
theorem wf_kinds (ex ca : Nat) : K13.Wf (kinds ex ca) := by
  have g0 := good_rep K13.good_nil (x := "out") (by decide +kernel) (by decide +kernel) (by decide +kernel) ex
  rw [List.nil_append] at g0
  exact (good_rep g0 (x := "call") (by decide +kernel) (by decide +kernel) (by decide +kernel) ca).back
theorem fn_law {K : PySem.W.Frag} {H : Hp} {nm inner : Str} {fo : Bool} {ex ca : Nat} {fa tr qC : Addr} {vs : List V} (he : ex ≤ 45) (hc : ca ≤ 13) (hn : K12.Nm nm) (hi : K12.Nm inner) (h1 : SqT K H fa [.str nm, .bl fo, .ref qC, .ref tr]) (h2 : SqT K H tr vs) (h3 : Paired (RC K H inner) (kinds ex ca) vs) (h4 : SqT K H qC []) :
    ∃ f : F2.Fd, f.fa = fa ∧ F2.FnAt K H f ∧ Shp f nm fo ex ca inner ∧ HasH K H 5 (.ref fa) := by
  obtain ⟨rr, g1, g2, g3, g4, g5⟩ := rcs hi h3
  have ln : rr.length = ex + ca + 1 := by
    have := congrArg List.length g2
    rw [List.length_map] at this
    rw [this]
    unfold kinds
    simp
    omega
  have wf : K13.Wf (rr.map fun x => x.w.k) := by rw [g2]; exact wf_kinds ex ca
  have fn := fn_mk2 (ps := []) rr h1 (by rw [g1]; exact h2) g4 h4 (fun s hs => by cases hs) (by decide) (by omega) wf
  have kat : ∀ (i : Nat) (k : Str), (kinds ex ca)[i]? = some k → ∃ w : Rw, (rr.map (·.w))[i]? = some w ∧ w.k = k ∧ (k = "call" → w.c = inner) := fun i k h => by
    rw [← g2, List.getElem?_map] at h
    cases e : rr[i]? with
    | none => rw [e] at h; cases h
    | some x =>
      rw [e] at h
      have hk : x.w.k = k := Option.some.inj h
      refine ⟨x.w, by rw [List.getElem?_map, e]; rfl, hk, fun z => g3 x (List.mem_of_getElem? e) (hk.trans z)⟩
  refine ⟨_, rfl, fn, ⟨rfl, rfl, by show (rr.map (·.w)).length = _; rw [List.length_map]; exact ln, fun i h => ?_, fun i a b => ?_, ?_⟩, ?_⟩
  · obtain ⟨w, q1, q2, _⟩ := kat i "out" (by unfold kinds; rw [List.append_assoc, List.getElem?_append_left (by simpa using h), List.getElem?_replicate, if_pos h])
    exact ⟨w, q1, q2⟩
  · obtain ⟨w, q1, q2, q3⟩ := kat i "call" (by unfold kinds; rw [List.append_assoc, List.getElem?_append_right (by simpa using a), List.length_replicate, List.getElem?_append_left (by simp; omega), List.getElem?_replicate, if_pos (by omega)])
    exact ⟨w, q1, q2, q3 rfl⟩
  · obtain ⟨w, q1, q2, _⟩ := kat (ex + ca) "back" (by unfold kinds; rw [List.getElem?_append_right (by simp), List.length_append, List.length_replicate, List.length_replicate, Nat.sub_self]; rfl)
    exact ⟨w, q1, q2⟩
  · exact .up (.tup h1 (.cons (.str hn.2) (.cons .bl (.cons (.up (.tup h4 .nil) (by decide : 1 ≤ 3)) (.cons (.tup h2 g5) .nil))))) (by decide)
end K55

set_option Elab.async false
set_option linter.all false
set_option maxRecDepth 100000
set_option maxHeartbeats 4000000
namespace K55
open PySem L2 Gx Fl
def top (i : Nat) : Stmt := PySem.Challenge.pw_stopglass_k55_too_long.main.body.getD i (.Pass ⟨0, 0, 0, 0⟩)
abbrev s_TooLong_init : Stmt := inClass (top 5) 0
abbrev s_names_of : Stmt := top 10
abbrev s_reads : Stmt := top 11
abbrev s_gives : Stmt := top 12
abbrev s_atoms_of : Stmt := top 13
abbrev s_each_once : Stmt := top 14
abbrev s_ways : Stmt := top 15
abbrev s_begins_of : Stmt := top 16
abbrev s_firsts_behind : Stmt := top 17
abbrev s_Flows_init : Stmt := inClass (top 18) 0
abbrev s_Flows_row_at : Stmt := inClass (top 18) 1
abbrev s_Flows_ways_at : Stmt := inClass (top 18) 2
abbrev s_moved : Stmt := top 20
abbrev s_plan : Stmt := top 24
abbrev s_plan_in : Stmt := top 25
abbrev s_stops_behind : Stmt := top 26
abbrev s_is_in_place : Stmt := top 27
abbrev s_l_cell_at : Stmt := top 29
abbrev s_l_function : Stmt := top 30
abbrev s_l_long : Stmt := top 31
abbrev s_l_refused : Stmt := top 32
abbrev s_l_is : Stmt := top 33
abbrev s_law : Stmt := top 34
set_option genInjectivity false in
set_option genSizeOf false in
structure Adr where
  x_GlassError : Addr
  x_TooLong : Addr
  x_BadNest : Addr
  x_BadCall : Addr
  x_NoName : Addr
  x_BadBits : Addr
  c_Flows : Addr
  a_TooLong_init : Addr
  d_TooLong_init : FuncData
  a_names_of : Addr
  d_names_of : FuncData
  a_reads : Addr
  d_reads : FuncData
  a_gives : Addr
  d_gives : FuncData
  a_atoms_of : Addr
  d_atoms_of : FuncData
  a_each_once : Addr
  d_each_once : FuncData
  a_ways : Addr
  d_ways : FuncData
  a_begins_of : Addr
  d_begins_of : FuncData
  a_firsts_behind : Addr
  d_firsts_behind : FuncData
  a_Flows_init : Addr
  d_Flows_init : FuncData
  a_Flows_row_at : Addr
  d_Flows_row_at : FuncData
  a_Flows_ways_at : Addr
  d_Flows_ways_at : FuncData
  a_moved : Addr
  d_moved : FuncData
  a_plan : Addr
  d_plan : FuncData
  a_plan_in : Addr
  d_plan_in : FuncData
  a_stops_behind : Addr
  d_stops_behind : FuncData
  a_is_in_place : Addr
  d_is_in_place : FuncData
  a_l_cell_at : Addr
  d_l_cell_at : FuncData
  a_l_function : Addr
  d_l_function : FuncData
  a_l_long : Addr
  d_l_long : FuncData
  a_l_refused : Addr
  d_l_refused : FuncData
  a_l_is : Addr
  d_l_is : FuncData
  a_law : Addr
  d_law : FuncData
  a_GIVING : Addr
  a_TAB : Addr
structure Txt (K : PySem.W.Frag) (mg : Str → Option Value) (t : Adr) : Prop where
  x_GlassError : XClsOk K mg "GlassError" t.x_GlassError
  x_TooLong : XClsOk K mg "TooLong" t.x_TooLong
  g_BadNest : mg "BadNest" = some (.ref t.x_BadNest)
  g_BadCall : mg "BadCall" = some (.ref t.x_BadCall)
  g_NoName : mg "NoName" = some (.ref t.x_NoName)
  g_BadBits : mg "BadBits" = some (.ref t.x_BadBits)
  n_TooLong_function : NoAttr K t.x_TooLong "function"
  e_TooLong : PySem.W.mroIn K t.x_TooLong (.ref t.x_GlassError) = some true
  k_TooLong_TooLong : PySem.W.kitOne K (.ref t.x_TooLong) (.ref t.x_TooLong) = some true
  k_TooLong_BadNest : PySem.W.kitOne K (.ref t.x_TooLong) (.ref t.x_BadNest) = some false
  k_TooLong_BadCall : PySem.W.kitOne K (.ref t.x_TooLong) (.ref t.x_BadCall) = some false
  k_TooLong_NoName : PySem.W.kitOne K (.ref t.x_TooLong) (.ref t.x_NoName) = some false
  k_TooLong_BadBits : PySem.W.kitOne K (.ref t.x_TooLong) (.ref t.x_BadBits) = some false
  v_TooLong : PySem.W.kitOne K (.ref t.x_TooLong) (.type "ValueError") = some true
  TooLong_init : XIniOk K t.x_TooLong "TooLong.__init__" s_TooLong_init ["self", "function"] t.a_TooLong_init t.d_TooLong_init
  names_of : DefOk K mg "names_of" s_names_of ["function"] t.a_names_of t.d_names_of
  reads : DefOk K mg "reads" s_reads ["row"] t.a_reads t.d_reads
  gives : DefOk K mg "gives" s_gives ["row"] t.a_gives t.d_gives
  atoms_of : DefOk K mg "atoms_of" s_atoms_of ["row"] t.a_atoms_of t.d_atoms_of
  each_once : DefOk K mg "each_once" s_each_once ["names"] t.a_each_once t.d_each_once
  ways : DefOk K mg "ways" s_ways ["rows"] t.a_ways t.d_ways
  begins_of : DefOk K mg "begins_of" s_begins_of ["rows"] t.a_begins_of t.d_begins_of
  firsts_behind : DefOk K mg "firsts_behind" s_firsts_behind ["rows", "begins"] t.a_firsts_behind t.d_firsts_behind
  Flows_init : IniOk K t.c_Flows "Flows.__init__" s_Flows_init ["self", "program"] t.a_Flows_init t.d_Flows_init
  Flows_row_at : MetOk K t.c_Flows "row_at" "Flows.row_at" s_Flows_row_at ["self", "frame"] t.a_Flows_row_at t.d_Flows_row_at
  Flows_ways_at : MetOk K t.c_Flows "ways_at" "Flows.ways_at" s_Flows_ways_at ["self", "frame"] t.a_Flows_ways_at t.d_Flows_ways_at
  moved : DefOk K mg "moved" s_moved ["flows", "chain", "way"] t.a_moved t.d_moved
  plan : DefOk K mg "plan" s_plan ["program", "name"] t.a_plan t.d_plan
  plan_in : DefOk K mg "plan_in" s_plan_in ["flows", "name"] t.a_plan_in t.d_plan_in
  stops_behind : DefOk K mg "stops_behind" s_stops_behind ["flows", "chain", "wait"] t.a_stops_behind t.d_stops_behind
  is_in_place : DefOk K mg "is_in_place" s_is_in_place ["flows", "chain"] t.a_is_in_place t.d_is_in_place
  l_cell_at : DefOk K mg "_law_cell_at" s_l_cell_at ["_law_script", "_law_k"] t.a_l_cell_at t.d_l_cell_at
  l_function : DefOk K mg "_law_function" s_l_function ["_law_name", "_law_folded", "_law_extra", "_law_calls", "_law_inner"] t.a_l_function t.d_l_function
  l_long : DefOk K mg "_law_long" s_l_long ["_law_e"] t.a_l_long t.d_l_long
  l_refused : DefOk K mg "_law_refused" s_l_refused ["_law_program", "_law_name"] t.a_l_refused t.d_l_refused
  l_is : DefOk K mg "_law_is" s_l_is ["_law_program", "_law_name", "_law_due"] t.a_l_is t.d_l_is
  law : DefOk K mg "law" s_law ["_law_script"] t.a_law t.d_law
  cl_Flows : ClsOk K mg "Flows" t.c_Flows
  n_Flows_last : NoAttr K t.c_Flows "last"
  n_Flows_number_of : NoAttr K t.c_Flows "number_of"
  n_Flows_folded_of : NoAttr K t.c_Flows "folded_of"
  n_Flows_params_of : NoAttr K t.c_Flows "params_of"
  n_Flows_rows_of : NoAttr K t.c_Flows "rows_of"
  n_Flows_names_in : NoAttr K t.c_Flows "names_in"
  n_Flows_ways_in : NoAttr K t.c_Flows "ways_in"
  c_MOST_STATIONS : ∃ tk, mg "MOST_STATIONS" = some (.int 200 tk)
  c_MOST_FRAMES : ∃ tk, mg "MOST_FRAMES" = some (.int 3 tk)
  c_GIVING_KINDS : mg "GIVING_KINDS" = some (.ref t.a_GIVING)
  q_GIVING : ∀ H : Hp, SqT K H t.a_GIVING (K12.giving.map V.str)
  c_ATOM_PLACES : mg "ATOM_PLACES" = some (.ref t.a_TAB)
  q_TAB : TabK K t.a_TAB K12.tabl
  b_len : mg "len" = none
  b_list : mg "list" = none
  b_tuple : mg "tuple" = none
  b_isinstance : mg "isinstance" = none
  b_range : mg "range" = none
  b_enumerate : mg "enumerate" = none
  b_dict : mg "dict" = none
  b_str : mg "str" = none
  b_min : mg "min" = none
  b_ValueError : mg "ValueError" = none
  bl : ∀ (s : Shared) (u : Value), BindsTo s t.d_law ⟨[u], []⟩ [("_law_script", u)]
section
variable {P : Program} {w : World} {K : PySem.W.Frag} {mg : Str → Option Value} {base : Heap} {t : Adr}
def sp_TooLong_init (t : Adr) : Sp := fun vs H Q _ => ∃ (x : Addr) (v : V), vs = [.ref x, v] ∧ H x = some (XO x t.x_TooLong none) ∧ ∀ dx, H dx = none → Q .non (upd (upd H dx (XD dx [("function", v)])) x (XO x t.x_TooLong (some dx)))
def sp_Flows_init (K : PySem.W.Frag) (t : Adr) : Sp := fun vs H Q _ => ∃ (x dx p : Addr) (fns : List F2.Fd), vs = [.ref x, .ref p] ∧ H x = some (.ins t.c_Flows dx []) ∧ SqL K (ers x H) p (fns.map fun f => V.ref f.fa) ∧ fns ≠ [] ∧ fns.length ≤ 12 ∧ (∀ f ∈ fns, F2.FnAt K (ers x H) f) ∧ (fns.map (·.name)).Nodup ∧
  ∀ H', Same (ers x H) H' → F2.FlowsAt K t.c_Flows H' x fns → Q .non H'
def FlA (K : PySem.W.Frag) (t : Adr) (H : Hp) (x : Addr) (fns : List F2.Fd) : Prop := F2.FlowsAt K t.c_Flows H x fns ∧ Stf fns
theorem FlA.mono {H H' : Hp} {x : Addr} {fns : List F2.Fd} (h : FlA K t H x fns) (e : Same H H') : FlA K t H' x fns := ⟨h.1.mono e, h.2⟩
def sp_Flows_row_at (K : PySem.W.Frag) (t : Adr) : Sp := fun vs H Q _ => ∃ (x fa : Addr) (fns : List F2.Fd) (p : SN × Nat) (f : F2.Fd) (w : Rw), vs = [.ref x, .ref fa] ∧ FlA K t H x fns ∧ SqT K H fa [.str p.1.1, .int p.2] ∧ AtW fns p f w ∧ Q (.ref w.r) H
def sp_Flows_ways_at (K : PySem.W.Frag) (t : Adr) : Sp := fun vs H Q _ => ∃ (x fa : Addr) (fns : List F2.Fd) (p : SN × Nat) (f : F2.Fd) (w : Rw), vs = [.ref x, .ref fa] ∧ FlA K t H x fns ∧ SqT K H fa [.str p.1.1, .int p.2] ∧ AtW fns p f w ∧ ¬ w.k = "back" ∧ ∀ q, H q = some (.tup [.int ((p.2 + 1 : Nat) : Int)]) → Q (.ref q) H
def sp_moved (K : PySem.W.Frag) (t : Adr) : Sp := fun vs H Q _ => ∃ (x ca : Addr) (fns : List F2.Fd) (p : SN × Nat) (rest : List (SN × Nat)) (f : F2.Fd) (w : Rw), vs = [.ref x, .ref ca, .int 0] ∧ FlA K t H x fns ∧ ChA K H ca (p :: rest) ∧ AtW fns p f w ∧ ¬ w.k = "back" ∧ rest.length ≤ 3 ∧ ∀ ca' H', Same H H' → ChA K H' ca' ((p.1, p.2 + 1) :: rest) → Q (.ref ca') H'
def sp_is_in_place (K : PySem.W.Frag) (t : Adr) : Sp := fun vs H Q _ => ∃ (x ca : Addr) (fns : List F2.Fd) (p : SN × Nat) (rest : List (SN × Nat)) (f : F2.Fd) (w : Rw), vs = [.ref x, .ref ca] ∧ FlA K t H x fns ∧ ChA K H ca (p :: rest) ∧ AtW fns p f w ∧ w.k = "call" ∧ rest.length ≤ 3 ∧ ∀ H', Same H H' → Q (.bl (inPl fns p.1.1 w.c rest.length)) H'
def Then (K : PySem.W.Frag) (H : Hp) (o : Option Stp) (bs : List Addr) : Prop := match o with
  | none => bs = []
  | some s => ∃ b, bs = [b] ∧ StA K H b s
def sp_stops_behind (K : PySem.W.Frag) (t : Adr) : Sp := fun vs H Q _ => ∃ (x ca : Addr) (fns : List F2.Fd) (p : SN × Nat) (rest : List (SN × Nat)) (wt : Bool), vs = [.ref x, .ref ca, .bl wt] ∧ FlA K t H x fns ∧ ChA K H ca (p :: rest) ∧ Good fns p rest ∧
  ∀ l H' bs, Same H H' → H l = none → H' l = some (.lst (bs.map V.ref)) → Then K H' (nxt fns (p :: rest, wt)) bs → Q (.ref l) H'

def Ends2 (t : Adr) (H : Hp) (Q : VK) (E : XK) (g : Str) (N : Nat) : Prop := (N ≤ 200 → ∀ l H' xs, Same H H' → H' l = some (.lst xs) → xs.length = N → Q (.ref l) H') ∧ (200 < N → ∀ dx H', Same H H' → H' dx = some (XD dx [("function", .str g)]) → E (.ref t.x_TooLong) (some dx) H')
def sp_plan_in (K : PySem.W.Frag) (t : Adr) : Sp := fun vs H Q E => ∃ (x : Addr) (fns : List F2.Fd) (g : SN) (N : Nat) (ss : Nat → Stp), vs = [.ref x, .str g.1] ∧ FlA K t H x fns ∧ Walk fns ([(g, 0)], false) N ss ∧ Ends2 t H Q E g.1 N
structure PrA (K : PySem.W.Frag) (H : Hp) (p : Addr) (fns : List F2.Fd) : Prop where
  sq : SqL K H p (fns.map fun f => V.ref f.fa)
  ne : fns ≠ []
  len : fns.length ≤ 12
  all : ∀ f ∈ fns, F2.FnAt K H f
  nd : (fns.map (·.name)).Nodup
  sf : Stf fns
theorem PrA.mono {H H' : Hp} {p : Addr} {fns : List F2.Fd} (h : PrA K H p fns) (e : Same H H') : PrA K H' p fns := ⟨e.seq h.sq, h.ne, h.len, fun f hf => (h.all f hf).mono e, h.nd, h.sf⟩
def sp_plan (K : PySem.W.Frag) (t : Adr) : Sp := fun vs H Q E => ∃ (p : Addr) (fns : List F2.Fd) (g : SN) (N : Nat) (ss : Nat → Stp), vs = [.ref p, .str g.1] ∧ PrA K H p fns ∧ Walk fns ([(g, 0)], false) N ss ∧ Ends2 t H Q E g.1 N
def sp_l_cell_at (K : PySem.W.Frag) : Sp := fun vs H Q _ => ∃ (a : Addr) (ns : List Int) (k : Int), vs = [.ref a, .int k] ∧ SqL K H a (ns.map V.int) ∧ ns.length ≤ 63 ∧ 0 ≤ k ∧ ∀ z, Q (.int z) H
def sp_l_function (K : PySem.W.Frag) : Sp := fun vs H Q _ => ∃ (nm : Str) (fo : Bool) (ex ca : Nat) (inner : Str), vs = [.str nm, .bl fo, .int (ex : Nat), .int (ca : Nat), .str inner] ∧ ex ≤ 45 ∧ ca ≤ 13 ∧ K12.Nm nm ∧ K12.Nm inner ∧
  ∀ (f : F2.Fd) H', Same H H' → F2.FnAt K H' f → Shp f nm fo ex ca inner → HasH K H' 5 (.ref f.fa) → Q (.ref f.fa) H'
def sp_l_long (K : PySem.W.Frag) (t : Adr) : Sp := fun vs H Q _ => ∃ (ea dx : Addr) (g : Str), vs = [.ref ea] ∧ H ea = some (XC ea t.x_TooLong (some dx)) ∧ H dx = some (XD dx [("function", .str g)]) ∧ Q (.str g) H
def sp_l_refused (K : PySem.W.Frag) (t : Adr) : Sp := fun vs H Q _ => ∃ (p : Addr) (fns : List F2.Fd) (g : SN) (N : Nat) (ss : Nat → Stp), vs = [.ref p, .str g.1] ∧ PrA K H p fns ∧ Walk fns ([(g, 0)], false) N ss ∧ 200 < N ∧ ∀ H', Same H H' → Q (.bl true) H'
def sp_l_is (K : PySem.W.Frag) (t : Adr) : Sp := fun vs H Q _ => ∃ (p : Addr) (fns : List F2.Fd) (g : SN) (N : Nat) (ss : Nat → Stp), vs = [.ref p, .str g.1, .int (N : Nat)] ∧ PrA K H p fns ∧ Walk fns ([(g, 0)], false) N ss ∧ ∀ H', Same H H' → Q (.bl true) H'
def sp_law (K : PySem.W.Frag) : Sp := fun vs H Q _ => ∃ (a : Addr) (ns : List Int), vs = [.ref a] ∧ SqL K H a (ns.map V.int) ∧ ns.length ≤ 63 ∧ ∀ H', Q (.bl true) H'
def rIsi (K : PySem.W.Frag) : List V → Hp → VK → Prop := fun xs H Q => ∃ x c t b, xs = [x, .ty c] ∧ TyOf K H x t ∧ PySem.W.kitOne K t (.type c) = some b ∧ Q (.bl b) H
theorem le0 : 0 ≤ sizeLine := by decide
theorem le1 : 1 ≤ sizeLine := by decide
theorem le2 : 2 ≤ sizeLine := by decide
theorem le3 : 3 ≤ sizeLine := by decide
theorem le4 : 4 ≤ sizeLine := by decide
theorem at0 {x : V} {r : List V} : atI (x :: r) 0 = some x := K13.at0
theorem cut_last (xs : List V) (v : V) : cutV (xs ++ [v]) none (some (-1)) = xs := by
  unfold cutV
  have h : HT.sIx (xs ++ [v]).length (xs ++ [v]).length (some (-1)) = xs.length := by
    rw [List.length_append]
    unfold HT.sIx
    show (if (-1 : Int) < 0 then ((-1 : Int) + ((xs.length + [v].length : Nat) : Int)).toNat else min (Int.toNat (-1)) (xs.length + [v].length)) = xs.length
    rw [if_pos (by decide)]
    show ((-1 : Int) + ((xs.length + 1 : Nat) : Int)).toNat = _
    omega
  rw [h, HT.sIx_none, List.drop_zero, Nat.sub_zero]
  exact List.take_left
theorem FlA.ob {H : Hp} {x : Addr} {fns : List F2.Fd} (h : FlA K t H x fns) : ∃ dx fs, H x = some (.ins t.c_Flows dx fs) ∧ fs.lookup ("row_at" : Str) = none ∧ fs.lookup ("ways_at" : Str) = none := by
  obtain ⟨dx, fz, d, kv, nl, wl, h0, hO, _⟩ := h.1.ob
  exact ⟨dx, _, hO.ob, (lk_no _ _).1, (lk_no _ _).2⟩

theorem ChA.cons {H : Hp} {ca : Addr} {p : SN × Nat} {rest : List (SN × Nat)} (h : ChA K H ca (p :: rest)) : ∃ fa yr, SqT K H ca (yr.reverse ++ [.ref fa]) ∧ SqT K H fa [.str p.1.1, .int p.2] ∧ Paired (FrV K H) rest yr := by
  obtain ⟨ys, h1, h2⟩ := h
  cases h2 with
  | cons h3 h4 =>
    obtain ⟨fa, rfl, h5⟩ := h3
    exact ⟨fa, _, by rw [← List.reverse_cons]; exact h1, h5, h4⟩
theorem ChA.mk {H : Hp} {ca fa : Addr} {p : SN × Nat} {rest : List (SN × Nat)} {yr : List V} (h1 : SqT K H ca (yr.reverse ++ [.ref fa])) (h2 : SqT K H fa [.str p.1.1, .int p.2]) (h3 : Paired (FrV K H) rest yr) : ChA K H ca (p :: rest) :=
  ⟨.ref fa :: yr, by rw [List.reverse_cons]; exact h1, .cons ⟨fa, rfl, h2⟩ h3⟩
theorem frs_mono {H H' : Hp} {rest : List (SN × Nat)} {yr : List V} (h : Paired (FrV K H) rest yr) (e : Same H H') : Paired (FrV K H') rest yr := Paired.mapP h fun p v q => q.ts (.of e)
theorem xnew {H : Hp} {x dx : Addr} {o : HO} (h1 : H x = none) (h2 : upd H x o dx = none) : dx ≠ x ∧ H dx = none := by
  have e : dx ≠ x := fun z => by rw [z, upd_same] at h2; cases h2
  exact ⟨e, by rwa [upd_ne e] at h2⟩
theorem xers {H : Hp} {x dx : Addr} {o u v : HO} (h1 : H x = none) (h2 : dx ≠ x) : ers x (upd (upd (upd H x o) dx u) x v) = upd H dx u := by
  funext b
  unfold L2.ers upd
  by_cases z : b = x
  · rw [if_pos z, if_neg (fun q => h2 (q.symm.trans z)), z]; exact h1.symm
  · rw [if_neg z, if_neg z]
    by_cases z2 : b = dx
    · rw [if_pos z2, if_pos z2]
    · rw [if_neg z2, if_neg z2, if_neg z]

def kvsOf (ss : Nat → Stp) (bs : List Addr) : List (Stp × Addr × V) := bs.mapIdx fun j b => (ss j, b, V.int (j : Nat))
theorem kvs_snoc (ss : Nat → Stp) (bs : List Addr) (b : Addr) : kvsOf ss (bs ++ [b]) = kvsOf ss bs ++ [(ss bs.length, b, V.int (bs.length : Nat))] := by
  unfold kvsOf
  rw [List.mapIdx_append]
  simp
theorem kvs_mem {ss : Nat → Stp} {bs : List Addr} {k : Stp} (h : k ∈ (kvsOf ss bs).map (·.1)) : ∃ j, j < bs.length ∧ ss j = k := by
  obtain ⟨p, hp, rfl⟩ := List.mem_map.mp h
  obtain ⟨j, hj, rfl⟩ := List.mem_mapIdx.mp hp
  exact ⟨j, hj, rfl⟩
structure LS (K : PySem.W.Frag) (P : Program) (w : World) (H Hc : Hp) (l1 nd l2 : Addr) (ss : Nat → Stp) (i m : Nat) (ys : List V) (bs : List Addr) : Prop where
  same : Same H Hc
  e1 : Hc l1 = some (.lst (bs.map V.ref))
  eN : Hc nd = some (SD stDK P w nd (kvsOf ss bs))
  e2 : Hc l2 = some (.lst ys)
  li : ys.length = i
  lb : bs.length = m
  st : ∀ (j : Nat) (b : Addr), bs[j]? = some b → StA K Hc b (ss j)
section
variable {H Hc Hd : Hp} {l1 nd l2 : Addr} {ss : Nat → Stp} {i m : Nat} {ys : List V} {bs : List Addr}
theorem LS.mono (h : LS K P w H Hc l1 nd l2 ss i m ys bs) (e : Same Hc Hd) : LS K P w H Hd l1 nd l2 ss i m ys bs := ⟨h.same.trans e, e _ _ h.e1, e _ _ h.eN, e _ _ h.e2, h.li, h.lb, fun j b hj => (h.st j b hj).ts (.of e)⟩
theorem LS.cast {m' : Nat} (h : LS K P w H Hc l1 nd l2 ss i m ys bs) (e : m = m') : LS K P w H Hc l1 nd l2 ss i m' ys bs := e ▸ h
theorem LS.ks (h : LS K P w H Hc l1 nd l2 ss i m ys bs) : KsAt stDK K Hc (kvsOf ss bs) := fun p hp => by
  obtain ⟨j, hj, rfl⟩ := List.mem_mapIdx.mp hp
  exact (h.st j _ (List.getElem?_eq_getElem hj)).dat
theorem LS.ne1 (h : LS K P w H Hc l1 nd l2 ss i m ys bs) : l1 ≠ nd := ne_of h.e1 h.eN (by unfold SD; intro z; cases z)
theorem LS.ne2 (h : LS K P w H Hc l1 nd l2 ss i m ys bs) : l2 ≠ nd := ne_of h.e2 h.eN (by unfold SD; intro z; cases z)
theorem LS.push (h : LS K P w H Hc l1 nd l2 ss i m ys bs) (n1 : H l1 = none) (n2 : H nd = none) (n12 : l1 ≠ l2) {b : Addr} (hb : StA K Hc b (ss m)) :
    LS K P w H (upd (upd Hc nd (SD stDK P w nd (kvsOf ss bs ++ [(ss m, b, V.int (m : Nat))]))) l1 (.lst (bs.map V.ref ++ [.ref b]))) l1 nd l2 ss i (m + 1) ys (bs ++ [b]) := by
  have t1 : TS Hc (upd Hc nd (SD stDK P w nd (kvsOf ss bs ++ [(ss m, b, V.int (m : Nat))]))) := TS.ext h.eN
  have t2 : TS (upd Hc nd (SD stDK P w nd (kvsOf ss bs ++ [(ss m, b, V.int (m : Nat))]))) (upd (upd Hc nd (SD stDK P w nd (kvsOf ss bs ++ [(ss m, b, V.int (m : Nat))]))) l1 (.lst (bs.map V.ref ++ [.ref b]))) := TS.lst (by rw [upd_ne h.ne1]; exact h.e1)
  refine ⟨(h.same.upd n2).upd n1, by rw [upd_same, List.map_append]; rfl, ?_, ?_, h.li, by rw [List.length_append, h.lb]; rfl, fun j b' hj => ?_⟩
  · rw [upd_ne (Ne.symm h.ne1), upd_same, kvs_snoc, h.lb]
  · rw [upd_ne (Ne.symm n12), upd_ne h.ne2]; exact h.e2
  · refine StA.ts ?_ (t1.trans t2)
    rcases Nat.lt_or_ge j bs.length with z | z
    · rw [List.getElem?_append_left z] at hj; exact h.st j b' hj
    · rw [List.getElem?_append_right z] at hj
      cases e : j - bs.length with
      | zero =>
        rw [e] at hj
        cases hj
        have : j = m := by have := h.lb; omega
        rw [this]; exact hb
      | succ n => rw [e] at hj; cases hj
theorem LS.more (h : LS K P w H Hc l1 nd l2 ss i m ys bs) (n2 : H l2 = none) (n12 : l1 ≠ l2) (v : V) : LS K P w H (upd Hc l2 (.lst (ys ++ [v]))) l1 nd l2 ss (i + 1) m (ys ++ [v]) bs :=
  ⟨h.same.upd n2, by rw [upd_ne n12]; exact h.e1, by rw [upd_ne (Ne.symm h.ne2)]; exact h.eN, upd_same, by rw [List.length_append, h.li]; rfl, h.lb, fun j b hj => (h.st j b hj).ts (TS.lst h.e2)⟩
theorem LS.other (h : LS K P w H Hc l1 nd l2 ss i m ys bs) {l : Addr} {zs : List V} {o : HO} (hl : Hc l = some (.lst zs)) (n0 : H l = none) (n1 : l1 ≠ l) (n2 : l2 ≠ l) : LS K P w H (upd Hc l o) l1 nd l2 ss i m ys bs :=
  ⟨h.same.upd n0, by rw [upd_ne n1]; exact h.e1, by rw [upd_ne (ne_of h.eN hl (by unfold SD; intro z; cases z))]; exact h.eN, by rw [upd_ne n2]; exact h.e2, h.li, h.lb, fun j b hj => (h.st j b hj).ts (TS.lst hl)⟩
end
theorem st0 {G : Hp} {a1 a2 a3 : Addr} {g : SN} (h1 : SqT K G a1 [.str g.1, .int 0]) (h2 : SqT K G a2 [.ref a1]) (h3 : SqT K G a3 [.ref a2, .bl false]) : StA K G a3 ([(g, 0)], false) := ⟨a2, h3, ChA.mk (fa := a1) (yr := []) h2 h1 .nil⟩
theorem LS.ini {H G : Hp} {l1 nd l2 a3 : Addr} {ss : Nat → Stp} {s0 : Stp} (e : ss 0 = s0) (S : Same H G) (n2 : H nd = none) (h1 : G l1 = some (.lst [.ref a3])) (hn : G nd = some (SD stDK P w nd [])) (st : StA K G a3 s0) (hl2 : (upd G nd (SD stDK P w nd [(s0, a3, .int 0)])) l2 = none) :
    LS K P w H (upd (upd G nd (SD stDK P w nd [(s0, a3, .int 0)])) l2 (.lst [])) l1 nd l2 ss 0 1 [] [a3] ∧ l1 ≠ l2 ∧ H l2 = none := by
  have m1 : l1 ≠ nd := ne_of h1 hn (by unfold SD; intro z; cases z)
  have g1 : (upd G nd (SD stDK P w nd [(s0, a3, .int 0)])) l1 = some (.lst [.ref a3]) := by rw [upd_ne m1]; exact h1
  have m2 : l1 ≠ l2 := ne_of_none g1 hl2
  have m3 : nd ≠ l2 := ne_of_none (o := SD stDK P w nd [(s0, a3, .int 0)]) upd_same hl2
  have S1 : Same H (upd G nd (SD stDK P w nd [(s0, a3, .int 0)])) := S.upd n2
  refine ⟨⟨S1.trans (Same.new hl2), by rw [upd_ne m2]; exact g1, by rw [upd_ne m3, upd_same, ← e]; rfl, upd_same, rfl, rfl, fun j b hj => ?_⟩, m2, S1.free hl2⟩
  cases j with
  | zero =>
    cases hj
    rw [e]
    exact st.ts ((TS.ext hn).trans (.of (Same.new hl2)))
  | succ j => cases hj
theorem st7 {a fo : V} {x1 x2 x3 x5 x6 y1 y2 y3 y5 y6 : Int} (h1 : x1 = y1) (h2 : x2 = y2) (h3 : x3 = y3) (h5 : x5 = y5) (h6 : x6 = y6) :
    [some a, some (.int x1), some (.int x2), some (.int x3), some fo, some (.int x5), some (.int x6), none, none, none, none, none, none] = [some a, some (.int y1), some (.int y2), some (.int y3), some fo, some (.int y5), some (.int y6), none, none, none, none, none, none] := by
  subst h1 h2 h3 h5 h6; rfl
theorem st10 {a fo x1 x2 x3 x5 x6 : V} {x7 x8 x9 y7 y8 y9 : Int} (h7 : x7 = y7) (h8 : x8 = y8) (h9 : x9 = y9) :
    [some a, some x1, some x2, some x3, some fo, some x5, some x6, some (.int x7), some (.int x8), some (.int x9), none, none, none] = [some a, some x1, some x2, some x3, some fo, some x5, some x6, some (.int y7), some (.int y8), some (.int y9), none, none, none] := by
  subst h7 h8 h9; rfl
theorem v5 {n s : Str} {f : Bool} {a a' b b' : Int} (h1 : a = a') (h2 : b = b') : [V.str n, V.bl f, .int a, .int b, .str s] = [V.str n, V.bl f, .int a', .int b', .str s] := by subst h1 h2; rfl
theorem bnn {b : Bool} (g : ¬ (!b) = true) : b = true := by cases b with | true => rfl | false => exact absurd rfl g
end
end K55

set_option Elab.async false
set_option linter.all false
set_option maxRecDepth 100000
set_option maxHeartbeats 4000000
namespace K55
open PySem L2 Gx Fl
section
variable {P : Program} {w : World} {K : PySem.W.Frag} {mg : Str → Option Value} {base : Heap} {t : Adr}
local macro_rules | `(tactic| walk_at "rd1") => `(tactic| first
  | refine ⟨_, rfl, ?_⟩
  | refine ⟨_, _, rfl, rfl, ?_⟩
  | refine ⟨rfl, ?_⟩
  | refine ⟨(show (0 : Int) < _ by decide), ?_⟩
  | refine ⟨⟨by decide, by decide⟩, ?_⟩
  | refine ⟨.inl ⟨by decide, by decide⟩, ?_⟩
  | refine ⟨.inr ⟨by decide, by decide⟩, ?_⟩
  | refine ⟨⟨by decide, by decide, by decide⟩, ?_⟩)
local macro_rules | `(tactic| walk_at "rd") => `(tactic| repeat walk_at "rd1")
theorem sc_TooLong_init : FnScope ["self", "function"] ["self", "function"] (defScope s_TooLong_init) := ⟨rfl, rfl, rfl, by decide +kernel, rfl, by decide +kernel, by decide +kernel⟩
theorem ok_TooLong_init (T : Txt K mg t) : FnOk P w K mg base CX0 1 t.a_TooLong_init t.d_TooLong_init ["self", "function"] (sp_TooLong_init t) := by
  refine T.TooLong_init.F.ok sc_TooLong_init (fun vs H Q E h => ?_) (fun cdv A outer s H vs Q E hr h => ?_)
  · obtain ⟨x, v, rfl, hx, q⟩ := h
    rfl
  · obtain ⟨x, v, rfl, hx, q⟩ := h
    refine ⟨_, (@pss_cons _ _ _ _ _ (ps_xfld (pv 0) (pv 1) (by rfl)) pss_nil), ?_⟩
    refine ⟨_, rfl, _, rfl, x, _, _, rfl, T.x_TooLong, T.n_TooLong_function, .inl ⟨hx, fun dx hd => q dx hd⟩⟩
end
end K55

set_option Elab.async false
set_option linter.all false
set_option maxRecDepth 100000
set_option maxHeartbeats 4000000
namespace K55
open PySem L2 K12
section
variable {P : Program} {w : World} {K : PySem.W.Frag} {mg : Str → Option Value} {base : Heap} {t : Adr}
local macro_rules | `(tactic| walk_at "rd1") => `(tactic| first
  | refine ⟨_, rfl, ?_⟩
  | refine ⟨_, _, rfl, rfl, ?_⟩
  | refine ⟨rfl, ?_⟩
  | refine ⟨(show (0 : Int) < _ by decide), ?_⟩
  | refine ⟨⟨by decide, by decide⟩, ?_⟩
  | refine ⟨.inl ⟨by decide, by decide⟩, ?_⟩
  | refine ⟨.inr ⟨by decide, by decide⟩, ?_⟩
  | refine ⟨⟨by decide, by decide, by decide⟩, ?_⟩)
local macro_rules | `(tactic| walk_at "rd") => `(tactic| repeat walk_at "rd1")
theorem sc_each_once : FnScope ["names"] ["names"] (defScope s_each_once) := ⟨rfl, rfl, rfl, by decide +kernel, rfl, by decide +kernel, by decide +kernel⟩
theorem ok_each_once (T : Txt K mg t) : FnOk P w K mg base CX0 1 t.a_each_once t.d_each_once ["names"] (K12.sp_each_once K) := by
  refine T.each_once.F.ok sc_each_once (fun vs H Q E h => ?_) (fun cdv A outer s H vs Q E hr h => ?_)
  · obtain ⟨p0, ss, rfl, hS, hl, q⟩ := h
    rfl
  · obtain ⟨p0, ss, rfl, hS, hl, q⟩ := h
    refine ⟨_, (@pss_cons _ _ _ _ _ (@ps_ret _ _ _ _ (pe_callTy (call_list_dk rfl) (by rfl) T.b_list bt_list (@pa_cons _ _ _ _ _ (pe_callTy (call_dict_of rfl) (by rfl) T.b_dict bt_dict (@pa_cons _ _ _ _ _ (pe_comp (N' := ["name"]) (js := [none]) (by kernel_rfl) rfl (pi_list (pv 0)) own_name (fun _ _ _ _ => (pg_name (i := 0) (show (["name"] : List Str).Nodup by decide +kernel) rfl (Or.inl rfl) (.inr rfl))) (fun _ _ _ _ => pif_nil) (fun _ _ _ _ => (@pe_tup _ _ _ _ _ (@pa_cons _ _ _ _ _ (pv 0) (@pa_cons _ _ _ _ _ pe_bl pa_nil (by rfl)) (by rfl))))) pa_nil (by rfl))) pa_nil (by rfl)))) pss_nil), ?_⟩
    refine ⟨_, rfl, p0, rfl, ⟨_, hS⟩, fun p hp => comp_list (xs := ss.map V.str) (by rw [List.length_map]; omega) (fun i acc H2 => i ≤ ss.length ∧ Same H H2 ∧ H2 p = some (.lst acc) ∧ ∃ ps : List Addr, acc = ps.map V.ref ∧ Paired (fun a (kv : Key × V) => SqT K H2 a [kV kv.1, kv.2]) ps (tru (ss.take i))) ⟨Nat.zero_le _, Same.new hp, upd_same, [], rfl, .nil⟩ ?_ ?_ ?_⟩
    · rintro i acc H2 hi ⟨hi', s2, h2, ps, rfl, hps⟩
      refine ⟨h2, ?_, s2.seq hS⟩
      have := Paired.length hps
      rw [List.length_map, this]
      unfold tru
      rw [List.length_map, List.length_take]
      omega
    · rintro i x acc H2 hx ⟨hi', s2, h2, ps, rfl, hps⟩
      have hi : i < ss.length := by
        have := (List.getElem?_eq_some_iff.mp hx).1
        rw [List.length_map] at this
        exact this
      rw [List.getElem?_map] at hx
      have hx : V.str ss[i] = x := by simpa [hi] using hx
      subst hx
      refine ⟨_, rfl, (by show 2 ≤ sizeLine; decide), fun a ha => ?_⟩
      have hap : a ≠ p := fun z => by rw [z, h2] at ha; cases ha
      have e : (upd H2 a (.tup [V.str ss[i], V.bl true])) p = some (.lst (ps.map V.ref)) := by rw [upd_ne hap.symm]; exact h2
      refine ⟨e, hi, ?_, upd_same, ps ++ [a], by rw [List.map_append]; rfl, ?_⟩
      · exact (s2.trans (Same.new ha)).upd hp
      · have e2 : tru (ss.take (i + 1)) = tru (ss.take i) ++ [(Sum.inr ss[i], V.bl true)] := by
          unfold tru
          rw [List.take_add_one, List.map_append]
          simp [hi]
        rw [e2]
        refine Paired.snoc (Paired.mapP hps fun b kv z => sqT_lst ((Same.new ha).tup z) e) ?_
        exact SqT.of (by rw [upd_ne hap]; exact upd_same)
    · rintro acc H2 ⟨hi', s2, h2, ps, rfl, hps⟩
      have e0 : ss.take (ss.map V.str).length = ss := by rw [List.length_map]; exact List.take_length
      rw [e0] at hps
      refine ⟨p, ps, tru ss, rfl, SqL.of h2, hps, by unfold tru; rw [List.length_map]; omega, fun d hd => ?_⟩
      rw [tru_once]
      refine ⟨d, tru (onceL ss), rfl, upd_same, fun l hl' => ?_⟩
      rw [tru_keys]
      exact q l _ ((s2.trans (Same.new hd)).trans (Same.new hl')) (s2.free ((Same.new hd).free hl')) upd_same
end
end K55

set_option Elab.async false
set_option linter.all false
set_option maxRecDepth 100000
set_option maxHeartbeats 4000000
namespace K55
open PySem L2 K12
section
variable {P : Program} {w : World} {K : PySem.W.Frag} {mg : Str → Option Value} {base : Heap} {t : Adr}
local macro_rules | `(tactic| walk_at "rd1") => `(tactic| first
  | refine ⟨_, rfl, ?_⟩
  | refine ⟨_, _, rfl, rfl, ?_⟩
  | refine ⟨rfl, ?_⟩
  | refine ⟨(show (0 : Int) < _ by decide), ?_⟩
  | refine ⟨⟨by decide, by decide⟩, ?_⟩
  | refine ⟨.inl ⟨by decide, by decide⟩, ?_⟩
  | refine ⟨.inr ⟨by decide, by decide⟩, ?_⟩
  | refine ⟨⟨by decide, by decide, by decide⟩, ?_⟩)
local macro_rules | `(tactic| walk_at "rd") => `(tactic| repeat walk_at "rd1")
theorem sc_gives : FnScope ["row"] ["row"] (defScope s_gives) := ⟨rfl, rfl, rfl, by decide +kernel, rfl, by decide +kernel, by decide +kernel⟩
theorem ok_gives (T : Txt K mg t) : FnOk P w K mg base CX0 1 t.a_gives t.d_gives ["row"] (K12.sp_gives K) := by
  refine T.gives.F.ok sc_gives (fun vs H Q E h => ?_) (fun cdv A outer s H vs Q E hr h => ?_)
  · obtain ⟨r, xs, g, as, rfl, hr, hrow, q⟩ := h
    rfl
  · obtain ⟨r, xs, g, as, rfl, hr, hrow, q⟩ := h
    refine ⟨_, (@pss_cons _ _ _ _ _ (@ps_ret _ _ _ _ (@pe_ifExp _ _ _ _ _ _ _ _ (@pt_cmpR _ _ _ _ _ _ _ _ op_in_seq (@pe_ix _ _ _ _ _ _ _ ix_tup (pv 0) pe_int (fun _ _ => rfl)) (pe_gtuple T.c_GIVING_KINDS) (by with_unfolding_all rfl)) (@pe_ix _ _ _ _ _ _ _ ix_tup (pv 0) pe_int (fun _ _ => rfl)) pe_non)) pss_nil), ?_⟩
    obtain ⟨kd, h0, hc⟩ := row_gives hrow
    refine ⟨_, rfl, r, xs, _, _, rfl, rfl, hr, h0, t.a_GIVING, giving.map V.str, rfl, .inr (T.q_GIVING H), rfl, giving_flat, _, rfl, ?_⟩
    rcases hc with ⟨x, rfl, e, h1⟩ | ⟨rfl, e⟩
    · exact iteP e ⟨_, rfl, r, xs, _, _, rfl, rfl, hr, h1, q⟩
    · exact iteN (falseN e) q
end
end K55

set_option Elab.async false
set_option linter.all false
set_option maxRecDepth 100000
set_option maxHeartbeats 4000000
namespace K55
open PySem L2 K12
section
variable {P : Program} {w : World} {K : PySem.W.Frag} {mg : Str → Option Value} {base : Heap} {t : Adr}
local macro_rules | `(tactic| walk_at "rd1") => `(tactic| first
  | refine ⟨_, rfl, ?_⟩
  | refine ⟨_, _, rfl, rfl, ?_⟩
  | refine ⟨rfl, ?_⟩
  | refine ⟨(show (0 : Int) < _ by decide), ?_⟩
  | refine ⟨⟨by decide, by decide⟩, ?_⟩
  | refine ⟨.inl ⟨by decide, by decide⟩, ?_⟩
  | refine ⟨.inr ⟨by decide, by decide⟩, ?_⟩
  | refine ⟨⟨by decide, by decide, by decide⟩, ?_⟩)
local macro_rules | `(tactic| walk_at "rd") => `(tactic| repeat walk_at "rd1")
theorem sc_atoms_of : FnScope ["row"] ["row"] (defScope s_atoms_of) := ⟨rfl, rfl, rfl, by decide +kernel, rfl, by decide +kernel, by decide +kernel⟩
theorem ok_atoms_of (T : Txt K mg t) : FnOk P w K mg base CX0 1 t.a_atoms_of t.d_atoms_of ["row"] (K12.sp_atoms_of K) := by
  refine T.atoms_of.F.ok sc_atoms_of (fun vs H Q E h => ?_) (fun cdv A outer s H vs Q E hr h => ?_)
  · obtain ⟨r, xs, g, as, rfl, hr, hrow, hl, q⟩ := h
    rfl
  · obtain ⟨r, xs, g, as, rfl, hr, hrow, hl, q⟩ := h
    refine ⟨_, (@pss_cons _ _ _ _ _ (@ps_if _ _ _ _ _ _ _ _ (@pt_cmpR _ _ _ _ _ _ _ _ op_eq (@pe_ix _ _ _ _ _ _ _ ix_tup (pv 0) pe_int (fun _ _ => rfl)) pe_str (nomark _)) (@pss_one _ _ _ (@ps_ret _ _ _ _ (pe_callTy call_list_of (by rfl) T.b_list bt_list (@pa_cons _ _ _ _ _ (@pe_ix _ _ _ _ _ _ _ ix_tup (pv 0) pe_int (fun _ _ => rfl)) pa_nil (by rfl))))) pss_nil) (@pss_one _ _ _ (@ps_ret _ _ _ _ (pe_comp (N' := ["place", "row"]) (js := [none, some 0]) (by kernel_rfl) rfl (pi_tup (@pe_ix _ _ _ _ _ _ _ ix_tab (pe_gtuple T.c_ATOM_PLACES) (@pe_ix _ _ _ _ _ _ _ ix_tup (pv 0) pe_int (fun _ _ => rfl)) (fun _ _ => rfl))) own_name (fun _ _ _ _ => (pg_name (i := 0) (show (["place", "row"] : List Str).Nodup by decide +kernel) rfl (Or.inl rfl) (.inr rfl))) (fun _ _ _ _ => pif_nil) (fun _ _ _ _ => (@pe_ix _ _ _ _ _ _ _ (show IxR _ (rIxT K) from ix_tup) (pv 1) (pv 0) (fun _ _ => rfl))))))), ?_⟩
    obtain ⟨kd, h0, hc⟩ := row_places hrow
    refine ⟨_, rfl, r, xs, _, _, rfl, rfl, hr, h0, rfl, _, rfl, ?_⟩
    rcases hc with ⟨rfl, p, h3, hp⟩ | ⟨hne, pl, hk, hpl, hat⟩
    · exact iteP (decide_eq_true rfl) ⟨_, rfl, r, xs, _, _, rfl, rfl, hr, h3, p, as, rfl, .inr hp, fun l hl => q l _ (Same.new hl) hl upd_same⟩
    · refine iteN (fun h => hne (V.str.inj (dec_true h))) ?_
      refine ⟨_, rfl, r, xs, _, _, rfl, rfl, hr, h0, t.a_TAB, tabl, _, _, rfl, rfl, T.q_TAB, hk, fun a ha => ?_⟩
      refine ⟨a, rfl, ⟨_, ha⟩, fun p hp => comp_tup (xs := pl.map V.int) (by rw [List.length_map]; omega) (fun i acc H2 => acc = as.take i ∧ H2 = upd H p (.lst acc)) ⟨rfl, rfl⟩ ?_ ?_ ?_⟩
      · rintro i acc H2 hi ⟨rfl, rfl⟩
        exact ⟨upd_same, by rw [List.length_take]; omega, (Same.new hp).tup ha⟩
      · rintro i x acc H2 hx ⟨rfl, rfl⟩
        have hi : i < as.length := by
          have := (List.getElem?_eq_some_iff.mp hx).1
          rw [List.length_map] at this
          omega
        obtain ⟨p1, hp1, hp2⟩ := hat i as[i] (by simp [hi])
        rw [List.getElem?_map, hp1] at hx
        have hx : V.int p1 = x := by simpa using hx
        subst hx
        refine ⟨_, rfl, _, rfl, r, xs, _, _, rfl, rfl, (Same.new hp).tup hr, hp2, upd_same, ?_, upd_upd⟩
        rw [List.take_add_one]
        simp [hi]
      · rintro acc H2 ⟨rfl, rfl⟩
        have e : (as.take (pl.map V.int).length) = as := by rw [List.length_map, hpl]; exact List.take_length
        exact q p _ (Same.new hp) hp (by rw [upd_same, e])
end
end K55

set_option Elab.async false
set_option linter.all false
set_option maxRecDepth 100000
set_option maxHeartbeats 4000000
namespace K55
open PySem L2 K12
section
variable {P : Program} {w : World} {K : PySem.W.Frag} {mg : Str → Option Value} {base : Heap} {t : Adr}
local macro_rules | `(tactic| walk_at "rd1") => `(tactic| first
  | refine ⟨_, rfl, ?_⟩
  | refine ⟨_, _, rfl, rfl, ?_⟩
  | refine ⟨rfl, ?_⟩
  | refine ⟨(show (0 : Int) < _ by decide), ?_⟩
  | refine ⟨⟨by decide, by decide⟩, ?_⟩
  | refine ⟨.inl ⟨by decide, by decide⟩, ?_⟩
  | refine ⟨.inr ⟨by decide, by decide⟩, ?_⟩
  | refine ⟨⟨by decide, by decide, by decide⟩, ?_⟩)
local macro_rules | `(tactic| walk_at "rd") => `(tactic| repeat walk_at "rd1")
theorem sc_reads : FnScope ["row"] ["row"] (defScope s_reads) := ⟨rfl, rfl, rfl, by decide +kernel, rfl, by decide +kernel, by decide +kernel⟩
theorem ok_reads (T : Txt K mg t) : FnOk P w K mg base CX0 2 t.a_reads t.d_reads ["row"] (K12.sp_reads K) := by
  have G_each_once : FnOk P w K mg base CX0 1 t.a_each_once t.d_each_once ["names"] (K12.sp_each_once K) := ok_each_once T
  have G_atoms_of : FnOk P w K mg base CX0 1 t.a_atoms_of t.d_atoms_of ["row"] (K12.sp_atoms_of K) := ok_atoms_of T
  refine T.reads.F.ok sc_reads (fun vs H Q E h => ?_) (fun cdv A outer s H vs Q E hr h => ?_)
  · obtain ⟨r, xs, g, as, rfl, hrw, hrow, hl, hat, q⟩ := h
    rfl
  · obtain ⟨r, xs, g, as, rfl, hrw, hrow, hl, hat, q⟩ := h
    refine ⟨_, (@pss_cons _ _ _ _ _ (@ps_ret _ _ _ _ (callD T.each_once G_each_once (hr.mono (by decide)) (@pa_cons _ _ _ _ _ (pe_comp (N' := ["atom"]) (js := [none]) (by kernel_rfl) rfl (pi_list (callD T.atoms_of G_atoms_of (hr.mono (by decide)) (@pa_cons _ _ _ _ _ (pv 0) pa_nil (by rfl)))) own_name (fun _ _ _ _ => (pg_name (i := 0) (show (["atom"] : List Str).Nodup by decide +kernel) rfl (Or.inl rfl) (.inr rfl))) (fun _ _ _ _ => (pif_one (pt_val (pe_callB (show CallR _ (.builtin "isinstance") (rIsi K) from call_isinst) (by rfl) T.b_isinstance bt_isinstance (@pa_cons _ _ _ _ _ (pv 0) (@pa_cons _ _ _ _ _ (pe_bltn (v := V.ty "str") rfl T.b_str bt_str rfl) pa_nil (by rfl)) (by rfl)))))) (fun _ _ _ _ => (pv 0))) pa_nil (by rfl)))) pss_nil), ?_⟩
    refine ⟨_, rfl, r, xs, g, as, rfl, hrw, hrow, hl, fun l0 H1 s1 n1 e1 => ?_⟩
    refine ⟨l0, rfl, ⟨_, SqL.of e1⟩, fun p hp => comp_list (xs := as) (by omega) (fun i acc H2 => acc = (strsOf (as.take i)).map V.str ∧ H2 = upd H1 p (.lst acc)) ⟨rfl, rfl⟩ ?_ ?_ ?_⟩
    · rintro i acc H2 hi ⟨rfl, rfl⟩
      refine ⟨upd_same, ?_, (Same.new hp).seq (SqL.of e1)⟩
      have := strsOf_len (as.take i)
      rw [List.length_map]
      rw [List.length_take] at this
      omega
    · rintro i x acc H2 hx ⟨rfl, rfl⟩
      have hi : i < as.length := (List.getElem?_eq_some_iff.mp hx).1
      have e2 : strsOf (as.take (i + 1)) = strsOf (as.take i) ++ strsOf [x] := by
        rw [List.take_add_one, hx, strsOf_append]
        rfl
      rcases hat x (List.mem_of_getElem? hx) with ⟨s, rfl, hn⟩ | ⟨z, rfl⟩
      · refine ⟨_, rfl, _, _, _, true, rfl, .str _, rfl, _, rfl, ?_⟩
        refine ⟨_, rfl, upd_same, ?_, upd_upd⟩
        rw [e2, List.map_append]
        rfl
      · refine ⟨_, rfl, _, _, _, false, rfl, .int _, rfl, _, rfl, ?_⟩
        refine ⟨?_, ?_⟩
        · rw [e2, strsOf_int, List.append_nil]
        · rfl
    · rintro acc H2 ⟨rfl, rfl⟩
      rw [List.take_length]
      have hle := strsOf_len as
      exact ⟨p, strsOf as, rfl, SqL.of upd_same, by omega, fun l H3 s3 n3 e3 => q l H3 ((s1.trans (Same.new hp)).trans s3) (s1.free ((Same.new hp).free n3)) e3⟩
end
end K55

set_option Elab.async false
set_option linter.all false
set_option maxRecDepth 100000
set_option maxHeartbeats 4000000
namespace K55
open PySem L2 K12
section
variable {P : Program} {w : World} {K : PySem.W.Frag} {mg : Str → Option Value} {base : Heap} {t : Adr}
local macro_rules | `(tactic| walk_at "rd1") => `(tactic| first
  | refine ⟨_, rfl, ?_⟩
  | refine ⟨_, _, rfl, rfl, ?_⟩
  | refine ⟨rfl, ?_⟩
  | refine ⟨(show (0 : Int) < _ by decide), ?_⟩
  | refine ⟨⟨by decide, by decide⟩, ?_⟩
  | refine ⟨.inl ⟨by decide, by decide⟩, ?_⟩
  | refine ⟨.inr ⟨by decide, by decide⟩, ?_⟩
  | refine ⟨⟨by decide, by decide, by decide⟩, ?_⟩)
local macro_rules | `(tactic| walk_at "rd") => `(tactic| repeat walk_at "rd1")
theorem sc_names_of : FnScope ["function", "found", "row", "given"] ["function"] (defScope s_names_of) := ⟨rfl, rfl, rfl, by decide +kernel, rfl, by decide +kernel, by decide +kernel⟩
theorem ok_names_of (T : Txt K mg t) : FnOk P w K mg base CX0 3 t.a_names_of t.d_names_of ["function"] (K12.sp_names_of K) := by
  have G_each_once : FnOk P w K mg base CX0 1 t.a_each_once t.d_each_once ["names"] (K12.sp_each_once K) := ok_each_once T
  have G_gives : FnOk P w K mg base CX0 1 t.a_gives t.d_gives ["row"] (K12.sp_gives K) := ok_gives T
  have G_reads : FnOk P w K mg base CX0 2 t.a_reads t.d_reads ["row"] (K12.sp_reads K) := ok_reads T
  refine T.names_of.F.ok sc_names_of (fun vs H Q E h => ?_) (fun cdv A outer s H vs Q E hr h => ?_)
  · obtain ⟨f, ps, ds, rfl, hf, q⟩ := h
    rfl
  · obtain ⟨f, ps, ds, rfl, hf, q⟩ := h
    refine ⟨_, (@pss_cons _ _ _ _ _ (@ps_set _ _ 1 _ _ _ _ sc_names_of.nd rfl (Or.inl rfl) (pe_callTy call_list_of (by rfl) T.b_list bt_list (@pa_cons _ _ _ _ _ (@pe_ix _ _ _ _ _ _ _ ix_tup (pv 0) pe_int (fun _ _ => rfl)) pa_nil (by rfl))) (by rfl) (by first | exact .inl rfl | exact .inr rfl | assumption)) (@pss_cons _ _ _ _ _ (ps_for PassesOwn.never rfl (pi_tup (@pe_ix _ _ _ _ _ _ _ ix_tup (pv 0) pe_int (fun _ _ => rfl))) (pg_name (i := 2) sc_names_of.nd rfl (Or.inl rfl)) (@pss_cons _ _ _ _ _ (@ps_set _ _ 3 _ _ _ _ sc_names_of.nd rfl (Or.inl rfl) (callD T.gives G_gives (hr.mono (by decide)) (@pa_cons _ _ _ _ _ (pv 2) pa_nil (by rfl))) (by rfl) (by first | exact .inl rfl | exact .inr rfl | assumption)) (@pss_cons _ _ _ _ _ (@ps_if _ _ _ _ _ _ _ _ (pt_cmp (pc_notN (pv 3))) (@pss_one _ _ _ (@ps_expr _ _ _ _ (pe_bm PySem.F.plainAttrs_list PySem.F.slot_list_append PySem.F.type_list_append mt_append (pv 1) (@pa_cons _ _ _ _ _ (pv 3) pa_nil (by rfl))) (by rfl))) pss_nil) (@pss_one _ _ _ (@ps_expr _ _ _ _ (pe_bm PySem.F.plainAttrs_list PySem.F.slot_list_extend PySem.F.type_list_extend mt_extend (pv 1) (@pa_cons _ _ _ _ _ (callD T.reads G_reads (hr.mono (by decide)) (@pa_cons _ _ _ _ _ (pv 2) pa_nil (by rfl))) pa_nil (by rfl))) (by rfl)))))) (@pss_one _ _ _ (@ps_ret _ _ _ _ (callD T.each_once G_each_once (hr.mono (by decide)) (@pa_cons _ _ _ _ _ (pv 1) pa_nil (by rfl))))))), ?_⟩
    obtain ⟨n, b, pp, rr, hF, hP, hR⟩ := hf.fn
    refine ⟨_, rfl, f, _, _, _, rfl, rfl, hF, rfl, pp, _, rfl, .inr hP, fun l hl => ?_⟩
    refine ⟨_, rfl, f, _, _, _, rfl, rfl, (Same.new hl).tup hF, rfl, ?_⟩
    refine ⟨rr, rfl, ⟨_, (Same.new hl).tup hR⟩, for_tup (xs := ds.map fun d => V.ref d.r) (fun i σ H2 => Same H H2 ∧ ∃ v1 v2 fs, σ = [some (.ref f), some (.ref l), v1, v2] ∧ H2 l = some (.lst (List.map V.str fs)) ∧ onceL fs = onceL (ps ++ (ds.take i).flatMap rowStrs) ∧ fs.length ≤ 100 + 11 * i) ⟨Same.new hl, _, _, ps, rfl, upd_same, by simp, by have := hf.pl; omega⟩ ?_ ?_ ?_⟩
    · rintro i σ H2 hi ⟨s2, _⟩
      exact s2.tup hR
    · rintro i x σ H2 hx ⟨s2, v1, v2, fs, rfl, h2, ho, hlen⟩
      have hi : i < ds.length := by
        have := (List.getElem?_eq_some_iff.mp hx).1
        rw [List.length_map] at this
        exact this
      rw [List.getElem?_map] at hx
      have hx : V.ref ds[i].r = x := by simpa [hi] using hx
      subst hx
      have hd := hf.rows ds[i] (List.getElem_mem hi)
      have hds := hf.dl
      have ef : (ds.take (i + 1)).flatMap rowStrs = (ds.take i).flatMap rowStrs ++ rowStrs ds[i] := by
        rw [List.take_add_one, List.flatMap_append]
        simp [hi]
      have hol := onceL_len (strsOf ds[i].as)
      have hsl := strsOf_len ds[i].as
      have hal := hd.len
      obtain ⟨xs, hr1, hr2⟩ := (hd.mono s2).row
      refine ⟨_, rfl, ds[i].r, xs, _, _, rfl, hr1, hr2, ?_⟩
      refine ⟨_, rfl, _, rfl, ?_⟩
      cases hg : ds[i].gx with
      | none =>
        refine iteF ⟨_, rfl, .inl ⟨rfl, _, SqL.of h2⟩, _, rfl, ds[i].r, xs, _, _, rfl, hr1, hr2, hd.len, hd.ats, fun l4 H4 s4 n4 e4 => ?_⟩
        refine ⟨l, l4, _, _, rfl, rfl, s4 _ _ h2, e4, lt_line (by rw [List.length_map, List.length_map]; omega), ?_⟩
        refine ⟨(s2.trans s4).upd hl, _, _, fs ++ [] ++ onceL (strsOf ds[i].as), rfl, (by rw [upd_same, List.append_nil, List.map_append]), ?_, (by simp only [List.length_append, List.length_nil]; omega)⟩
        rw [once_row ho, ef, List.append_assoc]
        unfold rowStrs
        rw [hg]
        rfl
      | some x =>
        refine iteT ⟨_, rfl, .inl ⟨rfl, _, SqL.of h2⟩, _, rfl, l, _, _, rfl, rfl, h2, lt_line' (by rw [List.length_map]; omega), ?_⟩
        have s3 : Same H (upd H2 l (.lst (List.map V.str fs ++ [V.str x]))) := s2.upd hl
        obtain ⟨xs', hr1', hr2'⟩ := (hd.mono s3).row
        refine ⟨_, rfl, .inl ⟨rfl, _, SqL.of upd_same⟩, _, rfl, ds[i].r, xs', _, _, rfl, hr1', hr2', hd.len, hd.ats, fun l4 H4 s4 n4 e4 => ?_⟩
        refine ⟨l, l4, _, _, rfl, rfl, s4 _ _ upd_same, e4, lt_line (by simp only [List.length_append, List.length_map, List.length_cons, List.length_nil]; omega), ?_⟩
        refine ⟨(s3.trans s4).upd hl, _, _, fs ++ [x] ++ onceL (strsOf ds[i].as), rfl, (by rw [upd_same, List.map_append, List.map_append]; rfl), ?_, (by simp only [List.length_append, List.length_cons, List.length_nil]; omega)⟩
        rw [once_row ho, ef, List.append_assoc]
        unfold rowStrs
        rw [hg]
        rfl
    · rintro σ H2 ⟨s2, v1, v2, fs, rfl, h2, ho, hlen⟩
      rw [List.length_map, List.take_length] at ho
      rw [List.length_map] at hlen
      have hds := hf.dl
      refine ⟨_, rfl, l, fs, rfl, SqL.of h2, by omega, fun l3 H3 s3 n3 e3 => q l3 H3 (s2.trans s3) (s2.free n3) ?_⟩
      rw [e3, ho]
      rfl
end
end K55

set_option Elab.async false
set_option linter.all false
set_option maxRecDepth 100000
set_option maxHeartbeats 4000000
namespace K55
open PySem L2 K13
section
variable {P : Program} {w : World} {K : PySem.W.Frag} {mg : Str → Option Value} {base : Heap} {t : Adr}
local macro_rules | `(tactic| walk_at "rd1") => `(tactic| first
  | refine ⟨_, rfl, ?_⟩
  | refine ⟨_, _, rfl, rfl, ?_⟩
  | refine ⟨rfl, ?_⟩
  | refine ⟨(show (0 : Int) < _ by decide), ?_⟩
  | refine ⟨⟨by decide, by decide⟩, ?_⟩
  | refine ⟨.inl ⟨by decide, by decide⟩, ?_⟩
  | refine ⟨.inr ⟨by decide, by decide⟩, ?_⟩
  | refine ⟨⟨by decide, by decide, by decide⟩, ?_⟩)
local macro_rules | `(tactic| walk_at "rd") => `(tactic| repeat walk_at "rd1")
theorem sc_begins_of : FnScope ["rows", "opened", "begins", "k", "row"] ["rows"] (defScope s_begins_of) := ⟨rfl, rfl, rfl, by decide +kernel, rfl, by decide +kernel, by decide +kernel⟩
theorem ok_begins_of (T : Txt K mg t) : FnOk P w K mg base CX0 1 t.a_begins_of t.d_begins_of ["rows"] (K13.sp_begins_of K) := by
  refine T.begins_of.F.ok sc_begins_of (fun vs H Q E h => ?_) (fun cdv A outer s H vs Q E hr h => ?_)
  · obtain ⟨a, ks, rfl, hR, w, hn, q⟩ := h
    rfl
  · obtain ⟨a, ks, rfl, hR, w, hn, q⟩ := h
    refine ⟨_, (@pss_cons _ _ _ _ _ (@ps_set _ _ 1 _ _ _ _ sc_begins_of.nd rfl (Or.inl rfl) (@pe_lst _ _ _ _ pa_nil) (by rfl) (by first | exact .inl rfl | exact .inr rfl | assumption)) (@pss_cons _ _ _ _ _ (@ps_set _ _ 2 _ _ _ _ sc_begins_of.nd rfl (Or.inl rfl) pe_dnewK (by rfl) (by first | exact .inl rfl | exact .inr rfl | assumption)) (@pss_cons _ _ _ _ _ (ps_for PassesOwn.never rfl (pi_enumT rfl T.b_enumerate (@pa_cons _ _ _ _ _ (pv 0) pa_nil (by rfl))) (pg_tup rfl (pgs_cons (pg_name (i := 3) sc_begins_of.nd rfl (Or.inl rfl)) (pgs_cons (pg_name (i := 4) sc_begins_of.nd rfl (Or.inl rfl)) pgs_nil))) (@pss_one _ _ _ (@ps_if _ _ _ _ _ _ _ _ (@pt_cmpR _ _ _ _ _ _ _ _ op_in_seq (@pe_ix _ _ _ _ _ _ _ ix_tup (pv 4) pe_int (fun _ _ => rfl)) (@pe_tup _ _ _ _ _ (@pa_cons _ _ _ _ _ pe_str (@pa_cons _ _ _ _ _ pe_str pa_nil (by rfl)) (by rfl))) (by with_unfolding_all rfl)) (@pss_one _ _ _ (@ps_expr _ _ _ _ (pe_bm PySem.F.plainAttrs_list PySem.F.slot_list_append PySem.F.type_list_append mt_append (pv 1) (@pa_cons _ _ _ _ _ (pv 3) pa_nil (by rfl))) (by rfl))) (@pss_one _ _ _ (@ps_if _ _ _ _ _ _ _ _ (@pt_cmpR _ _ _ _ _ _ _ _ op_eq (@pe_ix _ _ _ _ _ _ _ ix_tup (pv 4) pe_int (fun _ _ => rfl)) pe_str (nomark _)) (@pss_one _ _ _ (ps_dput (u1' hr.units) (pv 2) (pv 3) (@pe_ix _ _ _ _ _ _ _ ix_list (pv 1) (pe_un un_neg pe_int) (fun _ _ => rfl)) (by rfl))) (@pss_one _ _ _ (@ps_if _ _ _ _ _ _ _ _ (@pt_cmpR _ _ _ _ _ _ _ _ op_eq (@pe_ix _ _ _ _ _ _ _ ix_tup (pv 4) pe_int (fun _ _ => rfl)) pe_str (nomark _)) (@pss_one _ _ _ (ps_dput (u1' hr.units) (pv 2) (pv 3) (pe_bm0 PySem.F.plainAttrs_list PySem.F.slot_list_pop PySem.F.type_list_pop mt_pop (pv 1)) (by rfl))) pss_nil))))))) (@pss_one _ _ _ (@ps_ret _ _ _ _ (pv 2)))))), ?_⟩
    refine ⟨le0, fun ol hol => fun d hd => ?_⟩
    obtain ⟨rs, e1, e2, e3⟩ := hR.ex
    have hdo : d ≠ ol := fun z => by rw [z, upd_same] at hd; cases hd
    have s0 : Same H (upd (upd H ol (.lst [])) d (.dK [])) := (Same.new hol).trans (Same.new hd)
    have hd0 : H d = none := (Same.new hol).free hd
    refine ⟨_, rfl, a, rfl, ⟨_, s0.tup e1⟩, for_enumT (xs := rs.map V.ref) (fun i σ H2 => i ≤ ks.length ∧ Same H H2 ∧ ∃ v3 v4, σ = [some (.ref a), some (.ref ol), some (.ref d), v3, v4] ∧ H2 ol = some (.lst (stkV ks i)) ∧ H2 d = some (.dK (bg ks i))) ⟨Nat.zero_le _, s0, _, _, rfl, by rw [upd_ne hdo.symm]; exact upd_same, upd_same⟩ ?_ ?_ ?_⟩
    · rintro i σ H2 hi ⟨_, s2, _⟩
      exact s2.tup e1
    · rintro i x σ H2 b hx ⟨hi', s2, v3, v4, rfl, ho, hg⟩ hb
      have hi : i < rs.length := by
        have := (List.getElem?_eq_some_iff.mp hx).1
        rw [List.length_map] at this
        exact this
      rw [List.getElem?_map] at hx
      have hx : V.ref rs[i] = x := by simpa [hi] using hx
      subst hx
      obtain ⟨rest, hrow⟩ := e3 i rs[i] (by simp [hi])
      have s3 : Same H (upd H2 b (.tup [.int i, .ref rs[i]])) := s2.trans (Same.new hb)
      have ho3 := Same.new (o := .tup [.int i, .ref rs[i]]) hb _ _ ho
      have hg3 := Same.new (o := .tup [.int i, .ref rs[i]]) hb _ _ hg
      have sl := stkV_len ks i
      have bl := bg_len ks i
      refine ⟨b, _, rfl, SqT.of upd_same, rfl, _, _, rfl, _, _, rfl, rfl, ?_⟩
      refine ⟨_, rfl, rs[i], _, _, _, rfl, rfl, s3.tup hrow, at0, le2, fun tw htw => ⟨tw, [V.str "if", V.str "while"], rfl, .inr (SqT.of upd_same), rfl, rfl, _, rfl, ?_⟩⟩
      have s4 := s3.trans (Same.new (o := .tup [V.str "if", V.str "while"]) htw)
      have ho4 := Same.new (o := .tup [V.str "if", V.str "while"]) htw _ _ ho3
      have hg4 := Same.new (o := .tup [V.str "if", V.str "while"]) htw _ _ hg3
      by_cases hO : isO (kd ks i) = true
      · refine iteP ((inO _).trans hO) ?_
        refine ⟨_, rfl, .inl ⟨rfl, _, SqL.of ho4⟩, _, rfl, ol, _, _, rfl, rfl, ho4, lt_line' (by omega), ?_⟩
        refine ⟨by omega, s4.upd hol, _, _, rfl, ?_, ?_⟩
        · rw [upd_same]
          have : stk ks (i + 1) = i :: stk ks i := by rw [stk_succ]; unfold push; rw [if_pos hO]
          unfold stkV
          rw [this, List.reverse_cons, List.map_append]
          rfl
        · rw [upd_ne hdo, bg_same (isO_not_E hO)]
          exact hg4
      refine iteN (fun z => hO ((inO _).symm.trans z)) ?_
      refine ⟨_, rfl, rs[i], _, _, _, rfl, rfl, s4.tup hrow, at0, rfl, _, rfl, ?_⟩
      by_cases h1 : kd ks i = "else"
      · refine iteP (decide_eq_true (congrArg V.str h1)) ?_
        have hE : isE (kd ks i) = true := by rw [h1]; decide +kernel
        obtain ⟨t, r, ht⟩ : ∃ t r, stk ks i = t :: r := by
          cases z : stk ks i with
          | nil => exact absurd z (w.open_ i (by omega) hE)
          | cons t r => exact ⟨t, r, rfl⟩
        obtain ⟨q1, q2, q3⟩ := stkV_top ht
        refine ⟨_, rfl, _, rfl, ol, _, _, _, rfl, rfl, SqL.of ho4, q1, _, rfl, _, rfl, d, _, rfl, DPut.k (k := Sum.inl (i : Int)) hg4 (lt_line' (by omega)), ?_⟩
        refine ⟨by omega, s4.upd hd0, _, _, rfl, ?_, ?_⟩
        · rw [upd_ne hdo.symm]
          have : stk ks (i + 1) = stk ks i := by rw [stk_succ]; unfold push; rw [if_neg hO, if_neg (by rw [h1]; exact els_fin)]
          unfold stkV
          rw [this]
          exact ho4
        · rw [upd_same, bg_put ⟨hE, by rw [ht]; rfl⟩]
      refine iteN (fun z => h1 (V.str.inj (dec_true z))) ?_
      refine ⟨_, rfl, rs[i], _, _, _, rfl, rfl, s4.tup hrow, at0, rfl, _, rfl, ?_⟩
      by_cases h2 : kd ks i = "end"
      · refine iteP (decide_eq_true (congrArg V.str h2)) ?_
        have hE : isE (kd ks i) = true := by rw [h2]; decide +kernel
        obtain ⟨t, r, ht⟩ : ∃ t r, stk ks i = t :: r := by
          cases z : stk ks i with
          | nil => exact absurd z (w.open_ i (by omega) hE)
          | cons t r => exact ⟨t, r, rfl⟩
        obtain ⟨q1, q2, q3⟩ := stkV_top ht
        refine ⟨_, rfl, .inl ⟨rfl, _, SqL.of ho4⟩, ol, _, _, rfl, rfl, ho4, q2, _, rfl, _, rfl, d, _, rfl, DPut.k (k := Sum.inl (i : Int)) (by rw [upd_ne hdo]; exact hg4) (lt_line' (by omega)), ?_⟩
        refine ⟨by omega, (s4.upd hol).upd hd0, _, _, rfl, ?_, ?_⟩
        · rw [upd_ne hdo.symm, upd_same, q3]
          have : stk ks (i + 1) = r := by rw [stk_succ]; unfold push; rw [if_neg hO, if_pos h2, ht]; rfl
          unfold stkV
          rw [this]
        · rw [upd_same, bg_put ⟨hE, by rw [ht]; rfl⟩]
      refine iteN (fun z => h2 (V.str.inj (dec_true z))) ?_
      refine ⟨by omega, s4, _, _, rfl, ?_, ?_⟩
      · have : stk ks (i + 1) = stk ks i := by rw [stk_succ]; unfold push; rw [if_neg hO, if_neg h2]
        unfold stkV
        rw [this]
        exact ho4
      · rw [bg_same (isE_or h1 h2)]
        exact hg4
    · rintro σ H2 ⟨_, s2, v3, v4, rfl, ho, hg⟩
      rw [List.length_map, e2] at hg
      exact ⟨_, rfl, q d H2 s2 hd0 hg⟩
end
end K55

set_option Elab.async false
set_option linter.all false
set_option maxRecDepth 100000
set_option maxHeartbeats 4000000
namespace K55
open PySem L2 K13
section
variable {P : Program} {w : World} {K : PySem.W.Frag} {mg : Str → Option Value} {base : Heap} {t : Adr}
local macro_rules | `(tactic| walk_at "rd1") => `(tactic| first
  | refine ⟨_, rfl, ?_⟩
  | refine ⟨_, _, rfl, rfl, ?_⟩
  | refine ⟨rfl, ?_⟩
  | refine ⟨(show (0 : Int) < _ by decide), ?_⟩
  | refine ⟨⟨by decide, by decide⟩, ?_⟩
  | refine ⟨.inl ⟨by decide, by decide⟩, ?_⟩
  | refine ⟨.inr ⟨by decide, by decide⟩, ?_⟩
  | refine ⟨⟨by decide, by decide, by decide⟩, ?_⟩)
local macro_rules | `(tactic| walk_at "rd") => `(tactic| repeat walk_at "rd1")
theorem sc_firsts_behind : FnScope ["rows", "begins", "ends", "k", "begin", "behind", "follower", "kind"] ["rows", "begins"] (defScope s_firsts_behind) := ⟨rfl, rfl, rfl, by decide +kernel, rfl, by decide +kernel, by decide +kernel⟩
theorem ok_firsts_behind (T : Txt K mg t) : FnOk P w K mg base CX0 1 t.a_firsts_behind t.d_firsts_behind ["rows", "begins"] (K13.sp_firsts_behind K) := by
  refine T.firsts_behind.F.ok sc_firsts_behind (fun vs H Q E h => ?_) (fun cdv A outer s H vs Q E hr h => ?_)
  · obtain ⟨a, d, ks, rfl, hR, w, hn, hd, q⟩ := h
    rfl
  · obtain ⟨a, d, ks, rfl, hR, w, hn, hd, q⟩ := h
    refine ⟨_, (@pss_cons _ _ _ _ _ (@ps_set _ _ 2 _ _ _ _ sc_firsts_behind.nd rfl (Or.inl rfl) pe_dnewK (by rfl) (by first | exact .inl rfl | exact .inr rfl | assumption)) (@pss_cons _ _ _ _ _ (ps_for PassesOwn.never rfl (pi_items (pv 1)) (pg_tup rfl (pgs_cons (pg_name (i := 3) sc_firsts_behind.nd rfl (Or.inl rfl)) (pgs_cons (pg_name (i := 4) sc_firsts_behind.nd rfl (Or.inl rfl)) pgs_nil))) (@pss_one _ _ _ (ps_dput (u1' hr.units) (pv 2) (pv 4) (pv 3) (by rfl)))) (@pss_cons _ _ _ _ _ (@ps_set _ _ 5 _ _ _ _ sc_firsts_behind.nd rfl (Or.inl rfl) (@pe_op _ _ _ _ _ _ _ _ op_rep (@pe_lst _ _ _ _ (@pa_cons _ _ _ _ _ pe_non pa_nil (by rfl))) (pe_callB call_len_seq (by rfl) T.b_len bt_len (@pa_cons _ _ _ _ _ (pv 0) pa_nil (by rfl)))) (by rfl) (by first | exact .inl rfl | exact .inr rfl | assumption)) (@pss_cons _ _ _ _ _ (ps_for PassesOwn.never rfl (pi_down rfl T.b_range (@pa_cons _ _ _ _ _ (@pe_op _ _ _ _ _ _ _ _ op_sub (pe_callB call_len_seq (by rfl) T.b_len bt_len (@pa_cons _ _ _ _ _ (pv 0) pa_nil (by rfl))) pe_int) (@pa_cons _ _ _ _ _ (pe_un un_neg pe_int) (@pa_cons _ _ _ _ _ (pe_un un_neg pe_int) pa_nil (by rfl)) (by rfl)) (by rfl))) (pg_name (i := 3) sc_firsts_behind.nd rfl (Or.inl rfl)) (@pss_cons _ _ _ _ _ (@ps_set _ _ 6 _ _ _ _ sc_firsts_behind.nd rfl (Or.inl rfl) (@pe_op _ _ _ _ _ _ _ _ op_add (pv 3) pe_int) (by rfl) (by first | exact .inl rfl | exact .inr rfl | assumption)) (@pss_cons _ _ _ _ _ (@ps_set _ _ 7 _ _ _ _ sc_firsts_behind.nd rfl (Or.inl rfl) (@pe_ix _ _ _ _ _ _ _ ix_tup (@pe_ix _ _ _ _ _ _ _ ix_tup (pv 0) (pv 6) (fun _ _ => rfl)) pe_int (fun _ _ => rfl)) (by rfl) (by first | exact .inl rfl | exact .inr rfl | assumption)) (@pss_one _ _ _ (@ps_if _ _ _ _ _ _ _ _ (@pt_cmpR _ _ _ _ _ _ _ _ op_eq (pv 7) pe_str (nomark _)) (@pss_one _ _ _ (ps_asg (@pe_ix _ _ _ _ _ _ _ ix_list (pv 5) (pe_dget (u1' hr.units) (pv 2) (pe_dget (u1' hr.units) (pv 1) (pv 6) (fun _ _ => rfl)) (fun _ _ => rfl)) (fun _ _ => rfl)) (pg_sub (pv 5) (pv 3) set_list))) (@pss_one _ _ _ (@ps_if _ _ _ _ _ _ _ _ (@PW.pt _ _ _ (@pw_and _ _ _ _ _ _ _ (@pt_cmpR _ _ _ _ _ _ _ _ op_eq (pv 7) pe_str (nomark _)) (@pw_and1 _ _ _ _ (@pt_cmpR _ _ _ _ _ _ _ _ op_eq (@pe_ix _ _ _ _ _ _ _ ix_tup (@pe_ix _ _ _ _ _ _ _ ix_tup (pv 0) (pe_dget (u1' hr.units) (pv 1) (pv 6) (fun _ _ => rfl)) (fun _ _ => rfl)) pe_int (fun _ _ => rfl)) pe_str (nomark _))))) (@pss_one _ _ _ (ps_asg (pe_dget (u1' hr.units) (pv 1) (pv 6) (fun _ _ => rfl)) (pg_sub (pv 5) (pv 3) set_list))) (@pss_one _ _ _ (@ps_if _ _ _ _ _ _ _ _ (@pt_cmpR _ _ _ _ _ _ _ _ op_eq (pv 7) pe_str (nomark _)) (@pss_one _ _ _ (ps_asg (@pe_ix _ _ _ _ _ _ _ ix_list (pv 5) (pv 6) (fun _ _ => rfl)) (pg_sub (pv 5) (pv 3) set_list))) (@pss_one _ _ _ (ps_asg (pv 6) (pg_sub (pv 5) (pv 3) set_list)))))))))))) (@pss_one _ _ _ (@ps_ret _ _ _ _ (pv 5))))))), ?_⟩
    refine fun ed hed => ?_
    have hde : d ≠ ed := fun z => by rw [← z, hd] at hed; cases hed
    refine ⟨_, rfl, d, bg ks ks.length, rfl, .inl ⟨Same.new hed _ _ hd, fun o => ?_⟩⟩
    have sF : Same (upd H d (.frz o (.dK (bg ks ks.length)))) (upd (upd H ed (.dK [])) d (.frz o (.dK (bg ks ks.length)))) := fun b u h => by
      by_cases hb : b = d
      · subst hb
        rw [upd_same] at h ⊢
        exact h
      · rw [upd_ne hb] at h ⊢
        rw [upd_ne (fun z => by rw [z, hed] at h; cases h)]
        exact h
    have hF : (upd H d (.frz o (.dK (bg ks ks.length)))) d = some (.frz o (.dK (bg ks ks.length))) := upd_same
    have hedF : (upd H d (.frz o (.dK (bg ks ks.length)))) ed = none := by rw [upd_ne hde.symm]; exact hed
    have hRF : RowsAt K (upd H d (.frz o (.dK (bg ks ks.length)))) a ks := hR.frz hd
    have qF : ∀ l H', Same (upd H d (.frz o (.dK (bg ks ks.length)))) H' → (upd H d (.frz o (.dK (bg ks ks.length)))) l = none → BehL H' l ks → Q (.ref l) H' := fun l H' h1 h2 h3 => q l o H' h1 (by rw [upd_ne (fun z => by rw [z, hF] at h2; cases h2)] at h2; exact h2) h3
    generalize upd H d (.frz o (.dK (bg ks ks.length))) = HF at sF hF hedF hRF qF
    have bl := bg_len ks ks.length
    have pl := prs_len ks ks.length
    refine for_items (fun i σ H2 => i ≤ (bg ks ks.length).length ∧ Same HF H2 ∧ ∃ v3 v4 eds, σ = [some (.ref a), some (.ref d), some (.ref ed), v3, v4, none, none, none] ∧ H2 ed = some (.dK eds) ∧ eds.length ≤ i ∧ ∀ b : Nat, valV eds (Sum.inl (b : Int) : Key) = (lastOf ((prs ks ks.length).take i) b).map fun (m : Nat) => V.int (m : Int)) ⟨Nat.zero_le _, sF, _, _, [], rfl, by rw [upd_ne hde.symm]; exact upd_same, Nat.le_refl _, fun b => rfl⟩ ?_ ?_ ?_
    · rintro i σ H2 hi ⟨_, s2, _⟩
      exact s2 _ _ hF
    · rintro i kv σ H2 b hkv ⟨hi, s2, v3, v4, eds, rfl, he, hel, hv⟩ hb
      obtain ⟨p, hp, rfl⟩ := prs_at hkv
      have hlt := (List.getElem?_eq_some_iff.mp hkv).1
      have he3 := Same.new (o := .tup [V.int (p.1 : Int), V.int (p.2 : Int)]) hb _ _ he
      refine ⟨b, _, rfl, SqT.of upd_same, rfl, _, _, rfl, _, _, rfl, rfl, ?_⟩
      refine ⟨_, rfl, _, rfl, _, rfl, ed, _, rfl, DPut.k (k := Sum.inl (p.2 : Int)) he3 (lt_line' (by omega)), ?_⟩
      refine ⟨hlt, (s2.trans (Same.new hb)).upd hedF, _, _, _, rfl, upd_same, ?_, fun b' => ?_⟩
      · exact Nat.le_trans (length_putK _ _ _) (by omega)
      · rw [valV_put, List.take_add_one, hp]
        show _ = (lastOf ((prs ks ks.length).take i ++ [p]) b').map _
        rw [lastOf_snoc, hv b']
        by_cases h : p.2 = b'
        · rw [if_pos h, if_pos (by rw [h])]
          rfl
        · rw [if_neg h, if_neg (fun z => h (by have : (b' : Int) = (p.2 : Int) := Sum.inl.inj z; omega))]
    · rintro σ H2 ⟨_, s2, v3, v4, eds, rfl, he, hel, hv⟩
      have hv : ∀ b : Nat, valV eds (Sum.inl (b : Int) : Key) = (lastOf (prs ks ks.length) b).map fun (m : Nat) => V.int (m : Int) := fun b => by
        rw [hv b]
        unfold bg bgOf
        rw [List.length_map, List.take_length]
      obtain ⟨rs, r1, r2, r3⟩ := hRF.ex
      have rl : (rs.map V.ref).length = ks.length := by rw [List.length_map, r2]
      refine ⟨le1, fun nl hnl => ⟨_, rfl, a, _, rfl, .inr ((s2.trans (Same.new hnl)).tup r1), nl, _, _, rfl, rfl, upd_same, by omega, by rw [rl]; omega, by rw [rl]; exact lt_line (by simp; omega), fun bl hbl => ?_⟩⟩
      have s3 := (s2.trans (Same.new (o := .lst [V.non]) hnl)).trans (Same.new (o := .lst (List.replicate (((rs.map V.ref).length : Int).toNat) [V.non]).flatten) hbl)
      have hbF : HF bl = none := s2.free ((Same.new hnl).free hbl)
      have hbe : bl ≠ ed := fun z => by
        have := (Same.new hnl).free hbl
        rw [z, he] at this
        cases this
      have he3 := (Same.new (o := .lst (List.replicate (((rs.map V.ref).length : Int).toNat) [V.non]).flatten) hbl) _ _ ((Same.new (o := .lst [V.non]) hnl) _ _ he)
      refine ⟨_, rfl, a, _, rfl, .inr (s3.tup r1), _, _, rfl, rfl, _, rfl, _, rfl, (ks.length : Int) - 2, -1, by rw [rl], ⟨by omega, by omega, by omega, by omega⟩, ?_⟩
      have hnn : (((ks.length : Int) - 2) - -1).toNat = ks.length - 1 := by omega
      rw [hnn]
      refine for_down (fun i σ H4 => Same HF H4 ∧ ∃ v3 v4 v6 v7 bs, σ = [some (.ref a), some (.ref d), some (.ref ed), v3, v4, some (.ref bl), v6, v7] ∧ H4 ed = some (.dK eds) ∧ H4 bl = some (.lst bs) ∧ bs.length = ks.length ∧ ∀ k, k + 1 < ks.length → ks.length - 1 - i ≤ k → ∃ r : Nat, Beh ks k r ∧ bs[k]? = some (.int (r : Int))) ⟨s3, _, _, _, _, _, rfl, he3, upd_same, by rw [rl]; exact nones_len _, fun k h1 h2 => by omega⟩ ?_ ?_
      · rintro i σ H4 hi ⟨s4, v3, v4, v6, v7, bs, rfl, e4, b4, l4, hb4⟩
        obtain ⟨k, hk⟩ : ∃ k : Nat, k + 2 + i = ks.length := ⟨ks.length - 2 - i, by omega⟩
        have ek : ((ks.length : Int) - 2) - (i : Int) = (k : Int) := by omega
        rw [ek]
        have hR4 := hRF.mono s4
        have old : ∀ j, j + 1 < ks.length → k < j → ∃ r : Nat, Beh ks j r ∧ bs[j]? = some (.int (r : Int)) := fun j h1 h2 => hb4 j h1 (by omega)
        have fin : ∀ (r : Nat) (v3 v4 v6 v7 : Option V), Beh ks k r → Same HF (upd H4 bl (.lst (bs.set k (.int (r : Int))))) ∧ ∃ v3' v4' v6' v7' bs', ([some (.ref a), some (.ref d), some (.ref ed), v3, v4, some (.ref bl), v6, v7] : St) = [some (.ref a), some (.ref d), some (.ref ed), v3', v4', some (.ref bl), v6', v7'] ∧ (upd H4 bl (.lst (bs.set k (.int (r : Int))))) ed = some (.dK eds) ∧ (upd H4 bl (.lst (bs.set k (.int (r : Int))))) bl = some (.lst bs') ∧ bs'.length = ks.length ∧ ∀ j, j + 1 < ks.length → ks.length - 1 - (i + 1) ≤ j → ∃ r : Nat, Beh ks j r ∧ bs'[j]? = some (.int (r : Int)) := fun r v3 v4 v6 v7 hr => by
          refine ⟨s4.upd hbF, _, _, _, _, _, rfl, by rw [upd_ne hbe.symm]; exact e4, upd_same, by rw [List.length_set]; exact l4, fun j h1 h2 => ?_⟩
          by_cases hj : j = k
          · subst hj
            exact ⟨r, hr, by rw [List.getElem?_set_self (by omega)]⟩
          · obtain ⟨r', q1, q2⟩ := old j h1 (by omega)
            exact ⟨r', q1, by rw [List.getElem?_set_ne (fun z => hj z.symm)]; exact q2⟩
        have hix : ixN bs.length (k : Int) = some k := by
          unfold ixN
          rw [if_pos (by omega), if_pos (by omega), Int.toNat_natCast]
        have at_bs : ∀ j r : Nat, bs[j]? = some (.int (r : Int)) → atI bs (j : Int) = some (.int (r : Int)) := fun j r h => atI_nat h
        refine ⟨_, rfl, _, _, rfl, rfl, ?_⟩
        show gName 6 (V.int ((k : Int) + 1)) _ _ _
        rw [show ((k : Int) + 1) = ((k + 1 : Nat) : Int) by omega]
        refine ⟨_, rfl, _, rfl, ixk hR4 (by omega) (by omega) ?_⟩
        refine ⟨_, rfl, rfl, _, rfl, ?_⟩
        have top : isE (kd ks (k + 1)) = true → ∃ b, (stk ks (k + 1)).head? = some b := fun h => by
          cases z : stk ks (k + 1) with
          | nil => exact absurd z (w.open_ (k + 1) (by omega) h)
          | cons b r => exact ⟨b, rfl⟩
        have fz : Rd H4 d (.dK (bg ks ks.length)) := .inr ⟨o, s4 _ _ hF⟩
        by_cases h1 : kd ks (k + 1) = "else"
        · refine iteP (decide_eq_true (congrArg V.str h1)) ?_
          have hE : isE (kd ks (k + 1)) = true := by rw [h1]; decide +kernel
          obtain ⟨b, hb⟩ := top hE
          have hbo := hit_lt (⟨hE, hb⟩ : Hit ks b (k + 1))
          obtain ⟨e, hEn⟩ := ends_ex w (by omega) hbo.2
          have h5 : k + 1 ≤ e := hit_le hEn ⟨hE, hb⟩
          have h6 : e + 1 < ks.length := by
            rcases Nat.lt_or_ge (e + 1) ks.length with z | z
            · exact z
            · have := w.last e (by have := hEn.2.1; omega)
              rw [hEn.2.2.1] at this
              exact absurd this.symm back_ne.2
          obtain ⟨r, hr1, hr2⟩ := old e h6 (by omega)
          have g1 : DGet H4 d (.int ((k + 1 : Nat) : Int)) (some (.int (b : Int))) := .inl ⟨_, Sum.inl ((k + 1 : Nat) : Int), fz, rfl, (bg_at ks.length (by omega) ⟨hE, hb⟩).symm⟩
          have g2 : DGet H4 ed (.int (b : Int)) (some (.int (e : Int))) := .inl ⟨_, Sum.inl (b : Int), .inl e4, rfl, by rw [hv b, last_end hEn]; rfl⟩
          exact ⟨_, rfl, _, rfl, _, rfl, _, rfl, d, _, rfl, g1, ed, _, rfl, g2, bl, _, _, _, rfl, rfl, SqL.of b4, at_bs e r hr2, _, rfl, _, rfl, bl, _, _, _, rfl, rfl, b4, hix, fin r _ _ _ _ (.els h1 hb hEn hr1)⟩
        refine iteN (fun z => h1 (V.str.inj (dec_true z))) ?_
        refine ⟨_, rfl, rfl, _, rfl, ?_⟩
        by_cases h2 : kd ks (k + 1) = "end"
        · have hE : isE (kd ks (k + 1)) = true := by rw [h2]; decide +kernel
          obtain ⟨b, hb⟩ := top hE
          have hbo := hit_lt (⟨hE, hb⟩ : Hit ks b (k + 1))
          have g1 : DGet H4 d (.int ((k + 1 : Nat) : Int)) (some (.int (b : Int))) := .inl ⟨_, Sum.inl ((k + 1 : Nat) : Int), fz, rfl, (bg_at ks.length (by omega) ⟨hE, hb⟩).symm⟩
          refine iteP (decide_eq_true (congrArg V.str h2)) ?_
          refine ⟨_, rfl, _, rfl, _, rfl, d, _, rfl, g1, ixk hR4 (by omega) (by omega) ⟨rfl, _, rfl, ?_⟩⟩
          by_cases h3 : kd ks b = "while"
          · refine iteP (decide_eq_true (congrArg V.str h3)) ?_
            exact ⟨_, rfl, _, rfl, d, _, rfl, g1, _, rfl, _, rfl, bl, _, _, _, rfl, rfl, b4, hix, fin b _ _ _ _ (.whl h2 hb h3)⟩
          · refine iteN (fun z => h3 (V.str.inj (dec_true z))) ?_
            refine ⟨_, rfl, rfl, _, rfl, iteP (decide_eq_true (congrArg V.str h2)) ?_⟩
            have h6 : k + 1 + 1 < ks.length := by
              rcases Nat.lt_or_ge (k + 1 + 1) ks.length with z | z
              · exact z
              · have := w.last (k + 1) (by omega)
                rw [h2] at this
                exact absurd this.symm back_ne.2
            obtain ⟨r, hr1, hr2⟩ := old (k + 1) h6 (by omega)
            exact ⟨_, rfl, _, rfl, bl, _, _, _, rfl, rfl, SqL.of b4, at_bs (k + 1) r hr2, _, rfl, _, rfl, bl, _, _, _, rfl, rfl, b4, hix, fin r _ _ _ _ (.fin h2 hb h3 hr1)⟩
        · refine iteN (fun z => h2 (V.str.inj (dec_true z))) (iteF ?_)
          refine ⟨_, rfl, rfl, _, rfl, iteN (fun z => h2 (V.str.inj (dec_true z))) ?_⟩
          exact ⟨_, rfl, _, rfl, _, rfl, bl, _, _, _, rfl, rfl, b4, hix, fin (k + 1) _ _ _ _ (.oth h1 h2)⟩
      · rintro σ H4 ⟨s4, v3, v4, v6, v7, bs, rfl, e4, b4, l4, hb4⟩
        exact ⟨_, rfl, qF bl H4 s4 hbF ⟨bs, b4, l4, fun k h1 => hb4 k h1 (by omega)⟩⟩
end
end K55

set_option Elab.async false
set_option linter.all false
set_option maxRecDepth 100000
set_option maxHeartbeats 4000000
namespace K55
open PySem L2 K13
section
variable {P : Program} {w : World} {K : PySem.W.Frag} {mg : Str → Option Value} {base : Heap} {t : Adr}
local macro_rules | `(tactic| walk_at "rd1") => `(tactic| first
  | refine ⟨_, rfl, ?_⟩
  | refine ⟨_, _, rfl, rfl, ?_⟩
  | refine ⟨rfl, ?_⟩
  | refine ⟨(show (0 : Int) < _ by decide), ?_⟩
  | refine ⟨⟨by decide, by decide⟩, ?_⟩
  | refine ⟨.inl ⟨by decide, by decide⟩, ?_⟩
  | refine ⟨.inr ⟨by decide, by decide⟩, ?_⟩
  | refine ⟨⟨by decide, by decide, by decide⟩, ?_⟩)
local macro_rules | `(tactic| walk_at "rd") => `(tactic| repeat walk_at "rd1")
theorem sc_ways : FnScope ["rows", "begins", "behind", "turns", "k", "begin", "found", "row"] ["rows"] (defScope s_ways) := ⟨rfl, rfl, rfl, by decide +kernel, rfl, by decide +kernel, by decide +kernel⟩
theorem ok_ways (T : Txt K mg t) : FnOk P w K mg base CX0 2 t.a_ways t.d_ways ["rows"] (K13.sp_ways K) := by
  have G_begins_of : FnOk P w K mg base CX0 1 t.a_begins_of t.d_begins_of ["rows"] (K13.sp_begins_of K) := ok_begins_of T
  have G_firsts_behind : FnOk P w K mg base CX0 1 t.a_firsts_behind t.d_firsts_behind ["rows", "begins"] (K13.sp_firsts_behind K) := ok_firsts_behind T
  refine T.ways.F.ok sc_ways (fun vs H Q E h => ?_) (fun cdv A outer s H vs Q E hr h => ?_)
  · obtain ⟨a, ks, rfl, hR, w, hn, q⟩ := h
    rfl
  · obtain ⟨a, ks, rfl, hR, w, hn, q⟩ := h
    refine ⟨_, (@pss_cons _ _ _ _ _ (@ps_set _ _ 1 _ _ _ _ sc_ways.nd rfl (Or.inl rfl) (callD T.begins_of G_begins_of (hr.mono (by decide)) (@pa_cons _ _ _ _ _ (pv 0) pa_nil (by rfl))) (by rfl) (by first | exact .inl rfl | exact .inr rfl | assumption)) (@pss_cons _ _ _ _ _ (@ps_set _ _ 2 _ _ _ _ sc_ways.nd rfl (Or.inl rfl) (callD T.firsts_behind G_firsts_behind (hr.mono (by decide)) (@pa_cons _ _ _ _ _ (pv 0) (@pa_cons _ _ _ _ _ (pv 1) pa_nil (by rfl)) (by rfl))) (by rfl) (by first | exact .inl rfl | exact .inr rfl | assumption)) (@pss_cons _ _ _ _ _ (@ps_set _ _ 3 _ _ _ _ sc_ways.nd rfl (Or.inl rfl) pe_dnewK (by rfl) (by first | exact .inl rfl | exact .inr rfl | assumption)) (@pss_cons _ _ _ _ _ (ps_for PassesOwn.never rfl (pi_items (pv 1)) (pg_tup rfl (pgs_cons (pg_name (i := 4) sc_ways.nd rfl (Or.inl rfl)) (pgs_cons (pg_name (i := 5) sc_ways.nd rfl (Or.inl rfl)) pgs_nil))) (@pss_one _ _ _ (@ps_expr _ _ _ _ (pe_dsetd (pv 3) (pv 5) (pv 4) ⟨rfl, rfl, rfl, rfl⟩) (by rfl)))) (@pss_cons _ _ _ _ _ (@ps_set _ _ 6 _ _ _ _ sc_ways.nd rfl (Or.inl rfl) (@pe_lst _ _ _ _ pa_nil) (by rfl) (by first | exact .inl rfl | exact .inr rfl | assumption)) (@pss_cons _ _ _ _ _ (ps_for PassesOwn.never rfl (pi_enumT rfl T.b_enumerate (@pa_cons _ _ _ _ _ (pv 0) pa_nil (by rfl))) (pg_tup rfl (pgs_cons (pg_name (i := 4) sc_ways.nd rfl (Or.inl rfl)) (pgs_cons (pg_name (i := 7) sc_ways.nd rfl (Or.inl rfl)) pgs_nil))) (@pss_one _ _ _ (@ps_if _ _ _ _ _ _ _ _ (@pt_cmpR _ _ _ _ _ _ _ _ op_in_seq (@pe_ix _ _ _ _ _ _ _ ix_tup (pv 7) pe_int (fun _ _ => rfl)) (@pe_tup _ _ _ _ _ (@pa_cons _ _ _ _ _ pe_str (@pa_cons _ _ _ _ _ pe_str pa_nil (by rfl)) (by rfl))) (by with_unfolding_all rfl)) (@pss_one _ _ _ (@ps_expr _ _ _ _ (pe_bm PySem.F.plainAttrs_list PySem.F.slot_list_append PySem.F.type_list_append mt_append (pv 6) (@pa_cons _ _ _ _ _ pe_non pa_nil (by rfl))) (by rfl))) (@pss_one _ _ _ (@ps_if _ _ _ _ _ _ _ _ (@pt_cmpR _ _ _ _ _ _ _ _ op_eq (@pe_ix _ _ _ _ _ _ _ ix_tup (pv 7) pe_int (fun _ _ => rfl)) pe_str (nomark _)) (@pss_one _ _ _ (@ps_expr _ _ _ _ (pe_bm PySem.F.plainAttrs_list PySem.F.slot_list_append PySem.F.type_list_append mt_append (pv 6) (@pa_cons _ _ _ _ _ (@pe_tup _ _ _ _ _ pa_nil) pa_nil (by rfl))) (by rfl))) (@pss_one _ _ _ (@ps_if _ _ _ _ _ _ _ _ (pt_cmp (pc_din (u1' hr.units) (pv 4) (pv 3))) (@pss_one _ _ _ (@ps_expr _ _ _ _ (pe_bm PySem.F.plainAttrs_list PySem.F.slot_list_append PySem.F.type_list_append mt_append (pv 6) (@pa_cons _ _ _ _ _ (@pe_tup _ _ _ _ _ (@pa_cons _ _ _ _ _ (@pe_ix _ _ _ _ _ _ _ ix_list (pv 2) (pv 4) (fun _ _ => rfl)) (@pa_cons _ _ _ _ _ (@pe_ix _ _ _ _ _ _ _ ix_list (pv 2) (pe_dget (u1' hr.units) (pv 3) (pv 4) (fun _ _ => rfl)) (fun _ _ => rfl)) pa_nil (by rfl)) (by rfl))) pa_nil (by rfl))) (by rfl))) (@pss_one _ _ _ (@ps_expr _ _ _ _ (pe_bm PySem.F.plainAttrs_list PySem.F.slot_list_append PySem.F.type_list_append mt_append (pv 6) (@pa_cons _ _ _ _ _ (@pe_tup _ _ _ _ _ (@pa_cons _ _ _ _ _ (@pe_ix _ _ _ _ _ _ _ ix_list (pv 2) (pv 4) (fun _ _ => rfl)) pa_nil (by rfl))) pa_nil (by rfl))) (by rfl)))))))))) (@pss_one _ _ _ (@ps_ret _ _ _ _ (pv 6))))))))), ?_⟩
    refine ⟨_, rfl, a, ks, rfl, hR, w, hn, fun d H1 s1 n1 e1 => ?_⟩
    refine ⟨_, rfl, _, rfl, a, d, ks, rfl, hR.mono s1, w, hn, e1, fun l o H2 s2 n2 hB => ?_⟩
    have s02 : Same H H2 := (s1.upd n1).trans s2
    have hdF : H2 d = some (.frz o (.dK (bg ks ks.length))) := s2 _ _ upd_same
    have hl0 : H l = none := s1.free n2
    refine fun td htd => ?_
    have bl := bg_len ks ks.length
    obtain ⟨bs, hb1, hb2, hb3⟩ := hB
    refine ⟨_, rfl, d, bg ks ks.length, rfl, .inr ⟨o, Same.new htd _ _ hdF, ?_⟩⟩
    refine for_items (fun i σ H3 => i ≤ (bg ks ks.length).length ∧ Same H2 H3 ∧ ∃ v4 v5 tds, σ = [some (.ref a), some (.ref d), some (.ref l), some (.ref td), v4, v5, none, none] ∧ H3 td = some (.dK tds) ∧ tds.length ≤ i ∧ ∀ b : Nat, valV tds (Sum.inl (b : Int) : Key) = (firstOf ((prs ks ks.length).take i) b).map fun (m : Nat) => V.int (m : Int)) ⟨Nat.zero_le _, Same.new htd, _, _, [], rfl, upd_same, Nat.le_refl _, fun b => rfl⟩ ?_ ?_ ?_
    · rintro i σ H3 hi ⟨_, s3, _⟩
      exact s3 _ _ hdF
    · rintro i kv σ H3 b hkv ⟨hi, s3, v4, v5, tds, rfl, he, hel, hv⟩ hb
      obtain ⟨p, hp, rfl⟩ := prs_at hkv
      have hlt := (List.getElem?_eq_some_iff.mp hkv).1
      have he3 := Same.new (o := .tup [V.int (p.1 : Int), V.int (p.2 : Int)]) hb _ _ he
      refine ⟨b, _, rfl, SqT.of upd_same, rfl, _, _, rfl, _, _, rfl, rfl, ?_⟩
      have tk : ∀ b', firstOf ((prs ks ks.length).take (i + 1)) b' = if (firstOf ((prs ks ks.length).take i) b').isSome = true then firstOf ((prs ks ks.length).take i) b' else if p.2 = b' then some p.1 else none := fun b' => by
        rw [List.take_add_one, hp]
        exact firstOf_snoc _ p b'
      refine ⟨_, rfl, td, rfl, .inl ⟨tds, .inl he3⟩, _, rfl, _, rfl, tds, Sum.inl (p.2 : Int), he3, rfl, lt_line' (by omega), fun v hv' => ?_, fun hv' => ?_⟩
      · refine ⟨hlt, s3.trans (Same.new hb), _, _, tds, rfl, he3, by omega, fun b' => ?_⟩
        rw [hv b', tk b']
        cases z : firstOf ((prs ks ks.length).take i) b' with
        | some m => rfl
        | none =>
          rw [if_neg (show ¬ (none : Option Nat).isSome = true by decide), if_neg]
          intro h
          rw [h, hv b', z] at hv'
          cases hv'
      · refine ⟨hlt, (s3.trans (Same.new hb)).upd htd, _, _, _, rfl, upd_same, Nat.le_trans (length_putK _ _ _) (by omega), fun b' => ?_⟩
        rw [valV_put, tk b']
        by_cases h : p.2 = b'
        · subst h
          have z : firstOf ((prs ks ks.length).take i) p.2 = none := by
            rw [hv p.2] at hv'
            cases y : firstOf ((prs ks ks.length).take i) p.2 with
            | none => rfl
            | some m => rw [y] at hv'; cases hv'
          rw [if_pos rfl, z, if_neg (show ¬ (none : Option Nat).isSome = true by decide), if_pos rfl]
          rfl
        · rw [if_neg (fun z => h (by have : (b' : Int) = (p.2 : Int) := Sum.inl.inj z; omega)), hv b', if_neg h]
          cases z : firstOf ((prs ks ks.length).take i) b' with
          | some m => rfl
          | none => rfl
    · rintro σ H3 ⟨_, s3, v4, v5, tds, rfl, he, hel, hv⟩
      have hv : ∀ b : Nat, valV tds (Sum.inl (b : Int) : Key) = (firstOf (prs ks ks.length) b).map fun (m : Nat) => V.int (m : Int) := fun b => by
        rw [hv b]
        unfold bg bgOf
        rw [List.length_map, List.take_length]
      obtain ⟨rs, r1, r2, r3⟩ := hR.ex
      refine ⟨le0, fun fl hfl => ?_⟩
      have s03 := s02.trans s3
      have hf2 : H3 fl = none := hfl
      have htf : td ≠ fl := fun z => by rw [← z, he] at hfl; cases hfl
      have hf0 : H fl = none := s03.free hfl
      refine ⟨_, rfl, a, rfl, ⟨_, (s03.trans (Same.new hfl)).tup r1⟩, for_enumT (xs := rs.map V.ref) (fun i σ H4 => i ≤ ks.length ∧ Same H3 H4 ∧ (∃ v4 v5 v7, σ = [some (.ref a), some (.ref d), some (.ref l), some (.ref td), v4, v5, some (.ref fl), v7]) ∧ FoundN H4 fl ks i) ⟨Nat.zero_le _, Same.new hfl, ⟨_, _, _, rfl⟩, ⟨[], upd_same, rfl, fun k v z => by simp at z⟩⟩ ?_ ?_ ?_⟩
      · rintro i σ H4 hi ⟨_, s4, _⟩
        exact (s03.trans s4).tup r1
      · rintro i x σ H4 b hx ⟨hi', s4, ⟨v4, v5, v7, rfl⟩, hF⟩ hb
        have hi : i < rs.length := by
          have := (List.getElem?_eq_some_iff.mp hx).1
          rw [List.length_map] at this
          exact this
        rw [List.getElem?_map] at hx
        have hx : V.ref rs[i] = x := by simpa [hi] using hx
        subst hx
        obtain ⟨rest, hrow⟩ := r3 i rs[i] (by simp [hi])
        have s5 := s4.trans (Same.new (o := .tup [.int i, .ref rs[i]]) hb)
        have hF5 := hF.mono (Same.new (o := .tup [.int i, .ref rs[i]]) hb)
        refine ⟨b, _, rfl, SqT.of upd_same, rfl, _, _, rfl, _, _, rfl, rfl, ?_⟩
        refine ⟨_, rfl, rs[i], _, _, _, rfl, rfl, (s03.trans s5).tup hrow, at0, le2, fun tw htw => ⟨tw, [V.str "else", V.str "end"], rfl, .inr (SqT.of upd_same), rfl, rfl, _, rfl, ?_⟩⟩
        have s6 := s5.trans (Same.new (o := .tup [V.str "else", V.str "end"]) htw)
        obtain ⟨vs, f1, f2, f3⟩ := hF5.mono (Same.new (o := .tup [V.str "else", V.str "end"]) htw)
        generalize upd (upd H4 b (.tup [.int i, .ref rs[i]])) tw (.tup [V.str "else", V.str "end"]) = H6 at s6 f1 f3 ⊢
        have s06 := s03.trans s6
        have fin : ∀ {H7 : Hp} {v : V} {oo : Option (List Nat)} (u4 u5 u7 : Option V), Same H6 H7 → Due ks i oo → ValO H7 v oo → i + 1 ≤ ks.length ∧ Same H3 (upd H7 fl (.lst (vs ++ [v]))) ∧ (∃ v4 v5 v7, ([some (.ref a), some (.ref d), some (.ref l), some (.ref td), u4, u5, some (.ref fl), u7] : St) = [some (.ref a), some (.ref d), some (.ref l), some (.ref td), v4, v5, some (.ref fl), v7]) ∧ FoundN (upd H7 fl (.lst (vs ++ [v]))) fl ks (i + 1) := fun u4 u5 u7 s7 hd hv => by
          refine ⟨by omega, (s6.trans s7).upd hfl, ⟨_, _, _, rfl⟩, FoundN.push (s7 _ _ f1) f2 (fun k v z => ?_) hd hv⟩
          obtain ⟨o', d', y⟩ := f3 k v z
          exact ⟨o', d', y.mono s7⟩
        by_cases hE : isE (kd ks i) = true
        · refine iteP ((inE _).trans hE) ?_
          exact ⟨_, rfl, .inl ⟨rfl, _, SqL.of f1⟩, fl, _, _, rfl, rfl, f1, lt_line' (by omega), fin _ _ _ (Same.refl _) (.no hE) rfl⟩
        refine iteN (fun z => hE ((inE _).symm.trans z)) ?_
        refine ⟨_, rfl, rs[i], _, _, _, rfl, rfl, s06.tup hrow, at0, rfl, _, rfl, ?_⟩
        by_cases hbk : kd ks i = "back"
        · refine iteP (decide_eq_true (congrArg V.str hbk)) ?_
          exact ⟨_, rfl, .inl ⟨rfl, _, SqL.of f1⟩, le0, fun p hp => ⟨fl, _, _, rfl, rfl, Same.new hp _ _ f1, lt_line' (by omega), fin _ _ _ (Same.new hp) (.back hbk) ⟨p, rfl, upd_same⟩⟩⟩
        refine iteN (fun z => hbk (V.str.inj (dec_true z))) ?_
        have hlast := not_last w (by omega) hbk
        obtain ⟨r, hr1, hr2⟩ := hb3 i hlast
        have hb6 := (s3.trans s6) _ _ hb1
        have ht6 := s6 _ _ he
        refine ⟨_, rfl, _, rfl, td, _, rfl, DGet.k (k := Sum.inl (i : Int)) ht6, _, rfl, ?_⟩
        by_cases hO : isO (kd ks i) = true
        · obtain ⟨e, hEn⟩ := ends_ex w (by omega) hO
          obtain ⟨f, hf⟩ := first_ex hEn
          obtain ⟨r', hr3, hr4⟩ := hb3 f (first_last w hf)
          have hvi : valV tds (Sum.inl (i : Int) : Key) = some (V.int (f : Int)) := by rw [hv i, first_of hf]; rfl
          refine iteP (by rw [hvi]; rfl) ?_
          have g : DGet H6 td (.int (i : Int)) (some (V.int (f : Int))) := .inl ⟨_, Sum.inl (i : Int), .inl ht6, rfl, hvi.symm⟩
          exact ⟨_, rfl, .inl ⟨rfl, _, SqL.of f1⟩, _, rfl, _, rfl, l, _, _, _, rfl, rfl, SqL.of hb6, atI_nat hr2, _, rfl, _, rfl, _, rfl, td, _, rfl, g, l, _, _, _, rfl, rfl, SqL.of hb6, atI_nat hr4, le2, fun p hp => ⟨fl, _, _, rfl, rfl, Same.new hp _ _ f1, lt_line' (by omega), fin _ _ _ (Same.new hp) (.two hO hf hr1 hr3) ⟨p, rfl, upd_same⟩⟩⟩
        · have hvi : valV tds (Sum.inl (i : Int) : Key) = none := by rw [hv i, first_none hO]; rfl
          refine iteN (by rw [hvi]; decide) ?_
          exact ⟨_, rfl, .inl ⟨rfl, _, SqL.of f1⟩, _, rfl, _, rfl, l, _, _, _, rfl, rfl, SqL.of hb6, atI_nat hr2, le1, fun p hp => ⟨fl, _, _, rfl, rfl, Same.new hp _ _ f1, lt_line' (by omega), fin _ _ _ (Same.new hp) (.one hE hbk hO hr1) ⟨p, rfl, upd_same⟩⟩⟩
      · rintro σ H4 ⟨_, s4, ⟨v4, v5, v7, rfl⟩, hF⟩
        rw [List.length_map, r2] at hF
        exact ⟨_, rfl, q fl H4 (s03.trans s4) hf0 hF⟩
end
end K55

set_option Elab.async false
set_option linter.all false
set_option maxRecDepth 100000
set_option maxHeartbeats 4000000
namespace K55
open PySem L2 Gx Fl F2
section
variable {P : Program} {w : World} {K : PySem.W.Frag} {mg : Str → Option Value} {base : Heap} {t : Adr}
local macro_rules | `(tactic| walk_at "rd1") => `(tactic| first
  | refine ⟨_, rfl, ?_⟩
  | refine ⟨_, _, rfl, rfl, ?_⟩
  | refine ⟨rfl, ?_⟩
  | refine ⟨(show (0 : Int) < _ by decide), ?_⟩
  | refine ⟨⟨by decide, by decide⟩, ?_⟩
  | refine ⟨.inl ⟨by decide, by decide⟩, ?_⟩
  | refine ⟨.inr ⟨by decide, by decide⟩, ?_⟩
  | refine ⟨⟨by decide, by decide, by decide⟩, ?_⟩)
local macro_rules | `(tactic| walk_at "rd") => `(tactic| repeat walk_at "rd1")
theorem sc_Flows_init : FnScope ["self", "program", "k", "function"] ["self", "program"] (defScope s_Flows_init) := ⟨rfl, rfl, rfl, by decide +kernel, rfl, by decide +kernel, by decide +kernel⟩
theorem ok_Flows_init (T : Txt K mg t) : FnOk P w K mg base CX0 4 t.a_Flows_init t.d_Flows_init ["self", "program"] (sp_Flows_init K t) := by
  have G_names_of : FnOk P w K mg base CX0 3 t.a_names_of t.d_names_of ["function"] (K12.sp_names_of K) := ok_names_of T
  have G_ways : FnOk P w K mg base CX0 2 t.a_ways t.d_ways ["rows"] (K13.sp_ways K) := ok_ways T
  refine T.Flows_init.F.ok sc_Flows_init (fun vs H Q E h => ?_) (fun cdv A outer s H vs Q E hr h => ?_)
  · obtain ⟨x, dx, p, fns, rfl, hx, hS, n0, n12, hE, nd, q⟩ := h
    rfl
  · obtain ⟨x, dx, p, fns, rfl, hx, hS, n0, n12, hE, nd, q⟩ := h
    refine ⟨_, (@pss_cons _ _ _ _ _ (ps_fld (pv 0) (@pe_ix _ _ _ _ _ _ _ ix_tup (@pe_ix _ _ _ _ _ _ _ ix_list (pv 1) (pe_un un_neg pe_int) (fun _ _ => rfl)) pe_int (fun _ _ => rfl)) (by rfl)) (@pss_cons _ _ _ _ _ (ps_fld (pv 0) pe_dnewK (by rfl)) (@pss_cons _ _ _ _ _ (ps_fld (pv 0) pe_dnewK (by rfl)) (@pss_cons _ _ _ _ _ (ps_fld (pv 0) pe_dnewK (by rfl)) (@pss_cons _ _ _ _ _ (ps_fld (pv 0) pe_dnewK (by rfl)) (@pss_cons _ _ _ _ _ (ps_fld (pv 0) pe_dnewK (by rfl)) (@pss_cut _ _ _ _ _ (ps_fld (pv 0) pe_dnewK (by rfl)) (@pss_one _ _ _ (ps_for PassesOwn.never rfl (pi_enumL rfl T.b_enumerate (@pa_cons _ _ _ _ _ (pv 1) pa_nil (by rfl))) (pg_tup rfl (pgs_cons (pg_name (i := 2) sc_Flows_init.nd rfl (Or.inl rfl)) (pgs_cons (pg_name (i := 3) sc_Flows_init.nd rfl (Or.inl rfl)) pgs_nil))) (@pss_cons _ _ _ _ _ (ps_dput (u1' hr.units) (pe_fld (pv 0) (by rfl)) (@pe_ix _ _ _ _ _ _ _ ix_tup (pv 3) pe_int (fun _ _ => rfl)) (pv 2) (by rfl)) (@pss_cons _ _ _ _ _ (ps_dput (u1' hr.units) (pe_fld (pv 0) (by rfl)) (@pe_ix _ _ _ _ _ _ _ ix_tup (pv 3) pe_int (fun _ _ => rfl)) (@pe_ix _ _ _ _ _ _ _ ix_tup (pv 3) pe_int (fun _ _ => rfl)) (by rfl)) (@pss_cons _ _ _ _ _ (ps_dput (u1' hr.units) (pe_fld (pv 0) (by rfl)) (@pe_ix _ _ _ _ _ _ _ ix_tup (pv 3) pe_int (fun _ _ => rfl)) (@pe_ix _ _ _ _ _ _ _ ix_tup (pv 3) pe_int (fun _ _ => rfl)) (by rfl)) (@pss_cons _ _ _ _ _ (ps_dput (u1' hr.units) (pe_fld (pv 0) (by rfl)) (@pe_ix _ _ _ _ _ _ _ ix_tup (pv 3) pe_int (fun _ _ => rfl)) (@pe_ix _ _ _ _ _ _ _ ix_tup (pv 3) pe_int (fun _ _ => rfl)) (by rfl)) (@pss_cons _ _ _ _ _ (ps_dput (u1' hr.units) (pe_fld (pv 0) (by rfl)) (@pe_ix _ _ _ _ _ _ _ ix_tup (pv 3) pe_int (fun _ _ => rfl)) (callD T.names_of G_names_of (hr.mono (by decide)) (@pa_cons _ _ _ _ _ (pv 3) pa_nil (by rfl))) (by rfl)) (@pss_one _ _ _ (ps_dput (u1' hr.units) (pe_fld (pv 0) (by rfl)) (@pe_ix _ _ _ _ _ _ _ ix_tup (pv 3) pe_int (fun _ _ => rfl)) (callD T.ways G_ways (hr.mono (by decide)) (@pa_cons _ _ _ _ _ (@pe_ix _ _ _ _ _ _ _ ix_tup (pv 3) pe_int (fun _ _ => rfl)) pa_nil (by rfl))) (by rfl))))))))))))))))), ?_⟩
    have fl : (fns.map fun f => V.ref f.fa).length = fns.length := List.length_map _
    have np : 0 < fns.length := List.length_pos_iff.mpr n0
    obtain ⟨fz, hz⟩ : ∃ fz, fns[fns.length - 1]? = some fz := ⟨fns[fns.length - 1], List.getElem?_eq_getElem (by omega)⟩
    have hzT := (hE fz (List.mem_of_getElem? hz)).fn
    have eL : atI (fns.map fun f => V.ref f.fa) (-1) = some (V.ref fz.fa) := by
      unfold atI ixN
      rw [if_neg (by decide), if_pos (by rw [fl]; omega), Option.bind_some]
      have : ((-1 : Int) + ((fns.map fun f => V.ref f.fa).length : Int)).toNat = fns.length - 1 := by rw [fl]; omega
      rw [this, List.getElem?_map, hz]
      rfl
    refine ⟨_, rfl, _, rfl, p, _, _, _, rfl, rfl, ers_same.seq hS, eL, fz.fa, _, _, _, rfl, rfl, ers_same.tup hzT, at0, _, rfl, x, t.c_Flows, dx, _, rfl, hx, T.cl_Flows.cl, T.n_Flows_last, (by show 0 < 1000; decide), ?_⟩
    have sx : ∀ {b : Addr} {o : HO}, ers x H b = some o → b ≠ x ∧ H b = some o := fun {b o} e => by
      have hb : b ≠ x := fun z => by rw [z] at e; unfold ers at e; rw [if_pos rfl] at e; cases e
      rw [ers_ne hb] at e
      exact ⟨hb, e⟩
    have l1 := fld_len "last" (V.str fz.name) [] 0 (Nat.le_refl _)
    intro d0 h0
    refine ⟨_, rfl, x, t.c_Flows, dx, _, rfl, upd_at upd_same (Ne.symm (new_ne h0).1), T.cl_Flows.cl, T.n_Flows_number_of, (by omega), ?_⟩
    have l2 := fld_len "number_of" (.ref d0) _ 1 l1
    intro d1 h1
    refine ⟨_, rfl, x, t.c_Flows, dx, _, rfl, upd_at upd_same (Ne.symm (new_ne h1).1), T.cl_Flows.cl, T.n_Flows_folded_of, (by omega), ?_⟩
    have l3 := fld_len "folded_of" (.ref d1) _ 2 l2
    intro d2 h2
    refine ⟨_, rfl, x, t.c_Flows, dx, _, rfl, upd_at upd_same (Ne.symm (new_ne h2).1), T.cl_Flows.cl, T.n_Flows_params_of, (by omega), ?_⟩
    have l4 := fld_len "params_of" (.ref d2) _ 3 l3
    intro d3 h3
    refine ⟨_, rfl, x, t.c_Flows, dx, _, rfl, upd_at upd_same (Ne.symm (new_ne h3).1), T.cl_Flows.cl, T.n_Flows_rows_of, (by omega), ?_⟩
    have l5 := fld_len "rows_of" (.ref d3) _ 4 l4
    intro d4 h4
    refine ⟨_, rfl, x, t.c_Flows, dx, _, rfl, upd_at upd_same (Ne.symm (new_ne h4).1), T.cl_Flows.cl, T.n_Flows_names_in, (by omega), ?_⟩
    have l6 := fld_len "names_in" (.ref d4) _ 5 l5
    refine ⟨fun σ' G => ∃ d : Nat → Addr, σ' = [some (.ref x), some (.ref p), none, none] ∧ FS t.c_Flows G x dx (flds (V.str fz.name) d) d (fun _ => []) ∧ (∀ i j, i < 6 → j < 6 → d i = d j → i = j) ∧ Same (ers x H) G ∧ ∀ k, ers x H (d k) = none, ?_, ?_⟩
    · intro d5 h5
      obtain ⟨nx0, z0⟩ := new_ne h0
      have q0 : H d0 = none := z0
      obtain ⟨nx1, z1⟩ := new_ne h1
      obtain ⟨n10, w10⟩ := new_ne z1
      obtain ⟨_, y10⟩ := new_ne w10
      have q1 : H d1 = none := y10
      obtain ⟨nx2, z2⟩ := new_ne h2
      obtain ⟨n21, w21⟩ := new_ne z2
      obtain ⟨_, y21⟩ := new_ne w21
      obtain ⟨n20, w20⟩ := new_ne y21
      obtain ⟨_, y20⟩ := new_ne w20
      have q2 : H d2 = none := y20
      obtain ⟨nx3, z3⟩ := new_ne h3
      obtain ⟨n32, w32⟩ := new_ne z3
      obtain ⟨_, y32⟩ := new_ne w32
      obtain ⟨n31, w31⟩ := new_ne y32
      obtain ⟨_, y31⟩ := new_ne w31
      obtain ⟨n30, w30⟩ := new_ne y31
      obtain ⟨_, y30⟩ := new_ne w30
      have q3 : H d3 = none := y30
      obtain ⟨nx4, z4⟩ := new_ne h4
      obtain ⟨n43, w43⟩ := new_ne z4
      obtain ⟨_, y43⟩ := new_ne w43
      obtain ⟨n42, w42⟩ := new_ne y43
      obtain ⟨_, y42⟩ := new_ne w42
      obtain ⟨n41, w41⟩ := new_ne y42
      obtain ⟨_, y41⟩ := new_ne w41
      obtain ⟨n40, w40⟩ := new_ne y41
      obtain ⟨_, y40⟩ := new_ne w40
      have q4 : H d4 = none := y40
      obtain ⟨nx5, z5⟩ := new_ne h5
      obtain ⟨n54, w54⟩ := new_ne z5
      obtain ⟨_, y54⟩ := new_ne w54
      obtain ⟨n53, w53⟩ := new_ne y54
      obtain ⟨_, y53⟩ := new_ne w53
      obtain ⟨n52, w52⟩ := new_ne y53
      obtain ⟨_, y52⟩ := new_ne w52
      obtain ⟨n51, w51⟩ := new_ne y52
      obtain ⟨_, y51⟩ := new_ne w51
      obtain ⟨n50, w50⟩ := new_ne y51
      obtain ⟨_, y50⟩ := new_ne w50
      have q5 : H d5 = none := y50
      have inj : ∀ i j, i < 6 → j < 6 → dd d0 d1 d2 d3 d4 d5 i = dd d0 d1 d2 d3 d4 d5 j → i = j := fun i j hi hj e => by
        match i, j, hi, hj with
        | 0, 0, _, _ => rfl
        | 0, 1, _, _ => exact absurd e.symm n10
        | 0, 2, _, _ => exact absurd e.symm n20
        | 0, 3, _, _ => exact absurd e.symm n30
        | 0, 4, _, _ => exact absurd e.symm n40
        | 0, 5, _, _ => exact absurd e.symm n50
        | 1, 0, _, _ => exact absurd e n10
        | 1, 1, _, _ => rfl
        | 1, 2, _, _ => exact absurd e.symm n21
        | 1, 3, _, _ => exact absurd e.symm n31
        | 1, 4, _, _ => exact absurd e.symm n41
        | 1, 5, _, _ => exact absurd e.symm n51
        | 2, 0, _, _ => exact absurd e n20
        | 2, 1, _, _ => exact absurd e n21
        | 2, 2, _, _ => rfl
        | 2, 3, _, _ => exact absurd e.symm n32
        | 2, 4, _, _ => exact absurd e.symm n42
        | 2, 5, _, _ => exact absurd e.symm n52
        | 3, 0, _, _ => exact absurd e n30
        | 3, 1, _, _ => exact absurd e n31
        | 3, 2, _, _ => exact absurd e n32
        | 3, 3, _, _ => rfl
        | 3, 4, _, _ => exact absurd e.symm n43
        | 3, 5, _, _ => exact absurd e.symm n53
        | 4, 0, _, _ => exact absurd e n40
        | 4, 1, _, _ => exact absurd e n41
        | 4, 2, _, _ => exact absurd e n42
        | 4, 3, _, _ => exact absurd e n43
        | 4, 4, _, _ => rfl
        | 4, 5, _, _ => exact absurd e.symm n54
        | 5, 0, _, _ => exact absurd e n50
        | 5, 1, _, _ => exact absurd e n51
        | 5, 2, _, _ => exact absurd e n52
        | 5, 3, _, _ => exact absurd e n53
        | 5, 4, _, _ => exact absurd e n54
        | 5, 5, _, _ => rfl
        | n + 6, _, h, _ => omega
        | _, n + 6, _, h => omega
      refine ⟨_, rfl, x, t.c_Flows, dx, _, rfl, upd_at upd_same (Ne.symm nx5), T.cl_Flows.cl, T.n_Flows_ways_in, (by omega), dd d0 d1 d2 d3 d4 d5, rfl, ⟨upd_same, fun j hj => ?_⟩, inj, fun b o e => upd_at (upd_at (upd_at (upd_at (upd_at (upd_at (upd_at (upd_at (upd_at (upd_at (upd_at (upd_at (upd_at (sx e).2 (sx e).1) (ne_of_none (sx e).2 q0)) (sx e).1) (ne_of_none (sx e).2 q1)) (sx e).1) (ne_of_none (sx e).2 q2)) (sx e).1) (ne_of_none (sx e).2 q3)) (sx e).1) (ne_of_none (sx e).2 q4)) (sx e).1) (ne_of_none (sx e).2 q5)) (sx e).1, fun k => ?_⟩
      · match j, hj with
        | 0, _ => exact upd_at (upd_at (upd_at (upd_at (upd_at (upd_at (upd_at (upd_at (upd_at (upd_at (upd_at upd_same nx0) (Ne.symm n10)) nx0) (Ne.symm n20)) nx0) (Ne.symm n30)) nx0) (Ne.symm n40)) nx0) (Ne.symm n50)) nx0
        | 1, _ => exact upd_at (upd_at (upd_at (upd_at (upd_at (upd_at (upd_at (upd_at (upd_at upd_same nx1) (Ne.symm n21)) nx1) (Ne.symm n31)) nx1) (Ne.symm n41)) nx1) (Ne.symm n51)) nx1
        | 2, _ => exact upd_at (upd_at (upd_at (upd_at (upd_at (upd_at (upd_at upd_same nx2) (Ne.symm n32)) nx2) (Ne.symm n42)) nx2) (Ne.symm n52)) nx2
        | 3, _ => exact upd_at (upd_at (upd_at (upd_at (upd_at upd_same nx3) (Ne.symm n43)) nx3) (Ne.symm n53)) nx3
        | 4, _ => exact upd_at (upd_at (upd_at upd_same nx4) (Ne.symm n54)) nx4
        | 5, _ => exact upd_at upd_same nx5
        | n + 6, h => omega
      · match k with
        | 0 => exact (ers_ne nx0).trans q0
        | 1 => exact (ers_ne nx1).trans q1
        | 2 => exact (ers_ne nx2).trans q2
        | 3 => exact (ers_ne nx3).trans q3
        | 4 => exact (ers_ne nx4).trans q4
        | n + 5 => exact (ers_ne nx5).trans q5
    rintro σ' G ⟨d, rfl, hFS, inj, hsm, hfd⟩
    refine ⟨_, rfl, p, rfl, ⟨_, hsm.seq hS⟩, for_enumL (xs := fns.map fun f => V.ref f.fa) (fun i σ H2 => ∃ (v2 v3 : Option V) (kv : Nat → List (Key × V)) (nl wl : Nat → Addr), σ = [some (.ref x), some (.ref p), v2, v3] ∧ Same (ers x H) H2 ∧ FS t.c_Flows H2 x dx (flds (V.str fz.name) d) d kv ∧ kv 0 = kD (fun i _ => .int i) (fns.take i) ∧ kv 1 = kD (fun _ f => f.fo) (fns.take i) ∧ kv 2 = kD (fun _ f => .ref f.pa) (fns.take i) ∧ kv 3 = kD (fun _ f => .ref f.ra) (fns.take i) ∧ kv 4 = kD (fun i _ => .ref (nl i)) (fns.take i) ∧ kv 5 = kD (fun i _ => .ref (wl i)) (fns.take i) ∧ (∀ j g, j < i → fns[j]? = some g → hl H2 (nl j) = some (.lst ((nms g).map V.str)) ∧ K13.FoundN (hl H2) (wl j) (kds g) (kds g).length) ∧ ∀ j, j < 6 → (kv j).length ≤ i) ⟨_, _, _, fun _ => 0, fun _ => 0, rfl, hsm, hFS, rfl, rfl, rfl, rfl, rfl, rfl, fun j g h => absurd h (Nat.not_lt_zero _), fun j hj => Nat.le_refl _⟩ ?_ ?_ ?_⟩
    · rintro i σ H2 hi ⟨v2, v3, kv, nlf, wlf, rfl, s2, _⟩
      exact s2.seq hS
    · rintro i y σ H2 b hy ⟨v2, v3, kv, nlf, wlf, rfl, s2, o2, k0, k1, k2, k3, k4, k5, hnw, kl⟩ hb
      obtain ⟨f, hi, hm, rfl⟩ := map_at hy
      have ilt : i < fns.length := (List.getElem?_eq_some_iff.mp hi).1
      have hT := (hE f hm).fn
      have hfu := (hE f hm).fu
      have fit : ∀ {n : Nat}, n ≤ i + 1 → n < sizeLine := fun {n} h => small1000 (by omega)
      refine ⟨b, _, rfl, SqT.of upd_same, rfl, _, _, rfl, _, _, rfl, rfl, ?_⟩
      have s3 := s2.trans (Same.new (o := .tup [.int i, .ref f.fa]) hb)
      have o3 := o2.mono (Same.new (o := .tup [.int i, .ref f.fa]) hb)
      refine ⟨_, rfl, _, rfl, x, t.c_Flows, dx, _, _, rfl, o3.ob, T.cl_Flows.cl, T.n_Flows_number_of, lk_number _ _, _, rfl, f.fa, _, _, _, rfl, rfl, s3.tup hT, at0, d 0, _, rfl, DPut.k (k := (Sum.inr f.name : Key)) (show _ = some (HO.dK (kv 0)) from o3.dc 0 (by decide)) (fit (by have := kl 0 (by decide); simpa using (by omega : _ ≤ i + 1))), ?_⟩
      have s4 := Same.upd (o := .dK (putK (kv 0) (Sum.inr f.name : Key) (V.int i))) s3 (hfd 0)
      have o4 := o3.put inj 0 (by decide) (putK (kv 0) (Sum.inr f.name : Key) (V.int i))
      refine ⟨_, rfl, f.fa, _, _, _, rfl, rfl, s4.tup hT, rfl, _, rfl, x, t.c_Flows, dx, _, _, rfl, o4.ob, T.cl_Flows.cl, T.n_Flows_folded_of, lk_folded _ _, _, rfl, f.fa, _, _, _, rfl, rfl, s4.tup hT, at0, d 1, _, rfl, DPut.k (k := (Sum.inr f.name : Key)) (show _ = some (HO.dK (kv 1)) from o4.dc 1 (by decide)) (fit (by have := kl 1 (by decide); simpa using (by omega : _ ≤ i + 1))), ?_⟩
      have s5 := Same.upd (o := .dK (putK (kv 1) (Sum.inr f.name : Key) f.fo)) s4 (hfd 1)
      have o5 := o4.put inj 1 (by decide) (putK (kv 1) (Sum.inr f.name : Key) f.fo)
      refine ⟨_, rfl, f.fa, _, _, _, rfl, rfl, s5.tup hT, rfl, _, rfl, x, t.c_Flows, dx, _, _, rfl, o5.ob, T.cl_Flows.cl, T.n_Flows_params_of, lk_params _ _, _, rfl, f.fa, _, _, _, rfl, rfl, s5.tup hT, at0, d 2, _, rfl, DPut.k (k := (Sum.inr f.name : Key)) (show _ = some (HO.dK (kv 2)) from o5.dc 2 (by decide)) (fit (by have := kl 2 (by decide); simpa using (by omega : _ ≤ i + 1))), ?_⟩
      have s6 := Same.upd (o := .dK (putK (kv 2) (Sum.inr f.name : Key) (.ref f.pa))) s5 (hfd 2)
      have o6 := o5.put inj 2 (by decide) (putK (kv 2) (Sum.inr f.name : Key) (.ref f.pa))
      refine ⟨_, rfl, f.fa, _, _, _, rfl, rfl, s6.tup hT, rfl, _, rfl, x, t.c_Flows, dx, _, _, rfl, o6.ob, T.cl_Flows.cl, T.n_Flows_rows_of, lk_rows _ _, _, rfl, f.fa, _, _, _, rfl, rfl, s6.tup hT, at0, d 3, _, rfl, DPut.k (k := (Sum.inr f.name : Key)) (show _ = some (HO.dK (kv 3)) from o6.dc 3 (by decide)) (fit (by have := kl 3 (by decide); simpa using (by omega : _ ≤ i + 1))), ?_⟩
      have s7 := Same.upd (o := .dK (putK (kv 3) (Sum.inr f.name : Key) (.ref f.ra))) s6 (hfd 3)
      have o7 := o6.put inj 3 (by decide) (putK (kv 3) (Sum.inr f.name : Key) (.ref f.ra))
      refine ⟨_, rfl, f.fa, f.ps, f.ds, rfl, hfu.mono s7, fun nl H8 e8 hnl hl8 => ?_⟩
      have s8 := s7.trans e8
      have o8 := o7.mono e8
      refine ⟨_, rfl, x, t.c_Flows, dx, _, _, rfl, o8.ob, T.cl_Flows.cl, T.n_Flows_names_in, lk_names _ _, _, rfl, f.fa, _, _, _, rfl, rfl, s8.tup hT, at0, d 4, _, rfl, DPut.k (k := (Sum.inr f.name : Key)) (show _ = some (HO.dK (kv 4)) from o8.dc 4 (by decide)) (fit (by have := kl 4 (by decide); simpa using (by omega : _ ≤ i + 1))), ?_⟩
      have s9 := Same.upd (o := .dK (putK (kv 4) (Sum.inr f.name : Key) (.ref nl))) s8 (hfd 4)
      have o9 := o8.put inj 4 (by decide) (putK (kv 4) (Sum.inr f.name : Key) (.ref nl))
      refine ⟨_, rfl, f.fa, _, _, _, rfl, rfl, s9.tup hT, rfl, f.ra, kds f, rfl, ((hE f hm).old.mono s9).rows, (hE f hm).wf, (by unfold kds; rw [List.length_map]; have := (hE f hm).len; omega), fun wl HA eA hwl hfn => ?_⟩
      have sA := s9.trans eA
      have oA := o9.mono eA
      refine ⟨_, rfl, x, t.c_Flows, dx, _, _, rfl, oA.ob, T.cl_Flows.cl, T.n_Flows_ways_in, lk_ways _ _, _, rfl, f.fa, _, _, _, rfl, rfl, sA.tup hT, at0, d 5, _, rfl, DPut.k (k := (Sum.inr f.name : Key)) (show _ = some (HO.dK (kv 5)) from oA.dc 5 (by decide)) (fit (by have := kl 5 (by decide); simpa using (by omega : _ ≤ i + 1))), ?_⟩
      have sB := Same.upd (o := .dK (putK (kv 5) (Sum.inr f.name : Key) (.ref wl))) sA (hfd 5)
      have oB := oA.put inj 5 (by decide) (putK (kv 5) (Sum.inr f.name : Key) (.ref wl))
      have c3 : Same (hl H2) (hl H8) := by
        have z1 : Same (hl H2) (hl (upd H2 b (.tup [.int i, .ref f.fa]))) := (Same.new (o := .tup [.int i, .ref f.fa]) hb).hl
        have z2 := e8.hl
        rw [hl_dK (o6.dc 3 (by decide)), hl_dK (o5.dc 2 (by decide)), hl_dK (o4.dc 1 (by decide)), hl_dK (o3.dc 0 (by decide))] at z2
        exact z1.trans z2
      have c4 : Same (hl H8) (hl HA) := by
        have z2 := eA.hl
        rw [hl_dK (o8.dc 4 (by decide))] at z2
        exact z2
      have c5 : hl (upd HA (d 5) (.dK (putK (kv 5) (Sum.inr f.name : Key) (.ref wl)))) = hl HA := hl_dK (oA.dc 5 (by decide))
      refine ⟨_, _, _, fun j => if j = i then nl else nlf j, fun j => if j = i then wl else wlf j, rfl, sB, oB, ?_, ?_, ?_, ?_, ?_, ?_, fun j g hj hg => ?_, fun j hj => ?_⟩
      · show putK (kv 0) (Sum.inr f.name : Key) (V.int i) = _
        rw [k0]
        exact kD_put hi nd (fun _ _ _ => rfl) rfl
      · show putK (kv 1) (Sum.inr f.name : Key) f.fo = _
        rw [k1]
        exact kD_put hi nd (fun _ _ _ => rfl) rfl
      · show putK (kv 2) (Sum.inr f.name : Key) (.ref f.pa) = _
        rw [k2]
        exact kD_put hi nd (fun _ _ _ => rfl) rfl
      · show putK (kv 3) (Sum.inr f.name : Key) (.ref f.ra) = _
        rw [k3]
        exact kD_put hi nd (fun _ _ _ => rfl) rfl
      · show putK (kv 4) (Sum.inr f.name : Key) (.ref nl) = _
        rw [k4]
        exact kD_put hi nd (fun j _ hj => by show V.ref (nlf j) = V.ref (if j = i then nl else nlf j); rw [if_neg (by omega)]) (by show V.ref nl = V.ref (if i = i then nl else nlf i); rw [if_pos rfl])
      · show putK (kv 5) (Sum.inr f.name : Key) (.ref wl) = _
        rw [k5]
        exact kD_put hi nd (fun j _ hj => by show V.ref (wlf j) = V.ref (if j = i then wl else wlf j); rw [if_neg (by omega)]) (by show V.ref wl = V.ref (if i = i then wl else wlf i); rw [if_pos rfl])
      · rw [c5]
        by_cases hji : j = i
        · subst hji
          rw [hi] at hg
          cases hg
          refine ⟨?_, ?_⟩
          · show hl HA (if j = j then nl else nlf j) = _
            rw [if_pos rfl]
            exact c4 _ _ (hl_lst hl8)
          · show K13.FoundN (hl HA) (if j = j then wl else wlf j) _ _
            rw [if_pos rfl]
            exact hfn.hl
        · obtain ⟨y1, y2⟩ := hnw j g (by omega) hg
          refine ⟨?_, ?_⟩
          · show hl HA (if j = i then nl else nlf j) = _
            rw [if_neg hji]
            exact c4 _ _ (c3 _ _ y1)
          · show K13.FoundN (hl HA) (if j = i then wl else wlf j) _ _
            rw [if_neg hji]
            exact y2.mono (c3.trans c4)
      · have e := kl j hj
        match j, hj with
        | 0, _ => exact Nat.le_trans (length_putK _ _ _) (by omega)
        | 1, _ => exact Nat.le_trans (length_putK _ _ _) (by omega)
        | 2, _ => exact Nat.le_trans (length_putK _ _ _) (by omega)
        | 3, _ => exact Nat.le_trans (length_putK _ _ _) (by omega)
        | 4, _ => exact Nat.le_trans (length_putK _ _ _) (by omega)
        | 5, _ => exact Nat.le_trans (length_putK _ _ _) (by omega)
        | n + 6, h => omega
    · rintro σ H2 ⟨v2, v3, kv, nlf, wlf, rfl, s2, o2, k0, k1, k2, k3, k4, k5, hnw, kl⟩
      rw [fl, List.take_length] at k0 k1 k2 k3 k4 k5
      exact q H2 s2 ⟨fun f hf => (hE f hf).mono s2, nd, dx, fz, d, kv, nlf, wlf, hz, o2, k0, k1, k2, k3, k4, k5, fun i f hi => let ⟨y1, y2⟩ := hnw i f (by rw [fl]; exact (List.getElem?_eq_some_iff.mp hi).1) hi; ⟨hl_same _ _ y1, y2.mono hl_same⟩⟩
end
end K55

set_option Elab.async false
set_option linter.all false
set_option maxRecDepth 100000
set_option maxHeartbeats 4000000
namespace K55
open PySem L2 Gx Fl
section
variable {P : Program} {w : World} {K : PySem.W.Frag} {mg : Str → Option Value} {base : Heap} {t : Adr}
local macro_rules | `(tactic| walk_at "rd1") => `(tactic| first
  | refine ⟨_, rfl, ?_⟩
  | refine ⟨_, _, rfl, rfl, ?_⟩
  | refine ⟨rfl, ?_⟩
  | refine ⟨(show (0 : Int) < _ by decide), ?_⟩
  | refine ⟨⟨by decide, by decide⟩, ?_⟩
  | refine ⟨.inl ⟨by decide, by decide⟩, ?_⟩
  | refine ⟨.inr ⟨by decide, by decide⟩, ?_⟩
  | refine ⟨⟨by decide, by decide, by decide⟩, ?_⟩)
local macro_rules | `(tactic| walk_at "rd") => `(tactic| repeat walk_at "rd1")
theorem sc_Flows_row_at : FnScope ["self", "frame"] ["self", "frame"] (defScope s_Flows_row_at) := ⟨rfl, rfl, rfl, by decide +kernel, rfl, by decide +kernel, by decide +kernel⟩
theorem ok_Flows_row_at (T : Txt K mg t) : FnOk P w K mg base CX0 1 t.a_Flows_row_at t.d_Flows_row_at ["self", "frame"] (sp_Flows_row_at K t) := by
  refine T.Flows_row_at.F.ok sc_Flows_row_at (fun vs H Q E h => ?_) (fun cdv A outer s H vs Q E hr h => ?_)
  · obtain ⟨x, fa, fns, p, f, w, rfl, hF, hT, hW, q⟩ := h
    rfl
  · obtain ⟨x, fa, fns, p, f, w, rfl, hF, hT, hW, q⟩ := h
    refine ⟨_, (@pss_cons _ _ _ _ _ (@ps_ret _ _ _ _ (@pe_ix _ _ _ _ _ _ _ ix_tup (pe_dget (u1' hr.units) (pe_fld (pv 0) (by rfl)) (@pe_ix _ _ _ _ _ _ _ ix_tup (pv 1) pe_int (fun _ _ => rfl)) (fun _ _ => rfl)) (@pe_ix _ _ _ _ _ _ _ ix_tup (pv 1) pe_int (fun _ _ => rfl)) (fun _ _ => rfl))) pss_nil), ?_⟩
    have nd := hF.1.nd
    obtain ⟨i, hi⟩ := List.getElem?_of_mem hW.mem
    obtain ⟨dx, fz, d, kv, nl, wl, h0, hO, h2, h3, h4, h5, h6, h7, h8⟩ := hF.1.ob
    have hd := hO.dc 3 (by decide)
    rw [h5] at hd
    have hg := DGet.k (k := (Sum.inr f.name : Key)) hd
    rw [F2.kD_at _ nd hi, hW.nm] at hg
    exact ⟨_, rfl, x, t.c_Flows, dx, _, _, rfl, hO.ob, T.cl_Flows.cl, T.n_Flows_rows_of, lk_rows _ _, _, rfl, fa, _, _, _, rfl, rfl, hT, at0, _, _, rfl, hg, _, rfl, fa, _, _, _, rfl, rfl, hT, rfl, f.ra, _, _, _, rfl, rfl, (hF.1.all f hW.mem).rw_, at_ref (by omega) (by rw [Int.toNat_natCast]; exact hW.rw_), q⟩
end
end K55

set_option Elab.async false
set_option linter.all false
set_option maxRecDepth 100000
set_option maxHeartbeats 4000000
namespace K55
open PySem L2 Gx Fl
section
variable {P : Program} {w : World} {K : PySem.W.Frag} {mg : Str → Option Value} {base : Heap} {t : Adr}
local macro_rules | `(tactic| walk_at "rd1") => `(tactic| first
  | refine ⟨_, rfl, ?_⟩
  | refine ⟨_, _, rfl, rfl, ?_⟩
  | refine ⟨rfl, ?_⟩
  | refine ⟨(show (0 : Int) < _ by decide), ?_⟩
  | refine ⟨⟨by decide, by decide⟩, ?_⟩
  | refine ⟨.inl ⟨by decide, by decide⟩, ?_⟩
  | refine ⟨.inr ⟨by decide, by decide⟩, ?_⟩
  | refine ⟨⟨by decide, by decide, by decide⟩, ?_⟩)
local macro_rules | `(tactic| walk_at "rd") => `(tactic| repeat walk_at "rd1")
theorem sc_Flows_ways_at : FnScope ["self", "frame"] ["self", "frame"] (defScope s_Flows_ways_at) := ⟨rfl, rfl, rfl, by decide +kernel, rfl, by decide +kernel, by decide +kernel⟩
theorem ok_Flows_ways_at (T : Txt K mg t) : FnOk P w K mg base CX0 1 t.a_Flows_ways_at t.d_Flows_ways_at ["self", "frame"] (sp_Flows_ways_at K t) := by
  refine T.Flows_ways_at.F.ok sc_Flows_ways_at (fun vs H Q E h => ?_) (fun cdv A outer s H vs Q E hr h => ?_)
  · obtain ⟨x, fa, fns, p, f, w, rfl, hF, hT, hW, hb, q⟩ := h
    rfl
  · obtain ⟨x, fa, fns, p, f, w, rfl, hF, hT, hW, hb, q⟩ := h
    refine ⟨_, (@pss_cons _ _ _ _ _ (@ps_ret _ _ _ _ (@pe_ix _ _ _ _ _ _ _ ix_list (pe_dget (u1' hr.units) (pe_fld (pv 0) (by rfl)) (@pe_ix _ _ _ _ _ _ _ ix_tup (pv 1) pe_int (fun _ _ => rfl)) (fun _ _ => rfl)) (@pe_ix _ _ _ _ _ _ _ ix_tup (pv 1) pe_int (fun _ _ => rfl)) (fun _ _ => rfl))) pss_nil), ?_⟩
    have nd := hF.1.nd
    obtain ⟨i, hi⟩ := List.getElem?_of_mem hW.mem
    obtain ⟨dx, fz, d, kv, nl, wl, h0, hO, h2, h3, h4, h5, h6, h7, h8⟩ := hF.1.ob
    have hd := hO.dc 5 (by decide)
    rw [h7] at hd
    have hg := DGet.k (k := (Sum.inr f.name : Key)) hd
    rw [F2.kD_at _ nd hi, hW.nm] at hg
    obtain ⟨vs, e1, e2, e3⟩ := (h8 i f hi).2
    have hl : (F2.kds f).length = f.rs.length := by unfold F2.kds; rw [List.length_map]
    have hp : p.2 < vs.length := by rw [e2, hl]; exact (List.getElem?_eq_some_iff.mp hW.rw_).1
    have ev : vs[p.2]? = some vs[p.2] := List.getElem?_eq_getElem hp
    obtain ⟨o, due, vo⟩ := e3 p.2 _ ev
    have ho := (due_one hF.2 hW.mem (hF.1.all f hW.mem).wf hW.rw_ hb).2 o due
    subst ho
    obtain ⟨qa, eq1, eq2⟩ := vo
    have ea : atI vs (p.2 : Int) = some (.ref qa) := by rw [← eq1]; exact atI_nat ev
    exact ⟨_, rfl, x, t.c_Flows, dx, _, _, rfl, hO.ob, T.cl_Flows.cl, T.n_Flows_ways_in, lk_ways _ _, _, rfl, fa, _, _, _, rfl, rfl, hT, at0, _, _, rfl, hg, _, rfl, fa, _, _, _, rfl, rfl, hT, rfl, _, _, _, _, rfl, rfl, SqL.of e1, ea, q qa eq2⟩
end
end K55

set_option Elab.async false
set_option linter.all false
set_option maxRecDepth 100000
set_option maxHeartbeats 4000000
namespace K55
open PySem L2 Gx Fl
section
variable {P : Program} {w : World} {K : PySem.W.Frag} {mg : Str → Option Value} {base : Heap} {t : Adr}
local macro_rules | `(tactic| walk_at "rd1") => `(tactic| first
  | refine ⟨_, rfl, ?_⟩
  | refine ⟨_, _, rfl, rfl, ?_⟩
  | refine ⟨rfl, ?_⟩
  | refine ⟨(show (0 : Int) < _ by decide), ?_⟩
  | refine ⟨⟨by decide, by decide⟩, ?_⟩
  | refine ⟨.inl ⟨by decide, by decide⟩, ?_⟩
  | refine ⟨.inr ⟨by decide, by decide⟩, ?_⟩
  | refine ⟨⟨by decide, by decide, by decide⟩, ?_⟩)
local macro_rules | `(tactic| walk_at "rd") => `(tactic| repeat walk_at "rd1")
theorem sc_moved : FnScope ["flows", "chain", "way", "last"] ["flows", "chain", "way"] (defScope s_moved) := ⟨rfl, rfl, rfl, by decide +kernel, rfl, by decide +kernel, by decide +kernel⟩
theorem ok_moved (T : Txt K mg t) : FnOk P w K mg base CX0 2 t.a_moved t.d_moved ["flows", "chain", "way"] (sp_moved K t) := by
  have G_Flows_ways_at : FnOk P w K mg base CX0 1 t.a_Flows_ways_at t.d_Flows_ways_at ["self", "frame"] (sp_Flows_ways_at K t) := ok_Flows_ways_at T
  refine T.moved.F.ok sc_moved (fun vs H Q E h => ?_) (fun cdv A outer s H vs Q E hr h => ?_)
  · obtain ⟨x, ca, fns, p, rest, f, w, rfl, hF, hC, hW, hb, hl, q⟩ := h
    rfl
  · obtain ⟨x, ca, fns, p, rest, f, w, rfl, hF, hC, hW, hb, hl, q⟩ := h
    refine ⟨_, (@pss_cons _ _ _ _ _ (@ps_set _ _ 3 _ _ _ _ sc_moved.nd rfl (Or.inl rfl) (@pe_ix _ _ _ _ _ _ _ ix_tup (pv 1) (pe_un un_neg pe_int) (fun _ _ => rfl)) (by rfl) (by first | exact .inl rfl | exact .inr rfl | assumption)) (@pss_one _ _ _ (@ps_ret _ _ _ _ (@pe_op _ _ _ _ _ _ _ _ op_catTT (@pe_slice _ _ _ _ _ _ _ _ _ _ sl_tupA (pv 1) po_none (po_some (pe_un un_neg pe_int))) (@pe_tup _ _ _ _ _ (@pa_cons _ _ _ _ _ (@pe_tup _ _ _ _ _ (@pa_cons _ _ _ _ _ (@pe_ix _ _ _ _ _ _ _ ix_tup (pv 3) pe_int (fun _ _ => rfl)) (@pa_cons _ _ _ _ _ (@pe_ix _ _ _ _ _ _ _ ix_tup (pe_meth (pv 0) T.cl_Flows.cl T.Flows_ways_at.m G_Flows_ways_at (hr.mono (by decide)) T.Flows_ways_at.b .nil pass0 (@pa_cons _ _ _ _ _ (pv 3) pa_nil (by rfl))) (pv 2) (fun _ _ => rfl)) pa_nil (by rfl)) (by rfl))) pa_nil (by rfl))))))), ?_⟩
    obtain ⟨fa, yr, h1, h2, h3⟩ := hC.cons
    refine ⟨_, rfl, _, rfl, ca, _, _, _, rfl, rfl, h1, atI_last _ _, ?_⟩
    refine ⟨_, rfl, _, rfl, _, rfl, rSlA_of h1 fun qA HA sA hqA => ?_⟩
    rw [cut_last] at hqA
    obtain ⟨dx, fs, ob, _, lk2⟩ := (hF.mono sA).ob
    refine ⟨_, rfl, fa, _, _, _, rfl, rfl, sA.tup h2, at0, _, rfl, x, dx, _, rfl, ob, lk2, _, rfl, x, fa, fns, p, f, w, rfl, hF.mono sA, sA.tup h2, hW, hb, fun qq hq => ?_⟩
    refine ⟨_, rfl, qq, _, _, _, rfl, rfl, SqT.of hq, at0, le2, fun p1 hp1 => ⟨le1, fun p2 hp2 => ?_⟩⟩
    have s1 : Same HA (upd (upd HA p1 (.tup [.str p.1.1, .int ((p.2 + 1 : Nat) : Int)])) p2 (.tup [.ref p1])) := (Same.new hp1).trans (Same.new hp2)
    have e1 : SqT K (upd (upd HA p1 (.tup [.str p.1.1, .int ((p.2 + 1 : Nat) : Int)])) p2 (.tup [.ref p1])) p1 [.str p.1.1, .int ((p.2 + 1 : Nat) : Int)] := (Same.new hp2).tup (SqT.of upd_same)
    by_cases hy : yr = []
    · subst hy
      refine .inr ⟨qA, p2, _, rfl, rfl, s1.tup hqA, SqT.of upd_same, q p2 _ (sA.trans s1) ?_⟩
      exact ChA.mk (fa := p1) (SqT.of upd_same) e1 (frs_mono h3 (sA.trans s1))
    · have ln : yr.length = rest.length := (Paired.length h3).symm
      refine .inl ⟨qA, p2, _, _, rfl, rfl, s1.tup hqA, SqT.of upd_same, by simpa using hy, ?_, fun z => absurd z (by simp), fun _ p3 hp3 => ?_⟩
      · rw [List.length_reverse, ln]
        show rest.length + 1 ≤ sizeLine
        have : (4 : Nat) ≤ sizeLine := by decide
        omega
      · exact q p3 _ ((sA.trans s1).trans (Same.new hp3)) (ChA.mk (fa := p1) (SqT.of upd_same) ((Same.new hp3).tup e1) (frs_mono h3 ((sA.trans s1).trans (Same.new hp3))))
end
end K55

set_option Elab.async false
set_option linter.all false
set_option maxRecDepth 100000
set_option maxHeartbeats 4000000
namespace K55
open PySem L2 Gx Fl
section
variable {P : Program} {w : World} {K : PySem.W.Frag} {mg : Str → Option Value} {base : Heap} {t : Adr}
local macro_rules | `(tactic| walk_at "rd1") => `(tactic| first
  | refine ⟨_, rfl, ?_⟩
  | refine ⟨_, _, rfl, rfl, ?_⟩
  | refine ⟨rfl, ?_⟩
  | refine ⟨(show (0 : Int) < _ by decide), ?_⟩
  | refine ⟨⟨by decide, by decide⟩, ?_⟩
  | refine ⟨.inl ⟨by decide, by decide⟩, ?_⟩
  | refine ⟨.inr ⟨by decide, by decide⟩, ?_⟩
  | refine ⟨⟨by decide, by decide, by decide⟩, ?_⟩)
local macro_rules | `(tactic| walk_at "rd") => `(tactic| repeat walk_at "rd1")
theorem sc_is_in_place : FnScope ["flows", "chain", "called"] ["flows", "chain"] (defScope s_is_in_place) := ⟨rfl, rfl, rfl, by decide +kernel, rfl, by decide +kernel, by decide +kernel⟩
theorem ok_is_in_place (T : Txt K mg t) : FnOk P w K mg base CX0 2 t.a_is_in_place t.d_is_in_place ["flows", "chain"] (sp_is_in_place K t) := by
  have G_Flows_row_at : FnOk P w K mg base CX0 1 t.a_Flows_row_at t.d_Flows_row_at ["self", "frame"] (sp_Flows_row_at K t) := ok_Flows_row_at T
  refine T.is_in_place.F.ok sc_is_in_place (fun vs H Q E h => ?_) (fun cdv A outer s H vs Q E hr h => ?_)
  · obtain ⟨x, ca, fns, p, rest, f, w, rfl, hF, hC, hW, hk, hl, q⟩ := h
    rfl
  · obtain ⟨x, ca, fns, p, rest, f, w, rfl, hF, hC, hW, hk, hl, q⟩ := h
    refine ⟨_, (@pss_cons _ _ _ _ _ (@ps_set _ _ 2 _ _ _ _ sc_is_in_place.nd rfl (Or.inl rfl) (@pe_ix _ _ _ _ _ _ _ ix_tup (pe_meth (pv 0) T.cl_Flows.cl T.Flows_row_at.m G_Flows_row_at (hr.mono (by decide)) T.Flows_row_at.b .nil pass0 (@pa_cons _ _ _ _ _ (@pe_ix _ _ _ _ _ _ _ ix_tup (pv 1) (pe_un un_neg pe_int) (fun _ _ => rfl)) pa_nil (by rfl))) pe_int (fun _ _ => rfl)) (by rfl) (by first | exact .inl rfl | exact .inr rfl | assumption)) (@pss_cons _ _ _ _ _ (@ps_if _ _ _ _ _ _ _ _ (@PW.pt _ _ _ (pw_or (pt_not (pt_val (pe_dget (u1' hr.units) (pe_fld (pv 0) (by rfl)) (pv 2) (fun _ _ => rfl)))) (pw_or1 (@pt_cmpR _ _ _ _ _ _ _ _ op_ge (pe_callB call_len_seq (by rfl) T.b_len bt_len (@pa_cons _ _ _ _ _ (pv 1) pa_nil (by rfl))) (pe_gint T.c_MOST_FRAMES) (nomark _))))) (@pss_one _ _ _ (@ps_ret _ _ _ _ pe_bl)) pss_nil) (@pss_one _ _ _ (@ps_ret _ _ _ _ (pe_cmpR op_lt (pe_dget (u1' hr.units) (pe_fld (pv 0) (by rfl)) (pv 2) (fun _ _ => rfl)) (pe_dget (u1' hr.units) (pe_fld (pv 0) (by rfl)) (@pe_ix _ _ _ _ _ _ _ ix_tup (@pe_ix _ _ _ _ _ _ _ ix_tup (pv 1) (pe_un un_neg pe_int) (fun _ _ => rfl)) pe_int (fun _ _ => rfl)) (fun _ _ => rfl)) (nomark _)))))), ?_⟩
    obtain ⟨fa, yr, h1, h2, h3⟩ := hC.cons
    obtain ⟨dx, fs, ob, lk1, _⟩ := hF.ob
    have hmem := List.mem_of_getElem? hW.rw_
    obtain ⟨rest', hr1, hr2⟩ := (hF.1.all f hW.mem).rk w hmem
    obtain ⟨xx, yy, rfl⟩ := hr2 hk
    refine ⟨_, rfl, x, dx, _, rfl, ob, lk1, _, rfl, _, rfl, ca, _, _, _, rfl, rfl, h1, atI_last _ _, x, fa, fns, p, f, w, rfl, hF, h2, hW, w.r, _, _, _, rfl, rfl, hr1, rfl, ?_⟩
    have nd := hF.1.nd
    obtain ⟨i, hi⟩ := List.getElem?_of_mem hW.mem
    obtain ⟨fc, hfc, hcn⟩ : ∃ g ∈ fns, g.name = w.c := by
      rcases hF.2.kd f hW.mem w hmem with z | z | z
      · rw [hk] at z; exact absurd z (by decide +kernel)
      · rw [hk] at z; exact absurd z ne_bc.1
      · exact z.2.2
    obtain ⟨j, hj⟩ := List.getElem?_of_mem hfc
    have li := lk_at nd hi
    have lj := lk_at nd hj
    rw [hW.nm] at li
    rw [hcn] at lj
    obtain ⟨bf, hbf⟩ := hF.2.fo fc hfc
    obtain ⟨dx', fz, d, kv, nl, wl, h0, hO, e2, e3, e4, e5, e6, e7, e8⟩ := hF.1.ob
    have d0 := hO.dc 0 (by decide)
    rw [e2] at d0
    have d1 := hO.dc 1 (by decide)
    rw [e3] at d1
    have g1 := DGet.k (k := (Sum.inr fc.name : Key)) d1
    rw [F2.kD_at _ nd hj, hcn, hbf] at g1
    have g0 := DGet.k (k := (Sum.inr fc.name : Key)) d0
    rw [F2.kD_at _ nd hj, hcn] at g0
    have g2 := DGet.k (k := (Sum.inr f.name : Key)) d0
    rw [F2.kD_at _ nd hi, hW.nm] at g2
    have ei : inPl fns p.1.1 w.c rest.length = (decide (bf = true) && decide (rest.length + 1 < 3) && decide (j < i)) := by
      unfold inPl
      rw [lj.1, lj.2, li.2]
      show (decide (fc.fo = .bl true) && _ && _) = _
      rw [hbf]
      cases bf <;> rfl
    rw [ei] at q
    have ln : (yr.reverse ++ [V.ref fa]).length = rest.length + 1 := by rw [List.length_append, List.length_reverse, (Paired.length h3).symm]; rfl
    refine ⟨_, rfl, x, t.c_Flows, dx', _, _, rfl, hO.ob, T.cl_Flows.cl, T.n_Flows_folded_of, lk_folded _ _, _, rfl, _, _, rfl, g1, ?_⟩
    refine ⟨bf, rfl, ?_⟩
    cases bf with
    | false => exact iteP rfl (iteP rfl (q H (Same.refl _)))
    | true =>
      refine iteN (by simp) ⟨_, rfl, ca, _, rfl, .inr h1, _, _, rfl, rfl, _, rfl, ?_⟩
      by_cases c : rest.length + 1 < 3
      · refine iteN (by rw [decide_eq_true_eq, ln]; omega) ⟨_, rfl, x, t.c_Flows, dx', _, _, rfl, hO.ob, T.cl_Flows.cl, T.n_Flows_number_of, lk_number _ _, _, rfl, _, _, rfl, g0, _, rfl, x, t.c_Flows, dx', _, _, rfl, hO.ob, T.cl_Flows.cl, T.n_Flows_number_of, lk_number _ _, _, rfl, _, rfl, ca, _, _, _, rfl, rfl, h1, atI_last _ _, fa, _, _, _, rfl, rfl, h2, at0, _, _, rfl, g2, _, _, rfl, rfl, ?_⟩
        have := q H (Same.refl _)
        rw [decide_eq_true c] at this
        refine vq ?_ this
        show V.bl (decide ((j : Int) < (i : Int))) = V.bl (true && true && decide (j < i))
        rw [Bool.true_and, Bool.true_and]
        congr 1
        rw [Bool.eq_iff_iff, decide_eq_true_eq, decide_eq_true_eq]
        omega
      · refine iteP (by rw [decide_eq_true_eq, ln]; omega) ?_
        have := q H (Same.refl _)
        rw [decide_eq_false c] at this
        exact this
end
end K55

set_option Elab.async false
set_option linter.all false
set_option maxRecDepth 100000
set_option maxHeartbeats 4000000
namespace K55
open PySem L2 Gx Fl
section
variable {P : Program} {w : World} {K : PySem.W.Frag} {mg : Str → Option Value} {base : Heap} {t : Adr}
local macro_rules | `(tactic| walk_at "rd1") => `(tactic| first
  | refine ⟨_, rfl, ?_⟩
  | refine ⟨_, _, rfl, rfl, ?_⟩
  | refine ⟨rfl, ?_⟩
  | refine ⟨(show (0 : Int) < _ by decide), ?_⟩
  | refine ⟨⟨by decide, by decide⟩, ?_⟩
  | refine ⟨.inl ⟨by decide, by decide⟩, ?_⟩
  | refine ⟨.inr ⟨by decide, by decide⟩, ?_⟩
  | refine ⟨⟨by decide, by decide, by decide⟩, ?_⟩)
local macro_rules | `(tactic| walk_at "rd") => `(tactic| repeat walk_at "rd1")
theorem sc_stops_behind : FnScope ["flows", "chain", "wait", "row"] ["flows", "chain", "wait"] (defScope s_stops_behind) := ⟨rfl, rfl, rfl, by decide +kernel, rfl, by decide +kernel, by decide +kernel⟩
theorem ok_stops_behind (T : Txt K mg t) : FnOk P w K mg base CX0 3 t.a_stops_behind t.d_stops_behind ["flows", "chain", "wait"] (sp_stops_behind K t) := by
  have G_moved : FnOk P w K mg base CX0 2 t.a_moved t.d_moved ["flows", "chain", "way"] (sp_moved K t) := ok_moved T
  have G_is_in_place : FnOk P w K mg base CX0 2 t.a_is_in_place t.d_is_in_place ["flows", "chain"] (sp_is_in_place K t) := ok_is_in_place T
  have G_Flows_row_at : FnOk P w K mg base CX0 1 t.a_Flows_row_at t.d_Flows_row_at ["self", "frame"] (sp_Flows_row_at K t) := ok_Flows_row_at T
  have G_Flows_ways_at : FnOk P w K mg base CX0 1 t.a_Flows_ways_at t.d_Flows_ways_at ["self", "frame"] (sp_Flows_ways_at K t) := ok_Flows_ways_at T
  refine T.stops_behind.F.ok sc_stops_behind (fun vs H Q E h => ?_) (fun cdv A outer s H vs Q E hr h => ?_)
  · obtain ⟨x, ca, fns, p, rest, wt, rfl, hF, hC, hG, q⟩ := h
    rfl
  · obtain ⟨x, ca, fns, p, rest, wt, rfl, hF, hC, hG, q⟩ := h
    refine ⟨_, (@pss_cons _ _ _ _ _ (@ps_set _ _ 3 _ _ _ _ sc_stops_behind.nd rfl (Or.inl rfl) (pe_meth (pv 0) T.cl_Flows.cl T.Flows_row_at.m G_Flows_row_at (hr.mono (by decide)) T.Flows_row_at.b .nil pass0 (@pa_cons _ _ _ _ _ (@pe_ix _ _ _ _ _ _ _ ix_tup (pv 1) (pe_un un_neg pe_int) (fun _ _ => rfl)) pa_nil (by rfl))) (by rfl) (by first | exact .inl rfl | exact .inr rfl | assumption)) (@pss_cons _ _ _ _ _ (@ps_if _ _ _ _ _ _ _ _ (@pt_cmpR _ _ _ _ _ _ _ _ op_eq (@pe_ix _ _ _ _ _ _ _ ix_tup (pv 3) pe_int (fun _ _ => rfl)) pe_str (nomark _)) (@pss_one _ _ _ (@ps_ret _ _ _ _ (@pe_ifExp _ _ _ _ _ _ _ _ (@pt_cmpR _ _ _ _ _ _ _ _ op_gt (pe_callB call_len_seq (by rfl) T.b_len bt_len (@pa_cons _ _ _ _ _ (pv 1) pa_nil (by rfl))) pe_int (nomark _)) (@pe_lst _ _ _ _ (@pa_cons _ _ _ _ _ (@pe_tup _ _ _ _ _ (@pa_cons _ _ _ _ _ (callD T.moved G_moved (hr.mono (by decide)) (@pa_cons _ _ _ _ _ (pv 0) (@pa_cons _ _ _ _ _ (@pe_slice _ _ _ _ _ _ _ _ _ _ sl_tupA (pv 1) po_none (po_some (pe_un un_neg pe_int))) (@pa_cons _ _ _ _ _ pe_int pa_nil (by rfl)) (by rfl)) (by rfl))) (@pa_cons _ _ _ _ _ pe_bl pa_nil (by rfl)) (by rfl))) pa_nil (by rfl))) (@pe_lst _ _ _ _ pa_nil)))) pss_nil) (@pss_cons _ _ _ _ _ (@ps_if _ _ _ _ _ _ _ _ (@PW.pt _ _ _ (@pw_and _ _ _ _ _ _ _ (@pt_cmpR _ _ _ _ _ _ _ _ op_eq (@pe_ix _ _ _ _ _ _ _ ix_tup (pv 3) pe_int (fun _ _ => rfl)) pe_str (nomark _)) (@pw_and1 _ _ _ _ (pt_not (pt_val (pv 2)))))) (@pss_one _ _ _ (@ps_ret _ _ _ _ (@pe_lst _ _ _ _ (@pa_cons _ _ _ _ _ (@pe_ifExp _ _ _ _ _ _ _ _ (pt_val (callD T.is_in_place G_is_in_place (hr.mono (by decide)) (@pa_cons _ _ _ _ _ (pv 0) (@pa_cons _ _ _ _ _ (pv 1) pa_nil (by rfl)) (by rfl)))) (@pe_tup _ _ _ _ _ (@pa_cons _ _ _ _ _ (@pe_op _ _ _ _ _ _ _ _ op_catT (pv 1) (@pe_tup _ _ _ _ _ (@pa_cons _ _ _ _ _ (@pe_tup _ _ _ _ _ (@pa_cons _ _ _ _ _ (@pe_ix _ _ _ _ _ _ _ ix_tup (pv 3) pe_int (fun _ _ => rfl)) (@pa_cons _ _ _ _ _ pe_int pa_nil (by rfl)) (by rfl))) pa_nil (by rfl)))) (@pa_cons _ _ _ _ _ pe_bl pa_nil (by rfl)) (by rfl))) (@pe_tup _ _ _ _ _ (@pa_cons _ _ _ _ _ (pv 1) (@pa_cons _ _ _ _ _ pe_bl pa_nil (by rfl)) (by rfl)))) pa_nil (by rfl))))) pss_nil) (@pss_one _ _ _ (@ps_ret _ _ _ _ (pe_comp (N' := ["way", "flows", "chain"]) (js := [none, some 0, some 1]) (by kernel_rfl) rfl (pi_range1 rfl T.b_range (@pa_cons _ _ _ _ _ (pe_callB call_len_seq (by rfl) T.b_len bt_len (@pa_cons _ _ _ _ _ (pe_meth (pv 0) T.cl_Flows.cl T.Flows_ways_at.m G_Flows_ways_at (hr.mono (by decide)) T.Flows_ways_at.b .nil pass0 (@pa_cons _ _ _ _ _ (@pe_ix _ _ _ _ _ _ _ ix_tup (pv 1) (pe_un un_neg pe_int) (fun _ _ => rfl)) pa_nil (by rfl))) pa_nil (by rfl))) pa_nil (by rfl))) own_name (fun _ _ _ _ => (pg_name (i := 0) (show (["way", "flows", "chain"] : List Str).Nodup by decide +kernel) rfl (Or.inl rfl) (.inr rfl))) (fun _ _ _ _ => pif_nil) (fun _ _ _ _ => (@pe_tup _ _ _ _ _ (@pa_cons _ _ _ _ _ (callD T.moved G_moved (hr.mono (by decide)) (@pa_cons _ _ _ _ _ (pv 1) (@pa_cons _ _ _ _ _ (pv 2) (@pa_cons _ _ _ _ _ (pv 0) pa_nil (by rfl)) (by rfl)) (by rfl))) (@pa_cons _ _ _ _ _ pe_bl pa_nil (by rfl)) (by rfl)))))))))), ?_⟩
    obtain ⟨fa, yr, h1, h2, h3⟩ := hC.cons
    obtain ⟨dx, fs, ob, lk1, lk2⟩ := hF.ob
    obtain ⟨f, w, hW⟩ := hG.hd
    obtain ⟨rest', hr1, hr2⟩ := (hF.1.all f hW.mem).rk w (List.mem_of_getElem? hW.rw_)
    have ln : (yr.reverse ++ [V.ref fa]).length = rest.length + 1 := by rw [List.length_append, List.length_reverse, (Paired.length h3).symm]; rfl
    refine ⟨_, rfl, x, dx, _, rfl, ob, lk1, _, rfl, _, rfl, ca, _, _, _, rfl, rfl, h1, atI_last _ _, x, fa, fns, p, f, w, rfl, hF, h2, hW, ?_⟩
    have nd := hF.1.nd
    have t4 : (4 : Nat) ≤ sizeLine := by decide
    have hlen := hG.len
    refine ⟨_, rfl, w.r, _, _, _, rfl, rfl, hr1, at0, rfl, _, rfl, ?_⟩
    by_cases hb : w.k = "back"
    · refine iteP (decide_eq_true (by rw [hb])) ⟨_, rfl, ca, _, rfl, .inr h1, _, _, rfl, rfl, _, rfl, ?_⟩
      have en := nxt_back (rest := rest) (wt := wt) nd hW hb
      cases rest with
      | nil =>
        refine iteN (by rw [decide_eq_true_eq, ln]; decide) ⟨le0, fun l hl => q l _ [] (Same.new hl) hl upd_same ?_⟩
        rw [en]
        rfl
      | cons q1 r1 =>
        refine iteP (by rw [decide_eq_true_eq, ln, List.length_cons]; omega) ?_
        obtain ⟨f1, w1, hW1, hk1⟩ := hG.tl q1 List.mem_cons_self
        refine ⟨_, rfl, _, rfl, _, rfl, _, rfl, rSlA_of h1 fun qA HA sA hqA => ?_⟩
        rw [cut_last] at hqA
        rw [List.length_cons] at hlen
        refine ⟨x, qA, fns, q1, r1, f1, w1, rfl, hF.mono sA, ⟨yr, hqA, frs_mono h3 sA⟩, hW1, by rw [hk1]; exact ne_bc.1, by omega, fun ca' H' s' hch => ?_⟩
        refine ⟨le2, fun b hb' => ⟨le1, fun l hl => ?_⟩⟩
        have sl : Same H _ := ((sA.trans s').trans (Same.new (o := .tup [.ref ca', .bl false]) hb')).trans (Same.new (o := .lst [.ref b]) hl)
        have hl0 : H l = none := ((sA.trans s').trans (Same.new (o := .tup [.ref ca', .bl false]) hb')).free hl
        refine q l _ [b] sl hl0 upd_same ?_
        rw [en]
        exact ⟨b, rfl, ca', (Same.new hl).tup (SqT.of upd_same), hch.ts (.of ((Same.new hb').trans (Same.new hl)))⟩
    · refine iteN (fun z => hb (V.str.inj (of_decide_eq_true z))) ⟨_, rfl, w.r, _, _, _, rfl, rfl, hr1, at0, rfl, _, rfl, ?_⟩
      by_cases hc : w.k = "call" ∧ wt = false
      · obtain ⟨hk, rfl⟩ := hc
        refine iteP (decide_eq_true (by rw [hk])) ⟨_, rfl, _, rfl, iteP rfl ?_⟩
        obtain ⟨xx, yy, rfl⟩ := hr2 hk
        have ok : PyData.strOk w.c = true := by
          rcases hF.2.kd f hW.mem w (List.mem_of_getElem? hW.rw_) with z | z | z
          · rw [hk] at z; exact absurd z (by decide +kernel)
          · rw [hk] at z; exact absurd z ne_bc.1
          · exact z.2.1
        refine ⟨_, rfl, _, rfl, x, ca, fns, p, rest, f, w, rfl, hF, hC, hW, hk, by omega, fun H1 s1 => ⟨_, rfl, ?_⟩⟩
        by_cases hi : inPl fns p.1.1 w.c rest.length = true
        · refine iteP hi ⟨_, rfl, _, rfl, w.r, _, _, _, rfl, rfl, s1.tup hr1, rfl, le2, fun p1 hp1 => ⟨le1, fun p2 hp2 => ?_⟩⟩
          have s2 := (Same.new (o := .tup [.str w.c, .int 0]) hp1).trans (Same.new (o := .tup [.ref p1]) hp2)
          refine ⟨ca, p2, _, _, rfl, rfl, (s1.trans s2).tup h1, SqT.of upd_same, by simp, by rw [ln]; show rest.length + 1 + 1 ≤ sizeLine; omega, fun z => absurd z (by simp), fun _ p3 hp3 => ?_⟩
          refine ⟨le2, fun b hb' => ⟨le1, fun l hl => ?_⟩⟩
          have s3 := (Same.new (o := .tup (yr.reverse ++ [.ref fa] ++ [.ref p1])) hp3).trans ((Same.new (o := .tup [.ref p3, .bl false]) hb').trans (Same.new (o := .lst [.ref b]) hl))
          have hl0 : H l = none := ((s1.trans s2).trans ((Same.new (o := .tup (yr.reverse ++ [.ref fa] ++ [.ref p1])) hp3).trans (Same.new (o := .tup [.ref p3, .bl false]) hb'))).free hl
          refine q l _ [b] ((s1.trans s2).trans s3) hl0 upd_same ?_
          rw [nxt_in nd hW hk hi]
          have e : (toSN w.c).1 = w.c := by unfold toSN; rw [dif_pos ok]
          refine ⟨b, rfl, p3, (Same.new hl).tup (SqT.of upd_same), ?_⟩
          refine ChA.mk (fa := p1) (yr := .ref fa :: yr) ?_ ?_ (.cons ⟨fa, rfl, ((s1.trans s2).trans s3).tup h2⟩ (frs_mono h3 ((s1.trans s2).trans s3)))
          · rw [List.reverse_cons]
            exact ((Same.new hb').trans (Same.new hl)).tup (SqT.of upd_same)
          · rw [e]
            exact (((Same.new hp2).trans s3)).tup (SqT.of upd_same)
        · refine iteN hi ⟨_, rfl, le2, fun b hb' => ⟨le1, fun l hl => ?_⟩⟩
          have s2 := (Same.new (o := .tup [.ref ca, .bl true]) hb').trans (Same.new (o := .lst [.ref b]) hl)
          refine q l _ [b] (s1.trans s2) ((s1.trans (Same.new (o := .tup [.ref ca, .bl true]) hb')).free hl) upd_same ?_
          rw [nxt_wait nd hW hk hi]
          exact ⟨b, rfl, ca, (Same.new hl).tup (SqT.of upd_same), hC.ts (.of (s1.trans s2))⟩
      · by_cases hk : w.k = "call"
        · have hwt : wt = true := by cases wt with | true => rfl | false => exact absurd ⟨hk, rfl⟩ hc
          subst hwt
          refine iteP (decide_eq_true (by rw [hk])) ⟨_, rfl, _, rfl, iteN (by simp) ?_⟩
          refine ⟨_, rfl, x, dx, _, rfl, ob, lk2, _, rfl, _, rfl, ca, _, _, _, rfl, rfl, h1, atI_last _ _, x, fa, fns, p, f, w, rfl, hF, h2, hW, hb, fun qq hq => ⟨qq, _, rfl, .inr (SqT.of hq), _, rfl, (by show (-2 ^ 62 : Int) ≤ ((1 : Nat) : Int); decide), (by show ((1 : Nat) : Int) < 2 ^ 62; decide), fun l hl => comp_range (lo := 0) (n := 1) (by decide) (fun i acc H2 => Same H H2 ∧ H2 l = some (.lst acc) ∧ acc.length = i ∧ (i = 1 → ∃ b, acc = [.ref b] ∧ StA K H2 b ((p.1, p.2 + 1) :: rest, false))) ⟨Same.new hl, upd_same, rfl, fun z => by cases z⟩ ?_ ?_ ?_⟩⟩
          · rintro i acc H2 hi ⟨s2, e2, e3, _⟩
            exact ⟨e2, by omega⟩
          · rintro i acc H2 hi ⟨s2, e2, e3, _⟩
            obtain rfl : i = 0 := by omega
            obtain rfl : acc = [] := List.length_eq_zero_iff.mp e3
            refine ⟨_, rfl, _, rfl, _, rfl, x, ca, fns, p, rest, f, w, rfl, hF.mono s2, hC.ts (.of s2), hW, hb, by omega, fun ca' H' s' hch => ⟨le2, fun b hb' => ?_⟩⟩
            have s3 := s'.trans (Same.new (o := .tup [.ref ca', .bl false]) hb')
            refine ⟨s3 _ _ e2, (s2.trans s3).upd hl, upd_same, rfl, fun _ => ⟨b, rfl, ca', ?_, ?_⟩⟩
            · exact (TS.lst (s3 _ _ e2)).tup (SqT.of upd_same)
            · exact (hch.ts (.of (Same.new hb'))).ts (TS.lst (s3 _ _ e2))
          · rintro acc H2 ⟨s2, e2, e3, e4⟩
            obtain ⟨b, rfl, hb'⟩ := e4 rfl
            refine q l H2 [b] s2 hl e2 ?_
            rw [nxt_on nd hW hb hc]
            exact ⟨b, rfl, hb'⟩
        · refine iteN (fun z => hk (V.str.inj (of_decide_eq_true z))) (iteN (by simp) ?_)
          refine ⟨_, rfl, x, dx, _, rfl, ob, lk2, _, rfl, _, rfl, ca, _, _, _, rfl, rfl, h1, atI_last _ _, x, fa, fns, p, f, w, rfl, hF, h2, hW, hb, fun qq hq => ⟨qq, _, rfl, .inr (SqT.of hq), _, rfl, (by show (-2 ^ 62 : Int) ≤ ((1 : Nat) : Int); decide), (by show ((1 : Nat) : Int) < 2 ^ 62; decide), fun l hl => comp_range (lo := 0) (n := 1) (by decide) (fun i acc H2 => Same H H2 ∧ H2 l = some (.lst acc) ∧ acc.length = i ∧ (i = 1 → ∃ b, acc = [.ref b] ∧ StA K H2 b ((p.1, p.2 + 1) :: rest, false))) ⟨Same.new hl, upd_same, rfl, fun z => by cases z⟩ ?_ ?_ ?_⟩⟩
          · rintro i acc H2 hi ⟨s2, e2, e3, _⟩
            exact ⟨e2, by omega⟩
          · rintro i acc H2 hi ⟨s2, e2, e3, _⟩
            obtain rfl : i = 0 := by omega
            obtain rfl : acc = [] := List.length_eq_zero_iff.mp e3
            refine ⟨_, rfl, _, rfl, _, rfl, x, ca, fns, p, rest, f, w, rfl, hF.mono s2, hC.ts (.of s2), hW, hb, by omega, fun ca' H' s' hch => ⟨le2, fun b hb' => ?_⟩⟩
            have s3 := s'.trans (Same.new (o := .tup [.ref ca', .bl false]) hb')
            refine ⟨s3 _ _ e2, (s2.trans s3).upd hl, upd_same, rfl, fun _ => ⟨b, rfl, ca', ?_, ?_⟩⟩
            · exact (TS.lst (s3 _ _ e2)).tup (SqT.of upd_same)
            · exact (hch.ts (.of (Same.new hb'))).ts (TS.lst (s3 _ _ e2))
          · rintro acc H2 ⟨s2, e2, e3, e4⟩
            obtain ⟨b, rfl, hb'⟩ := e4 rfl
            refine q l H2 [b] s2 hl e2 ?_
            rw [nxt_on nd hW hb hc]
            exact ⟨b, rfl, hb'⟩
end
end K55

set_option Elab.async false
set_option linter.all false
set_option maxRecDepth 100000
set_option maxHeartbeats 4000000
namespace K55
open PySem L2 Gx Fl
section
variable {P : Program} {w : World} {K : PySem.W.Frag} {mg : Str → Option Value} {base : Heap} {t : Adr}
local macro_rules | `(tactic| walk_at "rd1") => `(tactic| first
  | refine ⟨_, rfl, ?_⟩
  | refine ⟨_, _, rfl, rfl, ?_⟩
  | refine ⟨rfl, ?_⟩
  | refine ⟨(show (0 : Int) < _ by decide), ?_⟩
  | refine ⟨⟨by decide, by decide⟩, ?_⟩
  | refine ⟨.inl ⟨by decide, by decide⟩, ?_⟩
  | refine ⟨.inr ⟨by decide, by decide⟩, ?_⟩
  | refine ⟨⟨by decide, by decide, by decide⟩, ?_⟩)
local macro_rules | `(tactic| walk_at "rd") => `(tactic| repeat walk_at "rd1")
theorem sc_plan_in : FnScope ["flows", "name", "stops", "numbers", "stations", "chain", "wait", "ways", "stop"] ["flows", "name"] (defScope s_plan_in) := ⟨rfl, rfl, rfl, by decide +kernel, rfl, by decide +kernel, by decide +kernel⟩
theorem ok_plan_in (T : Txt K mg t) : FnOk P w K mg base (CXe P w) 5 t.a_plan_in t.d_plan_in ["flows", "name"] (sp_plan_in K t) := by
  have G_stops_behind : FnOk P w K mg base CX0 3 t.a_stops_behind t.d_stops_behind ["flows", "chain", "wait"] (sp_stops_behind K t) := ok_stops_behind T
  have G_TooLong_init : FnOk P w K mg base CX0 1 t.a_TooLong_init t.d_TooLong_init ["self", "function"] (sp_TooLong_init t) := ok_TooLong_init T
  refine T.plan_in.F.okE sc_plan_in (fun vs H Q E h => ?_) (fun cdv A outer s H vs Q E hr h => ?_)
  · obtain ⟨x, fns, g, N, ss, rfl, hF, hW, hQ, hE⟩ := h
    rfl
  · obtain ⟨x, fns, g, N, ss, rfl, hF, hW, hQ, hE⟩ := h
    refine ⟨_, (@pss_cons _ _ _ _ _ (@ps_set _ _ 2 _ _ _ _ sc_plan_in.nd rfl (Or.inl rfl) (@pe_lst _ _ _ _ (@pa_cons _ _ _ _ _ (@pe_tup _ _ _ _ _ (@pa_cons _ _ _ _ _ (@pe_tup _ _ _ _ _ (@pa_cons _ _ _ _ _ (@pe_tup _ _ _ _ _ (@pa_cons _ _ _ _ _ (pv 1) (@pa_cons _ _ _ _ _ pe_int pa_nil (by rfl)) (by rfl))) pa_nil (by rfl))) (@pa_cons _ _ _ _ _ pe_bl pa_nil (by rfl)) (by rfl))) pa_nil (by rfl))) (by rfl) (by first | exact .inl rfl | exact .inr rfl | assumption)) (@pss_cons _ _ _ _ _ (@ps_set _ _ 3 _ _ _ _ sc_plan_in.nd rfl (Or.inl rfl) (pe_sdisp stDK hr.units (@pe_ix _ _ _ _ _ _ _ ix_list (pv 2) pe_int (fun _ _ => rfl)) pe_int) (by rfl) (by first | exact .inl rfl | exact .inr rfl | assumption)) (@pss_cons _ _ _ _ _ (@ps_set _ _ 4 _ _ _ _ sc_plan_in.nd rfl (Or.inl rfl) (@pe_lst _ _ _ _ pa_nil) (by rfl) (by first | exact .inl rfl | exact .inr rfl | assumption)) (@pss_cons _ _ _ _ _ (ps_while pass_own (@pt_cmpR _ _ _ _ _ _ _ _ op_lt (pe_callB call_len_seq (by rfl) T.b_len bt_len (@pa_cons _ _ _ _ _ (pv 4) pa_nil (by rfl))) (pe_callB call_len_seq (by rfl) T.b_len bt_len (@pa_cons _ _ _ _ _ (pv 2) pa_nil (by rfl))) (nomark _)) (@pss_cons _ _ _ _ _ (ps_asg (@pe_ix _ _ _ _ _ _ _ ix_list (pv 2) (pe_callB call_len_seq (by rfl) T.b_len bt_len (@pa_cons _ _ _ _ _ (pv 4) pa_nil (by rfl))) (fun _ _ => rfl)) (pg_tup rfl (pgs_cons (pg_name (i := 5) sc_plan_in.nd rfl (Or.inl rfl)) (pgs_cons (pg_name (i := 6) sc_plan_in.nd rfl (Or.inl rfl)) pgs_nil)))) (@pss_cons _ _ _ _ _ (@ps_set _ _ 7 _ _ _ _ sc_plan_in.nd rfl (Or.inl rfl) (@pe_lst _ _ _ _ pa_nil) (by rfl) (by first | exact .inl rfl | exact .inr rfl | assumption)) (@pss_cons _ _ _ _ _ (ps_for pass_own rfl (pi_list (callD T.stops_behind G_stops_behind (hr.mono (by decide)) (@pa_cons _ _ _ _ _ (pv 0) (@pa_cons _ _ _ _ _ (pv 5) (@pa_cons _ _ _ _ _ (pv 6) pa_nil (by rfl)) (by rfl)) (by rfl)))) (pg_name (i := 8) sc_plan_in.nd rfl (Or.inl rfl)) (@pss_cons _ _ _ _ _ (@ps_if _ _ _ _ _ _ _ _ (@pt_cmpR _ _ _ _ _ _ _ _ (op_notInS stDK hr.units) (pv 8) (pv 3) (by with_unfolding_all rfl)) (@pss_cons _ _ _ _ _ (@ps_if _ _ _ _ _ _ _ _ (@pt_cmpR _ _ _ _ _ _ _ _ op_eq (pe_callB call_len_seq (by rfl) T.b_len bt_len (@pa_cons _ _ _ _ _ (pv 2) pa_nil (by rfl))) (pe_gint T.c_MOST_STATIONS) (nomark _)) (@pss_one _ _ _ (raiseD T.x_TooLong T.TooLong_init G_TooLong_init (hr.mono (by decide)) rfl throws_e (@pa_cons _ _ _ _ _ (pv 1) pa_nil (by rfl)))) pss_nil) (@pss_cons _ _ _ _ _ (ps_sput stDK hr.units (pv 3) (pv 8) (pe_callB call_len_seq (by rfl) T.b_len bt_len (@pa_cons _ _ _ _ _ (pv 2) pa_nil (by rfl))) (by rfl)) (@pss_one _ _ _ (@ps_expr _ _ _ _ (pe_bm PySem.F.plainAttrs_list PySem.F.slot_list_append PySem.F.type_list_append mt_append (pv 2) (@pa_cons _ _ _ _ _ (pv 8) pa_nil (by rfl))) (by rfl))))) pss_nil) (@pss_one _ _ _ (@ps_expr _ _ _ _ (pe_bm PySem.F.plainAttrs_list PySem.F.slot_list_append PySem.F.type_list_append mt_append (pv 7) (@pa_cons _ _ _ _ _ (pe_sget stDK hr.units (pv 3) (pv 8) (fun _ _ => rfl)) pa_nil (by rfl))) (by rfl))))) (@pss_one _ _ _ (@ps_expr _ _ _ _ (pe_bm PySem.F.plainAttrs_list PySem.F.slot_list_append PySem.F.type_list_append mt_append (pv 4) (@pa_cons _ _ _ _ _ (@pe_tup _ _ _ _ _ (@pa_cons _ _ _ _ _ (pv 5) (@pa_cons _ _ _ _ _ (pv 6) (@pa_cons _ _ _ _ _ (pe_callTy call_tuple_of (by rfl) T.b_tuple bt_tuple (@pa_cons _ _ _ _ _ (pv 7) pa_nil (by rfl))) pa_nil (by rfl)) (by rfl)) (by rfl))) pa_nil (by rfl))) (by rfl))))))) (@pss_one _ _ _ (@ps_ret _ _ _ _ (pv 4))))))), ?_⟩
    refine ⟨_, rfl, le2, fun a1 ha1 => ⟨le1, fun a2 ha2 => ⟨le2, fun a3 ha3 => ⟨le1, fun l1 hl1 => ?_⟩⟩⟩⟩
    intro nd hnd
    have S3 := ((Same.new (o := .tup [.str g.1, .int 0]) ha1).trans (Same.new (o := .tup [.ref a1]) ha2)).trans (Same.new (o := .tup [.ref a2, .bl false]) ha3)
    have n1 := S3.free hl1
    have S4 := S3.trans (Same.new (o := .lst [.ref a3]) hl1)
    have n2 := S4.free hnd
    have A4 : StA K _ a3 ([(g, 0)], false) := st0 (((Same.new (o := .tup [.ref a1]) ha2).trans ((Same.new (o := .tup [.ref a2, .bl false]) ha3).trans (Same.new (o := .lst [.ref a3]) hl1))).tup (SqT.of upd_same)) (((Same.new (o := .tup [.ref a2, .bl false]) ha3).trans (Same.new (o := .lst [.ref a3]) hl1)).tup (SqT.of upd_same)) ((Same.new (o := .lst [.ref a3]) hl1).tup (SqT.of upd_same))
    have A5 := A4.ts (.of (Same.new (o := SD stDK P w nd []) hnd))
    have hl1' := Same.new (o := SD stDK P w nd []) hnd _ _ (upd_same (o := .lst [.ref a3]))
    refine ⟨_, rfl, l1, _, _, _, rfl, rfl, SqL.of hl1', at0, a3, ([(g, 0)], false), .int 0, rfl, upd_same, A5.dat, ?_⟩
    refine ⟨le0, fun l2 hl2 => ?_⟩
    have pos := hW.pos
    obtain ⟨L0, n12, n22⟩ := LS.ini hW.st (S4.trans (Same.new hnd)) n2 hl1' upd_same A5 hl2
    refine while_by (fun σ Hc => ∃ i ys bs v5 v6 v7 v8, i ≤ N ∧ σ = [some (.ref x), some (.str g.1), some (.ref l1), some (.ref nd), some (.ref l2), v5, v6, v7, v8] ∧ LS K P w H Hc l1 nd l2 ss i (min (i + 1) N) ys bs ∧ (200 < N → i < 200)) (fun _ Hc => match Hc l2 with | some (.lst xs) => N - xs.length | _ => 0) ⟨0, [], [a3], _, _, _, _, Nat.zero_le _, rfl, L0.cast (by omega), fun _ => by omega⟩ ?_ ?_
    · rintro σ Hc ⟨i, ys, bs, v5, v6, v7, v8, hi, rfl, hL, hJ⟩
      have hm : bs.length = min (i + 1) N := hL.lb
      have hy := hL.li
      refine ⟨_, rfl, l2, _, rfl, .inl (SqL.of hL.e2), _, rfl, l1, _, rfl, .inl (SqL.of hL.e1), _, _, rfl, rfl, _, rfl, ?_⟩
      by_cases c : i < N
      · refine iteP (by rw [decide_eq_true_eq, List.length_map, hm, hy]; omega) ?_
        have i200 : i ≤ 200 := by omega
        have eb : bs[i]? = some (bs[i]'(by omega)) := List.getElem?_eq_getElem (by omega)
        generalize bs[i]'(by omega) = b at eb
        obtain ⟨ca, hb1, hb2⟩ := hL.st i b eb
        obtain ⟨p, rest, ep, hG⟩ := hW.good i c
        have es : nxt fns (p :: rest, (ss i).2) = nxt fns (ss i) := by rw [← ep]
        refine ⟨_, rfl, _, rfl, l2, _, rfl, .inl (SqL.of hL.e2), l1, _, _, _, rfl, rfl, SqL.of hL.e1, (show atI (bs.map V.ref) ((ys.length : Nat) : Int) = some (.ref b) by rw [hy]; exact atI_nat (by rw [List.getElem?_map, eb]; rfl)), ?_⟩
        refine ⟨b, _, rfl, hb1, rfl, ?_⟩
        refine ⟨_, _, rfl, _, _, rfl, rfl, le0, fun l3 hl3 => ?_⟩
        have L3 := hL.mono (Same.new (o := .lst []) hl3)
        have n33 := hL.same.free hl3
        have n13 : l1 ≠ l3 := ne_of_none hL.e1 hl3
        have n23 : l2 ≠ l3 := ne_of_none hL.e2 hl3
        refine ⟨_, rfl, _, rfl, _, rfl, x, ca, fns, p, rest, (ss i).2, rfl, hF.mono L3.same, by rw [← ep]; exact hb2.ts (.of (Same.new hl3)), hG, fun l4 H4 bs4 s4 hl4 e4 hT => ?_⟩
        rw [es] at hT
        have L4 := L3.mono s4
        by_cases c2 : i + 1 < N
        · rw [hW.step i c2] at hT
          obtain ⟨b', rfl, hb'⟩ := hT
          have n14 : l1 ≠ l4 := ne_of_none L3.e1 hl4
          have n34 : l3 ≠ l4 := ne_of_none (o := .lst []) upd_same hl4
          have nN4 : nd ≠ l4 := ne_of_none L3.eN hl4
          refine ⟨l4, rfl, ⟨_, SqL.of e4⟩, for_list (xs := [V.ref b']) (fun k σ H5 => H5 l4 = some (.lst [.ref b']) ∧ ∃ bs5 v8 zs, σ = [some (.ref x), some (.str g.1), some (.ref l1), some (.ref nd), some (.ref l2), some (.ref ca), some (.bl (ss i).2), some (.ref l3), v8] ∧ H5 l3 = some (.lst zs) ∧ zs.length ≤ k ∧ StA K H5 b' (ss (i + 1)) ∧ LS K P w H H5 l1 nd l2 ss i (if k = 0 then i + 1 else i + 2) ys bs5 ∧ (k = 1 → i + 1 ≠ 200)) ⟨e4, bs, _, [], rfl, s4 _ _ upd_same, Nat.le_refl _, hb', L4.cast (by rw [if_pos rfl]; omega), fun z => by cases z⟩ (fun k σ H5 _ h => SqL.of h.1) ?_ ?_⟩
          · rintro k xv σ H5 hx ⟨e4, bs5, v8, zs, rfl, e3, hz, hb', hL5, _⟩
            obtain ⟨rfl, rfl⟩ : k = 0 ∧ xv = V.ref b' := by
              cases k with
              | zero => exact ⟨rfl, (Option.some.inj hx).symm⟩
              | succ k => cases hx
            rw [if_pos rfl] at hL5
            have lm : (bs5.map V.ref).length = i + 1 := by rw [List.length_map, hL5.lb]
            have nin : ss (i + 1) ∉ (kvsOf ss bs5).map (·.1) := fun z => by
              obtain ⟨j, hj, e⟩ := kvs_mem z
              rw [hL5.lb] at hj
              exact hW.inj (i := j) (j := i + 1) hj c2 e
            refine ⟨_, rfl, _, rfl, nd, b', _, ss (i + 1), rfl, rfl, hL5.eN, hL5.ks, hb'.dat, _, rfl, iteP (by rw [Bool.not_eq_true', decide_eq_false_iff_not]; exact nin) ?_⟩
            refine ⟨_, rfl, l1, _, rfl, .inl (SqL.of hL5.e1), rfl, _, rfl, ?_⟩
            by_cases c3 : i + 1 = 200
            · refine iteP (decide_eq_true (by rw [lm, c3]; rfl)) ⟨_, rfl, fun xo hxo => ⟨xo, _, rfl, upd_same, fun dx hdx => ⟨rfl, some dx, upd_same, ?_⟩⟩⟩
              obtain ⟨ne, hdx'⟩ := xnew hxo hdx
              rw [xers hxo ne]
              exact hE (by omega) dx _ (hL5.same.trans (Same.new hdx')) upd_same
            · have lk : (kvsOf ss bs5).length = i + 1 := by unfold kvsOf; rw [List.length_mapIdx, hL5.lb]
              refine iteN (fun z => c3 (by have := V.int.inj (of_decide_eq_true z); rw [lm] at this; omega)) ⟨_, rfl, l1, _, rfl, .inl (SqL.of hL5.e1), _, rfl, _, rfl, nd, b', _, ss (i + 1), rfl, rfl, hL5.eN, hL5.ks, hb'.dat, nin, small1000 (by omega), ?_⟩
              rw [lm]
              have hL7 := hL5.push n1 n2 n12 hb'
              have e1' : upd H5 nd (SD stDK P w nd (kvsOf ss bs5 ++ [(ss (i + 1), b', V.int ((i + 1 : Nat) : Int))])) l1 = some (.lst (bs5.map V.ref)) := by rw [upd_ne hL5.ne1]; exact hL5.e1
              refine ⟨_, rfl, .inl ⟨rfl, _, SqL.of e1'⟩, _, rfl, l1, _, _, rfl, rfl, e1', small1000 (by omega), ?_⟩
              have n3N : l3 ≠ nd := ne_of e3 hL5.eN (by unfold SD; intro z; cases z)
              have e3' : upd (upd H5 nd (SD stDK P w nd (kvsOf ss bs5 ++ [(ss (i + 1), b', V.int ((i + 1 : Nat) : Int))]))) l1 (.lst (bs5.map V.ref ++ [.ref b'])) l3 = some (.lst zs) := by rw [upd_ne (Ne.symm n13), upd_ne n3N]; exact e3
              have hb7 := hb'.ts ((TS.ext (o := SD stDK P w nd (kvsOf ss bs5 ++ [(ss (i + 1), b', V.int ((i + 1 : Nat) : Int))])) hL5.eN).trans (TS.lst (o := .lst (bs5.map V.ref ++ [.ref b'])) e1'))
              refine ⟨_, rfl, .inl ⟨rfl, _, SqL.of e3'⟩, _, rfl, _, rfl, nd, b', _, ss (i + 1), b', .int ((i + 1 : Nat) : Int), rfl, rfl, hL7.eN, hL7.ks, hb7.dat, by rw [kvs_snoc, hL5.lb]; simp, l3, _, _, rfl, rfl, e3', small1000 (by omega), ?_⟩
              refine ⟨by rw [upd_ne (Ne.symm n34), upd_ne (Ne.symm n14), upd_ne (Ne.symm nN4)]; exact e4, bs5 ++ [b'], _, zs ++ [_], rfl, upd_same, by rw [List.length_append]; show zs.length + 1 ≤ 0 + 1; omega, hb7.ts (TS.lst e3'), (hL7.other e3' n33 n13 n23).cast (by rw [if_neg (by simp)]), fun _ => c3⟩
          · rintro σ H5 ⟨_, bs5, v8, zs, rfl, e3, hz, hb', hL5, hc3⟩
            have c3 := hc3 rfl
            rw [if_neg (by simp)] at hL5
            refine ⟨_, rfl, .inl ⟨rfl, _, SqL.of hL5.e2⟩, _, rfl, _, rfl, _, rfl, l3, _, rfl, .inl ⟨SqL.of e3, fun tp htp => ⟨le3, fun tq htq => ?_⟩⟩⟩
            have L6 := hL5.mono ((Same.new (o := .tup zs) htp).trans (Same.new (o := .tup [.ref ca, .bl (ss i).2, .ref tp]) htq))
            refine ⟨l2, _, _, rfl, rfl, L6.e2, small1000 (by omega), ⟨i + 1, _, _, _, _, _, _, c, rfl, (L6.more n22 n12 (.ref tq)).cast (by omega), fun _ => by omega⟩, ?_⟩
            rw [upd_same, hL.e2]
            show N - (ys ++ [V.ref tq]).length < N - ys.length
            rw [List.length_append, hy]
            show N - (i + 1) < N - i
            omega
        · have hN : i = N - 1 := by omega
          rw [hN, hW.fin] at hT
          obtain rfl : bs4 = [] := hT
          refine ⟨l4, rfl, ⟨_, SqL.of e4⟩, for_list (xs := []) (fun k σ H5 => σ = [some (.ref x), some (.str g.1), some (.ref l1), some (.ref nd), some (.ref l2), some (.ref ca), some (.bl (ss i).2), some (.ref l3), v8] ∧ H5 = H4) ⟨rfl, rfl⟩ (fun k σ H5 _ h => by rw [h.2]; exact SqL.of e4) (fun k xv σ H5 hx => by cases hx) ?_⟩
          rintro σ H5 ⟨rfl, rfl⟩
          have hL5 := L4
          have e3 : H5 l3 = some (.lst []) := s4 _ _ upd_same
          refine ⟨_, rfl, .inl ⟨rfl, _, SqL.of hL5.e2⟩, _, rfl, _, rfl, _, rfl, l3, _, rfl, .inl ⟨SqL.of e3, fun tp htp => ⟨le3, fun tq htq => ?_⟩⟩⟩
          have L6 := hL5.mono ((Same.new (o := .tup []) htp).trans (Same.new (o := .tup [.ref ca, .bl (ss i).2, .ref tp]) htq))
          refine ⟨l2, _, _, rfl, rfl, L6.e2, small1000 (by omega), ⟨i + 1, _, _, _, _, _, _, c, rfl, (L6.more n22 n12 (.ref tq)).cast (by omega), fun _ => by omega⟩, ?_⟩
          rw [upd_same, hL.e2]
          show N - (ys ++ [V.ref tq]).length < N - ys.length
          rw [List.length_append, hy]
          show N - (i + 1) < N - i
          omega
      · have hiN : i = N := by omega
        refine iteN (by rw [decide_eq_true_eq, List.length_map, hm, hy]; omega) ?_
        exact ⟨_, rfl, hQ (by omega) l2 Hc ys hL.same hL.e2 (by omega)⟩
    · rintro σ Hc Q1 Q2 hh ⟨v, e1, p1, xs1, e2, e3, v', e1', p2, xs2, e2', e3', a, b, ea, eb, k, ek, z⟩
      exact ⟨v, e1, p1, xs1, e2, e3, v', e1', p2, xs2, e2', e3', a, b, ea, eb, k, ek, hh _ _ z⟩
end
end K55

set_option Elab.async false
set_option linter.all false
set_option maxRecDepth 100000
set_option maxHeartbeats 4000000
namespace K55
open PySem L2 Gx Fl
section
variable {P : Program} {w : World} {K : PySem.W.Frag} {mg : Str → Option Value} {base : Heap} {t : Adr}
local macro_rules | `(tactic| walk_at "rd1") => `(tactic| first
  | refine ⟨_, rfl, ?_⟩
  | refine ⟨_, _, rfl, rfl, ?_⟩
  | refine ⟨rfl, ?_⟩
  | refine ⟨(show (0 : Int) < _ by decide), ?_⟩
  | refine ⟨⟨by decide, by decide⟩, ?_⟩
  | refine ⟨.inl ⟨by decide, by decide⟩, ?_⟩
  | refine ⟨.inr ⟨by decide, by decide⟩, ?_⟩
  | refine ⟨⟨by decide, by decide, by decide⟩, ?_⟩)
local macro_rules | `(tactic| walk_at "rd") => `(tactic| repeat walk_at "rd1")
theorem sc_plan : FnScope ["program", "name"] ["program", "name"] (defScope s_plan) := ⟨rfl, rfl, rfl, by decide +kernel, rfl, by decide +kernel, by decide +kernel⟩
theorem ok_plan (T : Txt K mg t) : FnOk P w K mg base (CXe P w) 7 t.a_plan t.d_plan ["program", "name"] (sp_plan K t) := by
  have G_plan_in : FnOk P w K mg base (CXe P w) 5 t.a_plan_in t.d_plan_in ["flows", "name"] (sp_plan_in K t) := ok_plan_in T
  have G_Flows_init : FnOk P w K mg base CX0 4 t.a_Flows_init t.d_Flows_init ["self", "program"] (sp_Flows_init K t) := ok_Flows_init T
  refine T.plan.F.okE sc_plan (fun vs H Q E h => ?_) (fun cdv A outer s H vs Q E hr h => ?_)
  · obtain ⟨p, fns, g, N, ss, rfl, hP, hW, hQ⟩ := h
    rfl
  · obtain ⟨p, fns, g, N, ss, rfl, hP, hW, hQ⟩ := h
    refine ⟨_, (@pss_cons _ _ _ _ _ (@ps_ret _ _ _ _ (callX T.plan_in G_plan_in (hr.mono (by decide)) pass_e (@pa_cons _ _ _ _ _ (makeD T.cl_Flows T.Flows_init G_Flows_init (hr.mono (by decide)) (@pa_cons _ _ _ _ _ (pv 0) pa_nil (by rfl))) (@pa_cons _ _ _ _ _ (pv 1) pa_nil (by rfl)) (by rfl)))) pss_nil), ?_⟩
    refine ⟨_, rfl, fun x dx nx ndx nex => ?_⟩
    have s0 : Same H (upd (upd H dx (.own x)) x (.ins t.c_Flows dx [])) := fun b o e => by
      rw [upd_ne (ne_of_none e nx), upd_ne (ne_of_none e ndx)]
      exact e
    have s1' : Same H (ers x (upd (upd H dx (.own x)) x (.ins t.c_Flows dx []))) := fun b o e => by
      rw [ers_upd, ers_ne (ne_of_none e nx), upd_ne (ne_of_none e ndx)]
      exact e
    refine ⟨x, dx, p, fns, rfl, upd_same, s1'.seq hP.sq, hP.ne, hP.len, fun f hf => (hP.all f hf).mono s1', hP.nd, fun H1 s1 hF => ⟨rfl, ?_⟩⟩
    have s01 : Same H H1 := fun b o e => s1 b o (by rw [ers_ne (ne_of_none e nx)]; exact s0 b o e)
    exact ⟨_, rfl, x, fns, g, N, ss, rfl, ⟨hF, hP.sf⟩, hW, fun h l H2 xs s2 => hQ.1 h l H2 xs (s01.trans s2), fun h d H2 s2 => hQ.2 h d H2 (s01.trans s2)⟩
end
end K55

set_option Elab.async false
set_option linter.all false
set_option maxRecDepth 100000
set_option maxHeartbeats 4000000
namespace K55
open PySem L2 Gx Fl
section
variable {P : Program} {w : World} {K : PySem.W.Frag} {mg : Str → Option Value} {base : Heap} {t : Adr}
local macro_rules | `(tactic| walk_at "rd1") => `(tactic| first
  | refine ⟨_, rfl, ?_⟩
  | refine ⟨_, _, rfl, rfl, ?_⟩
  | refine ⟨rfl, ?_⟩
  | refine ⟨(show (0 : Int) < _ by decide), ?_⟩
  | refine ⟨⟨by decide, by decide⟩, ?_⟩
  | refine ⟨.inl ⟨by decide, by decide⟩, ?_⟩
  | refine ⟨.inr ⟨by decide, by decide⟩, ?_⟩
  | refine ⟨⟨by decide, by decide, by decide⟩, ?_⟩)
local macro_rules | `(tactic| walk_at "rd") => `(tactic| repeat walk_at "rd1")
theorem sc_l_cell_at : FnScope ["_law_script", "_law_k"] ["_law_script", "_law_k"] (defScope s_l_cell_at) := ⟨rfl, rfl, rfl, by decide +kernel, rfl, by decide +kernel, by decide +kernel⟩
theorem ok_l_cell_at (T : Txt K mg t) : FnOk P w K mg base CX0 1 t.a_l_cell_at t.d_l_cell_at ["_law_script", "_law_k"] (sp_l_cell_at K) := by
  refine T.l_cell_at.F.ok sc_l_cell_at (fun vs H Q E h => ?_) (fun cdv A outer s H vs Q E hr h => ?_)
  · obtain ⟨a, ns, k, rfl, hS, hl, h0, q⟩ := h
    rfl
  · obtain ⟨a, ns, k, rfl, hS, hl, h0, q⟩ := h
    refine ⟨_, (@pss_cons _ _ _ _ _ (@ps_if _ _ _ _ _ _ _ _ (@pt_cmpR _ _ _ _ _ _ _ _ op_lt (pv 1) (pe_callB call_len_seq (by rfl) T.b_len bt_len (@pa_cons _ _ _ _ _ (pv 0) pa_nil (by rfl))) (nomark _)) (@pss_one _ _ _ (@ps_ret _ _ _ _ (@pe_ix _ _ _ _ _ _ _ ix_list (pv 0) (pv 1) (fun _ _ => rfl)))) pss_nil) (@pss_one _ _ _ (@ps_ret _ _ _ _ pe_int))), ?_⟩
    have hlen : (ns.map V.int).length = ns.length := List.length_map _
    refine ⟨_, rfl, _, rfl, a, _, rfl, .inl hS, _, _, rfl, rfl, _, rfl, ?_⟩
    refine ite2 (fun c => ?_) (fun c => ?_)
    · have c := dec_true c
      rw [hlen] at c
      obtain ⟨z, hz⟩ := at_ints h0 c
      exact ⟨_, rfl, _, rfl, a, _, _, _, rfl, rfl, hS, hz, q _⟩
    · exact q _
end
end K55

set_option Elab.async false
set_option linter.all false
set_option maxRecDepth 100000
set_option maxHeartbeats 4000000
namespace K55
open PySem L2 Gx Fl
section
variable {P : Program} {w : World} {K : PySem.W.Frag} {mg : Str → Option Value} {base : Heap} {t : Adr}
local macro_rules | `(tactic| walk_at "rd1") => `(tactic| first
  | refine ⟨_, rfl, ?_⟩
  | refine ⟨_, _, rfl, rfl, ?_⟩
  | refine ⟨rfl, ?_⟩
  | refine ⟨(show (0 : Int) < _ by decide), ?_⟩
  | refine ⟨⟨by decide, by decide⟩, ?_⟩
  | refine ⟨.inl ⟨by decide, by decide⟩, ?_⟩
  | refine ⟨.inr ⟨by decide, by decide⟩, ?_⟩
  | refine ⟨⟨by decide, by decide, by decide⟩, ?_⟩)
local macro_rules | `(tactic| walk_at "rd") => `(tactic| repeat walk_at "rd1")
theorem sc_l_function : FnScope ["_law_name", "_law_folded", "_law_extra", "_law_calls", "_law_inner", "_law_rows", "_law_k"] ["_law_name", "_law_folded", "_law_extra", "_law_calls", "_law_inner"] (defScope s_l_function) := ⟨rfl, rfl, rfl, by decide +kernel, rfl, by decide +kernel, by decide +kernel⟩
theorem ok_l_function (T : Txt K mg t) : FnOk P w K mg base CX0 1 t.a_l_function t.d_l_function ["_law_name", "_law_folded", "_law_extra", "_law_calls", "_law_inner"] (sp_l_function K) := by
  refine T.l_function.F.ok sc_l_function (fun vs H Q E h => ?_) (fun cdv A outer s H vs Q E hr h => ?_)
  · obtain ⟨nm, fo, ex, ca, inner, rfl, he, hc, hn, hi, q⟩ := h
    rfl
  · obtain ⟨nm, fo, ex, ca, inner, rfl, he, hc, hn, hi, q⟩ := h
    refine ⟨_, (@pss_cons _ _ _ _ _ (ps_setc (i := 5) sc_l_function.nd rfl (Or.inl rfl) (N' := ["_law_k"]) (js := [none]) (by kernel_rfl) rfl (pi_range1 rfl T.b_range (@pa_cons _ _ _ _ _ (pv 2) pa_nil (by rfl))) own_name (fun _ _ _ _ => (pg_name (i := 0) (show (["_law_k"] : List Str).Nodup by decide +kernel) rfl (Or.inl rfl) (.inr rfl))) (fun _ _ _ _ => pif_nil) (fun _ _ _ _ => (@pe_tup _ _ _ _ _ (@pa_cons _ _ _ _ _ pe_str (@pa_cons _ _ _ _ _ (pv 0) pa_nil (by rfl)) (by rfl)))) (by rfl)) (@pss_cons _ _ _ _ _ (ps_for PassesOwn.never rfl (pi_range1 rfl T.b_range (@pa_cons _ _ _ _ _ (pv 3) pa_nil (by rfl))) (pg_name (i := 6) sc_l_function.nd rfl (Or.inl rfl)) (@pss_one _ _ _ (@ps_expr _ _ _ _ (pe_bm PySem.F.plainAttrs_list PySem.F.slot_list_append PySem.F.type_list_append mt_append (pv 5) (@pa_cons _ _ _ _ _ (@pe_tup _ _ _ _ _ (@pa_cons _ _ _ _ _ pe_str (@pa_cons _ _ _ _ _ pe_str (@pa_cons _ _ _ _ _ (pv 4) (@pa_cons _ _ _ _ _ (@pe_tup _ _ _ _ _ pa_nil) pa_nil (by rfl)) (by rfl)) (by rfl)) (by rfl))) pa_nil (by rfl))) (by rfl)))) (@pss_cons _ _ _ _ _ (@ps_expr _ _ _ _ (pe_bm PySem.F.plainAttrs_list PySem.F.slot_list_append PySem.F.type_list_append mt_append (pv 5) (@pa_cons _ _ _ _ _ (@pe_tup _ _ _ _ _ (@pa_cons _ _ _ _ _ pe_str (@pa_cons _ _ _ _ _ pe_str pa_nil (by rfl)) (by rfl))) pa_nil (by rfl))) (by rfl)) (@pss_one _ _ _ (@ps_ret _ _ _ _ (@pe_tup _ _ _ _ _ (@pa_cons _ _ _ _ _ (pv 0) (@pa_cons _ _ _ _ _ (pv 1) (@pa_cons _ _ _ _ _ (@pe_tup _ _ _ _ _ pa_nil) (@pa_cons _ _ _ _ _ (pe_callTy call_tuple_of (by rfl) T.b_tuple bt_tuple (@pa_cons _ _ _ _ _ (pv 5) pa_nil (by rfl))) pa_nil (by rfl)) (by rfl)) (by rfl)) (by rfl)))))))), ?_⟩
    have bd : ∀ n : Nat, n ≤ 100 → (-2 ^ 62 : Int) ≤ (n : Int) ∧ (n : Int) < 2 ^ 62 := fun n h => ⟨by omega, by omega⟩
    refine ⟨_, rfl, _, rfl, (bd ex (by omega)).1, (bd ex (by omega)).2, fun l hl => comp_range (lo := 0) (n := ex) (by omega) (fun i acc H2 => Same H H2 ∧ H2 l = some (.lst acc) ∧ Paired (RC K H2 inner) (List.replicate i ("out" : Str)) acc) ⟨Same.new hl, upd_same, .nil⟩ ?_ ?_ ?_⟩
    · rintro i acc H2 hi2 ⟨s2, e2, e3⟩
      exact ⟨e2, by have := Paired.length e3; rw [List.length_replicate] at this; omega⟩
    · rintro i acc H2 hi2 ⟨s2, e2, e3⟩
      refine ⟨_, rfl, le2, fun r hr => ⟨Same.new hr _ _ e2, (s2.trans (Same.new hr)).upd hl, upd_same, ?_⟩⟩
      have t3 := (TS.of (Same.new (o := .tup [.str "out", .int (0 + (i : Int))]) hr)).trans (TS.lst (o := .lst (acc ++ [.ref r])) (Same.new (o := .tup [.str "out", .int (0 + (i : Int))]) hr _ _ e2))
      rw [List.replicate_succ']
      exact Paired.snoc (Paired.mapP e3 fun k v z => z.ts t3) (.out _ ((TS.lst (Same.new (o := .tup [.str "out", .int (0 + (i : Int))]) hr _ _ e2)).tup (SqT.of upd_same)))
    rintro acc H2 ⟨s2, e2, e3⟩
    refine ⟨_, rfl, _, rfl, (bd ca (by omega)).1, (bd ca (by omega)).2, for_range (lo := 0) (n := ca) (fun i σ H3 => Same H H3 ∧ ∃ acc v6, σ = [some (.str nm), some (.bl fo), some (.int ex), some (.int ca), some (.str inner), some (.ref l), v6] ∧ H3 l = some (.lst acc) ∧ Paired (RC K H3 inner) (List.replicate ex ("out" : Str) ++ List.replicate i ("call" : Str)) acc) ⟨s2, acc, _, rfl, e2, by rw [List.replicate_zero, List.append_nil]; exact e3⟩ ?_ ?_⟩
    · rintro i σ H3 hi3 ⟨s3, acc, v6, rfl, e4, e5⟩
      refine ⟨_, rfl, .inl ⟨rfl, _, SqL.of e4⟩, _, rfl, le0, fun u hu => ⟨le4, fun r hr => ?_⟩⟩
      have S := (Same.new (o := .tup []) hu).trans (Same.new (o := .tup [.str "call", .str "x", .str inner, .ref u]) hr)
      have hlen : acc.length = ex + i := by have := Paired.length e5; rw [List.length_append, List.length_replicate, List.length_replicate] at this; omega
      refine ⟨l, _, _, rfl, rfl, S _ _ e4, small1000 (by omega), (s3.trans S).upd hl, _, _, rfl, upd_same, ?_⟩
      have t3 := (TS.of S).trans (TS.lst (o := .lst (acc ++ [.ref r])) (S _ _ e4))
      have e6 : List.replicate ex ("out" : Str) ++ List.replicate (i + 1) ("call" : Str) = (List.replicate ex ("out" : Str) ++ List.replicate i ("call" : Str)) ++ [("call" : Str)] := by rw [List.replicate_succ', List.append_assoc]
      rw [e6]
      exact Paired.snoc (Paired.mapP e5 fun k v z => z.ts t3) (.call ((TS.lst (S _ _ e4)).tup (SqT.of upd_same)) (((TS.of (Same.new hr)).trans (TS.lst (S _ _ e4))).tup (SqT.of upd_same)))
    rintro σ H3 ⟨s3, acc, v6, rfl, e4, e5⟩
    have hlen : acc.length = ex + ca := by have := Paired.length e5; rw [List.length_append, List.length_replicate, List.length_replicate] at this; omega
    refine ⟨_, rfl, .inl ⟨rfl, _, SqL.of e4⟩, le2, fun r hr => ?_⟩
    have S := Same.new (o := .tup [.str "back", .str "x"]) hr
    have t3 := (TS.of S).trans (TS.lst (o := .lst (acc ++ [.ref r])) (S _ _ e4))
    have e7 : Paired (RC K _ inner) (kinds ex ca) (acc ++ [.ref r]) := Paired.snoc (Paired.mapP e5 fun k v z => z.ts t3) (.back ((TS.lst (o := .lst (acc ++ [.ref r])) (S _ _ e4)).tup (SqT.of upd_same)))
    refine ⟨l, _, _, rfl, rfl, S _ _ e4, small1000 (by omega), ?_⟩
    have s4 := (s3.trans S).upd (o := .lst (acc ++ [.ref r])) hl
    refine ⟨_, rfl, _, rfl, le0, fun qC hqC => ⟨_, rfl, l, _, rfl, .inl ⟨SqL.of (Same.new hqC _ _ upd_same), fun tr htr => ⟨le4, fun fa hfa => ?_⟩⟩⟩⟩
    have S5 := ((Same.new (o := .tup []) hqC).trans (Same.new (o := .tup (acc ++ [.ref r])) htr)).trans (Same.new (o := .tup [.str nm, .bl fo, .ref qC, .ref tr]) hfa)
    obtain ⟨f, rfl, f1, f2, f3⟩ := fn_law he hc hn hi (SqT.of (upd_same (o := .tup [.str nm, .bl fo, .ref qC, .ref tr]))) ((Same.new (o := .tup [.str nm, .bl fo, .ref qC, .ref tr]) hfa).tup (SqT.of (upd_same (o := .tup (acc ++ [.ref r]))))) (Paired.mapP e7 fun k v z => z.ts (.of S5)) (((Same.new (o := .tup (acc ++ [.ref r])) htr).trans (Same.new (o := .tup [.str nm, .bl fo, .ref qC, .ref tr]) hfa)).tup (SqT.of upd_same))
    exact q f _ (s4.trans S5) f1 f2 f3
end
end K55

set_option Elab.async false
set_option linter.all false
set_option maxRecDepth 100000
set_option maxHeartbeats 4000000
namespace K55
open PySem L2 Gx Fl
section
variable {P : Program} {w : World} {K : PySem.W.Frag} {mg : Str → Option Value} {base : Heap} {t : Adr}
local macro_rules | `(tactic| walk_at "rd1") => `(tactic| first
  | refine ⟨_, rfl, ?_⟩
  | refine ⟨_, _, rfl, rfl, ?_⟩
  | refine ⟨rfl, ?_⟩
  | refine ⟨(show (0 : Int) < _ by decide), ?_⟩
  | refine ⟨⟨by decide, by decide⟩, ?_⟩
  | refine ⟨.inl ⟨by decide, by decide⟩, ?_⟩
  | refine ⟨.inr ⟨by decide, by decide⟩, ?_⟩
  | refine ⟨⟨by decide, by decide, by decide⟩, ?_⟩)
local macro_rules | `(tactic| walk_at "rd") => `(tactic| repeat walk_at "rd1")
theorem sc_l_long : FnScope ["_law_e", "_law_others"] ["_law_e"] (defScope s_l_long) := ⟨rfl, rfl, rfl, by decide +kernel, rfl, by decide +kernel, by decide +kernel⟩
theorem ok_l_long (T : Txt K mg t) : FnOkH P w K mg base 1 t.a_l_long t.d_l_long ["_law_e"] (sp_l_long K t) := by
  refine T.l_long.F.okH sc_l_long (fun vs H Q E h => ?_) (fun cdv A outer s H vs Q E hr h => ?_)
  · obtain ⟨ea, dx, g, rfl, hX, hD, q⟩ := h
    rfl
  · obtain ⟨ea, dx, g, rfl, hX, hD, q⟩ := h
    refine ⟨_, (@pss_cons _ _ _ _ _ (@ps_set _ _ 1 _ _ _ _ sc_l_long.nd rfl (Or.inl rfl) (pe_or (pe_callB call_isx (by rfl) T.b_isinstance bt_isinstance (@pa_cons _ _ _ _ _ (pv 0) (@pa_cons _ _ _ _ _ (pe_gtuple T.g_BadBits) pa_nil (by rfl)) (by rfl))) (pe_or (pe_callB call_isx (by rfl) T.b_isinstance bt_isinstance (@pa_cons _ _ _ _ _ (pv 0) (@pa_cons _ _ _ _ _ (pe_gtuple T.g_BadNest) pa_nil (by rfl)) (by rfl))) (pe_or (pe_callB call_isx (by rfl) T.b_isinstance bt_isinstance (@pa_cons _ _ _ _ _ (pv 0) (@pa_cons _ _ _ _ _ (pe_gtuple T.g_NoName) pa_nil (by rfl)) (by rfl))) (pe_one (pe_callB call_isx (by rfl) T.b_isinstance bt_isinstance (@pa_cons _ _ _ _ _ (pv 0) (@pa_cons _ _ _ _ _ (pe_gtuple T.g_BadCall) pa_nil (by rfl)) (by rfl))))))) (by rfl) (by first | exact .inl rfl | exact .inr rfl | assumption)) (@pss_cons _ _ _ _ _ (@ps_if _ _ _ _ _ _ _ _ (@PW.pt _ _ _ (pw_or (pt_not (pt_val (pe_callB call_isx (by rfl) T.b_isinstance bt_isinstance (@pa_cons _ _ _ _ _ (pv 0) (@pa_cons _ _ _ _ _ (pe_gtuple T.x_TooLong.g) pa_nil (by rfl)) (by rfl))))) (pw_or (pt_val (pv 1)) (pw_or1 (pt_not (pt_val (pe_callB call_isx (by rfl) T.b_isinstance bt_isinstance (@pa_cons _ _ _ _ _ (pv 0) (@pa_cons _ _ _ _ _ (pe_bltn (v := V.ty "ValueError") rfl T.b_ValueError bt_ValueError rfl) pa_nil (by rfl)) (by rfl))))))))) (@pss_one _ _ _ (@ps_ret _ _ _ _ pe_non)) pss_nil) (@pss_one _ _ _ (@ps_ret _ _ _ _ (pe_xfld (pv 0) (by rfl)))))), ?_⟩
    have hd : ∀ a, some dx = some a → ∃ u, H a = some u := fun a e => by cases e; exact ⟨_, hD⟩
    refine ⟨_, rfl, ea, t.x_TooLong, some dx, "TooLong", _, _, _, rfl, hX, hd, T.x_TooLong, rfl, T.k_TooLong_BadBits, _, rfl, iteN (by simp) ?_⟩
    refine ⟨_, rfl, ea, t.x_TooLong, some dx, "TooLong", _, _, _, rfl, hX, hd, T.x_TooLong, rfl, T.k_TooLong_BadNest, _, rfl, iteN (by simp) ?_⟩
    refine ⟨_, rfl, ea, t.x_TooLong, some dx, "TooLong", _, _, _, rfl, hX, hd, T.x_TooLong, rfl, T.k_TooLong_NoName, _, rfl, iteN (by simp) ?_⟩
    refine ⟨_, rfl, ea, t.x_TooLong, some dx, "TooLong", _, _, _, rfl, hX, hd, T.x_TooLong, rfl, T.k_TooLong_BadCall, ?_⟩
    refine ⟨_, rfl, ea, t.x_TooLong, some dx, "TooLong", _, _, _, rfl, hX, hd, T.x_TooLong, rfl, T.k_TooLong_TooLong, _, rfl, iteN (by simp) ?_⟩
    refine ⟨_, rfl, _, rfl, iteN (by simp) ?_⟩
    refine ⟨_, rfl, ea, t.x_TooLong, some dx, "TooLong", _, _, _, rfl, hX, hd, T.x_TooLong, rfl, T.v_TooLong, _, rfl, iteN (by simp) ?_⟩
    exact ⟨_, rfl, ea, _, "TooLong", dx, _, _, rfl, hX, hD, T.x_TooLong, T.n_TooLong_function, rfl, q⟩
end
end K55

set_option Elab.async false
set_option linter.all false
set_option maxRecDepth 100000
set_option maxHeartbeats 4000000
namespace K55
open PySem L2 Gx Fl
section
variable {P : Program} {w : World} {K : PySem.W.Frag} {mg : Str → Option Value} {base : Heap} {t : Adr}
local macro_rules | `(tactic| walk_at "rd1") => `(tactic| first
  | refine ⟨_, rfl, ?_⟩
  | refine ⟨_, _, rfl, rfl, ?_⟩
  | refine ⟨rfl, ?_⟩
  | refine ⟨(show (0 : Int) < _ by decide), ?_⟩
  | refine ⟨⟨by decide, by decide⟩, ?_⟩
  | refine ⟨.inl ⟨by decide, by decide⟩, ?_⟩
  | refine ⟨.inr ⟨by decide, by decide⟩, ?_⟩
  | refine ⟨⟨by decide, by decide, by decide⟩, ?_⟩)
local macro_rules | `(tactic| walk_at "rd") => `(tactic| repeat walk_at "rd1")
theorem sc_l_refused : FnScope ["_law_program", "_law_name", "_law_found", "_law_e"] ["_law_program", "_law_name"] (defScope s_l_refused) := ⟨rfl, rfl, rfl, by decide +kernel, rfl, by decide +kernel, by decide +kernel⟩
theorem ok_l_refused (T : Txt K mg t) : FnOk P w K mg base CX0 8 t.a_l_refused t.d_l_refused ["_law_program", "_law_name"] (sp_l_refused K t) := by
  have G_plan : FnOk P w K mg base (CXe P w) 7 t.a_plan t.d_plan ["program", "name"] (sp_plan K t) := ok_plan T
  have G_l_long : FnOkH P w K mg base 1 t.a_l_long t.d_l_long ["_law_e"] (sp_l_long K t) := ok_l_long T
  refine T.l_refused.F.ok sc_l_refused (fun vs H Q E h => ?_) (fun cdv A outer s H vs Q E hr h => ?_)
  · obtain ⟨p, fns, g, N, ss, rfl, hP, hW, hN, q⟩ := h
    rfl
  · obtain ⟨p, fns, g, N, ss, rfl, hP, hW, hN, q⟩ := h
    refine ⟨_, (@pss_cons _ _ _ _ _ (@ps_set _ _ 2 _ _ _ _ sc_l_refused.nd rfl (Or.inl rfl) pe_non (by rfl) (by first | exact .inl rfl | exact .inr rfl | assumption)) (@pss_cons _ _ _ _ _ (ps_try (j := 3) sc_l_refused.nd rfl rfl T.x_GlassError rfl rfl (psx_expr (px_call T.plan G_plan (hr.mono (by decide)) (@pa_cons _ _ _ _ _ (pv 0) (@pa_cons _ _ _ _ _ (pv 1) pa_nil (by rfl)) (by rfl)))) (fun _ => (@pss_one _ _ _ (@ps_set _ _ 2 _ _ _ _ sc_l_refused.nd rfl (Or.inl rfl) (callH T.l_long G_l_long (hr.hdm (by decide)) (@pa_cons _ _ _ _ _ (pv 3) pa_nil (by rfl))) (by rfl) (by first | exact .inl rfl | exact .inr rfl | assumption))))) (@pss_one _ _ _ (@ps_ret _ _ _ _ (pe_cmpR op_eq (pv 2) (pv 1) (nomark _)))))), ?_⟩
    refine ⟨_, rfl, _, rfl, p, fns, g, N, ss, rfl, hP, hW, fun h => absurd h (by omega), fun _ dx H1 s1 hD => ?_⟩
    refine ⟨t.x_TooLong, "TooLong", rfl, T.x_TooLong, T.e_TooLong, fun ea hea => ⟨_, rfl, ea, dx, g.1, rfl, upd_same, Same.new hea _ _ hD, ?_⟩⟩
    refine ⟨_, rfl, _, rfl, rfl, ?_⟩
    exact vq (congrArg V.bl (decide_eq_true rfl)) (q _ (s1.trans (Same.new hea)))
end
end K55

set_option Elab.async false
set_option linter.all false
set_option maxRecDepth 100000
set_option maxHeartbeats 4000000
namespace K55
open PySem L2 Gx Fl
section
variable {P : Program} {w : World} {K : PySem.W.Frag} {mg : Str → Option Value} {base : Heap} {t : Adr}
local macro_rules | `(tactic| walk_at "rd1") => `(tactic| first
  | refine ⟨_, rfl, ?_⟩
  | refine ⟨_, _, rfl, rfl, ?_⟩
  | refine ⟨rfl, ?_⟩
  | refine ⟨(show (0 : Int) < _ by decide), ?_⟩
  | refine ⟨⟨by decide, by decide⟩, ?_⟩
  | refine ⟨.inl ⟨by decide, by decide⟩, ?_⟩
  | refine ⟨.inr ⟨by decide, by decide⟩, ?_⟩
  | refine ⟨⟨by decide, by decide, by decide⟩, ?_⟩)
local macro_rules | `(tactic| walk_at "rd") => `(tactic| repeat walk_at "rd1")
theorem sc_l_is : FnScope ["_law_program", "_law_name", "_law_due"] ["_law_program", "_law_name", "_law_due"] (defScope s_l_is) := ⟨rfl, rfl, rfl, by decide +kernel, rfl, by decide +kernel, by decide +kernel⟩
theorem ok_l_is (T : Txt K mg t) : FnOk P w K mg base CX0 9 t.a_l_is t.d_l_is ["_law_program", "_law_name", "_law_due"] (sp_l_is K t) := by
  have G_l_refused : FnOk P w K mg base CX0 8 t.a_l_refused t.d_l_refused ["_law_program", "_law_name"] (sp_l_refused K t) := ok_l_refused T
  have G_plan : FnOk P w K mg base (CXe P w) 7 t.a_plan t.d_plan ["program", "name"] (sp_plan K t) := ok_plan T
  refine T.l_is.F.ok sc_l_is (fun vs H Q E h => ?_) (fun cdv A outer s H vs Q E hr h => ?_)
  · obtain ⟨p, fns, g, N, ss, rfl, hP, hW, q⟩ := h
    rfl
  · obtain ⟨p, fns, g, N, ss, rfl, hP, hW, q⟩ := h
    refine ⟨_, (@pss_cons _ _ _ _ _ (@ps_if _ _ _ _ _ _ _ _ (@pt_cmpR _ _ _ _ _ _ _ _ op_gt (pv 2) pe_int (nomark _)) (@pss_one _ _ _ (@ps_ret _ _ _ _ (callD T.l_refused G_l_refused (hr.mono (by decide)) (@pa_cons _ _ _ _ _ (pv 0) (@pa_cons _ _ _ _ _ (pv 1) pa_nil (by rfl)) (by rfl))))) pss_nil) (@pss_one _ _ _ (@ps_ret _ _ _ _ (pe_cmpR op_eq (pe_callB call_len_seq (by rfl) T.b_len bt_len (@pa_cons _ _ _ _ _ (callX T.plan G_plan (hr.mono (by decide)) pass_no (@pa_cons _ _ _ _ _ (pv 0) (@pa_cons _ _ _ _ _ (pv 1) pa_nil (by rfl)) (by rfl))) pa_nil (by rfl))) (pv 2) (nomark _))))), ?_⟩
    refine ⟨_, rfl, _, _, rfl, rfl, _, rfl, ?_⟩
    by_cases c : 200 < N
    · refine iteP (by rw [decide_eq_true_eq]; omega) ⟨_, rfl, _, rfl, p, fns, g, N, ss, rfl, hP, hW, c, q⟩
    · refine iteN (by rw [decide_eq_true_eq]; omega) ⟨_, rfl, _, rfl, p, fns, g, N, ss, rfl, hP, hW, fun _ l H1 xs s1 e1 hl => ?_, fun h => absurd h c⟩
      refine ⟨l, _, rfl, .inl (SqL.of e1), _, rfl, rfl, ?_⟩
      rw [hl]
      exact vq (congrArg V.bl (decide_eq_true rfl)) (q H1 s1)
end
end K55

set_option Elab.async false
set_option linter.all false
set_option maxRecDepth 100000
set_option maxHeartbeats 4000000
namespace K55
open PySem L2 Gx Fl
section
variable {P : Program} {w : World} {K : PySem.W.Frag} {mg : Str → Option Value} {base : Heap} {t : Adr}
local macro_rules | `(tactic| walk_at "rd1") => `(tactic| first
  | refine ⟨_, rfl, ?_⟩
  | refine ⟨_, _, rfl, rfl, ?_⟩
  | refine ⟨rfl, ?_⟩
  | refine ⟨(show (0 : Int) < _ by decide), ?_⟩
  | refine ⟨⟨by decide, by decide⟩, ?_⟩
  | refine ⟨.inl ⟨by decide, by decide⟩, ?_⟩
  | refine ⟨.inr ⟨by decide, by decide⟩, ?_⟩
  | refine ⟨⟨by decide, by decide, by decide⟩, ?_⟩)
local macro_rules | `(tactic| walk_at "rd") => `(tactic| repeat walk_at "rd1")
theorem sc_law : FnScope ["_law_script", "_law_small", "_law_calls", "_law_extra", "_law_folded", "_law_middle", "_law_inner", "_law_top", "_law_more", "_law_last", "_law_names", "_law_program", "_law_kept"] ["_law_script"] (defScope s_law) := ⟨rfl, rfl, rfl, by decide +kernel, rfl, by decide +kernel, by decide +kernel⟩
theorem ok_law (T : Txt K mg t) : FnOk P w K mg base CX0 10 t.a_law t.d_law ["_law_script"] (sp_law K) := by
  have G_l_cell_at : FnOk P w K mg base CX0 1 t.a_l_cell_at t.d_l_cell_at ["_law_script", "_law_k"] (sp_l_cell_at K) := ok_l_cell_at T
  have G_l_function : FnOk P w K mg base CX0 1 t.a_l_function t.d_l_function ["_law_name", "_law_folded", "_law_extra", "_law_calls", "_law_inner"] (sp_l_function K) := ok_l_function T
  have G_l_is : FnOk P w K mg base CX0 9 t.a_l_is t.d_l_is ["_law_program", "_law_name", "_law_due"] (sp_l_is K t) := ok_l_is T
  refine T.law.F.ok sc_law (fun vs H Q E h => ?_) (fun cdv A outer s H vs Q E hr h => ?_)
  · obtain ⟨a, sc, rfl, hS, hl, q⟩ := h
    rfl
  · obtain ⟨a, sc, rfl, hS, hl, q⟩ := h
    refine ⟨_, (@pss_cons _ _ _ _ _ (@ps_set _ _ 1 _ _ _ _ sc_law.nd rfl (Or.inl rfl) (@pe_op _ _ _ _ _ _ _ _ op_add pe_int (@pe_op _ _ _ _ _ _ _ _ op_mod (callD T.l_cell_at G_l_cell_at (hr.mono (by decide)) (@pa_cons _ _ _ _ _ (pv 0) (@pa_cons _ _ _ _ _ pe_int pa_nil (by rfl)) (by rfl))) pe_int)) (by rfl) (by first | exact .inl rfl | exact .inr rfl | assumption)) (@pss_cons _ _ _ _ _ (@ps_set _ _ 2 _ _ _ _ sc_law.nd rfl (Or.inl rfl) (@pe_op _ _ _ _ _ _ _ _ op_add pe_int (@pe_op _ _ _ _ _ _ _ _ op_mod (callD T.l_cell_at G_l_cell_at (hr.mono (by decide)) (@pa_cons _ _ _ _ _ (pv 0) (@pa_cons _ _ _ _ _ pe_int pa_nil (by rfl)) (by rfl))) pe_int)) (by rfl) (by first | exact .inl rfl | exact .inr rfl | assumption)) (@pss_cons _ _ _ _ _ (@ps_set _ _ 3 _ _ _ _ sc_law.nd rfl (Or.inl rfl) (@pe_op _ _ _ _ _ _ _ _ op_mod (callD T.l_cell_at G_l_cell_at (hr.mono (by decide)) (@pa_cons _ _ _ _ _ (pv 0) (@pa_cons _ _ _ _ _ pe_int pa_nil (by rfl)) (by rfl))) pe_int) (by rfl) (by first | exact .inl rfl | exact .inr rfl | assumption)) (@pss_cons _ _ _ _ _ (@ps_set _ _ 4 _ _ _ _ sc_law.nd rfl (Or.inl rfl) (pe_cmpR op_ne (@pe_op _ _ _ _ _ _ _ _ op_mod (callD T.l_cell_at G_l_cell_at (hr.mono (by decide)) (@pa_cons _ _ _ _ _ (pv 0) (@pa_cons _ _ _ _ _ pe_int pa_nil (by rfl)) (by rfl))) pe_int) pe_int (nomark _)) (by rfl) (by first | exact .inl rfl | exact .inr rfl | assumption)) (@pss_cons _ _ _ _ _ (@ps_set _ _ 5 _ _ _ _ sc_law.nd rfl (Or.inl rfl) (@pe_op _ _ _ _ _ _ _ _ op_add (@pe_op _ _ _ _ _ _ _ _ op_add (pv 3) pe_int) (@pe_op _ _ _ _ _ _ _ _ op_mul (pv 2) (@pe_op _ _ _ _ _ _ _ _ op_add pe_int (pv 1)))) (by rfl) (by first | exact .inl rfl | exact .inr rfl | assumption)) (@pss_cons _ _ _ _ _ (@ps_set _ _ 6 _ _ _ _ sc_law.nd rfl (Or.inl rfl) (@pe_op _ _ _ _ _ _ _ _ op_add (pv 5) pe_int) (by rfl) (by first | exact .inl rfl | exact .inr rfl | assumption)) (@pss_cut _ _ _ _ _ (@ps_if _ _ _ _ _ _ _ _ (pt_not (pt_val (pv 4))) (@pss_one _ _ _ (@ps_set _ _ 6 _ _ _ _ sc_law.nd rfl (Or.inl rfl) pe_int (by rfl) (by first | exact .inl rfl | exact .inr rfl | assumption))) pss_nil) (@pss_cons _ _ _ _ _ (@ps_set _ _ 7 _ _ _ _ sc_law.nd rfl (Or.inl rfl) (pe_callB (call_min2 rfl) (by rfl) T.b_min bt_min (@pa_cons _ _ _ _ _ pe_int (@pa_cons _ _ _ _ _ (@pe_op _ _ _ _ _ _ _ _ op_fdiv pe_int (pv 6)) pa_nil (by rfl)) (by rfl))) (by rfl) (by first | exact .inl rfl | exact .inr rfl | assumption)) (@pss_cons _ _ _ _ _ (@ps_set _ _ 8 _ _ _ _ sc_law.nd rfl (Or.inl rfl) (@pe_op _ _ _ _ _ _ _ _ op_add (@pe_op _ _ _ _ _ _ _ _ op_sub (@pe_op _ _ _ _ _ _ _ _ op_sub pe_int (@pe_op _ _ _ _ _ _ _ _ op_mul (pv 7) (pv 6))) pe_int) (@pe_op _ _ _ _ _ _ _ _ op_mod (callD T.l_cell_at G_l_cell_at (hr.mono (by decide)) (@pa_cons _ _ _ _ _ (pv 0) (@pa_cons _ _ _ _ _ pe_int pa_nil (by rfl)) (by rfl))) pe_int)) (by rfl) (by first | exact .inl rfl | exact .inr rfl | assumption)) (@pss_cons _ _ _ _ _ (@ps_set _ _ 8 _ _ _ _ sc_law.nd rfl (Or.inl rfl) (@pe_op _ _ _ _ _ _ _ _ op_mod (pv 8) pe_int) (by rfl) (by first | exact .inl rfl | exact .inr rfl | assumption)) (@pss_cut _ _ _ _ _ (@ps_set _ _ 9 _ _ _ _ sc_law.nd rfl (Or.inl rfl) (@pe_op _ _ _ _ _ _ _ _ op_add (@pe_op _ _ _ _ _ _ _ _ op_add (@pe_op _ _ _ _ _ _ _ _ op_mul (pv 7) (pv 6)) (pv 8)) pe_int) (by rfl) (by first | exact .inl rfl | exact .inr rfl | assumption)) (@pss_cons _ _ _ _ _ (@ps_set _ _ 10 _ _ _ _ sc_law.nd rfl (Or.inl rfl) (@pe_tup _ _ _ _ _ (@pa_cons _ _ _ _ _ pe_str (@pa_cons _ _ _ _ _ pe_str (@pa_cons _ _ _ _ _ pe_str pa_nil (by rfl)) (by rfl)) (by rfl))) (by rfl) (by first | exact .inl rfl | exact .inr rfl | assumption)) (@pss_cons _ _ _ _ _ (@ps_set _ _ 11 _ _ _ _ sc_law.nd rfl (Or.inl rfl) (@pe_lst _ _ _ _ (@pa_cons _ _ _ _ _ (callD T.l_function G_l_function (hr.mono (by decide)) (@pa_cons _ _ _ _ _ (@pe_ix _ _ _ _ _ _ _ ix_tup (pv 10) pe_int (fun _ _ => rfl)) (@pa_cons _ _ _ _ _ pe_bl (@pa_cons _ _ _ _ _ (@pe_op _ _ _ _ _ _ _ _ op_sub (pv 1) pe_int) (@pa_cons _ _ _ _ _ pe_int (@pa_cons _ _ _ _ _ pe_str pa_nil (by rfl)) (by rfl)) (by rfl)) (by rfl)) (by rfl))) (@pa_cons _ _ _ _ _ (callD T.l_function G_l_function (hr.mono (by decide)) (@pa_cons _ _ _ _ _ (@pe_ix _ _ _ _ _ _ _ ix_tup (pv 10) pe_int (fun _ _ => rfl)) (@pa_cons _ _ _ _ _ (pv 4) (@pa_cons _ _ _ _ _ (pv 3) (@pa_cons _ _ _ _ _ (pv 2) (@pa_cons _ _ _ _ _ (@pe_ix _ _ _ _ _ _ _ ix_tup (pv 10) pe_int (fun _ _ => rfl)) pa_nil (by rfl)) (by rfl)) (by rfl)) (by rfl)) (by rfl))) pa_nil (by rfl)) (by rfl))) (by rfl) (by first | exact .inl rfl | exact .inr rfl | assumption)) (@pss_cons _ _ _ _ _ (@ps_expr _ _ _ _ (pe_bm PySem.F.plainAttrs_list PySem.F.slot_list_append PySem.F.type_list_append mt_append (pv 11) (@pa_cons _ _ _ _ _ (callD T.l_function G_l_function (hr.mono (by decide)) (@pa_cons _ _ _ _ _ (@pe_ix _ _ _ _ _ _ _ ix_tup (pv 10) pe_int (fun _ _ => rfl)) (@pa_cons _ _ _ _ _ pe_bl (@pa_cons _ _ _ _ _ (pv 8) (@pa_cons _ _ _ _ _ (pv 7) (@pa_cons _ _ _ _ _ (@pe_ix _ _ _ _ _ _ _ ix_tup (pv 10) pe_int (fun _ _ => rfl)) pa_nil (by rfl)) (by rfl)) (by rfl)) (by rfl)) (by rfl))) pa_nil (by rfl))) (by rfl)) (@pss_cons _ _ _ _ _ (@ps_expr _ _ _ _ (pe_bm PySem.F.plainAttrs_list PySem.F.slot_list_append PySem.F.type_list_append mt_append (pv 11) (@pa_cons _ _ _ _ _ (callD T.l_function G_l_function (hr.mono (by decide)) (pa_lits (vs := [V.str "behind", V.bl false, V.int 0, V.int 0, V.str ""]) (by kernel_rfl))) pa_nil (by rfl))) (by rfl)) (@pss_cons _ _ _ _ _ (@ps_set _ _ 12 _ _ _ _ sc_law.nd rfl (Or.inl rfl) (pe_callTy call_list_of (by rfl) T.b_list bt_list (@pa_cons _ _ _ _ _ (pv 11) pa_nil (by rfl))) (by rfl) (by first | exact .inl rfl | exact .inr rfl | assumption)) (@pss_cons _ _ _ _ _ (@ps_if _ _ _ _ _ _ _ _ (@PW.pt _ _ _ (pw_or (pt_not (pt_val (callD T.l_is G_l_is (hr.mono (by decide)) (@pa_cons _ _ _ _ _ (pv 11) (@pa_cons _ _ _ _ _ (@pe_ix _ _ _ _ _ _ _ ix_tup (pv 10) pe_int (fun _ _ => rfl)) (@pa_cons _ _ _ _ _ (pv 9) pa_nil (by rfl)) (by rfl)) (by rfl))))) (pw_or1 (pt_not (pt_val (callD T.l_is G_l_is (hr.mono (by decide)) (@pa_cons _ _ _ _ _ (pv 11) (@pa_cons _ _ _ _ _ (@pe_ix _ _ _ _ _ _ _ ix_tup (pv 10) pe_int (fun _ _ => rfl)) (@pa_cons _ _ _ _ _ (pv 5) pa_nil (by rfl)) (by rfl)) (by rfl)))))))) (@pss_one _ _ _ (@ps_ret _ _ _ _ pe_bl)) pss_nil) (@pss_one _ _ _ (@ps_ret _ _ _ _ (pe_and (callD T.l_is G_l_is (hr.mono (by decide)) (@pa_cons _ _ _ _ _ (pv 11) (@pa_cons _ _ _ _ _ (@pe_ix _ _ _ _ _ _ _ ix_tup (pv 10) pe_int (fun _ _ => rfl)) (@pa_cons _ _ _ _ _ (pv 1) pa_nil (by rfl)) (by rfl)) (by rfl))) (pe_and (callD T.l_is G_l_is (hr.mono (by decide)) (@pa_cons _ _ _ _ _ (pv 11) (@pa_cons _ _ _ _ _ (@pe_ix _ _ _ _ _ _ _ ix_tup (pv 10) pe_int (fun _ _ => rfl)) (@pa_cons _ _ _ _ _ (pv 9) pa_nil (by rfl)) (by rfl)) (by rfl))) (pe_one (pe_cmpR (op_eqD hr.units) (pv 11) (pv 12) (nomark _)))))))))))))))))))))))), ?_⟩
    refine ⟨_, rfl, a, sc, 0, rfl, hS, hl, by decide, fun z0 => ⟨_, _, rfl, rfl, (show (0 : Int) < 20 by decide), _, _, rfl, rfl, ?_⟩⟩
    refine ⟨_, rfl, a, sc, 1, rfl, hS, hl, by decide, fun z1 => ⟨_, _, rfl, rfl, (show (0 : Int) < 9 by decide), _, _, rfl, rfl, ?_⟩⟩
    refine ⟨_, rfl, a, sc, 2, rfl, hS, hl, by decide, fun z2 => ⟨_, _, rfl, rfl, (show (0 : Int) < 10 by decide), ?_⟩⟩
    refine ⟨_, rfl, a, sc, 3, rfl, hS, hl, by decide, fun z3 => ⟨_, _, rfl, rfl, (show (0 : Int) < 8 by decide), rfl, ?_⟩⟩
    obtain ⟨sm, hsm⟩ := Int.eq_ofNat_of_zero_le (show 0 ≤ z0 % 20 by omega)
    obtain ⟨c1, hc1⟩ := Int.eq_ofNat_of_zero_le (show 0 ≤ z1 % 9 by omega)
    obtain ⟨ex, hex⟩ := Int.eq_ofNat_of_zero_le (show 0 ≤ z2 % 10 by omega)
    have b0 : sm < 20 := by omega
    have b1 : c1 < 9 := by omega
    have b2 : ex < 10 := by omega
    have em : z2 % 10 + 1 + (1 + z1 % 9) * (1 + (1 + z0 % 20)) = ((ex + (c1 + 1) * (sm + 2) + 1 : Nat) : Int) := by
      rw [show 1 + z1 % 9 = ((c1 + 1 : Nat) : Int) by omega, show 1 + (1 + z0 % 20) = ((sm + 2 : Nat) : Int) by omega, hex, ← Int.natCast_mul]
      omega
    refine ⟨_, rfl, _, _, rfl, rfl, _, rfl, _, rfl, _, _, rfl, rfl, _, _, rfl, rfl, .inr ⟨by omega, by omega⟩, _, _, rfl, rfl, ?_⟩
    refine ⟨_, rfl, _, _, rfl, rfl, ?_⟩
    refine ⟨fun σ' H' => H' = H ∧ ∃ fo, σ' = [some (.ref a), some (.int ((sm + 1 : Nat) : Int)), some (.int ((c1 + 1 : Nat) : Int)), some (.int (ex : Nat)), some (.bl fo), some (.int ((ex + (c1 + 1) * (sm + 2) + 1 : Nat) : Int)), some (.int (inn sm ex (c1 + 1) fo : Nat)), none, none, none, none, none, none], ?_, ?_⟩
    · refine ⟨_, rfl, _, rfl, ?_⟩
      refine ite2 (fun g => ?_) (fun g => ?_)
      · have g' := (Bool.not_eq_true' _).mp g
        exact ⟨rfl, _, st7 (by omega) (by omega) hex em (by unfold inn; rw [g', if_neg Bool.false_ne_true]; rfl)⟩
      · have g' := bnn g
        exact ⟨rfl, _, st7 (by omega) (by omega) hex em (by unfold inn; rw [g', if_pos rfl, em]; omega)⟩
    rintro σ H' ⟨rfl, fo, rfl⟩
    have ib : 0 < inn sm ex (c1 + 1) fo ∧ inn sm ex (c1 + 1) fo ≤ 300 := by
      have : (c1 + 1) * (sm + 2) ≤ 9 * 21 := Nat.mul_le_mul (by omega) (by omega)
      unfold inn
      cases fo
      · rw [if_neg Bool.false_ne_true]; omega
      · rw [if_pos rfl]; omega
    generalize hin : inn sm ex (c1 + 1) fo = iN at ib
    obtain ⟨to, hto⟩ : ∃ to : Nat, to = min 12 (199 / iN) := ⟨_, rfl⟩
    have t12 : to ≤ 12 := by omega
    have eto : (if (199 : Int) / (iN : Int) < 12 then (199 : Int) / (iN : Int) else 12) = (to : Int) := by
      have : (199 : Int) / (iN : Int) = ((199 / iN : Nat) : Int) := by rw [Int.natCast_ediv]; rfl
      rw [this, hto]
      split <;> omega
    refine ⟨_, rfl, _, _, rfl, rfl, ⟨by omega, by omega⟩, _, _, rfl, ?_⟩
    refine ⟨_, rfl, _, rfl, _, _, rfl, rfl, .inr ⟨by omega, by omega⟩, _, _, rfl, rfl, _, _, rfl, rfl, _, rfl, a, sc, 4, rfl, hS, hl, by decide, fun z4 => ⟨_, _, rfl, rfl, (show (0 : Int) < 4 by decide), _, _, rfl, rfl, ?_⟩⟩
    obtain ⟨mo, hmo⟩ := Int.eq_ofNat_of_zero_le (show 0 ≤ (199 - (if (199 : Int) / (iN : Int) < 12 then (199 : Int) / (iN : Int) else 12) * (iN : Int) - 1 + z4 % 4) % 40 by omega)
    have m40 : mo < 40 := by omega
    refine ⟨_, rfl, _, _, rfl, rfl, (show (0 : Int) < 40 by decide), ?_⟩
    refine ⟨fun σ' H'' => H'' = H' ∧ σ' = [some (.ref a), some (.int ((sm + 1 : Nat) : Int)), some (.int ((c1 + 1 : Nat) : Int)), some (.int (ex : Nat)), some (.bl fo), some (.int ((ex + (c1 + 1) * (sm + 2) + 1 : Nat) : Int)), some (.int (iN : Nat)), some (.int (to : Nat)), some (.int (mo : Nat)), some (.int ((mo + to * iN + 1 : Nat) : Int)), none, none, none], ?_, ?_⟩
    · refine ⟨_, rfl, _, rfl, _, _, rfl, rfl, .inr ⟨by omega, by omega⟩, _, rfl, _, _, rfl, rfl, _, _, rfl, rfl, rfl, st10 eto hmo ?_⟩
      rw [hmo, eto, ← Int.natCast_mul]
      omega
    rintro σ H'' ⟨rfl, rfl⟩
    have nl : K12.Nm ("low" : Str) := ⟨by decide +kernel, by decide +kernel⟩
    have nm : K12.Nm ("mid" : Str) := ⟨by decide +kernel, by decide +kernel⟩
    have nt : K12.Nm ("top" : Str) := ⟨by decide +kernel, by decide +kernel⟩
    have nb : K12.Nm ("behind" : Str) := ⟨by decide +kernel, by decide +kernel⟩
    have ne : K12.Nm ("" : Str) := ⟨by decide +kernel, by decide +kernel⟩
    refine ⟨le3, fun tn htn => ?_⟩
    have s0 := Same.new (o := .tup [.str "low", .str "mid", .str "top"]) htn
    have hT0 : SqT K (upd H'' tn (.tup [.str "low", .str "mid", .str "top"])) tn [.str "low", .str "mid", .str "top"] := SqT.of upd_same
    refine ⟨_, rfl, tn, _, _, _, rfl, rfl, hT0, at0, _, rfl, _, _, rfl, rfl, "low", true, sm, 0, "", v5 (by omega) rfl, by omega, by omega, nl, ne, fun f1 H1 s1 a1 p1 d1 => ?_⟩
    refine ⟨_, rfl, tn, _, _, _, rfl, rfl, s1.tup hT0, rfl, _, rfl, _, rfl, _, rfl, _, rfl, tn, _, _, _, rfl, rfl, s1.tup hT0, at0, "mid", fo, ex, c1 + 1, "low", rfl, by omega, by omega, nm, nl, fun f2 H2 s2 a2 p2 d2 => ⟨le2, fun lp hlp => ?_⟩⟩
    have hT2 := s2.tup (s1.tup hT0)
    have hT3 := (Same.new (o := .lst [.ref f1.fa, .ref f2.fa]) hlp).tup hT2
    refine ⟨_, rfl, .inl ⟨rfl, _, SqL.of upd_same⟩, _, rfl, tn, _, _, _, rfl, rfl, hT3, rfl, _, rfl, _, rfl, _, rfl, tn, _, _, _, rfl, rfl, hT3, rfl, "top", false, mo, to, "mid", rfl, by omega, by omega, nt, nm, fun f3 H4 s4 a3 p3 d3 => ⟨lp, _, _, rfl, rfl, s4 _ _ upd_same, (by show 2 < sizeLine; decide), ?_⟩⟩
    have T4 : TS H4 (upd H4 lp (.lst ([.ref f1.fa, .ref f2.fa] ++ [.ref f3.fa]))) := TS.lst (s4 _ _ upd_same)
    refine ⟨_, rfl, .inl ⟨rfl, _, SqL.of upd_same⟩, "behind", false, 0, 0, "", rfl, by decide, by decide, nb, ne, fun f4 H5 s5 a4 p4 d4 => ⟨lp, _, _, rfl, rfl, s5 _ _ upd_same, (by show 3 < sizeLine; decide), ?_⟩⟩
    have T5 : TS H5 (upd H5 lp (.lst ([.ref f1.fa, .ref f2.fa] ++ [.ref f3.fa] ++ [.ref f4.fa]))) := TS.lst (s5 _ _ upd_same)
    refine ⟨_, rfl, lp, _, rfl, .inl (SqL.of upd_same), fun lk hlk => ?_⟩
    have S7 := Same.new (o := .lst ([.ref f1.fa, .ref f2.fa] ++ [.ref f3.fa] ++ [.ref f4.fa])) hlk
    have C5 := T5.trans (.of S7)
    have C4 := (T4.trans (.of s5)).trans C5
    have C2 := ((TS.of ((Same.new (o := .lst [.ref f1.fa, .ref f2.fa]) hlp).trans s4))).trans C4
    have hlp7 := S7 _ _ (upd_same (o := .lst ([.ref f1.fa, .ref f2.fa] ++ [.ref f3.fa] ++ [.ref f4.fa])))
    have hlk7 : upd (upd H5 lp (.lst ([.ref f1.fa, .ref f2.fa] ++ [.ref f3.fa] ++ [.ref f4.fa]))) lk (.lst ([.ref f1.fa, .ref f2.fa] ++ [.ref f3.fa] ++ [.ref f4.fa])) lk = some (.lst ([.ref f1.fa, .ref f2.fa] ++ [.ref f3.fa] ++ [.ref f4.fa])) := upd_same
    have hT7 := C2.tup hT2
    have PP : Pr [f1, f2, f3, f4] sm ex (c1 + 1) mo to fo := ⟨f1, f2, f3, f4, rfl, p1, p2, p3, p4⟩
    have A1 := fnAt_ts a1 ((TS.of s2).trans C2)
    have A2 := fnAt_ts a2 C2
    have A3 := fnAt_ts a3 C4
    have A4 := fnAt_ts a4 C5
    have D7 : HasHA K _ 5 [.ref f1.fa, .ref f2.fa, .ref f3.fa, .ref f4.fa] := .cons (d1.ts ((TS.of s2).trans C2)) (.cons (d2.ts C2) (.cons (d3.ts C4) (.cons (d4.ts C5) .nil)))
    have hP : PrA K _ lp [f1, f2, f3, f4] := ⟨SqL.of hlp7, by simp, (by show 4 ≤ 12; decide), fun f hf => by
      simp only [List.mem_cons, List.not_mem_nil, or_false] at hf
      rcases hf with rfl | rfl | rfl | rfl
      · exact A1
      · exact A2
      · exact A3
      · exact A4, PP.nd, PP.stf⟩
    obtain ⟨ss1, w1⟩ := walk_low PP
    obtain ⟨ss2, w2⟩ := walk_mid PP
    obtain ⟨ss3, w3⟩ := walk_top PP
    rw [hin] at w3
    refine ⟨_, rfl, _, rfl, tn, _, _, _, rfl, rfl, hT7, rfl, _, rfl, lp, _, nTop, _, ss3, rfl, hP, w3, fun H8 s8 => ⟨_, rfl, iteN (by simp) ?_⟩⟩
    refine ⟨_, rfl, _, rfl, tn, _, _, _, rfl, rfl, s8.tup hT7, rfl, _, rfl, lp, _, nMid, _, ss2, rfl, hP.mono s8, w2, fun H9 s9 => ⟨_, rfl, iteN (by simp) ?_⟩⟩
    have S9 := s8.trans s9
    refine ⟨_, rfl, _, rfl, tn, _, _, _, rfl, rfl, S9.tup hT7, at0, _, rfl, lp, _, nLow, _, ss1, rfl, hP.mono S9, w1, fun Ha sa => ⟨_, rfl, iteP rfl ?_⟩⟩
    have Sa := S9.trans sa
    refine ⟨_, rfl, _, rfl, tn, _, _, _, rfl, rfl, Sa.tup hT7, rfl, _, rfl, lp, _, nTop, _, ss3, rfl, hP.mono Sa, w3, fun Hb sb => ⟨_, rfl, iteP rfl ?_⟩⟩
    have Sb := Sa.trans sb
    have Db : HasHA K Hb 5 [.ref f1.fa, .ref f2.fa, .ref f3.fa, .ref f4.fa] := .cons (d1.ts (((TS.of s2).trans C2).trans (.of Sb))) (.cons (d2.ts (C2.trans (.of Sb))) (.cons (d3.ts (C4.trans (.of Sb))) (.cons (d4.ts (C5.trans (.of Sb))) .nil)))
    exact ⟨_, rfl, _, rfl, eq_same (by decide) Db (SqL.of (Sb _ _ hlp7)) (SqL.of (Sb _ _ hlk7)) (q Hb)⟩
end
end K55

set_option Elab.async false
set_option linter.all false
set_option maxRecDepth 100000
set_option maxHeartbeats 4000000
namespace K55
open PySem L2
set_option maxHeartbeats 4000000 in
theorem txt_mk {K : PySem.W.Frag} {h : Heap} {mg : Str → Option Value} (X : K.In h) (G : h.Ns mainGlobals mg)
    {C_Flows : Addr} (aC_Flows : PySem.W.nsIn K mainGlobals "Flows" = some (some (.ref C_Flows))) (pg_Flows : PySem.W.plainGet K C_Flows Str.empty = true) (hd_Flows : PySem.W.hasDictIn K C_Flows = true) (po_Flows : PySem.W.plainOver K C_Flows = true) (sa_Flows : PySem.W.findIn K (.ref C_Flows) "__setattr__" = some (some (.builtin "object.__setattr__"))) (mk_Flows : PySem.W.makesIn K C_Flows = true) (kc_Flows : PySem.W.keepIn K (.ref C_Flows) = true)
    (n_Flows_last : PySem.W.findIn K (.ref C_Flows) "last" = some none)
    (n_Flows_number_of : PySem.W.findIn K (.ref C_Flows) "number_of" = some none)
    (n_Flows_folded_of : PySem.W.findIn K (.ref C_Flows) "folded_of" = some none)
    (n_Flows_params_of : PySem.W.findIn K (.ref C_Flows) "params_of" = some none)
    (n_Flows_rows_of : PySem.W.findIn K (.ref C_Flows) "rows_of" = some none)
    (n_Flows_names_in : PySem.W.findIn K (.ref C_Flows) "names_in" = some none)
    (n_Flows_ways_in : PySem.W.findIn K (.ref C_Flows) "ways_in" = some none)
    {X_GlassError NN_GlassError : Addr} {nm_GlassError qq_GlassError : Str} {bs_GlassError bm_GlassError : List Value} {sn_GlassError : List Str} {sub_GlassError : List Value} {ab_GlassError : Bool} {col_GlassError : Option Bool} {dd_GlassError : Option Addr} {k0_GlassError k1_GlassError k2_GlassError k3_GlassError k5_GlassError : Option Value}
    (xa_GlassError : PySem.W.nsIn K mainGlobals "GlassError" = some (some (.ref X_GlassError))) (xl_GlassError : K.lookup X_GlassError = some (excClassObj nm_GlassError qq_GlassError X_GlassError NN_GlassError bs_GlassError bm_GlassError true sn_GlassError sub_GlassError ab_GlassError col_GlassError dd_GlassError k0_GlassError k1_GlassError k2_GlassError k3_GlassError k5_GlassError "ValueError.__new__")) (xv_GlassError : Ex.veTail bm_GlassError = true) (xk_GlassError : PySem.W.keepIn K (.ref X_GlassError) = true) (xs_GlassError : PySem.W.findIn K (.ref X_GlassError) "__setattr__" = some (some (.builtin "object.__setattr__"))) (xg_GlassError : PySem.W.findIn K (.ref X_GlassError) "__getattribute__" = some (some (.builtin "BaseException.__getattribute__"))) (xt_GlassError : PySem.W.findIn K (.ref X_GlassError) "__getattr__" = some none) (xc_GlassError : PySem.W.findIn K (.ref X_GlassError) "__class__" = some (some (.builtin "object.__class__")))
    {X_TooLong NN_TooLong : Addr} {nm_TooLong qq_TooLong : Str} {bs_TooLong bm_TooLong : List Value} {sn_TooLong : List Str} {sub_TooLong : List Value} {ab_TooLong : Bool} {col_TooLong : Option Bool} {dd_TooLong : Option Addr} {k0_TooLong k1_TooLong k2_TooLong k3_TooLong k5_TooLong : Option Value}
    (xa_TooLong : PySem.W.nsIn K mainGlobals "TooLong" = some (some (.ref X_TooLong))) (xl_TooLong : K.lookup X_TooLong = some (excClassObj nm_TooLong qq_TooLong X_TooLong NN_TooLong bs_TooLong bm_TooLong true sn_TooLong sub_TooLong ab_TooLong col_TooLong dd_TooLong k0_TooLong k1_TooLong k2_TooLong k3_TooLong k5_TooLong "ValueError.__new__")) (xv_TooLong : Ex.veTail bm_TooLong = true) (xk_TooLong : PySem.W.keepIn K (.ref X_TooLong) = true) (xs_TooLong : PySem.W.findIn K (.ref X_TooLong) "__setattr__" = some (some (.builtin "object.__setattr__"))) (xg_TooLong : PySem.W.findIn K (.ref X_TooLong) "__getattribute__" = some (some (.builtin "BaseException.__getattribute__"))) (xt_TooLong : PySem.W.findIn K (.ref X_TooLong) "__getattr__" = some none) (xc_TooLong : PySem.W.findIn K (.ref X_TooLong) "__class__" = some (some (.builtin "object.__class__")))
    (sg0 : PySem.W.specialIn K (.builtin "object.__class__") "__get__" = some (some (.builtin "getset_descriptor.__get__"))) (tkX0 : PySem.W.takesIn K (.builtin "object.__class__") = some true)
    {X_BadNest : Addr} (xa_BadNest : PySem.W.nsIn K mainGlobals "BadNest" = some (some (.ref X_BadNest)))
    {X_BadCall : Addr} (xa_BadCall : PySem.W.nsIn K mainGlobals "BadCall" = some (some (.ref X_BadCall)))
    {X_NoName : Addr} (xa_NoName : PySem.W.nsIn K mainGlobals "NoName" = some (some (.ref X_NoName)))
    {X_BadBits : Addr} (xa_BadBits : PySem.W.nsIn K mainGlobals "BadBits" = some (some (.ref X_BadBits)))
    (na_TooLong_function : PySem.W.findIn K (.ref X_TooLong) "function" = some none)
    (e_TooLong : PySem.W.mroIn K X_TooLong (.ref X_GlassError) = some true)
    (kk_TooLong_TooLong : PySem.W.kitOne K (.ref X_TooLong) (.ref X_TooLong) = some true)
    (kk_TooLong_BadNest : PySem.W.kitOne K (.ref X_TooLong) (.ref X_BadNest) = some false)
    (kk_TooLong_BadCall : PySem.W.kitOne K (.ref X_TooLong) (.ref X_BadCall) = some false)
    (kk_TooLong_NoName : PySem.W.kitOne K (.ref X_TooLong) (.ref X_NoName) = some false)
    (kk_TooLong_BadBits : PySem.W.kitOne K (.ref X_TooLong) (.ref X_BadBits) = some false)
    (kv_TooLong : PySem.W.kitOne K (.ref X_TooLong) (.type "ValueError") = some true)
    {f0 : Addr} {oc0 kV0 dc0 pm0 cd0 ct0 : Value} {od0 an0 : Option Addr} {sl0 : Array (Option Value)} (a0 : PySem.W.findIn K (.ref X_TooLong) "__init__" = some (some (.ref f0))) (i0 : PySem.W.isFn K (.ref f0) = true) (l0 : K.lookup f0 = some ⟨oc0, od0, .func (PySem.W.fnOf "__init__" "TooLong.__init__" (defArgs s_TooLong_init) (defBody s_TooLong_init) (defScope s_TooLong_init) .none kV0 dc0 pm0 an0 cd0 ct0), sl0⟩) (c0 : PySem.W.codeIn K cd0 "TooLong.__init__" = true) (k0 : PySem.W.keepIn K (.ref f0) = true)
    {f1 : Addr} {oc1 kV1 dc1 pm1 cd1 ct1 : Value} {od1 an1 : Option Addr} {sl1 : Array (Option Value)} (a1 : PySem.W.nsIn K mainGlobals "names_of" = some (some (.ref f1))) (l1 : K.lookup f1 = some ⟨oc1, od1, .func (PySem.W.fnOf "names_of" "names_of" (defArgs s_names_of) (defBody s_names_of) (defScope s_names_of) .none kV1 dc1 pm1 an1 cd1 ct1), sl1⟩) (c1 : PySem.W.codeIn K cd1 "names_of" = true) (k1 : PySem.W.keepIn K (.ref f1) = true)
    {f2 : Addr} {oc2 kV2 dc2 pm2 cd2 ct2 : Value} {od2 an2 : Option Addr} {sl2 : Array (Option Value)} (a2 : PySem.W.nsIn K mainGlobals "reads" = some (some (.ref f2))) (l2 : K.lookup f2 = some ⟨oc2, od2, .func (PySem.W.fnOf "reads" "reads" (defArgs s_reads) (defBody s_reads) (defScope s_reads) .none kV2 dc2 pm2 an2 cd2 ct2), sl2⟩) (c2 : PySem.W.codeIn K cd2 "reads" = true) (k2 : PySem.W.keepIn K (.ref f2) = true)
    {f3 : Addr} {oc3 kV3 dc3 pm3 cd3 ct3 : Value} {od3 an3 : Option Addr} {sl3 : Array (Option Value)} (a3 : PySem.W.nsIn K mainGlobals "gives" = some (some (.ref f3))) (l3 : K.lookup f3 = some ⟨oc3, od3, .func (PySem.W.fnOf "gives" "gives" (defArgs s_gives) (defBody s_gives) (defScope s_gives) .none kV3 dc3 pm3 an3 cd3 ct3), sl3⟩) (c3 : PySem.W.codeIn K cd3 "gives" = true) (k3 : PySem.W.keepIn K (.ref f3) = true)
    {f4 : Addr} {oc4 kV4 dc4 pm4 cd4 ct4 : Value} {od4 an4 : Option Addr} {sl4 : Array (Option Value)} (a4 : PySem.W.nsIn K mainGlobals "atoms_of" = some (some (.ref f4))) (l4 : K.lookup f4 = some ⟨oc4, od4, .func (PySem.W.fnOf "atoms_of" "atoms_of" (defArgs s_atoms_of) (defBody s_atoms_of) (defScope s_atoms_of) .none kV4 dc4 pm4 an4 cd4 ct4), sl4⟩) (c4 : PySem.W.codeIn K cd4 "atoms_of" = true) (k4 : PySem.W.keepIn K (.ref f4) = true)
    {f5 : Addr} {oc5 kV5 dc5 pm5 cd5 ct5 : Value} {od5 an5 : Option Addr} {sl5 : Array (Option Value)} (a5 : PySem.W.nsIn K mainGlobals "each_once" = some (some (.ref f5))) (l5 : K.lookup f5 = some ⟨oc5, od5, .func (PySem.W.fnOf "each_once" "each_once" (defArgs s_each_once) (defBody s_each_once) (defScope s_each_once) .none kV5 dc5 pm5 an5 cd5 ct5), sl5⟩) (c5 : PySem.W.codeIn K cd5 "each_once" = true) (k5 : PySem.W.keepIn K (.ref f5) = true)
    {f6 : Addr} {oc6 kV6 dc6 pm6 cd6 ct6 : Value} {od6 an6 : Option Addr} {sl6 : Array (Option Value)} (a6 : PySem.W.nsIn K mainGlobals "ways" = some (some (.ref f6))) (l6 : K.lookup f6 = some ⟨oc6, od6, .func (PySem.W.fnOf "ways" "ways" (defArgs s_ways) (defBody s_ways) (defScope s_ways) .none kV6 dc6 pm6 an6 cd6 ct6), sl6⟩) (c6 : PySem.W.codeIn K cd6 "ways" = true) (k6 : PySem.W.keepIn K (.ref f6) = true)
    {f7 : Addr} {oc7 kV7 dc7 pm7 cd7 ct7 : Value} {od7 an7 : Option Addr} {sl7 : Array (Option Value)} (a7 : PySem.W.nsIn K mainGlobals "begins_of" = some (some (.ref f7))) (l7 : K.lookup f7 = some ⟨oc7, od7, .func (PySem.W.fnOf "begins_of" "begins_of" (defArgs s_begins_of) (defBody s_begins_of) (defScope s_begins_of) .none kV7 dc7 pm7 an7 cd7 ct7), sl7⟩) (c7 : PySem.W.codeIn K cd7 "begins_of" = true) (k7 : PySem.W.keepIn K (.ref f7) = true)
    {f8 : Addr} {oc8 kV8 dc8 pm8 cd8 ct8 : Value} {od8 an8 : Option Addr} {sl8 : Array (Option Value)} (a8 : PySem.W.nsIn K mainGlobals "firsts_behind" = some (some (.ref f8))) (l8 : K.lookup f8 = some ⟨oc8, od8, .func (PySem.W.fnOf "firsts_behind" "firsts_behind" (defArgs s_firsts_behind) (defBody s_firsts_behind) (defScope s_firsts_behind) .none kV8 dc8 pm8 an8 cd8 ct8), sl8⟩) (c8 : PySem.W.codeIn K cd8 "firsts_behind" = true) (k8 : PySem.W.keepIn K (.ref f8) = true)
    {f9 : Addr} {oc9 kV9 dc9 pm9 cd9 ct9 : Value} {od9 an9 : Option Addr} {sl9 : Array (Option Value)} (a9 : PySem.W.findIn K (.ref C_Flows) "__init__" = some (some (.ref f9))) (i9 : PySem.W.isFn K (.ref f9) = true) (l9 : K.lookup f9 = some ⟨oc9, od9, .func (PySem.W.fnOf "__init__" "Flows.__init__" (defArgs s_Flows_init) (defBody s_Flows_init) (defScope s_Flows_init) .none kV9 dc9 pm9 an9 cd9 ct9), sl9⟩) (c9 : PySem.W.codeIn K cd9 "Flows.__init__" = true) (k9 : PySem.W.keepIn K (.ref f9) = true)
    {f10 : Addr} {oc10 kV10 dc10 pm10 cd10 ct10 : Value} {od10 an10 : Option Addr} {sl10 : Array (Option Value)} (a10 : PySem.W.findIn K (.ref C_Flows) "row_at" = some (some (.ref f10))) (i10 : PySem.W.isFn K (.ref f10) = true) (l10 : K.lookup f10 = some ⟨oc10, od10, .func (PySem.W.fnOf "row_at" "Flows.row_at" (defArgs s_Flows_row_at) (defBody s_Flows_row_at) (defScope s_Flows_row_at) .none kV10 dc10 pm10 an10 cd10 ct10), sl10⟩) (c10 : PySem.W.codeIn K cd10 "Flows.row_at" = true) (k10 : PySem.W.keepIn K (.ref f10) = true)
    {f11 : Addr} {oc11 kV11 dc11 pm11 cd11 ct11 : Value} {od11 an11 : Option Addr} {sl11 : Array (Option Value)} (a11 : PySem.W.findIn K (.ref C_Flows) "ways_at" = some (some (.ref f11))) (i11 : PySem.W.isFn K (.ref f11) = true) (l11 : K.lookup f11 = some ⟨oc11, od11, .func (PySem.W.fnOf "ways_at" "Flows.ways_at" (defArgs s_Flows_ways_at) (defBody s_Flows_ways_at) (defScope s_Flows_ways_at) .none kV11 dc11 pm11 an11 cd11 ct11), sl11⟩) (c11 : PySem.W.codeIn K cd11 "Flows.ways_at" = true) (k11 : PySem.W.keepIn K (.ref f11) = true)
    {f12 : Addr} {oc12 kV12 dc12 pm12 cd12 ct12 : Value} {od12 an12 : Option Addr} {sl12 : Array (Option Value)} (a12 : PySem.W.nsIn K mainGlobals "moved" = some (some (.ref f12))) (l12 : K.lookup f12 = some ⟨oc12, od12, .func (PySem.W.fnOf "moved" "moved" (defArgs s_moved) (defBody s_moved) (defScope s_moved) .none kV12 dc12 pm12 an12 cd12 ct12), sl12⟩) (c12 : PySem.W.codeIn K cd12 "moved" = true) (k12 : PySem.W.keepIn K (.ref f12) = true)
    {f13 : Addr} {oc13 kV13 dc13 pm13 cd13 ct13 : Value} {od13 an13 : Option Addr} {sl13 : Array (Option Value)} (a13 : PySem.W.nsIn K mainGlobals "plan" = some (some (.ref f13))) (l13 : K.lookup f13 = some ⟨oc13, od13, .func (PySem.W.fnOf "plan" "plan" (defArgs s_plan) (defBody s_plan) (defScope s_plan) .none kV13 dc13 pm13 an13 cd13 ct13), sl13⟩) (c13 : PySem.W.codeIn K cd13 "plan" = true) (k13 : PySem.W.keepIn K (.ref f13) = true)
    {f14 : Addr} {oc14 kV14 dc14 pm14 cd14 ct14 : Value} {od14 an14 : Option Addr} {sl14 : Array (Option Value)} (a14 : PySem.W.nsIn K mainGlobals "plan_in" = some (some (.ref f14))) (l14 : K.lookup f14 = some ⟨oc14, od14, .func (PySem.W.fnOf "plan_in" "plan_in" (defArgs s_plan_in) (defBody s_plan_in) (defScope s_plan_in) .none kV14 dc14 pm14 an14 cd14 ct14), sl14⟩) (c14 : PySem.W.codeIn K cd14 "plan_in" = true) (k14 : PySem.W.keepIn K (.ref f14) = true)
    {f15 : Addr} {oc15 kV15 dc15 pm15 cd15 ct15 : Value} {od15 an15 : Option Addr} {sl15 : Array (Option Value)} (a15 : PySem.W.nsIn K mainGlobals "stops_behind" = some (some (.ref f15))) (l15 : K.lookup f15 = some ⟨oc15, od15, .func (PySem.W.fnOf "stops_behind" "stops_behind" (defArgs s_stops_behind) (defBody s_stops_behind) (defScope s_stops_behind) .none kV15 dc15 pm15 an15 cd15 ct15), sl15⟩) (c15 : PySem.W.codeIn K cd15 "stops_behind" = true) (k15 : PySem.W.keepIn K (.ref f15) = true)
    {f16 : Addr} {oc16 kV16 dc16 pm16 cd16 ct16 : Value} {od16 an16 : Option Addr} {sl16 : Array (Option Value)} (a16 : PySem.W.nsIn K mainGlobals "is_in_place" = some (some (.ref f16))) (l16 : K.lookup f16 = some ⟨oc16, od16, .func (PySem.W.fnOf "is_in_place" "is_in_place" (defArgs s_is_in_place) (defBody s_is_in_place) (defScope s_is_in_place) .none kV16 dc16 pm16 an16 cd16 ct16), sl16⟩) (c16 : PySem.W.codeIn K cd16 "is_in_place" = true) (k16 : PySem.W.keepIn K (.ref f16) = true)
    {f17 : Addr} {oc17 kV17 dc17 pm17 cd17 ct17 : Value} {od17 an17 : Option Addr} {sl17 : Array (Option Value)} (a17 : PySem.W.nsIn K mainGlobals "_law_cell_at" = some (some (.ref f17))) (l17 : K.lookup f17 = some ⟨oc17, od17, .func (PySem.W.fnOf "_law_cell_at" "_law_cell_at" (defArgs s_l_cell_at) (defBody s_l_cell_at) (defScope s_l_cell_at) .none kV17 dc17 pm17 an17 cd17 ct17), sl17⟩) (c17 : PySem.W.codeIn K cd17 "_law_cell_at" = true) (k17 : PySem.W.keepIn K (.ref f17) = true)
    {f18 : Addr} {oc18 kV18 dc18 pm18 cd18 ct18 : Value} {od18 an18 : Option Addr} {sl18 : Array (Option Value)} (a18 : PySem.W.nsIn K mainGlobals "_law_function" = some (some (.ref f18))) (l18 : K.lookup f18 = some ⟨oc18, od18, .func (PySem.W.fnOf "_law_function" "_law_function" (defArgs s_l_function) (defBody s_l_function) (defScope s_l_function) .none kV18 dc18 pm18 an18 cd18 ct18), sl18⟩) (c18 : PySem.W.codeIn K cd18 "_law_function" = true) (k18 : PySem.W.keepIn K (.ref f18) = true)
    {f19 : Addr} {oc19 kV19 dc19 pm19 cd19 ct19 : Value} {od19 an19 : Option Addr} {sl19 : Array (Option Value)} (a19 : PySem.W.nsIn K mainGlobals "_law_long" = some (some (.ref f19))) (l19 : K.lookup f19 = some ⟨oc19, od19, .func (PySem.W.fnOf "_law_long" "_law_long" (defArgs s_l_long) (defBody s_l_long) (defScope s_l_long) .none kV19 dc19 pm19 an19 cd19 ct19), sl19⟩) (c19 : PySem.W.codeIn K cd19 "_law_long" = true) (k19 : PySem.W.keepIn K (.ref f19) = true)
    {f20 : Addr} {oc20 kV20 dc20 pm20 cd20 ct20 : Value} {od20 an20 : Option Addr} {sl20 : Array (Option Value)} (a20 : PySem.W.nsIn K mainGlobals "_law_refused" = some (some (.ref f20))) (l20 : K.lookup f20 = some ⟨oc20, od20, .func (PySem.W.fnOf "_law_refused" "_law_refused" (defArgs s_l_refused) (defBody s_l_refused) (defScope s_l_refused) .none kV20 dc20 pm20 an20 cd20 ct20), sl20⟩) (c20 : PySem.W.codeIn K cd20 "_law_refused" = true) (k20 : PySem.W.keepIn K (.ref f20) = true)
    {f21 : Addr} {oc21 kV21 dc21 pm21 cd21 ct21 : Value} {od21 an21 : Option Addr} {sl21 : Array (Option Value)} (a21 : PySem.W.nsIn K mainGlobals "_law_is" = some (some (.ref f21))) (l21 : K.lookup f21 = some ⟨oc21, od21, .func (PySem.W.fnOf "_law_is" "_law_is" (defArgs s_l_is) (defBody s_l_is) (defScope s_l_is) .none kV21 dc21 pm21 an21 cd21 ct21), sl21⟩) (c21 : PySem.W.codeIn K cd21 "_law_is" = true) (k21 : PySem.W.keepIn K (.ref f21) = true)
    {f22 : Addr} {oc22 kV22 dc22 pm22 cd22 ct22 : Value} {od22 an22 : Option Addr} {sl22 : Array (Option Value)} (a22 : PySem.W.nsIn K mainGlobals "law" = some (some (.ref f22))) (l22 : K.lookup f22 = some ⟨oc22, od22, .func (PySem.W.fnOf "law" "law" (defArgs s_law) (defBody s_law) (defScope s_law) .none kV22 dc22 pm22 an22 cd22 ct22), sl22⟩) (c22 : PySem.W.codeIn K cd22 "law" = true) (k22 : PySem.W.keepIn K (.ref f22) = true)
    {tk0 : Tok} (w0 : PySem.W.nsIn K mainGlobals "MOST_STATIONS" = some (some (.int 200 tk0)))
    {tk1 : Tok} (w1 : PySem.W.nsIn K mainGlobals "MOST_FRAMES" = some (some (.int 3 tk1)))
    {aT0 : Addr} {odT0 : Option Addr} {itT0 : Array Value} {nT0 : Nat} {slT0 : Array (Option Value)} (q0 : PySem.W.nsIn K mainGlobals "GIVING_KINDS" = some (some (.ref aT0))) (m0 : K.lookup aT0 = some ⟨.type "tuple", odT0, .seq itT0 nT0, slT0⟩) (v0 : Vals (K12.giving.map V.str) itT0.toList) (s0 : itT0.size ≤ sizeLine)
    {aD0 : Addr} (qD0 : PySem.W.nsIn K mainGlobals "ATOM_PLACES" = some (some (.ref aD0))) (mD0 : PyProof.Rows.KTD.tabLook (tupLook K) (fun a => K.lookup a) aD0 K12.tabl = true)
    (z_len : PySem.W.nsIn K mainGlobals "len" = some none)
    (z_list : PySem.W.nsIn K mainGlobals "list" = some none)
    (z_tuple : PySem.W.nsIn K mainGlobals "tuple" = some none)
    (z_isinstance : PySem.W.nsIn K mainGlobals "isinstance" = some none)
    (z_range : PySem.W.nsIn K mainGlobals "range" = some none)
    (z_enumerate : PySem.W.nsIn K mainGlobals "enumerate" = some none)
    (z_dict : PySem.W.nsIn K mainGlobals "dict" = some none)
    (z_str : PySem.W.nsIn K mainGlobals "str" = some none)
    (z_min : PySem.W.nsIn K mainGlobals "min" = some none)
    (z_ValueError : PySem.W.nsIn K mainGlobals "ValueError" = some none)
    : ∃ t, Txt K mg t := by
  refine ⟨⟨X_GlassError, X_TooLong, X_BadNest, X_BadCall, X_NoName, X_BadBits, C_Flows, f0, PySem.W.fnOf "__init__" "TooLong.__init__" (defArgs s_TooLong_init) (defBody s_TooLong_init) (defScope s_TooLong_init) .none kV0 dc0 pm0 an0 cd0 ct0, f1, PySem.W.fnOf "names_of" "names_of" (defArgs s_names_of) (defBody s_names_of) (defScope s_names_of) .none kV1 dc1 pm1 an1 cd1 ct1, f2, PySem.W.fnOf "reads" "reads" (defArgs s_reads) (defBody s_reads) (defScope s_reads) .none kV2 dc2 pm2 an2 cd2 ct2, f3, PySem.W.fnOf "gives" "gives" (defArgs s_gives) (defBody s_gives) (defScope s_gives) .none kV3 dc3 pm3 an3 cd3 ct3, f4, PySem.W.fnOf "atoms_of" "atoms_of" (defArgs s_atoms_of) (defBody s_atoms_of) (defScope s_atoms_of) .none kV4 dc4 pm4 an4 cd4 ct4, f5, PySem.W.fnOf "each_once" "each_once" (defArgs s_each_once) (defBody s_each_once) (defScope s_each_once) .none kV5 dc5 pm5 an5 cd5 ct5, f6, PySem.W.fnOf "ways" "ways" (defArgs s_ways) (defBody s_ways) (defScope s_ways) .none kV6 dc6 pm6 an6 cd6 ct6, f7, PySem.W.fnOf "begins_of" "begins_of" (defArgs s_begins_of) (defBody s_begins_of) (defScope s_begins_of) .none kV7 dc7 pm7 an7 cd7 ct7, f8, PySem.W.fnOf "firsts_behind" "firsts_behind" (defArgs s_firsts_behind) (defBody s_firsts_behind) (defScope s_firsts_behind) .none kV8 dc8 pm8 an8 cd8 ct8, f9, PySem.W.fnOf "__init__" "Flows.__init__" (defArgs s_Flows_init) (defBody s_Flows_init) (defScope s_Flows_init) .none kV9 dc9 pm9 an9 cd9 ct9, f10, PySem.W.fnOf "row_at" "Flows.row_at" (defArgs s_Flows_row_at) (defBody s_Flows_row_at) (defScope s_Flows_row_at) .none kV10 dc10 pm10 an10 cd10 ct10, f11, PySem.W.fnOf "ways_at" "Flows.ways_at" (defArgs s_Flows_ways_at) (defBody s_Flows_ways_at) (defScope s_Flows_ways_at) .none kV11 dc11 pm11 an11 cd11 ct11, f12, PySem.W.fnOf "moved" "moved" (defArgs s_moved) (defBody s_moved) (defScope s_moved) .none kV12 dc12 pm12 an12 cd12 ct12, f13, PySem.W.fnOf "plan" "plan" (defArgs s_plan) (defBody s_plan) (defScope s_plan) .none kV13 dc13 pm13 an13 cd13 ct13, f14, PySem.W.fnOf "plan_in" "plan_in" (defArgs s_plan_in) (defBody s_plan_in) (defScope s_plan_in) .none kV14 dc14 pm14 an14 cd14 ct14, f15, PySem.W.fnOf "stops_behind" "stops_behind" (defArgs s_stops_behind) (defBody s_stops_behind) (defScope s_stops_behind) .none kV15 dc15 pm15 an15 cd15 ct15, f16, PySem.W.fnOf "is_in_place" "is_in_place" (defArgs s_is_in_place) (defBody s_is_in_place) (defScope s_is_in_place) .none kV16 dc16 pm16 an16 cd16 ct16, f17, PySem.W.fnOf "_law_cell_at" "_law_cell_at" (defArgs s_l_cell_at) (defBody s_l_cell_at) (defScope s_l_cell_at) .none kV17 dc17 pm17 an17 cd17 ct17, f18, PySem.W.fnOf "_law_function" "_law_function" (defArgs s_l_function) (defBody s_l_function) (defScope s_l_function) .none kV18 dc18 pm18 an18 cd18 ct18, f19, PySem.W.fnOf "_law_long" "_law_long" (defArgs s_l_long) (defBody s_l_long) (defScope s_l_long) .none kV19 dc19 pm19 an19 cd19 ct19, f20, PySem.W.fnOf "_law_refused" "_law_refused" (defArgs s_l_refused) (defBody s_l_refused) (defScope s_l_refused) .none kV20 dc20 pm20 an20 cd20 ct20, f21, PySem.W.fnOf "_law_is" "_law_is" (defArgs s_l_is) (defBody s_l_is) (defScope s_l_is) .none kV21 dc21 pm21 an21 cd21 ct21, f22, PySem.W.fnOf "law" "law" (defArgs s_law) (defBody s_law) (defScope s_law) .none kV22 dc22 pm22 an22 cd22 ct22, aT0, aD0⟩, ?_⟩
  have bl : ∀ (s : Shared) (u : Value), BindsTo s (PySem.W.fnOf "law" "law" (defArgs s_law) (defBody s_law) (defScope s_law) .none kV22 dc22 pm22 an22 cd22 ct22) ⟨[u], []⟩ [("_law_script", u)] := fun s u => .of_eq rfl
  exact ⟨(xClsOk_mk X G xa_GlassError xl_GlassError xv_GlassError xk_GlassError xs_GlassError xg_GlassError xt_GlassError xc_GlassError sg0 tkX0),
    (xClsOk_mk X G xa_TooLong xl_TooLong xv_TooLong xk_TooLong xs_TooLong xg_TooLong xt_TooLong xc_TooLong sg0 tkX0),
    (PySem.W.mg_of X G xa_BadNest),
    (PySem.W.mg_of X G xa_BadCall),
    (PySem.W.mg_of X G xa_NoName),
    (PySem.W.mg_of X G xa_BadBits),
    (na_TooLong_function),
    (e_TooLong),
    (kk_TooLong_TooLong),
    (kk_TooLong_BadNest),
    (kk_TooLong_BadCall),
    (kk_TooLong_NoName),
    (kk_TooLong_BadBits),
    (kv_TooLong),
    (xIniOk_mk a0 i0 l0 c0 k0 fun _ _ _ _ _ _ us hl => match us, hl with | [_, _], _ => rfl),
    (defOk_mk X G a1 l1 c1 k1 fun _ _ _ _ _ _ us hl => match us, hl with | [_], _ => rfl),
    (defOk_mk X G a2 l2 c2 k2 fun _ _ _ _ _ _ us hl => match us, hl with | [_], _ => rfl),
    (defOk_mk X G a3 l3 c3 k3 fun _ _ _ _ _ _ us hl => match us, hl with | [_], _ => rfl),
    (defOk_mk X G a4 l4 c4 k4 fun _ _ _ _ _ _ us hl => match us, hl with | [_], _ => rfl),
    (defOk_mk X G a5 l5 c5 k5 fun _ _ _ _ _ _ us hl => match us, hl with | [_], _ => rfl),
    (defOk_mk X G a6 l6 c6 k6 fun _ _ _ _ _ _ us hl => match us, hl with | [_], _ => rfl),
    (defOk_mk X G a7 l7 c7 k7 fun _ _ _ _ _ _ us hl => match us, hl with | [_], _ => rfl),
    (defOk_mk X G a8 l8 c8 k8 fun _ _ _ _ _ _ us hl => match us, hl with | [_, _], _ => rfl),
    (iniOk_mk mk_Flows kc_Flows a9 i9 l9 c9 k9 fun _ _ _ _ _ _ us hl => match us, hl with | [_, _], _ => rfl),
    (metOk_mk a10 i10 l10 c10 k10 fun _ _ _ _ _ _ us hl => match us, hl with | [_, _], _ => rfl),
    (metOk_mk a11 i11 l11 c11 k11 fun _ _ _ _ _ _ us hl => match us, hl with | [_, _], _ => rfl),
    (defOk_mk X G a12 l12 c12 k12 fun _ _ _ _ _ _ us hl => match us, hl with | [_, _, _], _ => rfl),
    (defOk_mk X G a13 l13 c13 k13 fun _ _ _ _ _ _ us hl => match us, hl with | [_, _], _ => rfl),
    (defOk_mk X G a14 l14 c14 k14 fun _ _ _ _ _ _ us hl => match us, hl with | [_, _], _ => rfl),
    (defOk_mk X G a15 l15 c15 k15 fun _ _ _ _ _ _ us hl => match us, hl with | [_, _, _], _ => rfl),
    (defOk_mk X G a16 l16 c16 k16 fun _ _ _ _ _ _ us hl => match us, hl with | [_, _], _ => rfl),
    (defOk_mk X G a17 l17 c17 k17 fun _ _ _ _ _ _ us hl => match us, hl with | [_, _], _ => rfl),
    (defOk_mk X G a18 l18 c18 k18 fun _ _ _ _ _ _ us hl => match us, hl with | [_, _, _, _, _], _ => rfl),
    (defOk_mk X G a19 l19 c19 k19 fun _ _ _ _ _ _ us hl => match us, hl with | [_], _ => rfl),
    (defOk_mk X G a20 l20 c20 k20 fun _ _ _ _ _ _ us hl => match us, hl with | [_, _], _ => rfl),
    (defOk_mk X G a21 l21 c21 k21 fun _ _ _ _ _ _ us hl => match us, hl with | [_, _, _], _ => rfl),
    (defOk_mk X G a22 l22 c22 k22 fun _ _ _ _ _ _ us hl => match us, hl with | [_], _ => rfl),
    ⟨⟨pg_Flows, hd_Flows, po_Flows, sa_Flows⟩, PySem.W.mg_of X G aC_Flows⟩,
    n_Flows_last,
    n_Flows_number_of,
    n_Flows_folded_of,
    n_Flows_params_of,
    n_Flows_rows_of,
    n_Flows_names_in,
    n_Flows_ways_in,
    ⟨_, PySem.W.mg_of X G w0⟩,
    ⟨_, PySem.W.mg_of X G w1⟩,
    PySem.W.mg_of X G q0,
    (fun H => .inr ⟨_, itT0, nT0, m0, rfl, rfl, s0, v0⟩),
    PySem.W.mg_of X G qD0,
    tabK_of_look mD0,
    PySem.W.mg_none_of X G z_len,
    PySem.W.mg_none_of X G z_list,
    PySem.W.mg_none_of X G z_tuple,
    PySem.W.mg_none_of X G z_isinstance,
    PySem.W.mg_none_of X G z_range,
    PySem.W.mg_none_of X G z_enumerate,
    PySem.W.mg_none_of X G z_dict,
    PySem.W.mg_none_of X G z_str,
    PySem.W.mg_none_of X G z_min,
    PySem.W.mg_none_of X G z_ValueError,
    bl⟩
end K55
open PySem PySem.W PyProof.Rows
set_option maxRecDepth 100000 in
set_option maxHeartbeats 0 in
theorem PySem.Challenge.cw_stopglass_k55_too_long_holds : PySem.Challenge.rw_stopglass_k55_too_long.Holds := by
  refine Hd.pk.2 ?_
  unfold Hd.pk
  dsimp only
  k_fill
  refine L2.walk_ofK (l := PySem.Challenge.rw_stopglass_k55_too_long) (n := 63) (k := 10) (x := "_law_script") (CX := L2.CX0) (sp := K55.sp_law) rfl (by decide) rfl ⟨rfl, by decide, by decide⟩ (fun w h Y => PySem.W.kIn_of Y) ?F ?S ?C
  case F =>
    intro w mg fa h KX G hmg
    have T : ∃ t, K55.Txt (L2.KOf KX) mg t := by
      dsimp only [L2.KOf]
      refine' K55.txt_mk KX G ?aC_Flows ?pg_Flows ?hd_Flows ?po_Flows ?sa_Flows ?mk_Flows ?kc_Flows ?n_Flows_last ?n_Flows_number_of ?n_Flows_folded_of ?n_Flows_params_of ?n_Flows_rows_of ?n_Flows_names_in ?n_Flows_ways_in ?xa_GlassError ?xl_GlassError ?xv_GlassError ?xk_GlassError ?xs_GlassError ?xg_GlassError ?xt_GlassError ?xc_GlassError ?xa_TooLong ?xl_TooLong ?xv_TooLong ?xk_TooLong ?xs_TooLong ?xg_TooLong ?xt_TooLong ?xc_TooLong ?sg0 ?tkX0 ?xa_BadNest ?xa_BadCall ?xa_NoName ?xa_BadBits ?na_TooLong_function ?e_TooLong ?kk_TooLong_TooLong ?kk_TooLong_BadNest ?kk_TooLong_BadCall ?kk_TooLong_NoName ?kk_TooLong_BadBits ?kv_TooLong ?a0 ?i0 ?l0 ?c0 ?k0 ?a1 ?l1 ?c1 ?k1 ?a2 ?l2 ?c2 ?k2 ?a3 ?l3 ?c3 ?k3 ?a4 ?l4 ?c4 ?k4 ?a5 ?l5 ?c5 ?k5 ?a6 ?l6 ?c6 ?k6 ?a7 ?l7 ?c7 ?k7 ?a8 ?l8 ?c8 ?k8 ?a9 ?i9 ?l9 ?c9 ?k9 ?a10 ?i10 ?l10 ?c10 ?k10 ?a11 ?i11 ?l11 ?c11 ?k11 ?a12 ?l12 ?c12 ?k12 ?a13 ?l13 ?c13 ?k13 ?a14 ?l14 ?c14 ?k14 ?a15 ?l15 ?c15 ?k15 ?a16 ?l16 ?c16 ?k16 ?a17 ?l17 ?c17 ?k17 ?a18 ?l18 ?c18 ?k18 ?a19 ?l19 ?c19 ?k19 ?a20 ?l20 ?c20 ?k20 ?a21 ?l21 ?c21 ?k21 ?a22 ?l22 ?c22 ?k22 ?w0 ?w1 ?q0 ?m0 ?v0 ?s0 ?qD0 ?mD0 ?z_len ?z_list ?z_tuple ?z_isinstance ?z_range ?z_enumerate ?z_dict ?z_str ?z_min ?z_ValueError
      (case aC_Flows => k_is)
      (case pg_Flows => k_is)
      (case hd_Flows => k_is)
      (case po_Flows => k_is)
      (case sa_Flows => k_is)
      (case mk_Flows => k_is)
      (case kc_Flows => k_is)
      (case n_Flows_last => k_is)
      (case n_Flows_number_of => k_is)
      (case n_Flows_folded_of => k_is)
      (case n_Flows_params_of => k_is)
      (case n_Flows_rows_of => k_is)
      (case n_Flows_names_in => k_is)
      (case n_Flows_ways_in => k_is)
      (case xa_GlassError => k_is)
      (case xl_GlassError => k_is)
      (case xv_GlassError => first | k_is | kernel_rfl)
      (case xk_GlassError => k_is)
      (case xs_GlassError => k_is)
      (case xg_GlassError => k_is)
      (case xt_GlassError => k_is)
      (case xc_GlassError => k_is)
      (case xa_TooLong => k_is)
      (case xl_TooLong => k_is)
      (case xv_TooLong => first | k_is | kernel_rfl)
      (case xk_TooLong => k_is)
      (case xs_TooLong => k_is)
      (case xg_TooLong => k_is)
      (case xt_TooLong => k_is)
      (case xc_TooLong => k_is)
      (case sg0 => first | k_is | kernel_rfl)
      (case tkX0 => first | k_is | kernel_rfl)
      (case xa_BadNest => k_is)
      (case xa_BadCall => k_is)
      (case xa_NoName => k_is)
      (case xa_BadBits => k_is)
      (case na_TooLong_function => first | k_is | kernel_rfl)
      (case e_TooLong => first | k_is | kernel_rfl)
      (case kk_TooLong_TooLong => first | k_is | kernel_rfl)
      (case kk_TooLong_BadNest => first | k_is | kernel_rfl)
      (case kk_TooLong_BadCall => first | k_is | kernel_rfl)
      (case kk_TooLong_NoName => first | k_is | kernel_rfl)
      (case kk_TooLong_BadBits => first | k_is | kernel_rfl)
      (case kv_TooLong => first | k_is | kernel_rfl)
      (case a0 => k_is)
      (case i0 => k_is)
      (case l0 => k_is)
      (case c0 => k_is)
      (case k0 => k_is)
      (case a1 => k_is)
      (case l1 => k_is)
      (case c1 => k_is)
      (case k1 => k_is)
      (case a2 => k_is)
      (case l2 => k_is)
      (case c2 => k_is)
      (case k2 => k_is)
      (case a3 => k_is)
      (case l3 => k_is)
      (case c3 => k_is)
      (case k3 => k_is)
      (case a4 => k_is)
      (case l4 => k_is)
      (case c4 => k_is)
      (case k4 => k_is)
      (case a5 => k_is)
      (case l5 => k_is)
      (case c5 => k_is)
      (case k5 => k_is)
      (case a6 => k_is)
      (case l6 => k_is)
      (case c6 => k_is)
      (case k6 => k_is)
      (case a7 => k_is)
      (case l7 => k_is)
      (case c7 => k_is)
      (case k7 => k_is)
      (case a8 => k_is)
      (case l8 => k_is)
      (case c8 => k_is)
      (case k8 => k_is)
      (case a9 => k_is)
      (case i9 => k_is)
      (case l9 => k_is)
      (case c9 => k_is)
      (case k9 => k_is)
      (case a10 => k_is)
      (case i10 => k_is)
      (case l10 => k_is)
      (case c10 => k_is)
      (case k10 => k_is)
      (case a11 => k_is)
      (case i11 => k_is)
      (case l11 => k_is)
      (case c11 => k_is)
      (case k11 => k_is)
      (case a12 => k_is)
      (case l12 => k_is)
      (case c12 => k_is)
      (case k12 => k_is)
      (case a13 => k_is)
      (case l13 => k_is)
      (case c13 => k_is)
      (case k13 => k_is)
      (case a14 => k_is)
      (case l14 => k_is)
      (case c14 => k_is)
      (case k14 => k_is)
      (case a15 => k_is)
      (case l15 => k_is)
      (case c15 => k_is)
      (case k15 => k_is)
      (case a16 => k_is)
      (case l16 => k_is)
      (case c16 => k_is)
      (case k16 => k_is)
      (case a17 => k_is)
      (case l17 => k_is)
      (case c17 => k_is)
      (case k17 => k_is)
      (case a18 => k_is)
      (case l18 => k_is)
      (case c18 => k_is)
      (case k18 => k_is)
      (case a19 => k_is)
      (case l19 => k_is)
      (case c19 => k_is)
      (case k19 => k_is)
      (case a20 => k_is)
      (case l20 => k_is)
      (case c20 => k_is)
      (case k20 => k_is)
      (case a21 => k_is)
      (case l21 => k_is)
      (case c21 => k_is)
      (case k21 => k_is)
      (case a22 => k_is)
      (case l22 => k_is)
      (case c22 => k_is)
      (case k22 => k_is)
      (case w0 => k_is)
      (case w1 => k_is)
      (case q0 => k_is)
      (case m0 => k_is)
      (case v0 => (repeat (first | exact .nil | refine .cons ⟨_, rfl⟩ ?_)))
      (case s0 => decide)
      (case qD0 => k_is)
      (case mD0 => kernel_rfl)
      (case z_len => k_is)
      (case z_list => k_is)
      (case z_tuple => k_is)
      (case z_isinstance => k_is)
      (case z_range => k_is)
      (case z_enumerate => k_is)
      (case z_dict => k_is)
      (case z_str => k_is)
      (case z_min => k_is)
      (case z_ValueError => k_is)
    obtain ⟨t, T⟩ := T
    have e0 := hmg.symm.trans T.law.g
    cases e0
    exact ⟨t.d_law, T.bl, fun base kb nb => K55.ok_law T⟩
  case S => exact fun K H a ns hl hO hS => ⟨a, ns, rfl, hS, hl, fun _ => rfl⟩
  case C => exact fun _ _ _ _ z => z


