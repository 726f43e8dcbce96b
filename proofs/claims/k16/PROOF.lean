import PyProof.Rows.All
import Wide.All
import OpenK.AllK
import Wide.FinOn
import Lean
import PyProof.EqAt
import PyProof.EqKinds
import PyProof.TupleCall
import KE.KDictLaws
import KE.KDictOf
import KE.KEqDict
import KE.BitLaws
import PyProof.ZipIter
import PyProof.Rows.ZipGen
import PyProof.Rows.StrSplitAre
import PyProof.ExcInit
import PyProof.ExcBaseAll.ValueError
import PyProof.PassesOwn
import PyProof.StationsW
import PyProof.InstStoreFacts
import PyProof.ExcAttrAll.ValueError
import PyProof.NsDelKeeps
import KE.KListMore
import KE.IntTextText
import PySem.Challenge.RW_stopglass_k16_programs_in_order
set_option Elab.async false
set_option linter.all false
set_option maxRecDepth 100000

section
namespace Hd
open PySem PySem.W PyProof.Rows
lay_quick PySem.W.topFrom
lay_quick PySem.Challenge.pw_stopglass_k16_programs_in_order
noncomputable abbrev TQ := PySem.W.Fast.tw370005188180407882 PySem.W.Fast.tw14364793385576792824
noncomputable abbrev OQ := PySem.W.Fast.tw4187177175401517315
noncomputable abbrev tp : Program := PySem.W.Fast.tw1243222098045490325
abbrev lo : List Str := []
def keeps : PySem.Stmt → Bool
 | .Assign [.Name x _] _ _ => !decide (x = "__name__")
 | _ => true
def viewOf (p : Program) : Program := { p with main := { p.main with body := p.main.body.filter keeps } }
abbrev Xf : Program → Shared → Bool := (fun p s => xlAt (viewOf p) [] s && recOk (RowW.records (OpenRow.toRowW (OpenLaw.row PySem.Challenge.rw_stopglass_k16_programs_in_order))) s)
noncomputable def S0 (w : World) (os : OsState) : Shared := ⟨boot_heap w.params, Array.mk [], boot_drawn, boot_toks, os⟩
section
local macro_rules | `(tactic| o_head $H) => `(tactic| (case Hk => exact $H))
noncomputable def hk : (H : Hook) ×' ((∀ P : Prop, P) → PySem.Challenge.rw_stopglass_k16_programs_in_order.Holds) := by
 refine ⟨?Hk, fun h => ?m⟩
 rotate_left
 w_on; o_law; k_head; exact h _
end
theorem r0 : ∀ (w : World) (os : OsState), (TQ tp (w.withFollow "special-get-raises" false) 20000 (S0 (w.withFollow "special-get-raises" false) os)).map (fun s => (OQ (viewOf tp) lo (importedModules tp.main.body) (Xf tp) true s, Hook.obs hk.1 s)) = some (openGood (viewOf tp) lo, Hook.val hk.1 (w.withFollow "special-get-raises" false)) := by
 intro w os; kernel_rfl
theorem r1 : ∀ (w : World) (os : OsState), (TQ tp (w.withFollow "special-get-raises" true) 20000 (S0 (w.withFollow "special-get-raises" true) os)).map (fun s => (OQ (viewOf tp) lo (importedModules tp.main.body) (Xf tp) true s, Hook.obs hk.1 s)) = some (openGood (viewOf tp) lo, Hook.val hk.1 (w.withFollow "special-get-raises" true)) := by
 intro w os; kernel_rfl
theorem left_twin {p p' : Program} {F : Program → Program} {X : Program → Shared → Bool} {loose : List Str} {α : Type} {Yf : Shared → α} {Ya : World → α} {N : Nat} {g0 : Bool} (row : String) (ep : p = p') (e : opening p = plainProg p.main.scope.names) (hN : Nat.ble 600 N = true) (f : ∀ s, fenceModules? p s = some s)
  (h0 : ∀ (w : World) (os : OsState), (TQ p' (w.withFollow row false) N (S0 (w.withFollow row false) os)).map (fun s => (OQ (F p') loose (importedModules p'.main.body) (X p') g0 s, Yf s)) = some (openGood (F p') loose, Ya (w.withFollow row false)))
  (h1 : ∀ (w : World) (os : OsState), (TQ p' (w.withFollow row true) N (S0 (w.withFollow row true) os)).map (fun s => (OQ (F p') loose (importedModules p'.main.body) (X p') g0 s, Yf s)) = some (openGood (F p') loose, Ya (w.withFollow row true))) : LeftO p (F p) loose (X p) Yf Ya N g0 := fun w => by
 subst ep
 have key : ∀ b, (openEnds treeTable p (w.withFollow row b) N).map (fun s => (openSeen (F p) loose (importedModules p.main.body) (X p) g0 s, Yf s)) = some (openGood (F p) loose, Ya (w.withFollow row b)) := by
  intro b
  obtain ⟨s, hs, hv⟩ := Option.map_eq_some_iff.mp (boot_open e hN f (w.withFollow row b))
  have es : s = S0 (w.withFollow row b) s.os := by
   cases s
   simp only [Prod.mk.injEq] at hv
   obtain ⟨a1, a2, a3, a4⟩ := hv
   subst a1 a2 a3 a4
   rfl
  unfold openEnds
  rw [hs, es, PySem.W.Fast.te370005188180407882, PySem.W.Fast.te14364793385576792824, PySem.W.Fast.te4187177175401517315]
  cases b
  . exact h0 w s.os
  . exact h1 w s.os
 have e0 := World.withFollow_self w row
 have := key (w.params.followText row)
 rwa [e0] at this
theorem left : LeftO PySem.Challenge.pw_stopglass_k16_programs_in_order (viewOf PySem.Challenge.pw_stopglass_k16_programs_in_order) lo (Xf PySem.Challenge.pw_stopglass_k16_programs_in_order) (Hook.obs hk.1) (Hook.val hk.1) 20000 true :=
 left_twin (p := PySem.Challenge.pw_stopglass_k16_programs_in_order) (p' := tp) (F := viewOf) (X := Xf) (loose := lo) (Yf := Hook.obs hk.1) (Ya := Hook.val hk.1) (N := 20000) (g0 := true) "special-get-raises" PySem.W.Fast.te1243222098045490325 (by kernel_rfl) (by decide) (fun s => by kernel_rfl) r0 r1
theorem left_of {H : Hook} (e : H = hk.1) : LeftO PySem.Challenge.pw_stopglass_k16_programs_in_order (viewOf PySem.Challenge.pw_stopglass_k16_programs_in_order) lo (Xf PySem.Challenge.pw_stopglass_k16_programs_in_order) (Hook.obs H) (Hook.val H) 20000 true := by subst e; exact left
local macro_rules | `(tactic| o_head $H) => `(tactic| (
 refine holds_open (q := viewOf PySem.Challenge.pw_stopglass_k16_programs_in_order) (loose := lo) (Xt := Xf PySem.Challenge.pw_stopglass_k16_programs_in_order) (XP := XL (viewOf PySem.Challenge.pw_stopglass_k16_programs_in_order) []) (Yf := Hook.obs $H) (Ya := Hook.val $H) (YP := Hook.says $H) (N := 20000) ?hl (Hook.of $H) (Hook.keeps $H) (fun s e => xl_of s (Bool.and_eq_true_iff.mp e).1) XL.keeps (by rfl) (by rfl) (by rfl) (fun s e => recFacts_of (Bool.and_eq_true_iff.mp e).2) (by rfl) (by assumption) (by decide +kernel) ⟨rfl, rfl, rfl, rfl, rfl, by decide +kernel⟩ ?hw ?hc
 (case hl => exact left_of (H := $H) (by kernel_rfl))))
set_option maxHeartbeats 0 in
noncomputable def pk : (G : Prop) ×' (G → PySem.Challenge.rw_stopglass_k16_programs_in_order.Holds) := by
 refine' ⟨_, fun h => _⟩
 rotate_left
 w_on; o_law; k_head; (case hw => w_witness2)
 exact h
end Hd
end
namespace L2
open PySem PySem.Spec PyProof.Rows


abbrev Key := Sum Int Str
def keyIs : Key → Value → Bool
  | .inl k, v => Value.isInt k v
  | .inr x, v => Value.isStrOf x v
def keyH (w : World) : Key → Int
  | .inl k => hashInt k
  | .inr x => hashStr w x
theorem keyIs_shape : ∀ {k : Key} {v : Value}, keyIs k v = true → (∃ i t, k = Sum.inl i ∧ v = Value.int i t) ∨ (∃ x t, k = Sum.inr x ∧ v = Value.str x t)
  | .inl i, v, h => by
    obtain ⟨t, e⟩ := Value.isInt_shape (k := i) (v := v) h
    exact .inl ⟨i, t, rfl, e⟩
  | .inr x, v, h => by
    obtain ⟨t, e⟩ := Value.isStrOf_shape (x := x) (v := v) h
    exact .inr ⟨x, t, rfl, e⟩
theorem keyIs_int (i : Int) (t : Tok) : keyIs (.inl i) (.int i t) = true := by simp [keyIs, Value.isInt]
theorem keyIs_str (x : Str) (t : Tok) : keyIs (.inr x) (.str x t) = true := by simp [keyIs, Value.isStrOf]
theorem key_ll (a b : Int) : decide ((Sum.inl a : Key) = Sum.inl b) = (a == b) := by
  by_cases e : a = b
  · subst e; simp
  · have h : ¬ (Sum.inl a : Key) = Sum.inl b := fun q => e (Sum.inl.inj q)
    rw [decide_eq_false h]
    exact (beq_eq_false_iff_ne.mpr e).symm
theorem key_rr (a b : Str) : decide ((Sum.inr a : Key) = Sum.inr b) = decide (a = b) := by
  by_cases e : a = b
  · subst e; simp
  · have h : ¬ (Sum.inr a : Key) = Sum.inr b := fun q => e (Sum.inr.inj q)
    rw [decide_eq_false h, decide_eq_false e]
theorem key_lr (a : Int) (b : Str) : decide ((Sum.inl a : Key) = Sum.inr b) = false := decide_eq_false (fun q => nomatch q)
theorem key_rl (a : Str) (b : Int) : decide ((Sum.inr a : Key) = Sum.inl b) = false := decide_eq_false (fun q => nomatch q)

def mixKind (prog : Program) (w : World) : PySem.KeyKind prog w Key where
  is := keyIs
  hash := keyH w
  inj := fun v a b ha hb => by
    rcases keyIs_shape ha with ⟨i, t, rfl, rfl⟩ | ⟨x, t, rfl, rfl⟩
    · rcases keyIs_shape hb with ⟨j, u, rfl, e⟩ | ⟨y, u, rfl, e⟩
      · injection e with e1 _; rw [e1]
      · exact nomatch e
    · rcases keyIs_shape hb with ⟨j, u, rfl, e⟩ | ⟨y, u, rfl, e⟩
      · exact nomatch e
      · injection e with e1 _; rw [e1]
  byValue := fun k v h => by
    rcases keyIs_shape h with ⟨i, t, rfl, rfl⟩ | ⟨x, t, rfl, rfl⟩ <;> rfl
  pyHash := fun hv h => by
    rcases keyIs_shape hv with ⟨i, t, rfl, rfl⟩ | ⟨x, t, rfl, rfl⟩
    · exact wpAny_pyHash_int h
    · exact wpAny_pyHash_str h
  eqBool := fun hu hv h => by
    rcases keyIs_shape hu with ⟨i, t, rfl, rfl⟩ | ⟨x, t, rfl, rfl⟩
    · rcases keyIs_shape hv with ⟨j, u, rfl, rfl⟩ | ⟨y, u, rfl, rfl⟩
      · rw [key_ll] at h; exact wpAny_eqBool_int h
      · rw [key_lr] at h; exact SeqAt.EqAt.int_str i t y u _ _ _ _ h
    · rcases keyIs_shape hv with ⟨j, u, rfl, rfl⟩ | ⟨y, u, rfl, rfl⟩
      · rw [key_rl] at h; exact SeqAt.EqAt.str_int x t j u _ _ _ _ h
      · rw [key_rr] at h; exact wpAny_eqBool_str h
  «strs» := fun k x t v h => by
    rcases keyIs_shape h with ⟨i, u, rfl, e⟩ | ⟨y, u, rfl, e⟩
    · exact nomatch e
    · injection e with e1 _
      subst e1
      cases v <;> rfl

theorem mixKind_int (prog : Program) (w : World) (i : Int) (t : Tok) : (mixKind prog w).is (.inl i) (.int i t) = true := keyIs_int i t
theorem mixKind_str (prog : Program) (w : World) (x : Str) (t : Tok) : (mixKind prog w).is (.inr x) (.str x t) = true := keyIs_str x t
end L2

namespace L2
open PySem PySem.Spec PyProof.Rows


inductive V where
  | non | bl (b : Bool) | int (i : Int) | str (x : Str) | byt (b : Array UInt8) | flt (b : UInt64) | ref (a : Addr) | ty (n : String)
  deriving DecidableEq

def RelV : V → Value → Prop
  | .non, u => u = Value.none
  | .bl b, u => u = Value.bool b
  | .int i, u => ∃ t, u = Value.int i t
  | .str x, u => ∃ t, u = Value.str x t
  | .byt b, u => ∃ t, u = Value.bytes b t
  | .flt b, u => ∃ t, u = Value.float b t
  | .ref a, u => u = Value.ref a
  | .ty n, u => u = Value.type n

abbrev Vals : List V → List Value → Prop := Paired RelV
theorem Vals.length {xs : List V} {us : List Value} (r : Vals xs us) : xs.length = us.length := Paired.length r
theorem Vals.get : ∀ {xs : List V} {us : List Value} {i : Nat} {x : V}, Vals xs us → xs[i]? = some x → ∃ u, us[i]? = some u ∧ RelV x u
  | _, _, _, _, .nil, e => by simp at e
  | _, _, 0, _, .cons r _, e => by simp at e; subst e; exact ⟨_, rfl, r⟩
  | _, _, i + 1, x, .cons _ t, e => by
    obtain ⟨u, h1, h2⟩ := Vals.get (i := i) (x := x) t (by simpa using e)
    exact ⟨u, by simpa using h1, h2⟩
theorem Vals.set {x : V} {u : Value} (r : RelV x u) : ∀ {xs : List V} {us : List Value} (i : Nat), Vals xs us → Vals (xs.set i x) (us.set i u)
  | _, _, _, .nil => .nil
  | _, _, 0, .cons _ t => .cons r t
  | _, _, i + 1, .cons q t => .cons q (Vals.set r i t)
theorem Vals.append : ∀ {xs ys : List V} {us ws : List Value}, Vals xs us → Vals ys ws → Vals (xs ++ ys) (us ++ ws)
  | _, _, _, _, .nil, s => s
  | _, _, _, _, .cons r t, s => .cons r (Vals.append t s)
theorem Vals.take : ∀ {xs : List V} {us : List Value} (n : Nat), Vals xs us → Vals (xs.take n) (us.take n)
  | _, _, 0, _ => .nil
  | _, _, _ + 1, .nil => .nil
  | _, _, n + 1, .cons r t => .cons r (Vals.take n t)
theorem Vals.drop : ∀ {xs : List V} {us : List Value} (n : Nat), Vals xs us → Vals (xs.drop n) (us.drop n)
  | _, _, 0, r => r
  | _, _, _ + 1, .nil => .nil
  | _, _, n + 1, .cons _ t => Vals.drop n t
theorem Vals.none_of : ∀ {xs : List V} {us : List Value} {i : Nat}, Vals xs us → xs[i]? = none → us[i]? = none := fun {xs us i} r e => by
  have h1 := r.length
  have h2 : xs.length ≤ i := List.getElem?_eq_none_iff.mp e
  exact List.getElem?_eq_none_iff.mpr (by omega)

def RelO : Option V → Option Value → Prop
  | some v, some u => RelV v u
  | none, none => True
  | _, _ => False
def KV {κ : Type} : List (κ × V) → List (κ × Value) → Prop := Paired fun (p : κ × V) (q : κ × Value) => p.1 = q.1 ∧ RelV p.2 q.2


def kV : Key → V
  | .inl i => .int i
  | .inr x => .str x


inductive HO where
  
  | lst (xs : List V)
  
  | tup (xs : List V)
  
  | dK (kvs : List (Key × V)) | dT (kvs : List (List Key × V))
  
  | set (S : Int → Bool) (n : Nat)
  
  | ins (C dx : Addr) (fs : List (Str × V))
  
  | own (x : Addr)
  
  | xd (fs : List (Str × V))
  
  | met (f x : Addr)
  
  | rng (lo hi : Int)
  
  | frz (o : Obj) (u : HO)
  
  | tbl (ps : Array Value)
  
  | ext (φ : Heap → Prop)

abbrev Hp := Addr → Option HO
def upd (H : Hp) (a : Addr) (o : HO) : Hp := fun b => if b = a then some o else H b
theorem upd_same {H : Hp} {a : Addr} {o : HO} : upd H a o a = some o := by unfold upd; rw [if_pos rfl]
theorem upd_ne {H : Hp} {a b : Addr} {o : HO} (h : b ≠ a) : upd H a o b = H b := by unfold upd; rw [if_neg h]
theorem upd_upd {H : Hp} {a : Addr} {o u : HO} : upd (upd H a o) a u = upd H a u := by
  funext b; unfold upd; split <;> rfl

theorem ne_of {H : Hp} {a b : Addr} {o u : HO} (h : H a = some o) (h' : H b = some u) (d : o ≠ u) : a ≠ b := by
  intro e; subst e; rw [h] at h'; exact d (Option.some.inj h')
theorem ne_of_none {H : Hp} {a b : Addr} {o : HO} (h : H a = some o) (h' : H b = none) : a ≠ b := by
  intro e; subst e; rw [h] at h'; cases h'

section
variable (P : Program) (w : World)
def ObjOk (H : Hp) (h : Heap) (a : Addr) : HO → Prop
  | .lst xs => xs.length ≤ sizeLine ∧ ∃ (its : List Value) (n : Nat), Vals xs its ∧ h.get? a = some { cls := .type "list", data := .seq its.toArray n }
  | .tup xs => xs.length ≤ sizeLine ∧ ∃ its : List Value, Vals xs its ∧ IsTup h a its.toArray
  | .dK kvs => kvs.length ≤ sizeLine ∧ (a == sysModules) = false ∧ ∃ vs, KV kvs vs ∧ h.DictOf (mixKind P w) a vs
  | .dT kvs => kvs.length ≤ sizeLine ∧ (a == sysModules) = false ∧ ∃ xs : List (List Key × Addr × Value),
      Paired (fun (p : List Key × V) (q : List Key × Addr × Value) => p.1 = q.1 ∧ H q.2.1 = some (.tup (p.1.map kV)) ∧ RelV p.2 q.2.2) kvs xs ∧
      ∃ o es ep, h.get? a = some o ∧ o.ExactDict ∧ o.data = .dict es ep ∧ es.toList = xs.map (entryOfKey (tupleKind (mixKind P w))) ∧ (xs.map (·.1)).Nodup
  | .set S n => h.SetOf (intKind P w) a S n
  | .ins C dx fs => H dx = some (.own a) ∧ fs.length ≤ 1000 ∧ dx ≠ a ∧ h.get? a = some (PySem.W.instObj C dx) ∧
      ∃ mA, h.Ns1 dx mA ∧ (∀ f, RelO (fs.lookup f) (mA f)) ∧ PySem.Within mA (fs.map (·.1))
  | .own _ => ∃ o, h.get? a = some o
  | .xd fs => ∃ mA, h.Ns1 a mA ∧ ∀ f, RelO (fs.lookup f) (mA f)
  | .rng lo hi => ∃ t u v, h.get? a = some { cls := .type "range", data := .fields #[.int lo t, .int hi u, .int 1 v] }
  | .frz o u => h.get? a = some o ∧ ObjOk H h a u
  | .tbl ps => h.get? a = some { cls := .none, data := .fields ps }
  | .met f x => h.get? a = some (PySem.W.methodObj (.ref f) (.ref x))
  | .ext φ => φ h ∧ (∃ o, h.get? a = some o) ∧ ∀ h1 h2 : Heap, φ h1 → (∀ o, h1.get? a = some o → h2.get? a = some o) → φ h2

def HOk (H : Hp) (h : Heap) : Prop := ∀ a o, H a = some o → ObjOk P w H h a o
end

section
variable {P : Program} {w : World} {H H' : Hp} {h h' : Heap} {a : Addr} {o : HO}
theorem ObjOk.lt (x : ObjOk P w H h a o) : a < h.objs.size := by
  cases o with
  | lst xs => obtain ⟨_, _, _, _, e⟩ := x; exact Heap.lt_size e
  | tup xs => obtain ⟨_, _, _, p⟩ := x; exact p.lt
  | dK kvs => obtain ⟨_, _, _, _, o, _, _, e, _⟩ := x; exact Heap.lt_size e
  | dT kvs => obtain ⟨_, _, _, _, o, _, _, e, _⟩ := x; exact Heap.lt_size e
  | set S n => obtain ⟨o, _, _, _, e, _⟩ := x; exact Heap.lt_size e
  | ins C dx fs => obtain ⟨_, _, _, e, _⟩ := x; exact Heap.lt_size e
  | own y => obtain ⟨_, e⟩ := x; exact Heap.lt_size e
  | xd fs => obtain ⟨_, ⟨_, _, _, e, _⟩, _⟩ := x; exact Heap.lt_size e
  | rng lo hi => obtain ⟨_, _, _, e⟩ := x; exact Heap.lt_size e
  | frz ob u => obtain ⟨e, _⟩ := x; exact Heap.lt_size e
  | tbl ps => exact Heap.lt_size (show h.get? a = some _ from x)
  | met f y => exact Heap.lt_size (show h.get? a = some _ from x)
  | ext φ => obtain ⟨_, ⟨_, e⟩, _⟩ := x; exact Heap.lt_size e
theorem Paired.mapP {α β : Type} {F G : α → β → Prop} : ∀ {l₁ : List α} {l₂ : List β}, Paired F l₁ l₂ → (∀ a b, F a b → G a b) → Paired G l₁ l₂
  | _, _, .nil, _ => .nil
  | _, _, .cons r t, f => .cons (f _ _ r) (Paired.mapP t f)
theorem ObjOk.stay (x : ObjOk P w H h a o) (k : ∀ b u, (b = a ∨ H b = some (.own a)) → h.get? b = some u → h'.get? b = some u)
    (ho : ∀ b, H b = some (.own a) → H' b = some (.own a)) (ht : ∀ b xs, H b = some (.tup xs) → H' b = some (.tup xs)) : ObjOk P w H' h' a o := by
  induction o with
  | lst xs => obtain ⟨z, its, n, r, e⟩ := x; exact ⟨z, its, n, r, k _ _ (.inl rfl) e⟩
  | tup xs => obtain ⟨z, its, r, ob, e, c⟩ := x; exact ⟨z, its, r, ob, k _ _ (.inl rfl) e, c⟩
  | dK kvs => obtain ⟨z, y, vs, r, ob, es, ep, e, c⟩ := x; exact ⟨z, y, vs, r, ob, es, ep, k _ _ (.inl rfl) e, c⟩
  | dT kvs =>
    obtain ⟨z, y, xs, r, ob, es, ep, e, c⟩ := x
    exact ⟨z, y, xs, Paired.mapP r fun p q z => ⟨z.1, ht _ _ z.2.1, z.2.2⟩, ob, es, ep, k _ _ (.inl rfl) e, c⟩
  | set S n => obtain ⟨ob, es, ep, t, e, c⟩ := x; exact ⟨ob, es, ep, t, k _ _ (.inl rfl) e, c⟩
  | ins C dx fs =>
    obtain ⟨d, z, ne, e, mA, ⟨od, es, ep, e2, c⟩, r⟩ := x
    exact ⟨ho _ d, z, ne, k _ _ (.inl rfl) e, mA, ⟨od, es, ep, k _ _ (.inr d) e2, c⟩, r⟩
  | own y => obtain ⟨ob, e⟩ := x; exact ⟨ob, k _ _ (.inl rfl) e⟩
  | xd fs => obtain ⟨mA, ⟨od, es, ep, e, c⟩, r⟩ := x; exact ⟨mA, ⟨od, es, ep, k _ _ (.inl rfl) e, c⟩, r⟩
  | rng lo hi => obtain ⟨t, u, v, e⟩ := x; exact ⟨t, u, v, k _ _ (.inl rfl) e⟩
  | frz ob u ih => obtain ⟨e, q⟩ := x; exact ⟨k _ _ (.inl rfl) e, ih q⟩
  | tbl ps =>
    have e : h.get? a = some { cls := .none, data := .fields ps } := x
    show h'.get? a = some { cls := .none, data := .fields ps }
    exact k a _ (.inl rfl) e
  | met f y =>
    have e : h.get? a = some (PySem.W.methodObj (.ref f) (.ref y)) := x
    show h'.get? a = some (PySem.W.methodObj (.ref f) (.ref y))
    exact k a _ (.inl rfl) e
  | ext φ => obtain ⟨p, ⟨o, e⟩, st⟩ := x; exact ⟨st _ _ p fun o q => k _ _ (.inl rfl) q, ⟨o, k _ _ (.inl rfl) e⟩, st⟩
theorem HOk.lt (x : HOk P w H h) (e : H a = some o) : a < h.objs.size := (x a o e).lt
theorem HOk.fresh (x : HOk P w H h) (e : h.objs.size ≤ a) : H a = none := by
  cases q : H a with
  | none => rfl
  | some u => exact absurd (Nat.lt_of_lt_of_le (x.lt q) e) (Nat.lt_irrefl _)

theorem HOk.kept (x : HOk P w H h) (k : ∀ b u, h.get? b = some u → h'.get? b = some u) : HOk P w H h' := fun a o e =>
  (x a o e).stay (fun b u _ q => k b u q) (fun _ q => q) fun _ _ q => q

theorem HOk.laid (x : HOk P w H h) (k : ∀ b u, h.get? b = some u → h'.get? b = some u) (hp : h.objs.size ≤ a) (new : ObjOk P w (upd H a o) h' a o) : HOk P w (upd H a o) h' := fun b u e => by
  have hn := x.fresh hp
  by_cases hb : b = a
  · subst hb; rw [upd_same] at e; cases e; exact new
  · rw [upd_ne hb] at e
    exact (x b u e).stay (fun c v _ q => k c v q) (fun c q => by rw [upd_ne (ne_of_none q hn)]; exact q) fun c xs q => by rw [upd_ne (ne_of_none q hn)]; exact q
end


def Rd (H : Hp) (a : Addr) (u : HO) : Prop := H a = some u ∨ ∃ o, H a = some (.frz o u)
theorem Rd.of {H : Hp} {a : Addr} {u : HO} (h : H a = some u) : Rd H a u := .inl h
theorem Rd.ok {P : Program} {w : World} {H : Hp} {h : Heap} {a : Addr} {u : HO} (r : Rd H a u) (x : HOk P w H h) : ObjOk P w H h a u := by
  rcases r with r | ⟨o, r⟩
  · exact x a u r
  · obtain ⟨_, q⟩ := x a _ r
    exact q

def Mut : Option HO → Prop
  | some (.lst _) => True
  | some (.dK _) => True
  | some (.dT _) => True
  | some (.set _ _) => True
  | some (.ins _ _ _) => True
  | some (.ext _) => True
  | _ => False
section
variable {P : Program} {w : World} {H : Hp} {h h' : Heap} {x e : Addr} {o' : HO}

theorem HOk.write (ok : HOk P w H h) (mu : Mut (H x)) (he : e = x ∨ H e = some (.own x)) (k : ∀ b u, b ≠ e → h.get? b = some u → h'.get? b = some u) (heo : ∃ u, h'.get? e = some u)
    (new : ObjOk P w (upd H x o') h' x o') : HOk P w (upd H x o') h' := fun b u q => by
  have nown : ∀ c y, H c = some (.own y) → c ≠ x := fun c y r z => by subst z; rw [r] at mu; exact mu
  have ntup : ∀ c xs, H c = some (.tup xs) → c ≠ x := fun c xs r z => by subst z; rw [r] at mu; exact mu
  by_cases hb : b = x
  · subst hb; rw [upd_same] at q; cases q; exact new
  · rw [upd_ne hb] at q
    by_cases hbe : b = e
    · have q' : H b = some (.own x) := by
        rcases he with z | z
        · exact absurd (hbe.trans z) hb
        · rw [hbe]; exact z
      rw [q] at q'; cases q'
      obtain ⟨v, hv⟩ := heo
      exact ⟨v, by rw [hbe]; exact hv⟩
    · refine (ok b u q).stay (fun c v hc r => k c v ?_ r) (fun c r => by rw [upd_ne (nown c b r)]; exact r) fun c xs r => by rw [upd_ne (ntup c xs r)]; exact r
      rcases hc with rfl | hc
      · exact hbe
      · rintro rfl
        rcases he with z | z
        · exact nown c b hc z
        · rw [hc] at z; cases z; exact hb rfl
end


structure Un (fs ex : List Addr) (H H' : Hp) (h h' : Heap) : Prop where
  keep : ∀ b o, h.get? b = some o → H b = none → b ∉ fs → b ∉ ex → h'.get? b = some o
  slot : ∀ b o, h.get? b = some o → H b = none → b ∈ fs → b ∉ ex → ∃ sl, h'.get? b = some { o with slots := sl }
  free : ∀ b o, h.get? b = some o → H b = none → b ∉ ex → H' b = none
  there : ∀ b o, h.get? b = some o → b ∉ ex → ∃ o', h'.get? b = some o'
  tups : ∀ b xs, H b = some (.tup xs) → H' b = some (.tup xs)
  frzs : ∀ b o u, H b = some (.frz o u) → H' b = some (.frz o u)
  tbls : ∀ b ps, H b = some (.tbl ps) → ∃ more, H' b = some (.tbl (ps ++ more))
section
variable {fs fs' ex ex' : List Addr} {H H1 H2 : Hp} {h h1 h2 h' : Heap} {a x e : Addr} {o : HO}
theorem Un.any (u : Un fs ex H H1 h h1) {b : Addr} {ob : Obj} (q : h.get? b = some ob) (n : H b = none) (hx : b ∉ ex) : ∃ sl, h1.get? b = some { ob with slots := sl } := by
  by_cases hb : b ∈ fs
  · exact u.slot b ob q n hb hx
  · exact ⟨ob.slots, u.keep b ob q n hb hx⟩
theorem Un.trans (a : Un fs ex H H1 h h1) (b : Un fs ex H1 H2 h1 h2) : Un fs ex H H2 h h2 where
  keep := fun c ob q n hc hx => b.keep c ob (a.keep c ob q n hc hx) (a.free c ob q n hx) hc hx
  slot := fun c ob q n hc hx => by
    obtain ⟨sl, e1⟩ := a.slot c ob q n hc hx
    obtain ⟨sl', e2⟩ := b.slot c _ e1 (a.free c ob q n hx) hc hx
    exact ⟨sl', e2⟩
  free := fun c ob q n hx => by
    obtain ⟨o', e1⟩ := a.there c ob q hx
    exact b.free c o' e1 (a.free c ob q n hx) hx
  there := fun c ob q hx => by
    obtain ⟨o', e1⟩ := a.there c ob q hx
    exact b.there c o' e1 hx
  tups := fun c xs q => b.tups c xs (a.tups c xs q)
  frzs := fun c ob xs q => b.frzs c ob xs (a.frzs c ob xs q)
  tbls := fun c ps q => by
    obtain ⟨m1, e1⟩ := a.tbls c ps q
    obtain ⟨m2, e2⟩ := b.tbls c _ e1
    exact ⟨m1 ++ m2, by rw [e2, Array.append_assoc]⟩
theorem Un.kept (k : ∀ b u, h.get? b = some u → h'.get? b = some u) : Un fs ex H H h h' :=
  ⟨fun b ob q _ _ _ => k b ob q, fun b ob q _ _ _ => ⟨ob.slots, k b ob q⟩, fun _ _ _ n _ => n, fun b ob q _ => ⟨ob, k b ob q⟩, fun _ _ q => q, fun _ _ _ q => q, fun _ ps q => ⟨#[], by rw [q]; simp⟩⟩
theorem Un.refl : Un fs ex H H h h := Un.kept fun _ _ q => q
theorem Un.laid (k : ∀ b u, h.get? b = some u → h'.get? b = some u) (hp : h.objs.size ≤ a) (hn : H a = none) : Un fs ex H (upd H a o) h h' where
  keep := fun b u q _ _ _ => k b u q
  slot := fun b u q _ _ _ => ⟨u.slots, k b u q⟩
  free := fun b u q n _ => by rw [upd_ne (Nat.ne_of_lt (Nat.lt_of_lt_of_le (Heap.lt_size q) hp))]; exact n
  there := fun b u q _ => ⟨u, k b u q⟩
  tups := fun b xs q => by rw [upd_ne (ne_of_none q hn)]; exact q
  frzs := fun b u xs q => by rw [upd_ne (ne_of_none q hn)]; exact q
  tbls := fun b ps q => ⟨#[], by rw [upd_ne (ne_of_none q hn), q]; simp⟩
theorem Un.write (mu : Mut (H x)) (he : e = x ∨ H e = some (.own x)) (k : ∀ b u, b ≠ e → h.get? b = some u → h'.get? b = some u) (heo : ∃ u, h'.get? e = some u) : Un fs ex H (upd H x o) h h' := by
  have hx : ∀ b, H b = none → b ≠ x := fun b n z => by subst z; rw [n] at mu; exact mu
  have hb : ∀ b, H b = none → b ≠ e := fun b n z => by
    subst z
    rcases he with r | r
    · exact hx b n r
    · rw [n] at r; cases r
  have hm : ∀ b u, H b = some u → ¬ Mut (some u) → b ≠ x := fun b u q nm z => by subst z; rw [q] at mu; exact nm mu
  refine ⟨fun b u q n _ _ => k b u (hb b n) q, fun b u q n _ _ => ⟨u.slots, k b u (hb b n) q⟩, fun b u q n _ => by rw [upd_ne (hx b n)]; exact n, fun b u q _ => ?_,
    fun b xs q => by rw [upd_ne (hm b _ q fun z => z)]; exact q, fun b u xs q => by rw [upd_ne (hm b _ q fun z => z)]; exact q, fun b ps q => ⟨#[], by rw [upd_ne (hm b _ q fun z => z), q]; simp⟩⟩
  by_cases hbe : b = e
  · subst hbe; exact heo
  · exact ⟨u, k b u hbe q⟩
theorem Un.mono (u : Un fs ex H H1 h h1) (hs : ∀ b ∈ fs, b ∈ fs') (hx : ∀ b ∈ ex, b ∈ ex') : Un fs' ex' H H1 h h1 :=
  ⟨fun b ob q n hb he => u.keep b ob q n (fun z => hb (hs b z)) fun z => he (hx b z), fun _ _ q n _ he => u.any q n fun z => he (hx _ z), fun b ob q n he => u.free b ob q n fun z => he (hx b z), fun b ob q he => u.there b ob q fun z => he (hx b z), u.tups, u.frzs, u.tbls⟩
end


def trk (h : Heap) (H : Hp) : List Addr := (List.range h.objs.size).filter fun a => (H a).isSome
def hidT (h : Heap) (H : Hp) : Heap := PySem.W.hideAll h (trk h H)
theorem hidT_size (h : Heap) (H : Hp) : (hidT h H).objs.size = h.objs.size := PySem.W.hideAll_size _ _
theorem hidT_get {h : Heap} {H : Hp} {b : Addr} {o : Obj} (e : h.get? b = some o) (n : H b = none) : (hidT h H).get? b = some o :=
  PySem.W.hideAll_get _ e fun hm => by
    have q : (H b).isSome = true := (List.mem_filter.mp hm).2
    rw [n] at q; simp at q
theorem of_hidT {h : Heap} {H : Hp} {b : Addr} {o : Obj} (e : (hidT h H).get? b = some o) : h.get? b = some o ∧ H b = none := by
  have e' : h.get? b = some o := PySem.W.of_hideAll (trk h H) e
  refine ⟨e', ?_⟩
  cases q : H b with
  | none => rfl
  | some x =>
    have hm : b ∈ trk h H := List.mem_filter.mpr ⟨List.mem_range.mpr (Heap.lt_size e'), by simp [q]⟩
    have z : (hidT h H).get? b = none := PySem.W.hideAll_none (trk h H) hm
    rw [z] at e; cases e


def allNews (g h : Heap) (L : Addr) : List (Addr × Obj) := (List.range h.objs.size).filterMap fun a => if a = L ∨ (g.get? a).isSome = true then none else (h.get? a).map fun o => (a, o)
def rest (g h : Heap) (L d : Addr) : List (Addr × Obj) := (allNews g h L).filter fun p => decide (p.1 ≠ d)
end L2

namespace L2
open PySem PySem.Spec PyProof.Rows


structure Mod (K : PySem.W.Frag) (mg : Str → Option Value) (base : Heap) : Prop where
  kin : K.In base
  glob : base.Ns mainGlobals mg
  blt : ∃ mb, base.Ns builtinsNs mb ∧ ∀ x : Str, x ≠ "__name__" → mb x = bootBuiltins x
  nolimit : base.NoLimit


structure Cx where
  prog : Program
  w : World
  K : PySem.W.Frag
  mg : Str → Option Value
  base : Heap
  A : Around
  N : List Str
  s₀ : Shared
  H₀ : Hp
  env : Env
  outer : List Env
  stack : List Env
  ex : List Addr
  fn : Str → Bool
  calm : Bool
  pn : List (Addr × Obj)
  xe : Value → Shared → Prop

def frs (l : List Env) : List Addr := l.filterMap (·.frame)
abbrev Cx.fs (X : Cx) : List Addr := frs X.outer

def Vis (sc : Scope) (x : Str) : Prop := sc.names.lookup x = some .local ∨ sc.names.lookup x = some .cell ∨ sc.names.lookup x = some .free
def Loc (sc : Scope) (x : Str) : Prop := sc.names.lookup x = some .local ∨ sc.names.lookup x = some .cell
def Look (env : Env) (h : Heap) (m : Str → Option Value) (x : Str) (u : Value) : Prop :=
  (env.kindOf x = some .local ∧ m x = some u) ∨ ((env.kindOf x = some .cell ∨ env.kindOf x = some .free) ∧ ∃ c, env.cells.lookup x = some c ∧ h.IsCell c (some u))

structure Cx.Ok (X : Cx) : Prop where
  mod : Mod X.K X.mg X.base
  kind : X.env.scope.kind = .function
  glob : X.env.globals = mainGlobals
  blt : X.env.builtins = builtinsNs
  above : X.s₀.heap.objs.size ≤ X.env.locals
  inj : ∀ x y c, X.env.cells.lookup x = some c → X.env.cells.lookup y = some c → x = y
  has : ∀ x, (X.env.kindOf x = some .cell ∨ X.env.kindOf x = some .free) → ∃ c, X.env.cells.lookup x = some c
  cab : ∀ x c, X.fn x = true → X.env.cells.lookup x = some c → X.s₀.heap.objs.size ≤ c
  hd : X.calm = true → X.A.handled = none
  frames : X.A.frames = some X.stack
  stk : X.stack = X.outer ∨ (X.stack = X.env :: X.outer ∧ X.env.frame = some X.env.locals)
  exf : ∀ b ∈ X.ex, b ≠ X.env.locals ∧ ∀ x c, X.env.cells.lookup x = some c → c ≠ b
  bs : ∀ b o, X.base.get? b = some o → X.s₀.heap.get? b = some o ∧ X.H₀ b = none
  bsz : X.base.objs.size ≤ X.s₀.heap.objs.size
  noex : ∀ b o, X.base.get? b = some o → b ∉ X.ex
  exfs : ∀ b ∈ X.ex, b ∉ X.fs
  funs : X.s₀.heap.FunFrames X.base X.outer
  frf : ∀ b ∈ X.fs, X.H₀ b = none

structure Inv (X : Cx) (pins : List (Addr × Obj)) (σ : List (Option V)) (H : Hp) (s : Shared) : Prop where
  ok : X.Ok
  os : s.os = X.s₀.os
  bare : AllBare s.gens
  base : Un X.fs X.ex X.H₀ H X.s₀.heap s.heap
  loc : ∃ m, s.heap.Ns X.env.locals m ∧ ∀ (i : Nat) (x : Str) (v : V), X.N[i]? = some x → σ[i]? = some (some v) → Vis X.env.scope x → ∃ u, RelV v u ∧ Look X.env s.heap m x u
  cell : ∀ x c, X.env.cells.lookup x = some c → ∃ v, s.heap.IsCell c v
  free : H X.env.locals = none
  freeC : ∀ x c, X.env.cells.lookup x = some c → H c = none
  pin : ∀ p ∈ X.pn ++ pins, s.heap.get? p.1 = some p.2 ∧ H p.1 = none ∧ p.1 ≠ X.env.locals ∧ p.1 ∉ X.fs ∧ ∀ v, p.2.data ≠ .cell v
  hok : HOk X.prog X.w H s.heap
  len : σ.length = X.N.length

section
variable {X : Cx} {pins : List (Addr × Obj)} {σ : List (Option V)} {H H' : Hp} {s : Shared} {h' : Heap}

theorem Cx.Ok.nofr (ok : X.Ok) {b : Addr} {o : Obj} (e : X.base.get? b = some o) : b ∉ X.fs := fun hb => by
  have := (ok.funs.mem hb).1
  rw [e] at this; cases this
theorem Inv.bs (I : Inv X pins σ H s) : ∀ b o, X.base.get? b = some o → s.heap.get? b = some o ∧ H b = none := fun b o e =>
  ⟨I.base.keep b o (I.ok.bs b o e).1 (I.ok.bs b o e).2 (I.ok.nofr e) (I.ok.noex b o e), I.base.free b o (I.ok.bs b o e).1 (I.ok.bs b o e).2 (I.ok.noex b o e)⟩
theorem Inv.bk (I : Inv X pins σ H s) : ∀ b o, X.base.get? b = some o → s.heap.get? b = some o := fun b o e => (I.bs b o e).1
theorem Inv.mod (I : Inv X pins σ H s) : Mod X.K X.mg X.base := I.ok.mod
theorem Inv.kIn (I : Inv X pins σ H s) : X.K.In s.heap := I.ok.mod.kin.keeps I.bk
theorem Inv.nolimit (I : Inv X pins σ H s) : s.heap.NoLimit := I.ok.mod.nolimit.keeps I.bk

theorem Inv.fr (I : Inv X pins σ H s) : ∃ m, Fr X.base X.env.locals s.heap m :=
  let ⟨m, hn, _⟩ := I.loc
  ⟨m, hn, I.bk, Nat.le_trans I.ok.bsz I.ok.above⟩
theorem Inv.lt (I : Inv X pins σ H s) : X.env.locals < s.heap.objs.size := let ⟨_, hn, _⟩ := I.loc; hn.lt
theorem Inv.sz (I : Inv X pins σ H s) : X.s₀.heap.objs.size ≤ s.heap.objs.size := Nat.le_trans I.ok.above (Nat.le_of_lt I.lt)
theorem Inv.nofs (I : Inv X pins σ H s) {a : Addr} (h : s.heap.objs.size ≤ a) : a ∉ X.fs := fun hb => by
  obtain ⟨_, o, ho, _⟩ := I.ok.funs.mem hb
  exact absurd (Nat.lt_of_lt_of_le (Heap.lt_size ho) (Nat.le_trans I.sz h)) (Nat.lt_irrefl _)
theorem Inv.cne (I : Inv X pins σ H s) : ∀ x c, X.env.cells.lookup x = some c → c ≠ X.env.locals := fun x c e z => by
  obtain ⟨v, o, ho, hd⟩ := I.cell x c e
  obtain ⟨m, ⟨o', es, ep, ho', hd', _⟩, _⟩ := I.loc
  rw [z, ho'] at ho; cases ho; rw [hd'] at hd; cases hd
theorem Inv.funs (I : Inv X pins σ H s) : s.heap.FunFrames X.base X.outer := by
  have all : ∀ (l : List Env), (∀ b ∈ frs l, b ∈ X.fs) → X.s₀.heap.FunFrames X.base l → s.heap.FunFrames X.base l := by
    intro l
    induction l with
    | nil => intro _ _; trivial
    | cons env r ih =>
      intro hs hl
      obtain ⟨hk, ⟨L, o, hf, hn, ho, hd⟩, hr⟩ := hl
      have hL : L ∈ X.fs := hs L (by unfold frs; rw [List.filterMap_cons, hf]; exact List.mem_cons_self)
      obtain ⟨sl, e⟩ := I.base.slot L o ho (I.ok.frf L hL) hL fun z => I.ok.exfs L z hL
      exact ⟨hk, ⟨L, _, hf, hn, e, hd⟩, ih (fun b hb => hs b (by unfold frs; rw [List.filterMap_cons, hf]; exact List.mem_cons_of_mem _ hb)) hr⟩
  exact all X.outer (fun _ hb => hb) I.ok.funs


theorem Inv.stack (I : Inv X pins σ H s) : s.heap.FunFrames X.base X.stack := by
  rcases I.ok.stk with e | ⟨e, hf⟩
  · rw [e]; exact I.funs
  · rw [e]
    obtain ⟨m, hn, _⟩ := I.loc
    refine .cons (by rw [I.ok.kind]; decide) hf hn ?_ I.funs
    exact Heap.get?_none_of_le (Nat.le_trans I.ok.bsz I.ok.above)
theorem Inv.stkSub (I : Inv X pins σ H s) : ∀ b ∈ frs X.stack, b ∈ X.env.locals :: X.fs := fun b hb => by
  rcases I.ok.stk with e | ⟨e, hf⟩
  · rw [e] at hb; exact List.mem_cons_of_mem _ hb
  · rw [e] at hb
    unfold frs at hb
    rw [List.filterMap_cons, hf] at hb
    exact hb
theorem Inv.stkFree (I : Inv X pins σ H s) : ∀ b ∈ frs X.stack, H b = none := fun b hb => by
  rcases List.mem_cons.mp (I.stkSub b hb) with e | hb
  · rw [e]; exact I.free
  · obtain ⟨_, o, ho, _⟩ := I.ok.funs.mem hb
    exact I.base.free b o ho (I.ok.frf b hb) fun z => I.ok.exfs b z hb


theorem Inv.step {g' : Array GenState} {t' : Nat} {d' : Drawn} {ch : List Addr} (I : Inv X pins σ H s)
    (hch : ∀ b ∈ ch, (b ∈ X.ex ∨ X.s₀.heap.objs.size ≤ b) ∧ b ≠ X.env.locals ∧ (∀ x c, X.env.cells.lookup x = some c → c ≠ b) ∧ ∀ p ∈ X.pn ++ pins, p.1 ≠ b)
    (keep : ∀ b o, b ≠ X.env.locals → b ∉ X.fs → b ∉ ch → s.heap.get? b = some o → H b = none → h'.get? b = some o)
    (slot : ∀ b o, b ≠ X.env.locals → b ∈ X.fs → b ∉ ch → s.heap.get? b = some o → H b = none → ∃ sl, h'.get? b = some { o with slots := sl }) (free : ∀ b o, b ∉ ch → s.heap.get? b = some o → H b = none → H' b = none)
    (there : ∀ b o, b ∉ ch → s.heap.get? b = some o → ∃ o', h'.get? b = some o')
    (tups : ∀ b xs, H b = some (.tup xs) → H' b = some (.tup xs)) (frzs : ∀ b o u, H b = some (.frz o u) → H' b = some (.frz o u)) (tbls : ∀ b ps, H b = some (.tbl ps) → ∃ more, H' b = some (.tbl (ps ++ more)))
    (ns : ∀ m, s.heap.Ns X.env.locals m → h'.Ns X.env.locals m) (hok : HOk X.prog X.w H' h') (hg : AllBare g') :
    Inv X pins σ H' { s with heap := h', gens := g', drawn := d', toks := t' } := by
  have neL : ∀ b o, X.s₀.heap.get? b = some o → b ≠ X.env.locals := fun b o e => Nat.ne_of_lt (Nat.lt_of_lt_of_le (Heap.lt_size e) I.ok.above)
  have neC : ∀ b o, X.s₀.heap.get? b = some o → b ∉ X.ex → b ∉ ch := fun b o e hx hb => by
    rcases (hch b hb).1 with z | z
    · exact hx z
    · exact absurd (Nat.lt_of_lt_of_le (Heap.lt_size e) z) (Nat.lt_irrefl _)
  have cellK : ∀ x c, X.env.cells.lookup x = some c → ∀ v, s.heap.IsCell c v → h'.IsCell c v := fun x c e v ⟨o, ho, hd⟩ => by
    have nch : c ∉ ch := fun z => (hch c z).2.2.1 x c e rfl
    by_cases hc : c ∈ X.fs
    · obtain ⟨sl, q⟩ := slot c o (I.cne x c e) hc nch ho (I.freeC x c e)
      exact ⟨_, q, hd⟩
    · exact ⟨o, keep c o (I.cne x c e) hc nch ho (I.freeC x c e), hd⟩
  refine ⟨I.ok, I.os, hg, ⟨fun b o e n hb hx => ?_, fun b o e n hb hx => ?_, fun b o e n hx => ?_, fun b o e hx => ?_, fun b xs e => tups b xs (I.base.tups b xs e), fun b o xs e => frzs b o xs (I.base.frzs b o xs e), fun b ps e => ?_⟩, ?_, fun x c e => ?_, ?_, fun x c e => ?_, fun p hp => ?_, hok, I.len⟩
  · exact keep b o (neL b o e) hb (neC b o e hx) (I.base.keep b o e n hb hx) (I.base.free b o e n hx)
  · obtain ⟨sl, e1⟩ := I.base.slot b o e n hb hx
    obtain ⟨sl', e2⟩ := slot b _ (neL b o e) hb (neC b o e hx) e1 (I.base.free b o e n hx)
    exact ⟨sl', e2⟩
  · obtain ⟨o', e1⟩ := I.base.there b o e hx
    exact free b o' (neC b o e hx) e1 (I.base.free b o e n hx)
  · obtain ⟨o', e1⟩ := I.base.there b o e hx
    exact there b o' (neC b o e hx) e1
  · obtain ⟨m1, e1⟩ := I.base.tbls b ps e
    obtain ⟨m2, e2⟩ := tbls b _ e1
    exact ⟨m1 ++ m2, by rw [e2, Array.append_assoc]⟩
  · obtain ⟨m, hn, hl⟩ := I.loc
    refine ⟨m, ns m hn, fun i x v e1 e2 e3 => ?_⟩
    obtain ⟨u, r, l⟩ := hl i x v e1 e2 e3
    refine ⟨u, r, ?_⟩
    rcases l with l | ⟨k, c, e, z⟩
    · exact .inl l
    · exact .inr ⟨k, c, e, cellK x c e _ z⟩
  · obtain ⟨v, z⟩ := I.cell x c e
    exact ⟨v, cellK x c e v z⟩
  · obtain ⟨m, ⟨o, _, _, ho, _⟩, _⟩ := I.loc
    exact free _ o (fun z => (hch _ z).2.1 rfl) ho I.free
  · obtain ⟨v, o, ho, hd⟩ := I.cell x c e
    exact free c o (fun z => (hch c z).2.2.1 x c e rfl) ho (I.freeC x c e)
  · obtain ⟨e, n, ne, nf, d⟩ := I.pin p hp
    have nch : p.1 ∉ ch := fun z => (hch p.1 z).2.2.2 p hp rfl
    exact ⟨keep p.1 p.2 ne nf nch e n, free p.1 p.2 nch e n, ne, nf, d⟩

theorem Inv.un {t' : Nat} (I : Inv X pins σ H s) (u : Un X.fs [] H H' s.heap h') (hok : HOk X.prog X.w H' h') : Inv X pins σ H' { s with heap := h', toks := t' } := by
  obtain ⟨m, ⟨o, es, ep, ho, r⟩, _⟩ := id I.loc
  obtain ⟨sl, hL⟩ := u.any ho I.free (by simp)
  exact I.step (g' := s.gens) (d' := s.drawn) (ch := []) (fun _ z => nomatch z) (fun b o _ hb _ e n => u.keep b o e n hb (by simp)) (fun b o _ hb _ e n => u.slot b o e n hb (by simp)) (fun b o _ e n => u.free b o e n (by simp)) (fun b o _ e => u.there b o e (by simp)) u.tups u.frzs u.tbls (fun m' hm => by
    obtain ⟨o', es', ep', ho', r'⟩ := hm
    rw [ho] at ho'; cases ho'
    exact ⟨_, es', ep', hL, r'⟩) hok I.bare

theorem Inv.call {g' : Array GenState} {t' : Nat} {d' : Drawn} {ch : List Addr} (I : Inv X pins σ H s) (u : Un (frs X.stack) ch H H' s.heap h') (hok : HOk X.prog X.w H' h') (hg : AllBare g')
    (hch : ∀ b ∈ ch, (b ∈ X.ex ∨ X.s₀.heap.objs.size ≤ b) ∧ b ≠ X.env.locals ∧ (∀ x c, X.env.cells.lookup x = some c → c ≠ b) ∧ ∀ p ∈ X.pn ++ pins, p.1 ≠ b) :
    Inv X pins σ H' { s with heap := h', gens := g', drawn := d', toks := t' } := by
  obtain ⟨m, ⟨o, es, ep, ho, r⟩, _⟩ := id I.loc
  obtain ⟨sl, hL⟩ := u.any ho I.free fun z => (hch _ z).2.1 rfl
  exact I.step (ch := ch) hch (fun b o hL hb hc e n => u.keep b o e n (fun z => (List.mem_cons.mp (I.stkSub b z)).elim hL hb) hc) (fun b o _ _ hc e n => u.any e n hc) (fun b o hc e n => u.free b o e n hc) (fun b o hc e => u.there b o e hc) u.tups u.frzs u.tbls (fun m' hm => by
    obtain ⟨o', es', ep', ho', r'⟩ := hm
    rw [ho] at ho'; cases ho'
    exact ⟨_, es', ep', hL, r'⟩) hok hg

theorem Inv.turned {t' : Nat} {it : Addr} (I : Inv X pins σ H s) (k : ∀ b o, b ≠ it → s.heap.get? b = some o → h'.get? b = some o) (hn : H it = none) (hL : it ≠ X.env.locals)
    (h1 : it ∈ X.ex ∨ X.s₀.heap.objs.size ≤ it) (h2 : ∀ x c, X.env.cells.lookup x = some c → c ≠ it) (h3 : ∀ p ∈ X.pn ++ pins, p.1 ≠ it) : Inv X pins σ H { s with heap := h', toks := t' } := by
  have nit : ∀ b u, H b = some u → b ≠ it := fun b u e z => by rw [z, hn] at e; cases e
  refine I.step (g' := s.gens) (d' := s.drawn) (ch := [it]) (fun b hb => ?_) (fun b o _ _ hc e _ => k b o (fun z => hc (by simp [z])) e) (fun b o _ _ hc e _ => ⟨o.slots, k b o (fun z => hc (by simp [z])) e⟩) (fun _ _ _ _ n => n)
    (fun b o hc e => ⟨o, k b o (fun z => hc (by simp [z])) e⟩) (fun _ _ e => e) (fun _ _ _ e => e) (fun b ps e => ⟨#[], by rw [e]; simp⟩) (fun m hm => ?_) (fun b u e => ?_) I.bare
  · have e : b = it := by simpa using hb
    subst e
    exact ⟨h1, hL, h2, h3⟩
  · obtain ⟨o, es, ep, ho, r⟩ := hm
    exact ⟨o, es, ep, k _ o (Ne.symm hL) ho, r⟩
  · refine (I.hok b u e).stay (fun c v hc q => k c v ?_ q) (fun _ q => q) fun _ _ q => q
    rcases hc with z | z
    · rw [z]; exact nit b u e
    · exact nit c _ z
theorem Inv.tok (I : Inv X pins σ H s) (t : Nat) : Inv X pins σ H { s with toks := t } := I.un (h' := s.heap) (t' := t) Un.refl I.hok

theorem Inv.kept {t' : Nat} (I : Inv X pins σ H s) (k : ∀ b u, s.heap.get? b = some u → h'.get? b = some u) : Inv X pins σ H { s with heap := h', toks := t' } := I.un (Un.kept k) (I.hok.kept k)

theorem Inv.laid {a : Addr} {o : HO} {t' : Nat} (I : Inv X pins σ H s) (k : ∀ b u, s.heap.get? b = some u → h'.get? b = some u) (hp : s.heap.objs.size ≤ a) (new : ObjOk X.prog X.w (upd H a o) h' a o) :
    Inv X pins σ (upd H a o) { s with heap := h', toks := t' } := I.un (Un.laid k hp (I.hok.fresh hp)) (I.hok.laid k hp new)

theorem Inv.write {x e : Addr} {o : HO} {t' : Nat} (I : Inv X pins σ H s) (mu : Mut (H x)) (he : e = x ∨ H e = some (.own x)) (k : ∀ b u, b ≠ e → s.heap.get? b = some u → h'.get? b = some u) (heo : ∃ u, h'.get? e = some u)
    (new : ObjOk X.prog X.w (upd H x o) h' x o) : Inv X pins σ (upd H x o) { s with heap := h', toks := t' } := I.un (Un.write mu he k heo) (I.hok.write mu he k heo new)

theorem Inv.weak {σ' : List (Option V)} (I : Inv X pins σ H s) (hl : σ'.length = σ.length) (w : ∀ (i : Nat) v, σ'[i]? = some (some v) → σ[i]? = some (some v)) : Inv X pins σ' H s :=
  ⟨I.ok, I.os, I.bare, I.base, let ⟨m, hn, hl'⟩ := I.loc; ⟨m, hn, fun i x v e1 e2 e3 => hl' i x v e1 (w i v e2) e3⟩, I.cell, I.free, I.freeC, I.pin, I.hok, hl.trans I.len⟩
theorem Inv.pins_of {pins' : List (Addr × Obj)} (I : Inv X pins σ H s) (h : ∀ p ∈ pins', s.heap.get? p.1 = some p.2 ∧ H p.1 = none ∧ p.1 ≠ X.env.locals ∧ p.1 ∉ X.fs ∧ ∀ v, p.2.data ≠ .cell v) : Inv X pins' σ H s :=
  ⟨I.ok, I.os, I.bare, I.base, I.loc, I.cell, I.free, I.freeC, fun p hp => (List.mem_append.mp hp).elim (fun z => I.pin p (List.mem_append_left _ z)) (h p), I.hok, I.len⟩

theorem nodup_ix {N : List Str} (hN : N.Nodup) {i j : Nat} {x : Str} (a : N[i]? = some x) (b : N[j]? = some x) : i = j := by
  obtain ⟨h1, e1⟩ := List.getElem?_eq_some_iff.mp a
  obtain ⟨h2, e2⟩ := List.getElem?_eq_some_iff.mp b
  exact (List.getElem_inj hN).mp (e1.trans e2.symm)


theorem store_ok2 {M : Model} {A : Around} {E : Value → Shared → Prop} {i : Nat} {x : Str} {v : V} {u : Value} {Q : Unit → Shared → Prop} (I : Inv X pins σ H s) (hN : X.N.Nodup) (hi : X.N[i]? = some x) (hx : Loc X.env.scope x) (r : RelV v u)
    (h : ∀ s', Inv X pins (σ.set i (some v)) H s' → (∃ a, Heap.SameBut a s.heap s'.heap ∧ (a = X.env.locals ∨ X.env.cells.lookup x = some a)) → Q () s') (hf : X.fn x = true ∨ X.env.scope.names.lookup x = some .local := by first | exact .inl rfl | exact .inr rfl | assumption) : wpAny M A (storeName X.env x u) Q E s := by
  obtain ⟨m, hn, hl⟩ := id I.loc
  have hcls : (X.env.scope.kind == .class || (X.env.scope.kind == .module && X.env.locals != X.env.globals)) = false := by rw [I.ok.kind]; rfl
  have hiσ : i < σ.length := by rw [I.len]; exact (List.getElem?_eq_some_iff.mp hi).1
  have cne := I.cne
  have tracked : ∀ {a : Addr} {h' : Heap}, (∃ o, s.heap.get? a = some o ∧ H a = none) → Heap.SameBut a s.heap h' → HOk X.prog X.w H h' := fun {a h'} ha hs b ob e => by
    obtain ⟨_, _, hfree⟩ := ha
    refine (I.hok b ob e).stay (fun c w' hc q => (hs.2 c ?_).trans q) (fun _ q => q) fun _ _ q => q
    rintro rfl
    rcases hc with rfl | hc
    · rw [hfree] at e; cases e
    · rw [hfree] at hc; cases hc
  rcases hx with hk | hk
  · refine wpAny_storeName_local hk hn (fun h' hn' hs => ?_) hcls
    obtain ⟨oL, _, _, hoL, _⟩ := id hn
    refine h _ ⟨I.ok, I.os, I.bare, ⟨fun b o e n hb hx => ?_, fun b o e n hb hx => ?_, I.base.free, fun b o e hx => ?_, I.base.tups, I.base.frzs, I.base.tbls⟩, ⟨_, hn', fun j y v' e1 e2 e3 => ?_⟩, fun y c e => ?_, I.free, I.freeC, fun p hp => ?_, tracked ⟨oL, hoL, I.free⟩ hs, by simpa using I.len⟩ ⟨_, hs, .inl rfl⟩
    · exact (hs.2 b (Nat.ne_of_lt (Nat.lt_of_lt_of_le (Heap.lt_size e) I.ok.above))).trans (I.base.keep b o e n hb hx)
    · obtain ⟨sl, e1⟩ := I.base.slot b o e n hb hx
      exact ⟨sl, (hs.2 b (Nat.ne_of_lt (Nat.lt_of_lt_of_le (Heap.lt_size e) I.ok.above))).trans e1⟩
    · obtain ⟨o', e1⟩ := I.base.there b o e hx
      exact ⟨o', (hs.2 b (Nat.ne_of_lt (Nat.lt_of_lt_of_le (Heap.lt_size e) I.ok.above))).trans e1⟩
    · by_cases hj : j = i
      · subst hj
        rw [hi] at e1; cases e1
        rw [List.getElem?_set_self hiσ] at e2
        cases e2
        exact ⟨u, r, .inl ⟨hk, by simp⟩⟩
      · rw [List.getElem?_set_ne (Ne.symm hj)] at e2
        obtain ⟨u', r', q⟩ := hl j y v' e1 e2 e3
        refine ⟨u', r', ?_⟩
        rcases q with ⟨k, e⟩ | ⟨k, c, e, z⟩
        · refine .inl ⟨k, ?_⟩
          have : y ≠ x := fun e => hj (nodup_ix hN e1 (e ▸ hi))
          simp [this, e]
        · exact .inr ⟨k, c, e, z.sameBut hs (cne y c e)⟩
    · obtain ⟨w', z⟩ := I.cell y c e
      exact ⟨w', z.sameBut hs (cne y c e)⟩
    · obtain ⟨e, n, ne, nf, d⟩ := I.pin p hp
      exact ⟨(hs.2 p.1 ne).trans e, n, ne, nf, d⟩
  · have hfn : X.fn x = true := by
      rcases hf with z | z
      · exact z
      · rw [z] at hk; cases hk
    obtain ⟨c, hc⟩ := I.ok.has x (.inl hk)
    obtain ⟨w', z⟩ := I.cell x c hc
    refine wpAny_storeName_cell I.ok.kind hk hc z (fun h' hc' hs => ?_)
    obtain ⟨oc, hoc, hocd⟩ := id z
    refine h { s with heap := h' } ⟨I.ok, I.os, I.bare, ⟨fun b o e n hb hx => ?_, fun b o e n hb hx => ?_, I.base.free, fun b o e hx => ?_, I.base.tups, I.base.frzs, I.base.tbls⟩, ⟨m, hn.sameBut hs (Ne.symm (cne x c hc)), fun j y v' e1 e2 e3 => ?_⟩, fun y c' e => ?_, I.free, I.freeC, fun p hp => ?_, tracked ⟨oc, hoc, I.freeC x c hc⟩ hs, by simpa using I.len⟩ ⟨c, hs, .inr hc⟩
    · exact (hs.2 b (Nat.ne_of_lt (Nat.lt_of_lt_of_le (Heap.lt_size e) (I.ok.cab x c hfn hc)))).trans (I.base.keep b o e n hb hx)
    · obtain ⟨sl, e1⟩ := I.base.slot b o e n hb hx
      exact ⟨sl, (hs.2 b (Nat.ne_of_lt (Nat.lt_of_lt_of_le (Heap.lt_size e) (I.ok.cab x c hfn hc)))).trans e1⟩
    · obtain ⟨o', e1⟩ := I.base.there b o e hx
      exact ⟨o', (hs.2 b (Nat.ne_of_lt (Nat.lt_of_lt_of_le (Heap.lt_size e) (I.ok.cab x c hfn hc)))).trans e1⟩
    · by_cases hj : j = i
      · subst hj
        rw [hi] at e1; cases e1
        rw [List.getElem?_set_self hiσ] at e2
        cases e2
        exact ⟨u, r, .inr ⟨.inl hk, c, hc, hc'⟩⟩
      · rw [List.getElem?_set_ne (Ne.symm hj)] at e2
        obtain ⟨u', r', q⟩ := hl j y v' e1 e2 e3
        refine ⟨u', r', ?_⟩
        rcases q with q | ⟨k, c', e, z'⟩
        · exact .inl q
        · refine .inr ⟨k, c', e, z'.sameBut hs ?_⟩
          rintro rfl
          exact hj (nodup_ix hN e1 (I.ok.inj _ _ _ e hc ▸ hi))
    · by_cases hcc : c' = c
      · subst hcc; exact ⟨_, hc'⟩
      · obtain ⟨w2, z2⟩ := I.cell y c' e
        exact ⟨w2, z2.sameBut hs hcc⟩
    · obtain ⟨e, n, ne, nf, d⟩ := I.pin p hp
      refine ⟨(hs.2 p.1 ?_).trans e, n, ne, nf, d⟩
      intro q
      rw [q, hoc] at e
      have q' : oc = p.2 := Option.some.inj e
      exact d w' (by rw [← q']; exact hocd)
theorem store_ok {M : Model} {A : Around} {E : Value → Shared → Prop} {i : Nat} {x : Str} {v : V} {u : Value} {Q : Unit → Shared → Prop} (I : Inv X pins σ H s) (hN : X.N.Nodup) (hi : X.N[i]? = some x) (hx : Loc X.env.scope x) (r : RelV v u)
    (h : ∀ s', Inv X pins (σ.set i (some v)) H s' → Q () s') (hf : X.fn x = true ∨ X.env.scope.names.lookup x = some .local := by first | exact .inl rfl | exact .inr rfl | assumption) : wpAny M A (storeName X.env x u) Q E s :=
  store_ok2 I hN hi hx r (fun s' I' _ => h s' I') hf

theorem Inv.call' {s' : Shared} {ch : List Addr} (I : Inv X pins σ H s) (ho : s'.os = s.os) (u : Un (frs X.stack) ch H H' s.heap s'.heap) (hok : HOk X.prog X.w H' s'.heap) (hg : AllBare s'.gens)
    (hch : ∀ b ∈ ch, (b ∈ X.ex ∨ X.s₀.heap.objs.size ≤ b) ∧ b ≠ X.env.locals ∧ (∀ x c, X.env.cells.lookup x = some c → c ≠ b) ∧ ∀ p ∈ X.pn ++ pins, p.1 ≠ b) : Inv X pins σ H' s' := by
  obtain ⟨h', g', d', t', o'⟩ := s'
  have e : o' = s.os := ho
  subst e
  exact I.call (g' := g') (t' := t') (d' := d') u hok hg hch
end



abbrev XK := Value → Option Addr → Hp → Prop
abbrev St := List (Option V)
abbrev VK := V → Hp → Prop

abbrev TE := St → Hp → VK → Prop
abbrev TT := St → Hp → (Bool → Hp → Prop) → Prop
abbrev TA := St → Hp → (List V → Hp → Prop) → Prop

structure Ends where
  nx : St → Hp → Prop
  rt : VK
  bk : St → Hp → Prop := fun _ _ => False
  ct : St → Hp → Prop := fun _ _ => False
abbrev TS := Ends → St → Hp → Prop

def EP (X : Cx) (pins : List (Addr × Obj)) (σ : St) (Q : VK) (u : Value) (s' : Shared) : Prop := ∃ v H', Inv X pins σ H' s' ∧ RelV v u ∧ Q v H'
def TP (X : Cx) (pins : List (Addr × Obj)) (σ : St) (Q : Bool → Hp → Prop) (b : Bool) (s' : Shared) : Prop := ∃ H', Inv X pins σ H' s' ∧ Q b H'
def AP (X : Cx) (pins : List (Addr × Obj)) (σ : St) (Q : List V → Hp → Prop) (us : List Value) (s' : Shared) : Prop := ∃ vs H', Inv X pins σ H' s' ∧ Vals vs us ∧ Q vs H'
def SP (X : Cx) (pins : List (Addr × Obj)) (D : Ends) (f : Flow) (s' : Shared) : Prop :=
  match f with
  | .next => ∃ σ' H', Inv X pins σ' H' s' ∧ D.nx σ' H'
  | .brk => ∃ σ' H', Inv X pins σ' H' s' ∧ D.bk σ' H'
  | .cont => ∃ σ' H', Inv X pins σ' H' s' ∧ D.ct σ' H'
  | .ret u => ∃ v σ' H', Inv X pins σ' H' s' ∧ RelV v u ∧ D.rt v H'

def PE (X : Cx) (e : Expr) (t : TE) : Prop :=
  ∀ (pins : List (Addr × Obj)) (s : Shared) (σ : St) (H : Hp) (Q : VK), Inv X pins σ H s → t σ H Q → wpAny (model X.prog X.w) X.A (eval e X.env) (EP X pins σ Q) X.xe s
def PT (X : Cx) (e : Expr) (t : TT) : Prop :=
  ∀ (pins : List (Addr × Obj)) (s : Shared) (σ : St) (H : Hp) (Q : Bool → Hp → Prop), Inv X pins σ H s → t σ H Q → wpAny (model X.prog X.w) X.A (isTrue e X.env (eval e X.env)) (TP X pins σ Q) X.xe s

def PW (X : Cx) (e : Expr) (t : TT) : Prop :=
  ∀ (whole : Sem Value) (pins : List (Addr × Obj)) (s : Shared) (σ : St) (H : Hp) (Q : Bool → Hp → Prop), Inv X pins σ H s → t σ H Q → wpAny (model X.prog X.w) X.A (isTrue e X.env whole) (TP X pins σ Q) X.xe s
theorem PW.pt {X : Cx} {e : Expr} {t : TT} (h : PW X e t) : PT X e t := h _

def PA (X : Cx) (es : List Expr) (t : TA) : Prop :=
  ∀ (pos : Pos) (pins : List (Addr × Obj)) (s : Shared) (σ : St) (H : Hp) (Q : List V → Hp → Prop), Inv X pins σ H s → t σ H Q → wpAny (model X.prog X.w) X.A (spliced (backTo pos (starEach es X.env))) (AP X pins σ Q) X.xe s
def PS (X : Cx) (st : Stmt) (t : TS) : Prop :=
  ∀ (pins : List (Addr × Obj)) (s : Shared) (σ : St) (H : Hp) (D : Ends), Inv X pins σ H s → t D σ H → wpAny (model X.prog X.w) X.A (exec st X.env) (SP X pins D) X.xe s
def PSs (X : Cx) (st : List Stmt) (t : TS) : Prop :=
  ∀ (pins : List (Addr × Obj)) (s : Shared) (σ : St) (H : Hp) (D : Ends), Inv X pins σ H s → t D σ H → wpAny (model X.prog X.w) X.A (execs st X.env) (SP X pins D) X.xe s

theorem thn {α : Type} {t : Sem α} {Q Q' : α → Shared → Prop} {M : Model} {A : Around} {E : Value → Shared → Prop} {s : Shared} (h : wpAny M A t Q E s) (hQ : ∀ a s, Q a s → Q' a s) : wpAny M A t Q' E s := wpAny_mono h hQ fun _ _ x => x
end L2

namespace L2
open PySem PySem.Spec PyProof.Rows
section
variable {X : Cx}


def tVar (i : Nat) : TE := fun σ H Q => ∃ v, σ[i]? = some (some v) ∧ Q v H
def tC (v : V) : TE := fun _ H Q => Q v H
theorem pe_var {i : Nat} {x : Str} {pos : Pos} (hN : X.N[i]? = some x) (hv : Vis X.env.scope x) (hd : (x == ("__debug__" : Str)) = false := by decide) (hcd : (x == ("__classdict__" : Str)) = false := by decide) : PE X (.Name x pos) (tVar i) := by
  intro pins s σ H Q I h
  obtain ⟨v, e, h⟩ := h
  obtain ⟨m, hn, hl⟩ := I.loc
  obtain ⟨u, r, l⟩ := hl i x v hN e hv
  have fin : EP X pins σ Q u s := ⟨v, H, I, r, h⟩
  rcases l with ⟨hk, hm⟩ | ⟨hk, c, hc, hcell⟩
  · exact wpAny_Name (wpAny_loadName_local I.ok.kind hk hn hm fin) hd
  · rcases hk with hk | hk
    · exact wpAny_Name (wpAny_loadName_cell I.ok.kind hk hc hcell fin) hd
    · exact wpAny_Name (wpAny_loadName_free I.ok.kind hk hc hcell fin hcd) hd
theorem pe_int {i j pos} : PE X (.Constant (.int i) j pos) (tC (.int i)) := fun _ _ _ H _ I h => wpAny_Constant_int ⟨.int i, H, I.tok _, ⟨_, rfl⟩, h⟩
theorem pe_bl {b j pos} : PE X (.Constant (.bool b) j pos) (tC (.bl b)) := fun _ _ _ H _ I h => Constant_bool ⟨.bl b, H, I, rfl, h⟩
theorem pe_non {j pos} : PE X (.Constant .none j pos) (tC .non) := fun _ _ _ H _ I h => Constant_none ⟨.non, H, I, rfl, h⟩
theorem pe_str {x j pos} : PE X (.Constant (.str x) j pos) (tC (.str x)) := fun _ _ _ H _ I h => Calls.Constant_str ⟨.str x, H, I.tok _, ⟨_, rfl⟩, h⟩


def Gl (X : Cx) (x : Str) : Prop := X.env.kindOf x = some .globalImplicit
theorem ld_glob {E : Value → Shared → Prop} {pins : List (Addr × Obj)} {s : Shared} {σ : St} {H : Hp} {x : Str} {u : Value} {pos : Pos} {Q : Value → Shared → Prop} (I : Inv X pins σ H s) (hg : Gl X x) (hm : X.mg x = some u) (h : Q u s)
    (hd : (x == ("__debug__" : Str)) = false := by decide) : wpAny (model X.prog X.w) X.A (eval (.Name x pos) X.env) Q E s :=
  Calls.Name_function_global I.ok.kind hg (Calls.loadGlobal_global (by rw [I.ok.glob]; exact I.mod.glob.keeps I.bk) hm h) hd
theorem ld_blt {E : Value → Shared → Prop} {pins : List (Addr × Obj)} {s : Shared} {σ : St} {H : Hp} {x : Str} {u : Value} {pos : Pos} {Q : Value → Shared → Prop} (I : Inv X pins σ H s) (hg : Gl X x) (hm : X.mg x = none) (hv : bootBuiltins x = some u) (h : Q u s)
    (hn : x ≠ "__name__" := by decide) (hd : (x == ("__debug__" : Str)) = false := by decide) : wpAny (model X.prog X.w) X.A (eval (.Name x pos) X.env) Q E s := by
  obtain ⟨mb, h1, h2⟩ := I.mod.blt
  exact Calls.Name_function_global I.ok.kind hg (Calls.loadGlobal_builtin (by rw [I.ok.glob]; exact I.mod.glob.keeps I.bk) hm (by rw [I.ok.blt]; exact h1.keeps I.bk) ((h2 x hn).trans hv) h) hd

theorem pe_glob {x : Str} {v : V} {u : Value} {pos : Pos} (hg : Gl X x) (hm : X.mg x = some u) (r : RelV v u) (hd : (x == ("__debug__" : Str)) = false := by decide) : PE X (.Name x pos) (tC v) :=
  fun _ _ _ H _ I h => ld_glob I hg hm ⟨v, H, I, r, h⟩ hd
theorem pe_bltn {x : Str} {v : V} {u : Value} {pos : Pos} (hg : Gl X x) (hm : X.mg x = none) (hv : bootBuiltins x = some u) (r : RelV v u) (hn : x ≠ "__name__" := by decide) (hd : (x == ("__debug__" : Str)) = false := by decide) : PE X (.Name x pos) (tC v) :=
  fun _ _ _ H _ I h => ld_blt I hg hm hv ⟨v, H, I, r, h⟩ hn hd



variable {a b : Expr} {ta tb : TE} {pos : Pos}
def PC (X : Cx) (op : CmpOp) (a b : Expr) (t : TE) : Prop :=
  ∀ (pins : List (Addr × Obj)) (s : Shared) (σ : St) (H : Hp) (Q : VK), Inv X pins σ H s → t σ H Q →
    wpAny (model X.prog X.w) X.A (eval a X.env) (fun v s₁ => wpAny (model X.prog X.w) X.A (eval b X.env) (fun u s₂ => wpAny (model X.prog X.w) X.A (compareOp op v u) (EP X pins σ Q) X.xe s₂) X.xe s₁) X.xe s
theorem nobehind (b : Expr) {op : CmpOp} (h : op ≠ .In) (h2 : op ≠ .NotIn) : behindInMarks op b = false := by
  have e1 : (op == CmpOp.In) = false := by cases op <;> first | rfl | exact absurd rfl h
  have e2 : (op == CmpOp.NotIn) = false := by cases op <;> first | rfl | exact absurd rfl h2
  cases b <;> simp [behindInMarks, e1, e2]
def tIsN (ta : TE) : TE := fun σ H Q => ta σ H fun x H1 => Q (.bl (decide (x = .non))) H1
def tNotN (ta : TE) : TE := fun σ H Q => ta σ H fun x H1 => Q (.bl (!decide (x = .non))) H1
theorem RelV.none_iff {x : V} {v : Value} (r : RelV x v) : (v == Value.none) = decide (x = .non) := by
  cases x with
  | non => cases r; rfl
  | bl _ => cases r; rfl
  | int _ => obtain ⟨t, rfl⟩ := r; rfl
  | str _ => obtain ⟨t, rfl⟩ := r; rfl
  | byt _ => obtain ⟨t, rfl⟩ := r; rfl
  | flt _ => obtain ⟨t, rfl⟩ := r; rfl
  | ref _ => cases r; rfl
  | ty _ => cases r; rfl
theorem pc_isN {j pos'} (ha : PE X a ta) : PC X .Is a (.Constant .none j pos') (tIsN ta) := by
  intro pins s σ H Q I h
  refine thn (ha pins s σ H _ I h) fun v s1 ⟨x, H1, I1, r1, q1⟩ => ?_
  exact Constant_none (is_none_gen ⟨.bl _, H1, I1, by rw [r1.none_iff]; rfl, q1⟩)
theorem pc_notN {j pos'} (ha : PE X a ta) : PC X .IsNot a (.Constant .none j pos') (tNotN ta) := by
  intro pins s σ H Q I h
  refine thn (ha pins s σ H _ I h) fun v s1 ⟨x, H1, I1, r1, q1⟩ => ?_
  exact Constant_none (isnot_none_gen ⟨.bl _, H1, I1, by rw [r1.none_iff]; rfl, q1⟩)

def tB (t : TE) : TT := fun σ H Q => t σ H fun x H1 => ∃ c, x = .bl c ∧ Q c H1
theorem pt_cmp {op : CmpOp} {t : TE} (h : PC X op a b t) (h1 : behindInMarks op b = false := by first | exact nobehind _ (by decide) (by decide) | rfl) : PT X (.Compare a [op] [b] pos) (tB t) := by
  intro pins s σ H Q I hw
  refine wpAny_isTrue_Compare1 (thn (h pins s σ H _ I hw) fun v s1 h1 => thn h1 fun u s2 h2 => thn h2 fun c s3 ⟨x, H1, I1, r1, q1⟩ => ?_) h1
  obtain ⟨d, rfl, q⟩ := q1
  cases r1
  exact wpAny_truthy_bool ⟨H1, I1, q⟩

theorem pt_val {e : Expr} {t : TE} (h : PE X e t) (he : ∀ whole, isTrue e X.env whole = (do let v ← whole; standAt e.pos; holding [v] (truthy v)) := by intro _; rfl) : PT X e (tB t) := by
  intro pins s σ H Q I hw
  refine isTrue_plain (thn (h pins s σ H _ I hw) fun v s1 ⟨x, H1, I1, r1, q1⟩ => ?_) (he _)
  obtain ⟨d, rfl, q⟩ := q1
  cases r1
  exact wpAny_truthy_bool ⟨H1, I1, q⟩


variable {tA tB' : TT} {rest : List Expr}
def tAnd (t u : TT) : TT := fun σ H Q => t σ H fun c H1 => if c = true then u σ H1 Q else Q false H1
def tOr (t u : TT) : TT := fun σ H Q => t σ H fun c H1 => if c = true then Q true H1 else u σ H1 Q
def tNot (t : TT) : TT := fun σ H Q => t σ H fun c H1 => Q (!c) H1
theorem pw_and1 (ha : PT X a tA) : PW X (.BoolOp .And [a] pos) tA := by
  intro wh pins s σ H Q I h
  refine isTrue_and (thn (ha pins s σ H Q I h) fun c s1 e => ?_)
  cases c with
  | true => exact isTrue_and_nil e
  | false => exact e
theorem pw_or1 (ha : PT X a tA) : PW X (.BoolOp .Or [a] pos) tA := by
  intro wh pins s σ H Q I h
  refine isTrue_or (thn (ha pins s σ H Q I h) fun c s1 e => ?_)
  cases c with
  | false => exact isTrue_or_nil e
  | true => exact e
theorem pw_and (ha : PT X a tA) (hb : PW X (.BoolOp .And (b :: rest) pos) tB') : PW X (.BoolOp .And (a :: b :: rest) pos) (tAnd tA tB') := by
  intro wh pins s σ H Q I h
  refine isTrue_and (thn (ha pins s σ H _ I h) fun c s1 ⟨H1, I1, q1⟩ => ?_)
  cases c with
  | true => exact hb wh pins s1 σ H1 Q I1 q1
  | false => exact ⟨H1, I1, q1⟩
theorem pw_or (ha : PT X a tA) (hb : PW X (.BoolOp .Or (b :: rest) pos) tB') : PW X (.BoolOp .Or (a :: b :: rest) pos) (tOr tA tB') := by
  intro wh pins s σ H Q I h
  refine isTrue_or (thn (ha pins s σ H _ I h) fun c s1 ⟨H1, I1, q1⟩ => ?_)
  cases c with
  | true => exact ⟨H1, I1, q1⟩
  | false => exact hb wh pins s1 σ H1 Q I1 q1
theorem pt_not (ha : PT X a tA) : PT X (.UnaryOp .Not a pos) (tNot tA) := by
  intro pins s σ H Q I h
  exact isTrue_not (ha pins s σ H (fun c H1 => Q (!c) H1) I h)

def tAndV (ta tb : TE) : TE := fun σ H Q => ta σ H fun x H1 => ∃ c, x = .bl c ∧ if c = true then tb σ H1 Q else Q (.bl false) H1
def tOrV (ta tb : TE) : TE := fun σ H Q => ta σ H fun x H1 => ∃ c, x = .bl c ∧ if c = true then Q (.bl true) H1 else tb σ H1 Q
def tNotV (ta : TE) : TE := fun σ H Q => ta σ H fun x H1 => ∃ c, x = .bl c ∧ Q (.bl (!c)) H1
theorem pe_one {op} {t : TE} (h : PE X a t) : PE X (.BoolOp op [a] pos) t := fun pins s σ H Q I hw => BoolOp_one (h pins s σ H Q I hw)
theorem pe_and (ha : PE X a ta) (hb : PE X (.BoolOp .And (b :: rest) pos) tb) : PE X (.BoolOp .And (a :: b :: rest) pos) (tAndV ta tb) := by
  intro pins s σ H Q I h
  refine BoolOp_and (thn (ha pins s σ H _ I h) fun v s1 ⟨x, H1, I1, r1, q1⟩ => ?_)
  obtain ⟨c, rfl, q1⟩ := q1
  cases r1
  refine wpAny_truthy_bool ?_
  cases c with
  | true => exact hb pins s1 σ H1 Q I1 q1
  | false => exact ⟨.bl false, H1, I1, rfl, q1⟩
theorem pe_or (ha : PE X a ta) (hb : PE X (.BoolOp .Or (b :: rest) pos) tb) : PE X (.BoolOp .Or (a :: b :: rest) pos) (tOrV ta tb) := by
  intro pins s σ H Q I h
  refine BoolOp_or (thn (ha pins s σ H _ I h) fun v s1 ⟨x, H1, I1, r1, q1⟩ => ?_)
  obtain ⟨c, rfl, q1⟩ := q1
  cases r1
  refine wpAny_truthy_bool ?_
  cases c with
  | false => exact hb pins s1 σ H1 Q I1 q1
  | true => exact ⟨.bl true, H1, I1, rfl, q1⟩
theorem pe_not (ha : PE X a ta) : PE X (.UnaryOp .Not a pos) (tNotV ta) := by
  intro pins s σ H Q I h
  refine UnaryOp_ (thn (ha pins s σ H _ I h) fun v s1 ⟨x, H1, I1, r1, q1⟩ => ?_)
  obtain ⟨c, rfl, q1⟩ := q1
  cases r1
  exact not_of (wpAny_truthy_bool ⟨.bl (!c), H1, I1, rfl, q1⟩)

end
end L2

namespace L2
open PySem PySem.Spec PyProof.Rows


def SqL (K : PySem.W.Frag) (H : Hp) (a : Addr) (xs : List V) : Prop :=
  Rd H a (.lst xs) ∨
    ∃ (o : Obj) (its : Array Value) (n : Nat), K.lookup a = some o ∧ o.cls = .type "list" ∧ o.dict = none ∧ o.data = .seq its n ∧ its.size ≤ sizeLine ∧ Vals xs its.toList
def SqT (K : PySem.W.Frag) (H : Hp) (a : Addr) (xs : List V) : Prop :=
  Rd H a (.tup xs) ∨
    ∃ (o : Obj) (its : Array Value) (n : Nat), K.lookup a = some o ∧ o.cls = .type "tuple" ∧ o.data = .seq its n ∧ its.size ≤ sizeLine ∧ Vals xs its.toList
def absV : Value → Option V
  | .none => some .non
  | .bool b => some (.bl b)
  | .int i _ => some (.int i)
  | .str x _ => some (.str x)
  | .bytes b _ => some (.byt b)
  | .float b _ => some (.flt b)
  | .ref a => some (.ref a)
  | .type n => some (.ty n)
  | _ => none
theorem RelV.abs {x : V} {u : Value} (r : RelV x u) : absV u = some x := by
  cases x with
  | non => cases r; rfl
  | bl _ => cases r; rfl
  | int _ => obtain ⟨t, rfl⟩ := r; rfl
  | str _ => obtain ⟨t, rfl⟩ := r; rfl
  | byt _ => obtain ⟨t, rfl⟩ := r; rfl
  | flt _ => obtain ⟨t, rfl⟩ := r; rfl
  | ref _ => cases r; rfl
  | ty _ => cases r; rfl
theorem RelV.inj {x y : V} {u : Value} (r : RelV x u) (q : RelV y u) : x = y := Option.some.inj (r.abs.symm.trans q.abs)
theorem Vals.inj : ∀ {xs ys : List V} {us : List Value}, Vals xs us → Vals ys us → xs = ys
  | _, _, _, .nil, .nil => rfl
  | _, _, _, .cons r t, .cons r' t' => by rw [r.inj r', Vals.inj t t']
section
variable {X : Cx} {pins : List (Addr × Obj)} {σ : St} {H : Hp} {s : Shared} {a : Addr} {xs ys : List V}
theorem SqL.of {K : PySem.W.Frag} (h : H a = some (.lst xs)) : SqL K H a xs := .inl (.inl h)
theorem SqT.of {K : PySem.W.Frag} (h : H a = some (.tup xs)) : SqT K H a xs := .inl (.inl h)
theorem Inv.list (I : Inv X pins σ H s) (h : SqL X.K H a xs) : ∃ its : List Value, Vals xs its ∧ PlainL s.heap a its.toArray ∧ xs.length ≤ sizeLine := by
  rcases h with h | ⟨o, its, n, hk, hc, hd, hs, hz, r⟩
  · obtain ⟨z, its, n, r, e⟩ := h.ok I.hok
    exact ⟨its, r, ⟨_, n, e, rfl, rfl, rfl⟩, z⟩
  · refine ⟨its.toList, r, ⟨o, n, I.kIn a o hk, hc, hd, by simpa using hs⟩, ?_⟩
    have e := r.length
    simp only [Array.length_toList] at e
    omega
theorem Inv.tuple (I : Inv X pins σ H s) (h : SqT X.K H a xs) : ∃ its : List Value, Vals xs its ∧ IsTup s.heap a its.toArray ∧ xs.length ≤ sizeLine := by
  rcases h with h | ⟨o, its, n, hk, hc, hs, hz, r⟩
  · obtain ⟨z, its, r, p⟩ := h.ok I.hok
    exact ⟨its, r, p, z⟩
  · refine ⟨its.toList, r, ⟨o, I.kIn a o hk, hc, n, by simpa using hs⟩, ?_⟩
    have e := r.length
    simp only [Array.length_toList] at e
    omega
theorem Inv.list_inj (I : Inv X pins σ H s) (h : SqL X.K H a xs) (h' : SqL X.K H a ys) : xs = ys := by
  obtain ⟨its, r, ⟨o, n, e, _, _, d⟩, _⟩ := I.list h
  obtain ⟨its', r', ⟨o', n', e', _, _, d'⟩, _⟩ := I.list h'
  rw [e] at e'; cases e'
  rw [d] at d'
  injection d' with d1 _
  have : its = its' := by simpa using congrArg Array.toList d1
  subst this
  exact r.inj r'
theorem Inv.tuple_inj (I : Inv X pins σ H s) (h : SqT X.K H a xs) (h' : SqT X.K H a ys) : xs = ys := by
  obtain ⟨its, r, ⟨o, e, _, n, d⟩, _⟩ := I.tuple h
  obtain ⟨its', r', ⟨o', e', _, n', d'⟩, _⟩ := I.tuple h'
  rw [e] at e'; cases e'
  rw [d] at d'
  injection d' with d1 _
  have : its = its' := by simpa using congrArg Array.toList d1
  subst this
  exact r.inj r'
end


abbrev Cx.wish (X : Cx) (E : Value → Shared → Prop) : Cx := { X with xe := E }

abbrev Cx.nox (X : Cx) : Cx := X.wish fun _ _ => False
theorem Cx.Ok.wish {X : Cx} (ok : X.Ok) (E : Value → Shared → Prop) : (X.wish E).Ok :=
  ⟨ok.mod, ok.kind, ok.glob, ok.blt, ok.above, ok.inj, ok.has, ok.cab, ok.hd, ok.frames, ok.stk, ok.exf, ok.bs, ok.bsz, ok.noex, ok.exfs, ok.funs, ok.frf⟩
theorem Cx.Ok.unwish {X : Cx} {E : Value → Shared → Prop} (ok : (X.wish E).Ok) : X.Ok :=
  ⟨ok.mod, ok.kind, ok.glob, ok.blt, ok.above, ok.inj, ok.has, ok.cab, ok.hd, ok.frames, ok.stk, ok.exf, ok.bs, ok.bsz, ok.noex, ok.exfs, ok.funs, ok.frf⟩
section
variable {X : Cx} {pins : List (Addr × Obj)} {σ : St} {H : Hp} {s : Shared} {E : Value → Shared → Prop}
theorem Inv.wish (I : Inv X pins σ H s) (E : Value → Shared → Prop) : Inv (X.wish E) pins σ H s := ⟨I.ok.wish E, I.os, I.bare, I.base, I.loc, I.cell, I.free, I.freeC, I.pin, I.hok, I.len⟩
theorem Inv.unwish (I : Inv (X.wish E) pins σ H s) : Inv X pins σ H s := ⟨I.ok.unwish, I.os, I.bare, I.base, I.loc, I.cell, I.free, I.freeC, I.pin, I.hok, I.len⟩
theorem SP.unwish {D : Ends} {f : Flow} {s' : Shared} (h : SP (X.wish E) pins D f s') : SP X pins D f s' := by
  cases f with
  | next => obtain ⟨σ', H', I, q⟩ := h; exact ⟨σ', H', I.unwish, q⟩
  | brk => obtain ⟨σ', H', I, q⟩ := h; exact ⟨σ', H', I.unwish, q⟩
  | cont => obtain ⟨σ', H', I, q⟩ := h; exact ⟨σ', H', I.unwish, q⟩
  | ret u => obtain ⟨v, σ', H', I, r, q⟩ := h; exact ⟨v, σ', H', I.unwish, r, q⟩
theorem PE.nox {e : Expr} {t : TE} (h : PE X.nox e t) : PE X e t := fun pins s σ H Q I hw =>
  wpAny_mono (h pins s σ H Q (I.wish _) hw) (fun _ _ ⟨v, H', I', r, q⟩ => ⟨v, H', I'.unwish, r, q⟩) fun _ _ z => False.elim z
theorem PT.nox {e : Expr} {t : TT} (h : PT X.nox e t) : PT X e t := fun pins s σ H Q I hw =>
  wpAny_mono (h pins s σ H Q (I.wish _) hw) (fun _ _ ⟨H', I', q⟩ => ⟨H', I'.unwish, q⟩) fun _ _ z => False.elim z
theorem PSs.nox {st : List Stmt} {t : TS} (h : PSs X.nox st t) : PSs X st t := fun pins s σ H D I hw =>
  wpAny_mono (h pins s σ H D (I.wish _) hw) (fun _ _ q => q.unwish) fun _ _ z => False.elim z
end


section
variable {X : Cx} {st : Stmt} {rest : List Stmt} {t u : TS} {e : Expr} {te : TE} {pos : Pos}
def tNext : TS := fun D σ H => D.nx σ H
def tSeq (t u : TS) : TS := fun D σ H => t { D with nx := u D } σ H
theorem pss_nil : PSs X [] tNext := fun _ _ σ H _ I h => wpAny_execs_nil ⟨σ, H, I, h⟩
theorem pss_cons (h1 : PS X st t) (h2 : PSs X rest u) : PSs X (st :: rest) (tSeq t u) := by
  intro pins s σ H D I h
  refine wpAny_execs_cons (thn (h1 pins s σ H { D with nx := u D } I h) fun f s1 q => ?_)
  cases f with
  | next =>
    obtain ⟨σ', H', I', q⟩ := q
    exact h2 pins s1 σ' H' D I' q
  | ret v => exact q
  | brk => exact q
  | cont => exact q
theorem pss_one (h1 : PS X st t) : PSs X [st] t := by
  intro pins s σ H D I h
  refine wpAny_execs_cons (thn (h1 pins s σ H D I h) fun f s1 q => ?_)
  cases f with
  | next => exact wpAny_execs_nil q
  | ret v => exact q
  | brk => exact q
  | cont => exact q
theorem Inv.quiet {pins : List (Addr × Obj)} {σ : St} {H : Hp} {s : Shared} (I : Inv X pins σ H s) : interactive X.env = false := by simp [interactive, I.ok.kind]

def tDrop (te : TE) : TS := fun D σ H => te σ H fun _ H1 => D.nx σ H1
theorem ps_expr (he : PE X e te) (hs : swapsWith e none pos.line X.env = pure false := by rfl) : PS X (.Expr e pos) (tDrop te) := by
  intro pins s σ H D I h
  exact wpAny_Expr_any (thn (he pins s σ H _ I h) fun v s1 ⟨x, H1, I1, r1, q1⟩ => ⟨σ, H1, I1, q1⟩) I.quiet hs
def tRet (te : TE) : TS := fun D σ H => te σ H D.rt
theorem ps_ret (he : PE X e te) : PS X (.Return (some e) pos) (tRet te) := by
  intro pins s σ H D I h
  exact wpAny_Return_some (thn (he pins s σ H _ I h) fun v s1 ⟨x, H1, I1, r1, q1⟩ => ⟨x, σ, H1, I1, r1, q1⟩)
def tIfS (c : TT) (t u : TS) : TS := fun D σ H => c σ H fun b H1 => if b = true then t D σ H1 else u D σ H1
theorem ps_if {c : Expr} {a b : List Stmt} {tc : TT} (hc : PT X c tc) (ha : PSs X a t) (hb : PSs X b u) : PS X (.If c a b pos) (tIfS tc t u) := by
  intro pins s σ H D I h
  refine wpAny_If (thn (hc pins s σ H _ I h) fun d s1 ⟨H1, I1, q1⟩ => ?_)
  cases d with
  | true => exact ha pins s1 σ H1 D I1 q1
  | false => exact hb pins s1 σ H1 D I1 q1

end


abbrev TG := V → St → Hp → (St → Hp → Prop) → Prop
abbrev TGs := List V → St → Hp → (St → Hp → Prop) → Prop
def PG (X : Cx) (target : Expr) (t : TG) : Prop :=
  ∀ (pins : List (Addr × Obj)) (s : Shared) (σ : St) (H : Hp) (v : V) (u : Value) (Q : St → Hp → Prop), Inv X pins σ H s → RelV v u → t v σ H Q →
    wpAny (model X.prog X.w) X.A (assign target X.env u) (fun _ s' => ∃ σ' H', Inv X pins σ' H' s' ∧ Q σ' H') X.xe s

def PGs (X : Cx) (ts : List Expr) (t : TGs) : Prop :=
  ∀ (pins : List (Addr × Obj)) (s : Shared) (σ : St) (H : Hp) (vs : List V) (us : List Value) (Q : St → Hp → Prop), Inv X pins σ H s → Vals vs us → t vs σ H Q →
    wpAny (model X.prog X.w) X.A (assignInOrder ((assignEach ts X.env).map (·.2)) us) (fun _ s' => ∃ σ' H', Inv X pins σ' H' s' ∧ Q σ' H') X.xe s

abbrev TSet := V → V → V → Hp → (Hp → Prop) → Prop
def PSet (X : Cx) (t : TSet) : Prop :=
  ∀ (pins : List (Addr × Obj)) (s : Shared) (σ : St) (H : Hp) (o i v : V) (ov iv u : Value) (Q : Hp → Prop), Inv X pins σ H s → RelV o ov → RelV i iv → RelV v u → t o i v H Q →
    wpAny (model X.prog X.w) X.A (setItem ov iv u) (fun _ s' => ∃ H', Inv X pins σ H' s' ∧ Q H') X.xe s

section
variable {X : Cx} {pos : Pos}
def gName (i : Nat) : TG := fun v σ H Q => Q (σ.set i (some v)) H
theorem pg_name {i : Nat} {x : Str} (hN : X.N.Nodup) (hi : X.N[i]? = some x) (hx : Loc X.env.scope x) (hf : X.fn x = true ∨ X.env.scope.names.lookup x = some .local := by first | exact .inl rfl | exact .inr rfl | assumption) : PG X (.Name x pos) (gName i) := by
  intro pins s σ H v u Q I r h
  exact wpAny_assign_Name (store_ok I hN hi hx r (fun s' I' => ⟨_, H, I', h⟩) hf)
def gNil : TGs := fun vs σ H Q => vs = [] ∧ Q σ H
def gCons (t : TG) (u : TGs) : TGs := fun vs σ H Q => ∃ v r, vs = v :: r ∧ t v σ H fun σ' H' => u r σ' H' Q
theorem pgs_nil : PGs X [] gNil := by
  intro pins s σ H vs us Q I r h
  obtain ⟨e, h⟩ := h
  subst e
  cases r
  exact assignInOrder_nil ⟨σ, H, I, h⟩
theorem pgs_cons {e : Expr} {es : List Expr} {t : TG} {u : TGs} (h1 : PG X e t) (h2 : PGs X es u)
    (hs : (assignEach (e :: es) X.env).map (·.2) = assign e X.env :: (assignEach es X.env).map (·.2) := by rfl) : PGs X (e :: es) (gCons t u) := by
  intro pins s σ H vs us Q I r h
  obtain ⟨v, vr, e1, h⟩ := h
  subst e1
  cases r with
  | cons r rr =>
    rw [hs]
    refine assignInOrder_cons (thn (h1 pins s σ H _ _ _ I r h) fun _ s1 ⟨σ1, H1, I1, q1⟩ => ?_)
    exact h2 pins s1 σ1 H1 _ _ Q I1 rr q1

def gTup (K : PySem.W.Frag) (n : Nat) (t : TGs) : TG := fun v σ H Q => ∃ a xs, v = .ref a ∧ SqT K H a xs ∧ xs.length = n ∧ t xs σ H Q
theorem pg_tup {es : List Expr} {k : Nat} {t : TGs} {n : Nat} (hc : X.calm = true) (h : PGs X es t)
    (hn : (assignEach es X.env).length = n := by rfl) (hst : (assignEach es X.env).findIdx? (·.1) = none := by rfl) : PG X (.Tuple es k pos) (gTup X.K n t) := by
  intro pins s σ H v u Q I r hw
  obtain ⟨a, xs, e1, hq, hl, hw⟩ := hw
  subst e1
  cases r
  obtain ⟨its, rv, ht, hz⟩ := I.tuple hq
  refine assign_Tuple_tuple (I.ok.hd hc) ht (by simp [hn, ← hl, rv.length]) hst fun h' hx => ?_
  have I1 : Inv X pins σ H { s with heap := h' } := I.kept (t' := s.toks) fun b o e => hx b o (Nat.ne_of_lt (Heap.lt_size e)) e
  exact h pins _ σ H xs _ Q I1 (by simpa using rv) hw

def gSub (to ti : TE) (t : TSet) : TG := fun v σ H Q => to σ H fun o H1 => ti σ H1 fun i H2 => t o i v H2 fun H3 => Q σ H3
theorem pg_sub {o i : Expr} {to ti : TE} {t : TSet} (ho : PE X o to) (hi : PE X i ti) (hs : PSet X t)
    (ha : ∀ v, assign (.Subscript o i pos) X.env v = (do
      let ov ← holding [v] (eval o X.env)
      let iv ← holding [v, ov] (eval i X.env)
      standAt pos
      holding [v, ov, iv] (setItem ov iv v)
      release [v, ov, iv] []) := by intro _; rfl) : PG X (.Subscript o i pos) (gSub to ti t) := by
  intro pins s σ H v u Q I r h
  rw [ha]
  refine wpAny_bind (wpAny_holding (thn (ho pins s σ H _ I h) fun ov s1 ⟨x, H1, I1, r1, q1⟩ => ?_))
  refine wpAny_bind (wpAny_holding (thn (hi pins s1 σ H1 _ I1 q1) fun iv s2 ⟨y, H2, I2, r2, q2⟩ => ?_))
  refine wpAny_bind (wpAny_standAt (wpAny_bind (wpAny_holding (thn (hs pins s2 σ H2 x y v ov iv u _ I2 r1 r2 r q2) fun _ s3 ⟨H3, I3, q3⟩ => ?_))))
  exact wpAny_release ⟨σ, H3, I3, q3⟩

def tAsg (te : TE) (g : TG) : TS := fun D σ H => te σ H fun x H1 => g x σ H1 D.nx
theorem ps_asg {tg e : Expr} {te : TE} {g : TG} (he : PE X e te) (hg : PG X tg g) (hs : swapsWithSole [tg] e pos.line X.env = pure false := by rfl) (hw : swappedStores [tg] e X.env = pure none := by rfl)
    (h1 : (assignEach [tg] X.env).map (·.2) = [assign tg X.env] := by rfl) : PS X (.Assign [tg] e pos) (tAsg te g) := by
  intro pins s σ H D I h
  refine wpAny_Assign_stores (thn (he pins s σ H _ I h) fun v s1 ⟨x, H1, I1, r1, q1⟩ => ?_) hs hw
  rw [h1]
  exact thn (hg pins s1 σ H1 x v _ I1 r1 q1) fun _ s2 q => q

theorem ps_set {i : Nat} {x : Str} {e : Expr} {te : TE} {pos' : Pos} (hN : X.N.Nodup) (hi : X.N[i]? = some x) (hx : Loc X.env.scope x) (he : PE X e te) (hs : swapsWith e (some (.Name x pos')) pos.line X.env = pure false := by rfl) (hf : X.fn x = true ∨ X.env.scope.names.lookup x = some .local := by first | exact .inl rfl | exact .inr rfl | assumption) :
    PS X (.Assign [.Name x pos'] e pos) (tAsg te (gName i)) := by
  intro pins s σ H D I h
  refine wpAny_Assign_Name (thn (he pins s σ H _ I h) fun v s1 ⟨y, H1, I1, r1, q1⟩ => ?_) hs
  exact store_ok I1 hN hi hx r1 (fun s2 I2 => ⟨_, H1, I2, q1⟩) hf

end


section
variable {X : Cx} {pos : Pos}

end



structure It where
  go : Nat → Hp → Prop
  yld : Nat → Hp → V → Hp → Prop
  stop : Nat → Hp → Prop

def FpOk (X : Cx) (pins : List (Addr × Obj)) (H : Hp) (b : Addr) : Prop :=
  H b = none ∧ b ≠ X.env.locals ∧ b ∉ X.fs ∧ (b ∈ X.ex ∨ X.s₀.heap.objs.size ≤ b) ∧ (∀ x c, X.env.cells.lookup x = some c → c ≠ b) ∧ ∀ p ∈ X.pn ++ pins, p.1 ≠ b
theorem Inv.fpOk {X : Cx} {pins : List (Addr × Obj)} {σ : St} {H H' : Hp} {s : Shared} {b : Addr} (I : Inv X pins σ H s) (hb : s.heap.objs.size ≤ b) (hn : H' b = none) : FpOk X pins H' b := by
  refine ⟨hn, Nat.ne_of_gt (Nat.lt_of_lt_of_le I.lt hb), I.nofs hb, .inr (Nat.le_trans I.sz hb), fun x c e z => ?_, fun p hp z => ?_⟩
  · obtain ⟨v, q⟩ := I.cell x c e
    exact absurd (Nat.lt_of_lt_of_le q.lt (by rw [z]; exact hb)) (Nat.lt_irrefl _)
  · exact absurd (Nat.lt_of_lt_of_le (Heap.lt_size (I.pin p hp).1) (by rw [z]; exact hb)) (Nat.lt_irrefl _)
structure Turn (P : Program) (w : World) (K : PySem.W.Frag) (tg : Expr) (J : It) (fp : List Addr) (it : Addr) (tn : Nat → Heap → Prop) : Prop where
  mem : it ∈ fp
  obj : ∀ i h, tn i h → ∀ b ∈ fp, ∃ o, h.get? b = some o ∧ ∀ v, o.data ≠ .cell v
  keep : ∀ i h h', tn i h → (∀ b ∈ fp, ∀ o, h.get? b = some o → h'.get? b = some o) → tn i h'
  item : ∀ (X : Cx), X.prog = P → X.w = w → X.K = K → X.calm = true → ∀ (i : Nat) (pins : List (Addr × Obj)) (s : Shared) (σ : St) (H : Hp) (E : Value → Shared → Prop), Inv X pins σ H s → (∀ b ∈ fp, FpOk X pins H b) → tn i s.heap → J.go i H →
    wpAny (model P w) X.A (pyNext (.ref it)) (fun r s1 => ∃ u, r = some u ∧
      wpAny (model P w) X.A (letOwnedTupleGo tg (.ref it) u) (fun _ s2 => ∃ x H', Inv X pins σ H' s2 ∧ RelV x u ∧ J.yld i H x H' ∧ tn (i + 1) s2.heap ∧ ∀ b ∈ fp, H' b = none) E s1) E s
  done : ∀ (X : Cx), X.prog = P → X.w = w → X.K = K → X.calm = true → ∀ (i : Nat) (pins : List (Addr × Obj)) (s : Shared) (σ : St) (H : Hp) (E : Value → Shared → Prop), Inv X pins σ H s → (∀ b ∈ fp, FpOk X pins H b) → tn i s.heap → J.stop i H →
    wpAny (model P w) X.A (pyNext (.ref it)) (fun r s1 => r = none ∧ Inv X pins σ H s1) E s
  self : ∀ (A : Around) (i : Nat) (s : Shared) (Q : Value → Shared → Prop) (E : Value → Shared → Prop), tn i s.heap → Q (.ref it) s → wpAny (model P w) A (pyIter (.ref it)) Q E s
abbrev TI := St → Hp → (It → Hp → Prop) → Prop

def PIE (X : Cx) (pins : List (Addr × Obj)) (σ : St) (tg : Expr) (R : It → Hp → Prop) (itv : Value) (s2 : Shared) : Prop :=
  ∃ (it : Addr) (fp : List Addr) (tn : Nat → Heap → Prop) (J : It) (H' : Hp), itv = .ref it ∧ Inv X pins σ H' s2 ∧ Turn X.prog X.w X.K tg J fp it tn ∧ tn 0 s2.heap ∧ (∀ b ∈ fp, FpOk X pins H' b) ∧ R J H'
def PI (X : Cx) (tg iter : Expr) (wi : TI) : Prop :=
  ∀ (pins : List (Addr × Obj)) (s : Shared) (σ : St) (H : Hp) (R : It → Hp → Prop), Inv X pins σ H s → wi σ H R →
    wpAny (model X.prog X.w) X.A (eval iter X.env) (fun v s1 => wpAny (model X.prog X.w) X.A (pyIter v) (PIE X pins σ tg R) X.xe s1) X.xe s


theorem go_of {M : Model} {A : Around} {E : Value → Shared → Prop} {s : Shared} {tg : Expr} {it : Addr} {u : Value} {o : Obj} {n : String} {vs : Array Value} {Q : Unit → Shared → Prop} (ho : s.heap.get? it = some o) (hc : o.cls = .type n) (hd : o.data = .fields vs)
    (hn : ["enumerate", "zip", "dict_itemiterator", "dict_reverseitemiterator", "odict_iterator", "itertools.zip_longest", "itertools.pairwise"].contains n = false) (hQ : Q () s) : wpAny M A (letOwnedTupleGo tg (.ref it) u) Q E s := by
  unfold letOwnedTupleGo
  cases tg <;> first
    | exact wpAny_pure hQ
    | (cases u <;> first
        | exact wpAny_pure hQ
        | (refine wpAny_bind (wpAny_load ho ?_)
           rw [hc, hd]
           show wpAny M A (if (["enumerate", "zip", "dict_itemiterator", "dict_reverseitemiterator", "odict_iterator", "itertools.zip_longest", "itertools.pairwise"].contains n && vs[0]? == some (rawInt _)) = true then _ else _) Q E s
           rw [if_neg (by intro h; rw [hn, Bool.false_and] at h; cases h)]
           exact wpAny_pure hQ))


def Itl (K : PySem.W.Frag) (a : Addr) : It :=
  ⟨fun i H => ∃ xs x, SqL K H a xs ∧ xs[i]? = some x, fun i H x H' => H' = H ∧ ∀ xs, SqL K H a xs → xs[i]? = some x, fun i H => ∃ xs, SqL K H a xs ∧ xs.length ≤ i⟩
def Itt (K : PySem.W.Frag) (a : Addr) : It :=
  ⟨fun i H => ∃ xs x, SqT K H a xs ∧ xs[i]? = some x, fun i H x H' => H' = H ∧ ∀ xs, SqT K H a xs → xs[i]? = some x, fun i H => ∃ xs, SqT K H a xs ∧ xs.length ≤ i⟩

def Itr (lo : Int) (n : Nat) : It := ⟨fun i _ => i < n, fun i H x H' => H' = H ∧ x = .int (lo + i), fun i _ => n ≤ i⟩
theorem turn_list {P : Program} {w : World} {K : PySem.W.Frag} {tg : Expr} (a it : Addr) : Turn P w K tg (Itl K a) [it] it (fun i h => h.IsListIter it a i) where
  mem := by simp
  obj := fun i h st b hb => by
    have e : b = it := by simpa using hb
    subst e
    obtain ⟨o, e, c, d⟩ := st
    exact ⟨o, e, fun v z => by rw [d] at z; cases z⟩
  keep := fun i h h' st k => st.at fun o e => k it (by simp) o e
  item := by
    intro X hP hw hK hc i pins s σ H E I hf st hg
    subst hP hw hK
    obtain ⟨xs, x, hq, hx⟩ := hg
    obtain ⟨its, rv, p, hz⟩ := I.list hq
    obtain ⟨u, hu, ru⟩ := rv.get hx
    obtain ⟨f0, f1, f2, f3, f4, f5⟩ := hf it (by simp)
    refine wpAny_pyNext_list_item st p.isList (x := u) (by simpa using hu) fun h' st' sb => ?_
    have I1 : Inv X pins σ H { s with heap := h' } := I.turned (t' := s.toks) (fun b o hb e => (sb.2 b hb).trans e) f0 f1 f3 f4 f5
    obtain ⟨o, e, c, d⟩ := id st'
    exact ⟨u, rfl, go_of (s := { s with heap := h' }) e c d (by decide) ⟨x, H, I1, ru, ⟨rfl, fun ys hy => by rw [I.list_inj hy hq]; exact hx⟩, st', fun b hb => (hf b hb).1⟩⟩
  done := by
    intro X hP hw hK hc i pins s σ H E I hf st hg
    subst hP hw hK
    obtain ⟨xs, hq, hx⟩ := hg
    obtain ⟨its, rv, p, hz⟩ := I.list hq
    obtain ⟨f0, f1, f2, f3, f4, f5⟩ := hf it (by simp)
    have hl := rv.length
    exact wpAny_pyNext_list_end (I.ok.hd hc) st p.isList (by simp; omega) fun h' eb => ⟨rfl, I.turned (t' := s.toks) (fun b o hb e => eb b o hb e) f0 f1 f3 f4 f5⟩
  self := fun _ _ _ _ _ st h => wpAny_pyIter_listiter st h
theorem turn_tuple {P : Program} {w : World} {K : PySem.W.Frag} {tg : Expr} (a it : Addr) : Turn P w K tg (Itt K a) [it] it (fun i h => h.IsTupleIter it a i) where
  mem := by simp
  obj := fun i h st b hb => by
    have e : b = it := by simpa using hb
    subst e
    obtain ⟨o, e, c, d⟩ := st
    exact ⟨o, e, fun v z => by rw [d] at z; cases z⟩
  keep := fun i h h' st k => st.at fun o e => k it (by simp) o e
  item := by
    intro X hP hw hK hc i pins s σ H E I hf st hg
    subst hP hw hK
    obtain ⟨xs, x, hq, hx⟩ := hg
    obtain ⟨its, rv, p, hz⟩ := I.tuple hq
    obtain ⟨u, hu, ru⟩ := rv.get hx
    obtain ⟨f0, f1, f2, f3, f4, f5⟩ := hf it (by simp)
    refine wpAny_pyNext_tuple_item st (show s.heap.IsTuple a its.toArray from p) (x := u) (by simpa using hu) fun h' st' sb => ?_
    have I1 : Inv X pins σ H { s with heap := h' } := I.turned (t' := s.toks) (fun b o hb e => (sb.2 b hb).trans e) f0 f1 f3 f4 f5
    obtain ⟨o, e, c, d⟩ := id st'
    exact ⟨u, rfl, go_of (s := { s with heap := h' }) e c d (by decide) ⟨x, H, I1, ru, ⟨rfl, fun ys hy => by rw [I.tuple_inj hy hq]; exact hx⟩, st', fun b hb => (hf b hb).1⟩⟩
  done := by
    intro X hP hw hK hc i pins s σ H E I hf st hg
    subst hP hw hK
    obtain ⟨xs, hq, hx⟩ := hg
    obtain ⟨its, rv, p, hz⟩ := I.tuple hq
    obtain ⟨f0, f1, f2, f3, f4, f5⟩ := hf it (by simp)
    have hl := rv.length
    exact wpAny_pyNext_tuple_end (I.ok.hd hc) st (show s.heap.IsTuple a its.toArray from p) (by simp; omega) fun h' eb => ⟨rfl, I.turned (t' := s.toks) (fun b o hb e => eb b o hb e) f0 f1 f3 f4 f5⟩
  self := fun _ _ _ _ _ st h => wpAny_pyIter_tupleiter st h
theorem turn_range {P : Program} {w : World} {K : PySem.W.Frag} {tg : Expr} (it : Addr) (lo : Int) (n : Nat) : Turn P w K tg (Itr lo n) [it] it (fun i h => IsRangeIter h it (lo + (i : Nat) * 1) ((n : Int) - (i : Nat)) 1) where
  mem := by simp
  obj := fun i h st b hb => by
    have e : b = it := by simpa using hb
    subst e
    exact ⟨_, st, fun v z => by
      have z' : Data.fields _ = Data.cell v := z
      cases z'⟩
  keep := fun i h h' st k => k it (by simp) _ st
  item := by
    intro X hP hw hK hc i pins s σ H E I hf st hg
    subst hP hw hK
    obtain ⟨f0, f1, f2, f3, f4, f5⟩ := hf it (by simp)
    have W := Walks.range (prog := X.prog) (w := X.w) (I.ok.hd hc) it lo 1 n
    refine W.item i s _ _ hg st fun v h' tk hv st' kk => ?_
    obtain ⟨t, rfl⟩ := hv
    have I1 : Inv X pins σ H { s with heap := h', toks := tk } := I.turned (fun b o hb e => kk b o (by simpa using hb) e) f0 f1 f3 f4 f5
    refine ⟨_, rfl, go_of (s := { s with heap := h', toks := tk }) (n := "range_iterator") st' rfl rfl (by decide) ⟨.int (lo + i), H, I1, ⟨t, ?_⟩, ⟨rfl, rfl⟩, st', fun b hb => (hf b hb).1⟩⟩
    rw [Int.mul_one]
  done := by
    intro X hP hw hK hc i pins s σ H E I hf st hg
    subst hP hw hK
    obtain ⟨f0, f1, f2, f3, f4, f5⟩ := hf it (by simp)
    exact wpAny_pyNext_range_end (I.ok.hd hc) st (by have : n ≤ i := hg; omega) fun h' eb => ⟨rfl, I.turned (t' := s.toks) (fun b o hb e => eb b o hb e) f0 f1 f3 f4 f5⟩
  self := fun _ _ _ _ _ st h => wpAny_pyIter_rangeiter st h
end L2

namespace L2
open PySem PySem.Spec PyProof.Rows
section
variable {X : Cx} {tg : Expr}
def iList (K : PySem.W.Frag) (tl : TE) : TI := fun σ H R => tl σ H fun x H1 => ∃ a, x = .ref a ∧ (∃ xs, SqL K H1 a xs) ∧ R (Itl K a) H1
theorem pi_list {l : Expr} {tl : TE} (hl : PE X l tl) : PI X tg l (iList X.K tl) := by
  intro pins s σ H R I h
  refine thn (hl pins s σ H _ I h) fun v s1 ⟨x, H1, I1, r1, q1⟩ => ?_
  obtain ⟨a, e, ⟨xs, hq⟩, q⟩ := q1
  subst e
  cases r1
  obtain ⟨its, rv, p, hz⟩ := I1.list hq
  refine wpAny_pyIter_list p.isList ?_
  refine ⟨s1.heap.objs.size, [s1.heap.objs.size], _, _, H1, rfl, I1.kept (t' := s1.toks) fun b o e => Heap.get?_push_of_some _ e, turn_list a _, ⟨_, Heap.get?_push_size _ rfl, rfl, rfl⟩, fun b hb => ?_, q⟩
  have e : b = s1.heap.objs.size := by simpa using hb
  subst e
  exact I1.fpOk (Nat.le_refl _) (I1.hok.fresh (Nat.le_refl _))
theorem range_it {pins : List (Addr × Obj)} {σ : St} {H : Hp} {s : Shared} {R : It → Hp → Prop} {E : Value → Shared → Prop} {lo hi : Int} {t u v : Tok} {tk : Nat} (I : Inv X pins σ H s) (h1 : -(2 ^ 62) ≤ lo) (h2 : lo < 2 ^ 62) (h3 : -(2 ^ 62) ≤ hi) (h4 : hi < 2 ^ 62)
    (q : R (Itr lo (hi - lo).toNat) H) : wpAny (model X.prog X.w) X.A (pyIter (.ref s.heap.objs.size)) (PIE X pins σ tg R) E { s with heap := s.heap.push { cls := .type "range", data := .fields #[.int lo t, .int hi u, .int 1 v] }, toks := tk } := by
  refine wpAny_pyIter_range (IsRange.new ..) (small_one h1 h2 h3 h4) ?_
  have I1 : Inv X pins σ H { s with heap := s.heap.push { cls := .type "range", data := .fields #[.int lo t, .int hi u, .int 1 v] }, toks := tk } := I.kept fun b o e => Heap.get?_push_of_some _ e
  refine ⟨(s.heap.push { cls := .type "range", data := .fields #[.int lo t, .int hi u, .int 1 v] }).objs.size, [(s.heap.push { cls := .type "range", data := .fields #[.int lo t, .int hi u, .int 1 v] }).objs.size], _, _, H, rfl,
    I1.kept (t' := tk) fun b o e => Heap.get?_push_of_some _ e, turn_range _ lo (hi - lo).toNat, ?_, fun b hb => ?_, q⟩
  · have e1 : lo + ((0 : Nat) : Int) * 1 = lo := by simp
    have e2 : (((hi - lo).toNat : Nat) : Int) - ((0 : Nat) : Int) = Builtin.Range.rangeSize lo hi 1 := by rw [rangeSize_one]; split <;> omega
    show IsRangeIter _ _ (lo + ((0 : Nat) : Int) * 1) ((((hi - lo).toNat : Nat) : Int) - ((0 : Nat) : Int)) 1
    rw [e1, e2]
    exact Heap.get?_push_size _ rfl
  · have e : b = (s.heap.push { cls := .type "range", data := .fields #[.int lo t, .int hi u, .int 1 v] }).objs.size := by simpa using hb
    subst e
    exact I1.fpOk (Nat.le_refl _) (I1.hok.fresh (Nat.le_refl _))
def iRng1 (ta : TA) : TI := fun σ H R => ta σ H fun vs H1 => ∃ j : Int, vs = [.int j] ∧ -(2 ^ 62) ≤ j ∧ j < 2 ^ 62 ∧ R (Itr 0 j.toNat) H1
theorem pi_range1 {a : Expr} {ta : TA} {p pos : Pos} (hg : Gl X "range") (hm : X.mg "range" = none) (ha : PA X [a] ta) (hs : starEach [a] X.env = [(false, eval a X.env)] := by rfl) : PI X tg (.Call (.Name "range" p) [a] [] pos) (iRng1 ta) := by
  intro pins s σ H R I h
  refine Call_ (ld_blt I hg hm boot_range (PyProof.Rows.callWith_type1 (thn (ha pos pins s σ H _ I h) fun us s1 ⟨vs, H1, I1, r1, q1⟩ => ?_) hs rfl))
  obtain ⟨j, e, q1, q2, q⟩ := q1
  subst e
  cases r1 with
  | cons r rr =>
    cases rr
    obtain ⟨t, rfl⟩ := r
    exact call_range_1 (range_it I1 (by omega) (by omega) q1 q2 (by simpa using q))
def tFor (wi : TI) (g : TG) (tb : TS) : TS := fun D σ H => wi σ H fun J H1 => ∃ W : Nat → Nat → St → Hp → Prop, (∃ m, W 0 m σ H1) ∧ ∀ i m σ H, W i m σ H →
  (J.stop i H ∧ D.nx σ H) ∨ (J.go i H ∧ ∃ N : St → Hp → Prop, (∀ σ' H', N σ' H' → ∃ m', m' < m ∧ W (i + 1) m' σ' H') ∧ ∀ x H', J.yld i H x H' → g x σ H' fun σ2 H2 => tb { D with nx := N, ct := N, bk := D.nx } σ2 H2)

def pinsAt (fp : List Addr) (h : Heap) : List (Addr × Obj) := fp.filterMap fun b => (h.get? b).map fun o => (b, o)
theorem mem_pinsAt {fp : List Addr} {h : Heap} {b : Addr} {o : Obj} (hb : b ∈ fp) (e : h.get? b = some o) : (b, o) ∈ pinsAt fp h := List.mem_filterMap.mpr ⟨b, hb, by rw [e]; rfl⟩
theorem of_pinsAt {fp : List Addr} {h : Heap} {p : Addr × Obj} (hp : p ∈ pinsAt fp h) : p.1 ∈ fp ∧ h.get? p.1 = some p.2 := by
  obtain ⟨b, hb, e⟩ := List.mem_filterMap.mp hp
  cases q : h.get? b with
  | none => rw [q] at e; cases e
  | some o =>
    rw [q] at e
    have e' : (b, o) = p := Option.some.inj e
    subst e'
    exact ⟨hb, q⟩
theorem Inv.pinned {pins : List (Addr × Obj)} {σ : St} {H : Hp} {s : Shared} {fp : List Addr} (I : Inv X pins σ H s) (hf : ∀ b ∈ fp, FpOk X pins H b) (ho : ∀ b ∈ fp, ∃ o, s.heap.get? b = some o ∧ ∀ v, o.data ≠ .cell v) : Inv X (pins ++ pinsAt fp s.heap) σ H s :=
  I.pins_of fun p hp => (List.mem_append.mp hp).elim (fun z => I.pin p (List.mem_append_right _ z)) fun z => by
    obtain ⟨hb, e⟩ := of_pinsAt z
    obtain ⟨f0, f1, f2, _⟩ := hf p.1 hb
    obtain ⟨o, e', d⟩ := ho p.1 hb
    rw [e] at e'; cases e'
    exact ⟨e, f0, f1, f2, d⟩
theorem Inv.unpinned {pins pl : List (Addr × Obj)} {σ : St} {H : Hp} {s : Shared} (I : Inv X (pins ++ pl) σ H s) : Inv X pins σ H s := I.pins_of fun p hp => I.pin p (List.mem_append_right _ (List.mem_append_left _ hp))
theorem ps_for {iter : Expr} {body : List Stmt} {wi : TI} {g : TG} {tb : TS} {pos : Pos} (hp : PassesOwn (model X.prog X.w) X.A X.env X.xe) (hc : X.calm = true) (hi : PI X tg iter wi) (hg : PG X tg g) (hb : PSs X body tb)
    (hs : ∀ x, foldedSetIterable iter X.env x = pure x := by intro _; rfl) : PS X (.For tg iter body [] pos) (tFor wi g tb) := by
  intro pins s σ H D I h
  refine wpAny_For (thn (hi pins s σ H _ I h) fun v s1 h1 => thn h1 fun itv s2 h2 => ?_) hs
  obtain ⟨it, fp, tn, J, H2, e, I2, T, st2, f2, W, ⟨m0, w0⟩, turn⟩ := h2
  subst e
  -- what stays true of the iterator's objects through the loop
  have stat : ∀ {H' : Hp}, (∀ b ∈ fp, H' b = none) → ∀ b ∈ fp, FpOk X pins H' b := fun hn b hb => ⟨hn b hb, (f2 b hb).2⟩
  refine codeAny_forLoop_any (fun n s' => ∃ i σ' H', Inv X pins σ' H' s' ∧ tn i s'.heap ∧ (∀ b ∈ fp, H' b = none) ∧ W i n σ' H') ?_ m0 ⟨0, σ, H2, I2, st2, fun b hb => (f2 b hb).1, w0⟩
  rintro n s3 ⟨i, σ3, H3, I3, st3, fr3, w3⟩
  rcases turn i n σ3 H3 w3 with ⟨stop, qn⟩ | ⟨go, N, hN, step⟩
  · refine wpAny_passesOwn hp (thn (T.done X rfl rfl rfl hc i pins s3 σ3 H3 X.xe I3 (stat fr3) st3 stop) fun r s4 ⟨hr, I4⟩ => ?_)
    subst hr
    exact wpAny_execs_nil ⟨σ3, H3, I4, qn⟩
  · refine wpAny_passesOwn hp (thn (T.item X rfl rfl rfl hc i pins s3 σ3 H3 X.xe I3 (stat fr3) st3 go) fun r s4 ⟨u, hr, h4⟩ => ?_)
    subst hr
    refine wpAny_passesOwn hp (thn h4 fun _ s5 ⟨x, H5, I5, r5, y5, st5, fr5⟩ => ?_)
    have I5' := I5.pinned (stat fr5) (T.obj _ _ st5)
    refine wpAny_passesOwn hp (thn (hg _ s5 σ3 H5 x u _ I5' r5 (step x H5 y5)) fun _ s6 ⟨σ6, H6, I6, q6⟩ => ?_)
    refine wpAny_passesOwn hp (thn (hb _ s6 σ6 H6 _ I6 q6) fun f s7 q7 => ?_)
    have again : ∀ {σ7 : St} {H7 : Hp}, Inv X (pins ++ pinsAt fp s5.heap) σ7 H7 s7 → N σ7 H7 → ∃ m, m < n ∧ ∃ i σ' H', Inv X pins σ' H' s7 ∧ tn i s7.heap ∧ (∀ b ∈ fp, H' b = none) ∧ W i m σ' H' := fun {σ7 H7} I7 n7 => by
      obtain ⟨m', hm, w7⟩ := hN σ7 H7 n7
      refine ⟨m', hm, i + 1, σ7, H7, I7.unpinned, T.keep _ _ _ st5 fun b hb o e => (I7.pin (b, o) (List.mem_append_right _ (List.mem_append_right _ (mem_pinsAt hb e)))).1, fun b hb => ?_, w7⟩
      obtain ⟨o, e, d⟩ := T.obj _ _ st5 b hb
      exact (I7.pin (b, o) (List.mem_append_right _ (List.mem_append_right _ (mem_pinsAt hb e)))).2.1
    cases f with
    | next => obtain ⟨σ7, H7, I7, n7⟩ := q7; exact again I7 n7
    | cont => obtain ⟨σ7, H7, I7, n7⟩ := q7; exact again I7 n7
    | brk => obtain ⟨σ7, H7, I7, q7⟩ := q7; exact ⟨σ7, H7, I7.unpinned, q7⟩
    | ret v => obtain ⟨x7, σ7, H7, I7, r7, q7⟩ := q7; exact ⟨x7, σ7, H7, I7.unpinned, r7, q7⟩
end



theorem for_list {K : PySem.W.Frag} {a : Addr} {xs : List V} {g : TG} {tb : TS} {D : Ends} {σ : St} {H : Hp} (Pv : Nat → St → Hp → Prop) (h0 : Pv 0 σ H) (hl : ∀ i σ H, i ≤ xs.length → Pv i σ H → SqL K H a xs)
    (hs : ∀ i x σ H, xs[i]? = some x → Pv i σ H → g x σ H fun σ2 H2 => tb { D with nx := Pv (i + 1), ct := Pv (i + 1), bk := D.nx } σ2 H2) (hd : ∀ σ H, Pv xs.length σ H → D.nx σ H) :
    ∃ W : Nat → Nat → St → Hp → Prop, (∃ m, W 0 m σ H) ∧ ∀ i m σ H, W i m σ H →
      ((Itl K a).stop i H ∧ D.nx σ H) ∨ ((Itl K a).go i H ∧ ∃ N : St → Hp → Prop, (∀ σ' H', N σ' H' → ∃ m', m' < m ∧ W (i + 1) m' σ' H') ∧ ∀ x H', (Itl K a).yld i H x H' → g x σ H' fun σ2 H2 => tb { D with nx := N, ct := N, bk := D.nx } σ2 H2) := by
  refine ⟨fun i m σ H => m = xs.length - i ∧ i ≤ xs.length ∧ Pv i σ H, ⟨xs.length, by simp, Nat.zero_le _, h0⟩, ?_⟩
  rintro i m σ H ⟨rfl, hi, p⟩
  have q := hl i σ H hi p
  by_cases hlt : i < xs.length
  · refine .inr ⟨⟨xs, xs[i], q, by simp [hlt]⟩, Pv (i + 1), fun σ' H' p' => ⟨xs.length - (i + 1), by omega, rfl, hlt, p'⟩, fun x H' y => ?_⟩
    obtain ⟨e, y⟩ := y
    subst e
    exact hs i x σ _ (y xs q) p
  · have e : i = xs.length := by omega
    subst e
    exact .inl ⟨⟨xs, q, Nat.le_refl _⟩, hd σ H p⟩
theorem for_tup {K : PySem.W.Frag} {a : Addr} {xs : List V} {g : TG} {tb : TS} {D : Ends} {σ : St} {H : Hp} (Pv : Nat → St → Hp → Prop) (h0 : Pv 0 σ H) (hl : ∀ i σ H, i ≤ xs.length → Pv i σ H → SqT K H a xs)
    (hs : ∀ i x σ H, xs[i]? = some x → Pv i σ H → g x σ H fun σ2 H2 => tb { D with nx := Pv (i + 1), ct := Pv (i + 1), bk := D.nx } σ2 H2) (hd : ∀ σ H, Pv xs.length σ H → D.nx σ H) :
    ∃ W : Nat → Nat → St → Hp → Prop, (∃ m, W 0 m σ H) ∧ ∀ i m σ H, W i m σ H →
      ((Itt K a).stop i H ∧ D.nx σ H) ∨ ((Itt K a).go i H ∧ ∃ N : St → Hp → Prop, (∀ σ' H', N σ' H' → ∃ m', m' < m ∧ W (i + 1) m' σ' H') ∧ ∀ x H', (Itt K a).yld i H x H' → g x σ H' fun σ2 H2 => tb { D with nx := N, ct := N, bk := D.nx } σ2 H2) := by
  refine ⟨fun i m σ H => m = xs.length - i ∧ i ≤ xs.length ∧ Pv i σ H, ⟨xs.length, by simp, Nat.zero_le _, h0⟩, ?_⟩
  rintro i m σ H ⟨rfl, hi, p⟩
  have q := hl i σ H hi p
  by_cases hlt : i < xs.length
  · refine .inr ⟨⟨xs, xs[i], q, by simp [hlt]⟩, Pv (i + 1), fun σ' H' p' => ⟨xs.length - (i + 1), by omega, rfl, hlt, p'⟩, fun x H' y => ?_⟩
    obtain ⟨e, y⟩ := y
    subst e
    exact hs i x σ _ (y xs q) p
  · have e : i = xs.length := by omega
    subst e
    exact .inl ⟨⟨xs, q, Nat.le_refl _⟩, hd σ H p⟩
theorem for_range {lo : Int} {n : Nat} {g : TG} {tb : TS} {D : Ends} {σ : St} {H : Hp} (Pv : Nat → St → Hp → Prop) (h0 : Pv 0 σ H)
    (hs : ∀ i σ H, i < n → Pv i σ H → g (.int (lo + i)) σ H fun σ2 H2 => tb { D with nx := Pv (i + 1), ct := Pv (i + 1), bk := D.nx } σ2 H2) (hd : ∀ σ H, Pv n σ H → D.nx σ H) :
    ∃ W : Nat → Nat → St → Hp → Prop, (∃ m, W 0 m σ H) ∧ ∀ i m σ H, W i m σ H →
      ((Itr lo n).stop i H ∧ D.nx σ H) ∨ ((Itr lo n).go i H ∧ ∃ N : St → Hp → Prop, (∀ σ' H', N σ' H' → ∃ m', m' < m ∧ W (i + 1) m' σ' H') ∧ ∀ x H', (Itr lo n).yld i H x H' → g x σ H' fun σ2 H2 => tb { D with nx := N, ct := N, bk := D.nx } σ2 H2) := by
  refine ⟨fun i m σ H => m = n - i ∧ i ≤ n ∧ Pv i σ H, ⟨n, by simp, Nat.zero_le _, h0⟩, ?_⟩
  rintro i m σ H ⟨rfl, hi, p⟩
  by_cases hlt : i < n
  · refine .inr ⟨hlt, Pv (i + 1), fun σ' H' p' => ⟨n - (i + 1), by omega, rfl, hlt, p'⟩, fun x H' y => ?_⟩
    obtain ⟨e, y⟩ := y
    subst e y
    exact hs i σ _ hlt p
  · have e : i = n := by omega
    subst e
    exact .inl ⟨Nat.le_refl _, hd σ H p⟩

end L2

namespace L2
open PySem PySem.Spec PyProof.Rows

abbrev R2 := V → V → Hp → VK → Prop

def OpR (X : Cx) (f : Value → Value → Sem Value) (r : R2) : Prop :=
  ∀ (pins : List (Addr × Obj)) (s : Shared) (σ : St) (H : Hp) (x y : V) (v u : Value) (Q : VK), Inv X pins σ H s → RelV x v → RelV y u → r x y H Q →
    wpAny (model X.prog X.w) X.A (f v u) (EP X pins σ Q) X.xe s

def UnR (X : Cx) (f : Value → Sem Value) (r : V → Hp → VK → Prop) : Prop :=
  ∀ (pins : List (Addr × Obj)) (s : Shared) (σ : St) (H : Hp) (x : V) (v : Value) (Q : VK), Inv X pins σ H s → RelV x v → r x H Q →
    wpAny (model X.prog X.w) X.A (f v) (EP X pins σ Q) X.xe s

def CallR (X : Cx) (f : Value) (r : List V → Hp → VK → Prop) : Prop :=
  ∀ (pins : List (Addr × Obj)) (s : Shared) (σ : St) (H : Hp) (xs : List V) (us : List Value) (Q : VK), Inv X pins σ H s → Vals xs us → r xs H Q →
    wpAny (model X.prog X.w) X.A (call f us) (EP X pins σ Q) X.xe s

def TruR (X : Cx) (r : V → Hp → (Bool → Hp → Prop) → Prop) : Prop :=
  ∀ (pins : List (Addr × Obj)) (s : Shared) (σ : St) (H : Hp) (x : V) (v : Value) (Q : Bool → Hp → Prop), Inv X pins σ H s → RelV x v → r x H Q →
    wpAny (model X.prog X.w) X.A (truthy v) (TP X pins σ Q) X.xe s

def tOp (r : R2) (ta tb : TE) : TE := fun σ H Q => ta σ H fun x H1 => tb σ H1 fun y H2 => r x y H2 Q
def tUn (r : V → Hp → VK → Prop) (ta : TE) : TE := fun σ H Q => ta σ H fun x H1 => r x H1 Q

def rI (C : Int → Int → Prop) (g : Int → Int → V) : R2 := fun x y H Q => ∃ i j, x = .int i ∧ y = .int j ∧ C i j ∧ Q (g i j) H
def rI0 (g : Int → Int → V) : R2 := fun x y H Q => ∃ i j, x = .int i ∧ y = .int j ∧ Q (g i j) H
def rU (g : Int → V) : V → Hp → VK → Prop := fun x H Q => ∃ i, x = .int i ∧ Q (g i) H

section
variable {X : Cx} {a b c : Expr} {ta tb tc : TE} {pos : Pos}

theorem binT (ha : PE X a ta) (hb : PE X b tb) {pins : List (Addr × Obj)} {s : Shared} {σ : St} {H : Hp} {R : V → V → Hp → Prop} (I : Inv X pins σ H s)
    (h : ta σ H fun x H1 => tb σ H1 fun y H2 => R x y H2) {Q : Value → Shared → Prop} {f : Value → Value → Sem Value}
    (hf : ∀ v u s2 x y H2, Inv X pins σ H2 s2 → RelV x v → RelV y u → R x y H2 → wpAny (model X.prog X.w) X.A (f v u) Q X.xe s2) :
    wpAny (model X.prog X.w) X.A (eval a X.env) (fun v s₁ => wpAny (model X.prog X.w) X.A (eval b X.env) (fun u s₂ => wpAny (model X.prog X.w) X.A (f v u) Q X.xe s₂) X.xe s₁) X.xe s := by
  refine thn (ha pins s σ H _ I h) fun v s1 ⟨x, H1, I1, r1, q1⟩ => ?_
  refine thn (hb pins s1 σ H1 _ I1 q1) fun u s2 ⟨y, H2, I2, r2, q2⟩ => ?_
  exact hf v u s2 x y H2 I2 r1 r2 q2

theorem pe_op {op : Operator} {r : R2} (ho : OpR X (binaryOp op) r) (ha : PE X a ta) (hb : PE X b tb) : PE X (.BinOp a op b pos) (tOp r ta tb) := by
  intro pins s σ H Q I h
  exact wpAny_BinOp (binT ha hb I h fun v u s2 x y H2 I2 rx ry q => ho pins s2 σ H2 x y v u Q I2 rx ry q)
theorem pe_un {op : UnaryOp} {r : V → Hp → VK → Prop} (ho : UnR X (unaryOp op) r) (ha : PE X a ta) : PE X (.UnaryOp op a pos) (tUn r ta) := by
  intro pins s σ H Q I h
  exact UnaryOp_ (thn (ha pins s σ H _ I h) fun v s1 ⟨x, H1, I1, r1, q1⟩ => ho pins s1 σ H1 x v Q I1 r1 q1)

theorem opI {f : Value → Value → Sem Value} {C : Int → Int → Prop} {g : Int → Int → Int}
    (rule : ∀ (i j : Int) (t u : Tok) (s : Shared) (Q : Value → Shared → Prop) (E : Value → Shared → Prop), C i j → Q (.int (g i j) s.toks) { s with toks := s.toks + 1 } → wpAny (model X.prog X.w) X.A (f (.int i t) (.int j u)) Q E s) :
    OpR X f (rI C fun i j => .int (g i j)) := by
  intro pins s σ H x y v u Q I rx ry h
  obtain ⟨i, j, rfl, rfl, hc, q⟩ := h
  obtain ⟨t, rfl⟩ := rx
  obtain ⟨t', rfl⟩ := ry
  exact rule i j t t' s _ _ hc ⟨.int (g i j), H, I.tok _, ⟨_, rfl⟩, q⟩
theorem opI0 {f : Value → Value → Sem Value} {g : Int → Int → Int}
    (rule : ∀ (i j : Int) (t u : Tok) (s : Shared) (Q : Value → Shared → Prop) (E : Value → Shared → Prop), Q (.int (g i j) s.toks) { s with toks := s.toks + 1 } → wpAny (model X.prog X.w) X.A (f (.int i t) (.int j u)) Q E s) :
    OpR X f (rI0 fun i j => .int (g i j)) := by
  intro pins s σ H x y v u Q I rx ry h
  obtain ⟨i, j, rfl, rfl, q⟩ := h
  obtain ⟨t, rfl⟩ := rx
  obtain ⟨t', rfl⟩ := ry
  exact rule i j t t' s _ _ ⟨.int (g i j), H, I.tok _, ⟨_, rfl⟩, q⟩
theorem opB0 {f : Value → Value → Sem Value} {g : Int → Int → Bool}
    (rule : ∀ (i j : Int) (t u : Tok) (s : Shared) (Q : Value → Shared → Prop) (E : Value → Shared → Prop), Q (.bool (g i j)) s → wpAny (model X.prog X.w) X.A (f (.int i t) (.int j u)) Q E s) :
    OpR X f (rI0 fun i j => .bl (g i j)) := by
  intro pins s σ H x y v u Q I rx ry h
  obtain ⟨i, j, rfl, rfl, q⟩ := h
  obtain ⟨t, rfl⟩ := rx
  obtain ⟨t', rfl⟩ := ry
  exact rule i j t t' s _ _ ⟨.bl (g i j), H, I, rfl, q⟩

def CPow (i j : Int) : Prop := 0 ≤ j ∧ j ≤ 1000000 ∧ i.natAbs < 2 ^ 64
def CMul (i j : Int) : Prop := (-(2 ^ 64) < i ∧ i < 2 ^ 64) ∨ (-(2 ^ 64) < j ∧ j < 2 ^ 64)
theorem CMul.ok {i j : Int} (h : CMul i j) : IntMulOk i j := by
  rcases h with ⟨h1, h2⟩ | ⟨h1, h2⟩
  · exact .of_left (intBits_le_64 h1 h2)
  · exact .of_right (intBits_le_64 h1 h2)
theorem op_add : OpR X (binaryOp .Add) (rI0 fun i j => .int (i + j)) := opI0 fun _ _ _ _ _ _ _ q => add_int q
theorem op_sub : OpR X (binaryOp .Sub) (rI0 fun i j => .int (i - j)) := opI0 fun _ _ _ _ _ _ _ q => sub_int q
theorem op_mul : OpR X (binaryOp .Mult) (rI CMul fun i j => .int (i * j)) := opI fun _ _ _ _ _ _ _ hc q => mul_int q hc.ok

theorem op_mod : OpR X (binaryOp .Mod) (rI (fun _ j => 0 < j) fun i j => .int (i % j)) := opI fun i j _ _ _ _ _ hc q => by
  have h1 : (0 : Int) < j := hc
  exact mod_int' (by omega) (by rw [Int.fmod_eq_emod_of_nonneg i (by omega)]; exact q)
theorem op_pow : OpR X (binaryOp .Pow) (rI CPow fun i j => .int (i ^ j.toNat)) := opI fun _ _ _ _ _ _ _ hc q => pow_int_small hc.1 hc.2.1 hc.2.2 q
theorem unI {f : Value → Sem Value} {g : Int → Int}
    (rule : ∀ (i : Int) (t : Tok) (s : Shared) (Q : Value → Shared → Prop) (E : Value → Shared → Prop), Q (.int (g i) s.toks) { s with toks := s.toks + 1 } → wpAny (model X.prog X.w) X.A (f (.int i t)) Q E s) :
    UnR X f (rU fun i => .int (g i)) := by
  intro pins s σ H x v Q I rx h
  obtain ⟨i, rfl, q⟩ := h
  obtain ⟨t, rfl⟩ := rx
  exact rule i t s _ _ ⟨.int (g i), H, I.tok _, ⟨_, rfl⟩, q⟩
theorem un_neg : UnR X (unaryOp .USub) (rU fun i => .int (-i)) := unI fun _ _ _ _ _ q => neg_int q
end



def scal : V → V → Bool
  | .non, .non => true | .non, .int _ => true | .int _, .non => true | .non, .bl _ => true | .bl _, .non => true | .non, .str _ => true | .str _, .non => true
  | .int _, .int _ => true | .bl _, .bl _ => true | .str _, .str _ => true | .byt _, .byt _ => true
  | .int _, .str _ => true | .str _, .int _ => true | .bl _, .str _ => true | .str _, .bl _ => true
  | _, _ => false
def rEq : R2 := fun x y H Q => scal x y = true ∧ Q (.bl (decide (x = y))) H
def rNe : R2 := fun x y H Q => scal x y = true ∧ Q (.bl (!decide (x = y))) H

theorem dec_int {i j : Int} : decide (V.int i = V.int j) = (i == j) := by
  rw [Bool.eq_iff_iff]
  simp
theorem dec_bl {i j : Bool} : decide (V.bl i = V.bl j) = (i == j) := by
  rw [Bool.eq_iff_iff]
  simp
theorem dec_str {i j : Str} : decide (V.str i = V.str j) = (i == j) := by
  rw [Bool.eq_iff_iff]
  simp
theorem dec_byt {i j : Array UInt8} : decide (V.byt i = V.byt j) = (i.toList == j.toList) := by
  rw [Bool.eq_iff_iff]
  cases i
  cases j
  simp

section
variable {X : Cx} {a b c : Expr} {ta tb tc : TE} {pos : Pos}
theorem fin_bl {pins : List (Addr × Obj)} {σ : St} {H : Hp} {s : Shared} {Q : VK} {k k' : Bool} (I : Inv X pins σ H s) (q : Q (.bl k) H) (e : k = k') : EP X pins σ Q (.bool k') s := by
  subst e
  exact ⟨.bl k, H, I, rfl, q⟩
theorem op_eq : OpR X (compareOp .Eq) rEq := by
  intro pins s σ H x y v u Q I rx ry h
  obtain ⟨hs, q⟩ := h
  cases x with
  | non =>
    cases rx
    cases y with
    | non => cases ry; exact PySem.EqNone.eq_none_none (fin_bl I q (by simp))
    | bl j => cases ry; exact PySem.EqNone.eq_none_bool (fin_bl I q (by simp))
    | int j => obtain ⟨t', rfl⟩ := ry; exact PySem.EqNone.eq_none_int (fin_bl I q (by simp))
    | str j => obtain ⟨t', rfl⟩ := ry; exact PySem.EqNone.eq_none_str (fin_bl I q (by simp))
    | _ => exact absurd (show false = true from hs) Bool.false_ne_true
  | bl i =>
    cases rx
    cases y with
    | non => cases ry; exact PySem.EqNone.eq_bool_none (fin_bl I q (by simp))
    | bl j => cases ry; exact eq_bool (fin_bl I q dec_bl)
    | str j => obtain ⟨t', rfl⟩ := ry; exact PySem.EqMixed.eq_bool_str (fin_bl I q (by simp))
    | _ => exact absurd (show false = true from hs) Bool.false_ne_true
  | int i =>
    obtain ⟨t, rfl⟩ := rx
    cases y with
    | non => cases ry; exact PySem.EqNone.eq_int_none (fin_bl I q (by simp))
    | int j => obtain ⟨t', rfl⟩ := ry; exact eq_int (fin_bl I q dec_int)
    | str j => obtain ⟨t', rfl⟩ := ry; exact PySem.EqMixed.eq_int_str (fin_bl I q (by simp))
    | _ => exact absurd (show false = true from hs) Bool.false_ne_true
  | str i =>
    obtain ⟨t, rfl⟩ := rx
    cases y with
    | non => cases ry; exact PySem.EqNone.eq_str_none (fin_bl I q (by simp))
    | bl j => cases ry; exact PySem.EqMixed.eq_str_bool (fin_bl I q (by simp))
    | int j => obtain ⟨t', rfl⟩ := ry; exact PySem.EqMixed.eq_str_int (fin_bl I q (by simp))
    | str j => obtain ⟨t', rfl⟩ := ry; exact eq_str (fin_bl I q dec_str)
    | _ => exact absurd (show false = true from hs) Bool.false_ne_true
  | byt i =>
    obtain ⟨t, rfl⟩ := rx
    cases y with
    | byt j => obtain ⟨t', rfl⟩ := ry; exact PySem.W.eq_bytes (fin_bl I q dec_byt)
    | _ => exact absurd (show false = true from hs) Bool.false_ne_true
  | _ => cases y <;> exact absurd (show false = true from hs) Bool.false_ne_true
theorem op_ne : OpR X (compareOp .NotEq) rNe := by
  intro pins s σ H x y v u Q I rx ry h
  obtain ⟨hs, q⟩ := h
  cases x with
  | non =>
    cases rx
    cases y with
    | non => cases ry; exact PySem.EqNone.ne_none_none (fin_bl I q (by simp))
    | bl j => cases ry; exact PySem.EqNone.ne_none_bool (fin_bl I q (by simp))
    | int j => obtain ⟨t', rfl⟩ := ry; exact PySem.EqNone.ne_none_int (fin_bl I q (by simp))
    | str j => obtain ⟨t', rfl⟩ := ry; exact PySem.EqNone.ne_none_str (fin_bl I q (by simp))
    | _ => exact absurd (show false = true from hs) Bool.false_ne_true
  | bl i =>
    cases rx
    cases y with
    | non => cases ry; exact PySem.EqNone.ne_bool_none (fin_bl I q (by simp))
    | bl j => cases ry; exact ne_bool (fin_bl I q (congrArg not dec_bl))
    | str j => obtain ⟨t', rfl⟩ := ry; exact PySem.EqMixed.ne_bool_str (fin_bl I q (by simp))
    | _ => exact absurd (show false = true from hs) Bool.false_ne_true
  | int i =>
    obtain ⟨t, rfl⟩ := rx
    cases y with
    | non => cases ry; exact PySem.EqNone.ne_int_none (fin_bl I q (by simp))
    | int j => obtain ⟨t', rfl⟩ := ry; exact ne_int (fin_bl I q (congrArg not dec_int))
    | str j => obtain ⟨t', rfl⟩ := ry; exact PySem.EqMixed.ne_int_str (fin_bl I q (by simp))
    | _ => exact absurd (show false = true from hs) Bool.false_ne_true
  | str i =>
    obtain ⟨t, rfl⟩ := rx
    cases y with
    | non => cases ry; exact PySem.EqNone.ne_str_none (fin_bl I q (by simp))
    | bl j => cases ry; exact PySem.EqMixed.ne_str_bool (fin_bl I q (by simp))
    | int j => obtain ⟨t', rfl⟩ := ry; exact PySem.EqMixed.ne_str_int (fin_bl I q (by simp))
    | str j => obtain ⟨t', rfl⟩ := ry; exact ne_str (fin_bl I q (congrArg not dec_str))
    | _ => exact absurd (show false = true from hs) Bool.false_ne_true
  | byt i =>
    obtain ⟨t, rfl⟩ := rx
    cases y with
    | byt j => obtain ⟨t', rfl⟩ := ry; exact PySem.W.ne_bytes (fin_bl I q (congrArg not dec_byt))
    | _ => exact absurd (show false = true from hs) Bool.false_ne_true
  | _ => cases y <;> exact absurd (show false = true from hs) Bool.false_ne_true

theorem op_lt : OpR X (compareOp .Lt) (rI0 fun i j => .bl (decide (i < j))) := opB0 fun _ _ _ _ _ _ _ q => lt_int q
theorem op_gt : OpR X (compareOp .Gt) (rI0 fun i j => .bl (decide (j < i))) := opB0 fun _ _ _ _ _ _ _ q => gt_int q
theorem op_ge : OpR X (compareOp .GtE) (rI0 fun i j => .bl (decide (j ≤ i))) := opB0 fun _ _ _ _ _ _ _ q => ge_int q
theorem nomark (b : Expr) {op : CmpOp} (h : op ≠ .In := by decide) (h2 : op ≠ .NotIn := by decide) : behindInMarks op b = false := by
  have e1 : (op == CmpOp.In) = false := by cases op <;> first | rfl | exact absurd rfl h
  have e2 : (op == CmpOp.NotIn) = false := by cases op <;> first | rfl | exact absurd rfl h2
  cases b <;> simp [behindInMarks, e1, e2]

theorem pe_cmpR {op : CmpOp} {r : R2} (ho : OpR X (compareOp op) r) (ha : PE X a ta) (hb : PE X b tb) (hm : behindInMarks op b = false) : PE X (.Compare a [op] [b] pos) (tOp r ta tb) := by
  intro pins s σ H Q I h
  exact wpAny_Compare1 (binT ha hb I h fun v u s2 x y H2 I2 rx ry q => ho pins s2 σ H2 x y v u Q I2 rx ry q) hm

def tTest (t : TE) : TT := fun σ H Q => t σ H fun x H' => ∃ k, x = .bl k ∧ Q k H'
theorem pt_cmpR {op : CmpOp} {r : R2} (ho : OpR X (compareOp op) r) (ha : PE X a ta) (hb : PE X b tb) (hm : behindInMarks op b = false) : PT X (.Compare a [op] [b] pos) (tTest (tOp r ta tb)) := by
  intro pins s σ H Q I h
  refine wpAny_isTrue_Compare1 (thn (ha pins s σ H _ I h) fun v s1 ⟨x, H1, I1, r1, q1⟩ => thn (hb pins s1 σ H1 _ I1 q1) fun u s2 ⟨y, H2, I2, r2, q2⟩ =>
    thn (ho pins s2 σ H2 x y v u _ I2 r1 r2 q2) fun c s3 ⟨z, H3, I3, r3, k, e, q3⟩ => ?_) hm
  subst e
  cases r3
  exact wpAny_truthy_bool ⟨H3, I3, q3⟩

def TruV (K : PySem.W.Frag) (x : V) (H : Hp) (k : Bool) : Prop :=
  match x with
  | .non => k = false
  | .bl b => k = b
  | .int i => k = (i != 0)
  | .str y => y.length ≤ sizeLine ∧ k = ((y.length : Int) != 0)
  | .byt y => y.size ≤ sizeLine ∧ k = ((y.size : Int) != 0)
  | .ref p => (∃ xs, SqL K H p xs ∧ k = !xs.isEmpty) ∨ (∃ xs, SqT K H p xs ∧ k = !xs.isEmpty) ∨ ∃ kvs, H p = some (.dK kvs) ∧ k = !kvs.isEmpty
  | _ => False
theorem isEmpty_kv {κ : Type} {kvs : List (κ × V)} {vs : List (κ × Value)} (r : KV kvs vs) : (!vs.isEmpty) = !kvs.isEmpty := by
  cases r <;> rfl
theorem isEmpty_of {xs : List V} {its : List Value} (r : Vals xs its) : (!its.toArray.isEmpty) = !xs.isEmpty := by
  cases r <;> simp
theorem line63 : (sizeLine : Nat) < 2 ^ 63 := by rw [sizeLine_eq]; decide
theorem tru_ok : TruR X (fun x H Q => ∃ k, TruV X.K x H k ∧ Q k H) := by
  intro pins s σ H x v Q I rx h
  obtain ⟨k, e, q⟩ := h
  have hl := line63
  have hs : sizeLine = 16777216 := sizeLine_eq
  cases x with
  | non =>
    cases rx
    have e' : k = false := e
    subst e'
    exact truthy_none ⟨H, I, q⟩
  | bl b =>
    cases rx
    have e' : k = b := e
    subst e'
    exact wpAny_truthy_bool ⟨H, I, q⟩
  | int i =>
    obtain ⟨t, rfl⟩ := rx
    have e' : k = (i != 0) := e
    subst e'
    exact PySem.P.truthy_int ⟨H, I, q⟩
  | str y =>
    obtain ⟨t, rfl⟩ := rx
    obtain ⟨hy, e'⟩ : y.length ≤ sizeLine ∧ k = ((y.length : Int) != 0) := e
    subst e'
    exact PySem.P.truthy_str (by omega) ⟨H, I.tok _, q⟩
  | byt y =>
    obtain ⟨t, rfl⟩ := rx
    obtain ⟨hy, e'⟩ : y.size ≤ sizeLine ∧ k = ((y.size : Int) != 0) := e
    subst e'
    exact PySem.W.truthy_bytes (by omega) ⟨H, I.tok _, q⟩
  | ref p =>
    cases rx
    have e' : (∃ xs, SqL X.K H p xs ∧ k = !xs.isEmpty) ∨ (∃ xs, SqT X.K H p xs ∧ k = !xs.isEmpty) ∨ ∃ kvs, H p = some (.dK kvs) ∧ k = !kvs.isEmpty := e
    rcases e' with ⟨xs, hx, e'⟩ | ⟨xs, hx, e'⟩ | ⟨kvs, hx, e'⟩
    · subst e'
      obtain ⟨its, r, pl, hz⟩ := I.list hx
      have hlen := r.length
      exact wpAny_truthy_list pl.isList (by simp only [List.size_toArray]; omega) ⟨H, I.tok _, by rw [isEmpty_of r]; exact q⟩
    · subst e'
      obtain ⟨its, r, pl, hz⟩ := I.tuple hx
      have hlen := r.length
      exact truthy_tuple pl (by simp only [List.size_toArray]; omega) ⟨H, I.tok _, by rw [isEmpty_of r]; exact q⟩
    · subst e'
      obtain ⟨hz, hS, vs, r, m⟩ : kvs.length ≤ sizeLine ∧ (p == sysModules) = false ∧ ∃ vs, KV kvs vs ∧ s.heap.DictOf (mixKind X.prog X.w) p vs := I.hok p _ hx
      have hlen : kvs.length = vs.length := Paired.length r
      exact wpAny_truthy_dict hS m (by omega) ⟨H, I.tok _, by rw [isEmpty_kv r]; exact q⟩
  | _ => exact (show False from e).elim

theorem pt_truth (ha : PE X a ta) (he : ∀ whole, isTrue a X.env whole = (do let v ← whole; standAt a.pos; holding [v] (truthy v))) :
    PT X a (fun σ H Q => ta σ H fun x H' => ∃ k, TruV X.K x H' k ∧ Q k H') := by
  intro pins s σ H Q I h
  exact isTrue_plain (thn (ha pins s σ H _ I h) fun v s1 ⟨x, H1, I1, r1, q1⟩ => tru_ok pins s1 σ H1 x v Q I1 r1 q1) (he _)


theorem op_add_str : OpR X (binaryOp .Add) (fun x y H Q => ∃ i j, x = .str i ∧ y = .str j ∧ i.length + j.length ≤ sizeLine ∧ Q (.str (i ++ j)) H) := by
  intro pins s σ H x y v u Q I rx ry h
  obtain ⟨i, j, rfl, rfl, hz, q⟩ := h
  obtain ⟨t, rfl⟩ := rx
  obtain ⟨t', rfl⟩ := ry
  exact add_str (fun t' tk => ⟨.str (i ++ j), H, I.tok _, ⟨_, rfl⟩, q⟩) hz
theorem vals1 {x : V} {us : List Value} (r : Vals [x] us) : ∃ u, us = [u] ∧ RelV x u := by
  cases r with
  | cons r1 r2 => cases r2; exact ⟨_, rfl, r1⟩
theorem vals2 {x y : V} {us : List Value} (r : Vals [x, y] us) : ∃ u w', us = [u, w'] ∧ RelV x u ∧ RelV y w' := by
  cases r with
  | cons r1 r2 =>
    cases r2 with
    | cons r3 r4 => cases r4; exact ⟨_, _, rfl, r1, r3⟩
theorem call_int1 : CallR X (.type "int") (fun xs H Q => (∃ i, xs = [.int i] ∧ Q (.int i) H) ∨ ∃ k, xs = [.bl k] ∧ Q (.int (if k then 1 else 0)) H) := by
  intro pins s σ H xs us Q I r h
  rcases h with ⟨i, rfl, q⟩ | ⟨k, rfl, q⟩
  · obtain ⟨u, rfl, t, rfl⟩ := vals1 r
    exact call_int_int ⟨.int i, H, I, ⟨_, rfl⟩, q⟩
  · obtain ⟨u, rfl, r1⟩ := vals1 r
    cases r1
    exact call_int_bool ⟨.int (if k then 1 else 0), H, I.tok _, ⟨_, rfl⟩, q⟩
end
end L2

namespace L2
open PySem PySem.Spec PyProof.Rows


structure ObjM (h : Heap) (x dx C : Addr) (mA : Str → Option Value) : Prop where
  obj : h.get? x = some (PySem.W.instObj C dx)
  ns : h.Ns1 dx mA
  ne : dx ≠ x

theorem lookIn_ns {h : Heap} {dx : Addr} {mA : Str → Option Value} (n : h.Ns1 dx mA) : ∃ od, h.get? dx = some od ∧ ∀ name, PySem.W.lookIn name od = some (mA name) := by
  obtain ⟨o, es, ep, ho, hd, hk, _, hm⟩ := n
  refine ⟨o, ho, fun name => ?_⟩
  have e := hm name
  unfold nsFind findBy at e
  rw [← Array.find?_toList] at e
  unfold PySem.W.lookIn
  rw [hd]
  dsimp only
  split
  · rename_i y q
    rw [q] at e
    exact congrArg some e
  · rename_i q
    rw [q] at e
    have a : es.toList.any (·.refKey) = false := by
      rw [List.any_eq_false]
      intro y hy
      obtain ⟨z, t, hkey⟩ := hk y (Array.mem_toList_iff.mp hy)
      simp [DictEntry.refKey, hkey]
    have a' : ¬ es.toList.any (·.refKey) = true := by rw [a]; exact Bool.false_ne_true
    rw [if_neg a']
    exact congrArg some e

theorem ObjM.look {h : Heap} {x dx C : Addr} {mA : Str → Option Value} (I : ObjM h x dx C mA) : ∃ od, PySem.W.InstAt h x (PySem.W.instObj C dx) C (some od) ∧ ∀ name, PySem.W.lookIn name od = some (mA name) :=
  let ⟨od, ho, hl⟩ := lookIn_ns I.ns
  ⟨od, ⟨I.obj, rfl, rfl, ho⟩, hl⟩

section
variable {prog : Program} {w : World} {A : Around} {E : Value → Shared → Prop} {s : Shared} {K : PySem.W.Frag} {x dx C f : Addr} {mA : Str → Option Value} {name : Str} {v : Value}

end


def putF (f : Str) (v : V) : List (Str × V) → List (Str × V)
  | [] => [(f, v)]
  | (g, x) :: r => if g = f then (g, v) :: r else (g, x) :: putF f v r
theorem lookup_putF (f g : Str) (v : V) : ∀ fs : List (Str × V), (putF f v fs).lookup g = if g = f then some v else fs.lookup g
  | [] => by
    show List.lookup g [(f, v)] = _
    by_cases h : g = f
    · have hb : (g == f) = true := beq_iff_eq.mpr h
      simp only [List.lookup, hb, if_pos h]
    · have hb : (g == f) = false := beq_eq_false_iff_ne.mpr h
      simp only [List.lookup, hb, if_neg h]
  | (k, x) :: r => by
    have ih := lookup_putF f g v r
    rw [show putF f v ((k, x) :: r) = (if k = f then (k, v) :: r else (k, x) :: putF f v r) from rfl]
    by_cases hk : k = f
    · rw [if_pos hk]
      by_cases h : g = k
      · have hb : (g == k) = true := beq_iff_eq.mpr h
        simp only [List.lookup, hb, if_pos (h.trans hk)]
      · have hb : (g == k) = false := beq_eq_false_iff_ne.mpr h
        simp only [List.lookup, hb, if_neg (fun e : g = f => h (e.trans hk.symm))]
    · rw [if_neg hk]
      by_cases h : g = k
      · have hb : (g == k) = true := beq_iff_eq.mpr h
        simp only [List.lookup, hb, if_neg (fun e : g = f => hk (h.symm.trans e))]
      · have hb : (g == k) = false := beq_eq_false_iff_ne.mpr h
        simp only [List.lookup, hb]
        exact ih
theorem keys_putF (f : Str) (v : V) : ∀ fs : List (Str × V), f ∈ (putF f v fs).map (·.1) ∧ ∀ g, g ∈ fs.map (·.1) → g ∈ (putF f v fs).map (·.1)
  | [] => ⟨by simp [putF], fun g h => by simp at h⟩
  | (k, x) :: r => by
    obtain ⟨i1, i2⟩ := keys_putF f v r
    rw [show putF f v ((k, x) :: r) = (if k = f then (k, v) :: r else (k, x) :: putF f v r) from rfl]
    by_cases hk : k = f
    · rw [if_pos hk]
      subst hk
      exact ⟨by simp, fun g h => by simpa using h⟩
    · rw [if_neg hk]
      refine ⟨?_, fun g h => ?_⟩
      · rw [List.map_cons]
        exact List.mem_cons_of_mem _ i1
      · rw [List.map_cons] at h ⊢
        rcases List.mem_cons.mp h with e | e
        · exact List.mem_cons.mpr (.inl e)
        · exact List.mem_cons_of_mem _ (i2 g e)
theorem length_putF (f : Str) (v : V) : ∀ fs : List (Str × V), (putF f v fs).length ≤ fs.length + 1
  | [] => by simp [putF]
  | (k, x) :: r => by
    have ih := length_putF f v r
    rw [show putF f v ((k, x) :: r) = (if k = f then (k, v) :: r else (k, x) :: putF f v r) from rfl]
    by_cases hk : k = f
    · rw [if_pos hk, List.length_cons, List.length_cons]; omega
    · rw [if_neg hk, List.length_cons, List.length_cons]; omega

theorem RelO.some_of {v : V} {o : Option Value} (r : RelO (some v) o) : ∃ u, o = some u ∧ RelV v u := by
  cases o with
  | none => exact (show False from r).elim
  | some u => exact ⟨u, rfl, r⟩
theorem RelO.none_of {o : Option Value} (r : RelO none o) : o = none := by
  cases o with
  | none => rfl
  | some u => exact (show False from r).elim
theorem handed_of {v : V} {u : Value} (r : RelV v u) : PySem.W.handedIn u = true := by
  cases v with
  | non => cases (show u = Value.none from r); rfl
  | bl b => cases (show u = Value.bool b from r); rfl
  | int i => obtain ⟨t, e⟩ := (show ∃ t, u = Value.int i t from r); cases e; rfl
  | str x => obtain ⟨t, e⟩ := (show ∃ t, u = Value.str x t from r); cases e; rfl
  | byt b => obtain ⟨t, e⟩ := (show ∃ t, u = Value.bytes b t from r); cases e; rfl
  | flt b => obtain ⟨t, e⟩ := (show ∃ t, u = Value.float b t from r); cases e; rfl
  | ref a => cases (show u = Value.ref a from r); rfl
  | ty n => cases (show u = Value.type n from r); rfl

section
variable {P : Program} {w : World} {H H' : Hp} {h h' : Heap} {a C dx : Addr} {fs fs' : List (Str × V)}
theorem ins_get (hok : HOk P w H h) (e : H a = some (.ins C dx fs)) : ∃ mA, ObjM h a dx C mA ∧ (∀ f, RelO (fs.lookup f) (mA f)) ∧ PySem.Within mA (fs.map (·.1)) ∧ fs.length ≤ 1000 ∧ H dx = some (.own a) := by
  obtain ⟨d, z, ne, ob, mA, n, r, q⟩ := (show ObjOk P w H h a (.ins C dx fs) from hok a _ e)
  exact ⟨mA, ⟨ob, n, ne⟩, r, q, z, d⟩
end


structure Cls (K : PySem.W.Frag) (C : Addr) : Prop where
  pg : PySem.W.plainGet K C Str.empty = true
  hd : PySem.W.hasDictIn K C = true
  po : PySem.W.plainOver K C = true
  sa : PySem.W.findIn K (.ref C) "__setattr__" = some (some (.builtin "object.__setattr__"))
theorem Cls.get {K : PySem.W.Frag} {C : Addr} (c : Cls K C) (f : Str) : PySem.W.plainGet K C f = true := c.pg

def NoAttr (K : PySem.W.Frag) (C : Addr) (f : Str) : Prop := PySem.W.findIn K (.ref C) f = some none
theorem NoAttr.taker {K : PySem.W.Frag} {C : Addr} {f : Str} (n : NoAttr K C f) : PySem.W.takerIn K C f = some none := by
  unfold PySem.W.takerIn
  rw [show PySem.W.findIn K (.ref C) f = some none from n]
  rfl

section
variable {X : Cx} {pins : List (Addr × Obj)} {σ : St} {H : Hp} {s : Shared} {a C dx : Addr} {fs : List (Str × V)} {f : Str} {v : V} {A : Around} {E : Value → Shared → Prop}

theorem attr_of {prog : Program} {w : World} {env : Env} {e : Expr} {f : Str} {pos : Pos} {s : Shared} {Q : Value → Shared → Prop} (hb : attributeBase e f env (eval e env) = eval e env)
    (h : wpAny (model prog w) A (eval e env) (fun o s₁ => wpAny (model prog w) A (getAttr o f true) Q E s₁) E s) : wpAny (model prog w) A (eval (.Attribute e f pos) env) Q E s :=
  Attribute_any_ h (by rw [arm_eval_Attribute, hb])
end



section
variable {X : Cx} {o e value : Expr} {f : Str} {pos pos' tpos : Pos} {ta tv : TE}
end


section
variable {X : Cx} {pins : List (Addr × Obj)} {σ : St} {H : Hp} {s : Shared} {A : Around} {E : Value → Shared → Prop} {Q : Value → Shared → Prop} {c : Value} {b : Bool}

inductive TyOf (K : PySem.W.Frag) (H : Hp) : V → Value → Prop where
  | non : TyOf K H .non (.type "NoneType")
  | bl (x : Bool) : TyOf K H (.bl x) (.type "bool")
  | int (i : Int) : TyOf K H (.int i) (.type "int")
  | str (x : Str) : TyOf K H (.str x) (.type "str")
  | flt (x : UInt64) : TyOf K H (.flt x) (.type "float")
  | lst {a : Addr} {xs : List V} (e : H a = some (.lst xs)) : TyOf K H (.ref a) (.type "list")
  | frz {a : Addr} {o : Obj} {xs : List V} (e : H a = some (.frz o (.lst xs))) : TyOf K H (.ref a) (.type "list")
  | tup {a : Addr} {xs : List V} (e : H a = some (.tup xs)) : TyOf K H (.ref a) (.type "tuple")
  | dK {a : Addr} {kvs : List (Key × V)} (e : H a = some (.dK kvs)) : TyOf K H (.ref a) (.type "dict")
  | dT {a : Addr} {kvs : List (List Key × V)} (e : H a = some (.dT kvs)) : TyOf K H (.ref a) (.type "dict")
  | ins {a C dx : Addr} {fs : List (Str × V)} (e : H a = some (.ins C dx fs)) (cl : Cls K C) (ha : PySem.W.findIn K (.ref C) "__class__" = some (some (.builtin "object.__class__")))
      (hn : PySem.W.specialIn K (.builtin "object.__class__") "__get__" = some (some (.builtin "getset_descriptor.__get__"))) (htk : PySem.W.takesIn K (.builtin "object.__class__") = some true)
      (hm : PySem.W.mroIn K C (.type "object") = some true) : TyOf K H (.ref a) (.ref C)

theorem isinst_ok {x : V} {u t : Value} (I : Inv X pins σ H s) (rx : RelV x u) (ty : TyOf X.K H x t) (e : PySem.W.kitOne X.K t c = some b) (h : ∀ tk, Q (.bool b) { s with toks := tk }) :
    wpAny (model X.prog X.w) A (call (.builtin "isinstance") [u, c]) Q E s := by
  cases ty with
  | non => cases (show u = Value.none from rx); exact PySem.W.kia_one PySem.W.kitx_none I.kIn True.intro e (fun z => nomatch z) h
  | bl y => cases (show u = Value.bool y from rx); exact PySem.W.kia_one PySem.W.kitx_bool I.kIn True.intro e (fun z => nomatch z) h
  | int i => obtain ⟨t, q⟩ := (show ∃ t, u = Value.int i t from rx); cases q; exact PySem.W.kia_one PySem.W.kitx_int I.kIn True.intro e (fun z => nomatch z) h
  | str y => obtain ⟨t, q⟩ := (show ∃ t, u = Value.str y t from rx); cases q; exact PySem.W.kia_one PySem.W.kitx_str I.kIn True.intro e (fun z => nomatch z) h
  | flt y => obtain ⟨t, q⟩ := (show ∃ t, u = Value.float y t from rx); cases q; exact PySem.W.kia_one PySem.W.kitx_float I.kIn True.intro e (fun z => nomatch z) h
  | @lst a xs ea =>
    cases (show u = Value.ref a from rx)
    obtain ⟨_, _, n, _, h1⟩ := (show ObjOk X.prog X.w H s.heap a (.lst xs) from I.hok a _ ea)
    exact PySem.W.kia_one PySem.W.kitx_list I.kIn ⟨_, h1, rfl⟩ e (fun z => nomatch z) h
  | @frz a ob xs ea =>
    cases (show u = Value.ref a from rx)
    obtain ⟨_, _, _, n, _, h1⟩ := (show ObjOk X.prog X.w H s.heap a (.frz ob (.lst xs)) from I.hok a _ ea)
    exact PySem.W.kia_one PySem.W.kitx_list I.kIn ⟨_, h1, rfl⟩ e (fun z => nomatch z) h
  | @tup a xs ea =>
    cases (show u = Value.ref a from rx)
    obtain ⟨_, _, _, p⟩ := (show ObjOk X.prog X.w H s.heap a (.tup xs) from I.hok a _ ea)
    obtain ⟨o, h1, h2, _⟩ := p
    exact PySem.W.kia_one PySem.W.kitx_tuple I.kIn ⟨o, h1, h2⟩ e (fun z => nomatch z) h
  | @dK a kvs ea =>
    cases (show u = Value.ref a from rx)
    obtain ⟨_, _, vs, _, p⟩ := (show ObjOk X.prog X.w H s.heap a (.dK kvs) from I.hok a _ ea)
    obtain ⟨o, es, ep, h1, h2, _⟩ := p
    exact PySem.W.kia_one PySem.W.kitx_dict I.kIn ⟨o, h1, h2.1⟩ e (fun z => nomatch z) h
  | @dT a kvs ea =>
    cases (show u = Value.ref a from rx)
    obtain ⟨_, _, xs, _, o, es, ep, h1, h2, _⟩ := (show ObjOk X.prog X.w H s.heap a (.dT kvs) from I.hok a _ ea)
    exact PySem.W.kia_one PySem.W.kitx_dict I.kIn ⟨o, h1, h2.1⟩ e (fun z => nomatch z) h
  | @ins a C dx fs ea cl ha hn htk hm =>
    cases (show u = Value.ref a from rx)
    obtain ⟨mA, O, _⟩ := ins_get I.hok ea
    obtain ⟨od, J, _⟩ := O.look
    exact PySem.W.kia_one (PySem.W.kitx_own (cl.get _) cl.hd ha hn htk hm) I.kIn J e (fun z => nomatch z) h
end
end L2

namespace L2
open PySem PySem.Spec PyProof.Rows


structure Room (k : Nat) (A : Around) : Prop where
  hd : A.handled = none
  dp : A.depth + 3 * k + 5 < recursionLimit
  un : A.units + 16 * k + 200 < cLine
theorem Room.mono {j k : Nat} {A : Around} (r : Room k A) (h : j ≤ k) : Room j A := ⟨r.hd, by have := r.dp; omega, by have := r.un; omega⟩
theorem Room.deeper {k : Nat} {A : Around} (r : Room (k + 1) A) (env : Env) : Room k (A.deeper env) :=
  ⟨r.hd, by have := r.dp; show A.depth + 1 + 3 * k + 5 < _; omega, by have := r.un; show A.units + 3 + 16 * k + 200 < _; omega⟩
theorem Room.in1 {k : Nat} {A : Around} (r : Room (k + 1) A) : Room k A.in1 :=
  ⟨r.hd, by have := r.dp; show A.depth + 3 * k + 5 < _; omega, by have := r.un; show A.units + 1 + 16 * k + 200 < _; omega⟩
theorem make_depth {A : Around} {C : Addr} {us : List Value} {kw : List (Str × Value)} : (A.under (.builtin "type.__call__" ⟨.ref C :: us, kw⟩)).depth = A.depth + 1 := by
  first | rfl | simp [Around.under, Code.weight, Code.isCreation, Code.isGuard, Code.isCaller, Code.frames, Code.isFrame, guardIds]
theorem make_units {A : Around} {C : Addr} {us : List Value} {kw : List (Str × Value)} : (A.under (.builtin "type.__call__" ⟨.ref C :: us, kw⟩)).units = A.units + 1 := by
  first | rfl | simp [Around.under, Code.cUnits, Code.frames, Code.isFrame]
theorem Room.make {k : Nat} {A : Around} (r : Room (k + 1) A) (C : Addr) (us : List Value) (kw : List (Str × Value)) : Room k (A.under (.builtin "type.__call__" ⟨.ref C :: us, kw⟩)) :=
  ⟨r.hd, by have := r.dp; rw [make_depth]; omega, by have := r.un; rw [make_units]; omega⟩
theorem Room.depth {k : Nat} {A : Around} (r : Room k A) : A.depth < recursionLimit := by have := r.dp; omega
theorem Room.units {k : Nat} {A : Around} (r : Room k A) : A.units + 64 < cLine := by have := r.un; omega
def tNil : TA := fun _ H Q => Q [] H
def tCons (ta : TE) (tr : TA) : TA := fun σ H Q => ta σ H fun x H1 => tr σ H1 fun xs H2 => Q (x :: xs) H2
section
variable {X : Cx} {e : Expr} {es : List Expr} {te : TE} {t : TA} {pos : Pos}
theorem pa_nil : PA X [] tNil := fun _ _ _ _ H Q I h => Calls.spliced_nil ⟨[], H, I, .nil, h⟩
theorem pa_cons (ha : PE X e te) (hr : PA X es t) (hs : starEach (e :: es) X.env = (false, eval e X.env) :: starEach es X.env := by rfl) : PA X (e :: es) (tCons te t) := by
  intro pos pins s σ H Q I h
  rw [hs]
  show wpAny _ _ (spliced ((false, eval e X.env) :: backTo pos (starEach es X.env))) _ _ s
  refine Calls.spliced_cons (thn (ha pins s σ H _ I h) fun u s1 ⟨x, H1, I1, r1, q1⟩ => ?_)
  exact thn (hr pos pins s1 σ H1 _ I1 q1) fun us s2 ⟨xs, H2, I2, r2, q2⟩ => ⟨x :: xs, H2, I2, .cons r1 r2, q2⟩


def tTup (t : TA) : TE := fun σ H Q => t σ H fun xs H1 => xs.length ≤ sizeLine ∧ ∀ p, H1 p = none → Q (.ref p) (upd H1 p (.tup xs))
def tLst (t : TA) : TE := fun σ H Q => t σ H fun xs H1 => xs.length ≤ sizeLine ∧ ∀ p, H1 p = none → Q (.ref p) (upd H1 p (.lst xs))
theorem pe_tup {x1} (h : PA X es t) : PE X (.Tuple es x1 pos) (tTup t) := by
  intro pins s σ H Q I hq
  refine wpAny_Tuple_spliced (thn (h pos pins s σ H _ I hq) fun us s1 ⟨xs, H1, I1, r, z, q⟩ => ⟨by rw [← r.length]; exact z, ?_⟩)
  have hf : H1 s1.heap.objs.size = none := I1.hok.fresh (Nat.le_refl _)
  refine ⟨.ref s1.heap.objs.size, upd H1 s1.heap.objs.size (.tup xs), I1.laid (t' := s1.toks) (fun b u e => Heap.get?_push_of_some _ e) (Nat.le_refl _) ?_, rfl, q _ hf⟩
  exact ⟨z, us, r, ⟨_, Heap.get?_push_size _ rfl, rfl, _, rfl⟩⟩
theorem pe_lst (h : PA X es t) : PE X (.List es pos) (tLst t) := by
  intro pins s σ H Q I hq
  refine wpAny_List_spliced (thn (h pos pins s σ H _ I hq) fun us s1 ⟨xs, H1, I1, r, z, q⟩ => ⟨by rw [← r.length]; exact z, ?_⟩)
  have hf : H1 s1.heap.objs.size = none := I1.hok.fresh (Nat.le_refl _)
  refine ⟨.ref s1.heap.objs.size, upd H1 s1.heap.objs.size (.lst xs), I1.laid (t' := s1.toks) (fun b u e => Heap.get?_push_of_some _ e) (Nat.le_refl _) ?_, rfl, q _ hf⟩
  exact ⟨z, us, 0, r, Heap.get?_push_size _ rfl⟩
end



abbrev Sp := List V → Hp → VK → XK → Prop

abbrev CXT := List Env → Hp → Shared → XK → Value → Shared → Prop


structure Env0 (P : Program) (w : World) (K : PySem.W.Frag) (mg : Str → Option Value) (base : Heap) (A : Around) (outer : List Env) (s : Shared) (H : Hp) : Prop where
  frames : A.frames = some outer
  mod : Mod K mg base
  bs : ∀ b o, base.get? b = some o → s.heap.get? b = some o ∧ H b = none
  bsz : base.objs.size ≤ s.heap.objs.size
  funs : s.heap.FunFrames base outer
  frf : ∀ b ∈ frs outer, H b = none
  hok : HOk P w H s.heap
  bare : AllBare s.gens

def CE (outer : List Env) (P : Program) (w : World) (H : Hp) (s : Shared) (Q : VK) (u : Value) (s' : Shared) : Prop :=
  ∃ v H', s'.os = s.os ∧ AllBare s'.gens ∧ Un (frs outer) [] H H' s.heap s'.heap ∧ HOk P w H' s'.heap ∧ RelV v u ∧ Q v H'
def CR (CX : CXT) (outer : List Env) (P : Program) (w : World) (H : Hp) (s : Shared) (Q : VK) (E : XK) (r : Result) (s' : Shared) : Prop :=
  match r with
  | .ok (.ret u) => CE outer P w H s Q u s'
  | .ok _ => False
  | .error e => CX outer H s E e s'
structure FnOk (P : Program) (w : World) (K : PySem.W.Frag) (mg : Str → Option Value) (base : Heap) (CX : CXT) (k : Nat) (f : Addr) (fd : FuncData) (ps : List Str) (sp : Sp) : Prop where
  len : ∀ vs H Q E, sp vs H Q E → vs.length = ps.length
  run : ∀ (A : Around) (outer : List Env) (s : Shared) (H : Hp) (args : Args) (us : List Value) (vs : List V) (Q : VK) (E : XK), Room k A → Env0 P w K mg base A outer s H → BindsTo s fd args (ps.zip us) → Vals vs us → sp vs H Q E →
    codeAny (model P w) A (.call (.ref f) args) (CR CX outer P w H s Q E) s
theorem FnOk.mono {P : Program} {w : World} {K : PySem.W.Frag} {mg : Str → Option Value} {base : Heap} {CX : CXT} {j k : Nat} {f : Addr} {fd : FuncData} {ps : List Str} {sp : Sp} (F : FnOk P w K mg base CX j f fd ps sp) (h : j ≤ k) :
    FnOk P w K mg base CX k f fd ps sp := ⟨F.len, fun A outer s H args us vs Q E hr => F.run A outer s H args us vs Q E (hr.mono h)⟩

theorem FnOk.imp {P : Program} {w : World} {K : PySem.W.Frag} {mg : Str → Option Value} {base : Heap} {CX : CXT} {k : Nat} {f : Addr} {fd : FuncData} {ps : List Str} {sp sp' : Sp} (F : FnOk P w K mg base CX k f fd ps sp)
    (h : ∀ vs H Q E, sp' vs H Q E → sp vs H Q E) : FnOk P w K mg base CX k f fd ps sp' :=
  ⟨fun vs H Q E q => F.len vs H Q E (h _ _ _ _ q), fun A outer s H args us vs Q E hr he hb hv hs => F.run A outer s H args us vs Q E hr he hb hv (h _ _ _ _ hs)⟩

theorem Env0.make {P : Program} {w : World} {K : PySem.W.Frag} {mg : Str → Option Value} {base : Heap} {A : Around} {outer : List Env} {s : Shared} {H : Hp} (e : Env0 P w K mg base A outer s H) (C : Addr) (us : List Value) (kw : List (Str × Value)) :
    Env0 P w K mg base (A.under (.builtin "type.__call__" ⟨.ref C :: us, kw⟩)) outer s H := ⟨by first | exact e.frames | (simpa [Around.under, Code.envs, Code.isFrame, pushEnvs] using e.frames), e.mod, e.bs, e.bsz, e.funs, e.frf, e.hok, e.bare⟩
theorem Env0.in1 {P : Program} {w : World} {K : PySem.W.Frag} {mg : Str → Option Value} {base : Heap} {A : Around} {outer : List Env} {s : Shared} {H : Hp} (e : Env0 P w K mg base A outer s H) :
    Env0 P w K mg base A.in1 outer s H := ⟨e.frames, e.mod, e.bs, e.bsz, e.funs, e.frf, e.hok, e.bare⟩

section
variable {X : Cx} {pins : List (Addr × Obj)} {σ : St} {H : Hp} {s s' : Shared}

theorem Inv.env0 (I : Inv X pins σ H s) : Env0 X.prog X.w X.K X.mg X.base X.A X.stack s H :=
  ⟨I.ok.frames, I.ok.mod, I.bs, Nat.le_trans I.ok.bsz I.sz, I.stack, I.stkFree, I.hok, I.bare⟩

theorem Inv.after {Q : VK} {u : Value} (I : Inv X pins σ H s) (h : CE X.stack X.prog X.w H s Q u s') : EP X pins σ Q u s' := by
  obtain ⟨v, H', os, bare, un, hok, r, q⟩ := h
  obtain ⟨hh, g, d, t, os'⟩ := s'
  obtain rfl : os' = s.os := os
  exact ⟨v, H', I.call (h' := hh) (g' := g) (d' := d) (t' := t) (ch := []) un hok bare (fun b z => absurd z (by simp)), r, q⟩
end



def tCall (sp : Sp) (dvs : List V) (E : XK) (t : TA) : TE := fun σ H Q => t σ H fun vs H1 => sp (vs ++ dvs) H1 Q E

def Binds (K : PySem.W.Frag) (fd : FuncData) (ps : List Str) (ds : List Value) : Prop :=
  ∀ (s : Shared) (us : List Value), K.In s.heap → (us ++ ds).length = ps.length → BindsTo s fd ⟨us, []⟩ (ps.zip (us ++ ds))

theorem Binds.all {K : PySem.W.Frag} {fd : FuncData} {ps : List Str} (h : ∀ us : List Value, us.length = ps.length → bindArgs fd ⟨us, []⟩ = pure (ps.zip us)) : Binds K fd ps [] := fun s us _ hl => by
  rw [List.append_nil] at hl ⊢
  exact .of_eq (h us hl)


def Passes (CX : CXT) (X : Cx) (E : XK) : Prop := ∀ (pins : List (Addr × Obj)) (σ : St) (H : Hp) (s : Shared) (e : Value) (s' : Shared), Inv X pins σ H s → CX X.stack H s E e s' → X.xe e s'

section
variable {X : Cx} {CX : CXT} {k : Nat} {f C : Addr} {fd : FuncData} {ps : List Str} {sp : Sp} {dvs : List V} {ds : List Value} {E : XK} {x m : Str} {p pos apos : Pos} {e o : Expr} {es : List Expr} {ta : TE} {t : TA}


theorem run_fn {pins : List (Addr × Obj)} {σ : St} {H : Hp} {s : Shared} {Q : VK} {us : List Value} {vs : List V} (F : FnOk X.prog X.w X.K X.mg X.base CX k f fd ps sp) (hr : Room k X.A) (hb : Binds X.K fd ps ds) (hd : Vals dvs ds) (hx : Passes CX X E)
    (I : Inv X pins σ H s) (r : Vals vs us) (h : sp (vs ++ dvs) H Q E) : wpAny (model X.prog X.w) X.A (call (.ref f) us) (EP X pins σ Q) X.xe s := by
  have r2 : Vals (vs ++ dvs) (us ++ ds) := r.append hd
  have hl : (us ++ ds).length = ps.length := by rw [← r2.length]; exact F.len _ _ _ _ h
  refine wpAny_call (codeAny_mono (F.run X.A X.stack s H ⟨us, []⟩ (us ++ ds) (vs ++ dvs) Q E hr I.env0 (hb s us I.kIn hl) r2 h) fun r s' hq => ?_)
  cases r with
  | error e => exact hx pins σ H s e s' I hq
  | ok fl =>
    cases fl with
    | ret u => exact I.after hq
    | next => exact False.elim hq
    | brk => exact False.elim hq
    | cont => exact False.elim hq

theorem pe_call (F : FnOk X.prog X.w X.K X.mg X.base CX k f fd ps sp) (hr : Room k X.A) (hg : Gl X x) (hm : X.mg x = some (.ref f)) (hk : PySem.W.keepIn X.K (.ref f) = true) (hb : Binds X.K fd ps ds) (hd : Vals dvs ds) (hx : Passes CX X E)
    (ha : PA X (e :: es) t) (hdb : (x == ("__debug__" : Str)) = false := by decide) (he : starEach (e :: es) X.env = (false, eval e X.env) :: starEach es X.env := by rfl) (hpl : (backTo pos (starEach es X.env)).any (·.1) = false := by rfl) :
    PE X (.Call (.Name x p) (e :: es) [] pos) (tCall sp dvs E t) := by
  intro pins s σ H Q I h
  refine wpAny_Call_Name_kw (ld_glob I hg hm ?_ hdb)
  refine PySem.W.callWith_K (h₀ := X.base) I.ok.mod.kin hk (thn (ha pos pins s σ H _ I h) fun us s1 ⟨vs, H1, I1, r, q⟩ => ⟨I1.kIn, ?_⟩) he hpl
  exact run_fn F hr hb hd hx I1 r q
end



section
variable {X : Cx} {CX : CXT} {k : Nat} {f C : Addr} {fd : FuncData} {ps ks : List Str} {sp : Sp} {E : XK} {x m : Str} {p pos apos kpos : Pos} {e o : Expr} {es : List Expr} {kws : List Keyword} {te ta : TE} {t tk : TA} {nm : Option Str}
variable {g : List Value → List Value → List Value} {gV : List V → List V → List V}
end



structure FnScope (N P : List Str) (sc : Scope) : Prop where
  kind : sc.kind = .function
  co : sc.isCoroutine = false
  gen : sc.isGenerator = false
  nd : N.Nodup
  pre : N.take P.length = P
  par : ∀ x ∈ P, sc.names.lookup x = some .local ∨ sc.names.lookup x = some .cell
  nofree : ∀ y ∈ sc.names, y.2 ≠ .free

theorem bindL_out {kindOf : Str → Option NameKind} {x : Str} : ∀ {binds : List (Str × Value)} {m : Str → Option Value}, (∀ v, (x, v) ∉ binds) → bindL kindOf binds m x = m x
  | [], _, _ => rfl
  | (n, v) :: r, m, h => by
    unfold bindL
    rw [bindL_out fun w hw => h w (List.mem_cons_of_mem _ hw)]
    split
    · have : x ≠ n := by rintro rfl; exact h v List.mem_cons_self
      simp [this]
    · rfl
theorem bindC_out {kindOf : Str → Option NameKind} {x : Str} : ∀ {binds : List (Str × Value)} {m : Str → Option Value}, (∀ v, (x, v) ∉ binds) → bindC kindOf binds m x = m x
  | [], _, _ => rfl
  | (n, v) :: r, m, h => by
    unfold bindC
    rw [bindC_out fun w hw => h w (List.mem_cons_of_mem _ hw)]
    split
    · rfl
    · have : x ≠ n := by rintro rfl; exact h v List.mem_cons_self
      simp [this]
theorem bindL_get {kindOf : Str → Option NameKind} {x : Str} {v : Value} : ∀ {P : List Str} {vs : List Value} {i : Nat} {m : Str → Option Value}, P.Nodup → P[i]? = some x → vs[i]? = some v → kindOf x = some .local →
    bindL kindOf (P.zip vs) m x = some v
  | [], _, _, _, _, h, _, _ => by simp at h
  | _ :: _, [], _, _, _, _, h, _ => by simp at h
  | p :: P, w :: vs, 0, m, nd, h1, h2, hk => by
    simp at h1 h2; subst h1; subst h2
    show bindL kindOf ((p, w) :: P.zip vs) m p = _
    unfold bindL
    rw [bindL_out fun v hv => (List.nodup_cons.mp nd).1 (List.of_mem_zip hv).1, if_pos hk]
    simp
  | p :: P, w :: vs, i + 1, m, nd, h1, h2, hk => by
    show bindL kindOf ((p, w) :: P.zip vs) m x = _
    unfold bindL
    exact bindL_get (i := i) (List.nodup_cons.mp nd).2 (by simpa using h1) (by simpa using h2) hk
theorem bindC_get {kindOf : Str → Option NameKind} {x : Str} {v : Value} : ∀ {P : List Str} {vs : List Value} {i : Nat} {m : Str → Option Value}, P.Nodup → P[i]? = some x → vs[i]? = some v → kindOf x ≠ some .local →
    bindC kindOf (P.zip vs) m x = some v
  | [], _, _, _, _, h, _, _ => by simp at h
  | _ :: _, [], _, _, _, _, h, _ => by simp at h
  | p :: P, w :: vs, 0, m, nd, h1, h2, hk => by
    simp at h1 h2; subst h1; subst h2
    show bindC kindOf ((p, w) :: P.zip vs) m p = _
    unfold bindC
    rw [bindC_out fun v hv => (List.nodup_cons.mp nd).1 (List.of_mem_zip hv).1, if_neg hk]
    simp
  | p :: P, w :: vs, i + 1, m, nd, h1, h2, hk => by
    show bindC kindOf ((p, w) :: P.zip vs) m x = _
    unfold bindC
    exact bindC_get (i := i) (List.nodup_cons.mp nd).2 (by simpa using h1) (by simpa using h2) hk


def start (N : List Str) (vs : List V) : St := vs.map some ++ List.replicate (N.length - vs.length) none


def cxOf (CX : CXT) (P : Program) (w : World) (K : PySem.W.Frag) (mg : Str → Option Value) (base : Heap) (N : List Str) (qual : Str) (scope : Scope) (f : Addr) (cd : Value) (A : Around) (outer : List Env) (s : Shared) (H : Hp) (E : XK) : Cx where
  prog := P
  w := w
  K := K
  mg := mg
  base := base
  A := A.deeper (envOfC qual scope s.heap.objs.size f cd)
  N := N
  s₀ := s
  H₀ := H
  env := envOfC qual scope s.heap.objs.size f cd
  outer := outer
  stack := envOfC qual scope s.heap.objs.size f cd :: outer
  ex := []
  calm := true
  fn := fun _ => true
  pn := []
  xe := fun e s' => wpAny (model P w) (A.deeper (envOfC qual scope s.heap.objs.size f cd)) (leaving (envOfC qual scope s.heap.objs.size f cd) e) (fun _ s'' => CX outer H s E e s'') (fun e' s'' => CX outer H s E e' s'') s'

theorem cell_has {sc : Scope} {n : Nat} {x : Str} (h : sc.names.lookup x = some .cell) : ∃ c, (cellsFrom n sc.names []).lookup x = some c := by
  have q := PySem.W.cellsFrom_some sc.names n [] (.inl h)
  exact Option.isSome_iff_exists.mp q

theorem inv_start {CX : CXT} {P : Program} {w : World} {K : PySem.W.Frag} {mg : Str → Option Value} {base : Heap} {N ps : List Str} {qual : Str} {scope : Scope} {f : Addr} {cd : Value} {A : Around} {outer : List Env} {s s1 : Shared} {H : Hp} {E : XK} {us : List Value} {vs : List V}
    (S : FnScope N ps scope) (hd : A.handled = none) (e0 : Env0 P w K mg base A outer s H) (hl : vs.length = ps.length) (r : Vals vs us)
    (x : InCallC s s.heap.objs.size (bindL (envOfC qual scope s.heap.objs.size f cd).kindOf (ps.zip us) fun _ => none) (cellsFrom (s.heap.objs.size + 1) scope.names []) (bindC (envOfC qual scope s.heap.objs.size f cd).kindOf (ps.zip us) fun _ => none) s1) :
    Inv (cxOf CX P w K mg base N qual scope f cd A outer s H E) [] (start N vs) H s1 := by
  have hpl : ps.length ≤ N.length := by have := congrArg List.length S.pre; rw [List.length_take] at this; omega
  obtain ⟨h1, tk, rfl, hk⟩ := x.done
  have noA : ∀ b : Addr, b ∉ (cxOf CX P w K mg base N qual scope f cd A outer s H E).ex := fun b z => absurd (show b ∈ ([] : List Addr) from z) (by simp)
  refine ⟨⟨e0.mod, S.kind, rfl, rfl, Nat.le_refl _, fun y z c h1 h2 => ?_, fun y hy => ?_, fun y c _ h => ?_, fun _ => hd, Around.frames_deeper e0.frames, .inr ⟨rfl, rfl⟩, fun b z => absurd z (noA b), e0.bs, e0.bsz, fun b _ _ => noA b, fun b z => absurd z (noA b), e0.funs, e0.frf⟩,
    rfl, e0.bare, Un.kept hk, ⟨_, x.toInCall.ns, fun i y v h1 h2 h3 => ?_⟩, fun y c h => ⟨_, x.cell y c h⟩, e0.hok.fresh (Nat.le_refl _), fun y c h => ?_, fun p hp => absurd (show p ∈ ([] : List (Addr × Obj)) from hp) (by simp), e0.hok.kept hk, ?_⟩
  · exact name_of_addr x.apart (PySem.mem_of_lookup h1) (PySem.mem_of_lookup h2)
  · have hy : scope.names.lookup y = some .cell ∨ scope.names.lookup y = some .free := hy
    rcases hy with hy | hy
    · exact cell_has hy
    · exact absurd rfl (S.nofree _ (PySem.mem_of_lookup hy))
  · exact Nat.le_of_lt (x.above y c (PySem.mem_of_lookup h))
  · have hi : i < vs.length := by
      unfold start at h2
      by_cases hi : i < vs.length
      · exact hi
      · rw [List.getElem?_append_right (by simpa using hi)] at h2
        rw [List.getElem?_replicate] at h2
        split at h2 <;> cases h2
    have ha : vs[i]? = some v := by
      unfold start at h2
      rw [List.getElem?_append_left (by simpa using hi), List.getElem?_map] at h2
      cases e : vs[i]? with
      | none => rw [e] at h2; cases h2
      | some a => rw [e] at h2; cases h2; rfl
    obtain ⟨u, hu, rv⟩ := r.get ha
    have hp : ps[i]? = some y := by
      rw [← S.pre, List.getElem?_take_of_lt (by omega)]; exact h1
    have ndP : ps.Nodup := by rw [← S.pre]; exact S.nd.sublist (List.take_sublist _ _)
    refine ⟨u, rv, ?_⟩
    rcases S.par y (List.mem_of_getElem? hp) with k | k
    · exact .inl ⟨k, bindL_get ndP hp hu k⟩
    · obtain ⟨c, e⟩ := cell_has (n := s.heap.objs.size + 1) k
      refine .inr ⟨.inl k, c, e, ?_⟩
      have q := x.cell y c e
      rw [bindC_get ndP hp hu (by show scope.names.lookup y ≠ _; rw [k]; decide)] at q
      exact q
  · exact e0.hok.fresh (Nat.le_of_lt (x.above y c (PySem.mem_of_lookup h)))
  · unfold start
    show _ = N.length
    rw [List.length_append, List.length_map, List.length_replicate]
    omega


theorem fn_of {CX : CXT} {P : Program} {w : World} {K : PySem.W.Frag} {mg : Str → Option Value} {base : Heap} {k : Nat} {f : Addr} {name qual : Str} {params : Arguments} {body : List Stmt} {scope : Scope} {dV kV doc pm cdv ct oc : Value} {an od : Option Addr}
    {osl : Array (Option Value)} {N ps : List Str} {sp : Sp} (lk : K.lookup f = some ⟨oc, od, .func (PySem.W.fnOf name qual params body scope dV kV doc pm an cdv ct), osl⟩) (hcd : PySem.W.codeIn K cdv qual = true) (S : FnScope N ps scope)
    (len : ∀ vs H Q E, sp vs H Q E → vs.length = ps.length)
    (hbody : ∀ (A : Around) (outer : List Env) (s : Shared) (H : Hp) (vs : List V) (Q : VK) (E : XK), Room k (A.deeper (envOfC qual scope s.heap.objs.size f cdv)) → sp vs H Q E →
      ∃ t, PSs (cxOf CX P w K mg base N qual scope f cdv A outer s H E) body t ∧ t { nx := fun _ H' => Q .non H', rt := Q } (start N vs) H) :
    FnOk P w K mg base CX (k + 1) f (PySem.W.fnOf name qual params body scope dV kV doc pm an cdv ct) ps sp := by
  refine ⟨len, fun A outer s H args us vs Q E hr e0 hb r hsp => ?_⟩
  have hl := len _ _ _ _ hsp
  have KX : K.In s.heap := e0.mod.kin.keeps fun b o e => (e0.bs b o e).1
  have lim : s.heap.NoLimit := e0.mod.nolimit.keeps fun b o e => (e0.bs b o e).1
  have hkind : ∀ y ∈ ps.zip us, scope.names.lookup y.1 = some .local ∨ (scope.names.lookup y.1 = some .cell ∧ ((cellsFrom (s.heap.objs.size + 1) scope.names []).lookup y.1).isSome = true) := fun ⟨n, v⟩ hy => by
    rcases S.par n (List.of_mem_zip hy).1 with q | q
    · exact .inl q
    · exact .inr ⟨q, PySem.W.cellsFrom_some _ _ _ (.inl q)⟩
  refine codeAny_call_function hr.depth (KX _ _ lk) rfl S.co S.gen rfl (PySem.W.codeRec_of KX hcd) (hb _ _ _ _ ?_)
  refine wpAny_newFunctionEnv_cells S.kind hkind fun env he s1 x => ?_
  subst he
  refine ⟨lim.keeps x.toInCall.keep, codeAny_func ?_⟩
  obtain ⟨t, ht, hq⟩ := hbody A outer s H vs Q E (hr.deeper _) hsp
  have I : Inv (cxOf CX P w K mg base N qual scope f cdv A outer s H E) [] (start N vs) H s1 := inv_start S hr.hd e0 hl r x
  refine wpAny_mono (ht [] s1 (start N vs) H _ I hq) (fun fl s' hs => ?_) fun e s' hs => hs
  have fin : ∀ {σ' : St} {H' : Hp} {v : V} {u : Value}, Inv (cxOf CX P w K mg base N qual scope f cdv A outer s H E) [] σ' H' s' → RelV v u → Q v H' → CE outer P w H s Q u s' :=
    fun {σ' H' v u} J rv q => ⟨v, H', J.os, J.bare, J.base, J.hok, rv, q⟩
  cases fl with
  | ret u =>
    obtain ⟨v, σ', H', J, rv, q⟩ := hs
    exact fin J rv q
  | next =>
    obtain ⟨σ', H', J, q⟩ := hs
    exact fin (v := V.non) (u := Value.none) J rfl q
  | brk =>
    obtain ⟨_, _, _, q⟩ := hs
    exact False.elim q
  | cont =>
    obtain ⟨_, _, _, q⟩ := hs
    exact False.elim q
end L2

namespace L2
open PySem PySem.Spec PyProof.Rows
section
variable {X : Cx} {x : Str} {p pos : Pos} {e : Expr} {es : List Expr} {t : TA} {id T : String} {r : List V → Hp → VK → Prop}

def tCB (r : List V → Hp → VK → Prop) (t : TA) : TE := fun σ H Q => t σ H fun vs H1 => r vs H1 Q

theorem pe_callB (hc : CallR X (.builtin id) r) (hg : Gl X x) (hm : X.mg x = none) (hv : bootBuiltins x = some (.builtin id)) (ha : PA X (e :: es) t) (hn : x ≠ "__name__" := by decide) (hdb : (x == ("__debug__" : Str)) = false := by decide)
    (he : starEach (e :: es) X.env = (false, eval e X.env) :: starEach es X.env := by rfl) (hpl : (backTo pos (starEach es X.env)).any (·.1) = false := by rfl) : PE X (.Call (.Name x p) (e :: es) [] pos) (tCB r t) := by
  intro pins s σ H Q I h
  refine wpAny_Call_Name_kw (ld_blt I hg hm hv ?_ hn hdb)
  exact PyProof.Rows.callWith_builtin1 (thn (ha pos pins s σ H _ I h) fun us s1 ⟨vs, H1, I1, r1, q1⟩ => hc pins s1 σ H1 vs us Q I1 r1 q1) he hpl

theorem pe_callTy (hc : CallR X (.type T) r) (hg : Gl X x) (hm : X.mg x = none) (hv : bootBuiltins x = some (.type T)) (ha : PA X (e :: es) t) (hn : x ≠ "__name__" := by decide) (hdb : (x == ("__debug__" : Str)) = false := by decide)
    (he : starEach (e :: es) X.env = (false, eval e X.env) :: starEach es X.env := by rfl) (hpl : (backTo pos (starEach es X.env)).any (·.1) = false := by rfl) : PE X (.Call (.Name x p) (e :: es) [] pos) (tCB r t) := by
  intro pins s σ H Q I h
  refine wpAny_Call_Name_kw (ld_blt I hg hm hv ?_ hn hdb)
  exact PyProof.Rows.callWith_type1 (thn (ha pos pins s σ H _ I h) fun us s1 ⟨vs, H1, I1, r1, q1⟩ => hc pins s1 σ H1 vs us Q I1 r1 q1) he hpl

end
end L2

namespace HT
open PySem PyProof.Rows


section
open PySem.SeqAt
open PySem.AutoSeq1 (wpAny_loadPart')
open PySem.MeetsSeq PySem.MeetsSeq2 PySem.MeetsSeq3

end

section
variable {prog : Program} {w : World} {A : Around} {E : Value → Shared → Prop} {s : Shared}

def sIx (n d : Nat) : Option Int → Nat
  | none => d
  | some v => if v < 0 then (v + (n : Int)).toNat else min v.toNat n
theorem sIx_nat (n d k : Nat) : sIx n d (some (k : Int)) = min k n := by
  show (if (k : Int) < 0 then ((k : Int) + (n : Int)).toNat else min (k : Int).toNat n) = min k n
  rw [if_neg (by omega), Int.toNat_natCast]
end
end HT

namespace L2
open PySem PySem.Spec PyProof.Rows


abbrev TO := St → Hp → (Option Int → Hp → Prop) → Prop

def PO (X : Cx) (e : Option Expr) (t : TO) : Prop :=
  ∀ (pins : List (Addr × Obj)) (s : Shared) (σ : St) (H : Hp) (Q : Option Int → Hp → Prop), Inv X pins σ H s → t σ H Q →
    wpAny (model X.prog X.w) X.A (evalPart e X.env) (fun u s' => ∃ o H', Inv X pins σ H' s' ∧ IsPart u o ∧ Q o H') X.xe s
def tNoPart : TO := fun _ H Q => Q none H
def tPart (t : TE) : TO := fun σ H Q => t σ H fun x H1 => ∃ i, x = .int i ∧ Q (some i) H1

section
variable {X : Cx} {e : Expr} {te : TE} {lo hi : Option Expr} {tl th : TO} {pos p2 : Pos}

theorem po_none : PO X none tNoPart := by
  intro pins s σ H Q I h
  rw [evalPart_none]
  exact wpAny_pure ⟨none, H, I, .none, h⟩
theorem po_some (h : PE X e te) : PO X (some e) (tPart te) := by
  intro pins s σ H Q I hw
  rw [evalPart_some]
  refine thn (h pins s σ H _ I hw) fun u s1 ⟨x, H1, I1, r1, q1⟩ => ?_
  obtain ⟨i, rfl, q⟩ := q1
  obtain ⟨t, rfl⟩ := r1
  exact ⟨some i, H1, I1, .int i t, q⟩


def SlR (X : Cx) (r : V → Option Int → Option Int → Hp → VK → Prop) : Prop :=
  ∀ (pins : List (Addr × Obj)) (s : Shared) (σ : St) (H : Hp) (x : V) (v vl vu : Value) (lo hi : Option Int) (sl : Addr) (Q : VK), Inv X pins σ H s → RelV x v → s.heap.IsSliceOf sl vl vu .none → IsPart vl lo → IsPart vu hi → r x lo hi H Q →
    ∃ T id, typeLookup (.type T) "__getitem__" = pure (some (.builtin id)) ∧ s.TypeIs v T ∧ wpAny (model X.prog X.w) X.A (getItem v (.ref sl)) (EP X pins σ Q) X.xe s
def tSl (r : V → Option Int → Option Int → Hp → VK → Prop) (te : TE) (tl th : TO) : TE := fun σ H Q => te σ H fun x H1 => tl σ H1 fun l H2 => th σ H2 fun u H3 => r x l u H3 Q

theorem pe_slice {r : V → Option Int → Option Int → Hp → VK → Prop} (hr : SlR X r) (he : PE X e te) (hl : PO X lo tl) (hu : PO X hi th) : PE X (.Subscript e (.Slice lo hi none p2) pos) (tSl r te tl th) := by
  intro pins s σ H Q I h
  refine Subscript_ (thn (he pins s σ H _ I h) fun v s1 ⟨x, H1, I1, r1, q1⟩ => ?_)
  refine wpAny_Slice (thn (hl pins s1 σ H1 _ I1 q1) fun vl s2 ⟨l, H2, I2, pl, q2⟩ => thn (hu pins s2 σ H2 _ I2 q2) fun vu s3 ⟨u, H3, I3, pu, q3⟩ => ?_)
  rw [evalPart_none]
  refine wpAny_pure ?_
  have I4 : Inv X pins σ H3 { s3 with heap := s3.heap.push { cls := .type "slice", data := .fields #[vl, vu, .none] } } := I3.kept (t' := s3.toks) fun b ob q => Heap.get?_push_of_some _ q
  obtain ⟨T, id, hT, ht, hg⟩ := hr pins { s3 with heap := s3.heap.push { cls := .type "slice", data := .fields #[vl, vu, .none] } } σ H3 x v vl vu l u s3.heap.objs.size Q I4 r1 (Heap.IsSliceOf.new ..) pl pu q3
  show wpAny (model X.prog X.w) X.A (subscriptTail e (.Slice lo hi none p2) v (.ref s3.heap.objs.size)) (EP X pins σ Q) X.xe { s3 with heap := s3.heap.push { cls := .type "slice", data := .fields #[vl, vu, .none] } }
  exact tail_any (ops := [.ref s3.heap.objs.size, v]) ht hT hg (by with_unfolding_all rfl)


def cutV (xs : List V) (lo hi : Option Int) : List V := (xs.drop (HT.sIx xs.length 0 lo)).take (HT.sIx xs.length xs.length hi - HT.sIx xs.length 0 lo)
theorem cutV_length (xs : List V) (lo hi : Option Int) : (cutV xs lo hi).length ≤ xs.length := by
  unfold cutV
  rw [List.length_take, List.length_drop]
  omega

theorem Vals.nil_iff {xs : List V} {us : List Value} (r : Vals xs us) : us = [] ↔ xs = [] := by
  cases r with
  | nil => simp
  | cons _ _ => simp
end
end L2

namespace L2
open PySem PySem.Spec PyProof.Rows



def ixN (n : Nat) (i : Int) : Option Nat := if 0 ≤ i then (if i < n then some i.toNat else none) else if -(n : Int) ≤ i then some (i + n).toNat else none
def atI {α : Type} (xs : List α) (i : Int) : Option α := (ixN xs.length i).bind fun j => xs[j]?
theorem ixN_seq {n : Nat} {i : Int} {j : Nat} (h : ixN n i = some j) : seqIndex? i n = some j ∧ j < n ∧ -(n : Int) ≤ i ∧ i < n := by
  unfold ixN at h
  by_cases h0 : 0 ≤ i
  · rw [if_pos h0] at h
    by_cases h1 : i < n
    · rw [if_pos h1] at h
      have e : i.toNat = j := Option.some.inj h
      exact ⟨by rw [seqIndex_of h0 h1, e], by omega, by omega, h1⟩
    · rw [if_neg h1] at h; cases h
  · rw [if_neg h0] at h
    by_cases h1 : -(n : Int) ≤ i
    · rw [if_pos h1] at h
      have e : (i + n).toNat = j := Option.some.inj h
      exact ⟨by rw [seqIndex_neg (by omega) h1, e], by omega, h1, by omega⟩
    · rw [if_neg h1] at h; cases h
theorem atI_get {α : Type} {xs : List α} {i : Int} {v : α} (h : atI xs i = some v) : ∃ j, seqIndex? i xs.length = some j ∧ xs[j]? = some v ∧ j < xs.length ∧ -(xs.length : Int) ≤ i ∧ i < xs.length := by
  unfold atI at h
  cases e : ixN xs.length i with
  | none => rw [e] at h; cases h
  | some j =>
    rw [e] at h
    obtain ⟨h1, h2, h3, h4⟩ := ixN_seq e
    exact ⟨j, h1, h, h2, h3, h4⟩
theorem atI_nat {α : Type} {xs : List α} {j : Nat} {v : α} (h : xs[j]? = some v) : atI xs (j : Int) = some v := by
  have hj : j < xs.length := (List.getElem?_eq_some_iff.mp h).1
  have e : ixN xs.length (j : Int) = some j := by
    unfold ixN
    rw [if_pos (by omega), if_pos (by omega)]; simp
  unfold atI; rw [e]; exact h
def PlainIx (b : Expr) : Prop := ∀ o i, subscripted b false o i = operate [o, i] (getItem o i)

def IxR (X : Cx) (r : R2) : Prop :=
  ∀ (value slice : Expr) (pins : List (Addr × Obj)) (s : Shared) (σ : St) (H : Hp) (x y : V) (v u : Value) (Q : VK), Inv X pins σ H s → RelV x v → RelV y u → r x y H Q →
    subscripted slice false v u = operate [v, u] (getItem v u) → wpAny (model X.prog X.w) X.A (subscriptTail value slice v u) (EP X pins σ Q) X.xe s

def MtR (X : Cx) (id : String) (r : V → List V → Hp → VK → Prop) : Prop :=
  ∀ (pins : List (Addr × Obj)) (s : Shared) (σ : St) (H : Hp) (x : V) (xs : List V) (v : Value) (us : List Value) (Q : VK), Inv X pins σ H s → RelV x v → Vals xs us → r x xs H Q →
    wpAny (model X.prog X.w) X.A (call (.builtin id) (v :: us)) (EP X pins σ Q) X.xe s
section
variable {X : Cx} {a b : Expr} {ta tb : TE} {pos : Pos}
theorem pe_ix {r : R2} (hr : IxR X r) (ha : PE X a ta) (hb : PE X b tb) (hs : PlainIx b) : PE X (.Subscript a b pos) (tOp r ta tb) := by
  intro pins s σ H Q I h
  exact Subscript_ (binT ha hb I h fun v u s2 x y H2 I2 rx ry q => hr a b pins s2 σ H2 x y v u Q I2 rx ry q (hs _ _))

def rIxL (K : PySem.W.Frag) : R2 := fun x y H Q => ∃ p xs i v, x = .ref p ∧ y = .int i ∧ SqL K H p xs ∧ atI xs i = some v ∧ Q v H
def rIxT (K : PySem.W.Frag) : R2 := fun x y H Q => ∃ p xs i v, x = .ref p ∧ y = .int i ∧ SqT K H p xs ∧ atI xs i = some v ∧ Q v H
def rIxS : R2 := fun x y H Q => ∃ z i c, x = .str z ∧ y = .int i ∧ z.length ≤ sizeLine ∧ atI z.cps.toList i = some c ∧ Q (.str ⟨#[c]⟩) H
theorem ix_list : IxR X (rIxL X.K) := by
  intro value slice pins s σ H x y v u Q I rx ry h hs
  obtain ⟨p, xs, i, z, rfl, rfl, hq, he, q⟩ := h
  cases rx
  obtain ⟨t, rfl⟩ := ry
  obtain ⟨its, r, pl, hz⟩ := I.list hq
  obtain ⟨j, h1, h2, h3, h4, h5⟩ := atI_get he
  obtain ⟨w, ew, rw'⟩ := r.get h2
  have hl := r.length
  have hn := line63
  have fin : EP X pins σ Q w s := ⟨z, H, I, rw', q⟩
  by_cases h0 : 0 ≤ i
  · have hj : i.toNat = j := by
      rw [seqIndex_of h0 h5] at h1
      exact Option.some.inj h1
    exact item_listR pl.isList h0 (by omega) (by rw [hj]; simpa using ew) fin hs
  · have hj : (i + (its.toArray.size : Int)).toNat = j := by
      rw [seqIndex_neg (by omega) h4] at h1
      rw [List.size_toArray, ← hl]
      exact Option.some.inj h1
    exact subscriptTail_builtinR (x := w) pl.isList.typeIs slot_list_getitem.lookup
      (wpAny_getItem_list_neg (Q := fun r s' => r = w ∧ EP X pins σ Q r s') pl.isList (by omega) (by rw [List.size_toArray] <;> omega) (by omega) (by rw [hj]; simpa using ew) ⟨rfl, fin⟩) hs
theorem ix_tup : IxR X (rIxT X.K) := by
  intro value slice pins s σ H x y v u Q I rx ry h hs
  obtain ⟨p, xs, i, z, rfl, rfl, hq, he, q⟩ := h
  cases rx
  obtain ⟨t, rfl⟩ := ry
  obtain ⟨its, r, pl, hz⟩ := I.tuple hq
  obtain ⟨j, h1, h2, h3, h4, h5⟩ := atI_get he
  obtain ⟨w, ew, rw'⟩ := r.get h2
  have hl := r.length
  have hn := line63
  have fin : EP X pins σ Q w s := ⟨z, H, I, rw', q⟩
  exact subscriptTail_builtinR (x := w) pl.typeIs slot_tuple_getitem.lookup
    (getItem_tuple (j := j) (Q := fun r s' => r = w ∧ EP X pins σ Q r s') pl (by omega) (by omega) (by rw [List.size_toArray, ← hl]; exact h1) (by simpa using ew) ⟨rfl, fin⟩) hs
theorem ix_str : IxR X rIxS := by
  intro value slice pins s σ H x y v u Q I rx ry h hs
  obtain ⟨z, i, c, rfl, rfl, hz, he, q⟩ := h
  obtain ⟨t, rfl⟩ := rx
  obtain ⟨t', rfl⟩ := ry
  obtain ⟨j, h1, h2, h3, h4, h5⟩ := atI_get he
  have hl : z.cps.toList.length = z.length := by simp [Str.length]
  rw [hl] at h1 h4 h5
  have hn := line63
  exact tail_any (typeIs_str s z t) slot_str_getitem.lookup (getItem_str (c := c) (by
    have e1 : decide (i < -(2 ^ 63 : Int)) = false := decide_eq_false (by omega)
    have e2 : decide (i ≥ 2 ^ 63) = false := decide_eq_false (by omega)
    rw [e1, e2, Bool.or_false]) (by rw [h1]; simpa using h2) ⟨.str ⟨#[c]⟩, H, I.tok _, ⟨_, rfl⟩, q⟩) hs

theorem mapSeq_set (its : List Value) (n j : Nat) (u : Value) : Obj.mapSeq (·.setIfInBounds j u) { cls := .type "list", data := .seq its.toArray n } = { cls := .type "list", data := .seq (its.set j u).toArray n } := by
  simp [Obj.mapSeq]
theorem Inv.lst {pins : List (Addr × Obj)} {σ : St} {H : Hp} {s : Shared} {p : Addr} {xs : List V} (I : Inv X pins σ H s) (h : H p = some (.lst xs)) :
    ∃ (its : List Value) (n : Nat), Vals xs its ∧ s.heap.get? p = some { cls := .type "list", data := .seq its.toArray n } ∧ xs.length ≤ sizeLine := by
  obtain ⟨z, its, n, r, e⟩ := I.hok p _ h
  exact ⟨its, n, r, e, z⟩

theorem Inv.lstUpd {pins : List (Addr × Obj)} {σ : St} {H : Hp} {s : Shared} {p : Addr} {xs ys : List V} {its its' : List Value} {n n' : Nat} {f : Obj → Obj} (I : Inv X pins σ H s) (h : H p = some (.lst xs))
    (ho : s.heap.get? p = some { cls := .type "list", data := .seq its.toArray n }) (hf : f { cls := .type "list", data := .seq its.toArray n } = { cls := .type "list", data := .seq its'.toArray n' }) (r : Vals ys its') (hz : ys.length ≤ sizeLine) (t : Nat) :
    Inv X pins σ (upd H p (.lst ys)) { s with heap := s.heap.update p f, toks := t } := by
  have e : (s.heap.update p f).get? p = some { cls := .type "list", data := .seq its'.toArray n' } := by
    rw [Heap.get?_update_self f ho (by rw [hf] <;> rfl), hf]
  refine I.write (x := p) (e := p) (by rw [h]; trivial) (.inl rfl) (fun b u hb q => (Heap.get?_update_other _ _ (Ne.symm hb)).trans q) ⟨_, e⟩ ?_
  exact ⟨hz, its', n', r, e⟩
def rSetL : V → V → V → Hp → (Hp → Prop) → Prop := fun o i v H Q => ∃ p xs k j, o = .ref p ∧ i = .int k ∧ H p = some (.lst xs) ∧ ixN xs.length k = some j ∧ Q (upd H p (.lst (xs.set j v)))
theorem set_list : PSet X rSetL := by
  intro pins s σ H o i v ov iv u Q I ro ri rv h
  obtain ⟨p, xs, k, j, rfl, rfl, hp, hj, q⟩ := h
  cases ro
  obtain ⟨t, rfl⟩ := ri
  obtain ⟨its, n, r, ho, hz⟩ := I.lst hp
  obtain ⟨h1, h2, h3, h4⟩ := ixN_seq hj
  have hl := r.length
  have hn := line63
  have I' : Inv X pins σ (upd H p (.lst (xs.set j v))) { s with heap := s.heap.update p (Obj.mapSeq (·.setIfInBounds j u)) } :=
    I.lstUpd hp ho (mapSeq_set its n j u) (r.set rv j) (by rw [List.length_set]; exact hz) s.toks
  by_cases h0 : 0 ≤ k
  · have hk : k.toNat = j := by
      rw [seqIndex_of h0 h4] at h1
      exact Option.some.inj h1
    exact PySem.W.ki_setAt ho h0 (by omega) (by rw [List.size_toArray, ← hl]; exact h4) (by rw [hk]; exact ⟨_, I', q⟩)
  · have hk : (k + (its.toArray.size : Int)).toNat = j := by
      rw [seqIndex_neg (by omega) h3] at h1
      rw [List.size_toArray, ← hl]
      exact Option.some.inj h1
    exact PySem.W.ki_setBack ho (by omega) (by rw [List.size_toArray, ← hl]; exact h3) (by omega) (by rw [hk]; exact ⟨_, I', q⟩)


theorem slice_bounds (lo hi : Option Int) (n : Nat) : (sliceBounds lo hi none n).1 = ((HT.sIx n 0 lo : Nat) : Int) ∧ (sliceBounds lo hi none n).2.1 = ((HT.sIx n n hi : Nat) : Int) ∧ (sliceBounds lo hi none n).2.2 = 1 := by
  refine ⟨?_, ?_, rfl⟩
  · cases lo with
    | none => simp [sliceBounds, HT.sIx]
    | some i =>
      simp only [sliceBounds, HT.sIx, Option.getD_none, show (1 : Int) > 0 by decide, if_true]
      by_cases h : i < 0
      · simp only [h, if_true] <;> omega
      · simp only [h, if_false] <;> omega
  · cases hi with
    | none => simp [sliceBounds, HT.sIx]
    | some i =>
      simp only [sliceBounds, HT.sIx, Option.getD_none, show (1 : Int) > 0 by decide, if_true]
      by_cases h : i < 0
      · simp only [h, if_true] <;> omega
      · simp only [h, if_false] <;> omega
theorem slicePick_cut (its : List Value) (lo hi : Option Int) : slicePick its.toArray lo hi none = ((its.drop (HT.sIx its.length 0 lo)).take (HT.sIx its.length its.length hi - HT.sIx its.length 0 lo)).toArray := by
  obtain ⟨h1, h2, h3⟩ := slice_bounds lo hi its.toArray.size
  unfold slicePick
  rw [h1, h2, h3]
  simp only [sliceRange_one, pick_run, List.size_toArray] <;> rfl

def rSlL (K : PySem.W.Frag) : V → Option Int → Option Int → Hp → VK → Prop := fun x lo hi H Q => ∃ a xs, x = .ref a ∧ SqL K H a xs ∧ ∀ p, H p = none → Q (.ref p) (upd H p (.lst (cutV xs lo hi)))
theorem sl_list : SlR X (rSlL X.K) := by
  intro pins s σ H x v vl vu lo hi sl Q I rx hs pl pu h
  obtain ⟨a, xs, rfl, hx, q⟩ := h
  cases rx
  obtain ⟨its, r, ht, hz⟩ := I.list hx
  have hlen := r.length
  refine ⟨"list", _, slot_list_getitem.lookup, ht.isList.typeIs, ?_⟩
  refine wpAny_getItem_list_slice ht.isList hs pl pu .none (by simp) ?_ (by rw [List.size_toArray] <;> omega)
  rw [slicePick_cut, ← hlen]
  refine ⟨.ref s.heap.objs.size, _, I.laid (t' := s.toks) (o := .lst (cutV xs lo hi)) (fun b ob q => Heap.get?_push_of_some _ q) (Nat.le_refl _) ?_, rfl, q _ (I.hok.fresh (Nat.le_refl _))⟩
  exact ⟨Nat.le_trans (cutV_length xs lo hi) hz, _, 0, (r.drop (HT.sIx xs.length 0 lo)).take (HT.sIx xs.length xs.length hi - HT.sIx xs.length 0 lo), Heap.get?_push_size _ rfl⟩


def flatV : V → Bool
  | .non => true
  | .bl _ => true
  | .int _ => true
  | .str _ => true
  | _ => false

def eqV : V → V → Bool
  | .non, .non => true
  | .bl a, .bl b => a == b
  | .bl a, .int b => (if a then 1 else 0) == b
  | .int a, .bl b => a == (if b then 1 else 0)
  | .int a, .int b => a == b
  | .str a, .str b => a == b
  | _, _ => false
theorem eqAt_V {A : Around} {s : Shared} {y x : V} {u v : Value} (ry : RelV y u) (rx : RelV x v) (fy : flatV y = true) (fx : flatV x = true) : SeqAt.EqAt A s u v (eqV y x) := by
  cases y with
  | non =>
    cases ry
    cases x with
    | non => cases rx; exact SeqAt.EqAt.same _
    | bl b => cases rx; exact SeqAt.EqAt.none_bool b
    | int b => obtain ⟨t, rfl⟩ := rx; exact SeqAt.EqAt.none_int b t
    | str b => obtain ⟨t, rfl⟩ := rx; exact SeqAt.EqAt.none_str b t
    | _ => exact absurd (show false = true from fx) Bool.false_ne_true
  | bl a =>
    cases ry
    cases x with
    | non => cases rx; exact SeqAt.EqAt.bool_none a
    | bl b => cases rx; exact SeqAt.EqAt.bool_bool a b
    | int b => obtain ⟨t, rfl⟩ := rx; exact SeqAt.EqAt.bool_int a b t
    | str b => obtain ⟨t, rfl⟩ := rx; exact SeqAt.EqAt.bool_str a b t
    | _ => exact absurd (show false = true from fx) Bool.false_ne_true
  | int a =>
    obtain ⟨t', rfl⟩ := ry
    cases x with
    | non => cases rx; exact SeqAt.EqAt.int_none a t'
    | bl b => cases rx; exact SeqAt.EqAt.int_bool a t' b
    | int b => obtain ⟨t, rfl⟩ := rx; exact SeqAt.EqAt.int_int a t' b t
    | str b => obtain ⟨t, rfl⟩ := rx; exact SeqAt.EqAt.int_str a t' b t
    | _ => exact absurd (show false = true from fx) Bool.false_ne_true
  | str a =>
    obtain ⟨t', rfl⟩ := ry
    cases x with
    | non => cases rx; exact SeqAt.EqAt.str_none a t'
    | bl b => cases rx; exact SeqAt.EqAt.str_bool a t' b
    | int b => obtain ⟨t, rfl⟩ := rx; exact SeqAt.EqAt.str_int a t' b t
    | str b => obtain ⟨t, rfl⟩ := rx; exact SeqAt.EqAt.str_str a t' b t
    | _ => exact absurd (show false = true from fx) Bool.false_ne_true
  | _ => exact absurd (show false = true from fy) Bool.false_ne_true

def eqU (x : V) (u : Value) : Bool := match u with
  | .none => eqV .non x
  | .bool b => eqV (.bl b) x
  | .int i _ => eqV (.int i) x
  | .str z _ => eqV (.str z) x
  | _ => false
theorem eqU_of {x y : V} {u : Value} (r : RelV y u) (f : flatV y = true) : eqU x u = eqV y x := by
  cases y with
  | non => cases r; rfl
  | bl b => cases r; rfl
  | int i => obtain ⟨t, rfl⟩ := r; rfl
  | str z => obtain ⟨t, rfl⟩ := r; rfl
  | _ => exact absurd (show false = true from f) Bool.false_ne_true
theorem any_eqU {x : V} : ∀ {xs : List V} {us : List Value}, Vals xs us → xs.all flatV = true → us.any (eqU x) = xs.any fun y => eqV y x
  | _, _, .nil, _ => rfl
  | y :: xs, u :: us, .cons r t, f => by
    rw [List.all_cons, Bool.and_eq_true] at f
    rw [List.any_cons, List.any_cons, eqU_of r f.1, any_eqU t f.2]
theorem mem_eqAt {A : Around} {s : Shared} {x : V} {v : Value} (rx : RelV x v) (fx : flatV x = true) : ∀ {xs : List V} {us : List Value}, Vals xs us → xs.all flatV = true → ∀ u ∈ us, SeqAt.EqAt A s u v (eqU x u)
  | _, _, .nil, _ => fun u hu => by cases hu
  | y :: xs, u :: us, .cons r t, f => fun u' hu => by
    rw [List.all_cons, Bool.and_eq_true] at f
    rcases List.mem_cons.mp hu with rfl | hu
    · rw [eqU_of r f.1]; exact eqAt_V r rx f.1 fx
    · exact mem_eqAt rx fx t f.2 u' hu
def inV (x : V) (xs : List V) : Bool := xs.any fun y => eqV y x

def rIn (K : PySem.W.Frag) (neg : Bool) : R2 := fun x y H Q => ∃ p xs, y = .ref p ∧ (SqL K H p xs ∨ SqT K H p xs) ∧ flatV x = true ∧ xs.all flatV = true ∧ Q (.bl (if neg then !inV x xs else inV x xs)) H
theorem op_in_seq : OpR X (compareOp .In) (rIn X.K false) := by
  intro pins s σ H x y v u Q I rx ry h
  obtain ⟨p, xs, rfl, hq, fx, fs, q⟩ := h
  cases ry
  rcases hq with hq | hq
  · obtain ⟨its, r, pl, hz⟩ := I.list hq
    refine SeqAt.in_listAt (eqU x) pl.isList (fun w hw => mem_eqAt rx fx r fs w (by simpa using hw)) ⟨.bl _, H, I, rfl, ?_⟩
    rw [show its.toArray.any (eqU x) = its.any (eqU x) by simp, any_eqU r fs]
    exact q
  · obtain ⟨its, r, pl, hz⟩ := I.tuple hq
    refine SeqAt.in_tupleAt (eqU x) pl (fun w hw => mem_eqAt rx fx r fs w (by simpa using hw)) ⟨.bl _, H, I, rfl, ?_⟩
    rw [show its.toArray.any (eqU x) = its.any (eqU x) by simp, any_eqU r fs]
    exact q
theorem call_len_seq : CallR X (.builtin "len") (fun xs H Q => ∃ p ys, xs = [.ref p] ∧ (SqL X.K H p ys ∨ SqT X.K H p ys) ∧ Q (.int ys.length) H) := by
  intro pins s σ H xs us Q I r h
  obtain ⟨p, ys, rfl, hq, q⟩ := h
  obtain ⟨u, rfl, rx⟩ := vals1 r
  cases rx
  have hn := line63
  rcases hq with hq | hq
  · obtain ⟨its, r', pl, hz⟩ := I.list hq
    have hlen := r'.length
    exact Calls.call_len_list pl.isList (by simp only [List.size_toArray] <;> omega) ⟨.int ys.length, H, I.tok _, ⟨s.toks + 1, by rw [List.size_toArray, hlen]⟩, q⟩
  · obtain ⟨its, r', pl, hz⟩ := I.tuple hq
    have hlen := r'.length
    exact len_tuple pl (by simp only [List.size_toArray] <;> omega) ⟨.int ys.length, H, I.tok _, ⟨s.toks + 1, by rw [List.size_toArray, hlen]⟩, q⟩
theorem call_list_of : CallR X (.type "list") (fun xs H Q => ∃ p ys, xs = [.ref p] ∧ (SqL X.K H p ys ∨ SqT X.K H p ys) ∧ ∀ l, H l = none → Q (.ref l) (upd H l (.lst ys))) := by
  intro pins s σ H xs us Q I r h
  obtain ⟨p, ys, rfl, hq, q⟩ := h
  obtain ⟨u, rfl, rx⟩ := vals1 r
  cases rx
  have fin : ∀ (its : List Value), Vals ys its → ys.length ≤ sizeLine → ∀ (h' : Heap) (c' : Nat), (∀ b o', s.heap.get? b = some o' → h'.get? b = some o') →
      h'.get? s.heap.objs.size = some { cls := .type "list", dict := none, data := .seq its.toArray c', slots := #[] } → EP X pins σ Q (.ref s.heap.objs.size) { s with heap := h' } := fun its r' hz h' c' kp e =>
    ⟨.ref s.heap.objs.size, _, I.laid (t' := s.toks) kp (Nat.le_refl _) (show ObjOk X.prog X.w _ h' _ (.lst ys) from ⟨hz, its, c', r', e⟩), rfl, q _ (I.hok.fresh (Nat.le_refl _))⟩
  rcases hq with hq | hq
  · obtain ⟨its, r', pl, hz⟩ := I.list hq
    have hlen := r'.length
    obtain ⟨o, ho, hc, n, hd⟩ := pl.isList
    exact call_list_seq p (.inl rfl) ho hc hd (fun h' c' kp e => fin its r' hz h' c' kp e) (by simp only [List.size_toArray] <;> omega)
  · obtain ⟨its, r', pl, hz⟩ := I.tuple hq
    have hlen := r'.length
    obtain ⟨o, ho, hc, n, hd⟩ := pl
    exact call_list_seq p (.inr rfl) ho hc hd (fun h' c' kp e => fin its r' hz h' c' kp e) (by simp only [List.size_toArray] <;> omega)
theorem call_tuple_of : CallR X (.type "tuple") (fun xs H Q => ∃ p ys, xs = [.ref p] ∧ ((SqL X.K H p ys ∧ ∀ l, H l = none → Q (.ref l) (upd H l (.tup ys))) ∨ (SqT X.K H p ys ∧ Q (.ref p) H))) := by
  intro pins s σ H xs us Q I r h
  obtain ⟨p, ys, rfl, h⟩ := h
  obtain ⟨u, rfl, rx⟩ := vals1 r
  cases rx
  rcases h with ⟨hq, q⟩ | ⟨hq, q⟩
  · obtain ⟨its, r', pl, hz⟩ := I.list hq
    have hlen := r'.length
    refine call_tuple_list pl.isList (fun h' kp => ?_) (by simp only [List.size_toArray] <;> omega)
    have I1 : Inv X pins σ H { s with heap := h' } := I.kept (t' := s.toks) kp
    have I2 : Inv X pins σ (upd H h'.objs.size (.tup ys)) { s with heap := h'.push { cls := .type "tuple", data := .seq its.toArray } } :=
      I1.laid (t' := s.toks) (fun b o e => Heap.get?_push_of_some _ e) (Nat.le_refl _) (show ObjOk X.prog X.w _ _ _ (.tup ys) from ⟨hz, its, r', IsTup.new _ _⟩)
    exact ⟨.ref h'.objs.size, _, I2, rfl, q _ (I1.hok.fresh (Nat.le_refl _))⟩
  · obtain ⟨its, r', pl, hz⟩ := I.tuple hq
    exact call_tuple_same pl ⟨.ref p, H, I, rfl, q⟩



def tyV (K : PySem.W.Frag) (T : String) (x : V) (H : Hp) : Prop := match x with
  | .str _ => T = "str"
  | .int _ => T = "int"
  | .ref p => (T = "list" ∧ ∃ xs, SqL K H p xs) ∨ (T = "tuple" ∧ ∃ o, K.lookup p = some o ∧ o.cls = .type "tuple" ∧ o.dict = none) ∨
      (T = "dict" ∧ ((∃ kvs, H p = some (.dK kvs)) ∨ ∃ kvs, H p = some (.dT kvs))) ∨ (T = "set" ∧ ∃ S n, H p = some (.set S n))
  | _ => False
theorem tyV_is {pins : List (Addr × Obj)} {σ : St} {H : Hp} {s : Shared} {T : String} {x : V} {v : Value} (I : Inv X pins σ H s) (r : RelV x v) (ty : tyV X.K T x H) :
    s.TypeIs v T ∧ ∀ a, v = .ref a → ∃ ob, s.heap.get? a = some ob ∧ ob.dict = none := by
  cases x with
  | str z =>
    obtain ⟨t, rfl⟩ := r
    cases (show T = "str" from ty)
    exact ⟨typeIs_str s z t, fun _ e => nomatch e⟩
  | int i =>
    obtain ⟨t, rfl⟩ := r
    cases (show T = "int" from ty)
    exact ⟨typeIs_int s i t, fun _ e => nomatch e⟩
  | ref p =>
    cases r
    rcases ty with ⟨rfl, xs, hq⟩ | ⟨rfl, o, hk, hc, hd⟩ | ⟨rfl, hk⟩ | ⟨rfl, S, n, hk⟩
    · obtain ⟨its, _, pl, _⟩ := I.list hq
      refine ⟨pl.isList.typeIs, fun a e => ?_⟩
      cases e
      obtain ⟨o, n, e, c, hd, _⟩ := pl
      exact ⟨o, e, hd⟩
    · refine ⟨⟨o, I.kIn p o hk, hc⟩, fun a e => ?_⟩
      cases e
      exact ⟨o, I.kIn _ o hk, hd⟩
    · have z : ∃ o, s.heap.get? p = some o ∧ o.ExactDict := by
        rcases hk with ⟨kvs, hk⟩ | ⟨kvs, hk⟩
        · obtain ⟨_, _, _, _, o, _, _, e, ex, _⟩ := I.hok p _ hk
          exact ⟨o, e, ex⟩
        · obtain ⟨_, _, _, _, o, _, _, e, ex, _⟩ := I.hok p _ hk
          exact ⟨o, e, ex⟩
      obtain ⟨o, e, ex⟩ := z
      refine ⟨⟨o, e, ex.1⟩, fun a e2 => ?_⟩
      cases e2
      exact ⟨o, e, ex.2.1⟩
    · obtain ⟨o, _, _, _, e, ex, _⟩ := I.hok p _ hk
      refine ⟨⟨o, e, ex.1⟩, fun a e2 => ?_⟩
      cases e2
      exact ⟨o, e, ex.2.1⟩
  | _ => exact False.elim ty
def tBM0 (K : PySem.W.Frag) (T : String) (r : V → List V → Hp → VK → Prop) (to : TE) : TE := fun σ H Q => to σ H fun x H1 => tyV K T x H1 ∧ r x [] H1 Q
def tBM (K : PySem.W.Frag) (T : String) (r : V → List V → Hp → VK → Prop) (to : TE) (t : TA) : TE := fun σ H Q => to σ H fun x H1 => tyV K T x H1 ∧ t σ H1 fun xs H2 => r x xs H2 Q
variable {o e : Expr} {es : List Expr} {to : TE} {t : TA} {name : Str} {apos cpos : Pos} {T id : String} {r : V → List V → Hp → VK → Prop}
theorem pe_bm0 (pa : PlainAttrs T) (slot : Slot T name id) (hty : typeOf (.builtin id) = pure (.type "method_descriptor")) (hm : MtR X id r) (ho : PE X o to)
    (hbase : attributeBase o name X.env (eval o X.env) = eval o X.env := by rfl) (hline : (apos.endLine == cpos.line) = true := by rfl) : PE X (.Call (.Attribute o name apos) [] [] cpos) (tBM0 X.K T r to) := by
  intro pins s σ H Q I h
  refine wpAny_Call_method0_late hbase hline (thn (ho pins s σ H _ I h) fun v s1 ⟨x, H1, I1, r1, ty, q1⟩ => ?_)
  obtain ⟨h1, h2⟩ := tyV_is I1 r1 ty
  exact ⟨T, id, pa, slot, hty, h1, h2, Calls.callWith_builtin rfl (PySem.evalArgs_none (hm pins s1 σ H1 x [] v [] Q I1 r1 .nil q1))⟩
theorem pe_bm (pa : PlainAttrs T) (slot : Slot T name id) (hty : typeOf (.builtin id) = pure (.type "method_descriptor")) (hm : MtR X id r) (ho : PE X o to) (ha : PA X (e :: es) t)
    (hbase : attributeBase o name X.env (eval o X.env) = eval o X.env := by rfl)
    (hfew : ((backTo cpos (starEach (e :: es) X.env)).all (fun x => !x.1) && (backToKw cpos (keywordEach [] X.env)).all (fun x => x.1.isSome)
      && decide ((e :: es).length + ([] : List Keyword).length + (if ([] : List Keyword).isEmpty then 0 else 1) < 30)) = true := by rfl)
    (hline : (apos.endLine == cpos.line) = true := by rfl) (hs : starEach (e :: es) X.env = (false, eval e X.env) :: starEach es X.env := by rfl) (hplain : (backTo cpos (starEach es X.env)).any (·.1) = false := by rfl) :
    PE X (.Call (.Attribute o name apos) (e :: es) [] cpos) (tBM X.K T r to t) := by
  intro pins s σ H Q I h
  refine wpAny_Call_method_late hbase hfew hline rfl (thn (ho pins s σ H _ I h) fun v s1 ⟨x, H1, I1, r1, ty, q1⟩ => ?_)
  obtain ⟨h1, h2⟩ := tyV_is I1 r1 ty
  refine ⟨T, id, pa, slot, hty, h1, h2, ?_⟩
  have hA := ha cpos pins s1 σ H1 _ I1 q1
  rw [hs] at hA ⊢
  refine Calls.callWith_builtin (by show (false || (backTo cpos (starEach es X.env)).any (·.1)) = false; rw [hplain] <;> rfl) (Calls.evalArgs_plain ?_)
  exact thn hA fun us s2 ⟨vs, H2, I2, r2, q2⟩ => hm pins s2 σ H2 x vs v us Q I2 r1 r2 q2

end
end L2

namespace L2
open PySem PySem.Spec PyProof.Rows

def MtM (X : Cx) (id : String) (r : V → List V → Hp → VK → Prop) : Prop :=
  ∀ (pins : List (Addr × Obj)) (s : Shared) (σ : St) (H : Hp) (x : V) (xs : List V) (v : Value) (us : List Value) (Q : VK), Inv X pins σ H s → RelV x v → Vals xs us → r x xs H Q →
    wpAny (model X.prog X.w) X.A (call (.builtin id) (v :: us)) (EP X pins σ Q) X.xe s


theorem Vals.one : ∀ {x : V} {us : List Value}, Vals [x] us → ∃ u, us = [u] ∧ RelV x u
  | _, _, .cons r .nil => ⟨_, rfl, r⟩
theorem Vals.zero : ∀ {us : List Value}, Vals [] us → us = []
  | _, .nil => rfl
theorem Vals.dropLast {xs : List V} {us : List Value} (h : Vals xs us) : Vals xs.dropLast us.dropLast := by
  induction h with
  | nil => exact .nil
  | cons r t ih =>
    cases t with
    | nil => exact .nil
    | cons q t' => exact .cons r ih
theorem Vals.eraseIdx : ∀ {xs : List V} {us : List Value} (i : Nat), Vals xs us → Vals (xs.eraseIdx i) (us.eraseIdx i)
  | _, _, _, .nil => .nil
  | _, _, 0, .cons _ t => t
  | _, _, i + 1, .cons r t => .cons r (Vals.eraseIdx i t)
theorem Vals.reverse {xs : List V} {us : List Value} (h : Vals xs us) : Vals xs.reverse us.reverse := by
  induction h with
  | nil => exact .nil
  | cons r t ih => rw [List.reverse_cons, List.reverse_cons]; exact Vals.append ih (.cons r .nil)
theorem Vals.rep {xs : List V} {us : List Value} (h : Vals xs us) : ∀ k : Nat, Vals (List.replicate k xs).flatten (List.replicate k us).flatten
  | 0 => .nil
  | k + 1 => by
    rw [List.replicate_succ, List.replicate_succ, List.flatten_cons, List.flatten_cons]
    exact Vals.append h (Vals.rep h k)
theorem erase_last {α : Type} (l : List α) : l.eraseIdx (l.length - 1) = l.dropLast := by
  induction l with
  | nil => rfl
  | cons a r ih =>
    cases r with
    | nil => rfl
    | cons b r =>
      have e : (a :: b :: r).length - 1 = ((b :: r).length - 1) + 1 := by
        have h1 : (a :: b :: r).length = r.length + 2 := rfl
        have h2 : (b :: r).length = r.length + 1 := rfl
        omega
      rw [e, List.eraseIdx_cons_succ, ih]
      all_goals rfl
theorem foldl_rep (its : List Value) : ∀ (k : Nat) (acc : List Value),
    List.foldl (fun x1 x2 => x1 ++ x2) acc.toArray (List.replicate k its.toArray) = (acc ++ (List.replicate k its).flatten).toArray
  | 0, acc => by simp
  | k + 1, acc => by
    have e : acc.toArray ++ its.toArray = (acc ++ its).toArray := by simp
    have e2 : (acc ++ its) ++ (List.replicate k its).flatten = acc ++ (List.replicate (k + 1) its).flatten := by
      rw [List.replicate_succ, List.flatten_cons, List.append_assoc]
    rw [← e2, ← foldl_rep its k (acc ++ its), ← e, List.replicate_succ, List.foldl_cons]

section
variable {X : Cx} {pins : List (Addr × Obj)} {σ : St} {H : Hp} {s : Shared} {l b : Addr} {xs ys zs : List V}


theorem Inv.lset {its its' : List Value} {n : Nat} {f : Array Value → Array Value} {t' : Nat} (I : Inv X pins σ H s) (hH : H l = some (.lst xs))
    (e : s.heap.get? l = some { cls := .type "list", data := .seq its.toArray n }) (hf : f its.toArray = its'.toArray) (hv : Vals ys its') (hz : ys.length ≤ sizeLine) :
    Inv X pins σ (upd H l (.lst ys)) { s with heap := s.heap.update l (Obj.mapSeq f), toks := t' } := by
  have q := PySem.IsL.update e f
  rw [hf] at q
  refine I.write (x := l) (e := l) (by rw [hH]; exact trivial) (.inl rfl) (fun b' u hb hu => (Heap.get?_update_other s.heap (Obj.mapSeq f) (Ne.symm hb)).trans hu) ⟨_, q⟩ ?_
  exact ⟨hz, its', _, hv, q⟩
theorem Inv.lnew {its : List Value} {t' : Nat} (I : Inv X pins σ H s) (hv : Vals ys its) (hz : ys.length ≤ sizeLine) :
    Inv X pins σ (upd H s.heap.objs.size (.lst ys)) { s with heap := s.heap.push { cls := .type "list", data := .seq its.toArray }, toks := t' } :=
  I.laid (fun _ _ q => Heap.get?_push_of_some _ q) (Nat.le_refl _) ⟨hz, its, 0, hv, Heap.get?_push_size _ rfl⟩
theorem Inv.fresh (I : Inv X pins σ H s) : H s.heap.objs.size = none := I.hok.fresh (Nat.le_refl _)
theorem Inv.lstM (I : Inv X pins σ H s) (hH : H l = some (.lst xs)) : xs.length ≤ sizeLine ∧ ∃ (its : List Value) (n : Nat), Vals xs its ∧ xs.length = its.length ∧ s.heap.get? l = some { cls := .type "list", data := .seq its.toArray n } := by
  obtain ⟨z, its, n, r, e⟩ := I.hok l _ hH
  exact ⟨z, its, n, r, r.length, e⟩

end

section
variable {X : Cx}


def rAppend : V → List V → Hp → VK → Prop := fun x vs H Q => ∃ l xs y, x = .ref l ∧ vs = [y] ∧ H l = some (.lst xs) ∧ xs.length < sizeLine ∧ Q .non (upd H l (.lst (xs ++ [y])))
theorem mt_append : MtM X "list.append" rAppend := by
  intro pins s σ H x vs v us Q I rx rv h
  obtain ⟨l, xs, y, rfl, rfl, hH, hz, q⟩ := h
  cases rx
  obtain ⟨u, rfl, ru⟩ := rv.one
  obtain ⟨z, its, n, r, hl, e⟩ := I.lstM hH
  refine call_meets F.slot_list_append ⟨_, e, rfl⟩ F.entry_list_append (F.args_list_append_2 _ _) (PySem.list_append l its.toArray n u (by rw [List.size_toArray]; omega)) ⟨e, ?_⟩
  refine ⟨.non, _, I.lset (its' := its ++ [u]) hH e (by simp) (r.append (.cons ru .nil)) ?_, rfl, q⟩
  rw [List.length_append, List.length_singleton]
  omega

def rPop : V → List V → Hp → VK → Prop := fun x vs H Q => ∃ l xs y, x = .ref l ∧ vs = [] ∧ H l = some (.lst xs) ∧ xs[xs.length - 1]? = some y ∧ Q y (upd H l (.lst xs.dropLast))
theorem mt_pop : MtM X "list.pop" rPop := by
  intro pins s σ H x vs v us Q I rx rv h
  obtain ⟨l, xs, y, rfl, rfl, hH, hy, q⟩ := h
  cases rx
  have hus := rv.zero
  subst hus
  obtain ⟨z, its, n, r, hl, e⟩ := I.lstM hH
  obtain ⟨u, hu, ru⟩ := r.get hy
  have hy' : its.toArray[its.toArray.size - 1]? = some u := by
    show its.toArray[its.length - 1]? = some u
    rw [← Array.getElem?_toList, ← hl]
    exact hu
  refine call_meets F.slot_list_pop ⟨_, e, rfl⟩ F.entry_list_pop (F.args_list_pop_1 _) (MeetsSeq.list_pop_last l its.toArray n u hy' (by rw [List.size_toArray]; omega)) ⟨e, ?_⟩
  refine ⟨y, _, I.lset (its' := its.dropLast) hH e ?_ r.dropLast ?_, ru, q⟩
  · show its.toArray.eraseIdxIfInBounds (its.toArray.size - 1) = its.dropLast.toArray
    rw [List.size_toArray, List.eraseIdxIfInBounds_toArray, erase_last]
  · rw [List.length_dropLast]
    omega

def rCat : R2 := fun x y H Q => ∃ l b xs zs, x = .ref l ∧ y = .ref b ∧ H l = some (.lst xs) ∧ H b = some (.lst zs) ∧ xs.length + zs.length ≤ sizeLine ∧ ∀ p, H p = none → Q (.ref p) (upd H p (.lst (xs ++ zs)))
theorem op_cat : OpR X (binaryOp .Add) rCat := by
  intro pins s σ H x y v u Q I rx ry h
  obtain ⟨l, b, xs, zs, rfl, rfl, hH, hB, hz, q⟩ := h
  cases rx
  cases ry
  obtain ⟨z, its, n, r, hl, e⟩ := I.lstM hH
  obtain ⟨z2, its2, n2, r2, hl2, e2⟩ := I.lstM hB
  refine PySem.P.add_list e e2 ?_ (by rw [List.size_toArray, List.size_toArray]; omega)
  have ea : its.toArray ++ its2.toArray = (its ++ its2).toArray := by simp
  rw [ea]
  exact ⟨.ref _, _, I.lnew (t' := s.toks) (r.append r2) (by rw [List.length_append]; omega), rfl, q _ I.fresh⟩

theorem len_rep {α : Type} (xs : List α) (k : Nat) : (List.replicate k xs).flatten.length = k * xs.length := by
  induction k with
  | zero => simp
  | succ k ih => rw [List.replicate_succ, List.flatten_cons, List.length_append, ih, Nat.succ_mul, Nat.add_comm]
end


section
variable {prog : Program} {w : World} {A : Around} {E : Value → Shared → Prop} {s : Shared}
end

section
variable {X : Cx}

end
end L2

namespace Att
open PySem PySem.W PySem.Calls PyProof.Rows


theorem ints_of_wellAll {P : Params} {h : Heap} : ∀ (ns : List Int) (vs : List Value), WellAll P h vs (ns.map WData.int) → IntsAre vs ns := by
  intro ns
  induction ns with
  | nil =>
    intro vs w
    rw [List.map_nil] at w
    cases w
    exact .nil
  | cons n ns ih =>
    intro vs w
    rw [List.map_cons] at w
    cases w with
    | cons a b =>
      cases a
      exact .cons _ _ (ih _ b)

theorem script_of {l : OpenLaw} {n : Nat} (hn : l.most = some n) {P : Params} {h : Heap} {args : List WData} {vals : List Value}
    (hpre : l.row.toRowW.claim.pre args = true) (hwl : WellAll P h vals args) :
    ∃ a vs ns, vals = [Value.ref a] ∧ args = [WData.list (ns.map WData.int)] ∧ h.get? a = some { cls := .type "list", data := .seq vs.toArray } ∧ IntsAre vs ns ∧ ns.length ≤ n := by
  have hsh : WShape.hasAll [] args [.list .int] = true := (pre_splitW hpre).1
  have hc : l.pre.holds [] { args := args } = true := (pre_splitW hpre).2
  obtain ⟨d, r, rfl, h1, h2⟩ := hasAllW_cons hsh
  obtain rfl := hasAllW_nil h2
  obtain ⟨xs, rfl, h3⟩ := hasW_list h1
  obtain ⟨ns, rfl⟩ := items_int h3
  have hlen : ns.length ≤ n := by
    unfold OpenLaw.pre at hc
    have h4 : (WTm.not (.lt (.lit (.int (n : Int))) (.len (.arg 0)))).holds [] { args := [.list (ns.map .int)] } = true := by
      have h4 := (holds_andW hc).1
      rw [hn] at h4
      exact h4
    have h5 := condW_of h4 (w_not (w_lt w_lit (w_len_list (w_arg rfl))))
    rw [List.length_map] at h5
    refine Nat.le_of_not_lt fun q => ?_
    have q' : (n : Int) < ((ns.length : Nat) : Int) := by omega
    first
      | (rw [decide_eq_true q'] at h5; exact absurd h5 (by decide))
      | (simp at h5; omega)
  cases hwl with
  | cons w1 w2 =>
    cases w2
    cases w1 with
    | list ho hall => exact ⟨_, _, ns, rfl, rfl, ho, ints_of_wellAll ns _ hall, hlen⟩

theorem post_true (l : OpenLaw) (args : List WData) : l.row.toRowW.claim.post args (.bool true) args = true :=
  postW_of (r := l.row.toRowW) (X := (true == true))
    (show WShape.has [] (.bool true) .bool = true by first | rfl | decide | simp [WShape.has, WShape.arms, WShape.armsAll])
    (show (WTm.eq .res (.lit (.bool true))).value [] { args := args, res := some (.bool true), after := args } = some (.bool (true == true)) from w_eq_bool (w_res rfl) w_lit) rfl


theorem attach_call {l : OpenLaw} {n : Nat} {q : Program} {loose : List Str} {XP : (Str → Option Value) → Heap → Prop} {YP : World → Heap → Prop} {d : DefRec}
    (hn : l.most = some n) (hdf : d.params.defaults = [])
    (call : ∀ (w : World) (s₀ s₁ : Shared) (mg mb : Str → Option Value) (fa : Addr) (o : Obj) (pm cd doc : Value) (a : Addr) (vs : List Value) (ns : List Int),
      Ground q loose [] XP w s₀ mg mb s₁.heap → YP w s₁.heap →
      s₁.heap.get? fa = some o → o.data = .func (docDef d.name d.params d.body d.scope pm cd doc) → s₁.heap.CodeRec cd d.name → mg d.name = some (.ref fa) →
      s₁.heap.get? a = some { cls := .type "list", data := .seq vs.toArray } → IntsAre vs ns → ns.length ≤ n → s₁.gens = #[] →
      codeAny (model l.prog w) callerA (.call (.ref fa) ⟨[.ref a], []⟩) (fun r s' => r = .ok (.ret (.bool true)) ∧ OldK s₁.heap s'.heap ∧ s'.os = s₁.os ∧ AllBare s'.gens) s₁) :
    WalkO q loose XP YP l.row.toRowW d [] (fun f vs => PySem.call f vs) := by
  intro w s₀ s₁ mg mb G Y fa o pm cd doc dV kV ho hd hcd hD hmg hg args vals as hpre hlay hrd hwl hlo
  obtain rfl : dV = .none := Dflts.none hD hdf
  obtain rfl : kV = .none := Dflts.noKw hD
  obtain ⟨a, vs, ns, rfl, rfl, hobj, hints, hlen⟩ := script_of hn hpre hwl
  refine enter_call (codeAny_mono (call w s₀ s₁ mg mb fa o pm cd doc a vs ns G Y ho (fd_plain hd) hcd hmg hobj hints hlen hg) fun r s' hq => ?_)
  obtain ⟨rfl, h2, h3, h4⟩ := hq
  exact ⟨.inl ⟨.bool true, .bool true, [], rfl, fun _ => rfl, .bool true, post_true l _, fun _ => ⟨List.Pairwise.nil, fun _ hm => (nomatch hm)⟩⟩, h2, h3, h4⟩


section
variable {prog : Program} {w : World} {A : Around} {E : Value → Shared → Prop} {s : Shared} {K : Frag}


end
end Att

namespace L2
open PySem PySem.Spec PyProof.Rows

theorem vals_ints : ∀ {vs : List Value} {ns : List Int}, IntsAre vs ns → Vals (ns.map V.int) vs
  | _, _, .nil => .nil
  | _, _, .cons n t h => .cons ⟨t, rfl⟩ (vals_ints h)


def Only (H : Hp) : Prop := ∀ b, H b = none ∨ ∃ o xs, H b = some (.frz o (.lst xs))


theorem law_call {P : Program} {w : World} {K : PySem.W.Frag} {mg mb : Str → Option Value} {CX : CXT} {k : Nat} {fa a : Addr} {fd : FuncData} {x : Str} {sp : Sp} {s₁ : Shared} {vs : List Value} {ns : List Int}
    (KX : K.In s₁.heap) (hns : s₁.heap.Ns mainGlobals mg) (hb : s₁.heap.Ns builtinsNs mb) (hbb : ∀ x : Str, x ≠ "__name__" → mb x = bootBuiltins x) (hlim : s₁.heap.NoLimit) (hg : s₁.gens = #[])
    (ha : s₁.heap.get? a = some { cls := .type "list", data := .seq vs.toArray }) (hi : IntsAre vs ns) (hl : ns.length ≤ sizeLine) (hr : Room k callerA)
    (F : ∀ base : Heap, K.In base → base.Ns mainGlobals mg → FnOk P w K mg base CX k fa fd [x] sp) (hbind : ∀ (s : Shared) (u : Value), BindsTo s fd ⟨[u], []⟩ [(x, u)])
    (hsp : ∀ H : Hp, Only H → SqL K H a (ns.map V.int) → sp [.ref a] H (fun v _ => v = .bl true) fun _ _ _ => False)
    (hCX : ∀ H e s', CX [] H s₁ (fun _ _ _ => False) e s' → False) :
    codeAny (model P w) callerA (.call (.ref fa) ⟨[.ref a], []⟩) (fun r s' => r = .ok (.ret (.bool true)) ∧ OldK s₁.heap s'.heap ∧ s'.os = s₁.os ∧ AllBare s'.gens) s₁ := by
  have rv := vals_ints hi
  have lenV := hi.length
  -- from an abstract heap in which nothing but the script may be tracked
  have core : ∀ H : Hp, Only H → SqL K H a (ns.map V.int) → HOk P w H s₁.heap → (∀ b, H b ≠ none → b = a) → (H a ≠ none → K.lookup a = none) →
      codeAny (model P w) callerA (.call (.ref fa) ⟨[.ref a], []⟩) (fun r s' => r = .ok (.ret (.bool true)) ∧ OldK s₁.heap s'.heap ∧ s'.os = s₁.os ∧ AllBare s'.gens) s₁ := by
    intro H hO hS hok hA hK
    have base_of : ∀ {b : Addr} {o : Obj}, s₁.heap.get? b = some o → H b = none → (hidT s₁.heap H).get? b = some o := fun e n => hidT_get e n
    have noA : ∀ {b : Addr} {o : Obj} {es : Array DictEntry} {ep : Nat}, s₁.heap.get? b = some o → o.data = .dict es ep → H b = none := fun {b o es ep} e d => by
      cases q : H b with
      | none => rfl
      | some u =>
        have e' : b = a := hA b (by rw [q]; simp)
        subst e'
        rw [ha] at e; cases e
        have d' : Data.seq vs.toArray _ = Data.dict es ep := d
        cases d'
    have nsK : ∀ {b : Addr} {m : Str → Option Value}, s₁.heap.Ns b m → (hidT s₁.heap H).Ns b m := fun {b m} ⟨o, es, ep, e, d, r⟩ => ⟨o, es, ep, base_of e (noA e d), d, r⟩
    have hKb : K.In (hidT s₁.heap H) := fun b o e => base_of (KX b o e) (by
      cases q : H b with
      | none => rfl
      | some u =>
        have e' : b = a := hA b (by rw [q]; simp)
        subst e'
        rw [hK (by rw [q]; simp)] at e; cases e)
    have hM : Mod K mg (hidT s₁.heap H) := ⟨hKb, nsK hns, ⟨mb, nsK hb, hbb⟩, let ⟨mc, h1, h2⟩ := hlim; ⟨mc, nsK h1, h2⟩⟩
    have e0 : Env0 P w K mg (hidT s₁.heap H) callerA [] s₁ H := ⟨rfl, hM, fun b o e => of_hidT e, Nat.le_of_eq (hidT_size _ _), trivial, fun b hb => absurd (show b ∈ ([] : List Addr) from hb) (by simp), hok, .of_eq hg⟩
    refine codeAny_mono ((F _ hKb (nsK hns)).run callerA [] s₁ H ⟨[.ref a], []⟩ [.ref a] [.ref a] _ _ hr e0 (hbind s₁ (.ref a)) (.cons rfl .nil) (hsp H hO hS)) fun r s' h => ?_
    cases r with
    | error e => exact (hCX H e s' h).elim
    | ok fl =>
      cases fl with
      | next => exact False.elim h
      | brk => exact False.elim h
      | cont => exact False.elim h
      | ret u =>
        obtain ⟨v, H', os, bare, un, hok', r', q⟩ := h
        have q' : v = .bl true := q
        subst q'
        obtain rfl : u = Value.bool true := r'
        refine ⟨rfl, OldK.of_keep fun b o e => ?_, os, bare⟩
        cases q : H b with
        | none => exact un.keep b o e q (by intro z; exact absurd (show b ∈ ([] : List Addr) from z) (by simp)) (by simp)
        | some u =>
          rcases hO b with z | ⟨ob, xs, z⟩
          · rw [q] at z; cases z
          · have z2 := un.frzs b ob _ z
            obtain ⟨e1, _⟩ := hok b _ z
            obtain ⟨e2, _⟩ := hok' b _ z2
            rw [e] at e1; cases e1
            exact e2
  cases hk : K.lookup a with
  | some o =>
    -- the script is one of the module's own objects
    have e := KX a o hk
    rw [ha] at e
    cases e
    refine core (fun _ => none) (fun _ => .inl rfl) (.inr ⟨_, vs.toArray, _, hk, rfl, rfl, rfl, by rw [List.size_toArray, lenV]; exact hl, by simpa using rv⟩) (fun b u z => by have z' : (none : Option HO) = some u := z; cases z') (fun b z => absurd rfl z) fun z => absurd rfl z
  | none =>
    refine core (fun b => if b = a then some (.frz { cls := .type "list", data := .seq vs.toArray } (.lst (ns.map V.int))) else none) (fun b => ?_) (.inl (.inr ⟨{ cls := .type "list", data := .seq vs.toArray }, if_pos rfl⟩)) (fun b u z => ?_) (fun b z => ?_) fun _ => hk
    · by_cases hb : b = a
      · exact .inr ⟨_, _, if_pos hb⟩
      · exact .inl (if_neg hb)
    · by_cases hb : b = a
      · have z' := (if_pos hb).symm.trans z
        cases z'
        subst hb
        exact ⟨ha, by rw [List.length_map]; exact hl, vs, _, rv, ha⟩
      · have z' := (if_neg hb).symm.trans z
        cases z'
    · by_cases hb : b = a
      · exact hb
      · exact absurd (if_neg hb) z
end L2

namespace L2
open PySem PySem.Spec PyProof.Rows

abbrev KOf {K : PySem.W.Frag} {h : Heap} (_ : K.In h) : PySem.W.Frag := K


theorem walk_of {l : PySem.W.OpenLaw} {n k : Nat} {q : Program} {loose : List Str} {XP : (Str → Option Value) → Heap → Prop} {YP : World → Heap → Prop} {d : DefRec} {K : Params → PySem.W.Frag} {CX : World → CXT} {sp : World → Sp} {x : Str}
    (hn : l.most = some n) (hn2 : n ≤ sizeLine) (hdf : d.params.defaults = []) (hr : Room k callerA)
    (hY : ∀ (w : World) (h : Heap), YP w h → (K w.params).In h)
    (F : ∀ (w : World) (mg : Str → Option Value) (fa : Addr) (h : Heap), (K w.params).In h → h.Ns mainGlobals mg → mg d.name = some (.ref fa) →
      ∃ fd : FuncData, (∀ (s : Shared) (u : Value), BindsTo s fd ⟨[u], []⟩ [(x, u)]) ∧
        ∀ base : Heap, (K w.params).In base → base.Ns mainGlobals mg → FnOk l.prog w (K w.params) mg base (CX w) k fa fd [x] (sp w))
    (hsp : ∀ (w : World) (H : Hp) (a : Addr) (ns : List Int), ns.length ≤ n → Only H → SqL (K w.params) H a (ns.map V.int) → sp w [.ref a] H (fun v _ => v = .bl true) fun _ _ _ => False)
    (hCX : ∀ (w : World) (H : Hp) (s : Shared) (e : Value) (s' : Shared), CX w [] H s (fun _ _ _ => False) e s' → False) :
    PySem.W.WalkO q loose XP YP l.row.toRowW d [] (fun f vs => PySem.call f vs) := by
  refine Att.attach_call hn hdf fun w s₀ s₁ mg mb fa o pm cd doc a vs ns G Y ho hd hcd hmg hobj hints hlen hg => ?_
  have KX := hY w _ Y
  obtain ⟨fd, hb, hF⟩ := F w mg fa _ KX G.T.g hmg
  exact law_call KX G.T.g G.T.b G.T.builtins G.T.nolimit hg hobj hints (Nat.le_trans hlen hn2) hr hF hb (fun H hO hS => hsp w H a ns hlen hO hS) fun H e s' => hCX w H s₁ e s'

theorem walk_ofK {l : PySem.W.OpenLaw} {n k : Nat} {q : Program} {loose : List Str} {XP : (Str → Option Value) → Heap → Prop} {YP : World → Heap → Prop} {d : DefRec} {K : Params → PySem.W.Frag} {CX : CXT} {sp : PySem.W.Frag → Sp} {x : Str}
    (hn : l.most = some n) (hn2 : n ≤ sizeLine) (hdf : d.params.defaults = []) (hr : Room k callerA)
    (hY : ∀ (w : World) (h : Heap), YP w h → (K w.params).In h)
    (F : ∀ (w : World) (mg : Str → Option Value) (fa : Addr) (h : Heap), (K w.params).In h → h.Ns mainGlobals mg → mg d.name = some (.ref fa) →
      ∃ fd : FuncData, (∀ (s : Shared) (u : Value), BindsTo s fd ⟨[u], []⟩ [(x, u)]) ∧
        ∀ base : Heap, (K w.params).In base → base.Ns mainGlobals mg → FnOk l.prog w (K w.params) mg base CX k fa fd [x] (sp (K w.params)))
    (hsp : ∀ (K : PySem.W.Frag) (H : Hp) (a : Addr) (ns : List Int), ns.length ≤ n → Only H → SqL K H a (ns.map V.int) → sp K [.ref a] H (fun v _ => v = .bl true) fun _ _ _ => False)
    (hCX : ∀ (H : Hp) (s : Shared) (e : Value) (s' : Shared), CX [] H s (fun _ _ _ => False) e s' → False) :
    PySem.W.WalkO q loose XP YP l.row.toRowW d [] (fun f vs => PySem.call f vs) :=
  walk_of (K := K) (CX := fun _ => CX) (sp := fun w => sp (K w.params)) hn hn2 hdf hr hY F (fun w H a ns h1 h2 h3 => hsp (K w.params) H a ns h1 h2 h3) fun _ H s e s' => hCX H s e s'
end L2




namespace L2
open PySem PySem.Spec PyProof.Rows



def inClass (s : Stmt) (j : Nat) : Stmt := match s with
  | .ClassDef _ _ _ body _ _ _ _ _ _ _ => body.getD j (.Pass ⟨0, 0, 0, 0⟩)
  | _ => .Pass ⟨0, 0, 0, 0⟩
def defArgs (s : Stmt) : Arguments := match s with
  | .FunctionDef _ a _ _ _ _ _ _ _ _ => a
  | _ => { posonlyargs := [], args := [], vararg := none, kwonlyargs := [], kw_defaults := [], kwarg := none, defaults := [] }
def defBody (s : Stmt) : List Stmt := match s with
  | .FunctionDef _ _ b _ _ _ _ _ _ _ => b
  | _ => []
def defScope (s : Stmt) : Scope := match s with
  | .FunctionDef _ _ _ _ _ _ sc _ _ _ => sc
  | _ => { kind := .function, names := [], isGenerator := false, isCoroutine := false }


abbrev CX0 : CXT := fun _ _ _ _ _ _ => False
abbrev E0 : XK := fun _ _ _ => False
theorem pass0 {X : Cx} : Passes CX0 X E0 := fun _ _ _ _ _ _ _ h => h.elim


structure Fun (K : PySem.W.Frag) (x qual : Str) (st : Stmt) (f : Addr) (fd : FuncData) : Prop where
  ex : ∃ (oc : Value) (od : Option Addr) (kV doc pm : Value) (an : Option Addr) (cdv ct : Value) (osl : Array (Option Value)),
    fd = PySem.W.fnOf x qual (defArgs st) (defBody st) (defScope st) .none kV doc pm an cdv ct ∧ K.lookup f = some ⟨oc, od, .func fd, osl⟩ ∧ PySem.W.codeIn K cdv qual = true
  kp : PySem.W.keepIn K (.ref f) = true
section
variable {P : Program} {w : World} {K : PySem.W.Frag} {mg : Str → Option Value} {base : Heap}

theorem Fun.ok {x qual : Str} {st : Stmt} {f : Addr} {fd : FuncData} {N ps : List Str} {k : Nat} {sp : Sp} (F : Fun K x qual st f fd) (S : FnScope N ps (defScope st)) (len : ∀ vs H Q E, sp vs H Q E → vs.length = ps.length)
    (hbody : ∀ (cdv : Value) (A : Around) (outer : List Env) (s : Shared) (H : Hp) (vs : List V) (Q : VK) (E : XK), Room k (A.deeper (envOfC qual (defScope st) s.heap.objs.size f cdv)) → sp vs H Q E →
      ∃ t, PSs (cxOf CX0 P w K mg base N qual (defScope st) f cdv A outer s H E).nox (defBody st) t ∧ t { nx := fun _ H' => Q .non H', rt := Q } (start N vs) H) : FnOk P w K mg base CX0 (k + 1) f fd ps sp := by
  obtain ⟨oc, od, kV, doc, pm, an, cdv, ct, osl, rfl, lk, hcd⟩ := F.ex
  refine fn_of lk hcd S len fun A outer s H vs Q E hr hsp => ?_
  obtain ⟨t, h, q⟩ := hbody cdv A outer s H vs Q E hr hsp
  exact ⟨t, h.nox, q⟩

theorem Fun.binds {x qual : Str} {st : Stmt} {f : Addr} {fd : FuncData} {ps : List Str} (F : Fun K x qual st f fd)
    (h : ∀ (kV doc pm : Value) (an : Option Addr) (cdv ct : Value) (us : List Value), us.length = ps.length → bindArgs (PySem.W.fnOf x qual (defArgs st) (defBody st) (defScope st) .none kV doc pm an cdv ct) ⟨us, []⟩ = pure (ps.zip us)) : Binds K fd ps [] := by
  obtain ⟨oc, od, kV, doc, pm, an, cdv, ct, osl, rfl, lk, hcd⟩ := F.ex
  exact .all (h kV doc pm an cdv ct)
theorem fun_mk {x qual : Str} {st : Stmt} {f : Addr} {oc : Value} {od an : Option Addr} {osl : Array (Option Value)} {kV doc pm cdv ct : Value} (l : K.lookup f = some ⟨oc, od, .func (PySem.W.fnOf x qual (defArgs st) (defBody st) (defScope st) .none kV doc pm an cdv ct), osl⟩)
    (c : PySem.W.codeIn K cdv qual = true) (k : PySem.W.keepIn K (.ref f) = true) : Fun K x qual st f (PySem.W.fnOf x qual (defArgs st) (defBody st) (defScope st) .none kV doc pm an cdv ct) := ⟨⟨oc, od, kV, doc, pm, an, cdv, ct, osl, rfl, l, c⟩, k⟩
end
theorem small1000 {n : Nat} (h : n ≤ 1000) : n < sizeLine := Nat.lt_of_le_of_lt h (by decide)


section
variable {X : Cx}
theorem pv (i : Nat) {x : Str} {pos : Pos} (hN : X.N[i]? = some x := by rfl) (hv : Vis X.env.scope x := by first | exact Or.inl rfl | exact Or.inr (Or.inl rfl) | exact Or.inr (Or.inr rfl)) (hd : (x == ("__debug__" : Str)) = false := by decide)
    (hcd : (x == ("__classdict__" : Str)) = false := by decide) : PE X (.Name x pos) (tVar i) := pe_var hN hv hd hcd
end


theorem ite2 {c A B : Prop} [Decidable c] (h1 : c → A) (h2 : ¬ c → B) : if c then A else B := by
  by_cases h : c
  · rw [if_pos h]
    exact h1 h
  · rw [if_neg h]
    exact h2 h
def Same (H H' : Hp) : Prop := ∀ b o, H b = some o → H' b = some o
theorem Same.refl (H : Hp) : Same H H := fun _ _ h => h
theorem Same.trans {H H1 H2 : Hp} (a : Same H H1) (b : Same H1 H2) : Same H H2 := fun c o h => b c o (a c o h)
theorem Same.free {H H' : Hp} (e : Same H H') {l : Addr} (h : H' l = Option.none) : H l = Option.none := by
  cases q : H l with
  | none => rfl
  | some o =>
    rw [e l o q] at h
    cases h
theorem Same.seq {K : PySem.W.Frag} {H H' : Hp} {a : Addr} {xs : List V} (e : Same H H') (h : SqL K H a xs) : SqL K H' a xs := by
  rcases h with (h | ⟨o, h⟩) | h
  · exact .inl (.inl (e _ _ h))
  · exact .inl (.inr ⟨o, e _ _ h⟩)
  · exact .inr h

end L2

set_option Elab.async false
set_option linter.all false
set_option maxRecDepth 100000
namespace L2
open PySem PySem.Spec PyProof.Rows


section
variable {κ : Type} [DecidableEq κ]
def valV (kvs : List (κ × V)) (k : κ) : Option V := (kvs.find? fun kv => decide (kv.1 = k)).map (·.2)

def putK (kvs : List (κ × V)) (k : κ) (v : V) : List (κ × V) :=
  if (kvs.any fun kv => decide (kv.1 = k)) = true then kvs.map (fun kv => if kv.1 = k then (kv.1, v) else kv) else kvs ++ [(k, v)]
def dropK (kvs : List (κ × V)) (k : κ) : List (κ × V) := kvs.filter fun kv => decide (kv.1 ≠ k)

theorem valV_pos {p : κ × V} {r : List (κ × V)} {k : κ} (e : p.1 = k) : valV (p :: r) k = some p.2 := by simp [valV, List.find?_cons, e]
theorem valV_neg {p : κ × V} {r : List (κ × V)} {k : κ} (e : ¬ p.1 = k) : valV (p :: r) k = valV r k := by simp [valV, List.find?_cons, e]
theorem valV_any (k : κ) : ∀ kvs : List (κ × V), (kvs.any fun kv => decide (kv.1 = k)) = (valV kvs k).isSome
  | [] => rfl
  | p :: r => by
    rw [List.any_cons]
    by_cases e : p.1 = k
    · simp only [valV_pos e, decide_eq_true e, Bool.true_or, Option.isSome_some]
    · rw [valV_neg e, decide_eq_false e, Bool.false_or]; exact valV_any k r
theorem valV_map (k j : κ) (y : V) : ∀ kvs : List (κ × V), valV (kvs.map fun kv => if kv.1 = k then (kv.1, y) else kv) j = (valV kvs j).map fun x => if j = k then y else x
  | [] => rfl
  | p :: r => by
    have ih := valV_map k j y r
    rw [List.map_cons]
    by_cases h : p.1 = k
    · rw [if_pos h]
      by_cases e : p.1 = j
      · rw [valV_pos (p := (p.1, y)) e, valV_pos e, Option.map_some, if_pos (e.symm.trans h)]
      · rw [valV_neg (p := (p.1, y)) e, valV_neg e, ih]
    · rw [if_neg h]
      by_cases e : p.1 = j
      · rw [valV_pos (p := p) e, valV_pos e, Option.map_some, if_neg (fun z => h (e.trans z))]
      · rw [valV_neg (p := p) e, valV_neg e, ih]
theorem valV_snoc (k j : κ) (y : V) : ∀ kvs : List (κ × V), valV kvs k = none → valV (kvs ++ [(k, y)]) j = if j = k then some y else valV kvs j
  | [], _ => by
    by_cases e : k = j
    · rw [if_pos e.symm]; exact valV_pos (p := (k, y)) e
    · rw [if_neg (fun z => e z.symm)]; exact valV_neg (p := (k, y)) e
  | p :: r, hn => by
    rw [List.cons_append]
    have hk : ¬ p.1 = k := fun z => by rw [valV_pos z] at hn; cases hn
    rw [valV_neg hk] at hn
    have ih := valV_snoc k j y r hn
    by_cases e : p.1 = j
    · rw [valV_pos e, valV_pos e, if_neg (fun z => hk (e.trans z))]
    · rw [valV_neg e, valV_neg e, ih]
theorem valV_put (kvs : List (κ × V)) (k j : κ) (y : V) : valV (putK kvs k y) j = if j = k then some y else valV kvs j := by
  unfold putK
  by_cases a : (kvs.any fun kv => decide (kv.1 = k)) = true
  · rw [if_pos a, valV_map]
    rw [valV_any] at a
    by_cases e : j = k
    · obtain ⟨x, hx⟩ := Option.isSome_iff_exists.mp a
      rw [if_pos e, e, hx, Option.map_some, if_pos rfl]
    · rw [if_neg e]
      cases valV kvs j with
      | none => rfl
      | some x => rw [Option.map_some, if_neg e]
  · rw [if_neg a]
    refine valV_snoc k j y kvs ?_
    rw [valV_any] at a
    cases q : valV kvs k with
    | none => rfl
    | some x => rw [q] at a; exact (a rfl).elim
theorem length_putK (kvs : List (κ × V)) (k : κ) (v : V) : (putK kvs k v).length ≤ kvs.length + 1 := by
  unfold putK
  split
  · rw [List.length_map]; omega
  · rw [List.length_append, List.length_cons, List.length_nil]; omega
theorem putK_new {kvs : List (κ × V)} {k : κ} (v : V) (h : valV kvs k = none) : putK kvs k v = kvs ++ [(k, v)] := by
  unfold putK
  rw [valV_any, h]
  exact if_neg (by decide)

theorem RelO.isSome_eq {o : Option V} {u : Option Value} (r : RelO o u) : o.isSome = u.isSome := by
  cases o with
  | none => cases u with
    | none => rfl
    | some _ => exact (show False from r).elim
  | some _ => cases u with
    | none => exact (show False from r).elim
    | some _ => rfl
theorem RelO.getD {o : Option V} {u : Option Value} {d : V} {d' : Value} (r : RelO o u) (rd : RelV d d') : RelV (o.getD d) (u.getD d') := by
  cases o with
  | none => cases u with
    | none => exact rd
    | some _ => exact (show False from r).elim
  | some _ => cases u with
    | none => exact (show False from r).elim
    | some _ => exact r


theorem KV.val {kvs : List (κ × V)} {vs : List (κ × Value)} (r : KV kvs vs) (k : κ) : RelO (valV kvs k) (valueAt vs k) := by
  unfold KV at r
  induction r with
  | nil => exact True.intro
  | @cons p q ps qs h t ih =>
    obtain ⟨h1, h2⟩ := h
    by_cases e : p.1 = k
    · have e' : q.1 = k := h1.symm.trans e
      have b : valueAt (q :: qs) k = some q.2 := by simp [valueAt, List.find?_cons, e']
      rw [valV_pos e, b]; exact h2
    · have e' : ¬ q.1 = k := fun z => e (h1.trans z)
      have b : valueAt (q :: qs) k = valueAt qs k := by simp [valueAt, List.find?_cons, e']
      rw [valV_neg e, b]; exact ih
theorem KV.any {kvs : List (κ × V)} {vs : List (κ × Value)} (r : KV kvs vs) (k : κ) : (kvs.any fun kv => decide (kv.1 = k)) = vs.any fun kv => decide (kv.1 = k) := by
  unfold KV at r
  induction r with
  | nil => rfl
  | cons h t ih => rw [List.any_cons, List.any_cons, ih, h.1]
theorem KV.repl {kvs : List (κ × V)} {vs : List (κ × Value)} (r : KV kvs vs) (k : κ) {y : V} {u : Value} (ry : RelV y u) :
    KV (kvs.map fun kv => if kv.1 = k then (kv.1, y) else kv) (vs.map fun kv => if kv.1 = k then (kv.1, u) else kv) := by
  unfold KV at r ⊢
  induction r with
  | nil => exact .nil
  | @cons p q ps qs h t ih =>
    rw [List.map_cons, List.map_cons]
    refine .cons ?_ ih
    obtain ⟨h1, h2⟩ := h
    by_cases e : p.1 = k
    · rw [if_pos e, if_pos (h1.symm.trans e)]; exact ⟨h1, ry⟩
    · rw [if_neg e, if_neg (fun z => e (h1.trans z))]; exact ⟨h1, h2⟩
theorem KV.put {kvs : List (κ × V)} {vs : List (κ × Value)} (r : KV kvs vs) (k : κ) {y : V} {u : Value} (ry : RelV y u) : KV (putK kvs k y) (stored vs k u) := by
  unfold putK stored
  rw [r.any k]
  by_cases e : (vs.any fun kv => decide (kv.1 = k)) = true
  · rw [if_pos e, if_pos e]; exact r.repl k ry
  · rw [if_neg e, if_neg e]; exact Paired.snoc r ⟨rfl, ry⟩
theorem KV.drop {kvs : List (κ × V)} {vs : List (κ × Value)} (r : KV kvs vs) (k : κ) : KV (dropK kvs k) (without vs k) := by
  unfold KV at r ⊢
  unfold dropK without
  induction r with
  | nil => exact .nil
  | @cons p q ps qs h t ih =>
    obtain ⟨h1, h2⟩ := h
    rw [List.filter_cons, List.filter_cons]
    by_cases e : p.1 = k
    · have a : ¬ decide (p.1 ≠ k) = true := by simp [e]
      have b : ¬ decide (q.1 ≠ k) = true := by simp [h1.symm.trans e]
      rw [if_neg a, if_neg b]; exact ih
    · have e' : ¬ q.1 = k := fun z => e (h1.trans z)
      have a : decide (p.1 ≠ k) = true := by simp [e]
      have b : decide (q.1 ≠ k) = true := by simp [e']
      rw [if_pos a, if_pos b]; exact .cons ⟨h1, h2⟩ ih
theorem KV.keys {kvs : List (κ × V)} {vs : List (κ × Value)} (r : KV kvs vs) : kvs.map (·.1) = vs.map (·.1) := by
  unfold KV at r
  induction r with
  | nil => rfl
  | cons h t ih => rw [List.map_cons, List.map_cons, ih, h.1]
theorem KV.length {kvs : List (κ × V)} {vs : List (κ × Value)} (r : KV kvs vs) : kvs.length = vs.length := Paired.length r
end



theorem kV_is {P : Program} {w : World} {k : Key} {u : Value} (r : RelV (kV k) u) : (mixKind P w).is k u = true := by
  cases k with
  | inl i => obtain ⟨t, e⟩ := (show ∃ t, u = Value.int i t from r); subst e; exact mixKind_int P w i t
  | inr x => obtain ⟨t, e⟩ := (show ∃ t, u = Value.str x t from r); subst e; exact mixKind_str P w x t
theorem items_are {P : Program} {w : World} : ∀ {ks : List Key} {us : List Value}, Vals (ks.map kV) us → ItemsAre (mixKind P w) ks us
  | [], _, r => by rw [List.map_nil] at r; cases r; exact .nil
  | k :: ks, _, r => by
    rw [List.map_cons] at r
    cases r with
    | cons h t => exact .cons (kV_is h) (items_are t)


abbrev KT (H : Hp) : List (List Key × V) → List (List Key × Addr × Value) → Prop := Paired fun p q => p.1 = q.1 ∧ H q.2.1 = some (.tup (p.1.map kV)) ∧ RelV p.2 q.2.2
theorem KT.val {H : Hp} {kvs : List (List Key × V)} {xs : List (List Key × Addr × Value)} (r : KT H kvs xs) (k : List Key) : RelO (valV kvs k) ((atKey xs k).map (·.2)) := by
  induction r with
  | nil => exact True.intro
  | @cons p q ps qs h t ih =>
    obtain ⟨h1, _, h2⟩ := h
    by_cases e : p.1 = k
    · have e' : q.1 = k := h1.symm.trans e
      have b : atKey (q :: qs) k = some q.2 := by simp [atKey, List.find?_cons, e']
      rw [valV_pos e, b]; exact h2
    · have e' : ¬ q.1 = k := fun z => e (h1.trans z)
      have b : atKey (q :: qs) k = atKey qs k := by simp [atKey, List.find?_cons, e']
      rw [valV_neg e, b]; exact ih
theorem KT.repl {H : Hp} {kvs : List (List Key × V)} {xs : List (List Key × Addr × Value)} (r : KT H kvs xs) (k : List Key) {y : V} {u : Value} (ry : RelV y u) :
    KT H (kvs.map fun kv => if kv.1 = k then (kv.1, y) else kv) (xs.map (putAt k u)) := by
  induction r with
  | nil => exact .nil
  | @cons p q ps qs h t ih =>
    rw [List.map_cons, List.map_cons]
    refine .cons ?_ ih
    obtain ⟨h1, h2, h3⟩ := h
    unfold putAt
    by_cases e : p.1 = k
    · rw [if_pos e, if_pos (h1.symm.trans e)]; exact ⟨h1, h2, ry⟩
    · rw [if_neg e, if_neg (fun z => e (h1.trans z))]; exact ⟨h1, h2, h3⟩
theorem KT.put {H : Hp} {kvs : List (List Key × V)} {xs : List (List Key × Addr × Value)} (r : KT H kvs xs) (k : List Key) {b : Addr} {y : V} {u : Value} (hb : H b = some (.tup (k.map kV))) (ry : RelV y u) :
    KT H (putK kvs k y) (storedH xs k b u) := by
  have e : (kvs.any fun kv => decide (kv.1 = k)) = (atKey xs k).isSome := by
    rw [valV_any, (r.val k).isSome_eq, Option.isSome_map]
  unfold putK storedH
  rw [e]
  by_cases q : (atKey xs k).isSome = true
  · rw [if_pos q, if_pos q]; exact r.repl k ry
  · rw [if_neg q, if_neg q]; exact Paired.snoc r ⟨rfl, hb, ry⟩
theorem KT.keeps {H H' : Hp} {kvs : List (List Key × V)} {xs : List (List Key × Addr × Value)} (r : KT H kvs xs) (ht : ∀ b ys, H b = some (.tup ys) → H' b = some (.tup ys)) : KT H' kvs xs :=
  Paired.mapP r fun _ _ z => ⟨z.1, ht _ _ z.2.1, z.2.2⟩

section
variable {P : Program} {w : World} {H : Hp} {h : Heap} {a : Addr}
theorem rd_of {u : HO} (ok : HOk P w H h) (e : Rd H a u) : ObjOk P w H h a u := e.ok ok
theorem dk_rd {kvs : List (Key × V)} (ok : HOk P w H h) (e : Rd H a (.dK kvs)) : kvs.length ≤ sizeLine ∧ (a == sysModules) = false ∧ ∃ vs, KV kvs vs ∧ h.DictOf (mixKind P w) a vs :=
  show ObjOk P w H h a (.dK kvs) from rd_of ok e
theorem dk_of {kvs : List (Key × V)} (ok : HOk P w H h) (e : H a = some (.dK kvs)) : kvs.length ≤ sizeLine ∧ (a == sysModules) = false ∧ ∃ vs, KV kvs vs ∧ h.DictOf (mixKind P w) a vs := dk_rd ok (.inl e)

theorem key_of {ks : List Key} (ok : HOk P w H h) (e : H a = some (.tup (ks.map kV))) : (tupleKind (mixKind P w)).is h ks a := by
  obtain ⟨_, its, r, o, h1, h2, n, h3⟩ := (show ObjOk P w H h a (.tup (ks.map kV)) from ok a _ e)
  exact ⟨o, its.toArray, n, h1, h2, h3, by simpa using items_are r⟩
theorem dt_rd {kvs : List (List Key × V)} (ok : HOk P w H h) (e : Rd H a (.dT kvs)) : kvs.length ≤ sizeLine ∧ (a == sysModules) = false ∧
    ∃ xs, KT H kvs xs ∧ h.DictOfH (tupleKind (mixKind P w)) a xs := by
  obtain ⟨z, y, xs, r, o, es, ep, h1, h2, h3, h4, h5⟩ := (show ObjOk P w H h a (.dT kvs) from rd_of ok e)
  refine ⟨z, y, xs, r, o, es, ep, h1, h2, h3, h4, fun x hx => ?_, h5⟩
  have all : ∀ {l : List (List Key × V)} {m : List (List Key × Addr × Value)}, KT H l m → ∀ x ∈ m, (tupleKind (mixKind P w)).is h x.1 x.2.1 := by
    intro l m q
    induction q with
    | nil => intro x hx; exact nomatch hx
    | @cons p q ps qs hq t ih =>
      intro x hx
      rcases List.mem_cons.mp hx with e | hx
      · subst e
        exact key_of ok (by rw [← hq.1]; exact hq.2.1)
      · exact ih x hx
  exact all r x hx
theorem dt_of {kvs : List (List Key × V)} (ok : HOk P w H h) (e : H a = some (.dT kvs)) : kvs.length ≤ sizeLine ∧ (a == sysModules) = false ∧
    ∃ xs, KT H kvs xs ∧ h.DictOfH (tupleKind (mixKind P w)) a xs := dt_rd ok (.inl e)
end


def DGet (H : Hp) (a : Addr) (y : V) (r : Option V) : Prop :=
  (∃ kvs k, Rd H a (.dK kvs) ∧ y = kV k ∧ r = valV kvs k) ∨ ∃ kvs k b, Rd H a (.dT kvs) ∧ y = .ref b ∧ H b = some (.tup (k.map kV)) ∧ r = valV kvs k

def DPut (H : Hp) (a : Addr) (y v : V) (H' : Hp) : Prop :=
  (∃ kvs k, H a = some (.dK kvs) ∧ y = kV k ∧ kvs.length < sizeLine ∧ H' = upd H a (.dK (putK kvs k v))) ∨
  ∃ kvs k b, H a = some (.dT kvs) ∧ y = .ref b ∧ H b = some (.tup (k.map kV)) ∧ kvs.length < sizeLine ∧ H' = upd H a (.dT (putK kvs k v))
theorem DGet.k {H : Hp} {a : Addr} {kvs : List (Key × V)} {k : Key} (e : H a = some (.dK kvs)) : DGet H a (kV k) (valV kvs k) := .inl ⟨kvs, k, .inl e, rfl, rfl⟩
theorem DGet.t {H : Hp} {a b : Addr} {kvs : List (List Key × V)} {k : List Key} (e : H a = some (.dT kvs)) (eb : H b = some (.tup (k.map kV))) : DGet H a (.ref b) (valV kvs k) := .inr ⟨kvs, k, b, .inl e, rfl, eb, rfl⟩
theorem DPut.k {H : Hp} {a : Addr} {kvs : List (Key × V)} {k : Key} {v : V} (e : H a = some (.dK kvs)) (hl : kvs.length < sizeLine) : DPut H a (kV k) v (upd H a (.dK (putK kvs k v))) := .inl ⟨kvs, k, e, rfl, hl, rfl⟩
theorem DPut.t {H : Hp} {a b : Addr} {kvs : List (List Key × V)} {k : List Key} {v : V} (e : H a = some (.dT kvs)) (eb : H b = some (.tup (k.map kV))) (hl : kvs.length < sizeLine) :
    DPut H a (.ref b) v (upd H a (.dT (putK kvs k v))) := .inr ⟨kvs, k, b, e, rfl, eb, hl, rfl⟩


section
variable {X : Cx} {pins : List (Addr × Obj)} {σ : St} {H : Hp} {s : Shared} {a : Addr} {y v : V} {u r : Value} {o : Option V} {A : Around} {E : Value → Shared → Prop}

theorem Inv.big (I : Inv X pins σ H s) : sysModules < s.heap.objs.size := by
  have h : mainGlobals < s.heap.objs.size := (I.mod.glob.keeps I.bk).lt
  exact Nat.lt_trans (by decide) h


theorem d_in {Q : Value → Shared → Prop} (hu : A.units + 1 < cLine) (I : Inv X pins σ H s) (g : DGet H a y o) (ry : RelV y u) (h : ∀ s', Inv X pins σ H s' → Q (.bool o.isSome) s') :
    wpAny (model X.prog X.w) A (compareOp .In u (.ref a)) Q E s := by
  rcases g with ⟨kvs, k, e, ey, l⟩ | ⟨kvs, k, b, e, ey, eb, l⟩
  · subst ey
    obtain ⟨z, hd, vs, rel, dd⟩ := dk_rd I.hok e
    refine wpAny_in_of (kV_is ry) hd dd.mapOf ?_
    rw [← (rel.val k).isSome_eq, ← l]
    exact h _ (I.tok _)
  · subst ey
    cases (show u = Value.ref b from ry)
    obtain ⟨z, hd, xs, rel, dd⟩ := dt_rd I.hok e
    refine wpAny_in_heap (tupleKind_room_in1 hu) (key_of I.hok eb) hd dd ?_
    have q := (rel.val k).isSome_eq
    rw [Option.isSome_map] at q
    rw [← q, ← l]
    exact h _ (I.tok _)
theorem d_write {h' : Heap} {t' : Nat} {ob : HO} (I : Inv X pins σ H s) (mu : Mut (H a)) (hs : Heap.SameBut a s.heap h') (he : ∃ q, h'.get? a = some q) (new : ObjOk X.prog X.w (upd H a ob) h' a ob) :
    Inv X pins σ (upd H a ob) { s with heap := h', toks := t' } :=
  I.write (x := a) (e := a) mu (.inl rfl) (fun b q hb z => (hs.2 b hb).trans z) he new
theorem dk_new {P : Program} {w : World} {H' : Hp} {h' : Heap} {kvs : List (Key × V)} {vs : List (Key × Value)} (z : kvs.length ≤ sizeLine) (hd : (a == sysModules) = false) (rel : KV kvs vs) (dd : h'.DictOf (mixKind P w) a vs) :
    ObjOk P w H' h' a (.dK kvs) := ⟨z, hd, vs, rel, dd⟩

theorem d_setItem {H' : Hp} {Q : Unit → Shared → Prop} (hu : A.units + 1 < cLine) (I : Inv X pins σ H s) (g : DPut H a y v H') (ry : RelV y u) (rv : RelV v r) (h : ∀ s', Inv X pins σ H' s' → Q () s') :
    wpAny (model X.prog X.w) A (setItem (.ref a) u r) Q E s := by
  rcases g with ⟨kvs, k, e, ey, l, eH⟩ | ⟨kvs, k, b, e, ey, eb, l, eH⟩
  · subst ey eH
    obtain ⟨z, hd, vs, rel, dd⟩ := dk_of I.hok e
    have hz : vs.length ≤ sizeLine := by rw [← rel.length]; exact z
    have hl : (putK kvs k v).length ≤ sizeLine := by have := length_putK kvs k v; omega
    refine wpAny_setItem_pairs (hsz := hz) (kV_is ry) dd fun h' dd' hs => h _ ?_
    have he : ∃ q, h'.get? a = some q := let ⟨q, _, _, hq, _⟩ := dd'; ⟨q, hq⟩
    exact d_write I (by rw [e]; exact True.intro) hs he (dk_new hl hd (rel.put k rv) dd')
  · subst ey eH
    cases (show u = Value.ref b from ry)
    obtain ⟨z, hd, xs, rel, dd⟩ := dt_of I.hok e
    have hz : xs.length ≤ sizeLine := by rw [← Paired.length rel]; exact z
    have hl : (putK kvs k v).length ≤ sizeLine := by have := length_putK kvs k v; omega
    refine wpAny_setItem_heap (hsz := hz) (tupleKind_room_in1 hu) (key_of I.hok eb) dd fun h' dd' hs => h _ ?_
    obtain ⟨q, es, ep, hq, h2, h3, h4, _, h5⟩ := dd'
    refine d_write I (by rw [e]; exact True.intro) hs ⟨q, hq⟩ ⟨hl, hd, _, (rel.put k eb rv).keeps fun c ys ec => ?_, q, es, ep, hq, h2, h3, h4, h5⟩
    rw [upd_ne (ne_of ec e (fun z => nomatch z))]
    exact ec
end

section
variable {X : Cx} {pins : List (Addr × Obj)} {σ : St} {H : Hp} {s : Shared} {a : Addr} {kvs : List (Key × V)} {k : Key} {u : Value} {A : Around} {E : Value → Shared → Prop}

end




def tDIn (ty td : TE) : TE := fun σ H Q => ty σ H fun y H1 => td σ H1 fun x H2 => ∃ a o, x = .ref a ∧ DGet H2 a y o ∧ Q (.bl o.isSome) H2
def sDPut (td ty tv : TE) : TS := fun D σ H => tv σ H fun v H1 => td σ H1 fun x H2 => ty σ H2 fun y H3 => ∃ a H4, x = .ref a ∧ DPut H3 a y v H4 ∧ D.nx σ H4

section
variable {X : Cx} {o i e value : Expr} {pos pos' tpos : Pos} {td ty tv : TE}
theorem pc_din (hu : X.A.units + 1 < cLine) (hi : PE X i ty) (ho : PE X o td) : PC X .In i o (tDIn ty td) := by
  intro pins s σ H Q I h
  refine thn (hi pins s σ H _ I h) fun iv s1 ⟨y, H1, I1, ry, q1⟩ => thn (ho pins s1 σ H1 _ I1 q1) fun u s2 ⟨x, H2, I2, rx, a, ov, ex, g, q2⟩ => ?_
  subst ex
  obtain rfl : u = Value.ref a := rx
  exact d_in hu I2 g ry fun s3 I3 => ⟨.bl ov.isSome, H2, I3, rfl, q2⟩
theorem ps_dput (hu : X.A.units + 1 < cLine) (ho : PE X o td) (hi : PE X i ty) (hv : PE X value tv) (hs : swapsWith value (some (.Subscript o i pos')) pos.line X.env = pure false) :
    PS X (.Assign [.Subscript o i pos'] value pos) (sDPut td ty tv) := by
  intro pins s σ H D I h
  refine wpAny_Assign_Subscript (thn (hv pins s σ H _ I h) fun r s1 ⟨v, H1, I1, rv, q1⟩ => thn (ho pins s1 σ H1 _ I1 q1) fun u s2 ⟨x, H2, I2, rx, q2⟩ => thn (hi pins s2 σ H2 _ I2 q2) fun iv s3 ⟨y, H3, I3, ry, a, H4, ex, g, q3⟩ => ?_) hs
  subst ex
  obtain rfl : u = Value.ref a := rx
  exact d_setItem hu I3 g ry rv fun s4 I4 => ⟨σ, H4, I4, q3⟩
end



theorem dk_empty {P : Program} {w : World} {H : Hp} (h : Heap) (hb : sysModules < h.objs.size) : ObjOk P w H (h.push { cls := .type "dict", data := .dict #[] }) h.objs.size (.dK []) :=
  ⟨Nat.zero_le _, beq_eq_false_iff_ne.mpr (Ne.symm (Nat.ne_of_lt hb)), [], .nil, Heap.DictOf.new h⟩
def tDNewK : TE := fun _ H Q => ∀ p, H p = none → Q (.ref p) (upd H p (.dK []))
section
variable {X : Cx} {pos : Pos}
theorem pe_dnewK : PE X (.Dict [] [] pos) tDNewK := fun pins s σ H Q I h =>
  wpAny_Dict_empty ⟨.ref s.heap.objs.size, _, I.laid (a := s.heap.objs.size) (o := .dK []) (t' := s.toks) (fun _ _ q => Heap.get?_push_of_some _ q) (Nat.le_refl _) (dk_empty s.heap I.big), rfl, h _ (I.hok.fresh (Nat.le_refl _))⟩
end


abbrev VV : List (V × V) → List (Value × Value) → Prop := Paired fun p q => RelV p.1 q.1 ∧ RelV p.2 q.2
structure M1 (X : Cx) (o : Expr) (m : Str) (apos : Pos) (e : Expr) (cpos : Pos) : Prop where
  base : attributeBase o m X.env (eval o X.env) = eval o X.env
  few : ((backTo cpos (starEach [e] X.env)).all (fun x => !x.1) && (backToKw cpos (keywordEach [] X.env)).all (fun x => x.1.isSome)
    && decide (([e] : List Expr).length + ([] : List Keyword).length + (if ([] : List Keyword).isEmpty then 0 else 1) < 30)) = true
  line : (apos.endLine == cpos.line) = true
  trees : backTo cpos (starEach [e] X.env) = [(false, eval e X.env)]
def IsD (H : Hp) (a : Addr) : Prop := (∃ kvs, Rd H a (.dK kvs)) ∨ ∃ kvs, Rd H a (.dT kvs)
theorem isD_at {X : Cx} {pins : List (Addr × Obj)} {σ : St} {H : Hp} {s : Shared} {a : Addr} (I : Inv X pins σ H s) (d : IsD H a) :
    s.TypeIs (.ref a) "dict" ∧ (∀ b, Value.ref a = .ref b → ∃ ob, s.heap.get? b = some ob ∧ ob.dict = none) ∧ (a == sysModules) = false := by
  rcases d with ⟨kvs, e⟩ | ⟨kvs, e⟩
  · obtain ⟨_, hd, vs, _, dd⟩ := dk_rd I.hok e
    refine ⟨dd.typeIs, fun b q => ?_, hd⟩
    cases q
    obtain ⟨ob, _, _, h1, h2, _⟩ := dd
    exact ⟨ob, h1, h2.2.1⟩
  · obtain ⟨_, hd, xs, _, dd⟩ := dt_rd I.hok e
    refine ⟨dd.typeIs, fun b q => ?_, hd⟩
    cases q
    obtain ⟨ob, _, _, h1, h2, _⟩ := dd
    exact ⟨ob, h1, h2.2.1⟩

section
variable {X : Cx} {pins : List (Addr × Obj)} {σ : St} {H : Hp} {s : Shared} {a : Addr} {y d : V} {u r : Value} {o : Option V} {A : Around} {E : Value → Shared → Prop}

theorem d_get1 {Q : Value → Shared → Prop} (hu : A.units + 1 < cLine) (I : Inv X pins σ H s) (g : DGet H a y o) (ry : RelV y u) (h : ∀ w' s', Inv X pins σ H s' → RelV (o.getD .non) w' → Q w' s') :
    wpAny (model X.prog X.w) A (call (.builtin "dict.get") [.ref a, u]) Q E s := by
  rcases g with ⟨kvs, k, e, ey, l⟩ | ⟨kvs, k, b, e, ey, eb, l⟩
  · subst ey
    obtain ⟨z, hd, vs, rel, dd⟩ := dk_rd I.hok e
    refine call_meetsIn PySem.F.slot_dict_get dd.typeIs PySem.F.entry_dict_get (PySem.F.args_dict_get_2 _ _) (meets_dict_get (mixKind X.prog X.w) a (kV_is ry) hd) ⟨_, dd.mapOf, h _ _ (I.tok _) ?_⟩
    rw [l]
    exact (rel.val k).getD rfl
  · subst ey
    cases (show u = Value.ref b from ry)
    obtain ⟨z, hd, xs, rel, dd⟩ := dt_rd I.hok e
    refine call_meetsIn PySem.F.slot_dict_get dd.typeIs PySem.F.entry_dict_get (PySem.F.args_dict_get_2 _ _) (meetsH_dict_get (tupleKind (mixKind X.prog X.w)) a b hd) ⟨tupleKind_room_in1 hu, k, xs, key_of I.hok eb, dd, h _ _ (I.tok _) ?_⟩
    rw [l]
    exact (rel.val k).getD rfl

end

def tDGet1 (td ty : TE) : TE := fun σ H Q => td σ H fun x H1 => ∃ a, x = .ref a ∧ IsD H1 a ∧ ty σ H1 fun y H2 => ∃ o, DGet H2 a y o ∧ Q (o.getD .non) H2
section
variable {X : Cx} {o e f : Expr} {apos cpos : Pos} {td ty tx : TE}
theorem pe_dget1 (hu : X.A.units + 1 < cLine) (ho : PE X o td) (he : PE X e ty) (m : M1 X o "get" apos e cpos) : PE X (.Call (.Attribute o "get" apos) [e] [] cpos) (tDGet1 td ty) := by
  intro pins s σ H Q I h
  refine wpAny_Call_method m.base m.few m.line PySem.F.plainAttrs_dict PySem.F.slot_dict_get PySem.F.type_dict_get (thn (ho pins s σ H _ I h) fun u s1 ⟨x, H1, I1, rx, a, ex, d, q1⟩ => ?_)
  subst ex
  obtain rfl : u = Value.ref a := rx
  obtain ⟨t1, t2, _⟩ := isD_at I1 d
  refine ⟨t1, t2, ?_⟩
  rw [m.trees]
  refine Calls.callWith_builtin rfl (Calls.evalArgs_plain (Calls.spliced_cons (thn (he pins s1 σ H1 _ I1 q1) fun iv s2 ⟨y, H2, I2, ry, ov, g, q2⟩ => Calls.spliced_nil ?_)))
  exact d_get1 hu I2 g ry fun w' s3 I3 rw' => ⟨_, H2, I3, rw', q2⟩
end


section
variable {X : Cx} {pins : List (Addr × Obj)} {σ : St} {H : Hp} {s : Shared} {a : Addr} {kvs : List (Key × V)} {A : Around} {E : Value → Shared → Prop}
end


section
variable {X : Cx} {pins : List (Addr × Obj)} {σ : St} {H : Hp} {s : Shared} {a : Addr} {y : V} {u : Value} {A : Around} {E : Value → Shared → Prop}

end
end L2

set_option Elab.async false
set_option linter.all false
set_option maxRecDepth 100000
set_option maxHeartbeats 4000000

namespace L2
open PySem PySem.Spec PyProof.Rows


def closL : List (Str × NameKind) → List (Str × Addr) → List (Str × Addr) → List (Str × Addr)
  | [], _, acc => acc
  | (n, k) :: r, cells, acc => if k == .free then closL r cells ((n, (cells.lookup n).getD 0) :: acc) else closL r cells acc
theorem closL_for {env : Env} : ∀ (names : List (Str × NameKind)) (acc : List (Str × Addr)), (∀ y ∈ names, y.2 = .free → ∃ c, env.cells.lookup y.1 = some c) →
    (forIn names acc fun x r => (match x with | (name, kind) => if (kind == NameKind.free) = true then do let a ← cellOf env name; pure (ForInStep.yield ((name, a) :: r)) else pure (ForInStep.yield r) : Sem (ForInStep (List (Str × Addr))))) = (pure (closL names env.cells acc) : Sem (List (Str × Addr)))
  | [], acc, _ => rfl
  | (n, k) :: r, acc, h => by
    have ih := fun acc => closL_for (env := env) r acc fun y hy => h y (List.mem_cons_of_mem _ hy)
    rw [List.forIn_cons]
    unfold closL
    cases hk : (k == NameKind.free) with
    | true =>
      obtain ⟨c, hc⟩ := h (n, k) List.mem_cons_self (by simpa using hk)
      have hc : env.cells.lookup n = some c := hc
      have e : cellOf env n = pure c := by unfold cellOf; rw [hc]
      simp only [hk, if_true, e, pure_bind, hc, Option.getD_some]
      exact ih _
    | false =>
      simp only [hk, Bool.false_eq_true, if_false, pure_bind]
      exact ih _
theorem closL_eq {scope : Scope} {env : Env} (h : ∀ y ∈ scope.names, y.2 = .free → ∃ c, env.cells.lookup y.1 = some c) : closureFor scope env = pure (closL scope.names env.cells []) := by
  have e := closL_for (env := env) scope.names [] h
  unfold closureFor
  first
    | (rw [e]; rfl)
    | (simp only [e]; rfl)
    | exact (congrArg (fun t => t >>= fun r => pure r) e)
theorem closL_sub {cells : List (Str × Addr)} : ∀ (names : List (Str × NameKind)) (acc : List (Str × Addr)), (∀ y ∈ names, y.2 = .free → ∃ c, cells.lookup y.1 = some c) → (∀ x c, acc.lookup x = some c → cells.lookup x = some c) →
    ∀ x c, (closL names cells acc).lookup x = some c → cells.lookup x = some c
  | [], acc, _, h2 => h2
  | (n, k) :: r, acc, h, h2 => by
    unfold closL
    cases hk : (k == NameKind.free) with
    | true =>
      rw [if_pos rfl]
      refine closL_sub r _ (fun y hy => h y (List.mem_cons_of_mem _ hy)) fun x c e => ?_
      obtain ⟨c', hc⟩ := h (n, k) List.mem_cons_self (by simpa using hk)
      have hc : cells.lookup n = some c' := hc
      rw [List.lookup_cons] at e
      cases hx : x == n with
      | true =>
        have hx' : x = n := by simpa using hx
        rw [hx] at e
        rw [hx', hc]
        simpa [hc] using e
      | false =>
        rw [hx] at e
        exact h2 x c e
    | false =>
      rw [if_neg (by simp)]
      exact closL_sub r _ (fun y hy => h y (List.mem_cons_of_mem _ hy)) h2
theorem closL_acc {cells : List (Str × Addr)} {x : Str} : ∀ (names : List (Str × NameKind)) (acc : List (Str × Addr)), (acc.lookup x).isSome = true → ((closL names cells acc).lookup x).isSome = true
  | [], _, h => h
  | (n, k) :: r, acc, h => by
    unfold closL
    split
    · refine closL_acc r _ ?_
      rw [List.lookup_cons]
      cases x == n <;> simp [h]
    · exact closL_acc r _ h
theorem closL_has {cells : List (Str × Addr)} {x : Str} : ∀ (names : List (Str × NameKind)) (acc : List (Str × Addr)), (x, NameKind.free) ∈ names → ((closL names cells acc).lookup x).isSome = true
  | (n, k) :: r, acc, h => by
    unfold closL
    rcases List.mem_cons.mp h with e | e
    · cases e
      rw [if_pos (by rfl)]
      exact closL_acc r _ (by rw [List.lookup_cons]; simp)
    · split
      · exact closL_has r _ e
      · exact closL_has r _ e


def compCx (X : Cx) (N' : List Str) (scope : Scope) (C : Addr) (s : Shared) (H : Hp) (fp : List Addr) : Cx :=
  { X with N := N', s₀ := s, H₀ := H, env := compEnvC scope (closL scope.names X.env.cells []) C X.env, outer := X.stack, stack := X.stack, ex := fp, fn := fun _ => false, pn := [], xe := fun _ _ => False }
def cap (js : List (Option Nat)) (σ : St) : St := js.map fun o => o.bind fun j => (σ[j]?).join

def compOk (scope osc : Scope) (N' N : List Str) (js : List (Option Nat)) : Bool :=
  (scope.kind == .function) && (scope.names.all fun y => y.2 != .cell && (if y.2 == .local then scope.names.lookup y.1 == some .local else true) &&
    (if y.2 == .free then osc.names.lookup y.1 == some .cell || osc.names.lookup y.1 == some .free else true)) &&
  js.length == N'.length && ((js.zip N').all fun q => match q.1 with
    | none => true
    | some j => N[j]? == some q.2 && (osc.names.lookup q.2 == some .cell || osc.names.lookup q.2 == some .free) && scope.names.lookup q.2 == some .free)
structure CompOk (scope osc : Scope) (N' N : List Str) (js : List (Option Nat)) : Prop where
  kind : scope.kind = .function
  nocell : ∀ y ∈ scope.names, y.2 ≠ .cell
  names : ∀ y ∈ scope.names, y.2 = .local → scope.names.lookup y.1 = some .local
  free : ∀ y ∈ scope.names, y.2 = .free → osc.names.lookup y.1 = some .cell ∨ osc.names.lookup y.1 = some .free
  len : js.length = N'.length
  slots : ∀ (i j : Nat) (x : Str), js[i]? = some (some j) → N'[i]? = some x → N[j]? = some x ∧ (osc.names.lookup x = some .cell ∨ osc.names.lookup x = some .free) ∧ scope.names.lookup x = some .free
theorem compOk_of {scope osc : Scope} {N' N : List Str} {js : List (Option Nat)} (h : compOk scope osc N' N js = true) : CompOk scope osc N' N js := by
  unfold compOk at h
  rw [Bool.and_eq_true, Bool.and_eq_true, Bool.and_eq_true, List.all_eq_true, List.all_eq_true] at h
  obtain ⟨⟨⟨h1, h2⟩, h3⟩, h4⟩ := h
  refine ⟨by cases hk : scope.kind <;> first | rfl | (rw [hk] at h1; cases h1), fun y hy e => ?_, fun y hy e => ?_, fun y hy e => ?_, by simpa using h3, fun i j x e1 e2 => ?_⟩
  · have q := h2 y hy
    rw [e] at q
    simp at q
  · have q := h2 y hy
    rw [Bool.and_eq_true, Bool.and_eq_true] at q
    have q2 := q.1.2
    rw [e] at q2
    simpa using q2
  · have q := h2 y hy
    rw [Bool.and_eq_true, Bool.and_eq_true] at q
    have q2 := q.2
    rw [e] at q2
    simpa using q2
  · have hm : (some j, x) ∈ js.zip N' := by
      refine List.mem_of_getElem? (i := i) ?_
      rw [List.getElem?_zip_eq_some]
      exact ⟨e1, e2⟩
    have q := h4 _ hm
    simp only [Bool.and_eq_true, Bool.or_eq_true, beq_iff_eq] at q
    exact ⟨q.1.1, q.1.2, q.2⟩
theorem relabel_lookup {env : Env} : ∀ (names : List (Str × NameKind)) (x : Str), names.lookup x = some .free →
    ((names.map fun (n, k) => if (k == NameKind.free && env.scope.kind == .function && env.kindOf n == some .cell) then (n, NameKind.cell) else (n, k)).lookup x = some .cell ∨
      (names.map fun (n, k) => if (k == NameKind.free && env.scope.kind == .function && env.kindOf n == some .cell) then (n, NameKind.cell) else (n, k)).lookup x = some .free)
  | [], x, h => by simp at h
  | (n, k) :: r, x, h => by
    have ih := relabel_lookup (env := env) r x
    rw [List.map_cons]
    rw [List.lookup_cons] at h
    by_cases hb : (k == NameKind.free && env.scope.kind == .function && env.kindOf n == some .cell) = true
    · have e1 : (if (k == NameKind.free && env.scope.kind == .function && env.kindOf n == some .cell) = true then (n, NameKind.cell) else (n, k)) = (n, NameKind.cell) := if_pos hb
      simp only [e1, List.lookup_cons]
      cases hx : x == n with
      | true => exact .inl rfl
      | false =>
        rw [hx] at h
        exact ih h
    · have e1 : (if (k == NameKind.free && env.scope.kind == .function && env.kindOf n == some .cell) = true then (n, NameKind.cell) else (n, k)) = (n, k) := if_neg hb
      simp only [e1, List.lookup_cons]
      cases hx : x == n with
      | true =>
        rw [hx] at h
        exact .inr h
      | false =>
        rw [hx] at h
        exact ih h
theorem relabel_free {scope : Scope} {env : Env} : ∀ (names : List (Str × NameKind)) (x : Str), (∀ y ∈ names, y.2 ≠ .cell) →
    ((names.map fun (n, k) => if (k == NameKind.free && env.scope.kind == .function && env.kindOf n == some .cell) then (n, NameKind.cell) else (n, k)).lookup x = some .cell ∨
      (names.map fun (n, k) => if (k == NameKind.free && env.scope.kind == .function && env.kindOf n == some .cell) then (n, NameKind.cell) else (n, k)).lookup x = some .free) → (x, NameKind.free) ∈ names
  | [], x, _, h => by simp at h
  | (n, k) :: r, x, hc, h => by
    have ih := relabel_free (scope := scope) (env := env) r x fun y hy => hc y (List.mem_cons_of_mem _ hy)
    rw [List.map_cons] at h
    by_cases hb : (k == NameKind.free && env.scope.kind == .function && env.kindOf n == some .cell) = true
    · have hkf : k = .free := by
        rw [Bool.and_eq_true, Bool.and_eq_true] at hb
        simpa using hb.1.1
      have e1 : (if (k == NameKind.free && env.scope.kind == .function && env.kindOf n == some .cell) = true then (n, NameKind.cell) else (n, k)) = (n, NameKind.cell) := if_pos hb
      simp only [e1, List.lookup_cons] at h
      cases hx : x == n with
      | true =>
        have hx' : x = n := by simpa using hx
        rw [hx', hkf]
        exact List.mem_cons_self
      | false =>
        rw [hx] at h
        exact List.mem_cons_of_mem _ (ih h)
    · have e1 : (if (k == NameKind.free && env.scope.kind == .function && env.kindOf n == some .cell) = true then (n, NameKind.cell) else (n, k)) = (n, k) := if_neg hb
      simp only [e1, List.lookup_cons] at h
      cases hx : x == n with
      | true =>
        have hx' : x = n := by simpa using hx
        rw [hx] at h
        rcases h with h | h
        · exact absurd (Option.some.inj h) (hc (n, k) List.mem_cons_self)
        · have hkf : k = .free := Option.some.inj h
          rw [hx', hkf]
          exact List.mem_cons_self
      | false =>
        rw [hx] at h
        exact List.mem_cons_of_mem _ (ih h)

theorem Un.sameBut {fs ex : List Addr} {H H' : Hp} {h h1 h2 : Heap} {C : Addr} (u : Un fs ex H H' h h1) (hs : Heap.SameBut C h1 h2) (hC : h.objs.size ≤ C) : Un fs ex H H' h h2 := by
  have ne : ∀ b o, h.get? b = some o → b ≠ C := fun b o e => Nat.ne_of_lt (Nat.lt_of_lt_of_le (Heap.lt_size e) hC)
  refine ⟨fun b o e n hb hx => (hs.2 b (ne b o e)).trans (u.keep b o e n hb hx), fun b o e n hb hx => ?_, u.free, fun b o e hx => ?_, u.tups, u.frzs, u.tbls⟩
  · obtain ⟨sl, q⟩ := u.slot b o e n hb hx
    exact ⟨sl, (hs.2 b (ne b o e)).trans q⟩
  · obtain ⟨o', q⟩ := u.there b o e hx
    exact ⟨o', (hs.2 b (ne b o e)).trans q⟩

theorem thn0 {α : Type} {t : Sem α} {Q Q' : α → Shared → Prop} {M : Model} {A : Around} {E : Value → Shared → Prop} {s : Shared} (h : wpAny M A t Q (fun _ _ => False) s) (hQ : ∀ a s, Q a s → Q' a s) : wpAny M A t Q' E s := wpAny_mono h hQ fun _ _ f => f.elim

theorem comp_loop {prog : Program} {w : World} {A : Around} {R : Result → Shared → Prop} {s : Shared} {elt target iter : Expr} {ifs : List Expr} {scope : Scope} {pos : Pos} {it acc : Value} {env : Env} (I : Nat → Shared → Prop)
    (turn : ∀ n s, I n s → wpAny (model prog w) A (pyNext it) (fun r s₁ => match r with
      | none => R (.ok .next) s₁
      | some v => wpAny (model prog w) A (letOwnedTupleGo target it v) (fun _ s₂ => wpAny (model prog w) A (assign target env v) (fun _ s₃ =>
          wpAny (model prog w) A (forIn ifs true fun c r => if r = true then do let ok ← isTrue c env (eval c env); pure (ForInStep.yield ok) else pure (ForInStep.yield r)) (fun ok s₄ =>
            if ok = true then wpAny (model prog w) A (eval elt env) (fun x s₅ =>
              wpAny (model prog w) A (call (.builtin "list.append") [acc, x]) (fun _ s₆ => ∃ m, m < n ∧ I m s₆) (fun _ _ => False) s₅) (fun _ _ => False) s₄
            else ∃ m, m < n ∧ I m s₄) (fun _ _ => False) s₃) (fun _ _ => False) s₂) (fun _ _ => False) s₁) (fun _ _ => False) s)
    (n : Nat) (h : I n s) : codeAny (model prog w) A (.compLoop (.ListComp elt [⟨target, iter, ifs, 0⟩] scope pos) 0 it acc env) R s := by
  refine codeAny_loop rfl I (fun n s hI => ?_) n h
  show wpAny _ A ((compTurn (.ListComp elt [⟨target, iter, ifs, 0⟩] scope pos) 0 it acc env).onRaise (fun x => do noteFrame x env; theTreesLotGoes x)) _ _ s
  refine wpAny_noted ?_
  rw [compTurn_list]
  refine wpAny_bind (wpAny_standAt (wpAny_bind (thn0 (turn n s hI) fun r s₁ h₁ => ?_)))
  cases r with
  | none => exact wpAny_pure h₁
  | some v =>
    refine wpAny_bind (thn0 h₁ fun _ s₂ h₂ => wpAny_bind (thn0 h₂ fun _ s₃ h₃ => wpAny_bind (thn0 h₃ fun ok s₄ h₄ => ?_)))
    cases ok with
    | false => exact wpAny_pure ⟨rfl, h₄⟩
    | true =>
      exact wpAny_bind (wpAny_bind (thn0 h₄ fun x s₅ h₅ => wpAny_bind (thn0 h₅ fun _ s₆ h₆ => wpAny_pure (wpAny_pure ⟨rfl, h₆⟩))))


def PIf (X : Cx) (ifs : List Expr) (t : TT) : Prop :=
  ∀ (pins : List (Addr × Obj)) (s : Shared) (σ : St) (H : Hp) (Q : Bool → Hp → Prop), Inv X pins σ H s → t σ H Q →
    wpAny (model X.prog X.w) X.A (forIn ifs true fun c r => if r = true then do let ok ← isTrue c X.env (eval c X.env); pure (ForInStep.yield ok) else pure (ForInStep.yield r)) (TP X pins σ Q) X.xe s
def tYes : TT := fun _ H Q => Q true H
theorem pif_nil {X : Cx} : PIf X [] tYes := fun _ _ _ H _ I h => wpAny_tests_nil ⟨H, I, h⟩
theorem pif_one {X : Cx} {c : Expr} {t : TT} (h : PT X c t) : PIf X [c] t := fun pins s σ H Q I hq => wpAny_tests_one (h pins s σ H Q I hq)


def OwnG (js : List (Option Nat)) (g : TG) : Prop := ∀ (x : V) (σ : St) (H : Hp) (Q : St → Hp → Prop), σ.length = js.length → g x σ H Q → g x σ H fun σ' H' => Q σ' H' ∧ σ'.length = js.length ∧ ∀ (i j : Nat), js[i]? = some (some j) → σ'[i]? = σ[i]?
theorem own_name {js : List (Option Nat)} {i : Nat} (h : js[i]? = some none := by rfl) : OwnG js (gName i) := fun x σ H Q hl q => ⟨q, by rw [List.length_set]; exact hl, fun k j e => by
  rw [List.getElem?_set_ne]
  intro z
  subst z
  rw [h] at e
  cases e⟩
def CompW (J : It) (g : TG) (tif : TT) (te : TE) (js : List (Option Nat)) (σ : St) (Q : VK) (p : Addr) (H1 : Hp) : Prop :=
  ∃ W : Nat → Nat → List V → Hp → Prop, (∃ m, W 0 m [] (upd H1 p (.lst []))) ∧ ∀ i m acc H2, W i m acc H2 → H2 p = some (.lst acc) ∧
    ((J.stop i H2 ∧ Q (.ref p) H2) ∨ (J.go i H2 ∧ acc.length < sizeLine ∧ ∃ N : List V → Hp → Prop, (∀ acc' H', N acc' H' → ∃ m', m' < m ∧ W (i + 1) m' acc' H') ∧
      ∀ x H', J.yld i H2 x H' → g x (cap js σ) H' fun σ2 H3 => tif σ2 H3 fun c H4 =>
        if c = true then te σ2 H4 fun y H5 => H5 p = some (.lst acc) ∧ N (acc ++ [y]) (upd H5 p (.lst (acc ++ [y]))) else N acc H4))

def tComp (wi : TI) (g : TG) (tif : TT) (te : TE) (js : List (Option Nat)) : TE := fun σ H Q => wi σ H fun J H1 => ∀ p, H1 p = none → CompW J g tif te js σ Q p H1

theorem comp_core {X : Cx} {use : Option (Value → Sem Unit)} {Q' : Value → Shared → Prop} {Q : VK} {pins : List (Addr × Obj)} {s : Shared} {σ : St} {H : Hp} {elt target iter : Expr} {ifs : List Expr} {scope : Scope} {pos : Pos} {wi : TI} {g : TG} {tif : TT} {te : TE} {N' : List Str} {js : List (Option Nat)} (hok : compOk scope X.env.scope N' X.N js = true) (hc : X.calm = true)
    (hi : PI X target iter wi) (ho : OwnG js g) (hg : ∀ C s H fp, PG (compCx X N' scope C s H fp) target g) (hif : ∀ C s H fp, PIf (compCx X N' scope C s H fp) ifs tif) (he : ∀ C s H fp, PE (compCx X N' scope C s H fp) elt te)
    (hs : ∀ x, foldedSetIterable iter X.env x = pure x) (I : Inv X pins σ H s) (h : tComp wi g tif te js σ H Q)
    (hfin : ∀ (s2 : Shared) (H2 : Hp) (fp : List Addr) (C : Addr), Inv X pins σ H2 s2 → (∀ b ∈ fp, FpOk X pins H2 b) → s2.heap.objs.size ≤ C → ∀ (σ' : St) (H' : Hp) (s' : Shared), Inv (compCx X N' scope C s2 H2 fp) [] σ' H' s' → Q (.ref s2.heap.objs.size) H' →
      compPost (model X.prog X.w) X.A X.xe use Q' (.ref s2.heap.objs.size) C (.ok .next) s') :
    wpAny (model X.prog X.w) X.A (comprehension (.ListComp elt [⟨target, iter, ifs, 0⟩] scope pos) scope X.env (firstIterPos [⟨target, iter, ifs, 0⟩] pos) (newList []) false (eval iter X.env) use) Q' X.xe s := by
  have O := compOk_of hok
  have hfr : ∀ y ∈ scope.names, y.2 = .free → ∃ c, X.env.cells.lookup y.1 = some c := fun y hy e => I.ok.has y.1 (O.free y hy e)
  refine wpAny_comprehension_free (use := use) rfl hs (closL_eq hfr) O.kind O.names (thn (hi pins s σ H _ I h) fun v s1 h1 => thn h1 fun itv s2 h2 => ?_)
  obtain ⟨it, fp, tn, J, H2, e, I2, T, st2, f2, hq⟩ := h2
  subst e
  have hf0 : H2 s2.heap.objs.size = none := I2.hok.fresh (Nat.le_refl _)
  obtain ⟨W, ⟨m0, w0⟩, turn⟩ := hq _ hf0
  refine wpAny_newObj_type (wpAny_newFunctionEnv O.nocell (by intro y hy; simp at hy) (fun h₁ hns₁ hsb₁ => ?_) O.kind)
  dsimp only at hns₁ hsb₁ ⊢
  generalize hH2 : s2.heap.push { cls := .type "list", dict := none, data := .seq ([] : List Value).toArray } = B at hns₁ hsb₁ ⊢
  have hC : B.objs.size = s2.heap.objs.size + 1 := by rw [← hH2, Heap.size_push]
  have hCle : s2.heap.objs.size ≤ B.objs.size := by rw [hC]; exact Nat.le_succ _
  have old : ∀ b o, s2.heap.get? b = some o → h₁.get? b = some o := fun b o e => hsb₁.extBut b o (by rw [hC]; exact Nat.ne_of_lt (Nat.lt_succ_of_lt (Heap.lt_size e))) (Heap.get?_push_of_some _ (hH2 ▸ Heap.get?_push_of_some _ e))
  have hDC : s2.heap.objs.size ≠ B.objs.size := by rw [hC]; exact Nat.ne_of_lt (Nat.lt_succ_self _)
  have hacc : h₁.get? s2.heap.objs.size = some { cls := .type "list", dict := none, data := .seq ([] : List Value).toArray } := hsb₁.extBut _ _ hDC (Heap.get?_push_of_some _ (hH2 ▸ Heap.get?_push_size _ rfl))
  have fpO : ∀ b ∈ fp, b < s2.heap.objs.size := fun b hb => by
    obtain ⟨o, e, _⟩ := T.obj 0 _ st2 b hb
    exact Heap.lt_size e
  have sub : ∀ x c, (closL scope.names X.env.cells []).lookup x = some c → X.env.cells.lookup x = some c := closL_sub scope.names [] hfr (fun x c e => by cases e)
  have hasC : ∀ x, ((relabel scope X.env).names.lookup x = some .cell ∨ (relabel scope X.env).names.lookup x = some .free) → ∃ c, (closL scope.names X.env.cells []).lookup x = some c := fun x hx =>
    Option.isSome_iff_exists.mp (closL_has scope.names [] (relabel_free (scope := scope) (env := X.env) scope.names x O.nocell hx))
  -- the block's context at its begin
  have IY : ∀ t, Inv (compCx X N' scope B.objs.size s2 H2 fp) [] (cap js σ) (upd H2 s2.heap.objs.size (.lst [])) { s2 with heap := h₁, toks := t } := by
    intro t
    refine ⟨⟨I2.ok.mod, O.kind, I2.ok.glob, I2.ok.blt, hCle, fun x y c h1 h2 => I2.ok.inj x y c (sub x c h1) (sub y c h2), fun x hx => hasC x hx, fun x c h => (by cases h), I2.ok.hd, I2.ok.frames, .inl rfl, fun b hb => ⟨Nat.ne_of_lt (Nat.lt_of_lt_of_le (fpO b hb) hCle), fun x c e => (f2 b hb).2.2.2.2.1 x c (sub x c e)⟩,
      I2.bs, Nat.le_trans I2.ok.bsz I2.sz, fun b o e hb => ?_, fun b hb z => ?_, I2.stack, I2.stkFree⟩, rfl, I2.bare, Un.laid old (Nat.le_refl _) hf0, ⟨_, hns₁, fun i x v e1 e2 e3 => ?_⟩, fun x c e => ?_, ?_, fun x c e => ?_, fun p hp => absurd (show p ∈ ([] : List (Addr × Obj)) from hp) (by simp), ?_, ?_⟩
    · rcases (f2 b hb).2.2.2.1 with z | z
      · exact I2.ok.noex b o e z
      · exact absurd (Nat.lt_of_lt_of_le (Nat.lt_of_lt_of_le (Heap.lt_size e) I2.ok.bsz) z) (Nat.lt_irrefl _)
    · rcases List.mem_cons.mp (I2.stkSub b z) with q | q
      · exact (f2 b hb).2.1 q
      · exact (f2 b hb).2.2.1 q
    · have e1 : N'[i]? = some x := e1
      unfold cap at e2
      rw [List.getElem?_map] at e2
      cases q : js[i]? with
      | none => rw [q] at e2; cases e2
      | some o =>
        rw [q] at e2
        cases o with
        | none => cases e2
        | some j =>
          have e2 : (σ[j]?).join = some v := by simpa using e2
          have e2' : σ[j]? = some (some v) := by
            cases z : σ[j]? with
            | none => rw [z] at e2; cases e2
            | some a => rw [z] at e2; cases a with
              | none => cases e2
              | some a => cases e2; rfl
          obtain ⟨hN, hk, hsf⟩ := O.slots i j x q e1
          obtain ⟨m, hn, hl⟩ := I2.loc
          obtain ⟨u, r, l⟩ := hl j x v hN e2' (.inr hk)
          refine ⟨u, r, ?_⟩
          have hkX : X.env.kindOf x = some .cell ∨ X.env.kindOf x = some .free := hk
          rcases l with ⟨k, _⟩ | ⟨k, c, hc', hcell⟩
          · rcases hkX with z | z
            · rw [k] at z; cases z
            · rw [k] at z; cases z
          · have hky : (relabel scope X.env).names.lookup x = some .cell ∨ (relabel scope X.env).names.lookup x = some .free := relabel_lookup (env := X.env) scope.names x hsf
            obtain ⟨c2, hc2⟩ := hasC x hky
            have : c2 = c := by
              have := sub x c2 hc2
              rw [hc'] at this
              exact (Option.some.inj this).symm
            subst this
            obtain ⟨ob, ho, hd⟩ := hcell
            exact .inr ⟨hky, c2, hc2, ob, old _ _ ho, hd⟩
    · obtain ⟨v, ob, ho, hd⟩ := I2.cell x c (sub x c e)
      exact ⟨v, ob, old _ _ ho, hd⟩
    · show upd H2 s2.heap.objs.size (.lst []) B.objs.size = none
      rw [upd_ne (Ne.symm hDC)]
      exact I2.hok.fresh hCle
    · obtain ⟨v, ob, ho, hd⟩ := I2.cell x c (sub x c e)
      rw [upd_ne (Nat.ne_of_lt (Heap.lt_size ho))]
      exact I2.freeC x c (sub x c e)
    · exact I2.hok.laid old (Nat.le_refl _) ⟨Nat.zero_le _, [], 0, .nil, hacc⟩
    · unfold cap
      rw [List.length_map]
      exact O.len
  have hcl : (cap js σ).length = js.length := by unfold cap; rw [List.length_map]
  have fin : ∀ {σ' : St} {H' : Hp} {s' : Shared}, Inv (compCx X N' scope B.objs.size s2 H2 fp) [] σ' H' s' → Q (.ref s2.heap.objs.size) H' → compPost (model X.prog X.w) X.A X.xe use Q' (.ref s2.heap.objs.size) B.objs.size (.ok .next) s' :=
    fun {σ' H' s'} J q => hfin s2 H2 fp B.objs.size I2 f2 hCle σ' H' s' J q
  have loop : ∀ t, codeAny (model X.prog X.w) X.A (.compLoop (.ListComp elt [⟨target, iter, ifs, 0⟩] scope pos) 0 (.ref it) (.ref s2.heap.objs.size) (compEnvC scope (closL scope.names X.env.cells []) B.objs.size X.env))
      (compPost (model X.prog X.w) X.A X.xe use Q' (.ref s2.heap.objs.size) B.objs.size) { s2 with heap := h₁, toks := t } := by
    intro t
    have stat : ∀ {H' : Hp}, (∀ b ∈ fp, H' b = none) → ∀ b ∈ fp, FpOk (compCx X N' scope B.objs.size s2 H2 fp) [] H' b := fun hn b hb =>
      ⟨hn b hb, Nat.ne_of_lt (Nat.lt_of_lt_of_le (fpO b hb) hCle), (IY t).ok.exfs b hb, .inl hb, fun x c e => ((IY t).ok.exf b hb).2 x c e, fun p hp => absurd (show p ∈ ([] : List (Addr × Obj)) from hp) (by simp)⟩
    refine comp_loop (fun n s' => ∃ i acc H', Inv (compCx X N' scope B.objs.size s2 H2 fp) [] (cap js σ) H' s' ∧ tn i s'.heap ∧ (∀ b ∈ fp, H' b = none) ∧ W i n acc H') ?_ m0
      ⟨0, [], _, IY t, T.keep 0 _ _ st2 (fun b _ o e => old b o e), fun b hb => by rw [upd_ne (Nat.ne_of_lt (fpO b hb))]; exact (f2 b hb).1, w0⟩
    rintro n s3 ⟨i, acc, H3, I3, st3, fr3, w3⟩
    obtain ⟨hD, turn⟩ := turn i n acc H3 w3
    rcases turn with ⟨stop, qn⟩ | ⟨go, hlen, N, hN, step⟩
    · refine thn (T.done (compCx X N' scope B.objs.size s2 H2 fp) rfl rfl rfl hc i [] s3 (cap js σ) H3 (fun _ _ => False) I3 (stat fr3) st3 stop) fun r s4 ⟨hr, I4⟩ => ?_
      subst hr
      exact fin I4 qn
    · refine thn (T.item (compCx X N' scope B.objs.size s2 H2 fp) rfl rfl rfl hc i [] s3 (cap js σ) H3 (fun _ _ => False) I3 (stat fr3) st3 go) fun r s4 ⟨u, hr, h4⟩ => ?_
      subst hr
      refine thn h4 fun _ s5 ⟨x, H5, I5, r5, y5, st5, fr5⟩ => ?_
      have I5' := I5.pinned (stat fr5) (T.obj _ _ st5)
      refine thn (hg _ _ _ _ _ s5 (cap js σ) H5 x u _ I5' r5 (ho x (cap js σ) H5 _ hcl (step x H5 y5))) fun _ s6 ⟨σ6, H6, I6, q6, hl6, hk6⟩ => ?_
      refine thn (hif _ _ _ _ _ s6 σ6 H6 _ I6 q6) fun ok s7 ⟨H7, I7, q7⟩ => ?_
      have again : ∀ {H8 : Hp} {acc8 : List V} {s8 : Shared}, Inv (compCx X N' scope B.objs.size s2 H2 fp) ([] ++ pinsAt fp s5.heap) σ6 H8 s8 → N acc8 H8 →
          ∃ m, m < n ∧ ∃ i acc H', Inv (compCx X N' scope B.objs.size s2 H2 fp) [] (cap js σ) H' s8 ∧ tn i s8.heap ∧ (∀ b ∈ fp, H' b = none) ∧ W i m acc H' := by
        intro H8 acc8 s8 I8 n8
        obtain ⟨m', hm, w8⟩ := hN acc8 H8 n8
        refine ⟨m', hm, i + 1, acc8, H8, ?_, T.keep _ _ _ st5 fun b hb o e => (I8.pin (b, o) (List.mem_append_right _ (List.mem_append_right _ (mem_pinsAt hb e)))).1, fun b hb => ?_, w8⟩
        · refine Inv.weak I8.unpinned (by rw [hl6, hcl]) fun k v e => ?_
          have e' := e
          unfold cap at e
          rw [List.getElem?_map] at e
          cases q : js[k]? with
          | none => rw [q] at e; cases e
          | some o =>
            cases o with
            | none => rw [q] at e; cases e
            | some j => rw [hk6 k j q]; exact e'
        · obtain ⟨o, e, d⟩ := T.obj _ _ st5 b hb
          exact (I8.pin (b, o) (List.mem_append_right _ (List.mem_append_right _ (mem_pinsAt hb e)))).2.1
      cases ok with
      | false => exact again I7 q7
      | true =>
        refine thn (he _ _ _ _ _ s7 σ6 H7 _ I7 q7) fun y s8 ⟨yv, H8, I8, r8, hD8, q8⟩ => ?_
        refine thn (mt_append _ s8 σ6 H8 (.ref s2.heap.objs.size) [yv] (.ref s2.heap.objs.size) [y] (fun _ H9 => N (acc ++ [yv]) H9) I8 rfl (.cons r8 .nil) ⟨_, acc, yv, rfl, rfl, hD8, hlen, q8⟩) fun _ s9 ⟨_, H9, I9, _, q9⟩ => ?_
        exact again I9 q9
  exact codeAny_compStart_list (loop _) (T.self X.A 0 _ _ _ (T.keep 0 _ _ st2 (fun b _ o e => old b o e)) (loop _))
theorem pe_comp {X : Cx} {elt target iter : Expr} {ifs : List Expr} {scope : Scope} {pos : Pos} {wi : TI} {g : TG} {tif : TT} {te : TE} {N' : List Str} {js : List (Option Nat)} (hok : compOk scope X.env.scope N' X.N js = true) (hc : X.calm = true)
    (hi : PI X target iter wi) (ho : OwnG js g) (hg : ∀ C s H fp, PG (compCx X N' scope C s H fp) target g) (hif : ∀ C s H fp, PIf (compCx X N' scope C s H fp) ifs tif) (he : ∀ C s H fp, PE (compCx X N' scope C s H fp) elt te)
    (hs : ∀ x, foldedSetIterable iter X.env x = pure x := by intro _; rfl) : PE X (.ListComp elt [⟨target, iter, ifs, 0⟩] scope pos) (tComp wi g tif te js) := by
  intro pins s σ H Q I h
  rw [eval_ListComp]
  refine comp_core (use := none) hok hc hi ho hg hif he hs I h fun s2 H2 fp C I2 f2 hCle σ' H' s' J q => ?_
  obtain ⟨m, hn, _⟩ := J.loc
  refine ⟨m, hn, fun h' hs' => ⟨.ref s2.heap.objs.size, H', ?_, rfl, q⟩⟩
  refine I2.call' (s' := { s' with heap := h' }) (ch := fp) J.os (J.base.sameBut hs' hCle) (fun b ob e => ?_) J.bare fun b hb => ⟨(f2 b hb).2.2.2.1, (f2 b hb).2.1, (f2 b hb).2.2.2.2.1, (f2 b hb).2.2.2.2.2⟩
  refine (J.hok b ob e).stay (fun c w' hc q => (hs'.2 c ?_).trans q) (fun _ q => q) fun _ _ q => q
  have hfree : H' C = none := J.free
  intro hcC
  rw [hcC] at hc
  rcases hc with z | z
  · rw [← z, hfree] at e; cases e
  · rw [hfree] at z; cases z

theorem ps_setc {X : Cx} {i : Nat} {y : Str} {elt target iter : Expr} {ifs : List Expr} {scope : Scope} {pos py spos : Pos} {wi : TI} {g : TG} {tif : TT} {te : TE} {N' : List Str} {js : List (Option Nat)} (hN : X.N.Nodup) (hi' : X.N[i]? = some y) (hx : Loc X.env.scope y)
    (hok : compOk scope X.env.scope N' X.N js = true) (hc : X.calm = true)
    (hi : PI X target iter wi) (ho : OwnG js g) (hg : ∀ C s H fp, PG (compCx X N' scope C s H fp) target g) (hif : ∀ C s H fp, PIf (compCx X N' scope C s H fp) ifs tif) (he : ∀ C s H fp, PE (compCx X N' scope C s H fp) elt te)
    (hsw : swapsWith (.ListComp elt [⟨target, iter, ifs, 0⟩] scope pos) (some (.Name y py)) spos.line X.env = pure true)
    (hs : ∀ x, foldedSetIterable iter X.env x = pure x := by intro _; rfl) (hf : X.fn y = true ∨ X.env.scope.names.lookup y = some .local := by first | exact .inl rfl | exact .inr rfl | assumption) :
    PS X (.Assign [.Name y py] (.ListComp elt [⟨target, iter, ifs, 0⟩] scope pos) spos) (tAsg (tComp wi g tif te js) (gName i)) := by
  intro pins s σ H D I h
  rw [exec_Assign_Name_used _ _ _ _ hsw]
  refine wpAny_bind (wpAny_standAt (wpAny_bind ?_))
  show wpAny _ X.A (do let _ ← comprehension (.ListComp elt [⟨target, iter, ifs, 0⟩] scope pos) scope X.env _ (newList []) false (eval iter X.env) (some (assign (.Name y py) X.env))) _ _ s
  refine wpAny_bind (thn (comp_core (use := some (assign (.Name y py) X.env)) (Q' := fun _ s' => SP X pins D .next s') hok hc hi ho hg hif he hs I h fun s2 H2 fp C I2 f2 hCle σ' H' s' J q => ?_) fun _ s' q => ?_)
  · obtain ⟨m, hn, _⟩ := J.loc
    have I3 : Inv X pins σ H' s' := I2.call' (ch := fp) J.os J.base J.hok J.bare fun b hb => ⟨(f2 b hb).2.2.2.1, (f2 b hb).2.1, (f2 b hb).2.2.2.2.1, (f2 b hb).2.2.2.2.2⟩
    have hCL : C ≠ X.env.locals := fun z => absurd (Nat.lt_of_lt_of_le I2.lt hCle) (by rw [z]; exact Nat.lt_irrefl _)
    have hCc : ∀ x c, X.env.cells.lookup x = some c → c ≠ C := fun x c e z => by
      obtain ⟨v, ob, ho, _⟩ := I2.cell x c e
      exact absurd (Nat.lt_of_lt_of_le (Heap.lt_size ho) hCle) (by rw [z]; exact Nat.lt_irrefl _)
    have hCp : ∀ p ∈ X.pn ++ pins, p.1 ≠ C := fun p hp z => by
      have e := (I2.pin p hp).1
      exact absurd (Nat.lt_of_lt_of_le (Heap.lt_size e) hCle) (by rw [z]; exact Nat.lt_irrefl _)
    show wpAny _ X.A (assign (.Name y py) X.env (.ref s2.heap.objs.size)) _ _ s'
    refine wpAny_assign_Name (store_ok2 I3 hN hi' hx (v := .ref s2.heap.objs.size) rfl (fun s'' I4 ⟨a, hsb, ha⟩ => ?_) hf)
    have hna : C ≠ a := by
      rcases ha with z | z
      · rw [z]; exact hCL
      · exact (hCc _ _ z).symm
    refine ⟨m, hn.sameBut hsb hna, fun h' hs' => ⟨_, H', ?_, q⟩⟩
    exact I4.turned (t' := s''.toks) (h' := h') (it := C) (fun b o hb e => (hs'.2 b hb).trans e) J.free hCL (.inr (Nat.le_trans I2.sz hCle)) hCc hCp
  · exact wpAny_pure (wpAny_pure q)

end L2

set_option Elab.async false
set_option linter.all false
set_option maxRecDepth 100000
set_option maxHeartbeats 4000000
namespace L2
open PySem PySem.Spec PyProof.Rows


section
variable {X : Cx} {tg : Expr}
end
section
variable {g : TG} {tif : TT} {te : TE} {js : List (Option Nat)} {σ : St} {H : Hp} {Q : VK}

def cTurn (g : TG) (tif : TT) (te : TE) (σ : St) (p : Addr) (acc : List V) (N : List V → Hp → Prop) (x : V) (H : Hp) : Prop :=
  g x σ H fun σ2 H3 => tif σ2 H3 fun c H4 => if c = true then te σ2 H4 fun y H5 => H5 p = some (.lst acc) ∧ N (acc ++ [y]) (upd H5 p (.lst (acc ++ [y]))) else N acc H4
theorem comp_range {lo : Int} {n : Nat} {p : Addr} (hn : n ≤ 1000000) (Pv : Nat → List V → Hp → Prop) (h0 : Pv 0 [] (upd H p (.lst [])))
    (hl : ∀ i acc H2, i ≤ n → Pv i acc H2 → H2 p = some (.lst acc) ∧ acc.length ≤ i)
    (hs : ∀ i acc H2, i < n → Pv i acc H2 → cTurn g tif te (cap js σ) p acc (Pv (i + 1)) (.int (lo + i)) H2) (hd : ∀ acc H2, Pv n acc H2 → Q (.ref p) H2) :
    CompW (Itr lo n) g tif te js σ Q p H := by
  refine ⟨fun i m acc H => m = n - i ∧ i ≤ n ∧ Pv i acc H, ⟨n, by simp, Nat.zero_le _, h0⟩, ?_⟩
  rintro i m acc H2 ⟨rfl, hi, q⟩
  obtain ⟨q1, q2⟩ := hl i acc H2 hi q
  refine ⟨q1, ?_⟩
  by_cases hlt : i < n
  · refine .inr ⟨hlt, ?_, Pv (i + 1), fun acc' H' p' => ⟨n - (i + 1), by omega, rfl, hlt, p'⟩, fun x H' y => ?_⟩
    · have : (1000000 : Nat) < sizeLine := by decide
      omega
    · obtain ⟨e, y⟩ := y
      subst e y
      exact hs i acc _ hlt q
  · have e : i = n := by omega
    subst e
    exact .inl ⟨Nat.le_refl _, hd acc H2 q⟩
theorem comp_list {K : PySem.W.Frag} {a : Addr} {xs : List V} {p : Addr} (hn : xs.length ≤ 1000000) (Pv : Nat → List V → Hp → Prop) (h0 : Pv 0 [] (upd H p (.lst [])))
    (hl : ∀ i acc H2, i ≤ xs.length → Pv i acc H2 → H2 p = some (.lst acc) ∧ acc.length ≤ i ∧ SqL K H2 a xs)
    (hs : ∀ i x acc H2, xs[i]? = some x → Pv i acc H2 → cTurn g tif te (cap js σ) p acc (Pv (i + 1)) x H2) (hd : ∀ acc H2, Pv xs.length acc H2 → Q (.ref p) H2) :
    CompW (Itl K a) g tif te js σ Q p H := by
  refine ⟨fun i m acc H => m = xs.length - i ∧ i ≤ xs.length ∧ Pv i acc H, ⟨xs.length, by simp, Nat.zero_le _, h0⟩, ?_⟩
  rintro i m acc H2 ⟨rfl, hi, q⟩
  obtain ⟨q1, q2, q3⟩ := hl i acc H2 hi q
  refine ⟨q1, ?_⟩
  by_cases hlt : i < xs.length
  · refine .inr ⟨⟨xs, xs[i], q3, by simp [hlt]⟩, ?_, Pv (i + 1), fun acc' H' p' => ⟨xs.length - (i + 1), by omega, rfl, hlt, p'⟩, fun x H' y => ?_⟩
    · have : (1000000 : Nat) < sizeLine := by decide
      omega
    · obtain ⟨e, y⟩ := y
      subst e
      exact hs i x acc _ (y xs q3) q
  · have e : i = xs.length := by omega
    subst e
    exact .inl ⟨⟨xs, q3, Nat.le_refl _⟩, hd acc H2 q⟩
end


section
variable {X : Cx}
theorem isSlice_of {h : Heap} {sl : Addr} {vl vu : Value} {lo hi : Option Int} (hs : h.IsSliceOf sl vl vu .none) (pl : IsPart vl lo) (pu : IsPart vu hi) : ∃ l u : Option (Int × Tok), l.map (·.1) = lo ∧ u.map (·.1) = hi ∧ h.IsSlice sl l u none := by
  obtain ⟨o, ho, hc, hd⟩ := hs
  cases pl with
  | none =>
    cases pu with
    | none => exact ⟨none, none, rfl, rfl, o, ho, hc, hd⟩
    | int j t => exact ⟨none, some (j, t), rfl, rfl, o, ho, hc, hd⟩
  | int i t =>
    cases pu with
    | none => exact ⟨some (i, t), none, rfl, rfl, o, ho, hc, hd⟩
    | int j t' => exact ⟨some (i, t), some (j, t'), rfl, rfl, o, ho, hc, hd⟩
def rSlS : V → Option Int → Option Int → Hp → VK → Prop := fun x lo hi H Q => ∃ z, x = .str z ∧ z.length ≤ sizeLine ∧ Q (.str (Txt.slice z lo hi)) H
theorem sl_str : SlR X rSlS := by
  intro pins s σ H x v vl vu lo hi sl Q I rx hs pl pu h
  obtain ⟨z, rfl, hz, q⟩ := h
  obtain ⟨t, rfl⟩ := rx
  obtain ⟨l, u, rfl, rfl, hsl⟩ := isSlice_of hs pl pu
  refine ⟨"str", _, F.slot_str_getitem.lookup, typeIs_str _ _ _, wpAny_getItem_str_slice (l := l) (u := u) (st := none) hsl rfl
    (post_val_or_str ⟨Nat.le_trans (Txt.slice_le z _ _) hz, fun t' k => ⟨.str (Txt.slice z (l.map (·.1)) (u.map (·.1))), H, I.tok _, ⟨_, rfl⟩, q⟩⟩)⟩
theorem strs_of {ys : List Str} : ∀ {us : List Value}, Vals (ys.map V.str) us → StrsAre us ys := by
  induction ys with
  | nil => intro us h; cases h; exact .nil
  | cons y r ih =>
    intro us h
    cases h with
    | cons r1 h =>
      obtain ⟨t, rfl⟩ := r1
      exact .cons y t (ih h)
def rJoin (K : PySem.W.Frag) : V → List V → Hp → VK → Prop := fun x xs H Q => ∃ sep p ys, x = .str sep ∧ xs = [.ref p] ∧ SqL K H p (ys.map V.str) ∧ (ys.map (·.length)).sum + ys.length * sep.length ≤ 16777216 ∧ Q (.str (Txt.join sep ys)) H
theorem mt_join : MtR X "str.join" (rJoin X.K) := by
  intro pins s σ H x xs v us Q I rx r h
  obtain ⟨sep, p, ys, rfl, rfl, hp, hl, q⟩ := h
  obtain ⟨t, rfl⟩ := rx
  obtain ⟨u, rfl, ru⟩ := vals1 r
  cases (show u = Value.ref p from ru)
  obtain ⟨its, rv, pl, hz⟩ := I.list hp
  exact join_list pl.isList (by simpa using strs_of rv) hl fun t' k => ⟨.str (Txt.join sep ys), H, I.tok _, ⟨_, rfl⟩, q⟩
theorem call_isinst : CallR X (.builtin "isinstance") (fun xs H Q => ∃ x c t b, xs = [x, .ty c] ∧ TyOf X.K H x t ∧ PySem.W.kitOne X.K t (.type c) = some b ∧ Q (.bl b) H) := by
  intro pins s σ H xs us Q I r h
  obtain ⟨x, c, t, b, rfl, ty, hk, q⟩ := h
  obtain ⟨u, w', rfl, rx, rc⟩ := vals2 r
  cases (show w' = Value.type c from rc)
  exact isinst_ok I rx ty hk fun tk => ⟨.bl b, H, I.tok _, rfl, q⟩
end


def litV : Expr → Option V
  | .Constant (.str x) _ _ => some (.str x)
  | .Constant (.int i) _ _ => some (.int i)
  | .Constant (.bool b) _ _ => some (.bl b)
  | .Constant .none _ _ => some .non
  | _ => none
def litsOf : List Expr → Option (List V)
  | [] => some []
  | e :: r => match litV e, litsOf r with
    | some v, some vs => some (v :: vs)
    | _, _ => none
theorem pe_lit {X : Cx} {e : Expr} {v : V} (h : litV e = some v) : PE X e (tC v) := by
  unfold litV at h
  split at h
  · cases h; exact pe_str
  · cases h; exact pe_int
  · cases h; exact pe_bl
  · cases h; exact pe_non
  · cases h
theorem star_lit {X : Cx} {e : Expr} {es : List Expr} {v : V} (h : litV e = some v) : starEach (e :: es) X.env = (false, eval e X.env) :: starEach es X.env := by
  unfold litV at h
  split at h <;> first | rfl | cases h
theorem pa_lits {X : Cx} : ∀ {es : List Expr} {vs : List V}, litsOf es = some vs → PA X es (fun _ H Q => Q vs H)
  | [], vs, h => by
    cases h
    exact pa_nil
  | e :: r, vs, h => by
    unfold litsOf at h
    split at h
    · rename_i v vs' h1 h2
      cases h
      exact pa_cons (pe_lit h1) (pa_lits h2) (star_lit h1)
    · cases h


theorem Same.tup {K : PySem.W.Frag} {H H' : Hp} {a : Addr} {xs : List V} (e : Same H H') (h : SqT K H a xs) : SqT K H' a xs := by
  rcases h with (h | ⟨o, h⟩) | h
  · exact .inl (.inl (e _ _ h))
  · exact .inl (.inr ⟨o, e _ _ h⟩)
  · exact .inr h
theorem Same.new {H : Hp} {p : Addr} {o : HO} (h : H p = none) : Same H (upd H p o) := fun b u e => by
  rw [upd_ne (ne_of_none e h)]
  exact e

theorem Same.upd {H H' : Hp} {p : Addr} {o : HO} (e : Same H H') (h : H p = none) : Same H (upd H' p o) := fun b u q => by
  rw [upd_ne (ne_of_none q h)]
  exact e b u q
end L2

set_option Elab.async false
set_option linter.all false
set_option maxRecDepth 100000
set_option maxHeartbeats 4000000
namespace L2
open PySem PySem.Spec PyProof.Rows


structure DefOk (K : PySem.W.Frag) (mg : Str → Option Value) (name : Str) (st : Stmt) (ps : List Str) (f : Addr) (fd : FuncData) : Prop where
  F : Fun K name name st f fd
  g : mg name = some (.ref f)
  b : Binds K fd ps []
section
variable {X : Cx} {k : Nat} {f : Addr} {fd : FuncData} {ps : List Str} {sp : Sp} {x : Str} {st : Stmt} {p pos : Pos} {e : Expr} {es : List Expr} {t : TA}
theorem callD (D : DefOk X.K X.mg x st ps f fd) (G : FnOk X.prog X.w X.K X.mg X.base CX0 k f fd ps sp) (hr : Room k X.A) (ha : PA X (e :: es) t) (hg : Gl X x := by rfl)
    (hdb : (x == ("__debug__" : Str)) = false := by decide) (he : starEach (e :: es) X.env = (false, eval e X.env) :: starEach es X.env := by rfl) (hpl : (backTo pos (starEach es X.env)).any (·.1) = false := by rfl) :
    PE X (.Call (.Name x p) (e :: es) [] pos) (tCall sp [] E0 t) := pe_call G hr hg D.g D.F.kp D.b .nil pass0 ha hdb he hpl
theorem pe_gtuple {a : Addr} (h : X.mg x = some (.ref a)) (hg : Gl X x := by rfl) (hd : (x == ("__debug__" : Str)) = false := by decide) : PE X (.Name x pos) (tC (.ref a)) := pe_glob hg h rfl hd
end
theorem defOk_mk {K : PySem.W.Frag} {mg : Str → Option Value} {h : Heap} {name : Str} {st : Stmt} {ps : List Str} {f : Addr} {oc : Value} {od an : Option Addr} {osl : Array (Option Value)} {kV doc pm cdv ct : Value} (X : K.In h) (G : h.Ns mainGlobals mg)
    (a : PySem.W.nsIn K mainGlobals name = some (some (.ref f))) (l : K.lookup f = some ⟨oc, od, .func (PySem.W.fnOf name name (defArgs st) (defBody st) (defScope st) .none kV doc pm an cdv ct), osl⟩) (c : PySem.W.codeIn K cdv name = true) (k : PySem.W.keepIn K (.ref f) = true)
    (b : ∀ (kV doc pm : Value) (an : Option Addr) (cdv ct : Value) (us : List Value), us.length = ps.length → bindArgs (PySem.W.fnOf name name (defArgs st) (defBody st) (defScope st) .none kV doc pm an cdv ct) ⟨us, []⟩ = pure (ps.zip us)) :
    DefOk K mg name st ps f (PySem.W.fnOf name name (defArgs st) (defBody st) (defScope st) .none kV doc pm an cdv ct) :=
  ⟨fun_mk l c k, PySem.W.mg_of X G a, (fun_mk l c k).binds b⟩


theorem atI_some {α : Type} {xs : List α} {i : Int} (h0 : 0 ≤ i) (h1 : i < xs.length) : ∃ v, atI xs i = some v ∧ v ∈ xs := by
  have hi : i.toNat < xs.length := by omega
  refine ⟨xs[i.toNat], ?_, List.getElem_mem hi⟩
  have := atI_nat (xs := xs) (j := i.toNat) (v := xs[i.toNat]) (by simp [hi])
  have e : ((i.toNat : Nat) : Int) = i := by omega
  rwa [e] at this
theorem at_ints {ns : List Int} {i : Int} (h0 : 0 ≤ i) (h1 : i < ns.length) : ∃ z, atI (ns.map V.int) i = some (.int z) := by
  obtain ⟨v, e, hv⟩ := atI_some (xs := ns.map V.int) h0 (by rw [List.length_map]; exact h1)
  obtain ⟨z, _, rfl⟩ := List.mem_map.mp hv
  exact ⟨z, e⟩
theorem dec_true {p : Prop} [Decidable p] (h : decide p = true) : p := of_decide_eq_true h
end L2
namespace L2
open PySem PySem.Spec PyProof.Rows
theorem iteP {c A B : Prop} [Decidable c] (hc : c) (h : A) : if c then A else B := by
  rw [if_pos hc]
  exact h
theorem iteN {c A B : Prop} [Decidable c] (hc : ¬ c) (h : B) : if c then A else B := by
  rw [if_neg hc]
  exact h
end L2
namespace L2
open PySem
theorem bt_len : bootBuiltins "len" = some (.builtin "len") := by decide +kernel
theorem bt_isinstance : bootBuiltins "isinstance" = some (.builtin "isinstance") := by decide +kernel
theorem bt_str : bootBuiltins "str" = some (.type "str") := by decide +kernel
theorem bt_int : bootBuiltins "int" = some (.type "int") := by decide +kernel
theorem bt_bool : bootBuiltins "bool" = some (.type "bool") := by decide +kernel
theorem bt_list : bootBuiltins "list" = some (.type "list") := by decide +kernel
theorem bt_tuple : bootBuiltins "tuple" = some (.type "tuple") := by decide +kernel
theorem bt_dict : bootBuiltins "dict" = some (.type "dict") := by decide +kernel
theorem bt_enumerate : bootBuiltins "enumerate" = some (.type "enumerate") := by decide +kernel
end L2

set_option Elab.async false
set_option linter.all false
set_option maxRecDepth 100000
set_option maxHeartbeats 4000000
namespace L2
open PySem PySem.Spec PyProof.Rows


mutual
def DatV (K : PySem.W.Frag) (H : Hp) : PyData → V → Prop
  | .none, v => v = .non
  | .bool b, v => v = .bl b
  | .int i, v => v = .int i
  | .str x, v => v = .str x
  | .list ds, v => ∃ a xs, v = .ref a ∧ SqL K H a xs ∧ DatAll K H ds xs
  | .tuple ds, v => ∃ a xs, v = .ref a ∧ SqT K H a xs ∧ DatAll K H ds xs
  | .dict _, _ => False
def DatAll (K : PySem.W.Frag) (H : Hp) : List PyData → List V → Prop
  | [], xs => xs = []
  | d :: ds, xs => ∃ x r, xs = x :: r ∧ DatV K H d x ∧ DatAll K H ds r
end
section
variable {X : Cx} {pins : List (Addr × Obj)} {σ : St} {H : Hp} {s : Shared}
mutual
theorem reads_of (I : Inv X pins σ H s) : ∀ (d : PyData) (v : V) (u : Value), DatV X.K H d v → RelV v u → ∃ as, Reads s.heap u d as
  | .none, v, u, h, r => by
    unfold DatV at h
    subst h
    cases (show u = Value.none from r)
    exact ⟨_, .none⟩
  | .bool b, v, u, h, r => by
    unfold DatV at h
    subst h
    cases (show u = Value.bool b from r)
    exact ⟨_, .bool b⟩
  | .int i, v, u, h, r => by
    unfold DatV at h
    subst h
    obtain ⟨t, rfl⟩ := (show ∃ t, u = Value.int i t from r)
    exact ⟨_, .int i t⟩
  | .str x, v, u, h, r => by
    unfold DatV at h
    subst h
    obtain ⟨t, rfl⟩ := (show ∃ t, u = Value.str x t from r)
    exact ⟨_, .str x t⟩
  | .list ds, v, u, h, r => by
    unfold DatV at h
    obtain ⟨a, xs, rfl, hq, hd⟩ := h
    cases (show u = Value.ref a from r)
    obtain ⟨its, rv, ⟨o, n, ho, hc, _, hdt⟩, _⟩ := I.list hq
    obtain ⟨as, ra⟩ := readsAll_of I ds xs its hd rv
    exact ⟨_, .list ho hc hdt (by simpa using ra)⟩
  | .tuple ds, v, u, h, r => by
    unfold DatV at h
    obtain ⟨a, xs, rfl, hq, hd⟩ := h
    cases (show u = Value.ref a from r)
    obtain ⟨its, rv, ⟨o, ho, hc, n, hdt⟩, _⟩ := I.tuple hq
    obtain ⟨as, ra⟩ := readsAll_of I ds xs its hd rv
    exact ⟨_, .tuple ho hc hdt (by simpa using ra)⟩
  | .dict _, v, u, h, r => by
    unfold DatV at h
    exact h.elim
theorem readsAll_of (I : Inv X pins σ H s) : ∀ (ds : List PyData) (xs : List V) (us : List Value), DatAll X.K H ds xs → Vals xs us → ∃ as, ReadsAll s.heap us ds as
  | [], xs, us, h, r => by
    unfold DatAll at h
    subst h
    cases r
    exact ⟨_, .nil⟩
  | d :: ds, xs, us, h, r => by
    unfold DatAll at h
    obtain ⟨x, rest, rfl, hd, hds⟩ := h
    cases r with
    | cons r1 r2 =>
      obtain ⟨as, ra⟩ := reads_of I d _ _ hd r1
      obtain ⟨bs, rb⟩ := readsAll_of I ds _ _ hds r2
      exact ⟨_, .cons ra rb⟩
end
end

def rEqD (K : PySem.W.Frag) : R2 := fun x y H Q => ∃ d e, DatV K H d x ∧ DatV K H e y ∧ SeqAt.shaped d = true ∧ SeqAt.shaped e = true ∧ Q (.bl (PyData.eqv d e)) H
def rNeD (K : PySem.W.Frag) : R2 := fun x y H Q => ∃ d e, DatV K H d x ∧ DatV K H e y ∧ SeqAt.shaped d = true ∧ SeqAt.shaped e = true ∧ Q (.bl (!PyData.eqv d e)) H
theorem op_eqD {X : Cx} (hu : X.A.units + 64 < cLine) : OpR X (compareOp .Eq) (rEqD X.K) := by
  intro pins s σ H x y v u Q I rx ry h
  obtain ⟨d, e, hd, he, sd, se, q⟩ := h
  obtain ⟨as, ra⟩ := reads_of I d x v hd rx
  obtain ⟨bs, rb⟩ := reads_of I e y u he ry
  exact SeqAt.compareEq_shaped ra rb sd se hu ⟨.bl _, H, I, rfl, q⟩
theorem op_neD {X : Cx} (hu : X.A.units + 64 < cLine) : OpR X (compareOp .NotEq) (rNeD X.K) := by
  intro pins s σ H x y v u Q I rx ry h
  obtain ⟨d, e, hd, he, sd, se, q⟩ := h
  obtain ⟨as, ra⟩ := reads_of I d x v hd rx
  obtain ⟨bs, rb⟩ := reads_of I e y u he ry
  exact SeqAt.compareNe_shaped ra rb sd se hu ⟨.bl _, H, I, rfl, q⟩


section
variable {prog : Program} {w : World} {A : Around} {E : Value → Shared → Prop}
theorem draw_list {it t : Addr} {items : Array Value} (hne : t ≠ it) : ∀ (n i : Nat) (s : Shared) (Q : List Value → Shared → Prop), s.heap.IsListIter it t i → s.heap.IsList t items → i + n ≤ items.size →
    (∀ h', h'.IsListIter it t (i + n) → Heap.SameBut it s.heap h' → Q ((items.toList.drop i).take n) { s with heap := h' }) → wpAny (model prog w) A (draw (.ref it) n) Q E s
  | 0, i, s, Q, hit, _, _, hQ => by
    show wpAny _ _ (pure []) Q E s
    exact wpAny_pure (by simpa using hQ s.heap hit (Heap.SameBut.refl ..))
  | n + 1, i, s, Q, hit, ht, hle, hQ => by
    have hlt : i < items.size := by omega
    show wpAny _ _ (pyNext (.ref it) >>= _) Q E s
    refine wpAny_bind (wpAny_pyNext_list_item hit ht (x := items[i]) (by simp [hlt]) fun h₁ hit₁ hs₁ => ?_)
    refine wpAny_bind (wpAny_holding (draw_list hne n (i + 1) _ _ hit₁ (ht.extBut hs₁.extBut hne) (by omega) fun h₂ hit₂ hs₂ => wpAny_pure ?_))
    have hd : items.toList.drop i = items[i] :: items.toList.drop (i + 1) := by simp [List.drop_eq_getElem_cons, hlt]
    have := hQ h₂ (by rw [show i + (n + 1) = i + 1 + n by omega]; exact hit₂) (hs₁.trans hs₂)
    rw [hd, List.take_succ_cons] at this
    exact this
theorem unpackItems_list {s : Shared} {t : Addr} {items : Array Value} {Q : List Value → Shared → Prop} (hh : A.handled = none) (ht : s.heap.IsList t items)
    (hQ : ∀ h', Heap.ExtBut s.heap.objs.size s.heap h' → Q items.toList { s with heap := h' }) : wpAny (model prog w) A (unpackItems (.ref t) items.size none) Q E s := by
  have hlt : t ≠ s.heap.objs.size := by obtain ⟨o, ho, _⟩ := ht; exact Nat.ne_of_lt (Heap.lt_size ho)
  unfold unpackItems
  refine wpAny_bind ?_
  unfold notIterableAtAll
  refine wpAny_bind (wpAny_specialOf ht.typeIs slot_list_iter.lookup ?_)
  refine wpAny_pure ?_
  simp only [Bool.false_eq_true, if_false]
  refine wpAny_bind (wpAny_holding (wpAny_pyIter_list ht ?_))
  refine wpAny_bind (wpAny_holding (draw_list hlt items.size 0 _ _ ⟨_, Heap.get?_push_size _ rfl, rfl, rfl⟩ (ht.push _) (by omega) fun h₁ hit₁ hs₁ => ?_))
  have hall : List.take items.size (List.drop 0 items.toList) = items.toList := by
    rw [List.drop_zero]; exact List.take_of_length_le (by simp)
  rw [hall]
  rw [if_neg (by simp)]
  have ht₁ : h₁.IsList t items := (ht.push _).extBut hs₁.extBut hlt
  refine wpAny_bind (wpAny_holding (wpAny_pyNext_list_end hh hit₁ ht₁ (by simp) fun h₂ he₂ => ?_))
  simp only [Option.isSome_none, Bool.false_eq_true, if_false]
  refine wpAny_pure (hQ h₂ fun b o hb e => he₂ b o hb (hs₁.extBut b o hb (Heap.get?_push_of_some _ e)))
end

def gLst (K : PySem.W.Frag) (n : Nat) (t : TGs) : TG := fun v σ H Q => ∃ a xs, v = .ref a ∧ SqL K H a xs ∧ xs.length = n ∧ t xs σ H Q
theorem pg_lst {X : Cx} {pos : Pos} {es : List Expr} {k : Nat} {t : TGs} {n : Nat} (hc : X.calm = true) (h : PGs X es t)
    (hn : (assignEach es X.env).length = n := by rfl) (hst : (assignEach es X.env).findIdx? (·.1) = none := by rfl) : PG X (.Tuple es k pos) (gLst X.K n t) := by
  intro pins s σ H v u Q I r hw
  obtain ⟨a, xs, e1, hq, hl, hw⟩ := hw
  subst e1
  cases r
  obtain ⟨its, rv, ht, hz⟩ := I.list hq
  have hlen := rv.length
  rw [assign_Tuple]
  refine wpAny_bind (wpAny_standAt ?_)
  unfold unpack
  rw [hst, hn, ← hl, hlen, show its.length = its.toArray.size by simp]
  refine wpAny_bind (wpAny_holding (unpackItems_list (I.ok.hd hc) ht.isList fun h' hx => ?_))
  have I1 : Inv X pins σ H { s with heap := h' } := I.kept (t' := s.toks) fun b o e => hx b o (Nat.ne_of_lt (Heap.lt_size e)) e
  exact h pins _ σ H xs _ Q I1 (by simpa using rv) hw


end L2
namespace L2
open PySem PySem.Spec PyProof.Rows
end L2

set_option Elab.async false
set_option linter.all false
set_option maxRecDepth 100000
set_option maxHeartbeats 4000000
namespace PySem
theorem gx_keys_list : typeLookup (.type "list") "keys" = pure none := by rw [typeLookup_type, builtinLookup_eq_fast]; kernel_rfl
theorem gx_entry_loop : entryFor table "dict.update.loop" = some Builtin.«dict.update.loop» := entryFor_of_tree (by kernel_rfl)
theorem gx_plain_loop : plainId "dict.update.loop" = true := by decide +kernel
theorem gx_noKeys {prog : Program} {w : World} {A : Around} {E : Value → Shared → Prop} {s : Shared} {a : Addr} {o : Obj} {xs : Array Value} {k : Nat} {Q : Option Value → Shared → Prop}
    (hx : s.heap.get? a = some o) (hc : o.cls = .type "list") (hdat : o.data = .seq xs k) (hd : o.dict = none) (hA : A.handled = none)
    (h : ∀ h' tk, (∀ b ob, s.heap.get? b = some ob → h'.get? b = some ob) → Q none { s with heap := h', toks := tk }) :
    wpAny (model prog w) A (getAttr? (.ref a) "keys") Q E s := by
  obtain ⟨c, dct, dat, sl⟩ := o
  simp only at hc hdat hd
  subst hc hdat hd
  obtain ⟨hp, g, d, tk, os⟩ := s
  have hT : ∀ tk', (⟨hp, g, d, tk', os⟩ : Shared).TypeIs (.ref a) "list" := fun _ => ⟨_, hx, rfl⟩
  have f1 := sub_AttributeError
  have f3 := F.slot_list_getattribute.lookup
  have f4 := F.slot_list_getattribute.bind (.ref a)
  have f5 := am_list_getattr_none
  unfold getAttr? getAttrBy? getAttrBy
  repeat (any_goals (first | assumption | exact hT _ | ((with_reducible show wpAny _ _ (call (Value.builtin "list.__getattribute__") _ _) _ _ _); refine call_meets F.slot_list_getattribute (hT _) am_entry_list_getattribute (F.args_list_getattribute_2 _ _) (meets_getattribute_miss_list a xs k sl "keys" _ gx_keys_list (by decide +kernel) (by decide +kernel)) ⟨hx, hA, fun h' tk' e hx' => ?_⟩) | wp_step))
  obtain ⟨t', u', he⟩ := hx'.there
  try (show wpAny _ _ (getattributeRaised _ _ _ _ _ _ _) _ _ _)
  try unfold getattributeRaised
  repeat (any_goals (first | assumption | wp_step))
  all_goals (first | exact h _ _ hx'.keeps | trace_state)
end PySem
namespace L2
open PySem PySem.Spec PyProof.Rows
section
variable {X : Cx} {pins : List (Addr × Obj)} {σ : St} {H : Hp}
theorem paired_at {α β : Type} {F : α → β → Prop} : ∀ {l : List α} {m : List β}, Paired F l m → ∀ {i : Nat} (h1 : i < l.length) (h2 : i < m.length), F l[i] m[i]
  | _, _, .cons h _, 0, _, _ => h
  | _, _, .cons _ t, i + 1, h1, h2 => by
    have := paired_at t (i := i) (by simpa using h1) (by simpa using h2)
    simpa using this

theorem dict_loop {A : Around} {R : Result → Shared → Prop} {p D it : Addr} {ps : List Addr} {kvs : List (Key × V)} (hA : A.handled = none) (hpD : p ≠ D) (hS : SqL X.K H p (ps.map V.ref)) (hps : Paired (fun a (kv : Key × V) => SqT X.K H a [kV kv.1, kv.2]) ps kvs)
    (hD : H D = none) (hz : kvs.length ≤ 100000) (hit0 : it ≠ D)
    (hR : ∀ s', Inv X pins σ (upd H D (.dK (kvs.foldl (fun acc kv => putK acc kv.1 kv.2) []))) s' → R (.ok (.ret .none)) s') :
    ∀ (k i : Nat) (t : Tok) (s : Shared), kvs.length - i = k → i ≤ kvs.length → Inv X pins σ (upd H D (.dK ((kvs.take i).foldl (fun acc kv => putK acc kv.1 kv.2) []))) s → s.heap.IsListIter it p i →
      (∀ H', H' it = none → FpOk X pins H' it) → H it = none → codeAny (model X.prog X.w) A (.builtin "dict.update.loop" ⟨[.ref D, .ref it, .int (i : Nat) t, .none], []⟩) R s := by
  have sameD : ∀ o, Same H (upd H D o) := fun o => Same.new hD
  have hlen : ps.length = kvs.length := hps.length
  have flen : ∀ (l : List (Key × V)) (acc : List (Key × V)), (l.foldl (fun acc kv => putK acc kv.1 kv.2) acc).length ≤ acc.length + l.length := by
    intro l
    induction l with
    | nil => intro acc; simp
    | cons x r ih =>
      intro acc
      rw [List.foldl_cons]
      have h1 := ih (putK acc x.1 x.2)
      have h2 := length_putK acc x.1 x.2
      simp only [List.length_cons]
      omega
  have big : (100000 : Nat) < sizeLine := by decide
  intro k
  induction k with
  | zero =>
    intro i t s hk hi I hit hfp hHit
    have e : i = kvs.length := by omega
    subst e
    rw [List.take_length] at I
    obtain ⟨its, rv, pl, hz'⟩ := I.list ((sameD _).seq hS)
    obtain ⟨f0, f1, f2, f3, f4, f5⟩ := hfp (upd H D (.dK (kvs.foldl (fun acc kv => putK acc kv.1 kv.2) []))) (by rw [upd_ne hit0]; exact hHit)
    refine codeAny_builtin gx_entry_loop ?_
    rw [Around.under_plainId gx_plain_loop _]
    show wpAny _ A.in1 (pyNext (.ref it) >>= _) _ _ s
    have hl := rv.length
    rw [List.length_map] at hl
    refine wpAny_bind (wpAny_pyNext_list_end hA hit pl.isList (by simp; omega) fun h' eb => ?_)
    have I1 : Inv X pins σ (upd H D (.dK (kvs.foldl (fun acc kv => putK acc kv.1 kv.2) []))) { s with heap := h' } := I.turned (t' := s.toks) (fun b o hb e => eb b o hb e) f0 f1 f3 f4 f5
    show wpAny _ _ (Builtin.Dict.addKeywords D [] >>= _) _ _ _
    exact wpAny_bind (wpAny_pure (wpAny_pure (hR _ I1)))
  | succ k ih =>
    intro i t s hk hi I hit hfp hHit
    have hlt : i < kvs.length := by omega
    obtain ⟨its, rv, pl, hz'⟩ := I.list ((sameD _).seq hS)
    have hpi : (ps.map V.ref)[i]? = some (.ref (ps[i]'(by omega))) := by simp [show i < ps.length by omega]
    obtain ⟨u, hu, ru⟩ := rv.get hpi
    cases (show u = Value.ref _ from ru)
    obtain ⟨f0, f1, f2, f3, f4, f5⟩ := hfp (upd H D (.dK ((kvs.take i).foldl (fun acc kv => putK acc kv.1 kv.2) []))) (by rw [upd_ne hit0]; exact hHit)
    refine codeAny_builtin gx_entry_loop ?_
    rw [Around.under_plainId gx_plain_loop _]
    show wpAny _ A.in1 (pyNext (.ref it) >>= _) _ _ s
    refine wpAny_bind (wpAny_pyNext_list_item hit pl.isList (x := .ref ps[i]) (by simpa using hu) fun h' hit' sb => ?_)
    have I1 : Inv X pins σ (upd H D (.dK ((kvs.take i).foldl (fun acc kv => putK acc kv.1 kv.2) []))) { s with heap := h' } := I.turned (t' := s.toks) (fun b o hb e => (sb.2 b hb).trans e) f0 f1 f3 f4 f5
    have hpair : SqT X.K H ps[i] [kV (kvs[i]).1, (kvs[i]).2] := paired_at hps (by omega) hlt
    obtain ⟨its2, rv2, ⟨o2, ho2, hc2, n2, hd2⟩, _⟩ := I1.tuple ((sameD _).tup hpair)
    cases rv2 with
    | cons r1 rr =>
      cases rr with
      | cons r2 rr =>
        cases rr
        rename_i ku vu
        refine wpAny_bind (wpAny_holding (wpAny_bind (wpAny_tryCatch ?_)))
        show wpAny _ _ (Builtin.Dict.pairItems (.ref ps[i])) _ _ _
        unfold Builtin.Dict.pairItems
        refine wpAny_bind (wpAny_typeOf (T := "tuple") ⟨o2, ho2, hc2⟩ ?_)
        rw [if_pos (by decide)]
        refine wpAny_bind ?_
        show wpAny _ _ (load ps[i] >>= _) _ _ _
        refine wpAny_bind (wpAny_load ho2 ?_)
        rw [hd2]
        refine wpAny_pure (wpAny_pure ?_)
        show wpAny _ _ (holding [ku, vu] (dictSet D ku vu)) _ _ _
        refine wpAny_holding ?_
        obtain ⟨z, hd, vs, rel, dd⟩ := dk_of I1.hok upd_same
        have hl1 := flen (kvs.take i) []
        have hl2 : (kvs.take i).length ≤ kvs.length := by rw [List.length_take]; omega
        simp only [List.length_nil, Nat.zero_add] at hl1
        have hzv : vs.length ≤ sizeLine := by rw [← rel.length]; exact z
        refine wpAny_dictSet_pairs (hsz := hzv) (kV_is r1) dd fun h2 dd2 hs2 => ?_
        have he : ∃ q, h2.get? D = some q := let ⟨q, _, _, hq, _⟩ := dd2; ⟨q, hq⟩
        have hl3 : (putK ((kvs.take i).foldl (fun acc kv => putK acc kv.1 kv.2) []) (kvs[i]).1 (kvs[i]).2).length ≤ sizeLine := by
          have := length_putK ((kvs.take i).foldl (fun acc kv => putK acc kv.1 kv.2) []) (kvs[i]).1 (kvs[i]).2
          omega
        have I2 := d_write (t' := ({ s with heap := h' } : Shared).toks + 1) I1 (by rw [upd_same]; exact True.intro) hs2 he (dk_new hl3 hd (rel.put (kvs[i]).1 r2) dd2)
        rw [upd_upd] at I2
        have e3 : (kvs.take (i + 1)).foldl (fun acc kv => putK acc kv.1 kv.2) [] = putK ((kvs.take i).foldl (fun acc kv => putK acc kv.1 kv.2) []) (kvs[i]).1 (kvs[i]).2 := by
          rw [List.take_add_one, List.foldl_append]
          simp [hlt]
        rw [← e3] at I2
        have hit2 : h2.IsListIter it p (i + 1) := by
          obtain ⟨oi, hoi, ri⟩ := hit'
          exact ⟨oi, (hs2.2 it hit0).trans hoi, ri⟩
        refine wpAny_pure ⟨plainId_quiet gx_plain_loop _, ?_⟩
        have := ih (i + 1) 0 _ (by omega) (by omega) I2 hit2 hfp hHit
        exact this
end
end L2

set_option Elab.async false
set_option linter.all false
set_option maxRecDepth 100000
set_option maxHeartbeats 4000000
namespace L2
open PySem PySem.Spec PyProof.Rows
section
variable {X : Cx}

def rDictOf (K : PySem.W.Frag) : List V → Hp → VK → Prop := fun xs H Q => ∃ (p : Addr) (ps : List Addr) (kvs : List (Key × V)), xs = [.ref p] ∧ SqL K H p (ps.map V.ref) ∧ Paired (fun a (kv : Key × V) => SqT K H a [kV kv.1, kv.2]) ps kvs ∧ kvs.length ≤ 100000 ∧
  ∀ d, H d = none → Q (.ref d) (upd H d (.dK (kvs.foldl (fun acc kv => putK acc kv.1 kv.2) [])))
theorem call_dict_of (hc : X.calm = true) : CallR X (.type "dict") (rDictOf X.K) := by
  intro pins s σ H xs us Q I r h
  obtain ⟨p, ps, kvs, rfl, hS, hps, hz, q⟩ := h
  obtain ⟨u, rfl, ru⟩ := vals1 r
  cases (show u = Value.ref p from ru)
  have hA := I.ok.hd hc
  have hD : H s.heap.objs.size = none := I.hok.fresh (Nat.le_refl _)
  obtain ⟨its, rv, pl, _⟩ := I.list hS
  have hplt : p < s.heap.objs.size := pl.lt
  have I0 : Inv X pins σ (upd H s.heap.objs.size (.dK [])) { s with heap := s.heap.push { cls := .type "dict", data := .dict #[] } } :=
    I.laid (a := s.heap.objs.size) (o := .dK []) (t' := s.toks) (fun _ _ q => Heap.get?_push_of_some _ q) (Nat.le_refl _) (dk_empty s.heap I.big)
  refine callType_codes (Q₁ := fun obj s₁ => obj = .ref s.heap.objs.size ∧ s₁ = { s with heap := s.heap.push { cls := .type "dict", data := .dict #[] } }) PySem.F.kt_called_dict (PySem.F.kt_typeCall_dict_1 _) PySem.F.entry_dict_init (kt_code_dict_new _ ⟨rfl, rfl⟩) ?_
  rintro obj s₁ ⟨rfl, rfl⟩
  have hnew : (s.heap.push { cls := .type "dict", data := .dict #[] }).DictOf (mixKind X.prog X.w) s.heap.objs.size [] := Heap.DictOf.new s.heap
  refine ⟨hnew.typeIs, PySem.F.args_dict_init_2 _ _, ?_⟩
  unfold Builtin.«dict.__init__»
  refine wpAny_bind ?_
  unfold Builtin.Dict.selfAndRest
  refine wpAny_bind (wpAny_notOrdered_dict hnew.typeIs ?_)
  show wpAny _ _ (pure (s.heap.objs.size, [Value.ref p])) _ _ _
  refine wpAny_pure ?_
  show wpAny _ _ (Builtin.Dict.updateFrom "dict.__init__" s.heap.objs.size (.ref p) [] .none) _ _ _
  unfold Builtin.Dict.updateFrom
  obtain ⟨o, n, ho, hcl, hdi, hda⟩ := pl
  have ho1 : (s.heap.push { cls := .type "dict", data := .dict #[] }).get? p = some o := Heap.get?_push_of_some _ ho
  refine wpAny_bind (wpAny_typeOf (T := "list") ⟨o, ho1, hcl⟩ ?_)
  rw [if_pos (by decide)]
  refine wpAny_bind (gx_noKeys (s := { s with heap := s.heap.push { cls := .type "dict", data := .dict #[] } }) ho1 hcl hda hdi hA fun h' tk hk => ?_)
  have I1 : Inv X pins σ (upd H s.heap.objs.size (.dK [])) { s with heap := h', toks := tk } := I0.kept hk
  rw [if_pos (by rfl)]
  refine wpAny_bind (wpAny_rule ?_)
  have ho2 : h'.get? p = some o := hk _ _ ho1
  refine wpAny_bind (wpAny_pyIter_list (s := { s with heap := h', toks := tk }) (items := its.toArray) ⟨o, ho2, hcl, n, hda⟩ ?_)
  have I2 : Inv X pins σ (upd H s.heap.objs.size (.dK [])) { s with heap := h'.push { cls := .type "list_iterator", data := .fields #[.ref p, .int 0 0] }, toks := tk } := I1.kept (t' := tk) fun b o e => Heap.get?_push_of_some _ e
  have hsz : s.heap.objs.size < h'.objs.size := by
    have e : (s.heap.push { cls := .type "dict", data := .dict #[] }).get? s.heap.objs.size = some { cls := .type "dict", data := .dict #[] } := Heap.get?_push_size _ rfl
    exact Heap.lt_size (hk _ _ e)
  have hit0 : h'.objs.size ≠ s.heap.objs.size := Nat.ne_of_gt hsz
  have hHit : H h'.objs.size = none := I.hok.fresh (Nat.le_of_lt hsz)
  refine wpAny_pure ⟨plainId_quiet gx_plain_loop _, ?_⟩
  refine dict_loop (A := X.A.in1) (it := h'.objs.size) hA (Nat.ne_of_lt hplt) hS hps hD hz hit0 (fun s' J => ⟨rfl, .ref s.heap.objs.size, _, J, rfl, q _ hD⟩) kvs.length 0 0 _ (by omega) (Nat.zero_le _) (by simpa using I2) ⟨_, Heap.get?_push_size _ rfl, rfl, rfl⟩ (fun H' hn => I1.fpOk (Nat.le_refl _) hn) hHit
end
end L2

set_option Elab.async false
set_option linter.all false
set_option maxRecDepth 100000
set_option maxHeartbeats 4000000
namespace L2
open PySem PySem.Spec PyProof.Rows PySem.W
section
variable {prog : Program} {w : World} {A : Around} {E : Value → Shared → Prop} {s : Shared} {δ : Type} {R : δ → Value → Prop} {a : Addr} {D : List (Str × δ)} {k : Str} {tk : Tok} {d : δ}
end

end L2

set_option Elab.async false
set_option linter.all false
set_option maxRecDepth 100000
set_option maxHeartbeats 4000000
namespace L2
open PySem PySem.Spec PyProof.Rows

end L2
namespace L2
open PySem

def isLitL : Expr → Option (List V)
  | .List es _ => litsOf es
  | _ => none
def isLitT : Expr → Option (List V)
  | .Tuple es _ _ => litsOf es
  | _ => none
theorem pe_litL {X : Cx} {e : Expr} {vs : List V} (h : isLitL e = some vs) : PE X e (tLst fun _ H Q => Q vs H) := by
  unfold isLitL at h
  split at h
  · exact pe_lst (pa_lits h)
  · cases h
theorem pe_litT {X : Cx} {e : Expr} {vs : List V} (h : isLitT e = some vs) : PE X e (tTup fun _ H Q => Q vs H) := by
  unfold isLitT at h
  split at h
  · exact pe_tup (pa_lits h)
  · cases h
end L2

set_option Elab.async false
set_option linter.all false
set_option maxRecDepth 100000
set_option maxHeartbeats 4000000
namespace L2
open PySem PySem.Spec PyProof.Rows

section
variable {prog : Program} {w : World} {A : Around} {E : Value → Shared → Prop} {s : Shared}
theorem gx_nextOf_tup {it t : Addr} {i : Nat} {items : Array Value} {x : Value} {Q : Value → Shared → Prop} (hit : s.heap.IsTupleIter it t i) (ht : s.heap.IsTuple t items) (hx : items[i]? = some x)
    (hQ : ∀ h', h'.IsTupleIter it t (i + 1) → Heap.SameBut it s.heap h' → Q x { s with heap := h' }) : wpAny (model prog w) A (Builtin.SmallTypes.nextOf (.ref it)) Q E s := by
  obtain ⟨⟨o, ho, hc, hd⟩, ⟨ol, hol, _, nl, hdl⟩⟩ := (⟨id hit, ht⟩ : _ ∧ _)
  unfold Builtin.SmallTypes.nextOf; refine wpAny_bind (wpAny_callSpecial?_slot (name := Str.ofString "__next__") hit.typeIs F.slot_tuple_iterator_next (wpAny_call_entry F.slot_tuple_iterator_next hit.typeIs F.entry_tuple_iterator_next ?_ (F.args_tuple_iterator_next_1 _)))
  show wpAny (model prog w) _ (field (.ref it) 0 >>= _) _ _ s; refine wpAny_bind (wpAny_field ho hd (x := .ref t) rfl ?_)
  show wpAny (model prog w) _ (if (Value.ref t == Value.none) = true then _ else _) _ _ s; rw [if_neg (by exact Bool.false_ne_true)]
  show wpAny (model prog w) _ (field (.ref it) 1 >>= _) _ _ s; refine wpAny_bind (wpAny_field ho hd (x := .int i 0) rfl ?_)
  show wpAny (model prog w) _ (seqItems? (.ref t) >>= _) _ _ s; refine wpAny_bind (wpAny_seqItems hol hdl ?_); simp only [Int.toNat_natCast, hx]
  refine wpAny_bind (wpAny_setField ho hd (by simp) (wpAny_pure ⟨x, rfl, wpAny_pure (hQ _ ⟨_, Heap.get?_update_self _ ho (Obj.isFreed_of_fields (Obj.data_mapFields hd _)), (Obj.cls_mapFields ..).trans hc, by rw [Obj.data_mapFields hd]; simp [rawInt]⟩ (Heap.SameBut.update ..))⟩))
theorem gx_nextOf_tup_end {it t : Addr} {i : Nat} {items : Array Value} {Q : Value → Shared → Prop} (hh : A.handled = none) (hit : s.heap.IsTupleIter it t i) (ht : s.heap.IsTuple t items) (hx : items[i]? = none)
    (hE : ∀ h' e, Heap.ExtBut it s.heap h' → (∃ o, h'.get? e = some o ∧ o.cls = .type "StopIteration") → E (.ref e) { s with heap := h' }) : wpAny (model prog w) A (Builtin.SmallTypes.nextOf (.ref it)) Q E s := by
  obtain ⟨⟨o, ho, hc, hd⟩, ⟨ol, hol, _, nl, hdl⟩⟩ := (⟨id hit, ht⟩ : _ ∧ _)
  unfold Builtin.SmallTypes.nextOf; refine wpAny_bind (wpAny_callSpecial?_slot (name := Str.ofString "__next__") hit.typeIs F.slot_tuple_iterator_next (wpAny_call_entry F.slot_tuple_iterator_next hit.typeIs F.entry_tuple_iterator_next ?_ (F.args_tuple_iterator_next_1 _)))
  show wpAny (model prog w) _ (field (.ref it) 0 >>= _) _ _ s; refine wpAny_bind (wpAny_field ho hd (x := .ref t) rfl ?_)
  show wpAny (model prog w) _ (if (Value.ref t == Value.none) = true then _ else _) _ _ s; rw [if_neg (by exact Bool.false_ne_true)]
  show wpAny (model prog w) _ (field (.ref it) 1 >>= _) _ _ s; refine wpAny_bind (wpAny_field ho hd (x := .int i 0) rfl ?_)
  show wpAny (model prog w) _ (seqItems? (.ref t) >>= _) _ _ s; refine wpAny_bind (wpAny_seqItems hol hdl ?_); simp only [Int.toNat_natCast, hx]
  refine wpAny_bind (wpAny_rule (wpAny_bind (wpAny_setField ho hd (by simp) ?_))); show wpAny (model prog w) _ (newExc (.type "StopIteration") [] >>= _) _ _ _
  refine wpAny_bind ?_; simp only [newExc, newTuple]; refine wpAny_bind (wpAny_newObj_type ?_ (by size_fits))
  refine wpAny_bind (m := firstArgMember _ _) (wpAny_of_eq (a := Value.none) (by first | rfl | (simp only [firstArgMember]; rfl)) (wpAny_newObj_type ?_ (by size_fits)))
  simp only [raiseNew]; refine wpAny_bind (wpAny_handled ?_); first | rw [show A.in1.handled = none from hh] | rw [hh]
  refine wpAny_bind (wpAny_pure (wpAny_throw (hE _ _ (((Heap.SameBut.update ..).extBut.push _).push _) ⟨_, Heap.get?_push_size _ rfl, rfl⟩)))
end
theorem gx_draws_tup {prog : Program} {w : World} {A : Around} (hh : A.handled = none) (it t : Addr) (hne : t ≠ it) (items : Array Value) :
    Draws prog w A it [it, t] items.size (fun i v => items[i]? = some v) (fun i h => h.IsTupleIter it t i ∧ h.IsTuple t items) where
  live := fun _ _ ⟨⟨o, ho, _⟩, _⟩ => ⟨o, ho⟩
  frame := fun _ _ _ ⟨⟨o, ho, r⟩, ⟨o2, ho2, r2⟩⟩ hk => ⟨⟨o, hk it (by simp) o ho, r⟩, ⟨o2, hk t (by simp) o2 ho2, r2⟩⟩
  item := fun i s Q E hi ⟨s1, s2⟩ hQ => gx_nextOf_tup s1 s2 (x := items[i]) (by simp [hi]) fun h' hit' hs' => hQ _ h' s.toks (by simp [hi]) ⟨hit', s2.extBut hs'.extBut hne⟩ hs'
  done := fun s Q E ⟨s1, s2⟩ hE => gx_nextOf_tup_end hh s1 s2 (by simp) hE
end L2

namespace L2
open PySem PySem.Spec PyProof.Rows

section
variable {X : Cx} {pins : List (Addr × Obj)} {σ : St} {H : Hp} {s : Shared} {h' : Heap}
theorem Inv.turnedL {t' : Nat} {ch : List Addr} (I : Inv X pins σ H s) (k : ∀ b o, b ∉ ch → s.heap.get? b = some o → h'.get? b = some o) (hf : ∀ b ∈ ch, FpOk X pins H b) : Inv X pins σ H { s with heap := h', toks := t' } := by
  have nit : ∀ b u, H b = some u → b ∉ ch := fun b u e z => by rw [(hf b z).1] at e; cases e
  refine I.step (g' := s.gens) (d' := s.drawn) (ch := ch) (fun b hb => ⟨(hf b hb).2.2.2.1, (hf b hb).2.1, (hf b hb).2.2.2.2.1, (hf b hb).2.2.2.2.2⟩) (fun b o _ _ hc e _ => k b o hc e) (fun b o _ _ hc e _ => ⟨o.slots, k b o hc e⟩) (fun _ _ _ _ n => n) (fun b o hc e => ⟨o, k b o hc e⟩) (fun _ _ e => e) (fun _ _ _ e => e) (fun b ps e => ⟨#[], by rw [e]; simp⟩) (fun m hm => ?_) (fun b u e => ?_) I.bare
  · obtain ⟨o, es, ep, ho, r⟩ := hm
    exact ⟨o, es, ep, k _ _ (fun z => (hf _ z).2.1 rfl) ho, r⟩
  · have key : ∀ c, c = b ∨ H c = some (.own b) → c ∉ ch := fun c hc => by
      rcases hc with z | z
      · subst z; exact nit _ u e
      · exact nit c _ z
    exact (I.hok b u e).stay (fun c v hc q => k c v (key c hc) q) (fun _ q => q) fun _ _ q => q

theorem Inv.turnLaid {t' : Nat} {ch : List Addr} {a : Addr} {o : HO} (I : Inv X pins σ H s) (k : ∀ b o, b ∉ ch → s.heap.get? b = some o → h'.get? b = some o) (hf : ∀ b ∈ ch, FpOk X pins H b) (hp : s.heap.objs.size ≤ a) (new : ObjOk X.prog X.w (upd H a o) h' a o) :
    Inv X pins σ (upd H a o) { s with heap := h', toks := t' } := by
  have nit : ∀ b u, H b = some u → b ∉ ch := fun b u e z => by rw [(hf b z).1] at e; cases e
  have hn : H a = none := I.hok.fresh hp
  refine I.step (g' := s.gens) (d' := s.drawn) (ch := ch) (fun b hb => ⟨(hf b hb).2.2.2.1, (hf b hb).2.1, (hf b hb).2.2.2.2.1, (hf b hb).2.2.2.2.2⟩) (fun b o _ _ hc e _ => k b o hc e) (fun b o _ _ hc e _ => ⟨o.slots, k b o hc e⟩) (fun b u _ q n => by rw [upd_ne (fun z => by subst z; exact absurd (Nat.lt_of_lt_of_le (Heap.lt_size q) hp) (Nat.lt_irrefl _))]; exact n) (fun b o hc e => ⟨o, k b o hc e⟩) (fun b xs q => by rw [upd_ne (ne_of_none q hn)]; exact q) (fun b u xs q => by rw [upd_ne (ne_of_none q hn)]; exact q) (fun b ps q => ⟨#[], by rw [upd_ne (ne_of_none q hn), q]; simp⟩) (fun m hm => ?_) (fun b u e => ?_) I.bare
  · obtain ⟨o, es, ep, ho, r⟩ := hm
    exact ⟨o, es, ep, k _ _ (fun z => (hf _ z).2.1 rfl) ho, r⟩
  · by_cases hb : b = a
    · subst hb
      rw [upd_same] at e
      cases e
      exact new
    · rw [upd_ne hb] at e
      have key : ∀ c, c = b ∨ H c = some (.own b) → c ∉ ch := fun c hc => by
        rcases hc with z | z
        · subst z; exact nit _ u e
        · exact nit c _ z
      exact (I.hok b u e).stay (fun c v hc q => k c v (key c hc) q) (fun c q => (upd_ne (ne_of_none q hn)).trans q) fun c xs q => (upd_ne (ne_of_none q hn)).trans q
end

theorem gx_meets_enum_tup (l : Addr) (items : Array Value) (n : Nat) (dct : Option Addr) (sl : Array (Option Value)) :
    Meets (Builtin.«enumerate.__new__» ⟨[.type "enumerate", .ref l], []⟩) (fun _ R s => s.heap.get? l = some { cls := .type "tuple", dict := dct, data := .seq items n, slots := sl } ∧
      R (.ok (.ret (.ref (s.heap.push { cls := .type "tuple_iterator", data := .fields #[.ref l, .int 0 0] }).objs.size)))
        { s with heap := (s.heap.push { cls := .type "tuple_iterator", data := .fields #[.ref l, .int 0 0] }).push { cls := .type "enumerate", data := .fields #[.none, .bool false, .ref s.heap.objs.size, rawInt 0, .none, .none] } }) :=
  .of_wp fun prog w A R s h => by
    obtain ⟨h0, g0, d0, t0, o0⟩ := s
    obtain ⟨hl, h⟩ := h
    have hsub := sub_enumerate
    have hL : Heap.IsTuple (Shared.heap ⟨h0, g0, d0, t0, o0⟩) l items := ⟨_, hl, rfl, n, rfl⟩
    wp_walk using AutoSeq1.wpAny_loadPart' hl
    refine wpAny_stack_any fun st => wpAny_pure ?_
    split
    · rename_i c _ _ _ _ _
      cases (c == Value.type "enumerate") <;> (wp_walk using AutoSeq1.wpAny_loadPart' hl, wpAny_pyIter_tuple hL; exact ⟨_, rfl, h⟩)
    · wp_walk using AutoSeq1.wpAny_loadPart' hl, wpAny_pyIter_tuple hL; exact ⟨_, rfl, h⟩
theorem gx_call_enum_tup {prog : Program} {w : World} {A : Around} {E : Value → Shared → Prop} {s : Shared} {l : Addr} {items : Array Value} {Q : Value → Shared → Prop} (hL : s.heap.IsTuple l items)
    (h : ∀ h', IsEnum h' (s.heap.objs.size + 1) s.heap.objs.size 0 .none → h'.IsTupleIter s.heap.objs.size l 0 → (∀ b o, s.heap.get? b = some o → h'.get? b = some o) → Q (.ref (s.heap.objs.size + 1)) { s with heap := h' }) :
    wpAny (model prog w) A (call (.type "enumerate") [.ref l]) Q E s := by
  obtain ⟨⟨c, dct, dt, sl⟩, hl, hc, n, hd⟩ := hL
  cases (show c = .type "tuple" from hc); cases (show dt = .seq items n from hd)
  refine callType_new F.called_enumerate (by decide) (F.typeCall_enumerate_1 _) (F.newCall_enumerate_1 _) (fun obj => F.args_object_init_2 obj _) F.entry_enumerate_new (gx_meets_enum_tup l items n dct sl) ⟨hl, ?_⟩
  have hz : (s.heap.push { cls := .type "tuple_iterator", data := .fields #[.ref l, .int 0 0] }).objs.size = s.heap.objs.size + 1 := Heap.size_push ..
  have he : IsEnum ((s.heap.push { cls := .type "tuple_iterator", data := .fields #[.ref l, .int 0 0] }).push { cls := .type "enumerate", data := .fields #[.none, .bool false, .ref s.heap.objs.size, rawInt 0, .none, .none] }) (s.heap.objs.size + 1) s.heap.objs.size 0 .none := by
    have e := Heap.get?_push_size (s.heap.push { cls := .type "tuple_iterator", data := .fields #[.ref l, .int 0 0] }) (o := { cls := .type "enumerate", data := .fields #[.none, .bool false, .ref s.heap.objs.size, rawInt 0, .none, .none] }) rfl
    rw [hz] at e
    exact e
  show _ ∧ _
  rw [hz]
  exact ⟨⟨_, he, rfl⟩, h _ he ⟨_, Heap.get?_push_of_some _ (Heap.get?_push_size _ rfl), rfl, rfl⟩ fun b o x => Heap.get?_push_of_some _ (Heap.get?_push_of_some _ x)⟩

def Ite (K : PySem.W.Frag) (a : Addr) : It :=
  ⟨fun i H => ∃ xs x, SqT K H a xs ∧ xs[i]? = some x, fun i H y H' => ∃ b, y = .ref b ∧ H b = none ∧ ∀ xs x, SqT K H a xs → xs[i]? = some x → H' = upd H b (.tup [.int i, x]), fun i H => ∃ xs, SqT K H a xs ∧ xs.length = i⟩
theorem turn_enum {P : Program} {w : World} {K : PySem.W.Frag} {elts : List Expr} {k : Nat} {pos : Pos} (a e it : Addr) (hne : e ≠ it) : Turn P w K (.Tuple elts k pos) (Ite K a) [e, it] e (fun i h => (∃ old, IsEnum h e it i old) ∧ h.IsTupleIter it a i) where
  mem := by simp
  obj := fun i h st b hb => by
    obtain ⟨⟨old, he⟩, ⟨o, ho, hc, hd⟩⟩ := st
    rcases List.mem_cons.mp hb with z | z
    · subst z
      exact ⟨_, he, fun v z => by cases (show Data.fields _ = Data.cell v from z)⟩
    · have z : b = it := by simpa using z
      subst z
      exact ⟨o, ho, fun v z => by rw [hd] at z; cases z⟩
  keep := fun i h h' st kk => by
    obtain ⟨⟨old, he⟩, ⟨o, ho, r⟩⟩ := st
    exact ⟨⟨old, kk e (by simp) _ he⟩, ⟨o, kk it (by simp) o ho, r⟩⟩
  item := by
    intro X hP hw hK hc i pins s σ H E I hf st hg
    subst hP hw hK
    obtain ⟨⟨old, he⟩, hit⟩ := st
    obtain ⟨xs, x, hq, hx⟩ := hg
    obtain ⟨its, rv, p, hz⟩ := I.tuple hq
    have pt : s.heap.IsTuple a its.toArray := p
    obtain ⟨u, hu, ru⟩ := rv.get hx
    have hia : a ≠ it := fun z => by
      subst z
      obtain ⟨o1, h1, c1, _⟩ := hit
      obtain ⟨o2, h2, c2, _⟩ := pt
      rw [h1] at h2
      cases h2
      rw [c1] at c2
      injection c2 with c2
      exact absurd c2 (by decide)
    have hea : e ∉ [it, a] := fun z => by
      rcases List.mem_cons.mp z with z | z
      · exact hne z
      · have z : e = a := by simpa using z
        subst z
        obtain ⟨o2, h2, c2, _⟩ := pt
        rw [he] at h2
        cases h2
        injection (show Value.type "enumerate" = Value.type "tuple" from c2) with c2
        exact absurd c2 (by decide)
    have hlt : i < its.toArray.size := by
      have := (List.getElem?_eq_some_iff.mp hu).1
      simpa using this
    refine wpAny_pyNext_enum_itemD (gx_draws_tup (A := X.A.in1) (I.ok.hd hc) it a hia its.toArray) he ⟨hit, pt⟩ hlt hne hea fun y h' tk hy hout hst hT hsz hk => ?_
    refine ⟨_, rfl, wpAny_letOwnedTupleGo_enum hout fun h2 he2 hs2 => ?_⟩
    have hs2 : Heap.SameBut e h' h2 := hs2
    have hyu : y = u := by
      have hy : its.toArray[i]? = some y := hy
      have : its[i]? = some y := by simpa using hy
      rw [hu] at this
      exact (Option.some.inj this).symm
    subst hyu
    have helt : e < s.heap.objs.size := Heap.lt_size he
    have hfr : H s.heap.objs.size = none := I.hok.fresh (Nat.le_refl _)
    have hnS : s.heap.objs.size ≠ e := Nat.ne_of_gt helt
    have hT2 : h2.get? s.heap.objs.size = some { cls := .type "tuple", data := .seq #[.int i tk, y] } := (hs2.2 _ hnS).trans hT
    refine ⟨.ref s.heap.objs.size, upd H s.heap.objs.size (.tup [.int i, x]), I.turnLaid (t' := tk + 1) (ch := [e, it]) (fun b o hb q => ?_) hf (Nat.le_refl _) ?_, rfl, ⟨s.heap.objs.size, rfl, hfr, fun xs' x' hq' hx' => ?_⟩, ⟨⟨y, by exact_mod_cast he2⟩, ?_⟩, fun b hb => ?_⟩
    · have h1 : b ≠ e := fun z => hb (by simp [z])
      have h3 : b ≠ it := fun z => hb (by simp [z])
      exact (hs2.2 b h1).trans (hk b o h1 h3 q)
    · exact ⟨by show 2 ≤ sizeLine; decide, [.int i tk, y], .cons ⟨tk, rfl⟩ (.cons ru .nil), ⟨_, hT2, rfl, _, rfl⟩⟩
    · have := I.tuple_inj hq' hq
      subst this
      rw [hx] at hx'
      cases hx'
      rfl
    · obtain ⟨⟨o, ho, r⟩, _⟩ := hst
      exact ⟨o, (hs2.2 it hne.symm).trans ho, r⟩
    · have hb0 := (hf b hb).1
      rw [upd_ne]
      · exact hb0
      · intro z
        subst z
        obtain ⟨o, ho, _⟩ := hit
        rcases List.mem_cons.mp hb with z | z
        · exact hnS z
        · have z : s.heap.objs.size = it := by simpa using z
          exact absurd (Heap.lt_size ho) (by rw [← z]; exact Nat.lt_irrefl _)
  done := by
    intro X hP hw hK hc i pins s σ H E I hf st hg
    subst hP hw hK
    obtain ⟨⟨old, he⟩, hit⟩ := st
    obtain ⟨xs, hq, hx⟩ := hg
    obtain ⟨its, rv, p, hz⟩ := I.tuple hq
    have pt : s.heap.IsTuple a its.toArray := p
    have hl := rv.length
    have hia : a ≠ it := fun z => by
      subst z
      obtain ⟨o1, h1, c1, _⟩ := hit
      obtain ⟨o2, h2, c2, _⟩ := pt
      rw [h1] at h2
      cases h2
      rw [c1] at c2
      injection c2 with c2
      exact absurd c2 (by decide)
    have hi : i = its.toArray.size := by simp; omega
    refine wpAny_pyNext_enum_endD (gx_draws_tup (A := X.A.in1) (I.ok.hd hc) it a hia its.toArray) he (by rw [← hi]; exact ⟨hit, pt⟩) fun h' eb => ⟨rfl, ?_⟩
    exact I.turnedL (t' := s.toks) (ch := [e, it]) (fun b o hb q => eb b o (fun z => hb (by simp [z])) q) hf
  self := fun _ _ _ _ _ st h => by
    obtain ⟨⟨old, he⟩, _⟩ := st
    exact wpAny_pyIter_enum he h
end L2

namespace L2
open PySem PySem.Spec PyProof.Rows
section
variable {X : Cx}
theorem boot_enum : bootBuiltins "enumerate" = some (.type "enumerate") := bt_enumerate

def iEnumT (K : PySem.W.Frag) (ta : TA) : TI := fun σ H R => ta σ H fun vs H1 => ∃ a, vs = [.ref a] ∧ (∃ xs, SqT K H1 a xs) ∧ R (Ite K a) H1
theorem pi_enumT {a : Expr} {ta : TA} {p pos tpos : Pos} {elts : List Expr} {k : Nat} (hg : Gl X "enumerate") (hm : X.mg "enumerate" = none) (ha : PA X [a] ta) (hs : starEach [a] X.env = [(false, eval a X.env)] := by rfl) : PI X (.Tuple elts k tpos) (.Call (.Name "enumerate" p) [a] [] pos) (iEnumT X.K ta) := by
  intro pins s σ H R I h
  refine Call_ (ld_blt I hg hm boot_enum (PyProof.Rows.callWith_type1 (thn (ha pos pins s σ H _ I h) fun us s1 ⟨vs, H1, I1, r1, q1⟩ => ?_) hs rfl))
  obtain ⟨a, e, ⟨xs, hq⟩, q⟩ := q1
  subst e
  cases r1 with
  | cons r rr =>
    cases rr
    cases r
    obtain ⟨its, rv, p, hz⟩ := I1.tuple hq
    refine gx_call_enum_tup (show s1.heap.IsTuple a its.toArray from p) fun h' he hit hk => ?_
    refine wpAny_pyIter_enum he ?_
    refine ⟨s1.heap.objs.size + 1, [s1.heap.objs.size + 1, s1.heap.objs.size], _, _, H1, rfl, I1.kept (t' := s1.toks) hk, turn_enum a (s1.heap.objs.size + 1) s1.heap.objs.size (Nat.succ_ne_self _), ⟨⟨.none, he⟩, hit⟩, fun b hb => ?_, q⟩
    rcases List.mem_cons.mp hb with z | z
    · subst z
      exact I1.fpOk (Nat.le_succ _) (I1.hok.fresh (Nat.le_succ _))
    · have z : b = s1.heap.objs.size := by simpa using z
      subst z
      exact I1.fpOk (Nat.le_refl _) (I1.hok.fresh (Nat.le_refl _))

theorem for_enumT {K : PySem.W.Frag} {a : Addr} {xs : List V} {g : TG} {tb : TS} {D : Ends} {σ : St} {H : Hp} (Pv : Nat → St → Hp → Prop) (h0 : Pv 0 σ H) (hl : ∀ i σ H, i ≤ xs.length → Pv i σ H → SqT K H a xs)
    (hs : ∀ i x σ H b, xs[i]? = some x → Pv i σ H → H b = none → g (.ref b) σ (upd H b (.tup [.int i, x])) fun σ2 H2 => tb { D with nx := Pv (i + 1), ct := Pv (i + 1), bk := D.nx } σ2 H2) (hd : ∀ σ H, Pv xs.length σ H → D.nx σ H) :
    ∃ W : Nat → Nat → St → Hp → Prop, (∃ m, W 0 m σ H) ∧ ∀ i m σ H, W i m σ H → ((Ite K a).stop i H ∧ D.nx σ H) ∨ ((Ite K a).go i H ∧ ∃ N : St → Hp → Prop, (∀ σ' H', N σ' H' → ∃ m', m' < m ∧ W (i + 1) m' σ' H') ∧ ∀ x H', (Ite K a).yld i H x H' → g x σ H' fun σ2 H2 => tb { D with nx := N, ct := N, bk := D.nx } σ2 H2) := by
  refine ⟨fun i m σ H => m = xs.length - i ∧ i ≤ xs.length ∧ Pv i σ H, ⟨xs.length, by simp, Nat.zero_le _, h0⟩, ?_⟩
  rintro i m σ H ⟨rfl, hi, p⟩
  have q := hl i σ H hi p
  by_cases hlt : i < xs.length
  · refine .inr ⟨⟨xs, xs[i], q, by simp [hlt]⟩, Pv (i + 1), fun σ' H' p' => ⟨xs.length - (i + 1), by omega, rfl, hlt, p'⟩, fun x H' y => ?_⟩
    obtain ⟨b, rfl, hb, y⟩ := y
    rw [y xs xs[i] q (by simp [hlt])]
    exact hs i xs[i] σ H b (by simp [hlt]) p hb
  · have e : i = xs.length := by omega
    subst e
    exact .inl ⟨⟨xs, q, rfl⟩, hd σ H p⟩
end
end L2

set_option Elab.async false
set_option linter.all false
set_option maxRecDepth 100000
set_option maxHeartbeats 4000000
namespace L2
open PySem PySem.Spec PyProof.Rows
section
variable {X : Cx} {pins : List (Addr × Obj)} {σ : St} {H : Hp} {s : Shared}

end
section
variable {X : Cx}

end

section
variable {X : Cx} {o e f : Expr} {apos cpos : Pos} {td ty tx : TE}
end
end L2

set_option Elab.async false
set_option linter.all false
set_option maxRecDepth 100000
set_option maxHeartbeats 4000000
namespace L2
open PySem PySem.Spec PyProof.Rows


section
variable {X : Cx} {tg : Expr}
end
end L2

set_option Elab.async false
set_option linter.all false
set_option maxRecDepth 100000
set_option maxHeartbeats 4000000
namespace L2
open PySem PySem.Spec PyProof.Rows

end L2

set_option Elab.async false
set_option linter.all false
set_option maxRecDepth 100000
set_option maxHeartbeats 4000000
namespace L2
open PySem PySem.Spec PyProof.Rows

end L2

set_option Elab.async false
set_option linter.all false
set_option maxRecDepth 100000
set_option maxHeartbeats 4000000
namespace L2
open PySem PySem.Spec PyProof.Rows PySem.W

theorem Paired.len {α β : Type} {R : α → β → Prop} : ∀ {xs : List α} {ys : List β}, Paired R xs ys → xs.length = ys.length
  | _, _, .nil => rfl
  | _, _, .cons _ r => by rw [List.length_cons, List.length_cons, Paired.len r]
end L2

set_option Elab.async false
set_option linter.all false
set_option maxRecDepth 100000
set_option maxHeartbeats 4000000
namespace L2
open PySem PySem.Spec PyProof.Rows

def rEqNil (K : PySem.W.Frag) : R2 := fun x y H Q => ∃ a b xs, x = .ref a ∧ y = .ref b ∧ SqL K H a xs ∧ SqL K H b [] ∧ Q (.bl (decide (xs = []))) H
theorem op_eqNil {X : Cx} (hu : X.A.units + 64 < cLine) : OpR X (compareOp .Eq) (rEqNil X.K) := by
  intro pins s σ H x y v u Q I rx ry h
  obtain ⟨a, b, xs, rfl, rfl, hA, hB, q⟩ := h
  cases rx
  cases ry
  obtain ⟨its, r1, p1, _⟩ := I.list hA
  obtain ⟨its2, r2, p2, _⟩ := I.list hB
  have e2 : its2 = [] := r2.nil_iff.mpr rfl
  subst e2
  by_cases hx : xs = []
  · have e1 : its = [] := r1.nil_iff.mpr hx
    subst e1
    refine SeqAt.eq_listAt (e := fun _ => true) p1.isList p2.isList rfl (by omega) (fun i h => absurd h (Nat.not_lt_zero i)) ?_
    rw [decide_eq_true hx] at q
    exact ⟨.bl true, H, I, rfl, q⟩
  · have hne : (its.toArray.size != ([] : List Value).toArray.size) = true := by
      have : its ≠ [] := fun z => hx (r1.nil_iff.mp z)
      cases its with
      | nil => exact absurd rfl this
      | cons a b => rfl
    refine SeqAt.eq_list_lengthsAt p1.isList p2.isList hne (by omega) ?_
    rw [decide_eq_false hx] at q
    exact ⟨.bl false, H, I, rfl, q⟩
end L2

set_option Elab.async false
set_option linter.all false
set_option maxRecDepth 100000
set_option maxHeartbeats 4000000
namespace L2
open PySem PySem.Spec PyProof.Rows

theorem op_isB {X : Cx} : OpR X (compareOp .Is) (fun x y H Q => ∃ a b, x = .bl a ∧ y = .bl b ∧ Q (.bl (decide (a = b))) H) := by
  intro pins s σ H x y v u Q I rx ry h
  obtain ⟨a, b, rfl, rfl, q⟩ := h
  cases rx
  cases ry
  exact wpAny_is_plain rfl (fin_bl I q (by cases a <;> cases b <;> rfl))

def Lay (n : Nat) (d : PyData) : Prop := PyData.canLay0 d = true ∧ PyData.depth d ≤ n
theorem Lay.int {n : Nat} (i : Int) : Lay n (.int i) := ⟨by unfold PyData.canLay0; rfl, by unfold PyData.depth; exact Nat.zero_le _⟩
theorem Lay.bool {n : Nat} (b : Bool) : Lay n (.bool b) := ⟨by unfold PyData.canLay0; rfl, by unfold PyData.depth; exact Nat.zero_le _⟩
theorem Lay.none {n : Nat} : Lay n .none := ⟨by unfold PyData.canLay0; rfl, by unfold PyData.depth; exact Nat.zero_le _⟩
theorem Lay.str {n : Nat} {x : Str} (h : PyData.strOk x = true) : Lay n (.str x) := ⟨by unfold PyData.canLay0; exact h, by unfold PyData.depth; exact Nat.zero_le _⟩
theorem lays {n : Nat} : ∀ {ds : List PyData}, (∀ d ∈ ds, Lay n d) → PyData.canLayAll0 ds = true ∧ PyData.depthAll ds ≤ n
  | [], _ => ⟨by unfold PyData.canLayAll0; rfl, by unfold PyData.depthAll; exact Nat.zero_le _⟩
  | d :: ds, h => by
    have h1 := h d List.mem_cons_self
    have h2 := lays (fun x hx => h x (List.mem_cons_of_mem _ hx))
    constructor
    · unfold PyData.canLayAll0; rw [h1.1, h2.1]; rfl
    · unfold PyData.depthAll; exact Nat.max_le.mpr ⟨h1.2, h2.2⟩
theorem Lay.list {n : Nat} {ds : List PyData} (h : ∀ d ∈ ds, Lay n d) : Lay (n + 1) (.list ds) := by
  have h2 := lays h
  exact ⟨by unfold PyData.canLay0; exact h2.1, by unfold PyData.depth; have := h2.2; omega⟩
theorem Lay.tuple {n : Nat} {ds : List PyData} (h : ∀ d ∈ ds, Lay n d) : Lay (n + 1) (.tuple ds) := by
  have h2 := lays h
  exact ⟨by unfold PyData.canLay0; exact h2.1, by unfold PyData.depth; have := h2.2; omega⟩
theorem Lay.shaped {n : Nat} {d : PyData} (h : Lay n d) (hn : n ≤ 64) : SeqAt.shaped d = true := by
  unfold SeqAt.shaped
  rw [h.1, decide_eq_true (Nat.le_trans h.2 hn)]
  rfl
theorem Lay.refl {n : Nat} {d : PyData} (h : Lay n d) : PyData.eqv d d = true := SeqAt.eqv_refl d h.1
theorem Lay.mono {n m : Nat} {d : PyData} (h : Lay n d) (hn : n ≤ m) : Lay m d := ⟨h.1, Nat.le_trans h.2 hn⟩

theorem rEqD_same {K : PySem.W.Frag} {x y : V} {H : Hp} {Q : VK} {d : PyData} {n : Nat} (hn : n ≤ 64) (l : Lay n d) (hx : DatV K H d x) (hy : DatV K H d y) (q : Q (.bl true) H) : rEqD K x y H Q :=
  ⟨d, d, hx, hy, l.shaped hn, l.shaped hn, by rw [l.refl]; exact q⟩
theorem rNeD_same {K : PySem.W.Frag} {x y : V} {H : Hp} {Q : VK} {d : PyData} {n : Nat} (hn : n ≤ 64) (l : Lay n d) (hx : DatV K H d x) (hy : DatV K H d y) (q : Q (.bl false) H) : rNeD K x y H Q :=
  ⟨d, d, hx, hy, l.shaped hn, l.shaped hn, by rw [l.refl]; exact q⟩
theorem datV_tuple {K : PySem.W.Frag} {H : Hp} {a : Addr} {xs : List V} {ds : List PyData} (h : SqT K H a xs) (hd : DatAll K H ds xs) : DatV K H (.tuple ds) (.ref a) := by
  unfold DatV; exact ⟨a, xs, rfl, h, hd⟩
mutual
theorem DatV.mono {K : PySem.W.Frag} {H H' : Hp} (e : Same H H') : ∀ (d : PyData) (v : V), DatV K H d v → DatV K H' d v
  | .none, v, h => by unfold DatV at h ⊢; exact h
  | .bool b, v, h => by unfold DatV at h ⊢; exact h
  | .int i, v, h => by unfold DatV at h ⊢; exact h
  | .str x, v, h => by unfold DatV at h ⊢; exact h
  | .list ds, v, h => by
    unfold DatV at h ⊢
    obtain ⟨a, xs, rfl, hq, hd⟩ := h
    exact ⟨a, xs, rfl, e.seq hq, DatAll.mono e ds xs hd⟩
  | .tuple ds, v, h => by
    unfold DatV at h ⊢
    obtain ⟨a, xs, rfl, hq, hd⟩ := h
    exact ⟨a, xs, rfl, e.tup hq, DatAll.mono e ds xs hd⟩
  | .dict _, v, h => by unfold DatV at h; exact h.elim
theorem DatAll.mono {K : PySem.W.Frag} {H H' : Hp} (e : Same H H') : ∀ (ds : List PyData) (xs : List V), DatAll K H ds xs → DatAll K H' ds xs
  | [], xs, h => by unfold DatAll at h ⊢; exact h
  | d :: ds, xs, h => by
    unfold DatAll at h ⊢
    obtain ⟨x, r, rfl, hd, hds⟩ := h
    exact ⟨x, r, rfl, DatV.mono e d x hd, DatAll.mono e ds r hds⟩
end

def ers (l : Addr) (H : Hp) : Hp := fun b => if b = l then none else H b
theorem ers_ne {l b : Addr} {H : Hp} (h : b ≠ l) : ers l H b = H b := by unfold ers; rw [if_neg h]
theorem ers_same {l : Addr} {H : Hp} : Same (ers l H) H := fun b o h => by
  unfold ers at h
  split at h
  · cases h
  · exact h
theorem Same.ers {l : Addr} {H H' : Hp} (e : Same H H') : Same (ers l H) (ers l H') := fun b o h => by
  unfold L2.ers at h ⊢
  split at h
  · cases h
  · rename_i hb
    rw [if_neg hb]
    exact e b o h
theorem ixI {n : Nat} {i : Int} (h0 : 0 ≤ i) (h : i < n) : ixN n i = some i.toNat := by
  unfold ixN
  rw [if_pos h0, if_pos h]
end L2
namespace L2
open PySem PySem.Spec PyProof.Rows

section
variable {g : TG} {tif : TT} {te : TE} {js : List (Option Nat)} {σ : St} {H : Hp} {Q : VK}
end
end L2
namespace Gx
open PySem L2
theorem le0 : 0 ≤ sizeLine := by decide
theorem le1 : 1 ≤ sizeLine := by decide
theorem le2 : 2 ≤ sizeLine := by decide
theorem le3 : 3 ≤ sizeLine := by decide
theorem le4 : 4 ≤ sizeLine := by decide
theorem le9 : 9 ≤ sizeLine := by decide
theorem lt_line {n : Nat} (h : n < 1000000) : n ≤ sizeLine := by
  have : (1000000 : Nat) < sizeLine := by decide
  omega
theorem at0 {x : V} {r : List V} : atI (x :: r) 0 = some x := by
  unfold atI ixN
  rw [if_pos (by decide), if_pos (by simp)]
  rfl
theorem emod_bd (z n : Int) (h : 0 < n) : 0 ≤ z % n ∧ z % n < n := ⟨Int.emod_nonneg _ (by omega), Int.emod_lt_of_pos _ h⟩
theorem map_at {α : Type} {es : List α} {f : α → V} {i : Nat} {x : V} (h : (es.map f)[i]? = some x) : ∃ e, es[i]? = some e ∧ e ∈ es ∧ x = f e := by
  rw [List.getElem?_map] at h
  cases he : es[i]? with
  | none => rw [he] at h; cases h
  | some e => rw [he] at h; cases h; exact ⟨e, rfl, List.mem_of_getElem? he, rfl⟩
end Gx

set_option Elab.async false
set_option linter.all false
set_option maxRecDepth 100000
set_option maxHeartbeats 4000000
namespace L2
open PySem PySem.Spec PyProof.Rows

section
variable {X : Cx} {tg : Expr}
end
section
variable {g : TG} {tif : TT} {te : TE} {js : List (Option Nat)} {σ : St} {H : Hp} {Q : VK}
end

def tTru (K : PySem.W.Frag) (ta : TE) : TT := fun σ H Q => ta σ H fun x H' => ∃ k, TruV K x H' k ∧ Q k H'
theorem pt_tru {X : Cx} {K : PySem.W.Frag} {a : Expr} {ta : TE} (hK : X.K = K) (ha : PE X a ta) (he : ∀ whole, isTrue a X.env whole = (do let v ← whole; standAt a.pos; holding [v] (truthy v))) : PT X a (tTru K ta) := by
  subst hK
  exact pt_truth ha he
end L2
namespace Gx
open PySem L2

def tx (l : List Nat) : Str := ⟨l.toArray⟩
theorem tx_cps (l : List Nat) : (tx l).cps.toList = l := by unfold tx; simp
theorem tx_len (l : List Nat) : (tx l).length = l.length := by unfold tx Str.length; simp
theorem tx_app (a b : List Nat) : tx a ++ tx b = tx (a ++ b) := by
  show (⟨_ ++ _⟩ : Str) = _
  unfold tx
  simp
theorem join_cons (y : Str) (ys : List Str) : PySem.Txt.join "" (y :: ys) = y ++ PySem.Txt.join "" ys := by
  show PySem.Builtin.Str.glued ("" : Str) (y :: ys) = y ++ PySem.Builtin.Str.glued ("" : Str) ys
  rw [PySem.StrLaws.glued_eq_join, PySem.StrLaws.glued_eq_join]
  cases ys with
  | nil =>
    show y = y ++ Str.empty
    cases y
    show _ = (⟨_ ++ #[]⟩ : Str)
    simp
  | cons z zs =>
    show y ++ "" ++ Str.join "" (z :: zs) = _
    have : y ++ ("" : Str) = y := by
      cases y
      show (⟨_ ++ #[]⟩ : Str) = _
      simp
    rw [this]
theorem tx_join : ∀ (ls : List (List Nat)), PySem.Txt.join "" (ls.map tx) = tx ls.flatten
  | [] => by
    show PySem.Builtin.Str.glued ("" : Str) [] = _
    rw [PySem.StrLaws.glued_eq_join]
    rfl
  | l :: ls => by rw [List.map_cons, join_cons, tx_join ls, tx_app, List.flatten_cons]
end Gx

set_option Elab.async false
set_option linter.all false
set_option maxRecDepth 100000
set_option maxHeartbeats 4000000
namespace PySem
open PySem.SeqAt
end PySem
namespace L2
open PySem PySem.Spec PyProof.Rows

end L2

set_option Elab.async false
set_option linter.all false
set_option maxRecDepth 100000
set_option maxHeartbeats 4000000
namespace L2
open PySem PySem.Spec PyProof.Rows


end L2

namespace L2
open PySem PySem.Spec PyProof.Rows
section
variable {X : Cx}

end
end L2

set_option Elab.async false
set_option linter.all false
set_option maxRecDepth 100000
set_option maxHeartbeats 4000000
namespace PySem
open Sem (wp)

def ItB (b : Bool) (h : Heap) (it l : Addr) (k : Nat) : Prop := match b with | true => h.IsTupleIter it l k | false => h.IsListIter it l k
def SqB (b : Bool) (h : Heap) (l : Addr) (xs : Array Value) : Prop := match b with | true => h.IsTuple l xs | false => h.IsList l xs
theorem ItB.at {b : Bool} {h h' : Heap} {it l : Addr} {k : Nat} (p : ItB b h it l k) (e : ∀ o, h.get? it = some o → h'.get? it = some o) : ItB b h' it l k := by
  cases b <;> (obtain ⟨o, ho, r⟩ := p; exact ⟨o, e o ho, r⟩)
theorem SqB.at {b : Bool} {h h' : Heap} {l : Addr} {xs : Array Value} (p : SqB b h l xs) (e : ∀ o, h.get? l = some o → h'.get? l = some o) : SqB b h' l xs := by
  cases b <;> (obtain ⟨o, ho, r⟩ := p; exact ⟨o, e o ho, r⟩)
theorem ItB.extBut {b : Bool} {h h' : Heap} {it l c : Addr} {k : Nat} (p : ItB b h it l k) (e : Heap.ExtBut c h h') (n : it ≠ c) : ItB b h' it l k := p.at fun o ho => e _ _ n ho
theorem SqB.extBut {b : Bool} {h h' : Heap} {l c : Addr} {xs : Array Value} (p : SqB b h l xs) (e : Heap.ExtBut c h h') (n : l ≠ c) : SqB b h' l xs := p.at fun o ho => e _ _ n ho
theorem ItB.lt {b : Bool} {h : Heap} {it l : Addr} {k : Nat} (p : ItB b h it l k) : it < h.objs.size := by
  cases b <;> (obtain ⟨o, ho, r⟩ := p; exact Heap.lt_size ho)
section
variable {prog : Program} {w : World} {A : Around} {E : Value → Shared → Prop} {s : Shared}
end
end PySem

set_option Elab.async false
set_option linter.all false
set_option maxRecDepth 100000
set_option maxHeartbeats 4000000
namespace PySem
open Sem (wp)

end PySem

set_option Elab.async false
set_option linter.all false
set_option maxRecDepth 100000
set_option maxHeartbeats 4000000
namespace PySem
open Sem (wp)
section
variable {prog : Program} {w : World} {A : Around} {E : Value → Shared → Prop} {s : Shared}
end
end PySem
namespace L2
open PySem PySem.Spec PyProof.Rows
theorem SqB.lt {b : Bool} {h : Heap} {l : Addr} {xs : Array Value} (p : SqB b h l xs) : l < h.objs.size := by
  cases b <;> (obtain ⟨o, ho, r⟩ := p; exact Heap.lt_size ho)

section
variable {X : Cx}
end
end L2

set_option Elab.async false
set_option linter.all false
set_option maxRecDepth 100000
set_option maxHeartbeats 4000000
namespace L2
open PySem PySem.Spec PyProof.Rows

section
variable {X : Cx} {k : Nat} {C f : Addr} {fd : FuncData} {ps : List Str} {sp : Sp} {x m qual : Str} {st : Stmt} {p pos apos : Pos} {o e : Expr} {es : List Expr} {ta : TE} {t : TA}
end
theorem u1' {A : Around} (h : A.units + 64 < cLine) : A.units + 1 < cLine := by omega
end L2

set_option Elab.async false
set_option linter.all false
set_option maxRecDepth 100000
set_option maxHeartbeats 4000000
namespace L2
open PySem PySem.Spec PyProof.Rows

section
variable {prog : Program} {w : World} {A : Around} {E : Value → Shared → Prop} {s : Shared}
end
end L2

set_option Elab.async false
set_option linter.all false
set_option maxRecDepth 100000
set_option maxHeartbeats 4000000
namespace L2
open PySem PySem.Spec PyProof.Rows

def sB : Stmt → List Stmt
  | .For _ _ b _ _ => b
  | .While _ b _ _ => b
  | .If _ b _ _ => b
  | _ => []
section
variable {g : TG} {tif : TT} {te : TE} {js : List (Option Nat)} {σ : St} {H : Hp} {Q : VK}

end
end L2

set_option Elab.async false
set_option linter.all false
set_option maxRecDepth 100000
set_option maxHeartbeats 4000000
namespace L2
open PySem PySem.Spec PyProof.Rows

inductive WVar (i : Nat) (σ : St) (H : Hp) (Q : VK) : Prop
  | mk (v : V) (h : σ[i]? = some (some v)) (q : Q v H) : WVar i σ H Q
def cVar (i : Nat) : TE := fun σ H Q => WVar i σ H Q
theorem pvC {X : Cx} (i : Nat) {x : Str} {pos : Pos} (hN : X.N[i]? = some x := by rfl) (hv : Vis X.env.scope x := by first | exact Or.inl rfl | exact Or.inr (Or.inl rfl) | exact Or.inr (Or.inr rfl)) (hd : (x == ("__debug__" : Str)) = false := by decide)
    (hcd : (x == ("__classdict__" : Str)) = false := by decide) : PE X (.Name x pos) (cVar i) := fun pins s σ H Q I h => pv i hN hv hd hcd pins s σ H Q I (let ⟨v, e, q⟩ := h; ⟨v, e, q⟩)
theorem IxR.imp {X : Cx} {r r' : R2} (h : IxR X r) (f : ∀ x y H Q, r' x y H Q → r x y H Q) : IxR X r' := fun a b pins s σ H x y v u Q I r1 r2 q z => h a b pins s σ H x y v u Q I r1 r2 (f x y H Q q) z
theorem OpR.imp {X : Cx} {g : Value → Value → Sem Value} {r r' : R2} (h : OpR X g r) (f : ∀ x y H Q, r' x y H Q → r x y H Q) : OpR X g r' := fun pins s σ H x y v u Q I r1 r2 q => h pins s σ H x y v u Q I r1 r2 (f x y H Q q)
theorem CallR.imp {X : Cx} {g : Value} {r r' : List V → Hp → VK → Prop} (h : CallR X g r) (f : ∀ xs H Q, r' xs H Q → r xs H Q) : CallR X g r' := fun pins s σ H xs us Q I r1 q => h pins s σ H xs us Q I r1 (f xs H Q q)
inductive WI (C : Int → Int → Prop) (g : Int → Int → V) (x y : V) (H : Hp) (Q : VK) : Prop
  | mk (i j : Int) (h1 : x = .int i) (h2 : y = .int j) (h3 : C i j) (q : Q (g i j) H) : WI C g x y H Q
inductive WI0 (g : Int → Int → V) (x y : V) (H : Hp) (Q : VK) : Prop
  | mk (i j : Int) (h1 : x = .int i) (h2 : y = .int j) (q : Q (g i j) H) : WI0 g x y H Q
def cI (C : Int → Int → Prop) (g : Int → Int → V) : R2 := fun x y H Q => WI C g x y H Q
def cI0 (g : Int → Int → V) : R2 := fun x y H Q => WI0 g x y H Q
theorem opC1 {X : Cx} {f : Value → Value → Sem Value} {C : Int → Int → Prop} {g : Int → Int → V} (h : OpR X f (rI C g)) : OpR X f (cI C g) := h.imp fun x y H Q h => let ⟨i, j, h1, h2, h3, q⟩ := h; ⟨i, j, h1, h2, h3, q⟩
theorem opC0 {X : Cx} {f : Value → Value → Sem Value} {g : Int → Int → V} (h : OpR X f (rI0 g)) : OpR X f (cI0 g) := h.imp fun x y H Q h => let ⟨i, j, h1, h2, q⟩ := h; ⟨i, j, h1, h2, q⟩
inductive WBl (x : V) (H : Hp) (Q : Bool → Hp → Prop) : Prop
  | mk (k : Bool) (h : x = .bl k) (q : Q k H) : WBl x H Q
def cTest (t : TE) : TT := fun σ H Q => t σ H fun x H' => WBl x H' Q
section
variable {X : Cx} {a b : Expr} {ta tb : TE} {pos : Pos}
theorem ptC_cmpR {op : CmpOp} {r : R2} (ho : OpR X (compareOp op) r) (ha : PE X a ta) (hb : PE X b tb) (hm : behindInMarks op b = false) : PT X (.Compare a [op] [b] pos) (cTest (tOp r ta tb)) := by
  intro pins s σ H Q I h
  refine wpAny_isTrue_Compare1 (thn (ha pins s σ H _ I h) fun v s1 ⟨x, H1, I1, r1, q1⟩ => thn (hb pins s1 σ H1 _ I1 q1) fun u s2 ⟨y, H2, I2, r2, q2⟩ =>
    thn (ho pins s2 σ H2 x y v u _ I2 r1 r2 q2) fun c s3 ⟨z, H3, I3, r3, w⟩ => ?_) hm
  obtain ⟨k, e, q3⟩ := w
  subst e
  cases r3
  exact wpAny_truthy_bool ⟨H3, I3, q3⟩
end

end L2

set_option Elab.async false
set_option linter.all false
set_option maxRecDepth 100000
set_option maxHeartbeats 4000000
namespace L2
open PySem PySem.Spec PyProof.Rows PySem.Builtin PySem.Builtin.Str
section
variable {X : Cx}

end
end L2

set_option Elab.async false
set_option linter.all false
set_option maxRecDepth 100000
set_option maxHeartbeats 4000000
namespace L2
open PySem PySem.Spec PyProof.Rows

section
variable {prog : Program} {w : World} {A : Around} {E : Value → Shared → Prop} {s : Shared}
end

section
variable {X : Cx} {tg : Expr}
end
end L2

set_option Elab.async false
set_option linter.all false
set_option maxRecDepth 100000
set_option maxHeartbeats 4000000
namespace PySem
end PySem
namespace PySem
open Sem (wp)
abbrev IsZipA (h : Heap) (z TI TO T : Addr) (fb : Bool) : Prop :=
  h.get? z = some { cls := .type "zip", dict := none, data := .fields #[rawInt T, .bool fb, .bool false, .ref TI, .ref TO], slots := #[] }
section
variable {prog : Program} {w : World} {A : Around} {E : Value → Shared → Prop} {s : Shared}
def ZipSt (h : Heap) (z TI TO : Addr) : Option Addr → Prop
  | none => IsZip h z TI TO .none ∧ ∃ a b, IsPair h TO a b
  | some T => (∃ fb, IsZipA h z TI TO T fb) ∧ ∃ o, h.get? T = some o
theorem ZipSt.at {h h' : Heap} {z TI TO : Addr} {m : Option Addr} (p : ZipSt h z TI TO m) (ez : ∀ o, h.get? z = some o → h'.get? z = some o) (eT : ∀ o, h.get? TO = some o → h'.get? TO = some o) (em : ∀ T, m = some T → ∀ o, h.get? T = some o → h'.get? T = some o) : ZipSt h' z TI TO m := by
  cases m with
  | none => obtain ⟨a, b, c, d⟩ := p; exact ⟨ez _ a, b, c, eT _ d⟩
  | some T => obtain ⟨⟨fb, a⟩, o, ho⟩ := p; exact ⟨⟨fb, ez _ a⟩, o, em T rfl _ ho⟩
end
end PySem

set_option Elab.async false
set_option linter.all false
set_option maxRecDepth 100000
set_option maxHeartbeats 4000000
namespace L2
open PySem PySem.Spec PyProof.Rows
section
variable {X : Cx} {pins : List (Addr × Obj)} {σ : St} {H : Hp}

end
end L2

set_option Elab.async false
set_option linter.all false
set_option maxRecDepth 100000
set_option maxHeartbeats 4000000
namespace L2
open PySem PySem.Spec PyProof.Rows

section
variable {g : TG} {tif : TT} {te : TE} {js : List (Option Nat)} {σ : St} {H : Hp} {Q : VK}
def RelAcc (H : Hp) (p : Addr) (T : Nat → Hp → V → Prop) (i : Nat) (acc : List V) (H2 : Hp) : Prop := Same H H2 ∧ H2 p = some (.lst acc) ∧ acc.length = i ∧ ∀ (j : Nat) v, acc[j]? = some v → T j (ers p H2) v
theorem ersU {p : Addr} {H : Hp} {o : HO} : ers p (upd H p o) = ers p H := by
  funext b
  unfold ers
  by_cases h : b = p
  · rw [if_pos h, if_pos h]
  · rw [if_neg h, if_neg h, upd_ne h]
theorem rel_next {p : Addr} {T : Nat → Hp → V → Prop} {i : Nat} {acc : List V} {H2 H3 : Hp} {v : V} (tm : ∀ i v H H', Same H H' → T i H v → T i H' v) (hp : H p = none) (r : RelAcc H p T i acc H2) (s3 : Same H2 H3) (hv : T i (ers p H3) v) :
    H3 p = some (.lst acc) ∧ RelAcc H p T (i + 1) (acc ++ [v]) (upd H3 p (.lst (acc ++ [v]))) := by
  obtain ⟨s2, e2, rfl, ht⟩ := r
  refine ⟨s3 _ _ e2, (s2.trans s3).upd hp, upd_same, by simp, fun j u hu => ?_⟩
  rw [ersU]
  by_cases hj : j < acc.length
  · rw [List.getElem?_append_left hj] at hu
    exact tm _ _ _ _ (Same.ers s3) (ht j u hu)
  · have : j = acc.length := by
      have := (List.getElem?_eq_some_iff.mp hu).1
      simp at this
      omega
    subst this
    rw [List.getElem?_append_right (Nat.le_refl _)] at hu
    simp at hu
    rw [← hu]
    exact hv
theorem comp_relL {K : PySem.W.Frag} {a : Addr} {xs : List V} {p : Addr} (T : Nat → Hp → V → Prop) (tm : ∀ i v H H', Same H H' → T i H v → T i H' v) (hn : xs.length ≤ 1000000) (hS : SqL K H a xs) (hp : H p = none)
    (hs : ∀ i x H2 (R : VK), xs[i]? = some x → Same H H2 → (∃ acc, H2 p = some (.lst acc)) → (∀ v H3, Same H2 H3 → T i (ers p H3) v → R v H3) → g x (cap js σ) H2 fun σ2 H3 => tif σ2 H3 fun c H4 => if c = true then te σ2 H4 R else False)
    (hd : ∀ H2 vs, Same H H2 → H2 p = some (.lst vs) → vs.length = xs.length → (∀ (i : Nat) v, vs[i]? = some v → T i (ers p H2) v) → Q (.ref p) H2) (mono : ∀ x H2 (M M' : St → Hp → Prop), (∀ σ' H', M σ' H' → M' σ' H') → g x (cap js σ) H2 M → g x (cap js σ) H2 M' := by intro _ _ _ _ h z; exact h _ _ z) (mon2 : ∀ σ2 H2 (M M' : Bool → Hp → Prop), (∀ c H', M c H' → M' c H') → tif σ2 H2 M → tif σ2 H2 M' := by intro _ _ _ _ h z; exact h _ _ z) :
    CompW (Itl K a) g tif te js σ Q p H := by
  refine comp_list hn (RelAcc H p T) ⟨Same.new hp, upd_same, rfl, fun j v h => by simp at h⟩ ?_ ?_ ?_
  · rintro i acc H2 hi ⟨s2, e2, l2, _⟩
    exact ⟨e2, by omega, s2.seq hS⟩
  · rintro i x acc H2 hx r
    refine mono _ _ _ _ (fun σ' H' z => ?_) (hs i x H2 _ hx r.1 ⟨acc, r.2.1⟩ fun v H3 s3 t3 => rel_next tm hp r s3 t3)
    refine mon2 _ _ _ _ (fun c H'' zz => ?_) z
    cases c with
    | true => exact zz
    | false => exact zz.elim
  · rintro acc H2 ⟨s2, e2, l2, t2⟩
    exact hd H2 acc s2 e2 l2 t2
theorem comp_relR {lo : Int} {n : Nat} {p : Addr} (T : Nat → Hp → V → Prop) (tm : ∀ i v H H', Same H H' → T i H v → T i H' v) (hn : n ≤ 1000000) (hp : H p = none)
    (hs : ∀ i H2 (R : VK), i < n → Same H H2 → (∃ acc, H2 p = some (.lst acc)) → (∀ v H3, Same H2 H3 → T i (ers p H3) v → R v H3) → g (.int (lo + i)) (cap js σ) H2 fun σ2 H3 => tif σ2 H3 fun c H4 => if c = true then te σ2 H4 R else False)
    (hd : ∀ H2 vs, Same H H2 → H2 p = some (.lst vs) → vs.length = n → (∀ (i : Nat) v, vs[i]? = some v → T i (ers p H2) v) → Q (.ref p) H2) (mono : ∀ x H2 (M M' : St → Hp → Prop), (∀ σ' H', M σ' H' → M' σ' H') → g x (cap js σ) H2 M → g x (cap js σ) H2 M' := by intro _ _ _ _ h z; exact h _ _ z) (mon2 : ∀ σ2 H2 (M M' : Bool → Hp → Prop), (∀ c H', M c H' → M' c H') → tif σ2 H2 M → tif σ2 H2 M' := by intro _ _ _ _ h z; exact h _ _ z) :
    CompW (Itr lo n) g tif te js σ Q p H := by
  refine comp_range hn (RelAcc H p T) ⟨Same.new hp, upd_same, rfl, fun j v h => by simp at h⟩ ?_ ?_ ?_
  · rintro i acc H2 hi ⟨s2, e2, l2, _⟩
    exact ⟨e2, by omega⟩
  · rintro i acc H2 hx r
    refine mono _ _ _ _ (fun σ' H' z => ?_) (hs i H2 _ hx r.1 ⟨acc, r.2.1⟩ fun v H3 s3 t3 => rel_next tm hp r s3 t3)
    refine mon2 _ _ _ _ (fun c H'' zz => ?_) z
    cases c with
    | true => exact zz
    | false => exact zz.elim
  · rintro acc H2 ⟨s2, e2, l2, t2⟩
    exact hd H2 acc s2 e2 l2 t2
end

end L2

set_option Elab.async false
set_option linter.all false
set_option maxRecDepth 100000
set_option maxHeartbeats 4000000
namespace Ex
open PySem PySem.W PyProof.Rows PySem.Spec
section
variable {prog : Program} {w : World} {A : Around} {E : Value → Shared → Prop} {R : Result → Shared → Prop} {h : Heap} {g : Array GenState} {d : Drawn} {t : Nat} {os : OsState}
  {nm q : Str} {C N : Addr} {bs bm : List Value} {hdct : Bool} {sn : List Str} {sub : List Value} {ab : Bool} {col : Option Bool} {dd : Option Addr} {k0 k1 k2 k3 k5 : Option Value}

structure VE (C : Addr) (bm : List Value) : Prop where
  b : (Value.ref C :: bm).contains (.type "ValueError") = true
  e : (Value.ref C :: bm).contains (.type "BaseException") = true
  a : (Value.ref C :: bm).contains (.type "AttributeError") = false
  n : (Value.ref C :: bm).contains (.type "NameError") = false
theorem x_check {M : Model} (hC : h.get? C = some (excClassObj nm q C N bs bm hdct sn sub ab col dd k0 k1 k2 k3 k5 "ValueError.__new__")) (V : VE C bm) {rest : List Value} {Q : Unit → Shared → Prop}
    (hq : Q () ⟨h, g, d, t, os⟩) : wpAny M A (checkBuiltinCall "ValueError.__new__" ⟨.ref C :: rest, []⟩) Q E ⟨h, g, d, t, os⟩ := by
  have F := PySem.F.excBase_ValueError
  have v := V.b
  have st := F.noStar
  simp only [checkBuiltinCall, F.newKind, F.newSplit, F.newRow]
  repeat (first | refine wpAny_loadPart_at hC ?_ | (refine wpAny_isSubtype_exc hC ?_; rw [v]) | refine wpAny_staticBase_exc hC ?_ | refine wpAny_madeBy_exc hC ?_ | simp only [bne_self_eq_false, Bool.false_eq_true, if_false] | wp_step)
  exact hq

def heapX (h : Heap) (C : Addr) (rest : List Value) : Heap := (h.push { cls := .type "tuple", data := .seq rest.toArray }).push { cls := .ref C, data := .fields #[.ref h.objs.size, .none, .none, .none, .bool false, .none] }
theorem heapX_keeps {rest : List Value} : ∀ b o, h.get? b = some o → (heapX h C rest).get? b = some o := fun _ _ e => Heap.get?_push_of_some _ (Heap.get?_push_of_some _ e)
theorem heapX_at {rest : List Value} : (heapX h C rest).get? (h.objs.size + 1) = some { cls := .ref C, data := .fields #[.ref h.objs.size, .none, .none, .none, .bool false, .none] } := by
  unfold heapX; heap_get
theorem x_new (hC : h.get? C = some (excClassObj nm q C N bs bm hdct sn sub ab col dd k0 k1 k2 k3 k5 "ValueError.__new__")) (V : VE C bm) {rest : List Value} (hz : rest.length ≤ sizeLine)
    (hq : R (.ok (.ret (.ref (h.objs.size + 1)))) ⟨heapX h C rest, g, d, t, os⟩) : codeAny (model prog w) A (.builtin "ValueError.__new__" ⟨.ref C :: rest, []⟩) R ⟨h, g, d, t, os⟩ := by
  have F := PySem.F.excBase_ValueError
  have en := F.ends
  have vb := V.b
  have va := V.a
  have vn := V.n
  refine codeAny_builtinAt F.entry ?_
  unfold Builtin.«BaseException.__new__»
  refine PySem.wpAt_bind ?_
  show PySem.wpAt _ _ _ (stack >>= _) _ _ _
  refine PySem.wpAt_bind (PySem.wpAt_stack fun p below => PySem.wpAt_of_wpAny ?_)
  wp_walk
  refine PySem.wpAt_of_wpAny ?_
  rw [F.owner]
  repeat (first | with_reducible refine wpAny_madeHere_exc F.canon hC ?_ | with_reducible refine wpAny_loadPart_at hC ?_ | (with_reducible refine wpAny_isSubtype_exc hC ?_; first | rw [vb] | rw [va] | rw [vn]) | wp_step)
  show R _ _
  rw [Heap.size_push]
  exact hq

theorem x_type (hC : h.get? C = some (excClassObj nm q C N bs bm hdct sn sub ab col dd k0 k1 k2 k3 k5 "ValueError.__new__")) (V : VE C bm) {rest : List Value} (hz : rest.length ≤ sizeLine) {fI : Value}
    (hi : Looks (model prog w) h (typeLookup (.ref C) "__init__") (some fI)) (hb : Looks (model prog w) h (bindSpecial fI (.ref (h.objs.size + 1))) (fI, [.ref (h.objs.size + 1)])) {Q : Fin → Shared → Prop}
    (hq : wpAny (model prog w) A (call fI (.ref (h.objs.size + 1) :: rest)) (fun r s' => r = .none ∧ Q (.done (.ret (.ref (h.objs.size + 1)))) s') E ⟨heapX h C rest, g, d, t, os⟩) :
    wpAny (model prog w) A (Builtin.«type.__call__» ⟨.ref C :: rest, []⟩) Q E ⟨h, g, d, t, os⟩ := by
  repeat (first | with_reducible refine wpAny_loadPart_at hC ?_ | with_reducible refine wpAny_madeBy_exc hC ?_ | wp_step)
  refine codeAny_call_builtin_code (Code.quiet_builtin _ PySem.F.excBase_ValueError.quiet) (x_check hC V ?_)
  refine x_new hC V hz ?_
  show wpAny _ _ _ _ _ _
  have hC1 := heapX_keeps (C := C) (rest := rest) _ _ hC
  have hg := heapX_at (h := h) (C := C) (rest := rest)
  have hcC : (Value.ref C :: bm).contains (.ref C) = true := by simp
  have i1 := hi.keeps (heapX_keeps (C := C) (rest := rest))
  have b1 := hb.keeps (heapX_keeps (C := C) (rest := rest))
  unfold isInstance
  repeat (first | with_reducible refine wpAny_loadPart_at hg ?_ | (with_reducible refine wpAny_isSubtype_exc hC1 ?_; rw [hcC]) | wp_step)
  show wpAny _ _ (typeLookup (.ref C) _) _ _ _
  refine i1.at ?_
  refine wpAny_holding (wpAny_bind ?_)
  refine b1.at ?_
  refine wpAny_bind (wpAny_mono hq (fun r s' hr => ?_) fun _ _ x => x)
  obtain ⟨rfl, hQ⟩ := hr
  wp_walk
  exact hQ
theorem x_call (hC : h.get? C = some (excClassObj nm q C N bs bm hdct sn sub ab col dd k0 k1 k2 k3 k5 "ValueError.__new__")) (V : VE C bm) {rest : List Value} (hz : rest.length ≤ sizeLine) {fI : Value}
    (hi : Looks (model prog w) h (typeLookup (.ref C) "__init__") (some fI)) (hb : Looks (model prog w) h (bindSpecial fI (.ref (h.objs.size + 1))) (fI, [.ref (h.objs.size + 1)])) {Q : Value → Shared → Prop}
    (hq : wpAny (model prog w) (A.under (.builtin "type.__call__" ⟨.ref C :: rest, []⟩)) (call fI (.ref (h.objs.size + 1) :: rest)) (fun r s' => r = .none ∧ Q (.ref (h.objs.size + 1)) s') E ⟨heapX h C rest, g, d, t, os⟩) :
    wpAny (model prog w) A (call (.ref C) rest) Q E ⟨h, g, d, t, os⟩ := by
  have f1 := tc_lookup
  have f2 := tc_bind (.ref C)
  have hT : (⟨h, g, d, t, os⟩ : Shared).TypeIs (.ref C) "type" := ⟨_, hC, rfl⟩
  refine wpAny_call (codeAny_of_tree ?_)
  show wpAny _ _ (callAny (.ref C) _) _ _ _
  repeat (any_goals (first | assumption | with_reducible refine wpAny_loadPart_at hC ?_ | wp_step))
  refine ⟨rfl, ?_⟩
  exact codeAny_call_builtin_at (Code.quiet_builtin _ (by decide +kernel)) entry_typeCall (wpAny_check_type_call_sub hC (x_type hC V hz hi hb hq))
theorem x_raise {M : Model} {env : Env} {s : Shared} {x : Sem Value} {Q : Flow → Shared → Prop} (hh : A.handled = none)
    (hx : wpAny M A x (fun v s₁ => ∃ e o vs, v = .ref e ∧ s₁.heap.get? C = some (excClassObj nm q C N bs bm hdct sn sub ab col dd k0 k1 k2 k3 k5 "ValueError.__new__") ∧ VE C bm ∧
      s₁.heap.get? e = some o ∧ o.cls = .ref C ∧ o.data = .fields vs ∧ vs[1]? = some .none ∧ E (.ref e) s₁) E s) : wpAny M A (raiseStmt env (some x) none) Q E s := by
  unfold raiseStmt
  refine wpAny_bind (wpAny_mono hx (fun v s₁ h₁ => ?_) fun _ _ x => x)
  obtain ⟨e, o, vs, rfl, hC, V, he, hc, hd, h1, hE⟩ := h₁
  obtain ⟨hp, g, d, tk, os⟩ := s₁
  obtain ⟨oc, od, oda, osl⟩ := o
  dsimp only at hc hd
  subst hc hd
  have ve := V.e
  repeat (first | with_reducible refine wpAny_loadPart_at he ?_ | with_reducible refine wpAny_loadPart_at hC ?_ | (with_reducible refine wpAny_isSubtype_exc hC ?_; rw [ve]) | wp_step)
  rw [h1]
  refine wpAny_pure ?_
  rw [if_neg (by decide)]
  exact wpAny_pure (wpAny_raiseNew_none hh hE)
end
end Ex

set_option Elab.async false
set_option linter.all false
set_option maxRecDepth 100000
set_option maxHeartbeats 4000000
namespace Ex
open PySem PySem.W PyProof.Rows PySem.Spec L2


structure Mvd (S : List Addr) (D : Addr → Prop) (h h' : Heap) : Prop where
  keep : ∀ b o, ¬ D b → b ∉ S → h.get? b = some o → h'.get? b = some o
  slot : ∀ b o, ¬ D b → h.get? b = some o → ∃ sl, h'.get? b = some { o with slots := sl }
theorem Mvd.trans {S : List Addr} {D : Addr → Prop} {h h1 h2 : Heap} (a : Mvd S D h h1) (b : Mvd S D h1 h2) : Mvd S D h h2 :=
  ⟨fun c o n m e => b.keep c o n m (a.keep c o n m e), fun c o n e => by
    obtain ⟨sl, e1⟩ := a.slot c o n e
    obtain ⟨sl2, e2⟩ := b.slot c _ n e1
    exact ⟨sl2, e2⟩⟩
theorem Mvd.mono {S : List Addr} {D D' : Addr → Prop} {h h' : Heap} (a : Mvd S D h h') (hd : ∀ b, D b → D' b) : Mvd S D' h h' := ⟨fun b o n => a.keep b o fun z => n (hd b z), fun b o n => a.slot b o fun z => n (hd b z)⟩

def Tr (h : Heap) (e : Addr) (cls : Value) (d : Option Addr) (T : Addr) (fl : Value) : Prop :=
  ∃ o vs oT ts, h.get? e = some o ∧ o.cls = cls ∧ o.dict = d ∧ o.data = .fields vs ∧ vs[1]? = some (.ref T) ∧ T ≠ e ∧ h.get? T = some oT ∧ oT.data = .fields ts ∧ ts[3]? = some fl

def Raw (h : Heap) (e : Addr) (cls : Value) (d : Option Addr) : Prop := ∃ o vs, h.get? e = some o ∧ o.cls = cls ∧ o.dict = d ∧ o.data = .fields vs ∧ vs[1]? = some .none
section
variable {M : Model} {A : Around} {E : Value → Shared → Prop} {s : Shared} {base : Heap} {env : Env} {outer : List Env} {L e : Addr} {cls : Value} {d : Option Addr}
theorem mapF (f : Array Value → Array Value) {o : Obj} {vs : Array Value} (hd : o.data = .fields vs) : Obj.mapFields f o = { o with data := .fields (f vs) } := by
  obtain ⟨c, d, dt, sl⟩ := o
  dsimp only at hd
  subst hd
  rfl
theorem x_entry {oe : Obj} {vs : Array Value} {head : Value} {hadNext : Bool} {Q : Unit → Shared → Prop} (hfr : A.frames = some (env :: outer)) (hl : s.heap.FunFrames base (env :: outer)) (hf : env.frame = some L)
    (he : s.heap.get? e = some oe) (hd : oe.data = .fields vs) (hsz : 1 < vs.size)
    (h : ∀ h' T, s.heap.get? T = none → Mvd (frs (env :: outer)) (fun b => b = e) s.heap h' → Tr h' e oe.cls oe.dict T (rawInt L) → Q () { s with heap := h' }) :
    wpAny M A (do let a ← frameOf env; let pl ← entryPlaceOf L hadNext; let b ← EntryCells.newEntry head a .none (rawInt L) .none pl; setField (.ref e) 1 b) Q E s := by
  have hene : e ∉ frs (env :: outer) := fun hm => by
    obtain ⟨_, o, ho, hnf⟩ := hl.mem hm
    rw [he] at ho; cases ho; exact hnf vs hd
  refine wpAny_bind (wpAny_frameOf_fun hfr hl hf fun h₁ hs₁ => ?_)
  refine wpAny_bind (wpAny_entryPlaceOf fun pl hpl => ?_)
  unfold EntryCells.newEntry newFields
  refine wpAny_bind (wpAny_newObj_type ?_ (hpl.sizeOk5 _ _ _ _ _))
  have he₁ : h₁.get? e = some oe := (hs₁.2.1 e hene).trans he
  have he₂ := Heap.get?_push_of_some (h := h₁) { cls := .type "traceback", dict := none, data := .fields ([head, .ref L, .none, rawInt L, .none] ++ (if pl.isEmpty then List.replicate 6 Value.none else pl)).toArray } he₁
  refine wpAny_setField he₂ hd hsz (h _ h₁.objs.size (Heap.get?_none_of_le (by rw [hs₁.1]; exact Nat.le_refl _)) ?_ ?_)
  · refine ⟨fun b o hb hm hbo => ?_, fun b o hb hbo => ?_⟩
    · rw [Heap.get?_update_other _ _ (Ne.symm hb)]
      exact Heap.get?_push_of_some _ ((hs₁.2.1 b hm).trans hbo)
    · obtain ⟨sl, e1⟩ := hs₁.2.2 b o hbo
      refine ⟨sl, ?_⟩
      rw [Heap.get?_update_other _ _ (Ne.symm hb)]
      exact Heap.get?_push_of_some _ e1
  · have hTe : h₁.objs.size ≠ e := Nat.ne_of_gt (Heap.lt_size he₁)
    have hd₃ := Obj.data_mapFields hd (·.setIfInBounds 1 (Value.ref h₁.objs.size))
    have he₃ := Heap.get?_update_self (Obj.mapFields (·.setIfInBounds 1 (Value.ref h₁.objs.size))) he₂ (Obj.isFreed_of_fields hd₃)
    have hT₃ := (Heap.get?_update_other (h₁.push { cls := .type "traceback", dict := none, data := .fields ([head, .ref L, .none, rawInt L, .none] ++ (if pl.isEmpty then List.replicate 6 Value.none else pl)).toArray })
      (Obj.mapFields (·.setIfInBounds 1 (Value.ref h₁.objs.size))) (Ne.symm hTe)).trans (Heap.get?_push_size h₁ rfl)
    refine ⟨_, _, _, _, he₃, ?_, ?_, hd₃, by simp [hsz], hTe, hT₃, rfl, by first | (simp; done) | (rcases hpl with rfl | ⟨_, _, _, _, _, _, _, rfl⟩ <;> simp)⟩
    · rw [mapF _ hd]
    · rw [mapF _ hd]

theorem x_mark {T : Addr} {fl : Value} {fr : Option Addr} {Q : Unit → Shared → Prop} (ht : Tr s.heap e cls d T fl)
    (h : ∀ h', Mvd [] (fun b => b = T) s.heap h' → Tr h' e cls d T (fr.elim .none fun f => rawInt f) → Q () { s with heap := h' }) : wpAny M A (setFlight (.ref e) fr) Q E s := by
  obtain ⟨o, vs, oT, ts, he, hc, hdc, hd, h1, hTe, hT, hdT, h3⟩ := ht
  have hsz : 3 < ts.size := (Array.getElem?_eq_some_iff.mp h3).1
  unfold setFlight
  refine wpAny_bind (wpAny_field he hd h1 ?_)
  rw [if_pos (show (Value.ref T != Value.none) = true from by simp)]
  have other : ∀ (g : Obj → Obj) (b : Addr), b ≠ T → (s.heap.update T g).get? b = s.heap.get? b := fun g b hb => Heap.get?_update_other _ _ (Ne.symm hb)
  refine wpAny_setField hT hdT hsz (h _ ⟨fun b o hb _ hbo => (other _ b hb).trans hbo, fun b o hb hbo => ⟨o.slots, (other _ b hb).trans hbo⟩⟩ ?_)
  exact ⟨o, vs, _, _, (other _ e (Ne.symm hTe)).trans he, hc, hdc, hd, h1, hTe, Heap.get?_update_self _ hT (Obj.isFreed_of_fields (Obj.data_mapFields hdT _)), Obj.data_mapFields hdT _, by simp [hsz]⟩

theorem x_noteR {Q : Unit → Shared → Prop} (hfr : A.frames = some (env :: outer)) (hl : s.heap.FunFrames base (env :: outer)) (hf : env.frame = some L) (hr : Raw s.heap e cls d)
    (h : ∀ h' T, s.heap.get? T = none → Mvd (frs (env :: outer)) (fun b => b = e) s.heap h' → Tr h' e cls d T (rawInt L) → Q () { s with heap := h' }) : wpAny M A (noteFrame (.ref e) env) Q E s := by
  obtain ⟨o, vs, he, rfl, rfl, hd, h1⟩ := hr
  unfold noteFrame
  simp only [hf]
  refine wpAny_bind (wpAny_field he hd h1 ?_)
  rw [if_neg (by decide)]
  exact x_entry hfr hl hf he hd (Array.getElem?_eq_some_iff.mp h1).1 h

theorem x_noteT {T0 : Addr} {Q : Unit → Shared → Prop} (hfr : A.frames = some (env :: outer)) (hl : s.heap.FunFrames base (env :: outer)) (hf : env.frame = some L) (hr : Tr s.heap e cls d T0 .none)
    (h : ∀ h' T, s.heap.get? T = none → Mvd (frs (env :: outer)) (fun b => b = e ∨ b = T0) s.heap h' → Tr h' e cls d T (rawInt L) → Q () { s with heap := h' }) : wpAny M A (noteFrame (.ref e) env) Q E s := by
  obtain ⟨o, vs, oT, ts, he, rfl, rfl, hd, h1, hTe, hT, hdT, h3⟩ := hr
  unfold noteFrame
  simp only [hf]
  refine wpAny_bind (wpAny_field he hd h1 ?_)
  rw [if_pos (show (Value.ref T0 != Value.none) = true from by simp)]
  refine wpAny_bind (wpAny_field hT hdT h3 ?_)
  rw [if_neg (show ¬ ((Value.none == rawInt L) = true) from by simp [rawInt])]
  refine wpAny_bind (wpAny_setField hT hdT (Array.getElem?_eq_some_iff.mp h3).1 ?_)
  have other : ∀ (g : Obj → Obj) (b : Addr), b ≠ T0 → (s.heap.update T0 g).get? b = s.heap.get? b := fun g b hb => Heap.get?_update_other _ _ (Ne.symm hb)
  have noT : ∀ b o, s.heap.get? b = some o → (∀ vs, o.data ≠ .fields vs) → b ≠ T0 := fun b o hb hnf q => by
    rw [q, hT] at hb; cases hb; exact hnf ts hdT
  have m1 : Mvd (frs (env :: outer)) (fun b => b = e ∨ b = T0) s.heap (s.heap.update T0 (Obj.mapFields (·.setIfInBounds 3 Value.none))) :=
    ⟨fun b o hb _ hbo => (other _ b fun z => hb (.inr z)).trans hbo, fun b o hb hbo => ⟨o.slots, (other _ b fun z => hb (.inr z)).trans hbo⟩⟩
  have hl2 : (s.heap.update T0 (Obj.mapFields (·.setIfInBounds 3 Value.none))).FunFrames base (env :: outer) := hl.of_keeps fun b o hb hnf => ⟨o, (other _ b (noT b o hb hnf)).trans hb, rfl⟩
  refine x_entry (s := { s with heap := s.heap.update T0 (Obj.mapFields (·.setIfInBounds 3 Value.none)) }) hfr hl2 hf ((other _ e (Ne.symm hTe)).trans he) hd (Array.getElem?_eq_some_iff.mp h1).1 fun h' T hT' m2 tr => h h' T ?_ (m1.trans (m2.mono fun b z => .inl z)) tr
  by_cases z : T = T0
  · subst z
    exfalso
    have q := Heap.get?_update_self (Obj.mapFields (·.setIfInBounds 3 Value.none)) hT (Obj.isFreed_of_fields (Obj.data_mapFields hdT _))
    dsimp only at hT'
    rw [q] at hT'; cases hT'
  · dsimp only at hT'
    rwa [other _ T z] at hT'
end
end Ex

set_option Elab.async false
set_option linter.all false
set_option maxRecDepth 100000
set_option maxHeartbeats 4000000
namespace L2
open PySem PySem.Spec PyProof.Rows


def XO (e C : Addr) (d : Option Addr) : HO := .ext fun h => ∃ t, h.get? e = some { cls := .ref C, dict := d, data := .fields #[.ref t, .none, .none, .none, .bool false, .none] }

def XC (e C : Addr) (d : Option Addr) : HO := .ext fun h => ∃ o vs, h.get? e = some o ∧ o.cls = .ref C ∧ o.dict = d ∧ o.data = .fields vs

def XCls (K : PySem.W.Frag) (C : Addr) : Prop := ∃ (nm q : Str) (N : Addr) (bs bm : List Value) (sn : List Str) (sub : List Value) (ab : Bool) (col : Option Bool) (dd : Option Addr) (k0 k1 k2 k3 k5 : Option Value),
  K.lookup C = some (excClassObj nm q C N bs bm true sn sub ab col dd k0 k1 k2 k3 k5 "ValueError.__new__") ∧ Ex.VE C bm

def CXe (P : Program) (w : World) : CXT := fun outer H s E e s' => ∃ ea cls d T H', e = .ref ea ∧ s'.os = s.os ∧ AllBare s'.gens ∧ Un (frs outer) [] H H' s.heap s'.heap ∧ HOk P w H' s'.heap ∧
  s.heap.get? ea = none ∧ H' ea = none ∧ s.heap.get? T = none ∧ H' T = none ∧ Ex.Tr s'.heap ea cls d T .none ∧ E cls d H'
section
variable {P : Program} {w : World} {H H' : Hp} {h h' : Heap} {a : Addr} {o : HO} {fs S : List Addr} {D : Addr → Prop} {H0 : Hp} {h0 : Heap}
theorem ObjOk.some_at (x : ObjOk P w H h a o) : ∃ u, h.get? a = some u := by
  cases o with
  | lst xs => obtain ⟨_, _, _, _, e⟩ := x; exact ⟨_, e⟩
  | tup xs => obtain ⟨_, _, _, ob, e, _⟩ := x; exact ⟨_, e⟩
  | dK kvs => obtain ⟨_, _, _, _, o, _, _, e, _⟩ := x; exact ⟨_, e⟩
  | dT kvs => obtain ⟨_, _, _, _, o, _, _, e, _⟩ := x; exact ⟨_, e⟩
  | set S n => obtain ⟨o, _, _, _, e, _⟩ := x; exact ⟨_, e⟩
  | ins C dx fs => obtain ⟨_, _, _, e, _⟩ := x; exact ⟨_, e⟩
  | own y => exact x
  | xd fs => obtain ⟨_, ⟨_, _, _, e, _⟩, _⟩ := x; exact ⟨_, e⟩
  | rng lo hi => obtain ⟨_, _, _, e⟩ := x; exact ⟨_, e⟩
  | frz ob u => obtain ⟨e, _⟩ := x; exact ⟨_, e⟩
  | tbl ps => exact ⟨_, (show h.get? a = some _ from x)⟩
  | met f y => exact ⟨_, (show h.get? a = some _ from x)⟩
  | ext φ => exact x.2.1
theorem HOk.none_of (x : HOk P w H h) (e : h.get? a = none) : H a = none := by
  cases q : H a with
  | none => rfl
  | some u => obtain ⟨v, z⟩ := (x a u q).some_at; rw [e] at z; cases z
theorem Un.moved (u : Un fs [] H0 H h0 h) (m : Ex.Mvd S D h h') (hD : ∀ b, D b → h0.get? b = none) (hS : ∀ b ∈ S, b ∈ fs ∨ h0.get? b = none) : Un fs [] H0 H h0 h' where
  keep := fun b o q n hb hx => m.keep b o (fun z => by rw [hD b z] at q; cases q) (fun z => (hS b z).elim hb fun r => by rw [r] at q; cases q) (u.keep b o q n hb hx)
  slot := fun b o q n hb hx => by
    obtain ⟨sl, e⟩ := u.slot b o q n hb hx
    obtain ⟨sl2, e2⟩ := m.slot b _ (fun z => by rw [hD b z] at q; cases q) e
    exact ⟨sl2, e2⟩
  free := u.free
  there := fun b o q hx => by
    obtain ⟨o', e⟩ := u.there b o q hx
    obtain ⟨sl2, e2⟩ := m.slot b _ (fun z => by rw [hD b z] at q; cases q) e
    exact ⟨_, e2⟩
  tups := u.tups
  frzs := u.frzs
  tbls := u.tbls
theorem HOk.moved (x : HOk P w H h) (m : Ex.Mvd S D h h') (hD : ∀ b, D b → H b = none) (hS : ∀ b ∈ S, H b = none) : HOk P w H h' := fun a o e =>
  (x a o e).stay (fun b u hb q => by
    have t : ∃ z, H b = some z := by
      rcases hb with rfl | hb
      · exact ⟨_, e⟩
      · exact ⟨_, hb⟩
    obtain ⟨z, t⟩ := t
    exact m.keep b u (fun y => by rw [hD b y] at t; cases t) (fun y => by rw [hS b y] at t; cases t) q) (fun _ q => q) fun _ _ q => q
theorem Un.ers {φ : Heap → Prop} (u : Un fs [] H0 H h0 h) (e : H a = some (.ext φ)) : Un fs [] H0 (ers a H) h0 h where
  keep := u.keep
  slot := u.slot
  free := fun b o q n hx => by
    have r := u.free b o q n hx
    unfold L2.ers
    split
    · rfl
    · exact r
  there := u.there
  tups := fun b xs q => by
    have r := u.tups b xs q
    rw [ers_ne (fun z => by rw [z, e] at r; cases r)]; exact r
  frzs := fun b o xs q => by
    have r := u.frzs b o xs q
    rw [ers_ne (fun z => by rw [z, e] at r; cases r)]; exact r
  tbls := fun b ps q => by
    obtain ⟨m, r⟩ := u.tbls b ps q
    exact ⟨m, by rw [ers_ne (fun z => by rw [z, e] at r; cases r)]; exact r⟩
theorem HOk.ers {φ : Heap → Prop} (x : HOk P w H h) (e : H a = some (.ext φ)) : HOk P w (ers a H) h := fun b o q => by
  have hb : b ≠ a := fun z => by subst z; unfold L2.ers at q; rw [if_pos rfl] at q; cases q
  rw [ers_ne hb] at q
  exact (x b o q).stay (fun c u _ r => r) (fun c r => by rw [ers_ne (fun z => by rw [z, e] at r; cases r)]; exact r) fun c xs r => by rw [ers_ne (fun z => by rw [z, e] at r; cases r)]; exact r
end
theorem mvd_S {S S' : List Addr} {D : Addr → Prop} {h h' : Heap} (m : Ex.Mvd S D h h') (hs : ∀ b ∈ S, b ∈ S') : Ex.Mvd S' D h h' := ⟨fun b o n z => m.keep b o n fun q => z (hs b q), m.slot⟩
section
variable {P : Program} {w : World} {K : PySem.W.Frag} {mg : Str → Option Value} {base : Heap} {N : List Str} {qual : Str} {sc : Scope} {f : Addr} {cd : Value} {A : Around} {outer : List Env} {s0 s : Shared} {H0 H : Hp} {E : XK}
  {pins : List (Addr × Obj)} {σ : St} {cls : Value} {d : Option Addr} {e : Addr}
theorem xe_end {h2 : Heap} {T : Addr} {D : Addr → Prop} {S : List Addr} (I : Inv (cxOf (CXe P w) P w K mg base N qual sc f cd A outer s0 H0 E) pins σ H s) {H1 : Hp} (hn : s0.heap.get? e = none) (hT : s.heap.get? T = none)
    (u : Un (frs outer) [] H0 H1 s0.heap s.heap) (hok : HOk P w H1 s.heap) (he1 : H1 e = none) (hS : S = frs (cxOf (CXe P w) P w K mg base N qual sc f cd A outer s0 H0 E).stack) (hS1 : ∀ b ∈ S, H1 b = none)
    (m : Ex.Mvd S D s.heap h2) (hD0 : ∀ b, D b → s0.heap.get? b = none) (hD1 : ∀ b, D b → H1 b = none)
    (t : Ex.Tr h2 e cls d T .none) (hE : E cls d H1) : CXe P w outer H0 s0 E (.ref e) { s with heap := h2 } := by
  have fresh : ∀ b, s.heap.get? b = none → s0.heap.get? b = none := fun b q => by
    cases r : s0.heap.get? b with
    | none => rfl
    | some o => obtain ⟨o', z⟩ := u.there b o r (by simp); rw [q] at z; cases z
  refine ⟨e, cls, d, T, H1, rfl, I.os, I.bare, u.moved m hD0 fun b hb => ?_, hok.moved m hD1 hS1, hn, he1, fresh T hT, hok.none_of hT, t, hE⟩
  subst hS
  rcases List.mem_cons.mp (I.stkSub b hb) with z | z
  · exact .inr (by rw [z]; exact Heap.get?_none_of_le I.ok.above)
  · exact .inl z

theorem xe_raw (I : Inv (cxOf (CXe P w) P w K mg base N qual sc f cd A outer s0 H0 E) pins σ H s) {φ : Heap → Prop} (he : H e = some (.ext φ)) (hn : s0.heap.get? e = none) (hr : Ex.Raw s.heap e cls d) (hE : E cls d (ers e H)) :
    (cxOf (CXe P w) P w K mg base N qual sc f cd A outer s0 H0 E).xe (.ref e) s := by
  show wpAny _ _ (leaving _ _) _ _ s
  unfold leaving
  refine wpAny_bind (Ex.x_noteR I.ok.frames I.stack rfl hr fun h1 T hT m1 t1 => ?_)
  refine Ex.x_mark (fr := none) t1 fun h2 m2 t2 => ?_
  have hfr := I.stkFree
  have fresh : ∀ b, s.heap.get? b = none → s0.heap.get? b = none := fun b q => by
    cases r : s0.heap.get? b with
    | none => rfl
    | some o => obtain ⟨o', z⟩ := I.base.there b o r (fun q => nomatch q); rw [q] at z; cases z
  refine xe_end (s := s) (D := fun b => b = e ∨ b = T) (S := frs (cxOf (CXe P w) P w K mg base N qual sc f cd A outer s0 H0 E).stack) I hn hT (Un.ers I.base he) (HOk.ers I.hok he) (if_pos rfl) rfl (fun b hb => ?_) ((m1.mono fun b z => .inl z).trans (mvd_S (m2.mono fun b z => .inr z) fun b z => nomatch z)) ?_ ?_ t2 hE
  · unfold L2.ers; split; rfl; exact hfr b hb
  · rintro b (rfl | rfl); exact hn; exact fresh _ hT
  · rintro b (rfl | rfl)
    · exact if_pos rfl
    · exact (HOk.ers I.hok he).none_of hT

theorem pass_e : Passes (CXe P w) (cxOf (CXe P w) P w K mg base N qual sc f cd A outer s0 H0 E) E := by
  intro pins σ H s ev s' I c
  obtain ⟨e, cls, d, T0, H1, rfl, os, bare, un, hok, hn, he1, hT0, hT1, tr, hE⟩ := c
  have I1 : Inv (cxOf (CXe P w) P w K mg base N qual sc f cd A outer s0 H0 E) pins σ H1 s' := I.call' os un hok bare fun b z => nomatch z
  show wpAny _ _ (leaving _ _) _ _ s'
  unfold leaving
  refine wpAny_bind (Ex.x_noteT I1.ok.frames I1.stack rfl tr fun h1 T hT m1 t1 => ?_)
  refine Ex.x_mark (fr := none) t1 fun h2 m2 t2 => ?_
  have fr0 : ∀ b, s.heap.get? b = none → s0.heap.get? b = none := fun b q => by
    cases r : s0.heap.get? b with
    | none => rfl
    | some o => obtain ⟨o', z⟩ := I.base.there b o r (fun q => nomatch q); rw [q] at z; cases z
  have fr1 : ∀ b, s'.heap.get? b = none → s0.heap.get? b = none := fun b q => by
    cases r : s0.heap.get? b with
    | none => rfl
    | some o => obtain ⟨o', z⟩ := I1.base.there b o r (fun q => nomatch q); rw [q] at z; cases z
  refine xe_end (s := s') (D := fun b => (b = e ∨ b = T0) ∨ b = T) (S := frs (cxOf (CXe P w) P w K mg base N qual sc f cd A outer s0 H0 E).stack) I1 (fr0 _ hn) hT I1.base I1.hok he1 rfl I1.stkFree ((m1.mono fun b z => .inl z).trans (mvd_S (m2.mono fun b z => .inr z) fun b z => nomatch z)) ?_ ?_ t2 hE
  · rintro b ((rfl | rfl) | rfl)
    · exact fr0 _ hn
    · exact fr0 _ hT0
    · exact fr1 _ hT
  · rintro b ((rfl | rfl) | rfl)
    · exact he1
    · exact hT1
    · exact I1.hok.none_of hT
theorem pass_own : PassesOwn (model P w) (cxOf (CXe P w) P w K mg base N qual sc f cd A outer s0 H0 E).A (cxOf (CXe P w) P w K mg base N qual sc f cd A outer s0 H0 E).env (cxOf (CXe P w) P w K mg base N qual sc f cd A outer s0 H0 E).xe := PassesOwn.leaving
end

def Throws (X : Cx) (EX : XK) : Prop := ∀ (pins : List (Addr × Obj)) (σ : St) (H : Hp) (s : Shared) (e : Addr) (φ : Heap → Prop) (cls : Value) (d : Option Addr),
  Inv X pins σ H s → H e = some (.ext φ) → X.s₀.heap.get? e = none → Ex.Raw s.heap e cls d → EX cls d (ers e H) → X.xe (.ref e) s
theorem throws_e {P : Program} {w : World} {K : PySem.W.Frag} {mg : Str → Option Value} {base : Heap} {N : List Str} {qual : Str} {sc : Scope} {f : Addr} {cd : Value} {A : Around} {outer : List Env} {s0 : Shared} {H0 : Hp} {E : XK} :
    Throws (cxOf (CXe P w) P w K mg base N qual sc f cd A outer s0 H0 E) E := fun _ _ _ _ _ _ _ _ I he hn hr hE => xe_raw I he hn hr hE
end L2

set_option Elab.async false
set_option linter.all false
set_option maxRecDepth 100000
set_option maxHeartbeats 4000000
namespace L2
open PySem PySem.Spec PyProof.Rows
theorem xo_ok {P : Program} {w : World} {H : Hp} {h : Heap} {e C : Addr} {d : Option Addr} {t : Addr} (q : h.get? e = some { cls := .ref C, dict := d, data := .fields #[.ref t, .none, .none, .none, .bool false, .none] }) : ObjOk P w H h e (XO e C d) :=
  ⟨⟨t, q⟩, ⟨_, q⟩, fun h1 h2 ⟨u, z⟩ k => ⟨u, k _ z⟩⟩
theorem xc_ok {P : Program} {w : World} {H : Hp} {h : Heap} {e C : Addr} {d : Option Addr} {o : Obj} {vs : Array Value} (q : h.get? e = some o) (hc : o.cls = .ref C) (hd : o.dict = d) (hf : o.data = .fields vs) : ObjOk P w H h e (XC e C d) :=
  ⟨⟨o, vs, q, hc, hd, hf⟩, ⟨_, q⟩, fun h1 h2 ⟨o, vs, z, r⟩ k => ⟨o, vs, k _ z, r⟩⟩
def tRaise (C : Addr) (sp : Sp) (EX : XK) (t : TA) : TS := fun _ σ H => t σ H fun vs H1 => ∀ x, H1 x = none →
  sp (.ref x :: vs) (upd H1 x (XO x C none)) (fun v H2 => v = .non ∧ ∃ d, H2 x = some (XO x C d) ∧ EX (.ref C) d (ers x H2)) E0
section
variable {X : Cx} {k : Nat} {f C : Addr} {fd : FuncData} {ps : List Str} {sp : Sp} {EX : XK} {x : Str} {p pos cpos : Pos} {e : Expr} {es : List Expr} {t : TA}

theorem ps_raise (hX : XCls X.K C) (hm : X.mg x = some (.ref C)) (hi : PySem.W.findIn X.K (.ref C) "__init__" = some (some (.ref f))) (hf : PySem.W.isFn X.K (.ref f) = true) (hk : PySem.W.keepIn X.K (.ref C) = true)
    (F : FnOk X.prog X.w X.K X.mg X.base CX0 k f fd ps sp) (hb : Binds X.K fd ps []) (hr : Room (k + 1) X.A) (hc : X.calm = true) (hx : Throws X EX) (ha : PA X (e :: es) t) (hz : ps.length ≤ 1000 := by decide) (hg : Gl X x := by rfl)
    (hdb : (x == ("__debug__" : Str)) = false := by decide) (he : starEach (e :: es) X.env = (false, eval e X.env) :: starEach es X.env := by rfl) (hpl : (backTo cpos (starEach es X.env)).any (·.1) = false := by rfl) :
    PS X (.Raise (some (.Call (.Name x p) (e :: es) [] cpos)) none pos) (tRaise C sp EX t) := by
  intro pins s σ H D I h
  obtain ⟨nm, q, N, bs, bm, sn, sub, ab, col, dd, k0, k1, k2, k3, k5, hl, VV⟩ := hX
  rw [arm_exec_Raise]
  refine wpAny_bind (wpAny_standAt (Ex.x_raise (C := C) (nm := nm) (q := q) (N := N) (bs := bs) (bm := bm) (hdct := true) (sn := sn) (sub := sub) (ab := ab) (col := col) (dd := dd) (k0 := k0) (k1 := k1) (k2 := k2) (k3 := k3) (k5 := k5) (I.ok.hd hc) ?_))
  show wpAny _ _ (eval (.Call (.Name x p) (e :: es) [] cpos) X.env >>= fun v => standAt pos >>= fun _ => pure v) _ _ _
  refine wpAny_bind (wpAny_mono (Q := fun v s₁ => ∃ e o vs, v = .ref e ∧ s₁.heap.get? C = some (excClassObj nm q C N bs bm true sn sub ab col dd k0 k1 k2 k3 k5 "ValueError.__new__") ∧ Ex.VE C bm ∧
      s₁.heap.get? e = some o ∧ o.cls = .ref C ∧ o.data = .fields vs ∧ vs[1]? = some .none ∧ X.xe (.ref e) s₁) ?_ (fun v s3 h3 => wpAny_bind (wpAny_standAt (wpAny_pure h3))) fun _ _ z => z)
  refine wpAny_Call_Name_kw (ld_glob I hg hm ?_ hdb)
  refine PySem.W.callWith_K (h₀ := X.base) I.ok.mod.kin hk (thn (ha cpos pins s σ H _ I h) fun us s1 ⟨vs, H1, I1, r, q1⟩ => ⟨I1.kIn, ?_⟩) he hpl
  have hq := q1 (s1.heap.objs.size + 1) (I1.hok.fresh (Nat.le_succ _))
  have hlen := F.len _ _ _ _ hq
  have hlen' : us.length ≤ sizeLine := by
    rw [List.length_cons, r.length] at hlen
    exact Nat.le_of_lt (small1000 (by omega))
  obtain ⟨hp, g, dr, tk, os⟩ := s1
  refine Ex.x_call (fI := .ref f) (I1.kIn _ _ hl) VV hlen' (PySem.W.looks_findIn I1.kIn hi) (PySem.W.bind_fn I1.kIn _ (beq_iff_eq.mp hf)) ?_
  have I2 : Inv X pins σ (upd H1 (hp.objs.size + 1) (XO (hp.objs.size + 1) C none)) ⟨Ex.heapX hp C us, g, dr, tk, os⟩ :=
    I1.laid (h' := Ex.heapX hp C us) (t' := tk) (fun b u z => Ex.heapX_keeps b u z) (Nat.le_succ _) (xo_ok Ex.heapX_at)
  have r2 : Vals (V.ref (hp.objs.size + 1) :: vs) (Value.ref (hp.objs.size + 1) :: us) := .cons rfl r
  have hl2 : (Value.ref (hp.objs.size + 1) :: us).length = ps.length := by rw [← r2.length]; exact hlen
  have hb2 : BindsTo ⟨Ex.heapX hp C us, g, dr, tk, os⟩ fd ⟨Value.ref (hp.objs.size + 1) :: us, []⟩ (ps.zip (Value.ref (hp.objs.size + 1) :: us)) := by
    have := hb ⟨Ex.heapX hp C us, g, dr, tk, os⟩ (Value.ref (hp.objs.size + 1) :: us) I2.kIn (by rw [List.append_nil]; exact hl2)
    rwa [List.append_nil] at this
  refine wpAny_call (codeAny_mono (F.run _ X.stack _ _ ⟨Value.ref (hp.objs.size + 1) :: us, []⟩ (Value.ref (hp.objs.size + 1) :: us) _ _ E0 (hr.make C us []) (I2.env0.make C us []) hb2 r2 hq) fun rr s' hq' => ?_)
  cases rr with
  | error ev => exact False.elim hq'
  | ok fl =>
    cases fl with
    | ret u =>
      obtain ⟨v, H3, I3, rv, ev, dd', hx3, hE⟩ := I2.after hq'
      subst ev
      obtain ⟨t0, hob⟩ := (I3.hok _ _ hx3).1
      exact ⟨rv, _, _, _, rfl, I3.kIn _ _ hl, VV, hob, rfl, rfl, rfl, hx pins σ H3 s' _ _ (.ref C) dd' I3 hx3 (Heap.get?_none_of_le (Nat.le_trans I1.sz (Nat.le_succ _))) ⟨_, _, hob, rfl, rfl, rfl, rfl⟩ hE⟩
    | next => exact False.elim hq'
    | brk => exact False.elim hq'
    | cont => exact False.elim hq'
end
end L2

set_option Elab.async false
set_option linter.all false
set_option maxRecDepth 100000
set_option maxHeartbeats 4000000
namespace Ex
open PySem PySem.W PyProof.Rows PySem.Spec
section
variable {prog : Program} {w : World} {A : Around} {E : Value → Shared → Prop} {R : Result → Shared → Prop} {h : Heap} {g : Array GenState} {d : Drawn} {t : Nat} {os : OsState}
  {nm q : Str} {C N : Addr} {bs bm : List Value} {hdct : Bool} {sn : List Str} {sub : List Value} {ab : Bool} {col : Option Bool} {dd : Option Addr} {k0 k1 k2 k3 k5 : Option Value}
theorem x_init0 {e t0 : Addr} {Q : Value → Shared → Prop} (hC : h.get? C = some (excClassObj nm q C N bs bm hdct sn sub ab col dd k0 k1 k2 k3 k5 "ValueError.__new__")) (V : VE C bm)
    (he : h.get? e = some { cls := .ref C, data := .fields #[.ref t0, .none, .none, .none, .bool false, .none] })
    (hq : ∀ h' t', (∀ b o, b ≠ e → h.get? b = some o → h'.get? b = some o) → h'.get? e = some { cls := .ref C, data := .fields #[.ref t', .none, .none, .none, .bool false, .none] } → Q .none ⟨h', g, d, t, os⟩) :
    wpAny (model prog w) A (call (.builtin "ValueError.__init__") [.ref e]) Q E ⟨h, g, d, t, os⟩ := by
  have F := PySem.F.excBase_ValueError
  have vb := V.b
  have st := F.noStar
  refine wpAny_call (codeAny_call_builtin F.init.plain F.initEntry ?_)
  simp only [checkBuiltinCall, F.initKind, F.initSplit, F.initRow]
  repeat (first | with_reducible refine wpAny_loadPart_at he ?_ | with_reducible refine wpAny_loadPart_at hC ?_ | (with_reducible refine wpAny_isSubtype_exc hC ?_; rw [vb]) | wp_step)
  show Q _ _
  refine hq _ h.objs.size (fun b o hb hbo => ?_) ?_
  · rw [Heap.get?_update_other _ _ (Ne.symm hb)]
    exact Heap.get?_push_of_some _ hbo
  · rw [Heap.get?_update_self _ (Heap.get?_push_of_some _ he) rfl]
    rfl
end
end Ex
namespace L2
open PySem PySem.Spec PyProof.Rows
def tRaise0 (C : Addr) (EX : XK) : TS := fun _ _ H => EX (.ref C) none H
section
variable {X : Cx} {C : Addr} {EX : XK} {x : Str} {p pos cpos : Pos}

theorem ps_raise0 (hX : XCls X.K C) (hm : X.mg x = some (.ref C)) (hi : PySem.W.findIn X.K (.ref C) "__init__" = some (some (.builtin "ValueError.__init__"))) (hk : PySem.W.keepIn X.K (.ref C) = true)
    (hc : X.calm = true) (hx : Throws X EX) (hg : Gl X x := by rfl) (hdb : (x == ("__debug__" : Str)) = false := by decide) :
    PS X (.Raise (some (.Call (.Name x p) [] [] cpos)) none pos) (tRaise0 C EX) := by
  intro pins s σ H D I h
  obtain ⟨nm, q, N, bs, bm, sn, sub, ab, col, dd, k0, k1, k2, k3, k5, hl, VV⟩ := hX
  rw [arm_exec_Raise]
  refine wpAny_bind (wpAny_standAt (Ex.x_raise (C := C) (nm := nm) (q := q) (N := N) (bs := bs) (bm := bm) (hdct := true) (sn := sn) (sub := sub) (ab := ab) (col := col) (dd := dd) (k0 := k0) (k1 := k1) (k2 := k2) (k3 := k3) (k5 := k5) (I.ok.hd hc) ?_))
  show wpAny _ _ (eval (.Call (.Name x p) [] [] cpos) X.env >>= fun v => standAt pos >>= fun _ => pure v) _ _ _
  refine wpAny_bind (wpAny_mono (Q := fun v s₁ => ∃ e o vs, v = .ref e ∧ s₁.heap.get? C = some (excClassObj nm q C N bs bm true sn sub ab col dd k0 k1 k2 k3 k5 "ValueError.__new__") ∧ Ex.VE C bm ∧
      s₁.heap.get? e = some o ∧ o.cls = .ref C ∧ o.data = .fields vs ∧ vs[1]? = some .none ∧ X.xe (.ref e) s₁) ?_ (fun v s3 h3 => wpAny_bind (wpAny_standAt (wpAny_pure h3))) fun _ _ z => z)
  refine wpAny_Call_Name_kw (ld_glob I hg hm ?_ hdb)
  refine PySem.W.callWith_K0 I.kIn hk ?_
  obtain ⟨hp, g, dr, tk, os⟩ := s
  refine Ex.x_call (fI := .builtin "ValueError.__init__") (rest := []) (I.kIn _ _ hl) VV (by decide) (PySem.W.looks_findIn I.kIn hi) (PySem.W.Looks.of_pure (PySem.F.excBase_ValueError.init.bind _)) ?_
  have hC2 := Ex.heapX_keeps (C := C) (rest := []) _ _ (I.kIn _ _ hl)
  refine Ex.x_init0 hC2 VV Ex.heapX_at fun h' t' hk' he' => ⟨rfl, ?_⟩
  have ne : ∀ b o, hp.get? b = some o → b ≠ hp.objs.size + 1 := fun b o z => Nat.ne_of_lt (Nat.lt_succ_of_lt (Heap.lt_size z))
  have I2 : Inv X pins σ (upd H (hp.objs.size + 1) (XO (hp.objs.size + 1) C none)) ⟨h', g, dr, tk, os⟩ :=
    I.laid (h' := h') (t' := tk) (fun b u z => hk' b u (ne b u z) (Ex.heapX_keeps b u z)) (Nat.le_succ _) (xo_ok he')
  have eH : ers (hp.objs.size + 1) (upd H (hp.objs.size + 1) (XO (hp.objs.size + 1) C none)) = H := by
    funext b
    unfold L2.ers upd
    by_cases z : b = hp.objs.size + 1
    · rw [if_pos z, z]; exact (I.hok.fresh (Nat.le_succ _)).symm
    · rw [if_neg z, if_neg z]
  exact ⟨_, _, _, rfl, I2.kIn _ _ hl, VV, he', rfl, rfl, rfl, hx pins σ _ ⟨h', g, dr, tk, os⟩ (hp.objs.size + 1) _ (.ref C) none I2 upd_same (Heap.get?_none_of_le (Nat.le_trans I.sz (Nat.le_succ _))) ⟨_, _, he', rfl, rfl, rfl, rfl⟩ (by rw [eH]; exact h)⟩
end
end L2

set_option Elab.async false
set_option linter.all false
set_option maxRecDepth 100000
set_option maxHeartbeats 4000000
namespace Ex
open PySem PySem.W PyProof.Rows PySem.Spec

def veTail : List Value → Bool
  | .ref _ :: r => veTail r
  | l => l == [.type "ValueError", .type "Exception", .type "BaseException", .type "object"]
theorem veTail_ind {p : List Value → Prop} (h0 : p [.type "ValueError", .type "Exception", .type "BaseException", .type "object"]) (h1 : ∀ a r, p r → p (.ref a :: r)) : ∀ {l : List Value}, veTail l = true → p l
  | [], e => by cases e
  | c :: r, e => by
    cases c with
    | ref a => exact h1 a r (veTail_ind h0 h1 e)
    | _ => rw [show _ :: r = _ from beq_iff_eq.mp e]; exact h0
theorem veTail_has {l : List Value} (h : veTail l = true) {X : String} {b : Bool} (hb : ([.type "ValueError", .type "Exception", .type "BaseException", .type "object"] : List Value).contains (.type X) = b) : l.contains (.type X) = b :=
  veTail_ind (p := fun l => l.contains (.type X) = b) hb (fun a r z => by rw [List.contains_cons, z]; rfl) h
theorem veTail_pass {l : List Value} (h : veTail l = true) (self : Value) : refuseLoop self "__setattr__" l = pure () :=
  veTail_ind (p := fun l => refuseLoop self "__setattr__" l = pure ()) (PySem.F.store_ValueError.passes self) (fun a r z => by rw [refuseLoop_ref]; exact z) h
theorem VE.of {C : Addr} {bm : List Value} (h : veTail bm = true) : VE C bm := by
  have h' : veTail (.ref C :: bm) = true := h
  exact ⟨veTail_has h' (by decide +kernel), veTail_has h' (by decide +kernel), veTail_has h' (by decide +kernel), veTail_has h' (by decide +kernel)⟩
section
variable {prog : Program} {w : World} {A : Around} {K : Frag} {C x : Addr} {s : Shared} {R : Result → Shared → Prop}
theorem xa_open {ox : Obj} {od : Option Obj} {name : Str} {tk : Tok} {v : Value} {cd : ClassData} (X : K.In s.heap) (I : InstAt s.heap x ox C od) (hc : clsIn K C = some cd) (hv : veTail cd.mro = true) (ht : takerIn K C name = some none)
    (h : ∀ b, wpAny (model prog w) A.in1 (Builtin.ObjectAttr.storeInOwnDict (.ref x) (.ref C) (.str name tk) name v b)
      (fun fin s' => match fin with | .done f => R (.ok f) s' | .again c' => c'.quiet = true ∧ codeAny (model prog w) A c' R s') (fun e s' => R (.error e) s') s) :
    codeAny (model prog w) A (.call (.builtin "object.__setattr__") ⟨[.ref x, .str name tk, v], []⟩) R s := by
  have SF := PySem.F.store_object
  have ne : cd.mro.isEmpty = false := by cases q : cd.mro with | nil => rw [q] at hv; cases hv | cons _ _ => rfl
  have sub : Looks (model prog w) s.heap (isInstance (.ref x) (.type "object")) true := I.type.andThen (looks_mroIn X (by unfold mroIn; rw [hc, Option.bind_some, if_neg (by rw [ne]; decide), veTail_has (X := "object") (b := true) hv (by decide +kernel)]))
  refine codeAny_call_builtin SF.slot.plain SF.entry (@check_slot (model prog w) _ _ s "object.__setattr__" "object" "__setattr__" (.ref x) [.str name tk, v] [] _ SF.kind SF.split sub (SF.args (.ref x) (.str name tk) v) ?_)
  obtain ⟨attr, ha, hr⟩ := Option.bind_eq_some_iff.mp ht
  have hm : Looks (model prog w) s.heap (mroOf (.ref C)) cd.mro := (looks_clsIn X hc).andThen .now
  have L3 : Looks (model prog w) s.heap (Builtin.ObjectAttr.storeTaker? attr) none := by
    cases attr with
    | none => exact .now
    | some a =>
      obtain ⟨b, hb, e⟩ := Option.map_eq_some_iff.mp hr
      refine (looks_takesIn X hb).andThen ?_
      cases b
      · exact .now
      · cases e
  rw [osa_eq, refuse_eq]
  refine wpAny_bind (wpAny_bind (I.type.here (wpAny_bind (hm.here ?_))))
  rw [veTail_pass hv]
  exact wpAny_pure (wpAny_bind (I.type.here (wpAny_bind ((looks_findIn X ha).here (wpAny_bind (L3.here (h _)))))))
end
end Ex

set_option Elab.async false
set_option linter.all false
set_option maxRecDepth 100000
set_option maxHeartbeats 4000000
namespace L2
open PySem PySem.Spec PyProof.Rows

def XD (dx : Addr) (fs : List (Str × V)) : HO := .ext fun h => ∃ mA, h.Ns1 dx mA ∧ (∀ f, RelO (fs.lookup f) (mA f)) ∧ PySem.Within mA (fs.map (·.1)) ∧ fs.length ≤ 1000
theorem xd_ok {P : Program} {w : World} {H : Hp} {h : Heap} {dx : Addr} {fs : List (Str × V)} {mA : Str → Option Value} (n : h.Ns1 dx mA) (r : ∀ f, RelO (fs.lookup f) (mA f)) (wi : PySem.Within mA (fs.map (·.1))) (z : fs.length ≤ 1000) : ObjOk P w H h dx (XD dx fs) :=
  ⟨⟨mA, n, r, wi, z⟩, let ⟨o, _, _, e, _⟩ := n; ⟨o, e⟩, fun h1 h2 ⟨m, ⟨o, es, ep, e, q⟩, r⟩ k => ⟨m, ⟨o, es, ep, k _ e, q⟩, r⟩⟩

structure XClsOk (K : PySem.W.Frag) (mg : Str → Option Value) (name : Str) (C : Addr) : Prop where
  g : mg name = some (.ref C)
  obj : ∃ (nm q : Str) (N : Addr) (bs bm : List Value) (sn : List Str) (sub : List Value) (ab : Bool) (col : Option Bool) (dd : Option Addr) (k0 k1 k2 k3 k5 : Option Value),
    K.lookup C = some (excClassObj nm q C N bs bm true sn sub ab col dd k0 k1 k2 k3 k5 "ValueError.__new__") ∧ Ex.veTail bm = true
  kp : PySem.W.keepIn K (.ref C) = true
  sa : PySem.W.findIn K (.ref C) "__setattr__" = some (some (.builtin "object.__setattr__"))
  ga : PySem.W.findIn K (.ref C) "__getattribute__" = some (some (.builtin "BaseException.__getattribute__"))
  gt : PySem.W.findIn K (.ref C) "__getattr__" = some none
  cl : PySem.W.findIn K (.ref C) "__class__" = some (some (.builtin "object.__class__"))
  sg : PySem.W.specialIn K (.builtin "object.__class__") "__get__" = some (some (.builtin "getset_descriptor.__get__"))
  tk : PySem.W.takesIn K (.builtin "object.__class__") = some true
theorem XClsOk.cls {K : PySem.W.Frag} {mg : Str → Option Value} {name : Str} {C : Addr} (c : XClsOk K mg name C) : XCls K C := by
  obtain ⟨nm, q, N, bs, bm, sn, sub, ab, col, dd, k0, k1, k2, k3, k5, l, v⟩ := c.obj
  exact ⟨nm, q, N, bs, bm, sn, sub, ab, col, dd, k0, k1, k2, k3, k5, l, Ex.VE.of v⟩
theorem XClsOk.cd {K : PySem.W.Frag} {mg : Str → Option Value} {name : Str} {C : Addr} (c : XClsOk K mg name C) : ∃ cd, PySem.W.clsIn K C = some cd ∧ Ex.veTail cd.mro = true ∧ cd.hasDict = true ∧ ∃ bm, cd.mro = .ref C :: bm := by
  obtain ⟨nm, q, N, bs, bm, sn, sub, ab, col, dd, k0, k1, k2, k3, k5, l, v⟩ := c.obj
  refine ⟨_, by unfold PySem.W.clsIn; rw [l], v, rfl, _, rfl⟩
section
variable {X : Cx} {pins : List (Addr × Obj)} {σ : St} {H : Hp} {s : Shared} {a C dx : Addr} {fs : List (Str × V)} {f : Str} {A : Around} {E : Value → Shared → Prop} {nm : Str}

theorem xset0 {y : V} {u : Value} {Q : Unit → Shared → Prop} (I : Inv X pins σ H s) (e : H a = some (XO a C none)) (c : XClsOk X.K X.mg nm C) (n : NoAttr X.K C f) (ry : RelV y u)
    (h : ∀ dx s', H dx = none → Inv X pins σ (upd (upd H dx (XD dx [(f, y)])) a (XO a C (some dx))) s' → Q () s') : wpAny (model X.prog X.w) A (setAttr (.ref a) f u) Q E s := by
  obtain ⟨t0, hx⟩ := (I.hok _ _ e).1
  obtain ⟨cd, hcd, hv, hdct, _⟩ := c.cd
  have J : PySem.W.InstAt s.heap a { cls := .ref C, dict := none, data := .fields #[.ref t0, .none, .none, .none, .bool false, .none] } C none := ⟨hx, rfl, rfl, trivial⟩
  refine PySem.W.set_plain I.kIn J c.sa (Ex.xa_open (s := { s with toks := s.toks + 1 }) I.kIn J hcd hv n.taker fun b => ?_)
  obtain ⟨hp, g, dr, tk, os⟩ := s
  have hx : hp.get? a = some { cls := .ref C, dict := none, data := .fields #[.ref t0, .none, .none, .none, .bool false, .none] } := hx
  refine wpAny_bind (wpAny_pure (wpAny_bind (wpAny_bind (wpAny_loadPart hx (wpAny_bind (PySem.W.Looks.here (s := ⟨hp, g, dr, tk + 1, os⟩) (PySem.W.looks_clsIn I.kIn hcd) ?_))))))
  rw [hdct]
  rw [if_neg (by decide)]
  dsimp only
  rw [if_neg (by simp [typeHasDict])]
  have hsz : a ≠ hp.objs.size := Nat.ne_of_lt (Heap.lt_size hx)
  refine wpAny_bind (wpAny_alloc' ?_)
  have hx1 : (hp.push { cls := .type "dict", data := .dict #[] }).get? a = some { cls := .ref C, dict := none, data := .fields #[.ref t0, .none, .none, .none, .bool false, .none] } := Heap.get?_push_of_some _ hx
  refine wpAny_bind (wpAny_update' hx1 ?_)
  refine wpAny_pure ?_
  have gd0 : (hp.push { cls := .type "dict", data := .dict #[] }).get? hp.objs.size = some { cls := .type "dict", data := .dict #[] } := Heap.get?_push_at rfl rfl
  have gd1 : ((hp.push { cls := .type "dict", data := .dict #[] }).update a fun o => { cls := o.cls, dict := some hp.objs.size, data := o.data, slots := o.slots }).get? hp.objs.size = some { cls := .type "dict", data := .dict #[] } :=
    (Heap.get?_update_ne _ _ _ _ (Ne.symm hsz)).trans gd0
  have ga1 : ((hp.push { cls := .type "dict", data := .dict #[] }).update a fun o => { cls := o.cls, dict := some hp.objs.size, data := o.data, slots := o.slots }).get? a = some { cls := .ref C, dict := some hp.objs.size, data := .fields #[.ref t0, .none, .none, .none, .bool false, .none] } :=
    Heap.get?_update_self _ hx1 rfl
  have n0 : (hp.push { cls := .type "dict", data := .dict #[] }).Ns1 hp.objs.size (fun _ => none) := Heap.Ns1.of_empty ⟨_, #[], _, gd0, rfl, fun e he => absurd he (by simp), fun _ => rfl⟩
  have n1 : ((hp.push { cls := .type "dict", data := .dict #[] }).update a fun o => { cls := o.cls, dict := some hp.objs.size, data := o.data, slots := o.slots }).Ns1 hp.objs.size (fun _ => none) := Heap.Ns1.of_empty ⟨_, #[], _, gd1, rfl, fun e he => absurd he (by simp), fun _ => rfl⟩
  have I1 : Inv X pins σ (upd H hp.objs.size (XD hp.objs.size [])) ⟨hp.push { cls := .type "dict", data := .dict #[] }, g, dr, tk + 1, os⟩ :=
    I.laid (h' := hp.push { cls := .type "dict", data := .dict #[] }) (t' := tk + 1) (fun b u z => Heap.get?_push_of_some _ z) (Nat.le_refl _) (xd_ok n0 (fun _ => trivial) PySem.Within.nil (by simp))
  have e1 : upd H hp.objs.size (XD hp.objs.size []) a = some (XO a C none) := by rw [upd_ne hsz]; exact e
  have I2 : Inv X pins σ (upd (upd H hp.objs.size (XD hp.objs.size [])) a (XO a C (some hp.objs.size))) ⟨(hp.push { cls := .type "dict", data := .dict #[] }).update a fun o => { cls := o.cls, dict := some hp.objs.size, data := o.data, slots := o.slots }, g, dr, tk + 1, os⟩ :=
    I1.write (x := a) (e := a) (t' := tk + 1) (by rw [e1]; trivial) (.inl rfl) (fun b u hb z => (Heap.get?_update_ne _ _ _ _ hb).trans z) ⟨_, ga1⟩ (xo_ok ga1)
  have e2 : upd (upd H hp.objs.size (XD hp.objs.size [])) a (XO a C (some hp.objs.size)) hp.objs.size = some (XD hp.objs.size []) := by rw [upd_ne (Ne.symm hsz), upd_same]
  show wpAny _ _ (Builtin.ObjectAttr.storeInDict hp.objs.size (.str f tk) f u) _ _ _
  unfold Builtin.ObjectAttr.storeInDict Builtin.ObjectAttr.newKeyGuard
  refine wpAny_bind (wpAny_pure (wpAny_bind (wpAny_nsSet1 n1 fun h' hn' hs => ?_)))
  obtain ⟨oD, esD, epD, hoD, hdD, hcD⟩ := hn'.count (Within.cons f u Within.nil)
  refine wpAny_bind (wpAny_lookBehind hoD (by rw [hdD]; exact pastItsLine_dict (Nat.le_trans hcD (by rw [List.length_cons, List.length_nil, sizeLine_eq]; omega))) ?_)
  refine wpAny_pure ?_
  have I3 := I2.write (x := hp.objs.size) (e := hp.objs.size) (o := XD hp.objs.size [(f, y)]) (h' := h') (t' := tk + 1 + 1) (by rw [e2]; trivial) (.inl rfl) (fun b u hb z => (hs.2 b hb).trans z) (let ⟨o, _, _, z, _⟩ := hn'; ⟨o, z⟩)
    (xd_ok hn' (fun g => by
      by_cases q : g = f
      · have hb : (g == f) = true := beq_iff_eq.mpr q
        simp only [List.lookup, hb, if_pos q]; exact ry
      · have hb : (g == f) = false := beq_eq_false_iff_ne.mpr q
        simp only [List.lookup, hb, if_neg q]; trivial) (fun g hg => by
      by_cases q : g = f
      · rw [q]; simp
      · exact absurd (by simp [q]) hg) (by simp))
  have eH : upd (upd (upd H hp.objs.size (XD hp.objs.size [])) a (XO a C (some hp.objs.size))) hp.objs.size (XD hp.objs.size [(f, y)]) = upd (upd H hp.objs.size (XD hp.objs.size [(f, y)])) a (XO a C (some hp.objs.size)) := by
    funext b
    unfold upd
    by_cases z1 : b = hp.objs.size
    · rw [if_pos z1, if_neg (fun z => hsz (z.symm.trans z1)), if_pos z1]
    · rw [if_neg z1]
      by_cases z2 : b = a
      · rw [if_pos z2, if_pos z2]
      · rw [if_neg z2, if_neg z2, if_neg z1, if_neg z1]
  rw [eH] at I3
  exact h hp.objs.size _ (I.hok.fresh (Nat.le_refl _)) I3

theorem xset1 {y : V} {u : Value} {Q : Unit → Shared → Prop} (I : Inv X pins σ H s) (e : H a = some (XO a C (some dx))) (ed : H dx = some (XD dx fs)) (ne : dx ≠ a) (c : XClsOk X.K X.mg nm C) (n : NoAttr X.K C f) (hl : fs.length < 1000) (ry : RelV y u)
    (h : ∀ s', Inv X pins σ (upd H dx (XD dx (putF f y fs))) s' → Q () s') : wpAny (model X.prog X.w) A (setAttr (.ref a) f u) Q E s := by
  obtain ⟨t0, hx⟩ := (I.hok _ _ e).1
  obtain ⟨mA, nd, r, wi, _⟩ := (I.hok _ _ ed).1
  obtain ⟨cd, hcd, hv, hdct, _⟩ := c.cd
  obtain ⟨od, hod, _⟩ := lookIn_ns nd
  have J : PySem.W.InstAt s.heap a { cls := .ref C, dict := some dx, data := .fields #[.ref t0, .none, .none, .none, .bool false, .none] } C (some od) := ⟨hx, rfl, rfl, hod⟩
  refine PySem.W.set_plain I.kIn J c.sa (Ex.xa_open (s := { s with toks := s.toks + 1 }) I.kIn J hcd hv n.taker fun b => ?_)
  obtain ⟨hp, g, dr, tk, os⟩ := s
  refine wpAny_bind (wpAny_pure (wpAny_bind (wpAny_bind (wpAny_loadPart hx (wpAny_bind (PySem.W.Looks.here (s := ⟨hp, g, dr, tk + 1, os⟩) (PySem.W.looks_clsIn I.kIn hcd) ?_))))))
  rw [hdct]
  refine wpAny_pure (a := some dx) (wpAny_bind (wpAny_pure (wpAny_bind ?_)))
  refine wpAny_nsSet1 (s := ⟨hp, g, dr, tk + 1, os⟩) nd fun h' hn' hs => ?_
  have hz : (fs.map (·.1)).length ≤ sizeLine := by rw [List.length_map, sizeLine_eq]; omega
  obtain ⟨oD, esD, epD, hoD, hdD, hcD⟩ := hn'.count (Within.cons f u wi)
  refine wpAny_bind (wpAny_lookBehind hoD (by rw [hdD]; exact pastItsLine_dict (Nat.le_trans hcD (by rw [List.length_cons]; omega))) ?_)
  refine wpAny_pure (h _ (I.write (x := dx) (e := dx) (t' := tk + 1 + 1) (by rw [ed]; trivial) (.inl rfl) (fun b u hb z => (hs.2 b hb).trans z) (let ⟨o, _, _, z, _⟩ := hn'; ⟨o, z⟩) (xd_ok hn' (fun g => ?_) (fun g hg => ?_) ?_)))
  · rw [lookup_putF]
    by_cases q : g = f
    · rw [if_pos q, if_pos q]; exact ry
    · rw [if_neg q, if_neg q]; exact r g
  · by_cases q : g = f
    · rw [q]; exact (keys_putF f y fs).1
    · refine (keys_putF f y fs).2 g (wi g fun z => hg ?_)
      show (if g = f then some u else mA g) = none
      rw [if_neg q]; exact z
  · have := length_putF f y fs; omega
end

def sXFld (K : PySem.W.Frag) (mg : Str → Option Value) (ta tv : TE) (f : Str) : TS := fun D σ H => tv σ H fun y H1 => ta σ H1 fun x H2 => ∃ a C nm, x = .ref a ∧ XClsOk K mg nm C ∧ NoAttr K C f ∧
  ((H2 a = some (XO a C none) ∧ ∀ dx, H2 dx = none → D.nx σ (upd (upd H2 dx (XD dx [(f, y)])) a (XO a C (some dx)))) ∨
   ∃ dx fs, H2 a = some (XO a C (some dx)) ∧ H2 dx = some (XD dx fs) ∧ dx ≠ a ∧ fs.length < 1000 ∧ D.nx σ (upd H2 dx (XD dx (putF f y fs))))
section
variable {X : Cx} {o value : Expr} {f : Str} {pos pos' : Pos} {ta tv : TE}
theorem ps_xfld (ha : PE X o ta) (hv : PE X value tv) (hs : swapsWith value (some (.Attribute o f pos')) pos.line X.env = pure false) : PS X (.Assign [.Attribute o f pos'] value pos) (sXFld X.K X.mg ta tv f) := by
  intro pins s σ H D I h
  refine plainObj_wpAny_Assign_Attribute (thn (hv pins s σ H _ I h) fun u s1 ⟨y, H1, I1, ry, q⟩ => thn (ha pins s1 σ H1 _ I1 q) fun ov s2 ⟨x, H2, I2, rx, a, C, nm, ex, c, n, q2⟩ => ?_) hs
  subst ex
  obtain rfl : ov = Value.ref a := rx
  rcases q2 with ⟨ea, q2⟩ | ⟨dx, fs, ea, ed, ne, hl, q2⟩
  · exact xset0 I2 ea c n ry fun dx s3 z I3 => ⟨σ, _, I3, q2 dx z⟩
  · exact xset1 I2 ea ed ne c n hl ry fun s3 I3 => ⟨σ, _, I3, q2⟩
end
end L2

set_option Elab.async false
set_option linter.all false
set_option maxRecDepth 100000
set_option maxHeartbeats 4000000
namespace Ex
open PySem PySem.W PyProof.Rows PySem.Spec
section
variable {prog : Program} {w : World} {A : Around} {E : Value → Shared → Prop} {K : Frag} {x C : Addr} {ox : Obj} {od : Option Obj} {name : Str} {expr : Bool} {h : Heap} {g : Array GenState} {d : Drawn} {t : Nat} {os : OsState}
theorem xg_call {tk : Tok} {v : Value} {R : Result → Shared → Prop} (X : K.In h) (I : InstAt h x ox C od) (hb : mroIn K C (.type "BaseException") = some true) (hf : findObj K C od name = some (.value v)) (hq : R (.ok (.ret v)) ⟨h, g, d, t, os⟩) :
    codeAny (model prog w) A (.call (.builtin "BaseException.__getattribute__") ⟨[.ref x, .str name tk], []⟩) R ⟨h, g, d, t, os⟩ := by
  have hk : builtinKind "BaseException.__getattribute__" = some .slot := by decide +kernel
  have hsp : splitId "BaseException.__getattribute__" = some ("BaseException", "__getattribute__") := by decide +kernel
  have sub : Looks (model prog w) h (isInstance (.ref x) (.type "BaseException")) true := I.type.andThen (looks_mroIn X hb)
  have L0 := I.type (M := model prog w)
  have L1 := looks_find (M := model prog w) X I hf
  refine codeAny_call_builtin PySem.F.attrBase_ValueError.ga.plain PySem.F.entry_bexc_ga (@check_slot (model prog w) _ _ ⟨h, g, d, t, os⟩ "BaseException.__getattribute__" "BaseException" "__getattribute__" (.ref x) [.str name tk] [] _ hk hsp sub (PySem.F.args_bexc_ga (.ref x) (.str name tk)) ?_)
  unfold Builtin.«object.__getattribute__»
  refine wpAny_bind (wpAny_pure ?_)
  refine wpAny_bind (wpAny_pure ?_)
  refine wpAny_bind (L0.at ?_)
  refine wpAny_bind (L1.at ?_)
  exact wpAny_pure hq
theorem xg_attr {v : Value} {Q : Value → Shared → Prop} (X : K.In h) (I : InstAt h x ox C od) (hb : mroIn K C (.type "BaseException") = some true)
    (hga : findIn K (.ref C) "__getattribute__" = some (some (.builtin "BaseException.__getattribute__"))) (hgt : findIn K (.ref C) "__getattr__" = some none) (hf : findObj K C od name = some (.value v)) (hh : handedIn v = true)
    (hq : Q v ⟨h, g, d, t + 1, os⟩) : wpAny (model prog w) A (getAttr (.ref x) name expr) Q E ⟨h, g, d, t, os⟩ := by
  have L0 := I.type (M := model prog w)
  have L1 := looks_findIn (M := model prog w) X hga
  have L2 := looks_findIn (M := model prog w) X hgt
  have f3 := PySem.F.attrBase_ValueError.ga.bind (.ref x)
  have hx0 : (expr && onTheHeap (Value.builtin "BaseException.__getattribute__")) = false := by cases expr <;> rfl
  have hx2 : (Value.builtin "BaseException.__getattribute__" == Value.builtin "object.__getattribute__") = false := by decide +kernel
  have hx1 : (onTheHeap (Value.ref C) && Value.builtin "BaseException.__getattribute__" == Value.builtin "object.__getattribute__") = false := by rw [hx2]; rfl
  unfold getAttr getAttrBy
  refine wpAny_bind (wpAny_mkText (wpAny_holding (wpAny_bind (L0.at (wpAny_bind (L1.at ?_))))))
  repeat (any_goals (first | assumption | with_reducible refine L0.at ?_ | with_reducible refine L1.at ?_ | with_reducible refine L2.at ?_ | wp_step))
  refine xg_call X I hb hf ?_
  show wpAny _ _ (handedOut v) Q E _
  rw [handedOut_of hh]
  exact wpAny_pure hq
end
end Ex
namespace L2
open PySem PySem.Spec PyProof.Rows
theorem XClsOk.mro {K : PySem.W.Frag} {mg : Str → Option Value} {name : Str} {C : Addr} (c : XClsOk K mg name C) {X : String} {b : Bool} (hb : ([.type "ValueError", .type "Exception", .type "BaseException", .type "object"] : List Value).contains (.type X) = b) : PySem.W.mroIn K C (.type X) = some b := by
  obtain ⟨cd, hcd, hv, _, bm, hm⟩ := c.cd
  unfold PySem.W.mroIn
  rw [hcd, Option.bind_some, if_neg (by rw [hm]; exact Bool.false_ne_true), Ex.veTail_has hv hb]

def tXFld (K : PySem.W.Frag) (mg : Str → Option Value) (ta : TE) (f : Str) : TE := fun σ H Q => ta σ H fun x H1 => ∃ a C nm dx fs v, x = .ref a ∧ H1 a = some (XC a C (some dx)) ∧ H1 dx = some (XD dx fs) ∧ XClsOk K mg nm C ∧ NoAttr K C f ∧ fs.lookup f = some v ∧ Q v H1
section
variable {X : Cx} {e : Expr} {f : Str} {pos : Pos} {ta : TE}
theorem pe_xfld (he : PE X e ta) (hb : attributeBase e f X.env (eval e X.env) = eval e X.env) : PE X (.Attribute e f pos) (tXFld X.K X.mg ta f) := by
  intro pins s σ H Q I h
  refine attr_of hb (thn (he pins s σ H _ I h) fun u s1 ⟨x, H1, I1, rx, a, C, nm, dx, fs, v, ex, ea, ed, c, n, l, q⟩ => ?_)
  subst ex
  obtain rfl : u = Value.ref a := rx
  obtain ⟨o, vs, ho, hc, hd, hdat⟩ := (I1.hok _ _ ea).1
  obtain ⟨mA, nd, r, _, _⟩ := (I1.hok _ _ ed).1
  obtain ⟨od, hod, hl⟩ := lookIn_ns nd
  obtain ⟨u', hu, ru⟩ := RelO.some_of (v := v) (o := mA f) (by rw [← l]; exact r f)
  obtain ⟨cd, hcd, hv, hdct, _⟩ := c.cd
  have J : PySem.W.InstAt s1.heap a o C (some od) := ⟨ho, hc, by unfold PySem.W.notCls; rw [hdat], by rw [hd]; exact hod⟩
  have hh : PySem.W.hasDictIn X.K C = true := by unfold PySem.W.hasDictIn; rw [hcd]; exact hdct
  have I2 : Inv X pins σ H1 { s1 with toks := s1.toks + 1 } := I1.tok _
  obtain ⟨hp, g, dr, tk, os⟩ := s1
  exact Ex.xg_attr I1.kIn J (c.mro (by decide +kernel)) c.ga c.gt (PySem.W.findObj_own hh n rfl (by rw [hl, hu])) (handed_of ru) ⟨v, H1, I2, ru, q⟩
end
end L2

set_option Elab.async false
set_option linter.all false
set_option maxRecDepth 100000
set_option maxHeartbeats 4000000
namespace Ex
open PySem PySem.W PyProof.Rows PySem.Spec
section
variable {prog : Program} {w : World} {A : Around} {E : Value → Shared → Prop} {K : Frag} {x C : Addr} {ox : Obj} {od : Option Obj} {h : Heap} {g : Array GenState} {d : Drawn} {t : Nat} {os : OsState}
theorem xc_call {tk : Tok} {R : Result → Shared → Prop} (X : K.In h) (I : InstAt h x ox C od) (hb : mroIn K C (.type "BaseException") = some true) (ho : mroIn K C (.type "object") = some true)
    (hf : findObj K C od "__class__" = some (.bind (.builtin "getset_descriptor.__get__") (.builtin "object.__class__"))) (hq : R (.ok (.ret (.ref C))) ⟨h, g, d, t, os⟩) :
    codeAny (model prog w) A (.call (.builtin "BaseException.__getattribute__") ⟨[.ref x, .str "__class__" tk], []⟩) R ⟨h, g, d, t, os⟩ := by
  have hk : builtinKind "BaseException.__getattribute__" = some .slot := by decide +kernel
  have hsp : splitId "BaseException.__getattribute__" = some ("BaseException", "__getattribute__") := by decide +kernel
  have sub : Looks (model prog w) h (isInstance (.ref x) (.type "BaseException")) true := I.type.andThen (looks_mroIn X hb)
  have L0 := I.type (M := model prog w)
  have L1 := looks_find (M := model prog w) X I hf
  refine codeAny_call_builtin PySem.F.attrBase_ValueError.ga.plain PySem.F.entry_bexc_ga (@check_slot (model prog w) _ _ ⟨h, g, d, t, os⟩ "BaseException.__getattribute__" "BaseException" "__getattribute__" (.ref x) [.str "__class__" tk] [] _ hk hsp sub (PySem.F.args_bexc_ga (.ref x) (.str "__class__" tk)) ?_)
  unfold Builtin.«object.__getattribute__»
  refine wpAny_bind (wpAny_pure ?_)
  refine wpAny_bind (wpAny_pure ?_)
  refine wpAny_bind (L0.at ?_)
  refine wpAny_bind (L1.at ?_)
  show wpAny _ _ (holding [.builtin "object.__class__"] (call (.builtin "getset_descriptor.__get__") [.builtin "object.__class__", .ref x, .ref C]) >>= ret) _ _ _
  exact wpAny_bind (wpAny_holding (wpAny_call (class_get (ox := ox) (od := od) X I ho (wpAny_pure hq))))
theorem xc_attr {Q : Option Value → Shared → Prop} (X : K.In h) (I : InstAt h x ox C od) (hb : mroIn K C (.type "BaseException") = some true) (ho : mroIn K C (.type "object") = some true)
    (hga : findIn K (.ref C) "__getattribute__" = some (some (.builtin "BaseException.__getattribute__"))) (hgt : findIn K (.ref C) "__getattr__" = some none)
    (hf : findObj K C od "__class__" = some (.bind (.builtin "getset_descriptor.__get__") (.builtin "object.__class__"))) (hq : Q (some (.ref C)) ⟨h, g, d, t + 1, os⟩) : wpAny (model prog w) A (getAttr? (.ref x) "__class__") Q E ⟨h, g, d, t, os⟩ := by
  have L0 := I.type (M := model prog w)
  have L1 := looks_findIn (M := model prog w) X hga
  have L2 := looks_findIn (M := model prog w) X hgt
  have f3 := PySem.F.attrBase_ValueError.ga.bind (.ref x)
  have hx0 : (false && onTheHeap (Value.builtin "BaseException.__getattribute__")) = false := rfl
  have hx2 : (Value.builtin "BaseException.__getattribute__" == Value.builtin "object.__getattribute__") = false := by decide +kernel
  have hx1 : (onTheHeap (Value.ref C) && Value.builtin "BaseException.__getattribute__" == Value.builtin "object.__getattribute__") = false := by rw [hx2]; rfl
  unfold getAttr? getAttrBy? getAttrBy
  refine wpAny_bind (wpAny_mkText (wpAny_bind (wpAny_attempt (wpAny_holding (wpAny_bind (L0.at (wpAny_bind (L1.at ?_))))))))
  repeat (any_goals (first | assumption | with_reducible refine L0.at ?_ | with_reducible refine L1.at ?_ | with_reducible refine L2.at ?_ | wp_step))
  refine xc_call X I hb ho hf ?_
  show wpAny _ _ (handedOut (.ref C)) _ _ _
  exact wpAny_pure (wpAny_pure hq)
end
end Ex
namespace L2
open PySem PySem.Spec PyProof.Rows

def XAt (x C : Addr) (h : Heap) : Prop := ∃ o vs, h.get? x = some o ∧ o.cls = .ref C ∧ o.data = .fields vs ∧ (o.dict = none ∨ ∃ dx od, o.dict = some dx ∧ h.get? dx = some od)
theorem XAt.inst {x C : Addr} {h : Heap} (p : XAt x C h) : ∃ ox od, PySem.W.InstAt h x ox C od := by
  obtain ⟨o, vs, ho, hc, hd, z | ⟨dx, od, z, q⟩⟩ := p
  · exact ⟨o, none, ho, hc, by unfold PySem.W.notCls; rw [hd], by rw [z]; trivial⟩
  · exact ⟨o, some od, ho, hc, by unfold PySem.W.notCls; rw [hd], by rw [z]; exact q⟩
theorem kitx_exc {K : PySem.W.Frag} {mg : Str → Option Value} {nm : Str} {x C : Addr} (c : XClsOk K mg nm C) : PySem.W.KitX K (.ref x) (.ref C) (XAt x C) where
  ty := fun M h _ p => by obtain ⟨ox, od, I⟩ := p.inst; exact I.type
  it := fun M h X _ => by
    obtain ⟨nm, q, N, bs, bm, sn, sub, ab, col, dd, k0, k1, k2, k3, k5, l, v⟩ := c.obj
    intro A' Q' E' s' k q
    unfold isType loadHead
    exact wpAny_bind (wpAny_loadPart (k _ _ (X _ _ l)) (wpAny_pure q))
  ne := fun h tp dd its n sl X htp => by
    obtain ⟨nm, q, N, bs, bm, sn, sub, ab, col, dd', k0, k1, k2, k3, k5, l, v⟩ := c.obj
    refine Bool.eq_false_iff.mpr fun q => ?_
    have e : C = tp := Value.ref.inj (beq_iff_eq.mp q)
    subst e
    have z := congrArg Obj.cls (Option.some.inj ((X _ _ l).symm.trans htp))
    exact absurd (Value.type.inj z) (by decide)
  ca := fun {prog w A E Q s} X p hq => by
    obtain ⟨ox, od, I⟩ := p.inst
    obtain ⟨cd, hcd, _⟩ := c.cd
    have hf : PySem.W.findObj K C od "__class__" = some (.bind (.builtin "getset_descriptor.__get__") (.builtin "object.__class__")) := by
      unfold PySem.W.findObj
      rw [hcd, Option.bind_some, c.cl, Option.bind_some]
      simp [c.sg, c.tk]
    obtain ⟨hp, g, dr, tk, os⟩ := s
    exact Ex.xc_attr X I (c.mro (by decide +kernel)) (c.mro (by decide +kernel)) c.ga c.gt hf hq

def rIsX (K : PySem.W.Frag) (mg : Str → Option Value) : List V → Hp → VK → Prop := fun xs H Q => ∃ a C d nm y u b, xs = [.ref a, y] ∧ H a = some (XC a C d) ∧ (∀ dx, d = some dx → ∃ o, H dx = some o) ∧ XClsOk K mg nm C ∧ RelV y u ∧ PySem.W.kitOne K (.ref C) u = some b ∧ Q (.bl b) H

def rIsXT (K : PySem.W.Frag) (mg : Str → Option Value) : List V → Hp → VK → Prop := fun xs H Q => ∃ a C d nm p ys b, xs = [.ref a, .ref p] ∧ H a = some (XC a C d) ∧ (∀ dx, d = some dx → ∃ o, H dx = some o) ∧ XClsOk K mg nm C ∧ H p = some (.tup ys) ∧
  (∀ us, Vals ys us → PySem.W.kitAny K (.ref C) us = some b) ∧ Q (.bl b) H
section
variable {X : Cx}
theorem xat_of {pins : List (Addr × Obj)} {σ : St} {H : Hp} {s : Shared} {a C : Addr} {d : Option Addr} (I : Inv X pins σ H s) (e : H a = some (XC a C d)) (hd : ∀ dx, d = some dx → ∃ o, H dx = some o) : XAt a C s.heap := by
  obtain ⟨o, vs, ho, hc, hdd, hf⟩ := (I.hok _ _ e).1
  refine ⟨o, vs, ho, hc, hf, ?_⟩
  cases d with
  | none => exact .inl hdd
  | some dx =>
    obtain ⟨z, q⟩ := hd dx rfl
    obtain ⟨u, r⟩ := (I.hok _ _ q).some_at
    exact .inr ⟨dx, u, hdd, r⟩
theorem call_isx : CallR X (.builtin "isinstance") (rIsX X.K X.mg) := by
  intro pins s σ H xs us Q I r h
  obtain ⟨a, C, d, nm, y, u, b, rfl, e, hd, c, ry, hk, q⟩ := h
  obtain ⟨v, w', rfl, rx, rc⟩ := vals2 r
  cases (show v = Value.ref a from rx)
  have hw : PySem.W.kitOne X.K (.ref C) w' = some b := by
    cases y with
    | ref z => cases (show w' = Value.ref z from rc); cases (show u = Value.ref z from ry); exact hk
    | ty z => cases (show w' = Value.type z from rc); cases (show u = Value.type z from ry); exact hk
    | non => cases (show w' = Value.none from rc); cases (show u = Value.none from ry); exact hk
    | bl z => cases (show w' = Value.bool z from rc); cases (show u = Value.bool z from ry); exact hk
    | int z => obtain ⟨t, rfl⟩ := ry; cases hk
    | str z => obtain ⟨t, rfl⟩ := ry; cases hk
    | byt z => obtain ⟨t, rfl⟩ := ry; cases hk
    | flt z => obtain ⟨t, rfl⟩ := ry; cases hk
  exact PySem.W.kia_one (kitx_exc c) I.kIn (xat_of I e hd) hw (fun z => nomatch z) fun tk => ⟨.bl b, H, I.tok _, rfl, q⟩
theorem call_isxt : CallR X (.builtin "isinstance") (rIsXT X.K X.mg) := by
  intro pins s σ H xs us Q I r h
  obtain ⟨a, C, d, nm, p, ys, b, rfl, e, hd, c, hp, hk, q⟩ := h
  obtain ⟨v, w', rfl, rx, rc⟩ := vals2 r
  cases (show v = Value.ref a from rx)
  cases (show w' = Value.ref p from rc)
  obtain ⟨_, its, rv, o, ho, hc, n, hdat⟩ := (show ObjOk X.prog X.w H s.heap p (.tup ys) from I.hok _ _ hp)
  obtain ⟨oc, od, oda, osl⟩ := o
  dsimp only at hc hdat
  subst hc hdat
  exact PySem.W.kia_tup (kitx_exc c) I.kIn (xat_of I e hd) ho (hk its rv) (fun z => nomatch z) fun tk => ⟨.bl b, H, I.tok _, rfl, q⟩
end
end L2

set_option Elab.async false
set_option linter.all false
set_option maxRecDepth 100000
set_option maxHeartbeats 4000000
namespace Ex
open PySem PySem.W PyProof.Rows PySem.Spec
theorem x_match {M : Model} {A : Around} {E : Value → Shared → Prop} {s : Shared} {K : Frag} {e C G : Addr} {Q : Bool → Shared → Prop} (X : K.In s.heap) (ht : Looks M s.heap (typeOf (.ref e)) (.ref C)) (hG : typeIn K (.ref G) = some (.type "type"))
    (hi : Looks M s.heap (isType (.ref G)) true) (hb : mroIn K G (.type "BaseException") = some true) (hs : mroIn K C (.ref G) = some true) (h : Q true s) : wpAny M A (excMatches (.ref e) (.ref G)) Q E s := by
  obtain ⟨hp, g, d, tk, os⟩ := s
  have L0 := looks_typeIn (M := M) X hG
  have L1 := looks_mroIn (M := M) X hb
  have L2 := looks_mroIn (M := M) X hs
  have f := tc_notTuple
  unfold excMatches isExcClass isInstance
  refine wpAny_bind (wpAny_bind (L0.at ?_))
  rw [f]
  refine wpAny_pure ?_
  simp only [Bool.false_eq_true, if_false]
  refine wpAny_bind (wpAny_pure ?_)
  simp only [List.forIn_cons, List.forIn_nil]
  refine wpAny_bind (wpAny_bind (wpAny_bind (wpAny_bind (hi.at ?_))))
  simp only [if_true]
  refine L1.at ?_
  simp only [Bool.not_true, Bool.false_eq_true, if_false]
  refine wpAny_pure (wpAny_pure (wpAny_bind (ht.at ?_)))
  refine wpAny_bind (wpAny_bind (wpAny_bind (L2.at ?_)))
  simp only [if_true]
  exact wpAny_pure (wpAny_pure (wpAny_pure h))
end Ex
namespace L2
open PySem PySem.Spec PyProof.Rows

abbrev TX := St → Hp → VK → XK → Prop
def PX (X : Cx) (e : Expr) (t : TX) : Prop := ∀ (pins : List (Addr × Obj)) (s : Shared) (σ : St) (H : Hp) (Q : VK) (E : XK), Inv X pins σ H s → t σ H Q E →
  wpAny (model X.prog X.w) X.A (eval e X.env) (EP X pins σ Q) (fun ev s' => ∃ H1 s1, Inv X pins σ H1 s1 ∧ CXe X.prog X.w X.stack H1 s1 E ev s') s

def PSx (X : Cx) (st : Stmt) (t : Ends → XK → St → Hp → Prop) : Prop := ∀ (pins : List (Addr × Obj)) (s : Shared) (σ : St) (H : Hp) (D : Ends) (E : XK), Inv X pins σ H s → t D E σ H →
  wpAny (model X.prog X.w) X.A (exec st X.env) (SP X pins D) (fun ev s' => ∃ H1 s1, Inv X pins σ H1 s1 ∧ CXe X.prog X.w X.stack H1 s1 E ev s') s
section
variable {X : Cx} {k : Nat} {f : Addr} {fd : FuncData} {ps : List Str} {sp : Sp} {x : Str} {st : Stmt} {p pos : Pos} {e : Expr} {es : List Expr} {t : TA} {tx : TX}
theorem px_call (Dd : DefOk X.K X.mg x st ps f fd) (F : FnOk X.prog X.w X.K X.mg X.base (CXe X.prog X.w) k f fd ps sp) (hr : Room k X.A) (ha : PA X.nox (e :: es) t) (hg : Gl X x := by rfl)
    (hdb : (x == ("__debug__" : Str)) = false := by decide) (he : starEach (e :: es) X.env = (false, eval e X.env) :: starEach es X.env := by rfl) (hpl : (backTo pos (starEach es X.env)).any (·.1) = false := by rfl) :
    PX X (.Call (.Name x p) (e :: es) [] pos) (fun σ H Q E => t σ H fun vs H1 => sp vs H1 Q E) := by
  intro pins s σ H Q E I h
  refine wpAny_Call_Name_kw (ld_glob I hg Dd.g ?_ hdb)
  refine PySem.W.callWith_K (h₀ := X.base) I.ok.mod.kin Dd.F.kp (wpAny_mono (ha pos pins s σ H _ (I.wish _) h) (fun us s1 ⟨vs, H1, I1, r, q⟩ => ⟨I1.kIn, ?_⟩) fun _ _ z => z.elim) he hpl
  have I1 := I1.unwish
  have hl : us.length = ps.length := by rw [← r.length]; exact F.len _ _ _ _ q
  have hb : BindsTo s1 fd ⟨us, []⟩ (ps.zip us) := by
    have := Dd.b s1 us I1.kIn (by rw [List.append_nil]; exact hl)
    rwa [List.append_nil] at this
  refine wpAny_call (codeAny_mono (F.run X.A X.stack s1 H1 ⟨us, []⟩ us vs Q E hr I1.env0 hb r q) fun rr s' hq => ?_)
  cases rr with
  | error ev => exact ⟨H1, s1, I1, hq⟩
  | ok fl =>
    cases fl with
    | ret u => exact I1.after hq
    | next => exact False.elim hq
    | brk => exact False.elim hq
    | cont => exact False.elim hq
theorem psx_set {i : Nat} {y : Str} {pos' : Pos} (hN : X.N.Nodup) (hi : X.N[i]? = some y) (hx : Loc X.env.scope y) (he : PX X e tx) (hs : swapsWith e (some (.Name y pos')) pos.line X.env = pure false := by rfl)
    (hf : X.fn y = true ∨ X.env.scope.names.lookup y = some .local := by first | exact .inl rfl | exact .inr rfl | assumption) : PSx X (.Assign [.Name y pos'] e pos) (fun D E σ H => tx σ H (fun v H' => D.nx (σ.set i (some v)) H') E) := by
  intro pins s σ H D E I h
  refine wpAny_Assign_Name (wpAny_mono (he pins s σ H _ E I h) (fun v s1 ⟨y, H1, I1, r1, q1⟩ => ?_) fun _ _ z => z) hs
  exact store_ok I1 hN hi hx r1 (fun s2 I2 => ⟨_, H1, I2, q1⟩) hf
end

abbrev Cx.hdl (X : Cx) (ea : Addr) : Cx := { X with A := X.A.mark (some (.ref ea)), calm := false }
theorem Inv.hdl {X : Cx} {pins : List (Addr × Obj)} {σ : St} {H : Hp} {s : Shared} (I : Inv X pins σ H s) (ea : Addr) : Inv (X.hdl ea) pins σ H s :=
  ⟨⟨I.ok.mod, I.ok.kind, I.ok.glob, I.ok.blt, I.ok.above, I.ok.inj, I.ok.has, I.ok.cab, fun z => Bool.noConfusion z, I.ok.frames, I.ok.stk, I.ok.exf, I.ok.bs, I.ok.bsz, I.ok.noex, I.ok.exfs, I.ok.funs, I.ok.frf⟩, I.os, I.bare, I.base, I.loc, I.cell, I.free, I.freeC, I.pin, I.hok, I.len⟩
theorem Inv.unhdl {X : Cx} {pins : List (Addr × Obj)} {σ : St} {H : Hp} {s : Shared} {ea : Addr} {E : Value → Shared → Prop} (ok : X.Ok) (I : Inv ((X.hdl ea).wish E) pins σ H s) : Inv X pins σ H s :=
  ⟨ok, I.os, I.bare, I.base, I.loc, I.cell, I.free, I.freeC, I.pin, I.hok, I.len⟩

theorem Inv.dropped {X : Cx} {pins : List (Addr × Obj)} {σ : St} {H : Hp} {s : Shared} {j : Nat} {n : Str} {m : Str → Option Value} {h' : Heap} {v : Option Value} {t' : Nat} (I : Inv X pins σ H s) (hN : X.N.Nodup) (hj : X.N[j]? = some n) (hk : X.env.kindOf n = some .local)
    (hm : ∀ (i : Nat) (x : Str) (v : V), X.N[i]? = some x → σ[i]? = some (some v) → Vis X.env.scope x → ∃ u, RelV v u ∧ Look X.env s.heap m x u) (hn0 : s.heap.Ns X.env.locals m)
    (hn : h'.Ns X.env.locals (fun x => if x = n then v else m x)) (hs : Heap.SameBut X.env.locals s.heap h') : Inv X pins (σ.set j none) H { s with heap := h', toks := t' } := by
  have cne := I.cne
  have lt : ∀ b o, X.s₀.heap.get? b = some o → b ≠ X.env.locals := fun b o e => Nat.ne_of_lt (Nat.lt_of_lt_of_le (Heap.lt_size e) I.ok.above)
  obtain ⟨oL, _, _, hoL, _⟩ := id hn0
  refine ⟨I.ok, I.os, I.bare, ⟨fun b o e n hb hx => (hs.2 b (lt b o e)).trans (I.base.keep b o e n hb hx), fun b o e n hb hx => ?_, I.base.free, fun b o e hx => ?_, I.base.tups, I.base.frzs, I.base.tbls⟩,
    ⟨_, hn, fun i y w e1 e2 e3 => ?_⟩, fun y c e => ?_, I.free, I.freeC, fun p hp => ?_, fun b ob e => ?_, by rw [List.length_set]; exact I.len⟩
  · obtain ⟨sl, e1⟩ := I.base.slot b o e n hb hx
    exact ⟨sl, (hs.2 b (lt b o e)).trans e1⟩
  · obtain ⟨o', e1⟩ := I.base.there b o e hx
    exact ⟨o', (hs.2 b (lt b o e)).trans e1⟩
  · have hij : j ≠ i := fun z => by
      subst z
      by_cases q : j < σ.length
      · rw [List.getElem?_set_self q] at e2; cases e2
      · rw [List.getElem?_eq_none (by rw [List.length_set]; omega)] at e2; cases e2
    rw [List.getElem?_set_ne hij] at e2
    obtain ⟨u, r, q⟩ := hm i y w e1 e2 e3
    refine ⟨u, r, ?_⟩
    rcases q with ⟨k, e⟩ | ⟨k, c, e, z⟩
    · have : y ≠ n := fun z => hij (nodup_ix hN hj (z ▸ e1))
      exact .inl ⟨k, by show (if y = n then v else m y) = some u; rw [if_neg this]; exact e⟩
    · exact .inr ⟨k, c, e, z.sameBut hs (cne y c e)⟩
  · obtain ⟨w', z⟩ := I.cell y c e
    exact ⟨w', z.sameBut hs (cne y c e)⟩
  · obtain ⟨e, n, ne, nf, d⟩ := I.pin p hp
    exact ⟨(hs.2 p.1 ne).trans e, n, ne, nf, d⟩
  · refine (I.hok b ob e).stay (fun c w' hc q => (hs.2 c ?_).trans q) (fun _ q => q) fun _ _ q => q
    rintro rfl
    rcases hc with rfl | hc
    · rw [I.free] at e; cases e
    · rw [I.free] at hc; cases hc
end L2

set_option Elab.async false
set_option linter.all false
set_option maxRecDepth 100000
set_option maxHeartbeats 4000000
namespace L2
open PySem PySem.Spec PyProof.Rows
theorem Un.track {fs : List Addr} {H0 H : Hp} {h0 h : Heap} {a : Addr} {o : HO} (u : Un fs [] H0 H h0 h) (n : h0.get? a = none) (e : H a = none) : Un fs [] H0 (upd H a o) h0 h where
  keep := u.keep
  slot := u.slot
  free := fun b ob q z hx => by rw [upd_ne (fun y => by rw [y, n] at q; cases q)]; exact u.free b ob q z hx
  there := u.there
  tups := fun b xs q => by
    have r := u.tups b xs q
    rw [upd_ne (ne_of_none r e)]; exact r
  frzs := fun b ob xs q => by
    have r := u.frzs b ob xs q
    rw [upd_ne (ne_of_none r e)]; exact r
  tbls := fun b ps q => by
    obtain ⟨m, r⟩ := u.tbls b ps q
    exact ⟨m, by rw [upd_ne (ne_of_none r e)]; exact r⟩
theorem HOk.track {P : Program} {w : World} {H : Hp} {h : Heap} {a : Addr} {o : HO} (x : HOk P w H h) (e : H a = none) (k : ObjOk P w (upd H a o) h a o) : HOk P w (upd H a o) h := fun b u q => by
  by_cases hb : b = a
  · subst hb; rw [upd_same] at q; cases q; exact k
  · rw [upd_ne hb] at q
    exact (x b u q).stay (fun c v _ r => r) (fun c r => by rw [upd_ne (ne_of_none r e)]; exact r) fun c xs r => by rw [upd_ne (ne_of_none r e)]; exact r

def tTry (K : PySem.W.Frag) (mg : Str → Option Value) (G : Addr) (j : Nat) (tb : Ends → XK → St → Hp → Prop) (th : TS) : TS := fun D σ H => tb D (fun cls d H' => ∃ C nm, cls = .ref C ∧ XClsOk K mg nm C ∧ PySem.W.mroIn K C (.ref G) = some true ∧
  ∀ ea, H' ea = none → th { nx := fun σ' H2 => D.nx (σ'.set j none) H2, rt := D.rt, bk := fun σ' H2 => D.bk (σ'.set j none) H2, ct := fun σ' H2 => D.ct (σ'.set j none) H2 } (σ.set j (some (.ref ea))) (upd H' ea (XC ea C d))) σ H
section
variable {X : Cx} {st b0 : Stmt} {suite : List Stmt} {tb : Ends → XK → St → Hp → Prop} {th : TS} {G : Addr} {j : Nat} {c n : Str} {cp hp pos : Pos}
theorem ps_try (hN : X.N.Nodup) (hj : X.N[j]? = some n) (hk : X.env.scope.names.lookup n = some .local) (hG : XClsOk X.K X.mg c G) (hst : X.stack = X.env :: X.outer) (hfr : X.env.frame = some X.env.locals)
    (hb : PSx X st tb) (hh : ∀ ea, PSs (X.hdl ea).nox (b0 :: suite) th) (hg : Gl X c := by rfl) (hdb : (c == ("__debug__" : Str)) = false := by decide) :
    PS X (.Try [st] [.ExceptHandler (some (.Name c cp)) (some n) (b0 :: suite) hp] [] [] pos) (tTry X.K X.mg G j tb th) := by
  intro pins s σ H D I h
  refine wpAny_Try_except (wpAny_execs_cons (wpAny_mono (hb pins s σ H D _ I h) (fun f s1 q => ?_) fun ev s1 q => ?_))
  · cases f with
    | next => exact wpAny_execs_nil (wpAny_execs_nil q)
    | ret v => exact q
    | brk => exact q
    | cont => exact q
  obtain ⟨H1, s2, I1, ea, cls, d, T0, H', rfl, os, bare, un, hok, hn, he1, hT0, hT1, tr, C, nm, rfl, hC, hsub, hth⟩ := q
  have I2 : Inv X pins σ H' s1 := I1.call' os un hok bare fun b z => nomatch z
  have hframes : X.A.frames = some (X.env :: X.outer) := by rw [← hst]; exact I.ok.frames
  have hfun : s1.heap.FunFrames X.base (X.env :: X.outer) := by rw [← hst]; exact I2.stack
  have hS1 : ∀ b ∈ frs (X.env :: X.outer), H' b = none := by rw [← hst]; exact I2.stkFree
  -- the state with a heap that moved
  have mv : ∀ (h' : Heap) (D' : Addr → Prop) (g : Array GenState) (dr : Drawn) (tk : Nat), Ex.Mvd (frs (X.env :: X.outer)) D' s1.heap h' → (∀ b, D' b → s2.heap.get? b = none) → (∀ b, D' b → H' b = none) → AllBare g →
      Inv X pins σ H' ⟨h', g, dr, tk, s1.os⟩ := fun h' D' g dr tk m h1 h2 h3 => by
    refine I1.call' (s' := ⟨h', g, dr, tk, s1.os⟩) os (Un.moved un m h1 fun b hb => .inl ?_) (HOk.moved hok m h2 hS1) h3 fun b z => nomatch z
    rw [hst]; exact hb
  refine Ex.x_noteT hframes hfun hfr tr fun h3 T hT m3 t3 => ?_
  refine Ex.x_mark (fr := none) t3 fun h4 m4 t4 => ?_
  have fr2 : ∀ b, s1.heap.get? b = none → s2.heap.get? b = none := fun b q => by
    cases r : s2.heap.get? b with
    | none => rfl
    | some o => obtain ⟨o', z⟩ := un.there b o r (by simp); rw [q] at z; cases z
  have D1 : ∀ b, ((b = ea ∨ b = T0) ∨ b = T) → s2.heap.get? b = none := by
    rintro b ((rfl | rfl) | rfl)
    · exact hn
    · exact hT0
    · exact fr2 _ hT
  have D2 : ∀ b, ((b = ea ∨ b = T0) ∨ b = T) → H' b = none := by
    rintro b ((rfl | rfl) | rfl)
    · exact he1
    · exact hT1
    · exact hok.none_of hT
  have M4 : Ex.Mvd (frs (X.env :: X.outer)) (fun b => (b = ea ∨ b = T0) ∨ b = T) s1.heap h4 := (m3.mono fun b z => .inl z).trans (mvd_S (m4.mono fun b z => .inr z) fun b z => nomatch z)
  have I4 : Inv X pins σ H' { s1 with heap := h4 } := mv h4 _ s1.gens s1.drawn s1.toks M4 D1 D2 bare
  have Ih := I4.hdl ea
  obtain ⟨cdG, hcG, hvG, _, bmG, hmG⟩ := hG.cd
  obtain ⟨nmG, qG, NG, bsG, bm', snG, subG, abG, colG, ddG, k0, k1, k2, k3, k5, lG, vG⟩ := hG.obj
  refine wpAny_handleBy_cons (codeAny_handlers_test (A := X.A.mark (some (.ref ea))) (ld_glob Ih hg hG.g ?_ hdb)) (by intro q; cases q)
  have ty : PySem.W.typeIn X.K (.ref G) = some (.type "type") := by show (List.lookup G X.K).map (·.cls) = _; rw [lG]; rfl
  obtain ⟨oe, vs, oT, ts, q1, q2, q3, q4, q5, q6, q7, q8, q9⟩ := id t4
  have Lt : PySem.W.Looks (model X.prog X.w) h4 (typeOf (.ref ea)) (.ref C) := q2 ▸ (PySem.W.Looks.ld q1).andThen .now
  have Li : PySem.W.Looks (model X.prog X.w) h4 (isType (.ref G)) true := by
    intro A' Q' E' s' k q
    unfold isType loadHead
    exact wpAny_bind (wpAny_loadPart (k _ _ (I4.kIn _ _ lG)) (wpAny_pure q))
  refine Ex.x_match (s := { s1 with heap := h4 }) I4.kIn Lt ty Li (hG.mro (by decide +kernel)) hsub ?_
  dsimp only
  refine codeAny_handlers_suite_as ?_
  refine Ex.x_mark (s := { s1 with heap := h4 }) (fr := none) t4 fun h5 m5 t5 => ?_
  have M5 : Ex.Mvd (frs (X.env :: X.outer)) (fun b => (b = ea ∨ b = T0) ∨ b = T) s1.heap h5 := M4.trans (mvd_S (m5.mono fun b z => .inr z) fun b z => nomatch z)
  have I5 : Inv X pins σ H' { s1 with heap := h5 } := mv h5 _ s1.gens s1.drawn s1.toks M5 D1 D2 bare
  obtain ⟨oe5, vs5, oT5, ts5, p1, p2, p3, p4, _⟩ := id t5
  have I6 : Inv X pins σ (upd H' ea (XC ea C d)) { s1 with heap := h5 } := by
    refine I1.call' (s' := { s1 with heap := h5 }) os (Un.track (Un.moved un M5 D1 fun b hb => .inl (by rw [hst]; exact hb)) hn he1) (HOk.track (HOk.moved hok M5 D2 hS1) he1 (xc_ok p1 p2 p3 p4)) bare fun b z => nomatch z
  refine store_ok I6 hN hj (.inl hk) (show RelV (.ref ea) (.ref ea) from rfl) (fun s6 I7 => ?_) (.inr hk)
  refine wpAny_mono (hh ea pins s6 _ _ _ ((I7.hdl ea).wish _) (hth ea he1)) (fun f s7 q => ?_) fun _ _ z => z.elim
  have go : ∀ {σ' : St} {H2 : Hp} {Q : Flow → Shared → Prop}, Inv ((X.hdl ea).nox) pins σ' H2 s7 → (∀ s8, Inv X pins (σ'.set j none) H2 s8 → Q f s8) → wpAny (model X.prog X.w) X.A (do bindName X.env n .none; unbindBehindTheSuite X.env n hp) (fun _ s8 => Q f s8) X.xe s7 := fun {σ' H2 Q} J k => by
    have J' := J.unhdl I.ok
    obtain ⟨m, hm, hl⟩ := id J'.loc
    exact wpAny_nameGoes_keeps hk hm (by rw [I.ok.kind]; rfl) fun h' v hn' hs' => k _ (J'.dropped hN hj hk hl hm hn' hs')
  cases f with
  | next =>
    obtain ⟨σ', H2, J, z⟩ := q
    exact go J fun s8 K8 => ⟨_, H2, K8, z⟩
  | ret u =>
    obtain ⟨v, σ', H2, J, rv, z⟩ := q
    exact go J fun s8 K8 => ⟨v, _, H2, K8, rv, z⟩
  | brk =>
    obtain ⟨σ', H2, J, z⟩ := q
    exact go J fun s8 K8 => ⟨_, H2, K8, z⟩
  | cont =>
    obtain ⟨σ', H2, J, z⟩ := q
    exact go J fun s8 K8 => ⟨_, H2, K8, z⟩
end
end L2

set_option Elab.async false
set_option linter.all false
set_option maxRecDepth 100000
set_option maxHeartbeats 4000000
namespace L2
open PySem PySem.Spec PyProof.Rows

structure XIniOk (K : PySem.W.Frag) (C : Addr) (qual : Str) (st : Stmt) (ps : List Str) (f : Addr) (fd : FuncData) : Prop where
  F : Fun K "__init__" qual st f fd
  b : Binds K fd ps []
  i : PySem.W.findIn K (.ref C) "__init__" = some (some (.ref f))
  f : PySem.W.isFn K (.ref f) = true
section
variable {P : Program} {w : World} {K : PySem.W.Frag} {mg : Str → Option Value} {base : Heap}
theorem Fun.okE {x qual : Str} {st : Stmt} {f : Addr} {fd : FuncData} {N ps : List Str} {k : Nat} {sp : Sp} (F : Fun K x qual st f fd) (S : FnScope N ps (defScope st)) (len : ∀ vs H Q E, sp vs H Q E → vs.length = ps.length)
    (hbody : ∀ (cdv : Value) (A : Around) (outer : List Env) (s : Shared) (H : Hp) (vs : List V) (Q : VK) (E : XK), Room k (A.deeper (envOfC qual (defScope st) s.heap.objs.size f cdv)) → sp vs H Q E →
      ∃ t, PSs (cxOf (CXe P w) P w K mg base N qual (defScope st) f cdv A outer s H E) (defBody st) t ∧ t { nx := fun _ H' => Q .non H', rt := Q } (start N vs) H) : FnOk P w K mg base (CXe P w) (k + 1) f fd ps sp := by
  obtain ⟨oc, od, kV, doc, pm, an, cdv, ct, osl, rfl, lk, hcd⟩ := F.ex
  exact fn_of lk hcd S len fun A outer s H vs Q E hr hsp => hbody cdv A outer s H vs Q E hr hsp
end
section
variable {X : Cx} {k : Nat} {f C : Addr} {fd : FuncData} {ps : List Str} {sp : Sp} {x qual : Str} {st : Stmt} {p pos cpos : Pos} {e : Expr} {es : List Expr} {t : TA} {E : XK}

theorem callX (D : DefOk X.K X.mg x st ps f fd) (G : FnOk X.prog X.w X.K X.mg X.base (CXe X.prog X.w) k f fd ps sp) (hr : Room k X.A) (hx : Passes (CXe X.prog X.w) X E) (ha : PA X (e :: es) t) (hg : Gl X x := by rfl)
    (hdb : (x == ("__debug__" : Str)) = false := by decide) (he : starEach (e :: es) X.env = (false, eval e X.env) :: starEach es X.env := by rfl) (hpl : (backTo pos (starEach es X.env)).any (·.1) = false := by rfl) :
    PE X (.Call (.Name x p) (e :: es) [] pos) (tCall sp [] E t) := pe_call G hr hg D.g D.F.kp D.b .nil hx ha hdb he hpl
theorem raiseD (c : XClsOk X.K X.mg x C) (D : XIniOk X.K C qual st ps f fd) (G : FnOk X.prog X.w X.K X.mg X.base CX0 k f fd ps sp) (hr : Room (k + 1) X.A) (hc : X.calm = true) (hx : Throws X E) (ha : PA X (e :: es) t) (hz : ps.length ≤ 1000 := by decide) (hg : Gl X x := by rfl)
    (hdb : (x == ("__debug__" : Str)) = false := by decide) (he : starEach (e :: es) X.env = (false, eval e X.env) :: starEach es X.env := by rfl) (hpl : (backTo cpos (starEach es X.env)).any (·.1) = false := by rfl) :
    PS X (.Raise (some (.Call (.Name x p) (e :: es) [] cpos)) none pos) (tRaise C sp E t) := ps_raise c.cls c.g D.i D.f c.kp G D.b hr hc hx ha hz hg hdb he hpl
theorem raiseD0 (c : XClsOk X.K X.mg x C) (hi : PySem.W.findIn X.K (.ref C) "__init__" = some (some (.builtin "ValueError.__init__"))) (hc : X.calm = true) (hx : Throws X E) (hg : Gl X x := by rfl)
    (hdb : (x == ("__debug__" : Str)) = false := by decide) : PS X (.Raise (some (.Call (.Name x p) [] [] cpos)) none pos) (tRaise0 C E) := ps_raise0 c.cls c.g hi c.kp hc hx hg hdb
end
theorem xIniOk_mk {K : PySem.W.Frag} {C : Addr} {qual : Str} {st : Stmt} {ps : List Str} {f : Addr} {oc : Value} {od an : Option Addr} {osl : Array (Option Value)} {kV doc pm cdv ct : Value}
    (a : PySem.W.findIn K (.ref C) "__init__" = some (some (.ref f))) (i : PySem.W.isFn K (.ref f) = true) (l : K.lookup f = some ⟨oc, od, .func (PySem.W.fnOf "__init__" qual (defArgs st) (defBody st) (defScope st) .none kV doc pm an cdv ct), osl⟩) (c : PySem.W.codeIn K cdv qual = true) (k : PySem.W.keepIn K (.ref f) = true)
    (b : ∀ (kV doc pm : Value) (an : Option Addr) (cdv ct : Value) (us : List Value), us.length = ps.length → bindArgs (PySem.W.fnOf "__init__" qual (defArgs st) (defBody st) (defScope st) .none kV doc pm an cdv ct) ⟨us, []⟩ = pure (ps.zip us)) :
    XIniOk K C qual st ps f (PySem.W.fnOf "__init__" qual (defArgs st) (defBody st) (defScope st) .none kV doc pm an cdv ct) :=
  have F := fun_mk l c k
  ⟨F, F.binds b, a, i⟩
theorem xClsOk_mk {K : PySem.W.Frag} {mg : Str → Option Value} {h : Heap} {name : Str} {C N : Addr} {nm q : Str} {bs bm : List Value} {sn : List Str} {sub : List Value} {ab : Bool} {col : Option Bool} {dd : Option Addr} {k0 k1 k2 k3 k5 : Option Value} (X : K.In h) (G : h.Ns mainGlobals mg)
    (a : PySem.W.nsIn K mainGlobals name = some (some (.ref C))) (l : K.lookup C = some (excClassObj nm q C N bs bm true sn sub ab col dd k0 k1 k2 k3 k5 "ValueError.__new__")) (v : Ex.veTail bm = true) (kp : PySem.W.keepIn K (.ref C) = true)
    (sa : PySem.W.findIn K (.ref C) "__setattr__" = some (some (.builtin "object.__setattr__"))) (ga : PySem.W.findIn K (.ref C) "__getattribute__" = some (some (.builtin "BaseException.__getattribute__"))) (gt : PySem.W.findIn K (.ref C) "__getattr__" = some none)
    (cl : PySem.W.findIn K (.ref C) "__class__" = some (some (.builtin "object.__class__"))) (sg : PySem.W.specialIn K (.builtin "object.__class__") "__get__" = some (some (.builtin "getset_descriptor.__get__"))) (tk : PySem.W.takesIn K (.builtin "object.__class__") = some true) : XClsOk K mg name C :=
  ⟨PySem.W.mg_of X G a, ⟨nm, q, N, bs, bm, sn, sub, ab, col, dd, k0, k1, k2, k3, k5, l, v⟩, kp, sa, ga, gt, cl, sg, tk⟩
def rLenK (K : PySem.W.Frag) : List V → Hp → VK → Prop := fun xs H Q => ∃ p ys, xs = [.ref p] ∧ (SqL K H p ys ∨ SqT K H p ys) ∧ Q (.int (ys.length : Nat)) H
theorem bt_ValueError : bootBuiltins "ValueError" = some (.type "ValueError") := by decide +kernel
section
variable {X : Cx}

def rInsert : V → List V → Hp → VK → Prop := fun x vs H Q => ∃ l xs i y, x = .ref l ∧ vs = [.int (i : Nat), y] ∧ H l = some (.lst xs) ∧ i ≤ xs.length ∧ xs.length < sizeLine ∧ Q .non (upd H l (.lst (xs.take i ++ y :: xs.drop i)))
theorem ins_arr {its : List Value} {u : Value} {x : Int} {i : Nat} (hx : x = (i : Int)) (hi : i ≤ its.length) :
    ((fun xs : Array Value => have k := if x < 0 then (x + (xs.size : Int)).toNat else min x.toNat xs.size; (xs.extract 0 k).push u ++ xs.extract k) its.toArray) = (its.take i ++ u :: its.drop i).toArray := by
  subst hx
  have hneg : ¬ ((i : Int) < 0) := Int.not_lt.mpr (Int.natCast_nonneg i)
  have hmin : min (Int.toNat (i : Int)) its.length = i := by rw [Int.toNat_natCast]; omega
  simp only [hneg, if_false, List.size_toArray, hmin]
  apply Array.ext'
  simp
  exact List.take_of_length_le (by rw [List.length_drop]; exact Nat.le_refl _)
theorem mt_insert : MtM X "list.insert" rInsert := by
  intro pins s σ H x vs v us Q I rx rv h
  obtain ⟨l, xs, i, y, rfl, rfl, hH, hi, hz, q⟩ := h
  cases rx
  obtain ⟨u0, u, rfl, r0, ru⟩ := vals2 rv
  obtain ⟨t, rfl⟩ := r0
  obtain ⟨z, its, n, r, hl, e⟩ := I.lstM hH
  have hb : (i : Int) < 2 ^ 63 := by
    have : xs.length < sizeLine := hz
    rw [sizeLine_eq] at this
    omega
  have ha : -(2 ^ 63) ≤ (i : Int) := Int.le_trans (by decide) (Int.natCast_nonneg i)
  have hf : ¬ (!Builtin.List.listFitsIndex (i : Int)) = true := by rw [fitsIndex_both ha hb]; exact Bool.false_ne_true
  have hs : its.toArray.size ≤ sizeLine := by rw [List.size_toArray, ← hl]; exact z
  have hi' : i ≤ its.length := by rw [← hl]; exact hi
  obtain ⟨k, hk⟩ : ∃ k : Int, k = (i : Int) := ⟨_, rfl⟩
  rw [← hk] at hf ⊢
  refine call_meets F.slot_list_insert ⟨_, e, rfl⟩ F.entry_list_insert (F.args_list_insert_3 _ _ _) (AutoSeq1.list_insert_list_int_val_1 l its.toArray n k t u hf hs) ⟨e, ?_⟩
  refine ⟨.non, _, I.lset (its' := its.take i ++ u :: its.drop i) hH e (ins_arr hk hi') ((r.take i).append (.cons ru (r.drop i))) ?_, rfl, q⟩
  rw [List.length_append, List.length_cons, List.length_take, List.length_drop]; omega

def iAny (K : PySem.W.Frag) (tl : TE) : TI := fun σ H R => tl σ H fun x H1 => ∃ a, x = .ref a ∧ (((∃ xs, SqL K H1 a xs) ∧ R (Itl K a) H1) ∨ ((∃ xs, SqT K H1 a xs) ∧ R (Itt K a) H1))
theorem pi_any {tg l : Expr} {tl : TE} (hl : PE X l tl) : PI X tg l (iAny X.K tl) := by
  intro pins s σ H R I h
  refine thn (hl pins s σ H _ I h) fun v s1 ⟨x, H1, I1, r1, q1⟩ => ?_
  obtain ⟨a, rfl, ⟨⟨xs, hq⟩, q⟩ | ⟨⟨xs, hq⟩, q⟩⟩ := q1
  · cases r1
    obtain ⟨its, rv, p, hz⟩ := I1.list hq
    refine wpAny_pyIter_list p.isList ⟨s1.heap.objs.size, [s1.heap.objs.size], _, _, H1, rfl, I1.kept (t' := s1.toks) fun b o e => Heap.get?_push_of_some _ e, turn_list a _, ⟨_, Heap.get?_push_size _ rfl, rfl, rfl⟩, fun b hb => ?_, q⟩
    obtain rfl : b = s1.heap.objs.size := by simpa using hb
    exact I1.fpOk (Nat.le_refl _) (I1.hok.fresh (Nat.le_refl _))
  · cases r1
    obtain ⟨its, rv, p, hz⟩ := I1.tuple hq
    refine wpAny_pyIter_tuple (show s1.heap.IsTuple a its.toArray from p) ⟨s1.heap.objs.size, [s1.heap.objs.size], _, _, H1, rfl, I1.kept (t' := s1.toks) fun b o e => Heap.get?_push_of_some _ e, turn_tuple a _, ⟨_, Heap.get?_push_size _ rfl, rfl, rfl⟩, fun b hb => ?_, q⟩
    obtain rfl : b = s1.heap.objs.size := by simpa using hb
    exact I1.fpOk (Nat.le_refl _) (I1.hok.fresh (Nat.le_refl _))
end
end L2

set_option Elab.async false
set_option linter.all false
set_option maxRecDepth 100000
set_option maxHeartbeats 4000000
namespace L2
open PySem PySem.Spec PyProof.Rows
open PySem.Builtin

theorem noFill_tuple_mul : fillsNumberSlot (.type "tuple") "mul" = pure false :=
  PySem.fillsNumberSlot_seq (id := "tuple.__mul__") (r := some (.builtin "tuple.__rmul__")) F.slot_tuple_mul.lookup (by decide +kernel) F.slot_tuple_rmul.lookup (by decide +kernel)
theorem repeat_tuple : seqRepeat? (.type "tuple") = pure (some (.builtin "tuple.__mul__")) := by
  unfold seqRepeat?
  rw [PySem.seqSlot_of (T := "tuple") (name := "__mul__") (id := "tuple.__mul__") F.slot_tuple_mul.lookup (by decide +kernel), PySem.seqSlot_of (T := "tuple") (name := "__rmul__") (id := "tuple.__rmul__") F.slot_tuple_rmul.lookup (by decide +kernel)]
  rfl
theorem rmul_int_tuple (a : Int) (t : Tok) (l : Addr) (items : Array Value) (n : Nat) (dd : Option Addr) (sl : Array (Option Value)) :
    Meets (Builtin.«int.__rmul__» ⟨[.int a t, .ref l], []⟩) (fun _ R s => s.heap.get? l = some { cls := .type "tuple", dict := dd, data := .seq items n, slots := sl } ∧ R (.ok (.ret Value.notImplemented)) s) :=
  .of_wp fun prog w A R s h => by obtain ⟨hp, g, d, tk, os⟩ := s; obtain ⟨hl, h⟩ := h; wp_walk; exact ⟨_, rfl, h⟩
theorem tuple_mul1 (l : Addr) (items : Array Value) (n : Nat) (dd : Option Addr) (sl : Array (Option Value)) (u : Tok) :
    Meets (Builtin.«tuple.__mul__» ⟨[.ref l, .int 1 u], []⟩) (fun _ R s => s.heap.get? l = some { cls := .type "tuple", dict := dd, data := .seq items n, slots := sl } ∧ R (.ok (.ret (.ref l))) s) :=
  .of_wp fun prog w A R s h => by
    obtain ⟨hp, g, d, tk, os⟩ := s; obtain ⟨hl, h⟩ := h; have f1 := AutoSeq1.idx_int; have f2 := AutoSeq1.sub_tuple_tuple
    wp_walk using AutoSeq1.wpAny_loadPart' hl
    exact ⟨_, rfl, h⟩
theorem tuple_mul0 (l : Addr) (items : Array Value) (n : Nat) (dd : Option Addr) (sl : Array (Option Value)) (u : Tok) (hc : ¬ items.isEmpty = true) :
    Meets (Builtin.«tuple.__mul__» ⟨[.ref l, .int 0 u], []⟩) (fun _ R s => s.heap.get? l = some { cls := .type "tuple", dict := dd, data := .seq items n, slots := sl } ∧ R (.ok (.ret (.ref s.heap.objs.size))) { s with heap := s.heap.push { cls := Value.type "tuple", data := Data.seq #[] } }) :=
  .of_wp fun prog w A R s h => by
    obtain ⟨hp, g, d, tk, os⟩ := s; obtain ⟨hl, h⟩ := h; have f1 := AutoSeq1.idx_int; have f2 := AutoSeq1.sub_tuple_tuple
    have hc' : items.isEmpty = false := Bool.eq_false_iff.mpr hc
    wp_walk using AutoSeq1.wpAny_loadPart' hl
    exact ⟨_, rfl, h⟩
theorem tuple_mulN (l : Addr) (items : Array Value) (n : Nat) (dd : Option Addr) (sl : Array (Option Value)) (x : Int) (u : Tok) (hc : ¬ items.isEmpty = true) (h2 : 2 ≤ x) (hz : (items.size : Int) * x ≤ 1000) (hx : x ≤ 1000) :
    Meets (Builtin.«tuple.__mul__» ⟨[.ref l, .int x u], []⟩) (fun _ R s => s.heap.get? l = some { cls := .type "tuple", dict := dd, data := .seq items n, slots := sl } ∧ R (.ok (.ret (.ref s.heap.objs.size))) { s with heap := s.heap.push { cls := Value.type "tuple", data := Data.seq (List.foldl (fun x1 x2 => x1 ++ x2) #[] (List.replicate x.toNat items)) } }) :=
  .of_wp fun prog w A R s h => by
    obtain ⟨hp, g, d, tk, os⟩ := s; obtain ⟨hl, h⟩ := h; have f1 := AutoSeq1.idx_int; have f2 := AutoSeq1.sub_tuple_tuple
    have hc' : items.isEmpty = false := Bool.eq_false_iff.mpr hc
    have c1 : ¬ (decide (x < -(2 ^ 63)) || decide (x ≥ 2 ^ 63)) = true := by simp; omega
    have c2 : ¬ (items.isEmpty || x == 1) = true := by rw [hc']; simp; omega
    have c3 : ¬ (decide (x ≤ 0) || items.isEmpty) = true := by rw [hc']; simp; omega
    have c4 : ¬ (items.size : Int) * x > (2 ^ 63 - 1) / 8 := by omega
    have c5 : ¬ Builtin.Tuple.tupleTooMany ((items.size : Int) * x) = true := by
      unfold Builtin.Tuple.tupleTooMany
      rw [decide_eq_true_eq]
      have : (1000 : Int) < (sizeLine : Int) := by decide
      omega
    have c6 : ¬ (List.foldl (fun x1 x2 => x1 ++ x2) #[] (List.replicate x.toNat items)).size > sizeLine := by
      have h1 := AutoSeq1.size_joined items x.toNat #[]
      have h3 : (1000 : Nat) < sizeLine := by decide
      have h4 : ((x.toNat * items.size : Nat) : Int) = (items.size : Int) * x := by
        rw [Int.natCast_mul, Int.toNat_of_nonneg (by omega), Int.mul_comm]
      have h5 : (#[] : Array Value).size = 0 := rfl
      omega
    wp_walk using AutoSeq1.wpAny_loadPart' hl
    refine wpAny_ite_false (decide_eq_false c1) ?_
    wp_walk using AutoSeq1.wpAny_loadPart' hl
    refine wpAny_ite_false (decide_eq_false c2) ?_
    wp_walk using AutoSeq1.wpAny_loadPart' hl
    refine wpAny_ite_false (decide_eq_false c3) ?_
    wp_walk using AutoSeq1.wpAny_loadPart' hl
    refine wpAny_ite_false (decide_eq_false c4) ?_
    wp_walk using AutoSeq1.wpAny_loadPart' hl
    exact ⟨_, rfl, h⟩

def rRepT (K : PySem.W.Frag) : R2 := fun x y H Q => ∃ a k xs, x = .ref a ∧ y = .int k ∧ SqT K H a xs ∧ xs ≠ [] ∧ 0 ≤ k ∧ k ≤ 1000 ∧ (xs.length : Int) * k ≤ 1000 ∧
  (k = 1 → Q (.ref a) H) ∧ (k ≠ 1 → ∀ p, H p = none → Q (.ref p) (upd H p (.tup (List.replicate k.toNat xs).flatten)))
theorem op_repT {X : Cx} : OpR X (binaryOp .Mult) (rRepT X.K) := by
  intro pins s σ H x y v u Q I rx ry h
  obtain ⟨a, k, xs, rfl, rfl, ha, hx, k0, k1, hz, q1, q2⟩ := h
  cases rx
  obtain ⟨t, rfl⟩ := ry
  obtain ⟨its, r1, p1, hl⟩ := I.tuple ha
  obtain ⟨⟨cls, dd, data, sl⟩, ho, hc, n, hd⟩ := id p1
  simp only at hc hd
  subst hc hd
  have hne : ¬ its.toArray.isEmpty = true := by
    have : its ≠ [] := fun z => hx (r1.nil_iff.mp z)
    simpa using this
  have hsz : (its.toArray.size : Int) * k ≤ 1000 := by rw [List.size_toArray, ← r1.length]; exact hz
  have road : wpAny (model X.prog X.w) X.A (call (.builtin "tuple.__mul__") [.ref a, .int k t]) (EP X pins σ Q) X.xe s := by
    by_cases e1 : k = 1
    · subst e1
      exact call_meets F.slot_tuple_mul ⟨_, ho, rfl⟩ F.entry_tuple_mul (F.args_tuple_mul_2 _ _) (tuple_mul1 a its.toArray n dd sl t) ⟨ho, ⟨.ref a, H, I, rfl, q1 rfl⟩⟩
    · by_cases e0 : k = 0
      · subst e0
        refine call_meets F.slot_tuple_mul ⟨_, ho, rfl⟩ F.entry_tuple_mul (F.args_tuple_mul_2 _ _) (tuple_mul0 a its.toArray n dd sl t hne) ⟨ho, ?_⟩
        refine ⟨.ref s.heap.objs.size, _, I.laid (t' := s.toks) (o := .tup []) (fun b ob q => Heap.get?_push_of_some _ q) (Nat.le_refl _) ?_, rfl, q2 e1 _ (I.hok.fresh (Nat.le_refl _))⟩
        exact ⟨Nat.zero_le _, [], .nil, IsTup.new _ _⟩
      · refine call_meets F.slot_tuple_mul ⟨_, ho, rfl⟩ F.entry_tuple_mul (F.args_tuple_mul_2 _ _) (tuple_mulN a its.toArray n dd sl k t hne (by omega) hsz k1) ⟨ho, ?_⟩
        have hnew : List.foldl (fun x1 x2 => x1 ++ x2) #[] (List.replicate k.toNat its.toArray) = (List.replicate k.toNat its).flatten.toArray := by
          have := foldl_rep its k.toNat []
          rw [List.nil_append] at this
          exact this
        rw [hnew]
        refine ⟨.ref s.heap.objs.size, _, I.laid (t' := s.toks) (o := .tup (List.replicate k.toNat xs).flatten) (fun b ob q => Heap.get?_push_of_some _ q) (Nat.le_refl _) ?_, rfl, q2 e1 _ (I.hok.fresh (Nat.le_refl _))⟩
        refine ⟨?_, _, r1.rep k.toNat, IsTup.new _ _⟩
        rw [len_rep]
        have h4 : ((k.toNat * xs.length : Nat) : Int) = (xs.length : Int) * k := by
          rw [Int.natCast_mul, Int.toNat_of_nonneg k0, Int.mul_comm]
        have h3 : (1000 : Nat) < sizeLine := by decide
        omega
  exact wpAny_binaryOp_repeat_ref (T := "tuple") (U := "int") (by decide) ⟨_, ho, rfl⟩ (fun s' => typeIs_int s' k t) noFill_tuple_mul F.fills_int_mul F.slot_int_rmul repeat_tuple F.slot_int_index.lookup
    (call_meets F.slot_int_rmul (typeIs_int s k t) F.entry_int_rmul (F.args_int_rmul_2 _ _) (rmul_int_tuple k t a its.toArray n dd sl) ⟨ho, rfl, ⟨_, ho, rfl⟩, road⟩)
end L2

set_option Elab.async false
set_option linter.all false
set_option maxRecDepth 100000
set_option maxHeartbeats 4000000
namespace L2
open PySem PySem.Spec PyProof.Rows

theorem op_isNB {X : Cx} : OpR X (compareOp .IsNot) (fun x y H Q => ∃ a b, x = .bl a ∧ y = .bl b ∧ Q (.bl (!decide (a = b))) H) := by
  intro pins s σ H x y v u Q I rx ry h
  obtain ⟨a, b, rfl, rfl, q⟩ := h
  cases rx
  cases ry
  exact wpAny_isNot_plain rfl (fin_bl I q (by cases a <;> cases b <;> rfl))

def noX : XK := fun _ _ _ => False
theorem pass_no {P : Program} {w : World} {X : Cx} : Passes (CXe P w) X noX := by
  rintro pins σ H s e s' I ⟨ea, cls, d, T, H', _, _, _, _, _, _, _, _, _, _, h⟩
  exact h.elim
def rTupK (K : PySem.W.Frag) : List V → Hp → VK → Prop := fun xs H Q => ∃ p ys, xs = [.ref p] ∧ ((SqL K H p ys ∧ ∀ l, H l = none → Q (.ref l) (upd H l (.tup ys))) ∨ (SqT K H p ys ∧ Q (.ref p) H))
end L2

set_option Elab.async false
set_option linter.all false
set_option maxRecDepth 100000
set_option maxHeartbeats 4000000
namespace K11
open PySem PySem.NumText L2

def inS (c : Nat) (S : Str) : Bool := !(Builtin.Str.occurrences S ⟨#[c]⟩ 0 S.length 1).isEmpty
def letters : Str := "abcdefghijklmnopqrstuvwxyz"
def figs : Str := "0123456789"
def taken : List Str := ["fn", "in", "new", "get", "put", "call", "out", "if", "while", "else", "end", "back"]
def allIn (w S : Str) : Bool := w.cps.toList.all fun c => inS c S
def within (w S : Str) : Bool := allIn w S && decide ((0 : Int) < w.length)
def isTaken (w : Str) : Bool := inV (.str w) (taken.map V.str)
def named (w : Str) : Bool := decide ((w.length : Int) < 9) && (within w letters && !isTaken w)
def first (w : Str) : Option Nat := w.cps.toList[0]?
def total (w : Str) : Int := w.cps.toList.foldl (fun acc c => acc * 10 + PySem.Txt.find figs ⟨#[c]⟩) 0
def lawVal (w : Str) : V := if within w figs = true ∧ ¬ (1 < w.length ∧ first w = some 48) ∧ total w < 2 ^ 48 then .int (total w) else .non
theorem inS_iff (c : Nat) (S : Str) : inS c S = decide (c ∈ S.cps.toList) := StrLaws.found_one S c
theorem len_cps (w : Str) : w.cps.toList.length = w.length := Array.length_toList
theorem fig_of {c : Nat} (h : inS c figs = true) : 48 ≤ c ∧ c ≤ 57 := by
  rw [inS_iff] at h
  have h : c ∈ figs.cps.toList := of_decide_eq_true h
  have e : figs.cps.toList = [48, 49, 50, 51, 52, 53, 54, 55, 56, 57] := by decide +kernel
  rw [e] at h
  simp at h
  omega
theorem find_fig {c : Nat} (h : 48 ≤ c ∧ c ≤ 57) : PySem.Txt.find figs ⟨#[c]⟩ = ((c - 48 : Nat) : Int) := by
  have : c = 48 ∨ c = 49 ∨ c = 50 ∨ c = 51 ∨ c = 52 ∨ c = 53 ∨ c = 54 ∨ c = 55 ∨ c = 56 ∨ c = 57 := by omega
  rcases this with e | e | e | e | e | e | e | e | e | e <;> subst e <;> decide +kernel
theorem digits_of_all {w : Str} (h : allIn w figs = true) : AllDigits w.cps.toList := fun c hc => fig_of (List.all_eq_true.mp h c hc)
theorem fold_digits : ∀ (cs : List Nat) (acc : Nat), (∀ c ∈ cs, 48 ≤ c ∧ c ≤ 57) → cs.foldl (fun (acc : Int) c => acc * 10 + PySem.Txt.find figs ⟨#[c]⟩) (acc : Int) = ((cs.foldl (fun acc c => acc * 10 + (c - 48)) acc : Nat) : Int)
  | [], acc, _ => rfl
  | c :: cs, acc, h => by
    rw [List.foldl_cons, List.foldl_cons, find_fig (h c List.mem_cons_self)]
    have := fold_digits cs (acc * 10 + (c - 48)) fun d hd => h d (List.mem_cons_of_mem _ hd)
    rw [← this]
    congr 1
theorem total_digits {w : Str} (h : allIn w figs = true) : total w = ((digitsVal w.cps.toList : Nat) : Int) := fold_digits _ 0 (digits_of_all h)
end K11
namespace K11
open PySem PySem.NumText L2
end K11
namespace K11
open PySem PySem.NumText L2
end K11

set_option Elab.async false
set_option linter.all false
set_option maxRecDepth 100000
set_option maxHeartbeats 4000000
namespace K14
open PySem PySem.NumText L2 K11

theorem sum_le {ws : List Str} {n : Nat} (h : ∀ w ∈ ws, w.length ≤ n) : (ws.map (·.length)).sum ≤ ws.length * n := by
  induction ws with
  | nil => simp
  | cons w r ih =>
    have h1 := h w (by simp)
    have h2 := ih fun z hz => h z (List.mem_cons_of_mem _ hz)
    simp only [List.map_cons, List.sum_cons, List.length_cons]
    rw [Nat.succ_mul]
    omega
theorem digits_ex : ∀ (n : Nat), ∃ cs : List Nat, AllDigits cs ∧ digitsVal cs = n ∧ (cs.length = 1 ∨ ∃ c r, cs = c :: r ∧ 49 ≤ c) ∧ 0 < cs.length ∧ ∀ k, 0 < k → n < 10 ^ k → cs.length ≤ k := by
  intro n
  induction n using Nat.strongRecOn with
  | _ n ih =>
    by_cases h : n < 10
    · refine ⟨[48 + n], fun c hc => ?_, ?_, .inl rfl, Nat.one_pos, fun k hk _ => hk⟩
      · have : c = 48 + n := by simpa using hc
        omega
      · show 0 * 10 + (48 + n - 48) = n
        omega
    · obtain ⟨cs, h1, h2, h3, h4, h5⟩ := ih (n / 10) (by omega)
      refine ⟨cs ++ [48 + n % 10], fun c hc => ?_, ?_, ?_, by simp, fun k hk hn => ?_⟩
      · rcases List.mem_append.mp hc with hc | hc
        · exact h1 c hc
        · have : c = 48 + n % 10 := by simpa using hc
          omega
      · rw [digitsVal_snoc, h2]
        omega
      · right
        rcases h3 with h3 | ⟨c, r, rfl, hc⟩
        · obtain ⟨c, rfl⟩ : ∃ c, cs = [c] := by
            cases cs with
            | nil => simp at h3
            | cons c r => cases r with
              | nil => exact ⟨c, rfl⟩
              | cons d r => simp at h3
          refine ⟨c, [48 + n % 10], rfl, ?_⟩
          have e : digitsVal [c] = c - 48 := by show 0 * 10 + (c - 48) = c - 48; omega
          rw [e] at h2
          have := h1 c (by simp)
          omega
        · exact ⟨c, r ++ [48 + n % 10], rfl, hc⟩
      · cases k with
        | zero => omega
        | succ k =>
          cases k with
          | zero => simp at hn; omega
          | succ k =>
            have := h5 (k + 1) (by omega) (by rw [Nat.pow_succ] at hn; omega)
            simp only [List.length_append, List.length_singleton]
            omega
theorem text_ex {i : Int} (h0 : 0 ≤ i) : ∃ cs : List Nat, ((toString i : String) : Str).cps.toList = cs ∧ AllDigits cs ∧ (digitsVal cs : Int) = i ∧ (cs.length = 1 ∨ ∃ c r, cs = c :: r ∧ 49 ≤ c) ∧ 0 < cs.length ∧ ∀ k, 0 < k → i < 10 ^ k → cs.length ≤ k := by
  obtain ⟨m, rfl⟩ := Int.eq_ofNat_of_zero_le h0
  obtain ⟨cs, h1, h2, h3, h4, h5⟩ := digits_ex m
  refine ⟨cs, ?_, h1, by rw [h2], h3, h4, fun k hk hn => h5 k hk (by exact_mod_cast hn)⟩
  have e : toString (m : Int) = Nat.repr m := rfl
  rw [e]
  show ((cpsOfBytes 0 0 (Nat.repr m).toByteArray.data.toList).toArray).toList = cs
  rw [cpsOfBytes_string, List.toList_toArray]
  have e2 : (Nat.repr m).toList = Nat.toDigits 10 m := by
    unfold Nat.repr
    simp
  have e3 : Nat.toDigits 10 m = cs.map Char.ofNat := by
    rw [← h2]
    obtain ⟨k, hk⟩ : ∃ k, cs.length = k + 1 := ⟨cs.length - 1, by omega⟩
    exact toDigits_digitsVal k cs hk h1 (h3.elim (fun h => .inl (by omega)) .inr)
  rw [e2, e3]
  show ((cs.map Char.ofNat).map Char.toNat) = cs
  rw [List.map_map]
  have : ∀ c ∈ cs, (Char.toNat ∘ Char.ofNat) c = c := fun c hc => by
    have hh := h1 c hc
    have : c = 48 ∨ c = 49 ∨ c = 50 ∨ c = 51 ∨ c = 52 ∨ c = 53 ∨ c = 54 ∨ c = 55 ∨ c = 56 ∨ c = 57 := by omega
    rcases this with e | e | e | e | e | e | e | e | e | e <;> subst e <;> decide
  rw [List.map_congr_left this]
  simp

def txt : V → Str
  | .int i => (toString i : String)
  | .str x => x
  | _ => ""
def GoodA (v : V) : Prop := (∃ x, v = .str x ∧ named x = true) ∨ ∃ i, v = .int i ∧ 0 ≤ i ∧ i < 2 ^ 48
def atomF (x : Str) : V := if named x = true then .str x else lawVal x
theorem figs_not_letter {c : Nat} (h : 48 ≤ c ∧ c ≤ 57) : inS c letters = false := by
  rw [inS_iff]
  have e : letters.cps.toList = [97, 98, 99, 100, 101, 102, 103, 104, 105, 106, 107, 108, 109, 110, 111, 112, 113, 114, 115, 116, 117, 118, 119, 120, 121, 122] := by decide +kernel
  rw [e]
  refine decide_eq_false fun z => ?_
  simp at z
  omega
theorem inS_fig {c : Nat} (h : 48 ≤ c ∧ c ≤ 57) : inS c figs = true := by
  have : c = 48 ∨ c = 49 ∨ c = 50 ∨ c = 51 ∨ c = 52 ∨ c = 53 ∨ c = 54 ∨ c = 55 ∨ c = 56 ∨ c = 57 := by omega
  rcases this with e | e | e | e | e | e | e | e | e | e <;> subst e <;> decide +kernel
theorem named_all {x : Str} (h : named x = true) : allIn x letters = true ∧ 0 < x.length ∧ x.length ≤ 8 ∧ isTaken x = false := by
  unfold named within at h
  simp only [Bool.and_eq_true, decide_eq_true_eq, Bool.not_eq_true'] at h
  obtain ⟨h1, ⟨h2, h3⟩, h4⟩ := h
  exact ⟨h2, by omega, by omega, h4⟩
theorem letter_of {c : Nat} (h : inS c letters = true) : 97 ≤ c ∧ c ≤ 122 := by
  rw [inS_iff] at h
  have h : c ∈ letters.cps.toList := of_decide_eq_true h
  have e : letters.cps.toList = [97, 98, 99, 100, 101, 102, 103, 104, 105, 106, 107, 108, 109, 110, 111, 112, 113, 114, 115, 116, 117, 118, 119, 120, 121, 122] := by decide +kernel
  rw [e] at h
  simp at h
  omega
theorem letter_in {c : Nat} (h : 97 ≤ c ∧ c ≤ 122) : inS c letters = true := by
  rw [inS_iff]
  have e : letters.cps.toList = [97, 98, 99, 100, 101, 102, 103, 104, 105, 106, 107, 108, 109, 110, 111, 112, 113, 114, 115, 116, 117, 118, 119, 120, 121, 122] := by decide +kernel
  rw [e]
  refine decide_eq_true ?_
  simp
  omega
theorem atom_back {a : V} (h : GoodA a) : atomF (txt a) = a := by
  rcases h with ⟨x, rfl, hx⟩ | ⟨i, rfl, h0, h1⟩
  · show atomF x = _
    unfold atomF
    rw [if_pos hx]
  · show atomF ((toString i : String) : Str) = _
    obtain ⟨cs, e, hd, hv, hl, hp, hk⟩ := text_ex h0
    generalize ((toString i : String) : Str) = w at e
    have hlen : w.length = cs.length := by rw [← len_cps, e]
    have hlt : cs.length ≤ 15 := hk 15 (by decide) (by omega)
    have hn : named w = false := by
      cases hq : named w with
      | false => rfl
      | true =>
        obtain ⟨h2, h3, h4, _⟩ := named_all hq
        cases cs with
        | nil => simp at hp
        | cons c r =>
          have := List.all_eq_true.mp h2 c (by rw [e]; simp)
          rw [figs_not_letter (hd c (by simp))] at this
          cases this
    have hall : allIn w figs = true := List.all_eq_true.mpr fun c hc => inS_fig (hd c (by rw [← e]; exact hc))
    unfold atomF
    rw [hn, if_neg (by simp)]
    unfold lawVal
    have ht : total w = i := by rw [total_digits hall, e]; exact hv
    have hw : within w figs = true := by unfold within; rw [hall]; simp; omega
    have hz : ¬ (1 < w.length ∧ first w = some 48) := by
      rintro ⟨z1, z2⟩
      unfold first at z2
      rw [e] at z2
      rcases hl with hl | ⟨c, r, rfl, hc⟩
      · omega
      · simp at z2
        omega
    rw [if_pos ⟨hw, hz, by rw [ht]; exact h1⟩, ht]
end K14

set_option Elab.async false
set_option linter.all false
set_option maxRecDepth 100000
set_option maxHeartbeats 4000000
namespace K14
open PySem PySem.NumText L2 K11
def signs : List Str := ["+", "-", "*", "/", "<", "=", "&", "|", "^"]
def isSign (w : Str) : Bool := inV (.str w) (signs.map V.str)
def partV (w p : Str) : V := if inV (.str p) [.str "A", .str "B"] = true then atomF w else if decide (V.str p = V.str "S") = true then (if isSign w = true then .str w else .non) else if named w = true then .str w else .non
abbrev Out := Str × List V × Option (List V)
inductive Rw where
  | copy (x : Str) (a : V)
  | op (x s : Str) (a b : V)
  | new (x : Str)
  | get (x : Str) (a : V) (f : Str)
  | put (a : V) (f : Str) (b : V)
  | call (x g : Str) (as : List V)
  | one (k : Str) (a : V)
  | bare (k : Str)
def Rw.dat : Rw → Out
  | .copy x a => ("copy", [.str x, a], none)
  | .op x s a b => ("op", [.str x, .str s, a, b], none)
  | .new x => ("new", [.str x], none)
  | .get x a f => ("get", [.str x, a, .str f], none)
  | .put a f b => ("put", [a, .str f, b], none)
  | .call x g as => ("call", [.str x, .str g], some as)
  | .one k a => (k, [a], none)
  | .bare k => (k, [], none)
theorem pG (w : Str) : partV w "G" = if named w = true then .str w else .non := by unfold partV; rw [if_neg (by decide +kernel), if_neg (by decide +kernel)]
theorem pA (w : Str) : partV w "A" = atomF w := by unfold partV; rw [if_pos (by decide +kernel)]
theorem pB (w : Str) : partV w "B" = atomF w := by unfold partV; rw [if_pos (by decide +kernel)]
theorem pS (w : Str) : partV w "S" = if isSign w = true then .str w else .non := by unfold partV; rw [if_neg (by decide +kernel), if_pos (by decide +kernel)]
theorem u1 : Txt.isupper "=" = false := by decide +kernel
theorem u2 : Txt.isupper "new" = false := by decide +kernel
theorem u3 : Txt.isupper "get" = false := by decide +kernel
theorem u7 : Txt.isupper "back" = false := by decide +kernel
theorem u9 : Txt.isupper "while" = false := by decide +kernel
theorem n1 : named "new" = false := by decide +kernel
theorem n2 : named "get" = false := by decide +kernel
theorem n3 : named "put" = false := by decide +kernel
theorem n4 : named "call" = false := by decide +kernel
theorem a1 : atomF "new" = .non := by unfold atomF; rw [n1]; decide +kernel
theorem a2 : atomF "get" = .non := by unfold atomF; rw [n2]; decide +kernel
theorem a4 : atomF "call" = .non := by unfold atomF; rw [n4]; decide +kernel
theorem sg {x : Str} (h : named x = true) : partV x "G" = .str x := by rw [pG, if_pos h]
theorem sa {a : V} (h : GoodA a) : partV (txt a) "A" = a := by rw [pA, atom_back h]
theorem sb {a : V} (h : GoodA a) : partV (txt a) "B" = a := by rw [pB, atom_back h]
theorem sgn {s : Str} (h : s ∈ signs) : isSign s = true := by
  simp only [signs, List.mem_cons, List.not_mem_nil, or_false] at h
  rcases h with rfl | rfl | rfl | rfl | rfl | rfl | rfl | rfl | rfl <;> decide +kernel
theorem ss {s : Str} (h : s ∈ signs) : partV s "S" = .str s := by rw [pS, if_pos (sgn h)]
structure Fd where
  name : Str
  folded : Bool
  params : List Str
  rows : List Rw
def Fd.head (f : Fd) : List Str := (if f.folded then "in" else "fn") :: f.name :: f.params
def nl : Str := "\n"
end K14

set_option Elab.async false
set_option linter.all false
set_option maxRecDepth 100000
set_option maxHeartbeats 4000000
namespace K14
open PySem PyProof.Rows L2 K11

def All2 {α : Type} (P : V → α → Prop) (vs : List V) (xs : List α) : Prop := vs.length = xs.length ∧ ∀ (i : Nat) v x, vs[i]? = some v → xs[i]? = some x → P v x
theorem All2.nil {α : Type} {P : V → α → Prop} : All2 P [] [] := ⟨rfl, fun i v x h _ => by simp at h⟩
theorem All2.snoc {α : Type} {P : V → α → Prop} {vs : List V} {xs : List α} {v : V} {x : α} (h : All2 P vs xs) (hv : P v x) : All2 P (vs ++ [v]) (xs ++ [x]) := by
  refine ⟨by simp [h.1], fun i u y hu hy => ?_⟩
  by_cases hi : i < vs.length
  · rw [List.getElem?_append_left hi] at hu
    rw [List.getElem?_append_left (by rw [← h.1]; exact hi)] at hy
    exact h.2 i u y hu hy
  · have : i = vs.length := by
      have := (List.getElem?_eq_some_iff.mp hu).1
      simp at this
      omega
    subst this
    rw [List.getElem?_append_right (Nat.le_refl _)] at hu
    rw [h.1, List.getElem?_append_right (Nat.le_refl _)] at hy
    simp at hu hy
    rw [← hu, ← hy]
    exact hv
theorem All2.mono {α : Type} {P Q : V → α → Prop} {vs : List V} {xs : List α} (h : All2 P vs xs) (f : ∀ v x, P v x → Q v x) : All2 Q vs xs := ⟨h.1, fun i v x a b => f v x (h.2 i v x a b)⟩
theorem All2.at {α : Type} {P : V → α → Prop} {vs : List V} {xs : List α} (h : All2 P vs xs) {i : Nat} {v : V} (hv : vs[i]? = some v) : ∃ x, xs[i]? = some x ∧ P v x := by
  have hi : i < xs.length := by rw [← h.1]; exact (List.getElem?_eq_some_iff.mp hv).1
  exact ⟨xs[i], by simp [hi], h.2 i v xs[i] hv (by simp [hi])⟩
theorem All2.map {α β : Type} {P : V → β → Prop} {f : α → β} {vs : List V} {xs : List α} : All2 P vs (xs.map f) ↔ All2 (fun v x => P v (f x)) vs xs := by
  constructor
  · intro h
    exact ⟨by rw [h.1, List.length_map], fun i v x a b => h.2 i v (f x) a (by rw [List.getElem?_map, b]; rfl)⟩
  · intro h
    refine ⟨by rw [h.1, List.length_map], fun i v y a b => ?_⟩
    rw [List.getElem?_map] at b
    cases e : xs[i]? with
    | none => rw [e] at b; cases b
    | some x => rw [e] at b; cases b; exact h.2 i v x a e
def RowV (H : Hp) (v : V) (d : Out) : Prop := ∃ p, v = .ref p ∧ match d.2.2 with
  | none => H p = some (.tup (.str d.1 :: d.2.1))
  | some as => ∃ q, H q = some (.tup as) ∧ H p = some (.tup (.str d.1 :: d.2.1 ++ [.ref q]))
theorem RowV.mono {H H' : Hp} {v : V} {d : Out} (s : Same H H') (h : RowV H v d) : RowV H' v d := by
  obtain ⟨p, rfl, h⟩ := h
  refine ⟨p, rfl, ?_⟩
  obtain ⟨k, vs, e⟩ := d
  cases e with
  | none => exact s _ _ h
  | some as => obtain ⟨q, h1, h2⟩ := h; exact ⟨q, s _ _ h1, s _ _ h2⟩
def FdV (H : Hp) (v : V) (f : Fd) : Prop := ∃ p q r vs, v = .ref p ∧ H p = some (.tup [.str f.name, .bl f.folded, .ref q, .ref r]) ∧ H q = some (.tup (f.params.map V.str)) ∧ H r = some (.tup vs) ∧ All2 (fun v r => RowV H v r.dat) vs f.rows
theorem FdV.mono {H H' : Hp} {v : V} {f : Fd} (s : Same H H') (h : FdV H v f) : FdV H' v f := by
  obtain ⟨p, q, r, vs, rfl, h1, h2, h3, h4⟩ := h
  exact ⟨p, q, r, vs, rfl, s _ _ h1, s _ _ h2, s _ _ h3, h4.mono fun _ _ h => RowV.mono s h⟩
def PrV (H : Hp) (a : Addr) (pd : List Fd) : Prop := ∃ vs, H a = some (.lst vs) ∧ All2 (FdV H) vs pd
theorem PrV.mono {H H' : Hp} {a : Addr} {pd : List Fd} (s : Same H H') (h : PrV H a pd) : PrV H' a pd := by
  obtain ⟨vs, h1, h2⟩ := h
  exact ⟨vs, s _ _ h1, h2.mono fun _ _ h => FdV.mono s h⟩

def Flat2 (x y : V) : Prop := (∃ b, x = .bl b ∧ y = .bl b) ∨ (∃ i, x = .int i ∧ y = .int i) ∨ ∃ s, x = .str s ∧ y = .str s
def Alk (H : Hp) : Nat → V → V → Prop
  | 0, x, y => Flat2 x y
  | n + 1, x, y => Flat2 x y ∨ ∃ a b xs ys, x = .ref a ∧ y = .ref b ∧ ((H a = some (.tup xs) ∧ H b = some (.tup ys)) ∨ (H a = some (.lst xs) ∧ H b = some (.lst ys))) ∧ xs.length = ys.length ∧ xs.length ≤ 1000 ∧ ∀ (i : Nat) u v, xs[i]? = some u → ys[i]? = some v → Alk H n u v
theorem Alk.mono {H H' : Hp} (s : Same H H') : ∀ {n : Nat} {x y : V}, Alk H n x y → Alk H' n x y
  | 0, _, _, h => h
  | n + 1, x, y, h => by
    rcases h with h | ⟨a, b, xs, ys, rfl, rfl, h1, h2, hk, h3⟩
    · exact .inl h
    · exact .inr ⟨a, b, xs, ys, rfl, rfl, h1.imp (fun ⟨p, q⟩ => ⟨s _ _ p, s _ _ q⟩) (fun ⟨p, q⟩ => ⟨s _ _ p, s _ _ q⟩), h2, hk, fun i u v hu hv => Alk.mono s (h3 i u v hu hv)⟩
def flatA (v : V) : Bool := match v with | .int _ => true | .str _ => true | _ => false
def OutOk (d : Out) : Prop := (∀ x ∈ d.2.1, flatA x = true) ∧ d.2.1.length ≤ 10 ∧ ∀ as, d.2.2 = some as → as.length ≤ 6 ∧ ∀ x ∈ as, flatA x = true
abbrev Ent := List Str × List Out
def EntV (H : Hp) (v : V) (e : Ent) : Prop := ∃ t w r vs, v = .ref t ∧ H t = some (.tup [.ref w, .ref r]) ∧ H w = some (.lst (e.1.map V.str)) ∧ H r = some (.lst vs) ∧ All2 (RowV H) vs e.2
theorem EntV.mono {H H' : Hp} {v : V} {e : Ent} (s : Same H H') (h : EntV H v e) : EntV H' v e := by
  obtain ⟨t, w, r, vs, rfl, h1, h2, h3, h4⟩ := h
  exact ⟨t, w, r, vs, rfl, s _ _ h1, s _ _ h2, s _ _ h3, h4.mono fun _ _ h => RowV.mono s h⟩

end K14

set_option Elab.async false
set_option linter.all false
set_option maxRecDepth 100000
set_option maxHeartbeats 4000000
namespace K14
open PySem PyProof.Rows L2 K11

theorem tup_ne {H : Hp} {a b : Addr} {xs ys : List V} (h1 : H a = some (.tup xs)) (h2 : H b = some (.lst ys)) : a ≠ b := fun z => by rw [z, h2] at h1; cases h1
def Kept (H H' : Hp) (r : Addr) : Prop := ∀ b o, H b = some o → b ≠ r → H' b = some o
theorem RowV.kept {H H' : Hp} {r : Addr} {ys : List V} {v : V} {d : Out} (k : Kept H H' r) (hr : H r = some (.lst ys)) (h : RowV H v d) : RowV H' v d := by
  obtain ⟨p, rfl, h⟩ := h
  refine ⟨p, rfl, ?_⟩
  obtain ⟨kd, vs, e⟩ := d
  cases e with
  | none => exact k _ _ h (tup_ne h hr)
  | some as => obtain ⟨q, h1, h2⟩ := h; exact ⟨q, k _ _ h1 (tup_ne h1 hr), k _ _ h2 (tup_ne h2 hr)⟩
theorem FdV.kept {H H' : Hp} {r : Addr} {ys : List V} {v : V} {f : Fd} (k : Kept H H' r) (hr : H r = some (.lst ys)) (h : FdV H v f) : FdV H' v f := by
  obtain ⟨p, q, s, vs, rfl, h1, h2, h3, h4⟩ := h
  exact ⟨p, q, s, vs, rfl, k _ _ h1 (tup_ne h1 hr), k _ _ h2 (tup_ne h2 hr), k _ _ h3 (tup_ne h3 hr), h4.mono fun _ _ h => RowV.kept k hr h⟩

theorem call_at (r : Rw) (as : List V) (h : r.dat.2.2 = some as) (q : Addr) : atI (.str r.dat.1 :: r.dat.2.1 ++ [.ref q]) 3 = some (.ref q) := by
  cases r with
  | call x g as => exact atI_nat (j := 3) rfl
  | _ => cases h
end K14

set_option Elab.async false
set_option linter.all false
set_option maxRecDepth 100000
set_option maxHeartbeats 4000000
namespace K14
open PySem PyProof.Rows L2 K11 Gx

def Lets (cs : List Nat) : Prop := ∀ c ∈ cs, 97 ≤ c ∧ c ≤ 122
theorem let_at {z : Int} (h0 : 0 ≤ z) (h1 : z < 26) : atI ("abcdefghijklmnopqrstuvwxyz" : Str).cps.toList z = some (97 + z.toNat) := by
  obtain ⟨n, rfl⟩ := Int.eq_ofNat_of_zero_le h0
  have g : ∀ n < 26, ("abcdefghijklmnopqrstuvwxyz" : Str).cps.toList[n]? = some (97 + n) := by decide +kernel
  exact atI_nat (g n (by omega))
theorem taken_iff (s : Str) : inV (.str s) (taken.map V.str) = decide (s ∈ taken) := by
  unfold inV
  rw [List.any_map, Bool.eq_iff_iff, List.any_eq_true, decide_eq_true_eq]
  constructor
  · rintro ⟨x, hx, h⟩
    have h : (x == s) = true := h
    rw [beq_iff_eq] at h
    exact h ▸ hx
  · intro h
    exact ⟨s, h, by show (s == s) = true; simp⟩
theorem named_tx {cs : List Nat} (h : Lets cs) (h1 : 1 ≤ cs.length) (h8 : cs.length ≤ 8) (ht : inV (.str (tx cs)) (taken.map V.str) = false) : named (tx cs) = true := by
  have ha : allIn (tx cs) letters = true := List.all_eq_true.mpr fun c hc => letter_in (h c (by rwa [tx_cps] at hc))
  unfold named within isTaken
  rw [ht, ha, tx_len]
  simp
  omega
theorem named_z {cs : List Nat} (h : inV (.str (tx cs)) (taken.map V.str) = true) : named (tx cs ++ "z") = true := by
  rw [taken_iff, decide_eq_true_eq] at h
  have g : ∀ w ∈ taken, named (w ++ "z") = true := by decide +kernel
  exact g _ h
theorem flat_one : ∀ l : List Nat, (l.map fun c => [c]).flatten = l
  | [] => rfl
  | x :: l => by rw [List.map_cons, List.flatten_cons, flat_one l]; rfl
theorem one_fit {cs : List Nat} (h : cs.length ≤ 8) : ((cs.map fun c => tx [c]).map (·.length)).sum + (cs.map fun c => tx [c]).length * ("" : Str).length ≤ 16777216 := by
  have h2 := sum_le (ws := cs.map fun c => tx [c]) (n := 1) fun w hw => by
    obtain ⟨c, _, rfl⟩ := List.mem_map.mp hw
    rw [tx_len]
    exact Nat.le_refl _
  have e : ("" : Str).length = 0 := by decide +kernel
  rw [e]
  rw [List.length_map] at h2 ⊢
  omega
theorem one_join (cs : List Nat) : PySem.Txt.join "" (cs.map fun c => tx [c]) = tx cs := by
  have := tx_join (cs.map fun c => [c])
  rw [flat_one, List.map_map] at this
  exact this
theorem lets_set {cs : List Nat} {i c : Nat} (h : Lets cs) (hc : 97 ≤ c ∧ c ≤ 122) : Lets (cs.set i c) := fun d hd => by
  rcases List.mem_or_eq_of_mem_set hd with hd | rfl
  · exact h d hd
  · exact hc
theorem lets_snoc {cs : List Nat} {c : Nat} (h : Lets cs) (hc : 97 ≤ c ∧ c ≤ 122) : Lets (cs ++ [c]) := fun d hd => by
  rcases List.mem_append.mp hd with hd | hd
  · exact h d hd
  · rw [List.mem_singleton.mp hd]
    exact hc
theorem strs_set (cs : List Nat) (i c : Nat) : (cs.map fun c => V.str (tx [c])).set i (V.str (tx [c])) = ((cs.set i c).map fun c => tx [c]).map V.str := by
  rw [List.map_map]
  exact List.map_set.symm
theorem All2.cons {α : Type} {P : V → α → Prop} {vs : List V} {xs : List α} {v : V} {x : α} (hv : P v x) (h : All2 P vs xs) : All2 P (v :: vs) (x :: xs) := by
  refine ⟨by simp [h.1], fun i u y hu hy => ?_⟩
  cases i with
  | zero => cases hu; cases hy; exact hv
  | succ i => exact h.2 i u y hu hy
theorem All2.right {α : Type} {P : V → α → Prop} {vs : List V} {xs : List α} {C : α → Prop} (h : All2 P vs xs) (f : ∀ v x, P v x → C x) : ∀ x ∈ xs, C x := fun x hx => by
  obtain ⟨i, hi, rfl⟩ := List.mem_iff_getElem.mp hx
  have hi2 : i < vs.length := by rw [h.1]; exact hi
  have hv : vs[i]? = some vs[i] := List.getElem?_eq_getElem hi2
  exact f _ _ (h.2 i _ _ hv (List.getElem?_eq_getElem hi))
theorem All2.eq {α : Type} {g : α → V} : ∀ {vs : List V} {xs : List α}, All2 (fun v x => v = g x) vs xs → vs = xs.map g
  | [], [], _ => rfl
  | [], x :: xs, h => by have := h.1; simp at this
  | v :: vs, [], h => by have := h.1; simp at this
  | v :: vs, x :: xs, h => by
    have h0 := h.2 0 v x rfl rfl
    have h1 : All2 (fun v x => v = g x) vs xs := ⟨by simpa using h.1, fun i u y hu hy => h.2 (i + 1) u y hu hy⟩
    rw [List.map_cons, ← All2.eq h1, h0]
end K14

set_option Elab.async false
set_option linter.all false
set_option maxRecDepth 100000
set_option maxHeartbeats 4000000
namespace Lk
open PySem L2

inductive Out where
  | non | twice (w : Str) | nest (f : Str) (k : Nat) | call (f : Str) (k : Nat)
structure Rw where
  kind : Str
  rest : List PyData
def Rw.D (r : Rw) : PyData := .tuple (.str r.kind :: r.rest)
def Rw.fn (r : Rw) : Str := match r.rest with
  | [_, .str f, _] => f
  | _ => ""
def Rw.n (r : Rw) : Nat := match r.rest with
  | [_, _, .tuple as] => as.length
  | _ => 0
def Rw.Ok (r : Rw) : Prop := r.kind = "call" → ∃ x f as, r.rest = [x, .str f, .tuple as]
structure Fn where
  name : Str
  folded : Bool
  ps : List Str
  rows : List Rw
def Fn.D (f : Fn) : PyData := .tuple [.str f.name, .bool f.folded, .tuple (f.ps.map .str), .tuple (f.rows.map Rw.D)]

def tw (ns : List Str) : Option Str := ((List.range ns.length).find? fun i => (ns.take i).contains (ns.getD i "")).map fun i => ns.getD i ""
def stp (k : Str) (st : List Str) : Option (List Str) :=
  if k = "if" ∨ k = "while" then some (st ++ [k]) else if k = "end" then (if st = [] then none else some st.dropLast) else if k = "else" then (if st.getLast? = some ("if" : Str) then some (st.dropLast ++ [("else" : Str)]) else none) else some st
def stk (ks : List Str) : Nat → Option (List Str)
  | 0 => some []
  | i + 1 => (stk ks i).bind fun st => match ks[i]? with
    | some k => stp k st
    | none => some st
def nst (ks : List Str) : Option Nat := match (List.range ks.length).find? fun i => (stk ks (i + 1)).isNone with
  | some i => some i
  | none => if stk ks ks.length = some [] ∧ ks.getLast? = some ("back" : Str) then none else some ks.length
def cnt (fs : List Fn) (f : Str) : Option Nat := (fs.find? fun g => g.name == f).map (·.ps.length)
def bad (fs : List Fn) (r : Rw) : Bool := r.kind == "call" && cnt fs r.fn != some r.n
def cll (fs : List Fn) (rs : List Rw) : Option Nat := (List.range rs.length).find? fun i => (rs[i]?.map (bad fs)).getD false
def fnM (fs : List Fn) (f : Fn) : Option Out := match tw f.ps with
  | some w => some (.twice w)
  | none => match nst (f.rows.map (·.kind)) with
    | some k => some (.nest f.name k)
    | none => (cll fs f.rows).map (.call f.name)
def lookM (fs : List Fn) : Option Out := if fs = [] then some .non else match tw (fs.map (·.name)) with
  | some w => some (.twice w)
  | none => fs.findSome? (fnM fs)
theorem rfind {n i : Nat} {p : Nat → Bool} (hi : i < n) (hp : p i = true) (ha : ∀ j, j < i → p j = false) : (List.range n).find? p = some i := by
  rw [List.find?_range_eq_some]
  exact ⟨hp, List.mem_range.mpr hi, fun j hj => by rw [ha j hj]; rfl⟩
theorem rfind0 {n : Nat} {p : Nat → Bool} (ha : ∀ j, j < n → p j = false) : (List.range n).find? p = none := by
  rw [List.find?_eq_none]
  intro j hj
  rw [ha j (List.mem_range.mp hj)]
  exact Bool.false_ne_true
theorem getD_of {ns : List Str} {i : Nat} {x : Str} (h : ns[i]? = some x) : ns.getD i "" = x := by rw [List.getD_eq_getElem?_getD, h]; rfl
theorem tw_some {ns : List Str} {i : Nat} {x : Str} (h : ns[i]? = some x) (hm : x ∈ ns.take i) (ha : ∀ j y, j < i → ns[j]? = some y → y ∉ ns.take j) : tw ns = some x := by
  have hi := (List.getElem?_eq_some_iff.mp h).1
  unfold tw
  rw [rfind (i := i) hi (by rw [getD_of h]; exact List.contains_iff_mem.mpr hm) fun j hj => ?_]
  · show some (ns.getD i "") = _
    rw [getD_of h]
  · have e : ns[j]? = some ns[j] := List.getElem?_eq_getElem (by omega)
    rw [getD_of e]
    exact Bool.eq_false_iff.mpr fun z => ha j _ hj e (List.contains_iff_mem.mp z)
theorem tw_none {ns : List Str} (ha : ∀ j y, ns[j]? = some y → y ∉ ns.take j) : tw ns = none := by
  unfold tw
  rw [rfind0 fun j hj => ?_]
  · rfl
  · have e : ns[j]? = some ns[j] := List.getElem?_eq_getElem hj
    rw [getD_of e]
    exact Bool.eq_false_iff.mpr fun z => ha j _ e (List.contains_iff_mem.mp z)
theorem stk_less {ks : List Str} : ∀ {i j : Nat} {st : List Str}, stk ks i = some st → j ≤ i → ∃ s', stk ks j = some s'
  | 0, j, st, h, hj => by obtain rfl : j = 0 := by omega
                          exact ⟨_, h⟩
  | i + 1, j, st, h, hj => by
    by_cases e : j = i + 1
    · subst e; exact ⟨_, h⟩
    · obtain ⟨s', h1, _⟩ := Option.bind_eq_some_iff.mp h
      exact stk_less h1 (by omega)
theorem stk_step {ks : List Str} {i : Nat} {st : List Str} {k : Str} (h : stk ks i = some st) (hk : ks[i]? = some k) : stk ks (i + 1) = stp k st := by
  show (stk ks i).bind _ = _
  rw [h, Option.bind_some, hk]
theorem nst_at {ks : List Str} {i : Nat} {st : List Str} {k : Str} (h : stk ks i = some st) (hk : ks[i]? = some k) (hf : stp k st = none) : nst ks = some i := by
  have hi := (List.getElem?_eq_some_iff.mp hk).1
  unfold nst
  rw [rfind (i := i) hi (by rw [stk_step h hk, hf]; rfl) fun j hj => ?_]
  obtain ⟨s', e⟩ := stk_less h (show j + 1 ≤ i by omega)
  rw [e]; rfl
theorem nst_end {ks : List Str} {st : List Str} (h : stk ks ks.length = some st) : nst ks = if st = [] ∧ ks.getLast? = some ("back" : Str) then none else some ks.length := by
  unfold nst
  rw [rfind0 fun j hj => ?_]
  · rw [h]
    by_cases z : st = []
    · subst z; simp
    · have z' : ¬ (some st = some [] ∧ ks.getLast? = some ("back" : Str)) := fun q => z (Option.some.inj q.1)
      have z2 : ¬ (st = [] ∧ ks.getLast? = some ("back" : Str)) := fun q => z q.1
      rw [if_neg z2]
      show (if some st = some [] ∧ ks.getLast? = some ("back" : Str) then none else some ks.length) = some ks.length
      rw [if_neg z']
  · obtain ⟨s', e⟩ := stk_less h (show j + 1 ≤ ks.length by omega)
    rw [e]; rfl
theorem cll_at {fs : List Fn} {rs : List Rw} {i : Nat} {r : Rw} (h : rs[i]? = some r) (hb : bad fs r = true) (ha : ∀ j q, j < i → rs[j]? = some q → bad fs q = false) : cll fs rs = some i := by
  have hi := (List.getElem?_eq_some_iff.mp h).1
  refine rfind hi (by rw [h]; exact hb) fun j hj => ?_
  have e : rs[j]? = some rs[j] := List.getElem?_eq_getElem (by omega)
  rw [e]; exact ha j _ hj e
theorem cll_none {fs : List Fn} {rs : List Rw} (ha : ∀ (j : Nat) q, rs[j]? = some q → bad fs q = false) : cll fs rs = none := by
  refine rfind0 fun j hj => ?_
  have e : rs[j]? = some rs[j] := List.getElem?_eq_getElem hj
  rw [e]; exact ha j _ e
theorem find_at {fs : List Fn} {p : Fn → Option Out} {i : Nat} {f : Fn} {o : Out} (h : fs[i]? = some f) (ho : p f = some o) (ha : ∀ j g, j < i → fs[j]? = some g → p g = none) : fs.findSome? p = some o := by
  induction fs generalizing i with
  | nil => simp at h
  | cons g r ih =>
    rw [List.findSome?_cons]
    cases i with
    | zero => simp at h; subst h; rw [ho]
    | succ i =>
      rw [ha 0 g (by omega) (by simp)]
      exact ih (i := i) (by simpa using h) fun j q hj e => ha (j + 1) q (by omega) (by simpa using e)
theorem find_none {fs : List Fn} {p : Fn → Option Out} (ha : ∀ g ∈ fs, p g = none) : fs.findSome? p = none := List.findSome?_eq_none_iff.mpr ha
def tru (l : List Str) : List (Key × V) := l.map fun n => (.inr n, .bl true)
theorem tru_len (l : List Str) : (tru l).length = l.length := List.length_map _
theorem tru_val (e : Str) : ∀ l : List Str, (valV (tru l) (.inr e)).isSome = decide (e ∈ l)
  | [] => by simp [tru, valV]
  | x :: r => by
    have ih := tru_val e r
    by_cases h : x = e
    · subst h
      rw [show tru (x :: r) = (.inr x, .bl true) :: tru r from rfl, valV_pos rfl]
      simp
    · rw [show tru (x :: r) = (.inr x, .bl true) :: tru r from rfl, valV_neg (fun z => h (Sum.inr.inj z)), ih, Bool.eq_iff_iff]
      simp [Ne.symm h, eq_comm]
theorem tru_put {l : List Str} {e : Str} (h : e ∉ l) : putK (tru l) (.inr e) (.bl true) = tru (l ++ [e]) := by
  rw [putK_new _ (by have := tru_val e l; rw [decide_eq_false h] at this; exact Option.isNone_iff_eq_none.mp (by simpa using this))]
  unfold tru
  rw [List.map_append]
  rfl
theorem take_snoc {α : Type} {l : List α} {i : Nat} {x : α} (h : l[i]? = some x) : l.take (i + 1) = l.take i ++ [x] := by
  obtain ⟨hi, e⟩ := List.getElem?_eq_some_iff.mp h
  rw [List.take_succ, h]; rfl
theorem lt_1000 {n : Nat} (h : n ≤ 1000) : n < sizeLine := Nat.lt_of_le_of_lt h (by decide)
theorem dat_at {K : PySem.W.Frag} {H : Hp} {α : Type} {D : α → PyData} : ∀ {l : List α} {xs : List V} {i : Nat} {x : V}, DatAll K H (l.map D) xs → xs[i]? = some x → ∃ a, l[i]? = some a ∧ DatV K H (D a) x
  | [], xs, i, x, h, e => by unfold DatAll at h; subst h; simp at e
  | a :: r, xs, i, x, h, e => by
    obtain ⟨y, ys, rfl, h1, h2⟩ := (show ∃ x r', xs = x :: r' ∧ DatV K H (D a) x ∧ DatAll K H (r.map D) r' by unfold DatAll at h; exact h)
    cases i with
    | zero => simp at e; subst e; exact ⟨a, rfl, h1⟩
    | succ i => obtain ⟨c, q1, q2⟩ := dat_at (i := i) h2 (by simpa using e); exact ⟨c, by simpa using q1, q2⟩
theorem dat_len {K : PySem.W.Frag} {H : Hp} {α : Type} {D : α → PyData} : ∀ {l : List α} {xs : List V}, DatAll K H (l.map D) xs → xs.length = l.length
  | [], xs, h => by unfold DatAll at h; subst h; rfl
  | a :: r, xs, h => by
    obtain ⟨y, ys, rfl, h1, h2⟩ := (show ∃ x r', xs = x :: r' ∧ DatV K H (D a) x ∧ DatAll K H (r.map D) r' by unfold DatAll at h; exact h)
    rw [List.length_cons, List.length_cons, dat_len h2]
theorem row_at {K : PySem.W.Frag} {H : Hp} {r : Rw} {x : V} (h : DatV K H r.D x) : ∃ b ys, x = .ref b ∧ SqT K H b (.str r.kind :: ys) ∧ DatAll K H r.rest ys := by
  unfold Rw.D DatV at h
  obtain ⟨b, xs, rfl, h1, h2⟩ := h
  unfold DatAll at h2
  obtain ⟨y, ys, rfl, h3, h4⟩ := h2
  unfold DatV at h3
  subst h3
  exact ⟨b, ys, rfl, h1, h4⟩
theorem tup_at {K : PySem.W.Frag} {H : Hp} {ds : List PyData} {v : V} (h : DatV K H (.tuple ds) v) : ∃ a xs, v = .ref a ∧ SqT K H a xs ∧ DatAll K H ds xs := by unfold DatV at h; exact h
theorem in2 (k a b : Str) : (if false = true then !inV (.str k) [.str a, .str b] else inV (.str k) [.str a, .str b]) = decide (k = a ∨ k = b) := by
  rw [if_neg Bool.false_ne_true, Bool.eq_iff_iff]
  have e : ∀ a : Str, eqV (.str a) (.str k) = true ↔ k = a := fun a => by
    show (PyData.eqv (.str a) (.str k)) = true ↔ _
    constructor
    · intro h; first | exact (beq_iff_eq.mp h).symm | exact (of_decide_eq_true h).symm
    · intro h; subst h; first | exact beq_self_eq_true _ | exact decide_eq_true rfl
  simp [inV, e]
theorem last_at {st : List Str} {x : Str} (h : st.getLast? = some x) : atI (st.map V.str) (-1) = some (.str x) := by
  have hne : st ≠ [] := fun z => by rw [z] at h; cases h
  have hl : 0 < st.length := List.length_pos_iff.mpr hne
  unfold atI ixN
  rw [if_neg (by decide), List.length_map, if_pos (by omega), Option.bind_some, List.getElem?_map]
  have e : ((-1 : Int) + (st.length : Int)).toNat = st.length - 1 := by omega
  rw [e, ← List.getLast?_eq_getElem?, h]
  rfl
theorem ix_last {n : Nat} (h : 0 < n) : ixN n (-1) = some (n - 1) := by
  unfold ixN
  rw [if_neg (by decide), if_pos (by omega)]
  congr 1
  omega
theorem set_last {st : List Str} (h : st ≠ []) (x : Str) : (st.map V.str).set (st.length - 1) (.str x) = (st.dropLast ++ [x]).map V.str := by
  obtain ⟨r, y, rfl⟩ : ∃ r y, st = r ++ [y] := ⟨st.dropLast, st.getLast h, (List.dropLast_concat_getLast h).symm⟩
  simp
theorem last_some {st : List Str} (h : st ≠ []) : ∃ x, st.getLast? = some x := ⟨_, List.getLast?_eq_some_getLast h⟩
theorem stp_o {k : Str} {st : List Str} (h : k = "if" ∨ k = "while") : stp k st = some (st ++ [k]) := by unfold stp; rw [if_pos h]
theorem stp_e {st : List Str} : stp "end" st = if st = [] then none else some st.dropLast := by
  unfold stp; rw [if_neg (by decide +kernel), if_pos rfl]
theorem stp_l {st : List Str} : stp "else" st = if st.getLast? = some ("if" : Str) then some (st.dropLast ++ [("else" : Str)]) else none := by
  unfold stp; rw [if_neg (by decide +kernel), if_neg (by decide +kernel), if_pos rfl]
theorem stp_n {k : Str} {st : List Str} (h : ¬ (k = "if" ∨ k = "while")) (h1 : k ≠ "end") (h2 : k ≠ "else") : stp k st = some st := by unfold stp; rw [if_neg h, if_neg h1, if_neg h2]
theorem last_atV {xs : List V} {x : V} (h : xs[xs.length - 1]? = some x) : atI xs (-1) = some x := by
  have hl : 0 < xs.length := by
    have := (List.getElem?_eq_some_iff.mp h).1
    omega
  unfold atI ixN
  rw [if_neg (by decide), if_pos (by omega), Option.bind_some]
  have e : ((-1 : Int) + (xs.length : Int)).toNat = xs.length - 1 := by omega
  rw [e, h]
theorem call_at {K : PySem.W.Frag} {H : Hp} {x : PyData} {f : Str} {as : List PyData} {ys : List V} (h : DatAll K H [x, .str f, .tuple as] ys) : ∃ v b zs, ys = [v, .str f, .ref b] ∧ SqT K H b zs ∧ zs.length = as.length := by
  unfold DatAll at h
  obtain ⟨v, r1, rfl, _, h⟩ := h
  unfold DatAll at h
  obtain ⟨v2, r2, rfl, h2, h⟩ := h
  unfold DatV at h2
  subst h2
  unfold DatAll at h
  obtain ⟨v3, r3, rfl, h3, h⟩ := h
  unfold DatAll at h
  subst h
  unfold DatV at h3
  obtain ⟨b, zs, rfl, h4, h5⟩ := h3
  exact ⟨v, b, zs, rfl, h4, by have := dat_len (D := id) (l := as) (by simpa using h5); exact this⟩
theorem atN {xs : List V} {i : Nat} {x : V} (h : xs[i]? = some x) : atI xs (i : Nat) = some x := by
  have hi := (List.getElem?_eq_some_iff.mp h).1
  unfold atI ixN
  rw [if_pos (by omega), if_pos (by omega), Option.bind_some, Int.toNat_natCast, h]
theorem fn_at {K : PySem.W.Frag} {H : Hp} {f : Fn} {x : V} (h : DatV K H f.D x) : ∃ b pa ra ps' rs', x = .ref b ∧ SqT K H b [.str f.name, .bl f.folded, .ref pa, .ref ra] ∧ SqT K H pa (f.ps.map V.str) ∧ SqT K H ra rs' ∧ DatAll K H (f.rows.map Rw.D) rs' ∧ ps' = (0 : Nat) := by
  unfold Fn.D DatV at h
  obtain ⟨b, xs, rfl, h1, h⟩ := h
  unfold DatAll at h
  obtain ⟨v1, r1, rfl, e1, h⟩ := h
  unfold DatAll at h
  obtain ⟨v2, r2, rfl, e2, h⟩ := h
  unfold DatAll at h
  obtain ⟨v3, r3, rfl, e3, h⟩ := h
  unfold DatAll at h
  obtain ⟨v4, r4, rfl, e4, h⟩ := h
  unfold DatAll at h
  subst h
  unfold DatV at e1 e2 e3 e4
  subst e1 e2
  obtain ⟨pa, ps', rfl, p1, p2⟩ := e3
  obtain ⟨ra, rs', rfl, q1, q2⟩ := e4
  have hp : ps' = f.ps.map V.str := by
    clear p1 h1 q1 q2
    generalize f.ps = l at p2
    induction l generalizing ps' with
    | nil => unfold DatAll at p2; exact p2
    | cons a r ih =>
      obtain ⟨y, ys, rfl, h1, h2⟩ := (show ∃ x r', ps' = x :: r' ∧ DatV K H (.str a) x ∧ DatAll K H (r.map .str) r' by unfold DatAll at p2; exact p2)
      unfold DatV at h1
      subst h1
      rw [ih _ h2]; rfl
  subst hp
  exact ⟨b, pa, ra, 0, rs', rfl, h1, p1, q1, q2, rfl⟩

def cntL (fs : List Fn) : List (Key × V) := fs.map fun f => (.inr f.name, .int (f.ps.length : Nat))
theorem cnt_fold {fs : List Fn} (hnd : (fs.map (·.name)).Nodup) (f : Str) : valV ((cntL fs).foldl (fun acc kv => putK acc kv.1 kv.2) []) (.inr f) = (cnt fs f).map fun n => V.int (n : Nat) := by
  have gen : ∀ (l : List Fn) (acc : List (Key × V)), (l.map (·.name)).Nodup → valV ((cntL l).foldl (fun acc kv => putK acc kv.1 kv.2) acc) (.inr f) = match cnt l f with
      | some n => some (V.int (n : Nat))
      | none => valV acc (.inr f) := by
    intro l
    induction l with
    | nil => intro acc _; rfl
    | cons g r ih =>
      intro acc nd
      obtain ⟨n1, n2⟩ := List.nodup_cons.mp nd
      show valV ((cntL r).foldl _ (putK acc (.inr g.name) (.int (g.ps.length : Nat)))) (.inr f) = _
      rw [ih _ n2, valV_put]
      by_cases z : g.name = f
      · subst z
        have hr : cnt r g.name = none := by
          unfold cnt
          rw [List.find?_eq_none.mpr fun q hq e => n1 (List.mem_map.mpr ⟨q, hq, beq_iff_eq.mp e⟩)]
          rfl
        have hg : cnt (g :: r) g.name = some g.ps.length := by unfold cnt; rw [List.find?_cons, beq_self_eq_true]; rfl
        rw [hr, hg]
        show (if (Sum.inr g.name : Key) = Sum.inr g.name then _ else _) = _
        rw [if_pos rfl]
      · have hg : cnt (g :: r) f = cnt r f := by unfold cnt; rw [List.find?_cons, beq_eq_false_iff_ne.mpr z]
        rw [hg]
        cases cnt r f with
        | some n => rfl
        | none =>
          show (if (Sum.inr f : Key) = Sum.inr g.name then _ else _) = _
          rw [if_neg fun q => z (Sum.inr.inj q).symm]
  rw [gen fs [] hnd]
  cases cnt fs f <;> rfl
theorem tw_nodup {ns : List Str} (h : tw ns = none) : ns.Nodup := by
  have ha : ∀ j y, ns[j]? = some y → y ∉ ns.take j := by
    intro j y hy hm
    have : ∃ z, tw ns = some z := by
      unfold tw
      have hj := (List.getElem?_eq_some_iff.mp hy).1
      cases q : (List.range ns.length).find? fun i => (ns.take i).contains (ns.getD i "") with
      | some i => exact ⟨_, rfl⟩
      | none =>
        rw [List.find?_eq_none] at q
        exact absurd (by rw [getD_of hy]; exact List.contains_iff_mem.mpr hm) (q j (List.mem_range.mpr hj))
    obtain ⟨z, hz⟩ := this
    rw [h] at hz; cases hz
  refine List.pairwise_iff_getElem.mpr fun i j hi hj hij e => ?_
  have e1 : ns[i]? = some ns[i] := List.getElem?_eq_getElem hi
  have e2 : ns[j]? = some ns[i] := by rw [List.getElem?_eq_getElem hj, e]
  exact ha j _ e2 (List.mem_of_getElem? (i := i) (by rw [List.getElem?_take_of_lt hij]; exact e1))
theorem sqT_lst {K : PySem.W.Frag} {H : Hp} {a q : Addr} {xs l l' : List V} (h : SqT K H a xs) (hq : H q = some (.lst l)) : SqT K (upd H q (.lst l')) a xs := by
  rcases h with (h | ⟨o, h⟩) | h
  · exact .inl (.inl (by rw [upd_ne (ne_of h hq (by intro z; cases z))]; exact h))
  · exact .inl (.inr ⟨o, by rw [upd_ne (ne_of h hq (by intro z; cases z))]; exact h⟩)
  · exact .inr h
theorem bd62 {n : Nat} (h : n ≤ 1000) : -(2 ^ 62) ≤ ((n : Nat) : Int) ∧ ((n : Nat) : Int) < 2 ^ 62 := ⟨by omega, by omega⟩
theorem in_strs (x : Str) (l : List Str) : (if false = true then !inV (.str x) (l.map V.str) else inV (.str x) (l.map V.str)) = decide (x ∈ l) := by
  rw [if_neg Bool.false_ne_true, Bool.eq_iff_iff]
  have e : ∀ a : Str, eqV (.str a) (.str x) = true ↔ a = x := fun a => beq_iff_eq
  simp only [inV, List.any_map, List.any_eq_true, decide_eq_true_eq]
  constructor
  · rintro ⟨y, hy, z⟩; rw [← (e y).mp z]; exact hy
  · intro h; exact ⟨x, h, (e x).mpr rfl⟩
theorem flat_strs (l : List Str) : (l.map V.str).all flatV = true := by
  rw [List.all_eq_true]
  intro v hv
  obtain ⟨s, _, rfl⟩ := List.mem_map.mp hv
  rfl
theorem cut_pre {xs : List V} {i : Nat} (h : i ≤ xs.length) : cutV xs none (some (i : Int)) = xs.take i := by
  unfold cutV
  have e1 : HT.sIx xs.length 0 none = 0 := rfl
  rw [HT.sIx_nat, e1, List.drop_zero, Nat.sub_zero, Nat.min_eq_left h]
open Gx
theorem tx_to {l : List Nat} {j : Nat} (h : j ≤ l.length) : PySem.Txt.slice (tx l) none (some (j : Int)) = tx (l.take j) := by
  have := PyProof.Rows.slice_closes_to (x := tx l) (j := (j : Int)) ⟨by omega, by rw [tx_cps]; omega⟩
  rw [beq_iff_eq, tx_cps] at this
  rw [this]
  simp [tx]
theorem tx_from {l : List Nat} {j : Nat} (h : j ≤ l.length) : PySem.Txt.slice (tx l) (some (j : Int)) none = tx (l.drop j) := by
  have := PyProof.Rows.slice_from_eq (x := tx l) (i := (j : Int)) (b := (l.length : Int)) (by omega) (by rw [tx_len]; omega) (by rw [tx_len])
  rw [this, tx_cps]
  have e : ((l.length : Int) - (j : Int)).toNat = (l.drop j).length := by rw [List.length_drop]; omega
  rw [e, Int.toNat_natCast, List.take_length]
  rfl


def fl (k : Str) : Nat := k.cps.toList.headD 0
def enc (st : List Str) : Str := tx ((st.map fl).reverse)
def Opn (st : List Str) : Prop := ∀ k ∈ st, k = "if" ∨ k = "while" ∨ k = "else"
theorem enc_nil : enc [] = "" := by decide +kernel
theorem enc_len (st : List Str) : (enc st).length = st.length := by unfold enc; rw [tx_len, List.length_reverse, List.length_map]
theorem enc_snoc (st : List Str) (k : Str) : enc (st ++ [k]) = tx [fl k] ++ enc st := by
  unfold enc
  rw [tx_app, List.map_append, List.reverse_append]
  rfl
theorem enc_last {st : List Str} {k : Str} (h : st.getLast? = some k) : (st.map fl).reverse = fl k :: (st.dropLast.map fl).reverse := by
  have hne : st ≠ [] := fun z => by rw [z] at h; cases h
  have e : st = st.dropLast ++ [k] := by
    have e1 := List.dropLast_concat_getLast hne
    have e2 : st.getLast hne = k := by rw [List.getLast?_eq_some_getLast hne] at h; exact Option.some.inj h
    rw [e2] at e1; exact e1.symm
  conv => lhs; rw [e]
  rw [List.map_append, List.reverse_append]
  rfl
theorem enc_tail {st : List Str} (h : st ≠ []) : PySem.Txt.slice (enc st) (some 1) none = enc st.dropLast := by
  obtain ⟨k, hk⟩ := last_some h
  unfold enc
  rw [enc_last hk]
  have := tx_from (l := fl k :: (st.dropLast.map fl).reverse) (j := 1) (by simp)
  simpa using this
theorem enc_top {st : List Str} {k : Str} (h : st.getLast? = some k) : PySem.Txt.slice (enc st) none (some 1) = tx [fl k] := by
  unfold enc
  rw [enc_last h]
  have := tx_to (l := fl k :: (st.dropLast.map fl).reverse) (j := 1) (by simp)
  simpa using this
theorem enc_top0 : PySem.Txt.slice (enc []) none (some 1) = "" := by decide +kernel
theorem fl_if : tx [fl "if"] = "i" := by decide +kernel
theorem fl_while : tx [fl "while"] = "w" := by decide +kernel
theorem fl_else : tx [fl "else"] = "e" := by decide +kernel
theorem enc_eq {st : List Str} : enc st = "" ↔ st = [] := by
  constructor
  · intro h
    have := congrArg Str.length h
    rw [enc_len] at this
    exact List.length_eq_zero_iff.mp this
  · intro h; rw [h]; exact enc_nil
theorem top_i {st : List Str} (ho : Opn st) : PySem.Txt.slice (enc st) none (some 1) = "i" ↔ st.getLast? = some ("if" : Str) := by
  by_cases h : st = []
  · subst h
    rw [enc_top0]
    constructor
    · intro z; exact absurd z (by decide +kernel)
    · intro z; cases z
  · obtain ⟨k, hk⟩ := last_some h
    rw [enc_top hk, hk]
    rcases ho k (List.mem_of_getLast? hk) with rfl | rfl | rfl
    · rw [fl_if]; simp
    · rw [fl_while]
      constructor
      · intro z; exact absurd z (by decide +kernel)
      · intro z; exact absurd (Option.some.inj z) (by decide +kernel)
    · rw [fl_else]
      constructor
      · intro z; exact absurd z (by decide +kernel)
      · intro z; exact absurd (Option.some.inj z) (by decide +kernel)
theorem opn_step {k : Str} {st st' : List Str} (ho : Opn st) (h : stp k st = some st') : Opn st' := by
  unfold stp at h
  split at h
  · rename_i z
    cases h
    intro x hx
    rcases List.mem_append.mp hx with hx | hx
    · exact ho x hx
    · rw [List.mem_singleton.mp hx]; rcases z with z | z
      · exact .inl z
      · exact .inr (.inl z)
  · split at h
    · split at h
      · cases h
      · cases h; exact fun x hx => ho x ((List.dropLast_sublist _).subset hx)
    · split at h
      · split at h
        · cases h
          intro x hx
          rcases List.mem_append.mp hx with hx | hx
          · exact ho x ((List.dropLast_sublist _).subset hx)
          · exact .inr (.inr (List.mem_singleton.mp hx))
        · cases h
      · cases h; exact ho
theorem kf {k : Str} (h : k = "if" ∨ k = "while") : k.length ≤ sizeLine ∧ atI k.cps.toList 0 = some (fl k) := by
  rcases h with rfl | rfl
  · exact ⟨by decide +kernel, by decide +kernel⟩
  · exact ⟨by decide +kernel, by decide +kernel⟩

structure Fo where
  e : Addr
  pa : Addr
  ra : Addr
  f : Fn
  rvs : List V
def FoAt (K : PySem.W.Frag) (H : Hp) (x : Fo) : Prop := H x.e = some (.lst [.str x.f.name, .bl x.f.folded, .ref x.pa, .ref x.ra]) ∧ H x.pa = some (.lst (x.f.ps.map V.str)) ∧ H x.ra = some (.lst x.rvs) ∧ DatAll K H (x.f.rows.map Rw.D) x.rvs
theorem FoAt.mono {K : PySem.W.Frag} {H H' : Hp} {x : Fo} (h : FoAt K H x) (s : Same H H') : FoAt K H' x := ⟨s _ _ h.1, s _ _ h.2.1, s _ _ h.2.2.1, DatAll.mono s _ _ h.2.2.2⟩
def Fo.Sz (x : Fo) : Prop := x.f.ps.length ≤ 100 ∧ x.f.rows.length ≤ 1000 ∧ ∀ r ∈ x.f.rows, r.Ok
theorem cnt_fit (fos : List Fo) (fn : Str) : cnt (fos.map (·.f)) fn = ((fos.filter fun x => x.f.name == fn).head?).map fun x => x.f.ps.length := by
  unfold cnt
  rw [List.find?_map, List.head?_filter, Option.map_map]
  rfl
theorem bad_call {fs : List Fn} {r : Rw} (h : r.kind = "call") : bad fs r = (cnt fs r.fn != some r.n) := by unfold bad; rw [beq_iff_eq.mpr h, Bool.true_and]
end Lk

set_option Elab.async false
set_option linter.all false
set_option maxRecDepth 100000
set_option maxHeartbeats 4000000
namespace Lk
open PySem L2
def Nm (x : Str) : Prop := PyData.strOk x = true ∧ x.length ≤ 12
theorem nm_of {x : Str} (h : K11.named x = true) : Nm x := by
  obtain ⟨h1, _, h2, _⟩ := K14.named_all h
  refine ⟨?_, by omega⟩
  unfold PyData.strOk
  rw [Array.all_eq_true']
  intro c hc
  have h3 := List.all_eq_true.mp h1 c (Array.mem_toList_iff.mpr hc)
  have h4 := K14.letter_of h3
  exact decide_eq_true (by omega)

mutual
def nl : PyData → Bool
  | .list _ => false
  | .dict _ => false
  | .tuple ds => nls ds
  | _ => true
def nls : List PyData → Bool
  | [] => true
  | d :: r => nl d && nls r
end
mutual
theorem datV_wr {K : PySem.W.Frag} {H : Hp} {a : Addr} {l l' : List V} (ha : H a = some (.lst l)) : ∀ (d : PyData) (v : V), nl d = true → DatV K H d v → DatV K (upd H a (.lst l')) d v
  | .none, v, _, h => by unfold DatV at h ⊢; exact h
  | .bool b, v, _, h => by unfold DatV at h ⊢; exact h
  | .int i, v, _, h => by unfold DatV at h ⊢; exact h
  | .str x, v, _, h => by unfold DatV at h ⊢; exact h
  | .list ds, v, n, _ => by unfold nl at n; cases n
  | .dict ds, v, n, _ => by unfold nl at n; cases n
  | .tuple ds, v, n, h => by
    unfold nl at n
    unfold DatV at h ⊢
    obtain ⟨b, xs, e, h1, h2⟩ := h
    exact ⟨b, xs, e, sqT_lst h1 ha, datAll_wr ha ds xs n h2⟩
theorem datAll_wr {K : PySem.W.Frag} {H : Hp} {a : Addr} {l l' : List V} (ha : H a = some (.lst l)) : ∀ (ds : List PyData) (xs : List V), nls ds = true → DatAll K H ds xs → DatAll K (upd H a (.lst l')) ds xs
  | [], xs, _, h => by unfold DatAll at h ⊢; exact h
  | d :: r, xs, n, h => by
    unfold nls at n
    rw [Bool.and_eq_true] at n
    unfold DatAll at h ⊢
    obtain ⟨x, ys, e, h1, h2⟩ := h
    exact ⟨x, ys, e, datV_wr ha d x n.1 h1, datAll_wr ha r ys n.2 h2⟩
end

def RwOk (r : Rw) : Prop := r.Ok ∧ nl r.D = true ∧ Lay 3 r.D
def FnOk' (f : Fn) : Prop := Nm f.name ∧ (∀ p ∈ f.ps, Nm p) ∧ ∀ r ∈ f.rows, RwOk r

def GA (v : V) : Prop := ∃ d : PyData, (∀ K H, DatV K H d v) ∧ nl d = true ∧ Lay 1 d
theorem GA.int (z : Int) : GA (.int z) := ⟨.int z, fun _ _ => by unfold DatV; rfl, rfl, Lay.int z⟩
theorem GA.str {x : Str} (h : Nm x) : GA (.str x) := ⟨.str x, fun _ _ => by unfold DatV; rfl, rfl, Lay.str h.1⟩
theorem ga_all : ∀ {vs : List V}, (∀ v ∈ vs, GA v) → ∃ ds, (∀ K H, DatAll K H ds vs) ∧ nls ds = true ∧ ∀ d ∈ ds, Lay 1 d
  | [], _ => ⟨[], fun _ _ => by unfold DatAll; rfl, by unfold nls; rfl, fun d hd => by cases hd⟩
  | v :: r, h => by
    obtain ⟨d, d1, d2, d3⟩ := h v List.mem_cons_self
    obtain ⟨ds, e1, e2, e3⟩ := ga_all fun u hu => h u (List.mem_cons_of_mem _ hu)
    refine ⟨d :: ds, fun K H => by unfold DatAll; exact ⟨v, r, rfl, d1 K H, e1 K H⟩, by unfold nls; rw [d2, e2]; rfl, fun q hq => ?_⟩
    rcases List.mem_cons.mp hq with rfl | hq
    · exact d3
    · exact e3 q hq
theorem ga_pick {a b : V} (ha : GA a) (hb : GA b) (z : Int) : ∃ v, atI [a, b] (z % 2) = some v ∧ GA v := by
  rcases Int.emod_two_eq z with e | e <;> rw [e]
  · exact ⟨a, rfl, ha⟩
  · exact ⟨b, rfl, hb⟩
theorem vs_mem {P : V → Prop} {vs : List V} (h : ∀ (i : Nat) v, vs[i]? = some v → P v) : ∀ v ∈ vs, P v := fun v hv => by
  obtain ⟨i, hi⟩ := List.mem_iff_getElem?.mp hv
  exact h i v hi
theorem rw_call {x f : Str} {ds : List PyData} (hx : PyData.strOk x = true) (hf : PyData.strOk f = true) (h2 : nls ds = true) (h3 : ∀ d ∈ ds, Lay 1 d) : RwOk ⟨"call", [.str x, .str f, .tuple ds]⟩ := by
  refine ⟨fun _ => ⟨_, _, _, rfl⟩, by simp [Rw.D, nl, nls, h2], Lay.tuple fun d hd => ?_⟩
  rcases List.mem_cons.mp hd with rfl | hd
  · exact Lay.str (show PyData.strOk "call" = true by decide +kernel)
  rcases List.mem_cons.mp hd with rfl | hd
  · exact Lay.str hx
  rcases List.mem_cons.mp hd with rfl | hd
  · exact Lay.str hf
  rw [List.mem_singleton.mp hd]
  exact Lay.tuple h3

theorem rw_plain {k : Str} {vs : List V} (hk : PyData.strOk k = true) (hc : k ≠ "call") (h : ∀ v ∈ vs, GA v) : ∃ ds, (∀ K H, DatAll K H ds vs) ∧ RwOk ⟨k, ds⟩ := by
  obtain ⟨ds, h1, h2, h3⟩ := ga_all h
  refine ⟨ds, h1, fun z => absurd z hc, by simp [Rw.D, nl, nls, h2], Lay.tuple fun d hd => ?_⟩
  rcases List.mem_cons.mp hd with rfl | hd
  · exact Lay.str hk
  · exact (h3 d hd).mono (by decide)
theorem rw_dat {K : PySem.W.Frag} {H : Hp} {a : Addr} {k : Str} {ds : List PyData} {vs : List V} (h : SqT K H a (.str k :: vs)) (hd : DatAll K H ds vs) : DatV K H (Rw.D ⟨k, ds⟩) (.ref a) := by
  unfold Rw.D DatV
  refine ⟨a, _, rfl, h, ?_⟩
  unfold DatAll
  exact ⟨_, _, rfl, by unfold DatV; rfl, hd⟩
theorem da3 {K : PySem.W.Frag} {H : Hp} {x f : Str} {a : Addr} {ds : List PyData} {vs : List V} (h : SqT K H a vs) (hd : DatAll K H ds vs) : DatAll K H [.str x, .str f, .tuple ds] [.str x, .str f, .ref a] := by
  unfold DatAll
  refine ⟨_, _, rfl, by unfold DatV; rfl, ?_⟩
  unfold DatAll
  refine ⟨_, _, rfl, by unfold DatV; rfl, ?_⟩
  unfold DatAll
  refine ⟨_, _, rfl, by unfold DatV; exact ⟨a, _, rfl, h, hd⟩, by unfold DatAll; rfl⟩
theorem da_snoc {K : PySem.W.Frag} {H : Hp} : ∀ {ds : List PyData} {xs : List V} {d : PyData} {x : V}, DatAll K H ds xs → DatV K H d x → DatAll K H (ds ++ [d]) (xs ++ [x])
  | [], xs, d, x, h, hx => by
    unfold DatAll at h
    subst h
    show DatAll K H [d] [x]
    unfold DatAll
    exact ⟨_, _, rfl, hx, by unfold DatAll; rfl⟩
  | c :: r, xs, d, x, h, hx => by
    unfold DatAll at h
    obtain ⟨y, ys, rfl, h1, h2⟩ := h
    show DatAll K H (c :: (r ++ [d])) (y :: (ys ++ [x]))
    unfold DatAll
    exact ⟨_, _, rfl, h1, da_snoc h2 hx⟩
theorem nls_rows {rs : List Rw} (h : ∀ r ∈ rs, RwOk r) : nls (rs.map Rw.D) = true := by
  induction rs with
  | nil => unfold nls; rfl
  | cons r q ih =>
    show nls (r.D :: q.map Rw.D) = true
    unfold nls
    rw [(h r List.mem_cons_self).2.1, ih fun x hx => h x (List.mem_cons_of_mem _ hx)]
    rfl

structure Iv3 (K : PySem.W.Frag) (H : Hp) (l1 l2 : Addr) (rs : List Rw) (xs : List V) (st : List Str) (H2 : Hp) : Prop where
  f1 : H l1 = none
  f2 : H l2 = none
  ne : l2 ≠ l1
  s : Same H H2
  e1 : H2 l1 = some (.lst xs)
  e2 : H2 l2 = some (.lst (st.map V.str))
  d : DatAll K H2 (rs.map Rw.D) xs
  ok : ∀ r ∈ rs, RwOk r
  op : Opn st
theorem Iv3.mono {K : PySem.W.Frag} {H H2 H3 : Hp} {l1 l2 : Addr} {rs : List Rw} {xs : List V} {st : List Str} (h : Iv3 K H l1 l2 rs xs st H2) (s : Same H2 H3) : Iv3 K H l1 l2 rs xs st H3 :=
  ⟨h.f1, h.f2, h.ne, h.s.trans s, s _ _ h.e1, s _ _ h.e2, DatAll.mono s _ _ h.d, h.ok, h.op⟩
theorem Iv3.put {K : PySem.W.Frag} {H H2 : Hp} {l1 l2 : Addr} {rs : List Rw} {xs : List V} {st : List Str} {r : Rw} {v : V} (h : Iv3 K H l1 l2 rs xs st H2) (hd : DatV K H2 r.D v) (ok : RwOk r) : Iv3 K H l1 l2 (rs ++ [r]) (xs ++ [v]) st (upd H2 l1 (.lst (xs ++ [v]))) := by
  have ok' : ∀ q ∈ rs ++ [r], RwOk q := fun q hq => by
    rcases List.mem_append.mp hq with hq | hq
    · exact h.ok q hq
    · rw [List.mem_singleton.mp hq]; exact ok
  refine ⟨h.f1, h.f2, h.ne, h.s.upd h.f1, upd_same, by rw [upd_ne h.ne]; exact h.e2, ?_, ok', h.op⟩
  refine datAll_wr h.e1 _ _ (nls_rows ok') ?_
  rw [List.map_append]
  exact da_snoc h.d hd
theorem Iv3.opn {K : PySem.W.Frag} {H H2 : Hp} {l1 l2 : Addr} {rs : List Rw} {xs : List V} {st : List Str} {st' : List Str} (h : Iv3 K H l1 l2 rs xs st H2) (ho : Opn st') : Iv3 K H l1 l2 rs xs st' (upd H2 l2 (.lst (st'.map V.str))) :=
  ⟨h.f1, h.f2, h.ne, h.s.upd h.f2, by rw [upd_ne h.ne.symm]; exact h.e1, upd_same, datAll_wr h.e2 _ _ (nls_rows h.ok) h.d, h.ok, ho⟩
theorem Iv3.len {K : PySem.W.Frag} {H H2 : Hp} {l1 l2 : Addr} {rs : List Rw} {xs : List V} {st : List Str} (h : Iv3 K H l1 l2 rs xs st H2) : xs.length = rs.length := dat_len h.d
theorem eqv_nil (ds : List PyData) : PyData.eqv (.list ds) (.list []) = decide (ds = []) := by
  cases ds <;> simp [PyData.eqv, PyData.eqvAll]
theorem neNil {K : PySem.W.Frag} {H : Hp} {x : V} {q : Addr} {ds : List PyData} {Q : VK} (hx : DatV K H (.list ds) x) (l : Lay 10 (.list ds)) (hq : SqL K H q []) (h : Q (.bl (!decide (ds = []))) H) : rNeD K x (.ref q) H Q := by
  refine ⟨_, .list [], hx, by unfold DatV; exact ⟨q, [], rfl, hq, by unfold DatAll; rfl⟩, l.shaped (by decide), Lay.shaped (n := 1) (Lay.list fun d hd => by cases hd) (by decide), ?_⟩
  rw [eqv_nil]
  exact h
theorem dat_strs {K : PySem.W.Frag} {H : Hp} : ∀ (l : List Str), DatAll K H (l.map .str) (l.map V.str)
  | [] => by unfold DatAll; rfl
  | x :: r => by
    show DatAll K H (.str x :: r.map .str) (V.str x :: r.map V.str)
    unfold DatAll
    exact ⟨_, _, rfl, by unfold DatV; rfl, dat_strs r⟩
theorem neNilS {K : PySem.W.Frag} {H : Hp} {l q : Addr} {st : List Str} {Q : VK} (hl : H l = some (.lst (st.map V.str))) (ho : Opn st) (hq : H q = some (.lst [])) (h : Q (.bl (!decide (st = []))) H) : rNeD K (.ref l) (.ref q) H Q := by
  refine neNil (ds := st.map .str) (by unfold DatV; exact ⟨l, _, rfl, SqL.of hl, dat_strs st⟩) ((Lay.list (n := 1) fun d hd => ?_).mono (by decide)) (SqL.of hq) ?_
  · obtain ⟨k, hk, rfl⟩ := List.mem_map.mp hd
    refine Lay.str ?_
    rcases ho k hk with rfl | rfl | rfl <;> decide +kernel
  · have e : decide (st.map PyData.str = []) = decide (st = []) := by cases st <;> rfl
    rw [e]
    exact h

structure FsAt (K : PySem.W.Frag) (Hb H : Hp) (n : Nat) (L : Addr) (fos : List Fo) : Prop where
  s : Same Hb H
  len : fos.length ≤ 12
  fL : Hb L = none
  eL : H L = some (.lst (fos.map fun x => V.ref x.e))
  at_ : ∀ x ∈ fos, FoAt K H x ∧ FnOk' x.f ∧ x.f.ps.length ≤ 10 ∧ x.f.rows.length ≤ n
  fr : ∀ x ∈ fos, Hb x.e = none ∧ Hb x.pa = none ∧ Hb x.ra = none
  tg : ∃ tg : Addr → Nat, tg L = 0 ∧ ∀ (i : Nat) x, fos[i]? = some x → tg x.e = 3 * i + 1 ∧ tg x.pa = 3 * i + 2 ∧ tg x.ra = 3 * i + 3
theorem FsAt.mono {K : PySem.W.Frag} {Hb H H' : Hp} {n : Nat} {L : Addr} {fos : List Fo} (h : FsAt K Hb H n L fos) (s : Same H H') : FsAt K Hb H' n L fos :=
  ⟨h.s.trans s, h.len, h.fL, s _ _ h.eL, fun x hx => ⟨(h.at_ x hx).1.mono s, (h.at_ x hx).2⟩, h.fr, h.tg⟩
theorem FsAt.more {K : PySem.W.Frag} {Hb H : Hp} {n m : Nat} {L : Addr} {fos : List Fo} (h : FsAt K Hb H n L fos) (s : n ≤ m) : FsAt K Hb H m L fos :=
  ⟨h.s, h.len, h.fL, h.eL, fun x hx => ⟨(h.at_ x hx).1, (h.at_ x hx).2.1, (h.at_ x hx).2.2.1, Nat.le_trans (h.at_ x hx).2.2.2 s⟩, h.fr, h.tg⟩

theorem FoAt.wr {K : PySem.W.Frag} {H : Hp} {x : Fo} {b : Addr} {l l' : List V} (h : FoAt K H x) (ok : FnOk' x.f) (hb : H b = some (.lst l)) (h1 : x.e ≠ b) (h2 : x.pa ≠ b) (h3 : x.ra ≠ b) : FoAt K (upd H b (.lst l')) x :=
  ⟨by rw [upd_ne h1]; exact h.1, by rw [upd_ne h2]; exact h.2.1, by rw [upd_ne h3]; exact h.2.2.1, datAll_wr hb _ _ (nls_rows ok.2.2) h.2.2.2⟩
theorem FsAt.snoc {K : PySem.W.Frag} {Hb H H2 : Hp} {n : Nat} {L : Addr} {fos : List Fo} {x : Fo} (h : FsAt K Hb H n L fos) (s : Same H H2) (hl : fos.length < 12)
    (he : H x.e = none) (hp : H x.pa = none) (hr : H x.ra = none) (n1 : x.pa ≠ x.e) (n2 : x.ra ≠ x.e) (n3 : x.ra ≠ x.pa) (hx : FoAt K H2 x) (ok : FnOk' x.f) (b1 : x.f.ps.length ≤ 10) (b2 : x.f.rows.length ≤ n) :
    FsAt K Hb (upd H2 L (.lst ((fos.map fun x => V.ref x.e) ++ [.ref x.e]))) n L (fos ++ [x]) := by
  have hL2 := s _ _ h.eL
  have neL : ∀ b, H b = none → b ≠ L := fun b hb z => by rw [z, h.eL] at hb; cases hb
  obtain ⟨tg, t0, t1⟩ := h.tg
  have own : ∀ (i : Nat) y, fos[i]? = some y → y.e ≠ L ∧ y.pa ≠ L ∧ y.ra ≠ L := fun i y hy => by
    obtain ⟨a, b, c⟩ := t1 i y hy
    exact ⟨fun z => by rw [z, t0] at a; omega, fun z => by rw [z, t0] at b; omega, fun z => by rw [z, t0] at c; omega⟩
  refine ⟨(h.s.trans s).upd h.fL, by rw [List.length_append, List.length_singleton]; omega, h.fL, by rw [upd_same, List.map_append]; rfl, ?_, ?_, ?_⟩
  · intro y hy
    rcases List.mem_append.mp hy with hy | hy
    · obtain ⟨i, hi⟩ := List.mem_iff_getElem?.mp hy
      obtain ⟨o1, o2, o3⟩ := own i y hi
      exact ⟨((h.at_ y hy).1.mono s).wr (h.at_ y hy).2.1 hL2 o1 o2 o3, (h.at_ y hy).2⟩
    · rw [List.mem_singleton.mp hy]
      exact ⟨hx.wr ok hL2 (neL _ he) (neL _ hp) (neL _ hr), ok, b1, b2⟩
  · intro y hy
    rcases List.mem_append.mp hy with hy | hy
    · exact h.fr y hy
    · rw [List.mem_singleton.mp hy]
      exact ⟨h.s.free he, h.s.free hp, h.s.free hr⟩
  · refine ⟨fun b => if b = x.e then 3 * fos.length + 1 else if b = x.pa then 3 * fos.length + 2 else if b = x.ra then 3 * fos.length + 3 else tg b, ?_, ?_⟩
    · show (if L = x.e then _ else _) = 0
      rw [if_neg (neL _ he).symm, if_neg (neL _ hp).symm, if_neg (neL _ hr).symm, t0]
    · intro i y hy
      by_cases hi : i < fos.length
      · rw [List.getElem?_append_left hi] at hy
        have hm := List.mem_of_getElem? hy
        obtain ⟨f1, f2, f3, _⟩ := (h.at_ y hm).1
        have old : ∀ b o, H b = some o → (if b = x.e then 3 * fos.length + 1 else if b = x.pa then 3 * fos.length + 2 else if b = x.ra then 3 * fos.length + 3 else tg b) = tg b := fun b o hb => by
          rw [if_neg (fun z => by rw [z, he] at hb; cases hb), if_neg (fun z => by rw [z, hp] at hb; cases hb), if_neg (fun z => by rw [z, hr] at hb; cases hb)]
        obtain ⟨a, b, c⟩ := t1 i y hy
        exact ⟨(old _ _ f1).trans a, (old _ _ f2).trans b, (old _ _ f3).trans c⟩
      · have : i = fos.length := by
          have := (List.getElem?_eq_some_iff.mp hy).1
          rw [List.length_append, List.length_singleton] at this
          omega
        subst this
        rw [List.getElem?_append_right (Nat.le_refl _), Nat.sub_self] at hy
        cases hy
        refine ⟨if_pos rfl, ?_, ?_⟩
        · show (if x.pa = x.e then _ else _) = _
          rw [if_neg n1, if_pos rfl]
        · show (if x.ra = x.e then _ else _) = _
          rw [if_neg n2, if_neg n3, if_pos rfl]
theorem FsAt.none {K : PySem.W.Frag} {Hb H : Hp} {n : Nat} {L : Addr} (s : Same Hb H) (h : H L = none) : FsAt K Hb (upd H L (.lst [])) n L [] :=
  ⟨s.trans (Same.new h), Nat.zero_le _, s.free h, upd_same, fun x hx => (by cases hx), fun x hx => (by cases hx), fun _ => 0, rfl, fun i x hx => (by simp at hx)⟩
theorem ints_of {α : Type} {f : α → V} {P : α → Prop} : ∀ {vs : List V}, (∀ v ∈ vs, ∃ n, P n ∧ v = f n) → ∃ ss : List α, vs = ss.map f ∧ ∀ n ∈ ss, P n
  | [], _ => ⟨[], rfl, fun n hn => by cases hn⟩
  | v :: r, h => by
    obtain ⟨n, hn, rfl⟩ := h v List.mem_cons_self
    obtain ⟨ss, rfl, hs⟩ := ints_of fun u hu => h u (List.mem_cons_of_mem _ hu)
    refine ⟨n :: ss, rfl, fun q hq => ?_⟩
    rcases List.mem_cons.mp hq with rfl | hq
    · exact hn
    · exact hs q hq
theorem FsAt.put {K : PySem.W.Frag} {Hb H H2 : Hp} {n m k : Nat} {L : Addr} {fos : List Fo} {x x' : Fo} (h : FsAt K Hb H n L fos) (hk : fos[k]? = some x) (he : x'.e = x.e) (hp : x'.pa = x.pa) (hra : x'.ra = x.ra ∨ H x'.ra = Option.none) (s : Same Hb H2)
    (fr : ∀ b o, H b = some o → b ≠ x.e → b ≠ x.pa → b ≠ x.ra → H2 b = some o) (dt : ∀ ds vs, nls ds = true → DatAll K H ds vs → DatAll K H2 ds vs)
    (hx : FoAt K H2 x') (ok : FnOk' x'.f) (b1 : x'.f.ps.length ≤ 10) (b2 : x'.f.rows.length ≤ m) (hm : n ≤ m) : FsAt K Hb H2 m L (fos.set k x') := by
  obtain ⟨tg, t0, t1⟩ := h.tg
  obtain ⟨g1, g2, g3⟩ := t1 k x hk
  have hkl := (List.getElem?_eq_some_iff.mp hk).1
  have at' : ∀ (i : Nat) y, (fos.set k x')[i]? = some y → (i = k ∧ y = x') ∨ (i ≠ k ∧ fos[i]? = some y) := fun i y hy => by
    by_cases z : i = k
    · subst z
      rw [List.getElem?_set_self hkl] at hy
      cases hy
      exact .inl ⟨rfl, rfl⟩
    · rw [List.getElem?_set_ne (Ne.symm z)] at hy
      exact .inr ⟨z, hy⟩
  refine ⟨s, by rw [List.length_set]; exact h.len, h.fL, ?_, ?_, ?_, ?_⟩
  · have e : (fos.set k x').map (fun x => V.ref x.e) = fos.map fun x => V.ref x.e := by
      rw [List.map_set, he]
      refine List.ext_getElem? fun i => ?_
      by_cases z : i = k
      · subst z
        rw [List.getElem?_set_self (by rw [List.length_map]; exact hkl), List.getElem?_map, hk]; rfl
      · rw [List.getElem?_set_ne (Ne.symm z)]
    rw [e]
    exact fr _ _ h.eL (fun z => by rw [← z, t0] at g1; omega) (fun z => by rw [← z, t0] at g2; omega) (fun z => by rw [← z, t0] at g3; omega)
  · intro y hy
    obtain ⟨i, hi⟩ := List.mem_iff_getElem?.mp hy
    rcases at' i y hi with ⟨_, rfl⟩ | ⟨ne, hi⟩
    · exact ⟨hx, ok, b1, b2⟩
    · have hm' := List.mem_of_getElem? hi
      obtain ⟨⟨f1, f2, f3, f4⟩, o1, o2, o3⟩ := h.at_ y hm'
      obtain ⟨q1, q2, q3⟩ := t1 i y hi
      have tn : ∀ a b, tg a ≠ tg b → a ≠ b := fun a b z w => z (by rw [w])
      refine ⟨⟨fr _ _ f1 (tn _ _ ?_) (tn _ _ ?_) (tn _ _ ?_), fr _ _ f2 (tn _ _ ?_) (tn _ _ ?_) (tn _ _ ?_), fr _ _ f3 (tn _ _ ?_) (tn _ _ ?_) (tn _ _ ?_), dt _ _ (nls_rows o1.2.2) f4⟩, o1, o2, Nat.le_trans o3 hm⟩ <;> omega
  · intro y hy
    obtain ⟨i, hi⟩ := List.mem_iff_getElem?.mp hy
    rcases at' i y hi with ⟨_, rfl⟩ | ⟨ne, hi⟩
    · obtain ⟨c1, c2, c3⟩ := h.fr x (List.mem_of_getElem? hk)
      refine ⟨he ▸ c1, hp ▸ c2, ?_⟩
      rcases hra with z | z
      · exact z ▸ c3
      · exact h.s.free z
    · exact h.fr y (List.mem_of_getElem? hi)
  · rcases hra with z | z
    · refine ⟨tg, t0, fun i y hi => ?_⟩
      rcases at' i y hi with ⟨rfl, rfl⟩ | ⟨ne, hi⟩
      · rw [he, hp, z]; exact ⟨g1, g2, g3⟩
      · exact t1 i y hi
    · have old : ∀ b o, H b = some o → (if b = x'.ra then 3 * k + 3 else tg b) = tg b := fun b o hb => by
        rw [if_neg (fun w => by rw [w, z] at hb; cases hb)]
      refine ⟨fun b => if b = x'.ra then 3 * k + 3 else tg b, (old _ _ h.eL).trans t0, fun i y hi => ?_⟩
      rcases at' i y hi with ⟨rfl, rfl⟩ | ⟨ne, hi⟩
      · obtain ⟨f1, f2, f3, _⟩ := (h.at_ x (List.mem_of_getElem? hk)).1
        refine ⟨?_, ?_, if_pos rfl⟩
        · rw [he]; exact (old _ _ f1).trans g1
        · rw [hp]; exact (old _ _ f2).trans g2
      · obtain ⟨f1, f2, f3, _⟩ := (h.at_ y (List.mem_of_getElem? hi)).1
        obtain ⟨q1, q2, q3⟩ := t1 i y hi
        exact ⟨(old _ _ f1).trans q1, (old _ _ f2).trans q2, (old _ _ f3).trans q3⟩
theorem FsAt.ne3 {K : PySem.W.Frag} {Hb H : Hp} {n k : Nat} {L : Addr} {fos : List Fo} {x : Fo} (h : FsAt K Hb H n L fos) (hk : fos[k]? = some x) : x.pa ≠ x.e ∧ x.ra ≠ x.e ∧ x.ra ≠ x.pa := by
  obtain ⟨tg, t0, t1⟩ := h.tg
  obtain ⟨g1, g2, g3⟩ := t1 k x hk
  exact ⟨fun z => by rw [z] at g2; omega, fun z => by rw [z] at g3; omega, fun z => by rw [z] at g3; omega⟩

theorem FsAt.name {K : PySem.W.Frag} {Hb H : Hp} {n m k : Nat} {L : Addr} {fos : List Fo} {x : Fo} {nm : Str} (h : FsAt K Hb H n L fos) (hk : fos[k]? = some x) (hn : Nm nm) (hm : n ≤ m) : ∃ fos', FsAt K Hb (upd H x.e (.lst [.str nm, .bl x.f.folded, .ref x.pa, .ref x.ra])) m L fos' := by
  have hx := List.mem_of_getElem? hk
  obtain ⟨⟨f1, f2, f3, f4⟩, ok, o2, o3⟩ := h.at_ x hx
  obtain ⟨n1, n2, n3⟩ := h.ne3 hk
  obtain ⟨c1, c2, c3⟩ := h.fr x hx
  exact ⟨_, h.put (x' := ⟨x.e, x.pa, x.ra, ⟨nm, x.f.folded, x.f.ps, x.f.rows⟩, x.rvs⟩) hk rfl rfl (.inl rfl) (h.s.upd c1) (fun b o hb e1 _ _ => by rw [upd_ne e1]; exact hb) (fun ds vs a b => datAll_wr f1 ds vs a b)
    ⟨upd_same, by rw [upd_ne n1]; exact f2, by rw [upd_ne n2]; exact f3, datAll_wr f1 _ _ (nls_rows ok.2.2) f4⟩ ⟨hn, ok.2⟩ o2 (Nat.le_trans o3 hm) hm⟩

theorem FsAt.params {K : PySem.W.Frag} {Hb H : Hp} {n m k : Nat} {L : Addr} {fos : List Fo} {x : Fo} {ps : List Str} (h : FsAt K Hb H n L fos) (hk : fos[k]? = some x) (hn : ∀ p ∈ ps, Nm p) (hl : ps.length ≤ 10) (hm : n ≤ m) : ∃ fos', FsAt K Hb (upd H x.pa (.lst (ps.map V.str))) m L fos' := by
  have hx := List.mem_of_getElem? hk
  obtain ⟨⟨f1, f2, f3, f4⟩, ok, o2, o3⟩ := h.at_ x hx
  obtain ⟨n1, n2, n3⟩ := h.ne3 hk
  obtain ⟨c1, c2, c3⟩ := h.fr x hx
  exact ⟨_, h.put (x' := ⟨x.e, x.pa, x.ra, ⟨x.f.name, x.f.folded, ps, x.f.rows⟩, x.rvs⟩) hk rfl rfl (.inl rfl) (h.s.upd c2) (fun b o hb _ e1 _ => by rw [upd_ne e1]; exact hb) (fun ds vs a b => datAll_wr f2 ds vs a b)
    ⟨by rw [upd_ne n1.symm]; exact f1, upd_same, by rw [upd_ne n3]; exact f3, datAll_wr f2 _ _ (nls_rows ok.2.2) f4⟩ ⟨ok.1, hn, ok.2.2⟩ hl (Nat.le_trans o3 hm) hm⟩

theorem FsAt.rows {K : PySem.W.Frag} {Hb H : Hp} {n m k : Nat} {L : Addr} {fos : List Fo} {x : Fo} {rs : List Rw} {rvs : List V} (h : FsAt K Hb H n L fos) (hk : fos[k]? = some x) (hd : DatAll K H (rs.map Rw.D) rvs) (hn : ∀ r ∈ rs, RwOk r) (hl : rs.length ≤ m) (hm : n ≤ m) : ∃ fos', FsAt K Hb (upd H x.ra (.lst rvs)) m L fos' := by
  have hx := List.mem_of_getElem? hk
  obtain ⟨⟨f1, f2, f3, f4⟩, ok, o2, o3⟩ := h.at_ x hx
  obtain ⟨n1, n2, n3⟩ := h.ne3 hk
  obtain ⟨c1, c2, c3⟩ := h.fr x hx
  exact ⟨_, h.put (x' := ⟨x.e, x.pa, x.ra, ⟨x.f.name, x.f.folded, x.f.ps, rs⟩, rvs⟩) hk rfl rfl (.inl rfl) (h.s.upd c3) (fun b o hb _ _ e1 => by rw [upd_ne e1]; exact hb) (fun ds vs a b => datAll_wr f3 ds vs a b)
    ⟨by rw [upd_ne n2.symm]; exact f1, by rw [upd_ne n3.symm]; exact f2, upd_same, datAll_wr f3 _ _ (nls_rows hn) hd⟩ ⟨ok.1, ok.2.1, hn⟩ o2 hl hm⟩

theorem FsAt.list {K : PySem.W.Frag} {Hb H H2 : Hp} {n m k : Nat} {L ra : Addr} {fos : List Fo} {x : Fo} {rs : List Rw} {rvs : List V} (h : FsAt K Hb H n L fos) (hk : fos[k]? = some x) (s : Same H H2) (hr : H ra = Option.none) (e : H2 ra = some (.lst rvs)) (hd : DatAll K H2 (rs.map Rw.D) rvs) (hn : ∀ r ∈ rs, RwOk r) (hl : rs.length ≤ m) (hm : n ≤ m) : ∃ fos', FsAt K Hb (upd H2 x.e (.lst [.str x.f.name, .bl x.f.folded, .ref x.pa, .ref ra])) m L fos' := by
  have hx := List.mem_of_getElem? hk
  obtain ⟨⟨f1, f2, f3, f4⟩, ok, o2, o3⟩ := h.at_ x hx
  obtain ⟨n1, n2, n3⟩ := h.ne3 hk
  obtain ⟨c1, c2, c3⟩ := h.fr x hx
  have f1' := s _ _ f1
  have ne : ra ≠ x.e := fun z => by rw [z, f1] at hr; cases hr
  exact ⟨_, h.put (x' := ⟨x.e, x.pa, ra, ⟨x.f.name, x.f.folded, x.f.ps, rs⟩, rvs⟩) hk rfl rfl (.inr hr) ((h.s.trans s).upd c1) (fun b o hb e1 _ _ => by rw [upd_ne e1]; exact s _ _ hb) (fun ds vs a b => datAll_wr f1' ds vs a (L2.DatAll.mono s _ _ b))
    ⟨upd_same, by rw [upd_ne n1]; exact s _ _ f2, by rw [upd_ne ne]; exact e, datAll_wr f1' _ _ (nls_rows hn) hd⟩ ⟨ok.1, ok.2.1, hn⟩ o2 hl hm⟩
theorem ok_slice {x : Str} {l u : Option Int} (h : PyData.strOk x = true) : PyData.strOk (PySem.Txt.slice x l u) = true := by
  unfold PySem.Txt.slice
  split
  · exact h
  · unfold PyData.strOk at *
    rw [Array.all_eq_true'] at h ⊢
    intro c hc
    have hc' := List.mem_toArray.mp hc
    obtain ⟨i, hi, e⟩ := List.mem_filterMap.mp hc'
    exact h c (Array.mem_of_getElem? e)
theorem ok_app {x y : Str} (h : PyData.strOk x = true) (g : PyData.strOk y = true) : PyData.strOk (x ++ y) = true := by
  unfold PyData.strOk at *
  show (x.cps ++ y.cps).all _ = true
  rw [Array.all_append, h, g]
  rfl
theorem slice7 {x : Str} (h : x.length ≤ 12) : (PySem.Txt.slice x none (some 7)).length ≤ 12 := by
  by_cases h7 : 7 ≤ x.length
  · have hl : x.cps.toList.length = x.length := by simp [Str.length]
    have := PyProof.Rows.slice_closes_to (x := x) (j := 7) ⟨by decide, by omega⟩
    rw [beq_iff_eq] at this
    rw [this]
    show (List.take _ _).toArray.size ≤ 12
    rw [List.size_toArray, List.length_take]
    have : (7 - 0 : Int).toNat = 7 := rfl
    omega
  · have key : ∀ n < 7, ((PySem.Builtin.Str.strSliceIndices none (some 7) 1 n).length == n) = true := by decide +kernel
    unfold PySem.Txt.slice
    split
    · exact h
    · rename_i z
      rw [key x.length (by omega)] at z
      exact absurd rfl z

theorem da_ins {K : PySem.W.Frag} {H : Hp} {rs : List Rw} {vs : List V} {r : Rw} {v : V} {i : Nat} (h : DatAll K H (rs.map Rw.D) vs) (hv : DatV K H r.D v) : DatAll K H ((rs.take i ++ r :: rs.drop i).map Rw.D) (vs.take i ++ v :: vs.drop i) := by
  induction rs generalizing vs i with
  | nil =>
    unfold DatAll at h
    subst h
    simp only [List.take_nil, List.drop_nil, List.nil_append]
    show DatAll K H [r.D] [v]
    unfold DatAll
    exact ⟨_, _, rfl, hv, by unfold DatAll; rfl⟩
  | cons q t ih =>
    have h' := h
    obtain ⟨y, ys, rfl, h1, h2⟩ := (show ∃ x r', vs = x :: r' ∧ DatV K H q.D x ∧ DatAll K H (t.map Rw.D) r' by unfold DatAll at h; exact h)
    cases i with
    | zero =>
      simp only [List.take_zero, List.drop_zero, List.nil_append]
      show DatAll K H (r.D :: (q :: t).map Rw.D) (v :: y :: ys)
      unfold DatAll
      exact ⟨_, _, rfl, hv, h'⟩
    | succ i =>
      show DatAll K H (q.D :: (t.take i ++ r :: t.drop i).map Rw.D) (y :: (ys.take i ++ v :: ys.drop i))
      unfold DatAll
      exact ⟨_, _, rfl, h1, ih h2⟩
theorem da_sub {K : PySem.W.Frag} {H : Hp} {rs : List Rw} {vs : List V} (h : DatAll K H (rs.map Rw.D) vs) (i j : Nat) : DatAll K H ((rs.take i ++ rs.drop j).map Rw.D) (vs.take i ++ vs.drop j) := by
  have drp : ∀ (rs : List Rw) (vs : List V) (j : Nat), DatAll K H (rs.map Rw.D) vs → DatAll K H ((rs.drop j).map Rw.D) (vs.drop j) := by
    intro rs
    induction rs with
    | nil => intro vs j h; unfold DatAll at h; subst h; simp only [List.drop_nil]; show DatAll K H [] []; unfold DatAll; rfl
    | cons q t ih =>
      intro vs j h
      have h' := h
      obtain ⟨y, ys, rfl, h1, h2⟩ := (show ∃ x r', vs = x :: r' ∧ DatV K H q.D x ∧ DatAll K H (t.map Rw.D) r' by unfold DatAll at h; exact h)
      cases j with
      | zero => exact h'
      | succ j => exact ih ys j h2
  have gen : ∀ (rs : List Rw) (vs : List V) (i : Nat) (us : List Rw) (ws : List V), DatAll K H (rs.map Rw.D) vs → DatAll K H (us.map Rw.D) ws → DatAll K H ((rs.take i ++ us).map Rw.D) (vs.take i ++ ws) := by
    intro rs
    induction rs with
    | nil => intro vs i us ws h g; unfold DatAll at h; subst h; simp only [List.take_nil, List.nil_append]; exact g
    | cons q t ih =>
      intro vs i us ws h g
      obtain ⟨y, ys, rfl, h1, h2⟩ := (show ∃ x r', vs = x :: r' ∧ DatV K H q.D x ∧ DatAll K H (t.map Rw.D) r' by unfold DatAll at h; exact h)
      cases i with
      | zero => exact g
      | succ i =>
        show DatAll K H (q.D :: (t.take i ++ us).map Rw.D) (y :: (ys.take i ++ ws))
        unfold DatAll
        exact ⟨_, _, rfl, h1, ih ys i us ws h2 g⟩
  exact gen rs vs i _ _ h (drp rs vs j h)
theorem da_set {K : PySem.W.Frag} {H : Hp} {rs : List Rw} {vs : List V} {r : Rw} {v : V} {i : Nat} (h : DatAll K H (rs.map Rw.D) vs) (hv : DatV K H r.D v) : DatAll K H ((rs.set i r).map Rw.D) (vs.set i v) := by
  induction rs generalizing vs i with
  | nil => unfold DatAll at h; subst h; show DatAll K H [] []; unfold DatAll; rfl
  | cons q t ih =>
    obtain ⟨y, ys, rfl, h1, h2⟩ := (show ∃ x r', vs = x :: r' ∧ DatV K H q.D x ∧ DatAll K H (t.map Rw.D) r' by unfold DatAll at h; exact h)
    cases i with
    | zero =>
      show DatAll K H (r.D :: t.map Rw.D) (v :: ys)
      unfold DatAll
      exact ⟨_, _, rfl, hv, h2⟩
    | succ i =>
      show DatAll K H (q.D :: (t.set i r).map Rw.D) (y :: ys.set i v)
      unfold DatAll
      exact ⟨_, _, rfl, h1, ih h2⟩
theorem cut_post {xs : List V} {i : Nat} (h : i ≤ xs.length) : cutV xs (some (i : Int)) none = xs.drop i := by
  unfold cutV
  have e1 : HT.sIx xs.length xs.length none = xs.length := rfl
  rw [HT.sIx_nat, e1, Nat.min_eq_left h]
  exact List.take_of_length_le (by rw [List.length_drop]; exact Nat.le_refl _)
theorem cut_pst {xs : List V} {i : Nat} : cutV xs (some (i : Int)) none = xs.drop i := by
  by_cases h : i ≤ xs.length
  · exact cut_post h
  · unfold cutV
    have e1 : HT.sIx xs.length xs.length none = xs.length := rfl
    rw [HT.sIx_nat, e1, Nat.min_eq_right (by omega), List.drop_of_length_le (Nat.le_refl _), List.drop_of_length_le (by omega), List.take_nil]
theorem FsAt.mem {K : PySem.W.Frag} {Hb H : Hp} {n k : Nat} {L : Addr} {fos : List Fo} {x : Fo} (h : FsAt K Hb H n L fos) (hk : fos[k]? = some x) : FoAt K H x ∧ FnOk' x.f ∧ x.f.ps.length ≤ 10 ∧ x.f.rows.length ≤ n := h.at_ x (List.mem_of_getElem? hk)
theorem fn_dat {K : PySem.W.Frag} {H : Hp} {b pa ra : Addr} {f : Fn} {rvs : List V} (h : SqT K H b [.str f.name, .bl f.folded, .ref pa, .ref ra]) (h1 : SqT K H pa (f.ps.map V.str)) (h2 : SqT K H ra rvs) (h3 : DatAll K H (f.rows.map Rw.D) rvs) : DatV K H f.D (.ref b) := by
  unfold Fn.D DatV
  refine ⟨b, _, rfl, h, ?_⟩
  unfold DatAll
  refine ⟨_, _, rfl, by unfold DatV; rfl, ?_⟩
  unfold DatAll
  refine ⟨_, _, rfl, by unfold DatV; rfl, ?_⟩
  unfold DatAll
  refine ⟨_, _, rfl, by unfold DatV; exact ⟨pa, _, rfl, h1, dat_strs _⟩, ?_⟩
  unfold DatAll
  exact ⟨_, _, rfl, by unfold DatV; exact ⟨ra, _, rfl, h2, h3⟩, by unfold DatAll; rfl⟩
theorem fn_lay {f : Fn} (ok : FnOk' f) : Lay 5 f.D := by
  refine Lay.tuple fun d hd => ?_
  rcases List.mem_cons.mp hd with rfl | hd
  · exact Lay.str ok.1.1
  rcases List.mem_cons.mp hd with rfl | hd
  · exact Lay.bool _
  rcases List.mem_cons.mp hd with rfl | hd
  · exact Lay.tuple fun d hd => by
      obtain ⟨p, hp, rfl⟩ := List.mem_map.mp hd
      exact Lay.str (ok.2.1 p hp).1
  rw [List.mem_singleton.mp hd]
  exact Lay.tuple fun d hd => by
    obtain ⟨r, hr, rfl⟩ := List.mem_map.mp hd
    exact (ok.2.2 r hr).2.2
theorem same_ers {H H' : Hp} {p : Addr} (s : Same H H') (hp : H p = none) : Same H (ers p H') := fun b o hb => by
  rw [ers_ne (fun z => by rw [z, hp] at hb; cases hb)]
  exact s b o hb
theorem da_of {α : Type} {D : α → PyData} {K : PySem.W.Frag} {H : Hp} : ∀ {l : List α} {vs : List V}, vs.length = l.length → (∀ (i : Nat) v, vs[i]? = some v → ∃ a, l[i]? = some a ∧ DatV K H (D a) v) → DatAll K H (l.map D) vs
  | [], vs, e, _ => by
    obtain rfl := List.length_eq_zero_iff.mp e
    show DatAll K H [] []
    unfold DatAll
    rfl
  | a :: r, [], e, _ => by cases e
  | a :: r, v :: vs, e, h => by
    obtain ⟨b, hb, hv⟩ := h 0 v rfl
    cases hb
    show DatAll K H (D a :: r.map D) (v :: vs)
    unfold DatAll
    exact ⟨_, _, rfl, hv, da_of (Nat.succ.inj e) fun i u hu => h (i + 1) u hu⟩

def dueD : Option Out → List PyData
  | none => [.str "good"]
  | some .non => [.str "none"]
  | some (.twice w) => [.str "twice", .str w]
  | some (.nest f k) => [.str "nest", .str f, .int k]
  | some (.call f k) => [.str "call", .str f, .int k]
def OutOk : Out → Prop
  | .non => True
  | .twice w => PyData.strOk w = true
  | .nest f _ => PyData.strOk f = true
  | .call f _ => PyData.strOk f = true
theorem due_lay {o : Option Out} (h : ∀ x, o = some x → OutOk x) : Lay 2 (.list (dueD o)) := by
  have s : ∀ {x : Str}, PyData.strOk x = true → Lay 1 (.str x) := fun h => Lay.str h
  refine Lay.list fun d hd => ?_
  cases o with
  | none => rw [List.mem_singleton.mp hd]; exact s (by decide +kernel)
  | some x =>
    have hx := h x rfl
    cases x with
    | non => rw [List.mem_singleton.mp hd]; exact s (by decide +kernel)
    | twice w =>
      rcases List.mem_cons.mp hd with rfl | hd
      · exact s (by decide +kernel)
      · rw [List.mem_singleton.mp hd]; exact s hx
    | nest f k =>
      rcases List.mem_cons.mp hd with rfl | hd
      · exact s (show PyData.strOk "nest" = true by decide +kernel)
      rcases List.mem_cons.mp hd with rfl | hd
      · exact s hx
      · rw [List.mem_singleton.mp hd]; exact Lay.int _
    | call f k =>
      rcases List.mem_cons.mp hd with rfl | hd
      · exact s (show PyData.strOk "call" = true by decide +kernel)
      rcases List.mem_cons.mp hd with rfl | hd
      · exact s hx
      · rw [List.mem_singleton.mp hd]; exact Lay.int _
theorem tw_mem {ns : List Str} {w : Str} (h : tw ns = some w) : w ∈ ns := by
  unfold tw at h
  obtain ⟨i, hi, rfl⟩ := Option.map_eq_some_iff.mp h
  have hl : i < ns.length := List.mem_range.mp (List.mem_of_find?_eq_some hi)
  rw [getD_of (List.getElem?_eq_getElem hl)]
  exact List.getElem_mem hl
theorem fnM_ok {fs : List Fn} {f : Fn} {o : Out} (h : FnOk' f) (e : fnM fs f = some o) : OutOk o := by
  unfold fnM at e
  cases h1 : tw f.ps with
  | some w =>
    rw [h1] at e
    cases e
    exact (h.2.1 w (tw_mem h1)).1
  | none =>
    rw [h1] at e
    cases h2 : nst (f.rows.map (·.kind)) with
    | some k => rw [h2] at e; cases e; exact h.1.1
    | none =>
      rw [h2] at e
      obtain ⟨k, _, rfl⟩ := Option.map_eq_some_iff.mp e
      exact h.1.1
theorem lookM_ok {fs : List Fn} {o : Out} (h : ∀ f ∈ fs, FnOk' f) (e : lookM fs = some o) : OutOk o := by
  unfold lookM at e
  split at e
  · cases e; exact trivial
  · cases h1 : tw (fs.map (·.name)) with
    | some w =>
      rw [h1] at e
      cases e
      obtain ⟨f, hf, rfl⟩ := List.mem_map.mp (tw_mem h1)
      exact (h f hf).1.1
    | none =>
      rw [h1] at e
      obtain ⟨f, hf, q⟩ := List.exists_of_findSome?_eq_some e
      exact fnM_ok (h f hf) q
def goodP : List Fn := [⟨"fns", true, [], [⟨"back", [.int 0]⟩]⟩]
theorem look_good : lookM goodP = none := by decide +kernel
end Lk

set_option Elab.async false
set_option linter.all false
set_option maxRecDepth 100000
set_option maxHeartbeats 4000000
namespace K16
open PySem L2 Gx Lk
def top (i : Nat) : Stmt := PySem.Challenge.pw_stopglass_k16_programs_in_order.main.body.getD i (.Pass ⟨0, 0, 0, 0⟩)
abbrev s_TwiceNamed_init : Stmt := inClass (top 4) 0
abbrev s_BadNest_init : Stmt := inClass (top 5) 0
abbrev s_BadCall_init : Stmt := inClass (top 6) 0
abbrev s_look : Stmt := top 16
abbrev s_look_for_twice : Stmt := top 17
abbrev s_look_at_nests : Stmt := top 18
abbrev s_look_at_calls : Stmt := top 19
abbrev s_l_cell : Stmt := top 21
abbrev s_l_part : Stmt := top 22
abbrev s_l_name : Stmt := top 23
abbrev s_l_call : Stmt := top 24
abbrev s_l_rows : Stmt := top 25
abbrev s_l_functions : Stmt := top 26
abbrev s_l_spoilt : Stmt := top 27
abbrev s_l_again : Stmt := top 28
abbrev s_l_nest : Stmt := top 29
abbrev s_l_due : Stmt := top 30
abbrev s_l_whole : Stmt := top 31
abbrev s_l_other : Stmt := top 32
abbrev s_l_told : Stmt := top 33
abbrev s_law : Stmt := top 34
set_option genInjectivity false in
set_option genSizeOf false in
structure Adr where
  x_GlassError : Addr
  x_NoFunction : Addr
  x_TwiceNamed : Addr
  x_BadNest : Addr
  x_BadCall : Addr
  x_BadRow : Addr
  x_NoName : Addr
  x_Ended : Addr
  x_TooLong : Addr
  x_Gone : Addr
  x_NotBox : Addr
  x_Shared : Addr
  x_BadBits : Addr
  x_Untrue : Addr
  a_TwiceNamed_init : Addr
  d_TwiceNamed_init : FuncData
  a_BadNest_init : Addr
  d_BadNest_init : FuncData
  a_BadCall_init : Addr
  d_BadCall_init : FuncData
  a_look : Addr
  d_look : FuncData
  a_look_for_twice : Addr
  d_look_for_twice : FuncData
  a_look_at_nests : Addr
  d_look_at_nests : FuncData
  a_look_at_calls : Addr
  d_look_at_calls : FuncData
  a_l_cell : Addr
  d_l_cell : FuncData
  a_l_part : Addr
  d_l_part : FuncData
  a_l_name : Addr
  d_l_name : FuncData
  a_l_call : Addr
  d_l_call : FuncData
  a_l_rows : Addr
  d_l_rows : FuncData
  a_l_functions : Addr
  d_l_functions : FuncData
  a_l_spoilt : Addr
  d_l_spoilt : FuncData
  a_l_again : Addr
  d_l_again : FuncData
  a_l_nest : Addr
  d_l_nest : FuncData
  a_l_due : Addr
  d_l_due : FuncData
  a_l_whole : Addr
  d_l_whole : FuncData
  a_l_other : Addr
  d_l_other : FuncData
  a_l_told : Addr
  d_l_told : FuncData
  a_law : Addr
  d_law : FuncData
structure Txt (K : PySem.W.Frag) (mg : Str → Option Value) (t : Adr) : Prop where
  x_GlassError : XClsOk K mg "GlassError" t.x_GlassError
  x_NoFunction : XClsOk K mg "NoFunction" t.x_NoFunction
  x_TwiceNamed : XClsOk K mg "TwiceNamed" t.x_TwiceNamed
  x_BadNest : XClsOk K mg "BadNest" t.x_BadNest
  x_BadCall : XClsOk K mg "BadCall" t.x_BadCall
  g_BadRow : mg "BadRow" = some (.ref t.x_BadRow)
  g_NoName : mg "NoName" = some (.ref t.x_NoName)
  g_Ended : mg "Ended" = some (.ref t.x_Ended)
  g_TooLong : mg "TooLong" = some (.ref t.x_TooLong)
  g_Gone : mg "Gone" = some (.ref t.x_Gone)
  g_NotBox : mg "NotBox" = some (.ref t.x_NotBox)
  g_Shared : mg "Shared" = some (.ref t.x_Shared)
  g_BadBits : mg "BadBits" = some (.ref t.x_BadBits)
  g_Untrue : mg "Untrue" = some (.ref t.x_Untrue)
  i0_NoFunction : PySem.W.findIn K (.ref t.x_NoFunction) "__init__" = some (some (.builtin "ValueError.__init__"))
  e_NoFunction : PySem.W.mroIn K t.x_NoFunction (.ref t.x_GlassError) = some true
  k_NoFunction_NoFunction : PySem.W.kitOne K (.ref t.x_NoFunction) (.ref t.x_NoFunction) = some true
  k_NoFunction_TwiceNamed : PySem.W.kitOne K (.ref t.x_NoFunction) (.ref t.x_TwiceNamed) = some false
  k_NoFunction_BadNest : PySem.W.kitOne K (.ref t.x_NoFunction) (.ref t.x_BadNest) = some false
  k_NoFunction_BadCall : PySem.W.kitOne K (.ref t.x_NoFunction) (.ref t.x_BadCall) = some false
  v_NoFunction : PySem.W.kitOne K (.ref t.x_NoFunction) (.type "ValueError") = some true
  y_NoFunction : PySem.W.kitAny K (.ref t.x_NoFunction) [.ref t.x_BadRow, .ref t.x_NoName, .ref t.x_Ended, .ref t.x_TooLong, .ref t.x_Gone, .ref t.x_NotBox, .ref t.x_Shared, .ref t.x_BadBits, .ref t.x_Untrue] = some false
  n_TwiceNamed_word : NoAttr K t.x_TwiceNamed "word"
  e_TwiceNamed : PySem.W.mroIn K t.x_TwiceNamed (.ref t.x_GlassError) = some true
  k_TwiceNamed_NoFunction : PySem.W.kitOne K (.ref t.x_TwiceNamed) (.ref t.x_NoFunction) = some false
  k_TwiceNamed_TwiceNamed : PySem.W.kitOne K (.ref t.x_TwiceNamed) (.ref t.x_TwiceNamed) = some true
  k_TwiceNamed_BadNest : PySem.W.kitOne K (.ref t.x_TwiceNamed) (.ref t.x_BadNest) = some false
  k_TwiceNamed_BadCall : PySem.W.kitOne K (.ref t.x_TwiceNamed) (.ref t.x_BadCall) = some false
  v_TwiceNamed : PySem.W.kitOne K (.ref t.x_TwiceNamed) (.type "ValueError") = some true
  y_TwiceNamed : PySem.W.kitAny K (.ref t.x_TwiceNamed) [.ref t.x_BadRow, .ref t.x_NoName, .ref t.x_Ended, .ref t.x_TooLong, .ref t.x_Gone, .ref t.x_NotBox, .ref t.x_Shared, .ref t.x_BadBits, .ref t.x_Untrue] = some false
  n_BadNest_function : NoAttr K t.x_BadNest "function"
  n_BadNest_at : NoAttr K t.x_BadNest "at"
  e_BadNest : PySem.W.mroIn K t.x_BadNest (.ref t.x_GlassError) = some true
  k_BadNest_NoFunction : PySem.W.kitOne K (.ref t.x_BadNest) (.ref t.x_NoFunction) = some false
  k_BadNest_TwiceNamed : PySem.W.kitOne K (.ref t.x_BadNest) (.ref t.x_TwiceNamed) = some false
  k_BadNest_BadNest : PySem.W.kitOne K (.ref t.x_BadNest) (.ref t.x_BadNest) = some true
  k_BadNest_BadCall : PySem.W.kitOne K (.ref t.x_BadNest) (.ref t.x_BadCall) = some false
  v_BadNest : PySem.W.kitOne K (.ref t.x_BadNest) (.type "ValueError") = some true
  y_BadNest : PySem.W.kitAny K (.ref t.x_BadNest) [.ref t.x_BadRow, .ref t.x_NoName, .ref t.x_Ended, .ref t.x_TooLong, .ref t.x_Gone, .ref t.x_NotBox, .ref t.x_Shared, .ref t.x_BadBits, .ref t.x_Untrue] = some false
  n_BadCall_function : NoAttr K t.x_BadCall "function"
  n_BadCall_at : NoAttr K t.x_BadCall "at"
  e_BadCall : PySem.W.mroIn K t.x_BadCall (.ref t.x_GlassError) = some true
  k_BadCall_NoFunction : PySem.W.kitOne K (.ref t.x_BadCall) (.ref t.x_NoFunction) = some false
  k_BadCall_TwiceNamed : PySem.W.kitOne K (.ref t.x_BadCall) (.ref t.x_TwiceNamed) = some false
  k_BadCall_BadNest : PySem.W.kitOne K (.ref t.x_BadCall) (.ref t.x_BadNest) = some false
  k_BadCall_BadCall : PySem.W.kitOne K (.ref t.x_BadCall) (.ref t.x_BadCall) = some true
  v_BadCall : PySem.W.kitOne K (.ref t.x_BadCall) (.type "ValueError") = some true
  y_BadCall : PySem.W.kitAny K (.ref t.x_BadCall) [.ref t.x_BadRow, .ref t.x_NoName, .ref t.x_Ended, .ref t.x_TooLong, .ref t.x_Gone, .ref t.x_NotBox, .ref t.x_Shared, .ref t.x_BadBits, .ref t.x_Untrue] = some false
  TwiceNamed_init : XIniOk K t.x_TwiceNamed "TwiceNamed.__init__" s_TwiceNamed_init ["self", "word"] t.a_TwiceNamed_init t.d_TwiceNamed_init
  BadNest_init : XIniOk K t.x_BadNest "BadNest.__init__" s_BadNest_init ["self", "function", "at"] t.a_BadNest_init t.d_BadNest_init
  BadCall_init : XIniOk K t.x_BadCall "BadCall.__init__" s_BadCall_init ["self", "function", "at"] t.a_BadCall_init t.d_BadCall_init
  look : DefOk K mg "look" s_look ["program"] t.a_look t.d_look
  look_for_twice : DefOk K mg "look_for_twice" s_look_for_twice ["names"] t.a_look_for_twice t.d_look_for_twice
  look_at_nests : DefOk K mg "look_at_nests" s_look_at_nests ["name", "rows"] t.a_look_at_nests t.d_look_at_nests
  look_at_calls : DefOk K mg "look_at_calls" s_look_at_calls ["name", "rows", "counts"] t.a_look_at_calls t.d_look_at_calls
  l_cell : DefOk K mg "_law_cell" s_l_cell ["_law_script", "_law_k"] t.a_l_cell t.d_l_cell
  l_part : DefOk K mg "_law_part" s_l_part ["_law_cell_here", "_law_j", "_law_many"] t.a_l_part t.d_l_part
  l_name : DefOk K mg "_law_name" s_l_name ["_law_cell_here", "_law_k"] t.a_l_name t.d_l_name
  l_call : DefOk K mg "_law_call" s_l_call ["_law_cell_here", "_law_base", "_law_sizes"] t.a_l_call t.d_l_call
  l_rows : DefOk K mg "_law_rows" s_l_rows ["_law_script", "_law_at", "_law_base", "_law_sizes"] t.a_l_rows t.d_l_rows
  l_functions : DefOk K mg "_law_functions" s_l_functions ["_law_script"] t.a_l_functions t.d_l_functions
  l_spoilt : DefOk K mg "_law_spoilt" s_l_spoilt ["_law_functions_here", "_law_sort", "_law_cell_here"] t.a_l_spoilt t.d_l_spoilt
  l_again : DefOk K mg "_law_again" s_l_again ["_law_names"] t.a_l_again t.d_l_again
  l_nest : DefOk K mg "_law_nest" s_l_nest ["_law_rows_here"] t.a_l_nest t.d_l_nest
  l_due : DefOk K mg "_law_due" s_l_due ["_law_functions_here"] t.a_l_due t.d_l_due
  l_whole : DefOk K mg "_law_whole" s_l_whole ["_law_found"] t.a_l_whole t.d_l_whole
  l_other : DefOk K mg "_law_other" s_l_other ["_law_e"] t.a_l_other t.d_l_other
  l_told : DefOk K mg "_law_told" s_l_told ["_law_program"] t.a_l_told t.d_l_told
  law : DefOk K mg "law" s_law ["_law_script"] t.a_law t.d_law
  b_len : mg "len" = none
  b_list : mg "list" = none
  b_tuple : mg "tuple" = none
  b_isinstance : mg "isinstance" = none
  b_range : mg "range" = none
  b_enumerate : mg "enumerate" = none
  b_dict : mg "dict" = none
  b_str : mg "str" = none
  b_int : mg "int" = none
  b_bool : mg "bool" = none
  b_ValueError : mg "ValueError" = none
  bl : ∀ (s : Shared) (u : Value), BindsTo s t.d_law ⟨[u], []⟩ [("_law_script", u)]
section
variable {P : Program} {w : World} {K : PySem.W.Frag} {mg : Str → Option Value} {base : Heap} {t : Adr}
def clO (t : Adr) : Out → Addr
  | .non => t.x_NoFunction
  | .twice _ => t.x_TwiceNamed
  | .nest _ _ => t.x_BadNest
  | .call _ _ => t.x_BadCall
def fdO : Out → List (Str × V)
  | .non => []
  | .twice w => [("word", .str w)]
  | .nest f k => [("function", .str f), ("at", .int k)]
  | .call f k => [("function", .str f), ("at", .int k)]
def AtO (H : Hp) (d : Option Addr) : Out → Prop
  | .non => d = none
  | o => ∃ dx, d = some dx ∧ H dx = some (XD dx (fdO o))

def Thr (t : Adr) (H : Hp) (E : XK) (o : Out) : Prop := ∀ d H', Same H H' → AtO H' d o → E (.ref (clO t o)) d H'
theorem Thr.mono {H H1 : Hp} {E : XK} {o : Out} (h : Thr t H E o) (s : Same H H1) : Thr t H1 E o := fun d H' s' a => h d H' (s.trans s') a
def sp_TwiceNamed_init (t : Adr) : Sp := fun vs H Q _ => ∃ (x : Addr) (v : V), vs = [.ref x, v] ∧ H x = some (XO x t.x_TwiceNamed none) ∧ ∀ dx, H dx = none → Q .non (upd (upd H dx (XD dx [("word", v)])) x (XO x t.x_TwiceNamed (some dx)))
def sp_BadNest_init (t : Adr) : Sp := fun vs H Q _ => ∃ (x : Addr) (v u : V), vs = [.ref x, v, u] ∧ H x = some (XO x t.x_BadNest none) ∧ ∀ dx, H dx = none → Q .non (upd (upd H dx (XD dx [("function", v), ("at", u)])) x (XO x t.x_BadNest (some dx)))
def sp_BadCall_init (t : Adr) : Sp := fun vs H Q _ => ∃ (x : Addr) (v u : V), vs = [.ref x, v, u] ∧ H x = some (XO x t.x_BadCall none) ∧ ∀ dx, H dx = none → Q .non (upd (upd H dx (XD dx [("function", v), ("at", u)])) x (XO x t.x_BadCall (some dx)))
def sp_look_for_twice (K : PySem.W.Frag) (t : Adr) : Sp := fun vs H Q E => ∃ (p : Addr) (ns : List Str), vs = [.ref p] ∧ (SqL K H p (ns.map V.str) ∨ SqT K H p (ns.map V.str)) ∧ ns.length ≤ 1000 ∧
  (tw ns = none → ∀ H', Same H H' → Q .non H') ∧ ∀ x, tw ns = some x → Thr t H E (.twice x)
def sp_look_at_nests (K : PySem.W.Frag) (t : Adr) : Sp := fun vs H Q E => ∃ (nm : Str) (v : V) (rs : List Rw), vs = [.str nm, v] ∧ DatV K H (.tuple (rs.map Rw.D)) v ∧ rs.length ≤ 1000 ∧
  (nst (rs.map (·.kind)) = none → ∀ H', Same H H' → Q .non H') ∧ ∀ k, nst (rs.map (·.kind)) = some k → Thr t H E (.nest nm k)
def sp_look_at_calls (K : PySem.W.Frag) (t : Adr) : Sp := fun vs H Q E => ∃ (nm : Str) (v : V) (rs : List Rw) (c : Addr) (kvs : List (Key × V)) (fs : List Fn), vs = [.str nm, v, .ref c] ∧ DatV K H (.tuple (rs.map Rw.D)) v ∧ (∀ r ∈ rs, r.Ok) ∧ rs.length ≤ 1000 ∧
  H c = some (.dK kvs) ∧ (∀ f, valV kvs (.inr f) = (cnt fs f).map fun n => V.int (n : Nat)) ∧ (cll fs rs = none → ∀ H', Same H H' → Q .non H') ∧ ∀ k, cll fs rs = some k → Thr t H E (.call nm k)
def sp_look (K : PySem.W.Frag) (t : Adr) : Sp := fun vs H Q E => ∃ (p : Addr) (xs : List V) (fs : List Fn), vs = [.ref p] ∧ SqL K H p xs ∧ DatAll K H (fs.map Fn.D) xs ∧ fs.length ≤ 100 ∧ (∀ f ∈ fs, f.ps.length ≤ 100 ∧ f.rows.length ≤ 1000 ∧ ∀ r ∈ f.rows, r.Ok) ∧
  (lookM fs = none → ∀ H', Same H H' → Q (.bl true) H') ∧ ∀ o, lookM fs = some o → Thr t H E o
theorem xnew {H : Hp} {x dx : Addr} {o u : HO} (h1 : H x = none) (h2 : upd H x o dx = none) : dx ≠ x ∧ H dx = none := by
  have e : dx ≠ x := fun z => by rw [z, upd_same] at h2; cases h2
  exact ⟨e, by rwa [upd_ne e] at h2⟩

theorem xers {H : Hp} {x dx : Addr} {o u v : HO} (h1 : H x = none) (h2 : dx ≠ x) : ers x (upd (upd (upd H x o) dx u) x v) = upd H dx u := by
  funext b
  unfold L2.ers upd
  by_cases z : b = x
  · rw [if_pos z, if_neg (fun q => h2 (q.symm.trans z)), z]; exact h1.symm
  · rw [if_neg z, if_neg z]
    by_cases z2 : b = dx
    · rw [if_pos z2, if_pos z2]
    · rw [if_neg z2, if_neg z2, if_neg z]
def isN : Out → Bool
  | .non => true
  | _ => false
def isT : Out → Bool
  | .twice _ => true
  | _ => false
def isB : Out → Bool
  | .nest _ _ => true
  | _ => false
def isC : Out → Bool
  | .call _ _ => true
  | _ => false
theorem Txt.xO (T : Txt K mg t) (o : Out) : ∃ nm, XClsOk K mg nm (clO t o) := by
  cases o
  · exact ⟨_, T.x_NoFunction⟩
  · exact ⟨_, T.x_TwiceNamed⟩
  · exact ⟨_, T.x_BadNest⟩
  · exact ⟨_, T.x_BadCall⟩
theorem Txt.eO (T : Txt K mg t) (o : Out) : PySem.W.mroIn K (clO t o) (.ref t.x_GlassError) = some true := by
  cases o
  · exact T.e_NoFunction
  · exact T.e_TwiceNamed
  · exact T.e_BadNest
  · exact T.e_BadCall
theorem Txt.kN (T : Txt K mg t) (o : Out) : PySem.W.kitOne K (.ref (clO t o)) (.ref t.x_NoFunction) = some (isN o) := by
  cases o
  · exact T.k_NoFunction_NoFunction
  · exact T.k_TwiceNamed_NoFunction
  · exact T.k_BadNest_NoFunction
  · exact T.k_BadCall_NoFunction
theorem Txt.kT (T : Txt K mg t) (o : Out) : PySem.W.kitOne K (.ref (clO t o)) (.ref t.x_TwiceNamed) = some (isT o) := by
  cases o
  · exact T.k_NoFunction_TwiceNamed
  · exact T.k_TwiceNamed_TwiceNamed
  · exact T.k_BadNest_TwiceNamed
  · exact T.k_BadCall_TwiceNamed
theorem Txt.kB (T : Txt K mg t) (o : Out) : PySem.W.kitOne K (.ref (clO t o)) (.ref t.x_BadNest) = some (isB o) := by
  cases o
  · exact T.k_NoFunction_BadNest
  · exact T.k_TwiceNamed_BadNest
  · exact T.k_BadNest_BadNest
  · exact T.k_BadCall_BadNest
theorem Txt.kC (T : Txt K mg t) (o : Out) : PySem.W.kitOne K (.ref (clO t o)) (.ref t.x_BadCall) = some (isC o) := by
  cases o
  · exact T.k_NoFunction_BadCall
  · exact T.k_TwiceNamed_BadCall
  · exact T.k_BadNest_BadCall
  · exact T.k_BadCall_BadCall
theorem Txt.kV (T : Txt K mg t) (o : Out) : PySem.W.kitOne K (.ref (clO t o)) (.type "ValueError") = some true := by
  cases o
  · exact T.v_NoFunction
  · exact T.v_TwiceNamed
  · exact T.v_BadNest
  · exact T.v_BadCall
theorem Txt.kY (T : Txt K mg t) (o : Out) : PySem.W.kitAny K (.ref (clO t o)) [.ref t.x_BadRow, .ref t.x_NoName, .ref t.x_Ended, .ref t.x_TooLong, .ref t.x_Gone, .ref t.x_NotBox, .ref t.x_Shared, .ref t.x_BadBits, .ref t.x_Untrue] = some false := by
  cases o
  · exact T.y_NoFunction
  · exact T.y_TwiceNamed
  · exact T.y_BadNest
  · exact T.y_BadCall
theorem AtO.dx {H : Hp} {d : Option Addr} {o : Out} (h : AtO H d o) : ∀ dx, d = some dx → ∃ u, H dx = some u := by
  intro dx e
  cases o with
  | non => rw [show d = none from h] at e; cases e
  | _ => obtain ⟨dx', e', q⟩ := h; rw [e'] at e; cases e; exact ⟨_, q⟩
theorem AtO.mono {H H' : Hp} {d : Option Addr} {o : Out} (h : AtO H d o) (s : Same H H') : AtO H' d o := by
  cases o with
  | non => exact h
  | _ => obtain ⟨dx', e', q⟩ := h; exact ⟨dx', e', s _ _ q⟩
theorem refs_of {as : List Addr} {us : List Value} (h : Vals (as.map V.ref) us) : us = as.map Value.ref := by
  induction as generalizing us with
  | nil => cases h; rfl
  | cons a r ih =>
    cases h with
    | cons r1 r2 => rw [ih r2]; cases r1; rfl
def sp_l_whole (K : PySem.W.Frag) : Sp := fun vs H Q _ => ∃ (z : Int), vs = [.int z] ∧ Q (.bl true) H
def sp_l_other (K : PySem.W.Frag) (t : Adr) : Sp := fun vs H Q _ => ∃ (e : Addr) (d : Option Addr) (o : Out), vs = [.ref e] ∧ H e = some (XC e (clO t o) d) ∧ AtO H d o ∧ ∀ H', Same H H' → Q (.bl false) H'
def dueV : Option Out → List V
  | none => [.str "good"]
  | some .non => [.str "none"]
  | some (.twice w) => [.str "twice", .str w]
  | some (.nest f k) => [.str "nest", .str f, .int k]
  | some (.call f k) => [.str "call", .str f, .int k]
def sp_l_told (K : PySem.W.Frag) (t : Adr) : Sp := fun vs H Q _ => ∃ (p : Addr) (xs : List V) (fs : List Fn), vs = [.ref p] ∧ SqL K H p xs ∧ DatAll K H (fs.map Fn.D) xs ∧ fs.length ≤ 100 ∧ (∀ f ∈ fs, f.ps.length ≤ 100 ∧ f.rows.length ≤ 1000 ∧ ∀ r ∈ f.rows, r.Ok) ∧
  ∀ l H', Same H H' → H l = none → H' l = some (.lst (dueV (lookM fs))) → Q (.ref l) H'
def twV : Option Str → V
  | none => .non
  | some w => .str w
def nstI : Option Nat → Int
  | none => -1
  | some k => (k : Nat)
def sp_l_again (K : PySem.W.Frag) : Sp := fun vs H Q _ => ∃ (p : Addr) (ns : List Str), vs = [.ref p] ∧ SqL K H p (ns.map V.str) ∧ ns.length ≤ 1000 ∧ ∀ H', Same H H' → Q (twV (tw ns)) H'
def sp_l_nest (K : PySem.W.Frag) : Sp := fun vs H Q _ => ∃ (p : Addr) (xs : List V) (rs : List Rw), vs = [.ref p] ∧ SqL K H p xs ∧ DatAll K H (rs.map Rw.D) xs ∧ rs.length ≤ 1000 ∧ ∀ H', Same H H' → Q (.int (nstI (nst (rs.map (·.kind))))) H'
def sp_l_due (K : PySem.W.Frag) : Sp := fun vs H Q _ => ∃ (L : Addr) (fos : List Fo), vs = [.ref L] ∧ H L = some (.lst (fos.map fun x => V.ref x.e)) ∧ (∀ x ∈ fos, FoAt K H x ∧ x.Sz) ∧ fos.length ≤ 100 ∧
  ∀ l H', Same H H' → H l = none → H' l = some (.lst (dueV (lookM (fos.map (·.f))))) → Q (.ref l) H'
def sp_l_cell (K : PySem.W.Frag) : Sp := fun vs H Q _ => ∃ (a : Addr) (ns : List Int) (k : Int), vs = [.ref a, .int k] ∧ SqL K H a (ns.map V.int) ∧ ns.length ≤ 63 ∧ 0 ≤ k ∧ k < 1000000 ∧ ∀ z, Q (.int z) H
def sp_l_part (K : PySem.W.Frag) : Sp := fun vs H Q _ => ∃ (c j m : Int), vs = [.int c, .int j, .int m] ∧ 0 ≤ j ∧ 0 < m ∧ ∀ z H', 0 ≤ z → z < m → Same H H' → Q (.int z) H'
def sp_l_name (K : PySem.W.Frag) : Sp := fun vs H Q _ => ∃ (b k : Int), vs = [.int b, .int k] ∧ ∀ x H', K11.named x = true → Same H H' → Q (.str x) H'

def sp_l_call (K : PySem.W.Frag) : Sp := fun vs H Q _ => ∃ (c b : Int) (sz : Addr) (ss : List Int), vs = [.int c, .int b, .ref sz] ∧ SqL K H sz (ss.map V.int) ∧ ss ≠ [] ∧ ss.length ≤ 20 ∧ (∀ n ∈ ss, 0 ≤ n ∧ n ≤ 10) ∧
  ∀ (r : Rw) (v : V) H', Same H H' → DatV K H' r.D v → RwOk r → Q v H'

def sp_l_rows (K : PySem.W.Frag) : Sp := fun vs H Q _ => ∃ (a : Addr) (ns : List Int) (k b : Int) (sz : Addr) (ss : List Int), vs = [.ref a, .int k, .int b, .ref sz] ∧ SqL K H a (ns.map V.int) ∧ ns.length ≤ 63 ∧ 0 ≤ k ∧ k < 900000 ∧ SqL K H sz (ss.map V.int) ∧ ss ≠ [] ∧ ss.length ≤ 20 ∧ (∀ n ∈ ss, 0 ≤ n ∧ n ≤ 10) ∧
  ∀ (l : Addr) (rs : List Rw) (xs : List V) H', Same H H' → H l = none → H' l = some (.lst xs) → DatAll K H' (rs.map Rw.D) xs → rs.length ≤ 20 → (∀ r ∈ rs, RwOk r) → Q (.ref l) H'
def sp_l_functions (K : PySem.W.Frag) : Sp := fun vs H Q _ => ∃ (a : Addr) (ns : List Int), vs = [.ref a] ∧ SqL K H a (ns.map V.int) ∧ ns.length ≤ 63 ∧ ∀ L fos H', FsAt K H H' 20 L fos → Q (.ref L) H'
def sp_l_spoilt (K : PySem.W.Frag) : Sp := fun vs H Q _ => ∃ (Hb : Hp) (n : Nat) (L : Addr) (fos : List Fo) (z c : Int), vs = [.ref L, .int z, .int c] ∧ FsAt K Hb H n L fos ∧ n ≤ 100 ∧ 1 ≤ z ∧ z ≤ 12 ∧ ∀ L' fos' H', FsAt K Hb H' (n + 1) L' fos' → Q (.ref L') H'
def sp_law (K : PySem.W.Frag) : Sp := fun vs H Q _ => ∃ (a : Addr) (ns : List Int), vs = [.ref a] ∧ SqL K H a (ns.map V.int) ∧ ns.length ≤ 63 ∧ ∀ H', Q (.bl true) H'
end
end K16

set_option Elab.async false
set_option linter.all false
set_option maxRecDepth 100000
set_option maxHeartbeats 4000000
namespace K16
open PySem L2 Gx Lk
section
variable {P : Program} {w : World} {K : PySem.W.Frag} {mg : Str → Option Value} {base : Heap} {t : Adr}
theorem sc_TwiceNamed_init : FnScope ["self", "word"] ["self", "word"] (defScope s_TwiceNamed_init) := ⟨rfl, rfl, rfl, by decide +kernel, rfl, by decide +kernel, by decide +kernel⟩
theorem ok_TwiceNamed_init (T : Txt K mg t) : FnOk P w K mg base CX0 1 t.a_TwiceNamed_init t.d_TwiceNamed_init ["self", "word"] (sp_TwiceNamed_init t) := by
  refine T.TwiceNamed_init.F.ok sc_TwiceNamed_init (fun vs H Q E h => ?_) (fun cdv A outer s H vs Q E hr h => ?_)
  · obtain ⟨x, v, rfl, hx, q⟩ := h
    rfl
  · obtain ⟨x, v, rfl, hx, q⟩ := h
    refine ⟨_, (@pss_cons _ _ _ _ _ (ps_xfld (pv 0) (pv 1) (by rfl)) pss_nil), ?_⟩
    refine ⟨_, rfl, _, rfl, x, _, _, rfl, T.x_TwiceNamed, T.n_TwiceNamed_word, .inl ⟨hx, fun dx hd => q dx hd⟩⟩
end
end K16

set_option Elab.async false
set_option linter.all false
set_option maxRecDepth 100000
set_option maxHeartbeats 4000000
namespace K16
open PySem L2 Gx Lk
section
variable {P : Program} {w : World} {K : PySem.W.Frag} {mg : Str → Option Value} {base : Heap} {t : Adr}
theorem sc_BadNest_init : FnScope ["self", "function", "at"] ["self", "function", "at"] (defScope s_BadNest_init) := ⟨rfl, rfl, rfl, by decide +kernel, rfl, by decide +kernel, by decide +kernel⟩
theorem ok_BadNest_init (T : Txt K mg t) : FnOk P w K mg base CX0 1 t.a_BadNest_init t.d_BadNest_init ["self", "function", "at"] (sp_BadNest_init t) := by
  refine T.BadNest_init.F.ok sc_BadNest_init (fun vs H Q E h => ?_) (fun cdv A outer s H vs Q E hr h => ?_)
  · obtain ⟨x, v, u, rfl, hx, q⟩ := h
    rfl
  · obtain ⟨x, v, u, rfl, hx, q⟩ := h
    refine ⟨_, (@pss_cons _ _ _ _ _ (ps_xfld (pv 0) (pv 1) (by rfl)) (@pss_one _ _ _ (ps_xfld (pv 0) (pv 2) (by rfl)))), ?_⟩
    refine ⟨_, rfl, _, rfl, x, _, _, rfl, T.x_BadNest, T.n_BadNest_function, .inl ⟨hx, fun dx hd => ?_⟩⟩
    have ne : dx ≠ x := fun z => by rw [z, hx] at hd; cases hd
    refine ⟨_, rfl, _, rfl, x, _, _, rfl, T.x_BadNest, T.n_BadNest_at, .inr ⟨dx, _, upd_same, by rw [upd_ne ne, upd_same], ne, by simp, ?_⟩⟩
    have e : upd (upd (upd H dx (XD dx [("function", v)])) x (XO x t.x_BadNest (some dx))) dx (XD dx (putF "at" u [("function", v)])) = upd (upd H dx (XD dx [("function", v), ("at", u)])) x (XO x t.x_BadNest (some dx)) := by
      funext b
      unfold upd
      by_cases z1 : b = dx
      · rw [if_pos z1, if_neg (fun z => ne (z1.symm.trans z)), if_pos z1]; rfl
      · rw [if_neg z1]
        by_cases z2 : b = x
        · rw [if_pos z2, if_pos z2]
        · rw [if_neg z2, if_neg z2, if_neg z1, if_neg z1]
    rw [e]
    exact q dx hd
end
end K16

set_option Elab.async false
set_option linter.all false
set_option maxRecDepth 100000
set_option maxHeartbeats 4000000
namespace K16
open PySem L2 Gx Lk
section
variable {P : Program} {w : World} {K : PySem.W.Frag} {mg : Str → Option Value} {base : Heap} {t : Adr}
theorem sc_BadCall_init : FnScope ["self", "function", "at"] ["self", "function", "at"] (defScope s_BadCall_init) := ⟨rfl, rfl, rfl, by decide +kernel, rfl, by decide +kernel, by decide +kernel⟩
theorem ok_BadCall_init (T : Txt K mg t) : FnOk P w K mg base CX0 1 t.a_BadCall_init t.d_BadCall_init ["self", "function", "at"] (sp_BadCall_init t) := by
  refine T.BadCall_init.F.ok sc_BadCall_init (fun vs H Q E h => ?_) (fun cdv A outer s H vs Q E hr h => ?_)
  · obtain ⟨x, v, u, rfl, hx, q⟩ := h
    rfl
  · obtain ⟨x, v, u, rfl, hx, q⟩ := h
    refine ⟨_, (@pss_cons _ _ _ _ _ (ps_xfld (pv 0) (pv 1) (by rfl)) (@pss_one _ _ _ (ps_xfld (pv 0) (pv 2) (by rfl)))), ?_⟩
    refine ⟨_, rfl, _, rfl, x, _, _, rfl, T.x_BadCall, T.n_BadCall_function, .inl ⟨hx, fun dx hd => ?_⟩⟩
    have ne : dx ≠ x := fun z => by rw [z, hx] at hd; cases hd
    refine ⟨_, rfl, _, rfl, x, _, _, rfl, T.x_BadCall, T.n_BadCall_at, .inr ⟨dx, _, upd_same, by rw [upd_ne ne, upd_same], ne, by simp, ?_⟩⟩
    have e : upd (upd (upd H dx (XD dx [("function", v)])) x (XO x t.x_BadCall (some dx))) dx (XD dx (putF "at" u [("function", v)])) = upd (upd H dx (XD dx [("function", v), ("at", u)])) x (XO x t.x_BadCall (some dx)) := by
      funext b
      unfold upd
      by_cases z1 : b = dx
      · rw [if_pos z1, if_neg (fun z => ne (z1.symm.trans z)), if_pos z1]; rfl
      · rw [if_neg z1]
        by_cases z2 : b = x
        · rw [if_pos z2, if_pos z2]
        · rw [if_neg z2, if_neg z2, if_neg z1, if_neg z1]
    rw [e]
    exact q dx hd
end
end K16

set_option Elab.async false
set_option linter.all false
set_option maxRecDepth 100000
set_option maxHeartbeats 4000000
namespace K16
open PySem L2 Gx Lk
section
variable {P : Program} {w : World} {K : PySem.W.Frag} {mg : Str → Option Value} {base : Heap} {t : Adr}
theorem sc_look_for_twice : FnScope ["names", "seen", "name"] ["names"] (defScope s_look_for_twice) := ⟨rfl, rfl, rfl, by decide +kernel, rfl, by decide +kernel, by decide +kernel⟩
theorem ok_look_for_twice (T : Txt K mg t) : FnOk P w K mg base (CXe P w) 3 t.a_look_for_twice t.d_look_for_twice ["names"] (sp_look_for_twice K t) := by
  have G_TwiceNamed_init : FnOk P w K mg base CX0 1 t.a_TwiceNamed_init t.d_TwiceNamed_init ["self", "word"] (sp_TwiceNamed_init t) := ok_TwiceNamed_init T
  refine T.look_for_twice.F.okE sc_look_for_twice (fun vs H Q E h => ?_) (fun cdv A outer s H vs Q E hr h => ?_)
  · obtain ⟨p, ns, rfl, hS, hn, hq, hE⟩ := h
    rfl
  · obtain ⟨p, ns, rfl, hS, hn, hq, hE⟩ := h
    refine ⟨_, (@pss_cons _ _ _ _ _ (@ps_set _ _ 1 _ _ _ _ sc_look_for_twice.nd rfl (Or.inl rfl) pe_dnewK (by rfl) (by first | exact .inl rfl | exact .inr rfl | assumption)) (@pss_one _ _ _ (ps_for pass_own rfl (pi_any (pv 0)) (pg_name (i := 2) sc_look_for_twice.nd rfl (Or.inl rfl)) (@pss_cons _ _ _ _ _ (@ps_if _ _ _ _ _ _ _ _ (pt_cmp (pc_din (u1' hr.units) (pv 2) (pv 1))) (@pss_one _ _ _ (raiseD T.x_TwiceNamed T.TwiceNamed_init G_TwiceNamed_init (hr.mono (by decide)) rfl throws_e (@pa_cons _ _ _ _ _ (pv 2) pa_nil (by rfl)))) pss_nil) (@pss_one _ _ _ (ps_dput (u1' hr.units) (pv 1) (pv 2) pe_bl (by rfl))))))), ?_⟩
    intro d hd
    have s0 : Same H (upd H d (.dK [])) := Same.new hd
    have K0 : (fun (i : Nat) (σ : St) (H2 : Hp) => i ≤ ns.length ∧ Same H H2 ∧ (∃ v2, σ = [some (.ref p), some (.ref d), v2]) ∧ H2 d = some (.dK (tru (ns.take i))) ∧ ∀ j y, j < i → ns[j]? = some y → y ∉ ns.take j) 0 [some (.ref p), some (.ref d), none] (upd H d (.dK [])) :=
      ⟨Nat.zero_le _, s0, ⟨none, rfl⟩, upd_same, fun j y hj => absurd hj (Nat.not_lt_zero _)⟩
    refine ⟨_, rfl, p, rfl, ?_⟩
    rcases hS with hS | hS
    · refine .inl ⟨⟨_, s0.seq hS⟩, for_list (xs := ns.map V.str) (fun (i : Nat) (σ : St) (H2 : Hp) => i ≤ ns.length ∧ Same H H2 ∧ (∃ v2, σ = [some (.ref p), some (.ref d), v2]) ∧ H2 d = some (.dK (tru (ns.take i))) ∧ ∀ j y, j < i → ns[j]? = some y → y ∉ ns.take j) K0 (fun i σ H2 _ h => h.2.1.seq hS) ?_ ?_⟩

      · rintro i x σ H2 hx ⟨hi, s2, ⟨v2, rfl⟩, hD, hA⟩
        obtain ⟨e, he, hem, rfl⟩ := map_at hx
        have hil : i < ns.length := (List.getElem?_eq_some_iff.mp he).1
        refine ⟨_, rfl, _, rfl, d, _, rfl, DGet.k (k := .inr e) hD, _, rfl, ?_⟩
        by_cases hm : e ∈ ns.take i
        · refine iteP (by rw [tru_val]; exact decide_eq_true hm) ?_
          refine ⟨_, rfl, fun x hx' => ⟨x, _, rfl, upd_same, fun dx hdx => ⟨rfl, some dx, upd_same, ?_⟩⟩⟩
          obtain ⟨ne, hdx'⟩ := xnew (u := .lst []) hx' hdx
          rw [xers hx' ne]
          exact hE e (tw_some he hm hA) _ _ (s2.trans (Same.new hdx')) ⟨dx, rfl, upd_same⟩
        · refine iteN (by rw [tru_val, decide_eq_false hm]; exact Bool.false_ne_true) ?_
          refine ⟨_, rfl, _, rfl, d, _, rfl, DPut.k (k := .inr e) hD (by rw [tru_len, List.length_take]; exact lt_1000 (by omega)), hil, s2.upd hd, ⟨_, rfl⟩, ?_, fun j y hj hy => ?_⟩
          · rw [upd_same, tru_put hm, take_snoc he]
          · by_cases z : j = i
            · subst z; rw [he] at hy; cases hy; exact hm
            · exact hA j y (by omega) hy
      · rintro σ H2 ⟨hi, s2, ⟨v2, rfl⟩, hD, hA⟩
        refine hq (tw_none fun j y hy => hA j y ?_ hy) H2 s2
        rw [List.length_map]
        exact (List.getElem?_eq_some_iff.mp hy).1

    · refine .inr ⟨⟨_, s0.tup hS⟩, for_tup (xs := ns.map V.str) (fun (i : Nat) (σ : St) (H2 : Hp) => i ≤ ns.length ∧ Same H H2 ∧ (∃ v2, σ = [some (.ref p), some (.ref d), v2]) ∧ H2 d = some (.dK (tru (ns.take i))) ∧ ∀ j y, j < i → ns[j]? = some y → y ∉ ns.take j) K0 (fun i σ H2 _ h => h.2.1.tup hS) ?_ ?_⟩

      · rintro i x σ H2 hx ⟨hi, s2, ⟨v2, rfl⟩, hD, hA⟩
        obtain ⟨e, he, hem, rfl⟩ := map_at hx
        have hil : i < ns.length := (List.getElem?_eq_some_iff.mp he).1
        refine ⟨_, rfl, _, rfl, d, _, rfl, DGet.k (k := .inr e) hD, _, rfl, ?_⟩
        by_cases hm : e ∈ ns.take i
        · refine iteP (by rw [tru_val]; exact decide_eq_true hm) ?_
          refine ⟨_, rfl, fun x hx' => ⟨x, _, rfl, upd_same, fun dx hdx => ⟨rfl, some dx, upd_same, ?_⟩⟩⟩
          obtain ⟨ne, hdx'⟩ := xnew (u := .lst []) hx' hdx
          rw [xers hx' ne]
          exact hE e (tw_some he hm hA) _ _ (s2.trans (Same.new hdx')) ⟨dx, rfl, upd_same⟩
        · refine iteN (by rw [tru_val, decide_eq_false hm]; exact Bool.false_ne_true) ?_
          refine ⟨_, rfl, _, rfl, d, _, rfl, DPut.k (k := .inr e) hD (by rw [tru_len, List.length_take]; exact lt_1000 (by omega)), hil, s2.upd hd, ⟨_, rfl⟩, ?_, fun j y hj hy => ?_⟩
          · rw [upd_same, tru_put hm, take_snoc he]
          · by_cases z : j = i
            · subst z; rw [he] at hy; cases hy; exact hm
            · exact hA j y (by omega) hy
      · rintro σ H2 ⟨hi, s2, ⟨v2, rfl⟩, hD, hA⟩
        refine hq (tw_none fun j y hy => hA j y ?_ hy) H2 s2
        rw [List.length_map]
        exact (List.getElem?_eq_some_iff.mp hy).1
end
end K16

set_option Elab.async false
set_option linter.all false
set_option maxRecDepth 100000
set_option maxHeartbeats 4000000
namespace K16
open PySem L2 Gx Lk
section
variable {P : Program} {w : World} {K : PySem.W.Frag} {mg : Str → Option Value} {base : Heap} {t : Adr}
theorem sc_look_at_nests : FnScope ["name", "rows", "still", "at", "row", "kind"] ["name", "rows"] (defScope s_look_at_nests) := ⟨rfl, rfl, rfl, by decide +kernel, rfl, by decide +kernel, by decide +kernel⟩
theorem ok_look_at_nests (T : Txt K mg t) : FnOk P w K mg base (CXe P w) 3 t.a_look_at_nests t.d_look_at_nests ["name", "rows"] (sp_look_at_nests K t) := by
  have G_BadNest_init : FnOk P w K mg base CX0 1 t.a_BadNest_init t.d_BadNest_init ["self", "function", "at"] (sp_BadNest_init t) := ok_BadNest_init T
  refine T.look_at_nests.F.okE sc_look_at_nests (fun vs H Q E h => ?_) (fun cdv A outer s H vs Q E hr h => ?_)
  · obtain ⟨nm, v, rs, rfl, hv, hn, hq, hE⟩ := h
    rfl
  · obtain ⟨nm, v, rs, rfl, hv, hn, hq, hE⟩ := h
    refine ⟨_, (@pss_cons _ _ _ _ _ (@ps_set _ _ 2 _ _ _ _ sc_look_at_nests.nd rfl (Or.inl rfl) (@pe_lst _ _ _ _ pa_nil) (by rfl) (by first | exact .inl rfl | exact .inr rfl | assumption)) (@pss_cons _ _ _ _ _ (ps_for pass_own rfl (pi_enumT rfl T.b_enumerate (@pa_cons _ _ _ _ _ (pv 1) pa_nil (by rfl))) (pg_tup rfl (pgs_cons (pg_name (i := 3) sc_look_at_nests.nd rfl (Or.inl rfl)) (pgs_cons (pg_name (i := 4) sc_look_at_nests.nd rfl (Or.inl rfl)) pgs_nil))) (@pss_cons _ _ _ _ _ (@ps_set _ _ 5 _ _ _ _ sc_look_at_nests.nd rfl (Or.inl rfl) (@pe_ix _ _ _ _ _ _ _ ix_tup (pv 4) pe_int (fun _ _ => rfl)) (by rfl) (by first | exact .inl rfl | exact .inr rfl | assumption)) (@pss_one _ _ _ (@ps_if _ _ _ _ _ _ _ _ (@pt_cmpR _ _ _ _ _ _ _ _ op_in_seq (pv 5) (@pe_tup _ _ _ _ _ (@pa_cons _ _ _ _ _ pe_str (@pa_cons _ _ _ _ _ pe_str pa_nil (by rfl)) (by rfl))) (by with_unfolding_all rfl)) (@pss_one _ _ _ (@ps_expr _ _ _ _ (pe_bm PySem.F.plainAttrs_list PySem.F.slot_list_append PySem.F.type_list_append mt_append (pv 2) (@pa_cons _ _ _ _ _ (pv 5) pa_nil (by rfl))) (by rfl))) (@pss_one _ _ _ (@ps_if _ _ _ _ _ _ _ _ (@pt_cmpR _ _ _ _ _ _ _ _ op_eq (pv 5) pe_str (nomark _)) (@pss_cons _ _ _ _ _ (@ps_if _ _ _ _ _ _ _ _ (pt_not (pt_tru (K := K) rfl (pv 2) (by intro _; rfl))) (@pss_one _ _ _ (raiseD T.x_BadNest T.BadNest_init G_BadNest_init (hr.mono (by decide)) rfl throws_e (@pa_cons _ _ _ _ _ (pv 0) (@pa_cons _ _ _ _ _ (pv 3) pa_nil (by rfl)) (by rfl)))) pss_nil) (@pss_one _ _ _ (@ps_expr _ _ _ _ (pe_bm0 PySem.F.plainAttrs_list PySem.F.slot_list_pop PySem.F.type_list_pop mt_pop (pv 2)) (by rfl)))) (@pss_one _ _ _ (@ps_if _ _ _ _ _ _ _ _ (@pt_cmpR _ _ _ _ _ _ _ _ op_eq (pv 5) pe_str (nomark _)) (@pss_cons _ _ _ _ _ (@ps_if _ _ _ _ _ _ _ _ (@PW.pt _ _ _ (pw_or (pt_not (pt_tru (K := K) rfl (pv 2) (by intro _; rfl))) (pw_or1 (@pt_cmpR _ _ _ _ _ _ _ _ op_ne (@pe_ix _ _ _ _ _ _ _ ix_list (pv 2) (pe_un un_neg pe_int) (fun _ _ => rfl)) pe_str (nomark _))))) (@pss_one _ _ _ (raiseD T.x_BadNest T.BadNest_init G_BadNest_init (hr.mono (by decide)) rfl throws_e (@pa_cons _ _ _ _ _ (pv 0) (@pa_cons _ _ _ _ _ (pv 3) pa_nil (by rfl)) (by rfl)))) pss_nil) (@pss_one _ _ _ (ps_asg pe_str (pg_sub (pv 2) (pe_un un_neg pe_int) set_list)))) pss_nil)))))))) (@pss_one _ _ _ (@ps_if _ _ _ _ _ _ _ _ (@PW.pt _ _ _ (pw_or (pt_tru (K := K) rfl (pv 2) (by intro _; rfl)) (pw_or (pt_not (pt_tru (K := K) rfl (pv 1) (by intro _; rfl))) (pw_or1 (@pt_cmpR _ _ _ _ _ _ _ _ op_ne (@pe_ix _ _ _ _ _ _ _ ix_tup (@pe_ix _ _ _ _ _ _ _ ix_tup (pv 1) (pe_un un_neg pe_int) (fun _ _ => rfl)) pe_int (fun _ _ => rfl)) pe_str (nomark _)))))) (@pss_one _ _ _ (raiseD T.x_BadNest T.BadNest_init G_BadNest_init (hr.mono (by decide)) rfl throws_e (@pa_cons _ _ _ _ _ (pv 0) (@pa_cons _ _ _ _ _ (pe_callB call_len_seq (by rfl) T.b_len bt_len (@pa_cons _ _ _ _ _ (pv 1) pa_nil (by rfl))) pa_nil (by rfl)) (by rfl)))) pss_nil)))), ?_⟩
    obtain ⟨a, xs, rfl, hA, hd⟩ := tup_at hv
    have hlen := dat_len hd
    refine ⟨le0, fun l hl => ?_⟩
    have s0 : Same H (upd H l (.lst [])) := Same.new hl
    refine ⟨_, rfl, a, rfl, ⟨_, s0.tup hA⟩, for_enumT (xs := xs) (fun i σ H2 => i ≤ rs.length ∧ Same H H2 ∧ (∃ v3 v4 v5, σ = [some (.str nm), some (.ref a), some (.ref l), v3, v4, v5]) ∧ ∃ st, stk (rs.map (·.kind)) i = some st ∧ st.length ≤ i ∧ H2 l = some (.lst (st.map V.str))) ?_ ?_ ?_ ?_⟩
    · exact ⟨Nat.zero_le _, s0, ⟨none, none, none, rfl⟩, [], rfl, Nat.le_refl _, upd_same⟩
    · rintro i σ H2 hi ⟨_, s2, _⟩
      exact s2.tup hA
    · rintro i x σ H2 b hx ⟨hi', s2, ⟨v3, v4, v5, rfl⟩, st, hst, hsl, hL⟩ hb
      obtain ⟨r, hr', hD⟩ := dat_at hd hx
      have hi : i < rs.length := (List.getElem?_eq_some_iff.mp hr').1
      obtain ⟨rb, ys, rfl, hrow, hrest⟩ := row_at hD
      have hk : (rs.map (·.kind))[i]? = some r.kind := by rw [List.getElem?_map, hr']; rfl
      have s3 : Same H (upd H2 b (.tup [.int i, .ref rb])) := s2.trans (Same.new hb)
      have hL3 := Same.new (o := .tup [.int i, .ref rb]) hb _ _ hL
      refine ⟨b, _, rfl, SqT.of upd_same, rfl, _, _, rfl, _, _, rfl, rfl, ?_⟩
      refine ⟨_, rfl, rb, _, _, _, rfl, rfl, s3.tup hrow, at0, ?_⟩
      refine ⟨_, rfl, le2, fun p2 hp2 => ⟨p2, [V.str "if", V.str "while"], rfl, .inr (SqT.of upd_same), rfl, rfl, _, rfl, ?_⟩⟩
      have s4 := s3.trans (Same.new (o := .tup [V.str "if", V.str "while"]) hp2)
      have hL4 := Same.new (o := .tup [V.str "if", V.str "while"]) hp2 _ _ hL3
      have hml : (st.map V.str).length ≤ 1000 := by rw [List.length_map]; omega
      by_cases hO : r.kind = "if" ∨ r.kind = "while"
      · refine iteP ((in2 _ _ _).trans (decide_eq_true hO)) ?_
        refine ⟨_, rfl, .inl ⟨rfl, _, SqL.of hL4⟩, _, rfl, l, _, _, rfl, rfl, hL4, lt_1000 hml, ?_⟩
        refine ⟨hi, s4.upd hl, ⟨_, _, _, rfl⟩, st ++ [r.kind], by rw [stk_step hst hk, stp_o hO], by rw [List.length_append, List.length_singleton]; omega, ?_⟩
        rw [upd_same, List.map_append]; rfl
      refine iteN (fun z => hO (dec_true ((in2 _ _ _).symm.trans z))) ?_
      refine ⟨_, rfl, rfl, _, rfl, ?_⟩
      by_cases h1 : r.kind = "end"
      · refine iteP (decide_eq_true (congrArg V.str h1)) ?_
        have hstp : stk (rs.map (·.kind)) (i + 1) = if st = [] then none else some st.dropLast := by rw [stk_step hst hk, h1, stp_e]
        refine ⟨_, rfl, _, .inl ⟨_, SqL.of hL4, rfl⟩, ?_⟩
        by_cases hs : st = []
        · refine iteP (by rw [hs]; rfl) ?_
          refine ⟨_, rfl, _, rfl, fun x hx' => ⟨x, _, _, rfl, upd_same, fun dx hdx => ⟨rfl, some dx, upd_same, ?_⟩⟩⟩
          obtain ⟨ne, hdx'⟩ := xnew (u := .lst []) hx' hdx
          rw [xers hx' ne]
          exact hE i (nst_at hst hk (by rw [h1, stp_e, if_pos hs])) _ _ (s4.trans (Same.new hdx')) ⟨dx, rfl, upd_same⟩
        · obtain ⟨y, hy⟩ := last_some hs
          refine iteN (by cases st with | nil => exact absurd rfl hs | cons _ _ => exact Bool.false_ne_true) ?_
          have hy' : (st.map V.str)[(st.map V.str).length - 1]? = some (.str y) := by rw [List.length_map, List.getElem?_map, ← List.getLast?_eq_getElem?, hy]; rfl
          refine ⟨_, rfl, .inl ⟨rfl, _, SqL.of hL4⟩, l, _, V.str y, rfl, rfl, hL4, hy', ?_⟩
          refine ⟨hi, s4.upd hl, ⟨_, _, _, rfl⟩, st.dropLast, by rw [hstp, if_neg hs], by rw [List.length_dropLast]; omega, ?_⟩
          rw [upd_same, List.map_dropLast]
      refine iteN (fun z => h1 (V.str.inj (dec_true z))) ?_
      refine ⟨_, rfl, rfl, _, rfl, ?_⟩
      by_cases h2 : r.kind = "else"
      · refine iteP (decide_eq_true (congrArg V.str h2)) ?_
        refine ⟨_, rfl, _, .inl ⟨_, SqL.of hL4, rfl⟩, ?_⟩
        by_cases hs : st = []
        · refine iteP (by rw [hs]; rfl) ?_
          refine iteP rfl ?_
          refine ⟨_, rfl, _, rfl, fun x hx' => ⟨x, _, _, rfl, upd_same, fun dx hdx => ⟨rfl, some dx, upd_same, ?_⟩⟩⟩
          obtain ⟨ne, hdx'⟩ := xnew (u := .lst []) hx' hdx
          rw [xers hx' ne]
          exact hE i (nst_at hst hk (by rw [h2, stp_l, if_neg (by rw [hs]; intro z; cases z)])) _ _ (s4.trans (Same.new hdx')) ⟨dx, rfl, upd_same⟩
        · obtain ⟨y, hy⟩ := last_some hs
          refine iteN (by cases st with | nil => exact absurd rfl hs | cons _ _ => exact Bool.false_ne_true) ?_
          refine ⟨_, rfl, _, rfl, l, _, _, _, rfl, rfl, SqL.of hL4, last_at hy, rfl, _, rfl, ?_⟩
          by_cases hy2 : y = "if"
          · refine iteN (by rw [hy2]; decide +kernel) ?_
            refine ⟨_, rfl, _, rfl, l, _, _, _, rfl, rfl, hL4, by rw [List.length_map]; exact ix_last (List.length_pos_iff.mpr hs), ?_⟩
            refine ⟨hi, s4.upd hl, ⟨_, _, _, rfl⟩, st.dropLast ++ [("else" : Str)], by rw [stk_step hst hk, h2, stp_l, if_pos (by rw [hy, hy2])], by rw [List.length_append, List.length_dropLast, List.length_singleton]; omega, ?_⟩
            rw [upd_same, set_last hs]
          · refine iteP (by simp [hy2]) ?_
            refine ⟨_, rfl, _, rfl, fun x hx' => ⟨x, _, _, rfl, upd_same, fun dx hdx => ⟨rfl, some dx, upd_same, ?_⟩⟩⟩
            obtain ⟨ne, hdx'⟩ := xnew (u := .lst []) hx' hdx
            rw [xers hx' ne]
            exact hE i (nst_at hst hk (by rw [h2, stp_l, hy, if_neg (fun z => hy2 (Option.some.inj z))])) _ _ (s4.trans (Same.new hdx')) ⟨dx, rfl, upd_same⟩
      refine iteN (fun z => h2 (V.str.inj (dec_true z))) ?_
      exact ⟨hi, s4, ⟨_, _, _, rfl⟩, st, by rw [stk_step hst hk, stp_n hO h1 h2], by omega, hL4⟩
    · rintro σ H2 ⟨hi, s2, ⟨v3, v4, v5, rfl⟩, st, hst, hsl, hL⟩
      have hks : (rs.map (·.kind)).length = xs.length := by rw [List.length_map, hlen]
      have hend := nst_end (by rw [hks]; exact hst)
      have fin : (st = [] ∧ (rs.map (·.kind)).getLast? = some ("back" : Str)) → tNext { nx := fun x H' => Q V.non H', rt := Q } [some (V.str nm), some (V.ref a), some (V.ref l), v3, v4, v5] H2 := fun z => hq (by rw [hend, if_pos z]) _ s2
      have thr : ¬ (st = [] ∧ (rs.map (·.kind)).getLast? = some ("back" : Str)) → Thr t H2 E (.nest nm xs.length) := fun z => (hE xs.length (by rw [hend, if_neg z, hks])).mono s2
      refine ⟨_, rfl, _, .inl ⟨_, SqL.of hL, rfl⟩, ?_⟩
      by_cases hs : st = []
      · refine iteN (by rw [hs]; decide) ?_
        refine ⟨_, rfl, _, .inr (.inl ⟨_, s2.tup hA, rfl⟩), ?_⟩
        by_cases hr0 : rs = []
        · have hx0 : xs = [] := List.length_eq_zero_iff.mp (by rw [hlen, hr0]; rfl)
          refine iteP (by rw [hx0]; rfl) ?_
          refine iteP rfl ?_
          refine ⟨_, rfl, _, rfl, a, _, rfl, .inr (s2.tup hA), fun x hx' => ⟨x, _, _, rfl, upd_same, fun dx hdx => ⟨rfl, some dx, upd_same, ?_⟩⟩⟩
          obtain ⟨ne, hdx'⟩ := xnew (u := .lst []) hx' hdx
          rw [xers hx' ne]
          exact thr (fun z => by rw [hr0] at z; cases z.2) _ _ (Same.new hdx') ⟨dx, rfl, upd_same⟩
        · have hx0 : xs ≠ [] := fun z => hr0 (List.length_eq_zero_iff.mp (by rw [← hlen, z]; rfl))
          have hp : 0 < xs.length := List.length_pos_iff.mpr hx0
          refine iteN (by cases xs with | nil => exact absurd rfl hx0 | cons _ _ => exact Bool.false_ne_true) ?_
          obtain ⟨x, hx⟩ : ∃ x, xs[xs.length - 1]? = some x := ⟨_, List.getElem?_eq_getElem (by omega)⟩
          obtain ⟨r, hr', hD⟩ := dat_at hd hx
          obtain ⟨rb, ys, rfl, hrow, hrest⟩ := row_at hD
          have hkl : (rs.map (·.kind)).getLast? = some r.kind := by rw [List.getLast?_eq_getElem?, List.length_map, ← hlen, List.getElem?_map, hr']; rfl
          refine ⟨_, rfl, _, rfl, a, _, _, _, rfl, rfl, s2.tup hA, last_atV hx, rb, _, _, _, rfl, rfl, s2.tup hrow, at0, rfl, _, rfl, ?_⟩
          by_cases hb : r.kind = "back"
          · refine iteN (by rw [hb]; decide +kernel) ?_
            exact fin ⟨hs, by rw [hkl, hb]⟩
          · refine iteP (by simp [hb]) ?_
            refine ⟨_, rfl, _, rfl, a, _, rfl, .inr (s2.tup hA), fun x hx' => ⟨x, _, _, rfl, upd_same, fun dx hdx => ⟨rfl, some dx, upd_same, ?_⟩⟩⟩
            obtain ⟨ne, hdx'⟩ := xnew (u := .lst []) hx' hdx
            rw [xers hx' ne]
            exact thr (fun z => hb (Option.some.inj (hkl.symm.trans z.2))) _ _ (Same.new hdx') ⟨dx, rfl, upd_same⟩
      · refine iteP (by cases st with | nil => exact absurd rfl hs | cons _ _ => rfl) ?_
        refine iteP rfl ?_
        refine ⟨_, rfl, _, rfl, a, _, rfl, .inr (s2.tup hA), fun x hx' => ⟨x, _, _, rfl, upd_same, fun dx hdx => ⟨rfl, some dx, upd_same, ?_⟩⟩⟩
        obtain ⟨ne, hdx'⟩ := xnew (u := .lst []) hx' hdx
        rw [xers hx' ne]
        exact thr (fun z => hs z.1) _ _ (Same.new hdx') ⟨dx, rfl, upd_same⟩
end
end K16

set_option Elab.async false
set_option linter.all false
set_option maxRecDepth 100000
set_option maxHeartbeats 4000000
namespace K16
open PySem L2 Gx Lk
section
variable {P : Program} {w : World} {K : PySem.W.Frag} {mg : Str → Option Value} {base : Heap} {t : Adr}
theorem sc_look_at_calls : FnScope ["name", "rows", "counts", "at", "row"] ["name", "rows", "counts"] (defScope s_look_at_calls) := ⟨rfl, rfl, rfl, by decide +kernel, rfl, by decide +kernel, by decide +kernel⟩
theorem ok_look_at_calls (T : Txt K mg t) : FnOk P w K mg base (CXe P w) 3 t.a_look_at_calls t.d_look_at_calls ["name", "rows", "counts"] (sp_look_at_calls K t) := by
  have G_BadCall_init : FnOk P w K mg base CX0 1 t.a_BadCall_init t.d_BadCall_init ["self", "function", "at"] (sp_BadCall_init t) := ok_BadCall_init T
  refine T.look_at_calls.F.okE sc_look_at_calls (fun vs H Q E h => ?_) (fun cdv A outer s H vs Q E hr h => ?_)
  · obtain ⟨nm, v, rs, c, kvs, fs, rfl, hv, hok, hn, hC, hval, hq, hE⟩ := h
    rfl
  · obtain ⟨nm, v, rs, c, kvs, fs, rfl, hv, hok, hn, hC, hval, hq, hE⟩ := h
    refine ⟨_, (@pss_cons _ _ _ _ _ (ps_for pass_own rfl (pi_enumT rfl T.b_enumerate (@pa_cons _ _ _ _ _ (pv 1) pa_nil (by rfl))) (pg_tup rfl (pgs_cons (pg_name (i := 3) sc_look_at_calls.nd rfl (Or.inl rfl)) (pgs_cons (pg_name (i := 4) sc_look_at_calls.nd rfl (Or.inl rfl)) pgs_nil))) (@pss_one _ _ _ (@ps_if _ _ _ _ _ _ _ _ (@PW.pt _ _ _ (@pw_and _ _ _ _ _ _ _ (@pt_cmpR _ _ _ _ _ _ _ _ op_eq (@pe_ix _ _ _ _ _ _ _ ix_tup (pv 4) pe_int (fun _ _ => rfl)) pe_str (nomark _)) (@pw_and1 _ _ _ _ (@pt_cmpR _ _ _ _ _ _ _ _ op_ne (pe_dget1 (u1' hr.units) (pv 2) (@pe_ix _ _ _ _ _ _ _ ix_tup (pv 4) pe_int (fun _ _ => rfl)) ⟨rfl, rfl, rfl, rfl⟩) (pe_callB call_len_seq (by rfl) T.b_len bt_len (@pa_cons _ _ _ _ _ (@pe_ix _ _ _ _ _ _ _ ix_tup (pv 4) pe_int (fun _ _ => rfl)) pa_nil (by rfl))) (nomark _))))) (@pss_one _ _ _ (raiseD T.x_BadCall T.BadCall_init G_BadCall_init (hr.mono (by decide)) rfl throws_e (@pa_cons _ _ _ _ _ (pv 0) (@pa_cons _ _ _ _ _ (pv 3) pa_nil (by rfl)) (by rfl)))) pss_nil))) pss_nil), ?_⟩
    obtain ⟨a, xs, rfl, hA, hd⟩ := tup_at hv
    have hlen := dat_len hd
    refine ⟨_, rfl, a, rfl, ⟨_, hA⟩, for_enumT (xs := xs) (fun i σ H2 => i ≤ rs.length ∧ Same H H2 ∧ (∃ v3 v4, σ = [some (.str nm), some (.ref a), some (.ref c), v3, v4]) ∧ ∀ j q, j < i → rs[j]? = some q → bad fs q = false) ?_ ?_ ?_ ?_⟩
    · exact ⟨Nat.zero_le _, Same.refl _, ⟨none, none, rfl⟩, fun j q hj => absurd hj (Nat.not_lt_zero _)⟩
    · rintro i σ H2 hi ⟨_, s2, _⟩
      exact s2.tup hA
    · rintro i x σ H2 b hx ⟨hi', s2, ⟨v3, v4, rfl⟩, hB⟩ hb
      obtain ⟨r, hr', hD⟩ := dat_at hd hx
      have hi : i < rs.length := (List.getElem?_eq_some_iff.mp hr').1
      obtain ⟨rb, ys, rfl, hrow, hrest⟩ := row_at hD
      have s3 : Same H (upd H2 b (.tup [.int i, .ref rb])) := s2.trans (Same.new hb)
      refine ⟨b, _, rfl, SqT.of upd_same, rfl, _, _, rfl, _, _, rfl, rfl, ?_⟩
      refine ⟨_, rfl, rb, _, _, _, rfl, rfl, s3.tup hrow, at0, rfl, _, rfl, ?_⟩
      by_cases hc : r.kind = "call"
      · refine iteP (decide_eq_true (congrArg V.str hc)) ?_
        obtain ⟨x0, f, as, hre⟩ := hok r (List.mem_of_getElem? hr') hc
        rw [hre] at hrest
        obtain ⟨v0, ab, zs, rfl, hz, hzl⟩ := call_at hrest
        have hfn : r.fn = f := by unfold Rw.fn; rw [hre]
        have hrn : r.n = as.length := by unfold Rw.n; rw [hre]
        have hC3 := s3 _ _ hC
        have hsc : scal ((valV kvs (.inr f)).getD .non) (.int (zs.length : Nat)) = true := by
          rw [hval]
          cases cnt fs f <;> rfl
        have hdec : (!decide ((valV kvs (.inr f)).getD .non = .int (zs.length : Nat))) = bad fs r := by
          unfold bad
          rw [hval, hfn, hrn, hzl, beq_iff_eq.mpr hc, Bool.true_and]
          cases hcn : cnt fs f with
          | none => rfl
          | some n =>
            show (!decide (V.int (n : Nat) = V.int (as.length : Nat))) = (some n != some as.length)
            by_cases z : n = as.length
            · subst z; simp
            · have z2 : ¬ V.int (n : Nat) = V.int (as.length : Nat) := fun q => z (Int.ofNat.inj (V.int.inj q))
              rw [decide_eq_false z2]
              simp [z]
        refine ⟨_, rfl, c, rfl, .inl ⟨_, .inl hC3⟩, ?_⟩
        refine ⟨_, rfl, rb, _, _, _, rfl, rfl, s3.tup hrow, atN (i := 2) rfl, _, DGet.k (k := .inr f) hC3, _, rfl, rb, _, _, _, rfl, rfl, s3.tup hrow, atN (i := 3) rfl, ab, zs, rfl, .inr (s3.tup hz), hsc, _, rfl, ?_⟩
        by_cases hb2 : bad fs r = true
        · refine iteP (hdec.trans hb2) ?_
          refine ⟨_, rfl, _, rfl, fun x hx' => ⟨x, _, _, rfl, upd_same, fun dx hdx => ⟨rfl, some dx, upd_same, ?_⟩⟩⟩
          obtain ⟨ne, hdx'⟩ := xnew (u := .lst []) hx' hdx
          rw [xers hx' ne]
          exact hE i (cll_at hr' hb2 hB) _ _ (s3.trans (Same.new hdx')) ⟨dx, rfl, upd_same⟩
        · refine iteN (fun z => hb2 (hdec.symm.trans z)) ?_
          refine ⟨hi, s3, ⟨_, _, rfl⟩, fun j q hj hq' => ?_⟩
          by_cases z : j = i
          · subst z; rw [hr'] at hq'; cases hq'; exact Bool.eq_false_iff.mpr hb2
          · exact hB j q (by omega) hq'
      · refine iteN (fun z => hc (V.str.inj (dec_true z))) ?_
        refine ⟨hi, s3, ⟨_, _, rfl⟩, fun j q hj hq' => ?_⟩
        by_cases z : j = i
        · subst z; rw [hr'] at hq'; cases hq'; unfold bad; rw [beq_eq_false_iff_ne.mpr hc]; rfl
        · exact hB j q (by omega) hq'
    · rintro σ H2 ⟨hi, s2, ⟨v3, v4, rfl⟩, hB⟩
      refine hq (cll_none fun j q hj => hB j q ?_ hj) _ s2
      rw [hlen]
      exact (List.getElem?_eq_some_iff.mp hj).1
end
end K16

set_option Elab.async false
set_option linter.all false
set_option maxRecDepth 100000
set_option maxHeartbeats 4000000
namespace K16
open PySem L2 Gx Lk
section
variable {P : Program} {w : World} {K : PySem.W.Frag} {mg : Str → Option Value} {base : Heap} {t : Adr}
theorem sc_look : FnScope ["program", "counts", "name", "folded", "params", "rows"] ["program"] (defScope s_look) := ⟨rfl, rfl, rfl, by decide +kernel, rfl, by decide +kernel, by decide +kernel⟩
theorem ok_look (T : Txt K mg t) : FnOk P w K mg base (CXe P w) 4 t.a_look t.d_look ["program"] (sp_look K t) := by
  have G_look_for_twice : FnOk P w K mg base (CXe P w) 3 t.a_look_for_twice t.d_look_for_twice ["names"] (sp_look_for_twice K t) := ok_look_for_twice T
  have G_look_at_nests : FnOk P w K mg base (CXe P w) 3 t.a_look_at_nests t.d_look_at_nests ["name", "rows"] (sp_look_at_nests K t) := ok_look_at_nests T
  have G_look_at_calls : FnOk P w K mg base (CXe P w) 3 t.a_look_at_calls t.d_look_at_calls ["name", "rows", "counts"] (sp_look_at_calls K t) := ok_look_at_calls T
  refine T.look.F.okE sc_look (fun vs H Q E h => ?_) (fun cdv A outer s H vs Q E hr h => ?_)
  · obtain ⟨p, xs, fs, rfl, hS, hd, hn, hok, hq, hE⟩ := h
    rfl
  · obtain ⟨p, xs, fs, rfl, hS, hd, hn, hok, hq, hE⟩ := h
    refine ⟨_, (@pss_cons _ _ _ _ _ (@ps_if _ _ _ _ _ _ _ _ (@pt_cmpR _ _ _ _ _ _ _ _ op_eq (pe_callB call_len_seq (by rfl) T.b_len bt_len (@pa_cons _ _ _ _ _ (pv 0) pa_nil (by rfl))) pe_int (nomark _)) (@pss_one _ _ _ (raiseD0 T.x_NoFunction T.i0_NoFunction rfl throws_e)) pss_nil) (@pss_cons _ _ _ _ _ (@ps_expr _ _ _ _ (callX T.look_for_twice G_look_for_twice (hr.mono (by decide)) pass_e (@pa_cons _ _ _ _ _ (pe_comp (N' := ["function"]) (js := [none]) (by kernel_rfl) rfl (pi_list (pv 0)) own_name (fun _ _ _ _ => (pg_name (i := 0) (show (["function"] : List Str).Nodup by decide +kernel) rfl (Or.inl rfl) (.inr rfl))) (fun _ _ _ _ => pif_nil) (fun _ _ _ _ => (@pe_ix _ _ _ _ _ _ _ (show IxR _ (rIxT K) from ix_tup) (pv 0) pe_int (fun _ _ => rfl)))) pa_nil (by rfl))) (by rfl)) (@pss_cons _ _ _ _ _ (@ps_set _ _ 1 _ _ _ _ sc_look.nd rfl (Or.inl rfl) (pe_callTy (call_dict_of rfl) (by rfl) T.b_dict bt_dict (@pa_cons _ _ _ _ _ (pe_comp (N' := ["function"]) (js := [none]) (by kernel_rfl) rfl (pi_list (pv 0)) own_name (fun _ _ _ _ => (pg_name (i := 0) (show (["function"] : List Str).Nodup by decide +kernel) rfl (Or.inl rfl) (.inr rfl))) (fun _ _ _ _ => pif_nil) (fun _ _ _ _ => (@pe_tup _ _ _ _ _ (@pa_cons _ _ _ _ _ (@pe_ix _ _ _ _ _ _ _ (show IxR _ (rIxT K) from ix_tup) (pv 0) pe_int (fun _ _ => rfl)) (@pa_cons _ _ _ _ _ (pe_callB (show CallR _ (.builtin "len") (rLenK K) from call_len_seq) (by rfl) T.b_len bt_len (@pa_cons _ _ _ _ _ (@pe_ix _ _ _ _ _ _ _ (show IxR _ (rIxT K) from ix_tup) (pv 0) pe_int (fun _ _ => rfl)) pa_nil (by rfl))) pa_nil (by rfl)) (by rfl))))) pa_nil (by rfl))) (by rfl) (by first | exact .inl rfl | exact .inr rfl | assumption)) (@pss_cons _ _ _ _ _ (ps_for pass_own rfl (pi_list (pv 0)) (pg_tup rfl (pgs_cons (pg_name (i := 2) sc_look.nd rfl (Or.inl rfl)) (pgs_cons (pg_name (i := 3) sc_look.nd rfl (Or.inl rfl)) (pgs_cons (pg_name (i := 4) sc_look.nd rfl (Or.inl rfl)) (pgs_cons (pg_name (i := 5) sc_look.nd rfl (Or.inl rfl)) pgs_nil))))) (@pss_cons _ _ _ _ _ (@ps_expr _ _ _ _ (callX T.look_for_twice G_look_for_twice (hr.mono (by decide)) pass_e (@pa_cons _ _ _ _ _ (pv 4) pa_nil (by rfl))) (by rfl)) (@pss_cons _ _ _ _ _ (@ps_expr _ _ _ _ (callX T.look_at_nests G_look_at_nests (hr.mono (by decide)) pass_e (@pa_cons _ _ _ _ _ (pv 2) (@pa_cons _ _ _ _ _ (pv 5) pa_nil (by rfl)) (by rfl))) (by rfl)) (@pss_one _ _ _ (@ps_expr _ _ _ _ (callX T.look_at_calls G_look_at_calls (hr.mono (by decide)) pass_e (@pa_cons _ _ _ _ _ (pv 2) (@pa_cons _ _ _ _ _ (pv 5) (@pa_cons _ _ _ _ _ (pv 1) pa_nil (by rfl)) (by rfl)) (by rfl))) (by rfl)))))) (@pss_one _ _ _ (@ps_ret _ _ _ _ pe_bl)))))), ?_⟩
    have hlen := dat_len hd
    refine ⟨_, rfl, p, xs, rfl, .inl hS, rfl, _, rfl, ?_⟩
    by_cases h0 : fs = []
    · have hx0 : xs = [] := List.length_eq_zero_iff.mp (by rw [hlen, h0]; rfl)
      refine iteP (by rw [hx0]; rfl) ?_
      exact hE .non (by unfold lookM; rw [if_pos h0]) none H (Same.refl _) rfl
    have hx0 : xs ≠ [] := fun z => h0 (List.length_eq_zero_iff.mp (by rw [← hlen, z]; rfl))
    refine iteN (fun z => hx0 (List.length_eq_zero_iff.mp (Int.ofNat.inj (V.int.inj (dec_true z))))) ?_
    refine ⟨_, rfl, p, rfl, ⟨_, hS⟩, fun c hc => comp_list (xs := xs) (by omega) (fun i acc H2 => i ≤ fs.length ∧ Same H H2 ∧ H2 c = some (.lst acc) ∧ acc = (fs.take i).map fun f => V.str f.name) ⟨Nat.zero_le _, Same.new hc, upd_same, rfl⟩ ?_ ?_ ?_⟩
    · rintro i acc H2 hi ⟨hi', s2, h2, rfl⟩
      exact ⟨h2, by rw [List.length_map, List.length_take]; omega, s2.seq hS⟩
    · rintro i x acc H2 hx ⟨hi', s2, h2, rfl⟩
      obtain ⟨f, hf, hD⟩ := dat_at hd hx
      obtain ⟨b, pa, ra, _, rs', rfl, hb, hpa, hra, hrd, _⟩ := fn_at hD
      have hi : i < fs.length := (List.getElem?_eq_some_iff.mp hf).1
      refine ⟨_, rfl, b, _, _, _, rfl, rfl, s2.tup hb, at0, h2, hi, s2.upd hc, upd_same, ?_⟩
      rw [take_snoc hf, List.map_append]; rfl
    rintro acc H2 ⟨hi', s2, h2, rfl⟩
    have e2 : H2 c = some (.lst ((fs.map (·.name)).map V.str)) := by rw [h2, hlen, List.take_length, List.map_map]; rfl
    refine ⟨c, fs.map (·.name), rfl, .inl (SqL.of e2), by rw [List.length_map]; omega, fun htw H3 s3 => ?_, fun x hx => (hE (.twice x) (by unfold lookM; rw [if_neg h0, hx])).mono s2⟩
    have s3 : Same H H3 := s2.trans s3
    have hlk : lookM fs = fs.findSome? (fnM fs) := by unfold lookM; rw [if_neg h0, htw]
    refine ⟨_, rfl, p, rfl, ⟨_, s3.seq hS⟩, fun c2 hc2 => comp_list (xs := xs) (by omega) (fun i acc H4 => i ≤ fs.length ∧ Same H3 H4 ∧ H4 c2 = some (.lst acc) ∧ ∃ ps : List Addr, acc = ps.map V.ref ∧ Paired (fun a (kv : Key × V) => SqT K H4 a [kV kv.1, kv.2]) ps (cntL (fs.take i))) ⟨Nat.zero_le _, Same.new hc2, upd_same, [], rfl, .nil⟩ ?_ ?_ ?_⟩
    · rintro i acc H4 hi ⟨hi', s4, h4, ps, rfl, hps⟩
      refine ⟨h4, ?_, (s3.trans s4).seq hS⟩
      have := Paired.length hps
      rw [List.length_map, this]
      unfold cntL
      rw [List.length_map, List.length_take]
      omega
    · rintro i x acc H4 hx ⟨hi', s4, h4, ps, rfl, hps⟩
      obtain ⟨f, hf, hD⟩ := dat_at hd hx
      have hi : i < fs.length := (List.getElem?_eq_some_iff.mp hf).1
      obtain ⟨b, pa, ra, _, rs', rfl, hb, hpa, hra, hrd, _⟩ := fn_at hD
      have s34 := s3.trans s4
      refine ⟨_, rfl, b, _, _, _, rfl, rfl, s34.tup hb, at0, _, rfl, b, _, _, _, rfl, rfl, s34.tup hb, atN (i := 2) rfl, pa, _, rfl, .inr (s34.tup hpa), (by show 2 ≤ sizeLine; decide), fun a ha => ?_⟩
      have hap : a ≠ c2 := fun z => by rw [z, h4] at ha; cases ha
      have e : (upd H4 a (.tup [V.str f.name, V.int ((f.ps.map V.str).length : Nat)])) c2 = some (.lst (ps.map V.ref)) := by rw [upd_ne hap.symm]; exact h4
      refine ⟨e, hi, (s4.trans (Same.new ha)).upd hc2, upd_same, ps ++ [a], by rw [List.map_append]; rfl, ?_⟩
      have e3 : cntL (fs.take (i + 1)) = cntL (fs.take i) ++ [(Sum.inr f.name, V.int (f.ps.length : Nat))] := by
        unfold cntL
        rw [take_snoc hf, List.map_append]
        rfl
      rw [e3]
      refine Paired.snoc (Paired.mapP hps fun b kv z => sqT_lst ((Same.new ha).tup z) e) ?_
      exact SqT.of (by rw [upd_ne hap, upd_same, List.length_map]; rfl)
    rintro acc H4 ⟨hi4, s4, h4, ps, rfl, hps⟩
    rw [hlen, List.take_length] at hps
    refine ⟨c2, ps, cntL fs, rfl, SqL.of h4, hps, by unfold cntL; rw [List.length_map]; omega, fun d hd0 => ?_⟩
    have s34 := s3.trans s4
    have s5 := s34.trans (Same.new (o := .dK ((cntL fs).foldl (fun acc kv => putK acc kv.1 kv.2) [])) hd0)
    have hdH : H d = none := s34.free hd0
    have hcn := cnt_fold (fs := fs) (tw_nodup htw)
    refine ⟨_, rfl, p, rfl, ⟨_, s5.seq hS⟩, for_list (xs := xs) (fun i σ H5 => i ≤ fs.length ∧ Same H H5 ∧ (∃ v2 v3 v4 v5, σ = [some (.ref p), some (.ref d), v2, v3, v4, v5]) ∧ H5 d = some (.dK ((cntL fs).foldl (fun acc kv => putK acc kv.1 kv.2) [])) ∧ ∀ j g, j < i → fs[j]? = some g → fnM fs g = none) ?_ ?_ ?_ ?_⟩
    · exact ⟨Nat.zero_le _, s5, ⟨none, none, none, none, rfl⟩, upd_same, fun j g hj => absurd hj (Nat.not_lt_zero _)⟩
    · rintro i σ H5 hi ⟨_, s6, _⟩
      exact s6.seq hS
    · rintro i x σ H5 hx ⟨hi', s6, ⟨v2, v3, v4, v5, rfl⟩, hD5, hA⟩
      obtain ⟨f, hf, hD⟩ := dat_at hd hx
      have hi : i < fs.length := (List.getElem?_eq_some_iff.mp hf).1
      obtain ⟨b, pa, ra, _, rs', rfl, hb, hpa, hra, hrd, _⟩ := fn_at hD
      obtain ⟨o1, o2, o3⟩ := hok f (List.mem_of_getElem? hf)
      have hrows : DatV K H (.tuple (f.rows.map Rw.D)) (.ref ra) := datV_tuple hra hrd
      have thr : ∀ o, fnM fs f = some o → Thr t H E o := fun o ho => hE o (by rw [hlk]; exact find_at hf ho hA)
      refine ⟨b, _, rfl, s6.tup hb, rfl, _, _, rfl, _, _, rfl, _, _, rfl, _, _, rfl, rfl, ?_⟩
      refine ⟨_, rfl, pa, f.ps, rfl, .inr (s6.tup hpa), by omega, fun h1 H6 s7 => ?_, fun x hx => (thr (.twice x) (by unfold fnM; rw [hx])).mono s6⟩
      have s7a := s7
      have s7 := s6.trans s7
      refine ⟨_, rfl, _, rfl, f.name, .ref ra, f.rows, rfl, DatV.mono s7 _ _ hrows, o2, fun h2 H7 s8 => ?_, fun k hk => (thr (.nest f.name k) (by unfold fnM; rw [h1]; show (match nst (f.rows.map (·.kind)) with | some k => some (Out.nest f.name k) | none => _) = _; rw [hk])).mono s7⟩
      have s8' := s7.trans s8
      have hD7 : H7 d = some (.dK ((cntL fs).foldl (fun acc kv => putK acc kv.1 kv.2) [])) := s8 _ _ (s7a _ _ hD5)
      have efn : fnM fs f = (cll fs f.rows).map (.call f.name) := by
        unfold fnM
        rw [h1]
        show (match nst (f.rows.map (·.kind)) with | some k => some (Out.nest f.name k) | none => _) = _
        rw [h2]
      refine ⟨_, rfl, _, rfl, _, rfl, f.name, .ref ra, f.rows, d, _, fs, rfl, DatV.mono s8' _ _ hrows, o3, o2, hD7, hcn, fun h3 H8 s9 => ?_, fun k hk => (thr (.call f.name k) (by rw [efn, hk]; rfl)).mono s8'⟩
      refine ⟨hi, s8'.trans s9, ⟨_, _, _, _, rfl⟩, s9 _ _ hD7, fun j g hj hg => ?_⟩
      by_cases z : j = i
      · subst z; rw [hf] at hg; cases hg; rw [efn, h3]; rfl
      · exact hA j g (by omega) hg
    · rintro σ H5 ⟨hi, s6, ⟨v2, v3, v4, v5, rfl⟩, hD5, hA⟩
      have hnone : lookM fs = none := by
        rw [hlk]
        refine find_none fun g hg => ?_
        obtain ⟨j, hj⟩ := List.mem_iff_getElem?.mp hg
        exact hA j g (by rw [hlen]; exact (List.getElem?_eq_some_iff.mp hj).1) hj
      exact hq hnone H5 s6
end
end K16

set_option Elab.async false
set_option linter.all false
set_option maxRecDepth 100000
set_option maxHeartbeats 4000000
namespace K16
open PySem L2 Gx K11
section
variable {P : Program} {w : World} {K : PySem.W.Frag} {mg : Str → Option Value} {base : Heap} {t : Adr}
theorem sc_l_cell : FnScope ["_law_script", "_law_k", "_law_seed"] ["_law_script", "_law_k"] (defScope s_l_cell) := ⟨rfl, rfl, rfl, by decide +kernel, rfl, by decide +kernel, by decide +kernel⟩
theorem ok_l_cell (T : Txt K mg t) : FnOk P w K mg base CX0 1 t.a_l_cell t.d_l_cell ["_law_script", "_law_k"] (sp_l_cell K) := by
  refine T.l_cell.F.ok sc_l_cell (fun vs H Q E h => ?_) (fun cdv A outer s H vs Q E hr h => ?_)
  · obtain ⟨a, ns, k, rfl, hS, hl, h0, h1, q⟩ := h
    rfl
  · obtain ⟨a, ns, k, rfl, hS, hl, h0, h1, q⟩ := h
    refine ⟨_, (@pss_cons _ _ _ _ _ (@ps_if _ _ _ _ _ _ _ _ (@pt_cmpR _ _ _ _ _ _ _ _ op_lt (pv 1) (pe_callB call_len_seq (by rfl) T.b_len bt_len (@pa_cons _ _ _ _ _ (pv 0) pa_nil (by rfl))) (nomark _)) (@pss_one _ _ _ (@ps_ret _ _ _ _ (@pe_ix _ _ _ _ _ _ _ ix_list (pv 0) (pv 1) (fun _ _ => rfl)))) pss_nil) (@pss_cons _ _ _ _ _ (@ps_set _ _ 2 _ _ _ _ sc_l_cell.nd rfl (Or.inl rfl) pe_int (by rfl) (by first | exact .inl rfl | exact .inr rfl | assumption)) (@pss_cons _ _ _ _ _ (@ps_if _ _ _ _ _ _ _ _ (@pt_cmpR _ _ _ _ _ _ _ _ op_gt (pe_callB call_len_seq (by rfl) T.b_len bt_len (@pa_cons _ _ _ _ _ (pv 0) pa_nil (by rfl))) pe_int (nomark _)) (@pss_one _ _ _ (@ps_set _ _ 2 _ _ _ _ sc_l_cell.nd rfl (Or.inl rfl) (@pe_op _ _ _ _ _ _ _ _ op_mod (@pe_ix _ _ _ _ _ _ _ ix_list (pv 0) (@pe_op _ _ _ _ _ _ _ _ op_mod (pv 1) (pe_callB call_len_seq (by rfl) T.b_len bt_len (@pa_cons _ _ _ _ _ (pv 0) pa_nil (by rfl)))) (fun _ _ => rfl)) pe_int) (by rfl) (by first | exact .inl rfl | exact .inr rfl | assumption))) pss_nil) (@pss_one _ _ _ (@ps_ret _ _ _ _ (@pe_op _ _ _ _ _ _ _ _ op_mod (@pe_op _ _ _ _ _ _ _ _ op_mul (@pe_op _ _ _ _ _ _ _ _ op_add (@pe_op _ _ _ _ _ _ _ _ op_add (pv 2) (@pe_op _ _ _ _ _ _ _ _ op_mul pe_int (pv 1))) pe_int) (@pe_op _ _ _ _ _ _ _ _ op_add (@pe_op _ _ _ _ _ _ _ _ op_add (pv 2) (@pe_op _ _ _ _ _ _ _ _ op_mul pe_int (pv 1))) pe_int)) pe_int)))))), ?_⟩
    have hlen : (ns.map V.int).length = ns.length := List.length_map _
    refine ⟨_, rfl, _, rfl, a, _, rfl, .inl hS, _, _, rfl, rfl, _, rfl, ?_⟩
    refine ite2 (fun c => ?_) (fun c => ?_)
    · have c := dec_true c
      rw [hlen] at c
      obtain ⟨z, hz⟩ := at_ints h0 c
      exact ⟨_, rfl, _, rfl, a, _, _, _, rfl, rfl, hS, hz, q _⟩
    · refine ⟨_, rfl, a, _, rfl, .inl hS, _, _, rfl, rfl, _, rfl, ?_⟩
      refine ite2 (fun c2 => ?_) (fun c2 => ?_)
      · have c2 := dec_true c2
        rw [hlen] at c2
        obtain ⟨z, hz⟩ := at_ints (ns := ns) (i := k % (ns.length : Int)) (Int.emod_nonneg _ (by omega)) (Int.emod_lt_of_pos _ (by omega))
        refine ⟨_, rfl, _, rfl, _, rfl, a, _, rfl, .inl hS, _, _, rfl, rfl, (by show (0 : Int) < ((ns.map V.int).length : Int); rw [hlen]; exact c2), a, _, _, _, rfl, rfl, hS, (by rw [hlen]; exact hz), _, _, rfl, rfl, (show (0 : Int) < 999983 by decide), ?_⟩
        have b1 : 0 ≤ z % 999983 := Int.emod_nonneg _ (by decide)
        have b2 : z % 999983 < 999983 := Int.emod_lt_of_pos _ (by decide)
        exact ⟨_, rfl, _, rfl, _, _, rfl, rfl, .inl ⟨by decide, by decide⟩, _, _, rfl, rfl, _, _, rfl, rfl, _, rfl, _, rfl, _, _, rfl, rfl, .inl ⟨by decide, by decide⟩, _, _, rfl, rfl, _, _, rfl, rfl, _, _, rfl, rfl, .inl ⟨by omega, by omega⟩, _, _, rfl, rfl, (show (0 : Int) < 1000003 by decide), q _⟩
      · exact ⟨_, rfl, _, rfl, _, _, rfl, rfl, .inl ⟨by decide, by decide⟩, _, _, rfl, rfl, _, _, rfl, rfl, _, rfl, _, rfl, _, _, rfl, rfl, .inl ⟨by decide, by decide⟩, _, _, rfl, rfl, _, _, rfl, rfl, _, _, rfl, rfl, .inl ⟨by omega, by omega⟩, _, _, rfl, rfl, (show (0 : Int) < 1000003 by decide), q _⟩
end
end K16

set_option Elab.async false
set_option linter.all false
set_option maxRecDepth 100000
set_option maxHeartbeats 4000000
namespace K16
open PySem L2 Gx K11
section
variable {P : Program} {w : World} {K : PySem.W.Frag} {mg : Str → Option Value} {base : Heap} {t : Adr}
theorem sc_l_part : FnScope ["_law_cell_here", "_law_j", "_law_many", "_law_primes"] ["_law_cell_here", "_law_j", "_law_many"] (defScope s_l_part) := ⟨rfl, rfl, rfl, by decide +kernel, rfl, by decide +kernel, by decide +kernel⟩
theorem ok_l_part (T : Txt K mg t) : FnOk P w K mg base CX0 1 t.a_l_part t.d_l_part ["_law_cell_here", "_law_j", "_law_many"] (sp_l_part K) := by
  refine T.l_part.F.ok sc_l_part (fun vs H Q E h => ?_) (fun cdv A outer s H vs Q E hr h => ?_)
  · obtain ⟨c, j, m, rfl, h0, h1, q⟩ := h
    rfl
  · obtain ⟨c, j, m, rfl, h0, h1, q⟩ := h
    refine ⟨_, (@pss_cons _ _ _ _ _ (@ps_set _ _ 3 _ _ _ _ sc_l_part.nd rfl (Or.inl rfl) (@pe_litT _ _ [V.int 10007, V.int 10009, V.int 10037, V.int 10039, V.int 10061, V.int 10067, V.int 10069, V.int 10079] (by kernel_rfl)) (by rfl) (by first | exact .inl rfl | exact .inr rfl | assumption)) (@pss_one _ _ _ (@ps_ret _ _ _ _ (@pe_op _ _ _ _ _ _ _ _ op_mod (@pe_op _ _ _ _ _ _ _ _ op_mod (@pe_op _ _ _ _ _ _ _ _ op_add (@pe_op _ _ _ _ _ _ _ _ op_mul (pv 0) pe_int) (@pe_op _ _ _ _ _ _ _ _ op_mul pe_int (pv 1))) (@pe_ix _ _ _ _ _ _ _ ix_tup (pv 3) (@pe_op _ _ _ _ _ _ _ _ op_mod (pv 1) pe_int) (fun _ _ => rfl))) (pv 2))))), ?_⟩
    refine ⟨(by show 8 ≤ sizeLine; decide), fun p hp => ?_⟩
    have hpr : ∃ pr : Int, 0 < pr ∧ atI [V.int 10007, V.int 10009, V.int 10037, V.int 10039, V.int 10061, V.int 10067, V.int 10069, V.int 10079] (j % 8) = some (.int pr) := by
      obtain ⟨v, hv, hm⟩ := atI_some (xs := [V.int 10007, V.int 10009, V.int 10037, V.int 10039, V.int 10061, V.int 10067, V.int 10069, V.int 10079]) (i := j % 8) (Int.emod_nonneg _ (by decide)) (Int.emod_lt_of_pos _ (by decide))
      simp only [List.mem_cons, List.not_mem_nil, or_false] at hm
      rcases hm with e | e | e | e | e | e | e | e <;> subst e <;> exact ⟨_, by decide, hv⟩
    obtain ⟨pr, hpr0, hpr⟩ := hpr
    exact ⟨_, rfl, _, _, rfl, rfl, .inr ⟨by decide, by decide⟩, _, rfl, _, _, rfl, rfl, .inl ⟨by decide, by decide⟩, _, _, rfl, rfl, _, rfl, _, rfl, _, _, rfl, rfl, (show (0 : Int) < 8 by decide), p, _, _, _, rfl, rfl, SqT.of upd_same, hpr, _, _, rfl, rfl, hpr0, _, rfl, _, _, rfl, rfl, h1,
      q _ _ (Int.emod_nonneg _ (by omega)) (Int.emod_lt_of_pos _ h1) (Same.new hp)⟩
end
end K16

set_option Elab.async false
set_option linter.all false
set_option maxRecDepth 100000
set_option maxHeartbeats 4000000
namespace K16
open PySem L2 Gx K11 K14
section
variable {P : Program} {w : World} {K : PySem.W.Frag} {mg : Str → Option Value} {base : Heap} {t : Adr}
theorem sc_l_name : FnScope ["_law_cell_here", "_law_k", "_law_letters", "_law_size", "_law_some", "_law_name_here"] ["_law_cell_here", "_law_k"] (defScope s_l_name) := ⟨rfl, rfl, rfl, by decide +kernel, rfl, by decide +kernel, by decide +kernel⟩
theorem ok_l_name (T : Txt K mg t) : FnOk P w K mg base CX0 2 t.a_l_name t.d_l_name ["_law_cell_here", "_law_k"] (sp_l_name K) := by
  have G_l_part : FnOk P w K mg base CX0 1 t.a_l_part t.d_l_part ["_law_cell_here", "_law_j", "_law_many"] (sp_l_part K) := ok_l_part T
  refine T.l_name.F.ok sc_l_name (fun vs H Q E h => ?_) (fun cdv A outer s H vs Q E hr h => ?_)
  · obtain ⟨b, k, rfl, q⟩ := h
    rfl
  · obtain ⟨b, k, rfl, q⟩ := h
    refine ⟨_, (@pss_cons _ _ _ _ _ (@ps_set _ _ 2 _ _ _ _ sc_l_name.nd rfl (Or.inr rfl) pe_str (by rfl) (by first | exact .inl rfl | exact .inr rfl | assumption)) (@pss_cons _ _ _ _ _ (@ps_set _ _ 3 _ _ _ _ sc_l_name.nd rfl (Or.inl rfl) (@pe_op _ _ _ _ _ _ _ _ (opC0 op_add) pe_int (callD T.l_part G_l_part (hr.mono (by decide)) (@pa_cons _ _ _ _ _ (pvC 0) (@pa_cons _ _ _ _ _ pe_int (@pa_cons _ _ _ _ _ pe_int pa_nil (by rfl)) (by rfl)) (by rfl)))) (by rfl) (by first | exact .inl rfl | exact .inr rfl | assumption)) (@pss_cons _ _ _ _ _ (ps_setc (i := 4) sc_l_name.nd rfl (Or.inl rfl) (N' := ["_law_j", "_law_letters", "_law_cell_here"]) (js := [none, some 2, some 0]) (by kernel_rfl) rfl (pi_range1 rfl T.b_range (@pa_cons _ _ _ _ _ (pvC 3) pa_nil (by rfl))) own_name (fun _ _ _ _ => (pg_name (i := 0) (show (["_law_j", "_law_letters", "_law_cell_here"] : List Str).Nodup by decide +kernel) rfl (Or.inl rfl) (.inr rfl))) (fun _ _ _ _ => pif_nil) (fun _ _ _ _ => (@pe_ix _ _ _ _ _ _ _ ix_str (pvC 1) (callD T.l_part G_l_part (hr.mono (by decide)) (@pa_cons _ _ _ _ _ (pvC 2) (@pa_cons _ _ _ _ _ (pvC 0) (@pa_cons _ _ _ _ _ pe_int pa_nil (by rfl)) (by rfl)) (by rfl))) (fun _ _ => rfl))) (by rfl)) (@pss_cons _ _ _ _ _ (ps_asg (@pe_ix _ _ _ _ _ _ _ ix_str (pvC 2) (@pe_op _ _ _ _ _ _ _ _ (opC1 op_mod) (@pe_op _ _ _ _ _ _ _ _ (opC0 op_add) (callD T.l_part G_l_part (hr.mono (by decide)) (@pa_cons _ _ _ _ _ (pvC 0) (@pa_cons _ _ _ _ _ pe_int (@pa_cons _ _ _ _ _ pe_int pa_nil (by rfl)) (by rfl)) (by rfl))) (pvC 1)) pe_int) (fun _ _ => rfl)) (pg_sub (pvC 4) (callD T.l_part G_l_part (hr.mono (by decide)) (@pa_cons _ _ _ _ _ (pvC 0) (@pa_cons _ _ _ _ _ pe_int (@pa_cons _ _ _ _ _ (pvC 3) pa_nil (by rfl)) (by rfl)) (by rfl))) set_list)) (@pss_cons _ _ _ _ _ (@ps_set _ _ 5 _ _ _ _ sc_l_name.nd rfl (Or.inl rfl) (pe_bm PySem.F.plainAttrs_str PySem.F.slot_str_join PySem.F.type_str_join mt_join pe_str (@pa_cons _ _ _ _ _ (pvC 4) pa_nil (by rfl))) (by rfl) (by first | exact .inl rfl | exact .inr rfl | assumption)) (@pss_cons _ _ _ _ _ (@ps_if _ _ _ _ _ _ _ _ (@ptC_cmpR _ _ _ _ _ _ _ _ op_in_seq (pvC 5) (@pe_litT _ _ [V.str "fn", V.str "in", V.str "new", V.str "get", V.str "put", V.str "call", V.str "out", V.str "if", V.str "while", V.str "else", V.str "end", V.str "back"] (by kernel_rfl)) (by with_unfolding_all rfl)) (@pss_one _ _ _ (@ps_ret _ _ _ _ (@pe_op _ _ _ _ _ _ _ _ op_add_str (pvC 5) pe_str))) pss_nil) (@pss_one _ _ _ (@ps_ret _ _ _ _ (pvC 5))))))))), ?_⟩
    have lf : ("abcdefghijklmnopqrstuvwxyz" : Str).length ≤ sizeLine := by decide +kernel
    refine ⟨_, rfl, b, 8, 8, rfl, by decide, by decide, fun z H1 z0 z1 s1 => ⟨_, _, rfl, rfl, ?_⟩⟩
    obtain ⟨n, hn⟩ : ∃ n : Nat, 1 + z = (n : Int) := ⟨(1 + z).toNat, by omega⟩
    show (fun x H1 => _) (V.int (1 + z)) H1
    rw [hn]
    refine ⟨_, rfl, _, rfl, by omega, by omega, fun u hu => comp_range (lo := 0) (n := n) (by omega) (fun i acc H2 => Same H1 H2 ∧ H2 u = some (.lst acc) ∧ ∃ cs : List Nat, cs.length = i ∧ Lets cs ∧ acc = cs.map fun c => V.str (tx [c])) ⟨Same.new hu, upd_same, [], rfl, (fun c hc => by simp at hc), rfl⟩ ?_ ?_ ?_⟩
    · rintro i acc H2 hi ⟨s2, e2, cs, hl, hc, rfl⟩
      exact ⟨e2, by rw [List.length_map]; omega⟩
    · rintro i acc H2 hi ⟨s2, e2, cs, hl, hc, rfl⟩
      refine ⟨_, rfl, _, rfl, _, rfl, b, 0 + (i : Int), 26, rfl, by omega, by decide, fun y H3 y0 y1 s3 => ⟨_, _, _, rfl, rfl, lf, let_at y0 y1, s3 _ _ e2, (s2.trans s3).upd hu, upd_same, cs ++ [97 + y.toNat], by rw [List.length_append, hl]; rfl, lets_snoc hc (by omega), ?_⟩⟩
      rw [List.map_append]
      rfl
    rintro acc H2 ⟨s2, e2, cs, hl, hc, rfl⟩
    have s02 := s1.trans s2
    have hu0 : H u = none := s1.free hu
    refine ⟨_, rfl, _, rfl, b, 10, 26, rfl, by decide, by decide, fun y H3 y0 y1 s3 => ⟨_, rfl, _, _, rfl, rfl, _, _, rfl, rfl, (show (0 : Int) < 26 by decide), _, _, _, rfl, rfl, lf, let_at (emod_bd (y + k) 26 (by decide)).1 (emod_bd (y + k) 26 (by decide)).2, ?_⟩⟩
    have bk := emod_bd (y + k) 26 (by decide)
    refine ⟨_, rfl, _, rfl, _, rfl, b, 9, (n : Int), rfl, by decide, by omega, fun p H4 p0 p1 s4 => ?_⟩
    have e4 := s4 _ _ (s3 _ _ e2)
    refine ⟨u, _, _, _, rfl, rfl, e4, ixI (by omega) (by rw [List.length_map]; omega), ?_⟩
    rw [show (V.str ⟨#[97 + ((y + k) % 26).toNat]⟩) = V.str (tx [97 + ((y + k) % 26).toNat]) from rfl, strs_set]
    have hc2 := lets_set (i := p.toNat) hc (c := 97 + ((y + k) % 26).toNat) (by omega)
    have hl2 : (cs.set p.toNat (97 + ((y + k) % 26).toNat)).length = n := by rw [List.length_set, hl]
    generalize cs.set p.toNat (97 + ((y + k) % 26).toNat) = ds at hc2 hl2 ⊢
    have s5 : Same H (upd H4 u (.lst ((ds.map fun c => tx [c]).map V.str))) := ((s02.trans s3).trans s4).upd hu0
    have e5 := upd_same (H := H4) (a := u) (o := .lst ((ds.map fun c => tx [c]).map V.str))
    generalize upd H4 u (.lst ((ds.map fun c => tx [c]).map V.str)) = H5 at s5 e5 ⊢
    refine ⟨rfl, _, rfl, _, u, _, rfl, rfl, SqL.of e5, one_fit (by omega), ?_⟩
    rw [one_join]
    refine ⟨_, rfl, (by show 12 ≤ sizeLine; decide), fun tl htl => ⟨tl, _, rfl, .inr (SqT.of upd_same), rfl, (by decide +kernel), _, rfl, ?_⟩⟩
    have s6 := s5.trans (Same.new (o := .tup (taken.map V.str)) htl)
    refine ite2 (fun c => ?_) (fun c => ?_)
    · exact ⟨_, rfl, _, _, rfl, rfl, (by rw [tx_len, hl2]; exact lt_line (by show n + 1 < 1000000; omega)), q _ _ (named_z c) s6⟩
    · exact ⟨_, rfl, q _ _ (named_tx hc2 (by omega) (by omega) (Bool.eq_false_iff.mpr c)) s6⟩
end
end K16

set_option Elab.async false
set_option linter.all false
set_option maxRecDepth 100000
set_option maxHeartbeats 4000000
namespace K16
open PySem L2 Gx Lk
section
variable {P : Program} {w : World} {K : PySem.W.Frag} {mg : Str → Option Value} {base : Heap} {t : Adr}
theorem sc_l_call : FnScope ["_law_cell_here", "_law_base", "_law_sizes", "_law_k", "_law_args"] ["_law_cell_here", "_law_base", "_law_sizes"] (defScope s_l_call) := ⟨rfl, rfl, rfl, by decide +kernel, rfl, by decide +kernel, by decide +kernel⟩
theorem ok_l_call (T : Txt K mg t) : FnOk P w K mg base CX0 3 t.a_l_call t.d_l_call ["_law_cell_here", "_law_base", "_law_sizes"] (sp_l_call K) := by
  have G_l_part : FnOk P w K mg base CX0 1 t.a_l_part t.d_l_part ["_law_cell_here", "_law_j", "_law_many"] (sp_l_part K) := ok_l_part T
  have G_l_name : FnOk P w K mg base CX0 2 t.a_l_name t.d_l_name ["_law_cell_here", "_law_k"] (sp_l_name K) := ok_l_name T
  refine T.l_call.F.ok sc_l_call (fun vs H Q E h => ?_) (fun cdv A outer s H vs Q E hr h => ?_)
  · obtain ⟨c, b, sz, ss, rfl, hS, hne, hsl, hss, q⟩ := h
    rfl
  · obtain ⟨c, b, sz, ss, rfl, hS, hne, hsl, hss, q⟩ := h
    refine ⟨_, (@pss_cons _ _ _ _ _ (@ps_set _ _ 3 _ _ _ _ sc_l_call.nd rfl (Or.inl rfl) (callD T.l_part G_l_part (hr.mono (by decide)) (@pa_cons _ _ _ _ _ (pv 0) (@pa_cons _ _ _ _ _ pe_int (@pa_cons _ _ _ _ _ (pe_callB call_len_seq (by rfl) T.b_len bt_len (@pa_cons _ _ _ _ _ (pv 2) pa_nil (by rfl))) pa_nil (by rfl)) (by rfl)) (by rfl))) (by rfl) (by first | exact .inl rfl | exact .inr rfl | assumption)) (@pss_cons _ _ _ _ _ (ps_setc (i := 4) sc_l_call.nd rfl (Or.inl rfl) (N' := ["_law_j", "_law_base", "_law_cell_here"]) (js := [none, some 1, some 0]) (by kernel_rfl) rfl (pi_range1 rfl T.b_range (@pa_cons _ _ _ _ _ (@pe_ix _ _ _ _ _ _ _ ix_list (pv 2) (pv 3) (fun _ _ => rfl)) pa_nil (by rfl))) own_name (fun _ _ _ _ => (pg_name (i := 0) (show (["_law_j", "_law_base", "_law_cell_here"] : List Str).Nodup by decide +kernel) rfl (Or.inl rfl) (.inr rfl))) (fun _ _ _ _ => pif_nil) (fun _ _ _ _ => (@pe_ix _ _ _ _ _ _ _ (show IxR _ (rIxL K) from ix_list) (@pe_lst _ _ _ _ (@pa_cons _ _ _ _ _ (@pe_op _ _ _ _ _ _ _ _ op_mod (@pe_op _ _ _ _ _ _ _ _ op_mul (pv 2) pe_int) (@pe_op _ _ _ _ _ _ _ _ op_pow pe_int pe_int)) (@pa_cons _ _ _ _ _ (callD T.l_name G_l_name (hr.mono (by decide)) (@pa_cons _ _ _ _ _ (pv 1) (@pa_cons _ _ _ _ _ (callD T.l_part G_l_part (hr.mono (by decide)) (@pa_cons _ _ _ _ _ (pv 2) (@pa_cons _ _ _ _ _ (pv 0) (@pa_cons _ _ _ _ _ pe_int pa_nil (by rfl)) (by rfl)) (by rfl))) pa_nil (by rfl)) (by rfl))) pa_nil (by rfl)) (by rfl))) (@pe_op _ _ _ _ _ _ _ _ op_mod (pv 0) pe_int) (fun _ _ => rfl))) (by rfl)) (@pss_one _ _ _ (@ps_ret _ _ _ _ (@pe_tup _ _ _ _ _ (@pa_cons _ _ _ _ _ pe_str (@pa_cons _ _ _ _ _ (callD T.l_name G_l_name (hr.mono (by decide)) (@pa_cons _ _ _ _ _ (pv 1) (@pa_cons _ _ _ _ _ pe_int pa_nil (by rfl)) (by rfl))) (@pa_cons _ _ _ _ _ (callD T.l_name G_l_name (hr.mono (by decide)) (@pa_cons _ _ _ _ _ (pv 1) (@pa_cons _ _ _ _ _ (pv 3) pa_nil (by rfl)) (by rfl))) (@pa_cons _ _ _ _ _ (pe_callTy call_tuple_of (by rfl) T.b_tuple bt_tuple (@pa_cons _ _ _ _ _ (pv 4) pa_nil (by rfl))) pa_nil (by rfl)) (by rfl)) (by rfl)) (by rfl))))))), ?_⟩
    have hpos : (0 : Int) < ((ss.map V.int).length : Nat) := by
      rw [List.length_map]
      have := List.length_pos_iff.mpr hne
      omega
    refine ⟨_, rfl, _, rfl, sz, _, rfl, .inl hS, c, 1, _, rfl, by decide, hpos, fun k H1 k0 k1 s1 => ?_⟩
    rw [List.length_map] at k1
    obtain ⟨kn, rfl⟩ := Int.eq_ofNat_of_zero_le k0
    have hk : kn < ss.length := by omega
    have hkn : ss[kn]? = some ss[kn] := List.getElem?_eq_getElem hk
    obtain ⟨b0, b1⟩ := hss ss[kn] (List.getElem_mem hk)
    generalize ss[kn] = n at hkn b0 b1
    have hat : (ss.map V.int)[kn]? = some (V.int n) := by rw [List.getElem?_map, hkn]; rfl
    refine ⟨_, rfl, _, rfl, sz, _, _, _, rfl, rfl, s1.seq hS, atN hat, _, rfl, by omega, by omega, fun u hu => comp_relR (lo := 0) (n := n.toNat) (fun _ _ v => GA v) (fun _ _ _ _ _ h => h) (by omega) hu ?_ ?_⟩
    · rintro i H2 R' hi s2 _ r2
      refine ⟨_, rfl, _, _, rfl, rfl, .inr ⟨by decide, by decide⟩, _, _, rfl, rfl, ⟨by decide, by decide, by decide⟩, _, _, rfl, rfl, (show (0 : Int) < 2 ^ 48 by decide), ?_⟩
      refine ⟨_, rfl, _, rfl, _, rfl, c, _, 16, rfl, by omega, by decide, fun z H3 z0 z1 s3 => ⟨b, z, rfl, fun x H4 hx s4 => ⟨le2, fun l hl => ?_⟩⟩⟩
      obtain ⟨v, hv, gv⟩ := ga_pick (GA.int (c * 94906267 % 2 ^ 48)) (GA.str (nm_of hx)) (0 + (i : Int))
      refine ⟨_, rfl, _, _, rfl, rfl, (show (0 : Int) < 2 by decide), l, _, _, _, rfl, rfl, SqL.of upd_same, hv, ?_⟩
      exact r2 v _ ((s3.trans s4).trans (Same.new hl)) gv
    intro H2 vs s2 e2 lv tv
    obtain ⟨ds, h1, h2, h3⟩ := ga_all (vs_mem tv)
    have s02 := s1.trans s2
    refine ⟨_, rfl, b, 15, rfl, fun x H3 hx s3 => ⟨_, rfl, _, rfl, b, _, rfl, fun f H4 hf s4 => ?_⟩⟩
    refine ⟨_, rfl, u, vs, rfl, .inl ⟨(s3.trans s4).seq (SqL.of e2), fun qa hqa => ⟨le4, fun tp htp => ?_⟩⟩⟩
    have sA := Same.new (o := .tup vs) hqa
    have sB := Same.new (o := .tup [.str "call", .str x, .str f, .ref qa]) htp
    refine q ⟨"call", [.str x, .str f, .tuple ds]⟩ (.ref tp) _ ((s02.trans (s3.trans s4)).trans (sA.trans sB)) ?_ (rw_call (nm_of hx).1 (nm_of hf).1 h2 h3)
    exact rw_dat (SqT.of upd_same) (da3 (SqT.of (sB _ _ upd_same)) (h1 K _))
end
end K16

set_option Elab.async false
set_option linter.all false
set_option maxRecDepth 100000
set_option maxHeartbeats 4000000
namespace K16
open PySem L2 Gx Lk
section
variable {P : Program} {w : World} {K : PySem.W.Frag} {mg : Str → Option Value} {base : Heap} {t : Adr}
theorem sc_l_rows : FnScope ["_law_script", "_law_at", "_law_base", "_law_sizes", "_law_rows_here", "_law_opened", "_law_k", "_law_cell_here", "_law_kind", "_law_one"] ["_law_script", "_law_at", "_law_base", "_law_sizes"] (defScope s_l_rows) := ⟨rfl, rfl, rfl, by decide +kernel, rfl, by decide +kernel, by decide +kernel⟩
theorem ok_l_rows (T : Txt K mg t) : FnOk P w K mg base CX0 4 t.a_l_rows t.d_l_rows ["_law_script", "_law_at", "_law_base", "_law_sizes"] (sp_l_rows K) := by
  have G_l_cell : FnOk P w K mg base CX0 1 t.a_l_cell t.d_l_cell ["_law_script", "_law_k"] (sp_l_cell K) := ok_l_cell T
  have G_l_part : FnOk P w K mg base CX0 1 t.a_l_part t.d_l_part ["_law_cell_here", "_law_j", "_law_many"] (sp_l_part K) := ok_l_part T
  have G_l_name : FnOk P w K mg base CX0 2 t.a_l_name t.d_l_name ["_law_cell_here", "_law_k"] (sp_l_name K) := ok_l_name T
  have G_l_call : FnOk P w K mg base CX0 3 t.a_l_call t.d_l_call ["_law_cell_here", "_law_base", "_law_sizes"] (sp_l_call K) := ok_l_call T
  refine T.l_rows.F.ok sc_l_rows (fun vs H Q E h => ?_) (fun cdv A outer s H vs Q E hr h => ?_)
  · obtain ⟨a, ns, k, b, sz, ss, rfl, hA, hnl, k0, k1, hS, hne, hsl, hss, q⟩ := h
    rfl
  · obtain ⟨a, ns, k, b, sz, ss, rfl, hA, hnl, k0, k1, hS, hne, hsl, hss, q⟩ := h
    refine ⟨_, (@pss_cons _ _ _ _ _ (@ps_set _ _ 4 _ _ _ _ sc_l_rows.nd rfl (Or.inl rfl) (@pe_lst _ _ _ _ pa_nil) (by rfl) (by first | exact .inl rfl | exact .inr rfl | assumption)) (@pss_cons _ _ _ _ _ (@ps_set _ _ 5 _ _ _ _ sc_l_rows.nd rfl (Or.inl rfl) (@pe_lst _ _ _ _ pa_nil) (by rfl) (by first | exact .inl rfl | exact .inr rfl | assumption)) (@pss_cons _ _ _ _ _ (ps_for PassesOwn.never rfl (pi_range1 rfl T.b_range (@pa_cons _ _ _ _ _ (@pe_op _ _ _ _ _ _ _ _ op_mod (callD T.l_cell G_l_cell (hr.mono (by decide)) (@pa_cons _ _ _ _ _ (pv 0) (@pa_cons _ _ _ _ _ (pv 1) pa_nil (by rfl)) (by rfl))) pe_int) pa_nil (by rfl))) (pg_name (i := 6) sc_l_rows.nd rfl (Or.inl rfl)) (@pss_cons _ _ _ _ _ (@ps_set _ _ 7 _ _ _ _ sc_l_rows.nd rfl (Or.inl rfl) (callD T.l_cell G_l_cell (hr.mono (by decide)) (@pa_cons _ _ _ _ _ (pv 0) (@pa_cons _ _ _ _ _ (@pe_op _ _ _ _ _ _ _ _ op_add (@pe_op _ _ _ _ _ _ _ _ op_add (pv 1) pe_int) (pv 6)) pa_nil (by rfl)) (by rfl))) (by rfl) (by first | exact .inl rfl | exact .inr rfl | assumption)) (@pss_cons _ _ _ _ _ (@ps_set _ _ 8 _ _ _ _ sc_l_rows.nd rfl (Or.inl rfl) (callD T.l_part G_l_part (hr.mono (by decide)) (@pa_cons _ _ _ _ _ (pv 7) (@pa_cons _ _ _ _ _ pe_int (@pa_cons _ _ _ _ _ pe_int pa_nil (by rfl)) (by rfl)) (by rfl))) (by rfl) (by first | exact .inl rfl | exact .inr rfl | assumption)) (@pss_one _ _ _ (@ps_if _ _ _ _ _ _ _ _ (@pt_cmpR _ _ _ _ _ _ _ _ op_lt (pv 8) pe_int (nomark _)) (@pss_cons _ _ _ _ _ (@ps_expr _ _ _ _ (pe_bm PySem.F.plainAttrs_list PySem.F.slot_list_append PySem.F.type_list_append mt_append (pv 4) (@pa_cons _ _ _ _ _ (@pe_tup _ _ _ _ _ (@pa_cons _ _ _ _ _ (@pe_ix _ _ _ _ _ _ _ ix_list (@pe_lst _ _ _ _ (@pa_cons _ _ _ _ _ pe_str (@pa_cons _ _ _ _ _ pe_str (@pa_cons _ _ _ _ _ pe_str pa_nil (by rfl)) (by rfl)) (by rfl))) (pv 8) (fun _ _ => rfl)) (@pa_cons _ _ _ _ _ (@pe_op _ _ _ _ _ _ _ _ op_mod (pv 7) (@pe_op _ _ _ _ _ _ _ _ op_pow pe_int pe_int)) pa_nil (by rfl)) (by rfl))) pa_nil (by rfl))) (by rfl)) (@pss_one _ _ _ (@ps_expr _ _ _ _ (pe_bm PySem.F.plainAttrs_list PySem.F.slot_list_append PySem.F.type_list_append mt_append (pv 5) (@pa_cons _ _ _ _ _ (@pe_ix _ _ _ _ _ _ _ ix_tup (@pe_ix _ _ _ _ _ _ _ ix_list (pv 4) (pe_un un_neg pe_int) (fun _ _ => rfl)) pe_int (fun _ _ => rfl)) pa_nil (by rfl))) (by rfl)))) (@pss_one _ _ _ (@ps_if _ _ _ _ _ _ _ _ (@PW.pt _ _ _ (@pw_and _ _ _ _ _ _ _ (@pt_cmpR _ _ _ _ _ _ _ _ op_lt (pv 8) pe_int (nomark _)) (@pw_and _ _ _ _ _ _ _ (@pt_cmpR _ _ _ _ _ _ _ _ (op_neD hr.units) (pv 5) (@pe_lst _ _ _ _ pa_nil) (nomark _)) (@pw_and1 _ _ _ _ (@pt_cmpR _ _ _ _ _ _ _ _ op_eq (@pe_ix _ _ _ _ _ _ _ ix_list (pv 5) (pe_un un_neg pe_int) (fun _ _ => rfl)) pe_str (nomark _)))))) (@pss_cons _ _ _ _ _ (@ps_expr _ _ _ _ (pe_bm PySem.F.plainAttrs_list PySem.F.slot_list_append PySem.F.type_list_append mt_append (pv 4) (@pa_cons _ _ _ _ _ (@pe_tup _ _ _ _ _ (@pa_cons _ _ _ _ _ pe_str pa_nil (by rfl))) pa_nil (by rfl))) (by rfl)) (@pss_one _ _ _ (ps_asg pe_str (pg_sub (pv 5) (pe_un un_neg pe_int) set_list)))) (@pss_one _ _ _ (@ps_if _ _ _ _ _ _ _ _ (@PW.pt _ _ _ (@pw_and _ _ _ _ _ _ _ (@pt_cmpR _ _ _ _ _ _ _ _ op_lt (pv 8) pe_int (nomark _)) (@pw_and1 _ _ _ _ (@pt_cmpR _ _ _ _ _ _ _ _ (op_neD hr.units) (pv 5) (@pe_lst _ _ _ _ pa_nil) (nomark _))))) (@pss_cons _ _ _ _ _ (@ps_expr _ _ _ _ (pe_bm PySem.F.plainAttrs_list PySem.F.slot_list_append PySem.F.type_list_append mt_append (pv 4) (@pa_cons _ _ _ _ _ (@pe_tup _ _ _ _ _ (@pa_cons _ _ _ _ _ pe_str pa_nil (by rfl))) pa_nil (by rfl))) (by rfl)) (@pss_one _ _ _ (@ps_expr _ _ _ _ (pe_bm0 PySem.F.plainAttrs_list PySem.F.slot_list_pop PySem.F.type_list_pop mt_pop (pv 5)) (by rfl)))) (@pss_one _ _ _ (@ps_if _ _ _ _ _ _ _ _ (@pt_cmpR _ _ _ _ _ _ _ _ op_lt (pv 8) pe_int (nomark _)) (@pss_one _ _ _ (@ps_expr _ _ _ _ (pe_bm PySem.F.plainAttrs_list PySem.F.slot_list_append PySem.F.type_list_append mt_append (pv 4) (@pa_cons _ _ _ _ _ (callD T.l_call G_l_call (hr.mono (by decide)) (@pa_cons _ _ _ _ _ (pv 7) (@pa_cons _ _ _ _ _ (pv 2) (@pa_cons _ _ _ _ _ (pv 3) pa_nil (by rfl)) (by rfl)) (by rfl))) pa_nil (by rfl))) (by rfl))) (@pss_one _ _ _ (@ps_expr _ _ _ _ (pe_bm PySem.F.plainAttrs_list PySem.F.slot_list_append PySem.F.type_list_append mt_append (pv 4) (@pa_cons _ _ _ _ _ (@pe_ix _ _ _ _ _ _ _ ix_list (@pe_lst _ _ _ _ (@pa_cons _ _ _ _ _ (@pe_tup _ _ _ _ _ (@pa_cons _ _ _ _ _ pe_str (@pa_cons _ _ _ _ _ (@pe_op _ _ _ _ _ _ _ _ op_mod (pv 7) (@pe_op _ _ _ _ _ _ _ _ op_pow pe_int pe_int)) pa_nil (by rfl)) (by rfl))) (@pa_cons _ _ _ _ _ (@pe_tup _ _ _ _ _ (@pa_cons _ _ _ _ _ pe_str (@pa_cons _ _ _ _ _ (callD T.l_name G_l_name (hr.mono (by decide)) (@pa_cons _ _ _ _ _ (pv 2) (@pa_cons _ _ _ _ _ pe_int pa_nil (by rfl)) (by rfl))) (@pa_cons _ _ _ _ _ (callD T.l_name G_l_name (hr.mono (by decide)) (@pa_cons _ _ _ _ _ (pv 2) (@pa_cons _ _ _ _ _ pe_int pa_nil (by rfl)) (by rfl))) pa_nil (by rfl)) (by rfl)) (by rfl))) pa_nil (by rfl)) (by rfl))) (@pe_op _ _ _ _ _ _ _ _ op_sub (pv 8) pe_int) (fun _ _ => rfl)) pa_nil (by rfl))) (by rfl)))))))))))))) (@pss_cons _ _ _ _ _ (ps_for PassesOwn.never rfl (pi_list (pv 5)) (pg_name (i := 9) sc_l_rows.nd rfl (Or.inl rfl)) (@pss_one _ _ _ (@ps_expr _ _ _ _ (pe_bm PySem.F.plainAttrs_list PySem.F.slot_list_append PySem.F.type_list_append mt_append (pv 4) (@pa_cons _ _ _ _ _ (@pe_tup _ _ _ _ _ (@pa_cons _ _ _ _ _ pe_str pa_nil (by rfl))) pa_nil (by rfl))) (by rfl)))) (@pss_cons _ _ _ _ _ (@ps_expr _ _ _ _ (pe_bm PySem.F.plainAttrs_list PySem.F.slot_list_append PySem.F.type_list_append mt_append (pv 4) (@pa_cons _ _ _ _ _ (@pe_tup _ _ _ _ _ (@pa_cons _ _ _ _ _ pe_str (@pa_cons _ _ _ _ _ (callD T.l_name G_l_name (hr.mono (by decide)) (@pa_cons _ _ _ _ _ (pv 2) (@pa_cons _ _ _ _ _ pe_int pa_nil (by rfl)) (by rfl))) pa_nil (by rfl)) (by rfl))) pa_nil (by rfl))) (by rfl)) (@pss_one _ _ _ (@ps_ret _ _ _ _ (pv 4)))))))), ?_⟩
    refine ⟨le0, fun l1 hl1 => ⟨le0, fun l2 hl2 => ?_⟩⟩
    have ne : l2 ≠ l1 := fun z => by rw [z, upd_same] at hl2; cases hl2
    have f2 : H l2 = none := by rw [upd_ne ne] at hl2; exact hl2
    have I0 : Iv3 K H l1 l2 [] [] [] (upd (upd H l1 (.lst [])) l2 (.lst [])) :=
      ⟨hl1, f2, ne, (Same.new hl1).trans (Same.new hl2), by rw [upd_ne ne.symm, upd_same], upd_same, by unfold DatAll; rfl, fun r hr' => (by cases hr'), fun r hr' => (by cases hr')⟩
    generalize upd (upd H l1 (.lst [])) l2 (.lst []) = H1 at I0 ⊢
    refine ⟨_, rfl, _, rfl, a, ns, k, rfl, I0.s.seq hA, hnl, k0, by omega, fun z => ?_⟩
    refine ⟨_, _, rfl, rfl, (show (0 : Int) < 8 by decide), ?_⟩
    have z0 : 0 ≤ z % 8 := Int.emod_nonneg _ (by decide)
    have z8 : z % 8 < 8 := Int.emod_lt_of_pos _ (by decide)

    refine ⟨_, rfl, by omega, by omega, for_range (lo := 0) (n := (z % 8).toNat) (fun i σ H2 => ∃ (rs : List Rw) (xs : List V) (st : List Str) (v6 v7 v8 v9 : Option V), σ = [some (.ref a), some (.int k), some (.int b), some (.ref sz), some (.ref l1), some (.ref l2), v6, v7, v8, v9] ∧ Iv3 K H l1 l2 rs xs st H2 ∧ rs.length ≤ i ∧ st.length ≤ i) ?_ ?_ ?_⟩
    · exact ⟨[], [], [], none, none, none, none, rfl, I0, Nat.le_refl _, Nat.le_refl _⟩
    · rintro i σ H2 hi ⟨rs, xs, st, v6, v7, v8, v9, rfl, I, hrl, hsl'⟩
      have hxl : xs.length ≤ 1000 := by rw [I.len]; omega
      have hml : (st.map V.str).length ≤ 1000 := by rw [List.length_map]; omega
      refine ⟨_, rfl, _, rfl, _, _, rfl, rfl, _, rfl, _, _, rfl, rfl, a, ns, _, rfl, I.s.seq hA, hnl, by omega, by omega, fun c => ?_⟩
      refine ⟨_, rfl, c, 0, 12, rfl, by decide, by decide, fun kd H3 d0 d1 s3 => ?_⟩
      replace I := I.mono s3
      clear s3
      by_cases c1 : kd < 3
      · refine ⟨_, rfl, _, _, rfl, rfl, _, rfl, iteP (decide_eq_true c1) ?_⟩
        refine ⟨_, rfl, .inl ⟨rfl, _, SqL.of I.e1⟩, le3, fun p hp => ?_⟩
        replace I := I.mono (Same.new (o := .lst [.str "if", .str "if", .str "while"]) hp)
        have hat : ∃ w : Str, (w = "if" ∨ w = "while") ∧ atI [V.str "if", V.str "if", V.str "while"] kd = some (.str w) := by
          obtain rfl | rfl | rfl : kd = 0 ∨ kd = 1 ∨ kd = 2 := by omega
          · exact ⟨_, .inl rfl, rfl⟩
          · exact ⟨_, .inl rfl, rfl⟩
          · exact ⟨_, .inr rfl, rfl⟩
        obtain ⟨w, hw, hat⟩ := hat
        refine ⟨_, rfl, p, _, _, _, rfl, rfl, SqL.of upd_same, hat, _, rfl, _, _, rfl, rfl, ⟨by decide, by decide, by decide⟩, _, _, rfl, rfl, (show (0 : Int) < 2 ^ 48 by decide), le2, fun tp htp => ?_⟩
        have htu := upd_same (H := upd H3 p (.lst [.str "if", .str "if", .str "while"])) (a := tp) (o := .tup [.str w, .int (c % 2 ^ (48 : Int).toNat)])
        replace I := I.mono (Same.new (o := .tup [.str w, .int (c % 2 ^ (48 : Int).toNat)]) htp)
        generalize upd (upd H3 p (.lst [.str "if", .str "if", .str "while"])) tp (.tup [.str w, .int (c % 2 ^ (48 : Int).toNat)]) = H4 at I htu ⊢
        obtain ⟨ds, g1, g2⟩ := rw_plain (k := w) (vs := [.int (c % 2 ^ (48 : Int).toNat)]) (by rcases hw with rfl | rfl <;> decide +kernel) (by rcases hw with rfl | rfl <;> decide +kernel) (fun v hv => by rw [List.mem_singleton.mp hv]; exact GA.int _)
        refine ⟨l1, _, _, rfl, rfl, I.e1, lt_1000 hxl, ?_⟩
        have I2 := I.put (rw_dat (SqT.of htu) (g1 K H4)) g2
        have htu2 : upd H4 l1 (.lst (xs ++ [.ref tp])) tp = some (.tup [.str w, .int (c % 2 ^ (48 : Int).toNat)]) := by
          rw [upd_ne (ne_of htu I.e1 (by intro z; cases z))]; exact htu
        generalize upd H4 l1 (.lst (xs ++ [.ref tp])) = H5 at I2 htu2 ⊢
        refine ⟨_, rfl, .inl ⟨rfl, _, SqL.of I2.e2⟩, _, rfl, _, rfl, l1, _, _, _, rfl, rfl, SqL.of I2.e1, last_atV (by simp), tp, _, _, _, rfl, rfl, SqT.of htu2, at0, l2, _, _, rfl, rfl, I2.e2, lt_1000 hml, ?_⟩
        have I3 := I2.opn (st' := st ++ [w]) (fun x hx => by
          rcases List.mem_append.mp hx with hx | hx
          · exact I2.op x hx
          · rw [List.mem_singleton.mp hx]; rcases hw with h | h
            · exact .inl h
            · exact .inr (.inl h))
        rw [List.map_append] at I3
        exact ⟨_, _, _, _, _, _, _, rfl, I3, by rw [List.length_append, List.length_singleton]; omega, by rw [List.length_append, List.length_singleton]; omega⟩
      refine ⟨_, rfl, _, _, rfl, rfl, _, rfl, ?_⟩
      refine iteN (fun z => absurd (dec_true z) (by omega)) ?_

      by_cases c2 : kd < 7
      · by_cases hst : st = []
        · by_cases c3 : kd < 5
          · skip
            refine ⟨_, rfl, _, _, rfl, rfl, _, rfl, ?_⟩
            refine iteP (decide_eq_true (by omega)) ?_

            refine ⟨_, rfl, le0, fun q0 hq0 => ?_⟩
            replace I := I.mono (Same.new (o := .lst []) hq0)
            refine neNilS I.e2 I.op upd_same ?_
            refine ⟨_, rfl, ?_⟩
            generalize upd _ q0 (.lst []) = HH at I ⊢
            refine iteN (by rw [hst]; decide) ?_
            refine iteN Bool.false_ne_true ?_

            refine ⟨_, rfl, _, _, rfl, rfl, _, rfl, ?_⟩
            refine iteP (decide_eq_true (by omega)) ?_

            refine ⟨_, rfl, le0, fun q0 hq0 => ?_⟩
            replace I := I.mono (Same.new (o := .lst []) hq0)
            refine neNilS I.e2 I.op upd_same ?_
            refine ⟨_, rfl, ?_⟩
            generalize upd _ q0 (.lst []) = HH at I ⊢
            refine iteN (by rw [hst]; decide) ?_

            refine ⟨_, rfl, _, _, rfl, rfl, _, rfl, ?_⟩
            refine iteP (decide_eq_true (by omega)) ?_

            refine ⟨_, rfl, .inl ⟨rfl, _, SqL.of I.e1⟩, _, rfl, _, rfl, _, rfl, c, b, sz, ss, rfl, I.s.seq hS, hne, hsl, hss, fun r v H9 s9 hv hok => ?_⟩
            have I1 := I.mono s9
            refine ⟨l1, _, _, rfl, rfl, I1.e1, lt_1000 hxl, ?_⟩
            have I2 := I1.put hv hok
            exact ⟨_, _, _, _, _, _, _, rfl, I2, by rw [List.length_append, List.length_singleton]; omega, by omega⟩
          · skip
            refine ⟨_, rfl, _, _, rfl, rfl, _, rfl, ?_⟩
            refine iteN (fun z => absurd (dec_true z) (by omega)) ?_
            refine iteN Bool.false_ne_true ?_

            refine ⟨_, rfl, _, _, rfl, rfl, _, rfl, ?_⟩
            refine iteP (decide_eq_true (by omega)) ?_

            refine ⟨_, rfl, le0, fun q0 hq0 => ?_⟩
            replace I := I.mono (Same.new (o := .lst []) hq0)
            refine neNilS I.e2 I.op upd_same ?_
            refine ⟨_, rfl, ?_⟩
            generalize upd _ q0 (.lst []) = HH at I ⊢
            refine iteN (by rw [hst]; decide) ?_

            refine ⟨_, rfl, _, _, rfl, rfl, _, rfl, ?_⟩
            refine iteP (decide_eq_true (by omega)) ?_

            refine ⟨_, rfl, .inl ⟨rfl, _, SqL.of I.e1⟩, _, rfl, _, rfl, _, rfl, c, b, sz, ss, rfl, I.s.seq hS, hne, hsl, hss, fun r v H9 s9 hv hok => ?_⟩
            have I1 := I.mono s9
            refine ⟨l1, _, _, rfl, rfl, I1.e1, lt_1000 hxl, ?_⟩
            have I2 := I1.put hv hok
            exact ⟨_, _, _, _, _, _, _, rfl, I2, by rw [List.length_append, List.length_singleton]; omega, by omega⟩

        · obtain ⟨y, hy⟩ := last_some hst
          by_cases c3 : kd < 5
          · by_cases hy2 : y = "if"
            · skip
              refine ⟨_, rfl, _, _, rfl, rfl, _, rfl, ?_⟩
              refine iteP (decide_eq_true (by omega)) ?_

              refine ⟨_, rfl, le0, fun q0 hq0 => ?_⟩
              replace I := I.mono (Same.new (o := .lst []) hq0)
              refine neNilS I.e2 I.op upd_same ?_
              refine ⟨_, rfl, ?_⟩
              generalize upd _ q0 (.lst []) = HH at I ⊢
              refine iteP (by rw [decide_eq_false hst]; rfl) ?_

              refine ⟨_, rfl, _, rfl, l2, _, _, _, rfl, rfl, SqL.of I.e2, last_at hy, rfl, _, rfl, ?_⟩
              refine iteP (decide_eq_true (congrArg V.str hy2)) ?_

              refine ⟨_, rfl, .inl ⟨rfl, _, SqL.of I.e1⟩, le1, fun tp htp => ?_⟩
              have hex := rw_plain (k := "else") (vs := []) (by decide +kernel) (by decide +kernel) (fun v hv => by cases hv)
              obtain ⟨ds, g1, g2⟩ := hex
              have I1 := I.mono (Same.new (o := .tup [.str "else"]) htp)
              refine ⟨l1, _, _, rfl, rfl, I1.e1, lt_1000 hxl, ?_⟩
              have I2 := I1.put (rw_dat (SqT.of upd_same) (g1 K _)) g2

              have I3 := I2.opn (st' := st.dropLast ++ [("else" : Str)]) (fun x hx => by
                rcases List.mem_append.mp hx with hx | hx
                · exact I2.op x ((List.dropLast_sublist _).subset hx)
                · exact .inr (.inr (List.mem_singleton.mp hx)))
              rw [← set_last hst] at I3
              refine ⟨_, rfl, _, rfl, l2, _, _, _, rfl, rfl, I2.e2, by rw [List.length_map]; exact ix_last (List.length_pos_iff.mpr hst), ?_⟩
              exact ⟨_, _, _, _, _, _, _, rfl, I3, by rw [List.length_append, List.length_singleton]; omega, by rw [List.length_append, List.length_dropLast, List.length_singleton]; omega⟩
            · skip
              refine ⟨_, rfl, _, _, rfl, rfl, _, rfl, ?_⟩
              refine iteP (decide_eq_true (by omega)) ?_

              refine ⟨_, rfl, le0, fun q0 hq0 => ?_⟩
              replace I := I.mono (Same.new (o := .lst []) hq0)
              refine neNilS I.e2 I.op upd_same ?_
              refine ⟨_, rfl, ?_⟩
              generalize upd _ q0 (.lst []) = HH at I ⊢
              refine iteP (by rw [decide_eq_false hst]; rfl) ?_

              refine ⟨_, rfl, _, rfl, l2, _, _, _, rfl, rfl, SqL.of I.e2, last_at hy, rfl, _, rfl, ?_⟩
              refine iteN (fun z => hy2 (V.str.inj (dec_true z))) ?_

              refine ⟨_, rfl, _, _, rfl, rfl, _, rfl, ?_⟩
              refine iteP (decide_eq_true (by omega)) ?_

              refine ⟨_, rfl, le0, fun q0 hq0 => ?_⟩
              replace I := I.mono (Same.new (o := .lst []) hq0)
              refine neNilS I.e2 I.op upd_same ?_
              refine ⟨_, rfl, ?_⟩
              generalize upd _ q0 (.lst []) = HH at I ⊢
              refine iteP (by rw [decide_eq_false hst]; rfl) ?_

              refine ⟨_, rfl, .inl ⟨rfl, _, SqL.of I.e1⟩, le1, fun tp htp => ?_⟩
              have hex := rw_plain (k := "end") (vs := []) (by decide +kernel) (by decide +kernel) (fun v hv => by cases hv)
              obtain ⟨ds, g1, g2⟩ := hex
              have I1 := I.mono (Same.new (o := .tup [.str "end"]) htp)
              refine ⟨l1, _, _, rfl, rfl, I1.e1, lt_1000 hxl, ?_⟩
              have I2 := I1.put (rw_dat (SqT.of upd_same) (g1 K _)) g2

              have I3 := I2.opn (st' := st.dropLast) (fun x hx => I2.op x ((List.dropLast_sublist _).subset hx))
              have hy' : (st.map V.str)[(st.map V.str).length - 1]? = some (.str y) := by rw [List.length_map, List.getElem?_map, ← List.getLast?_eq_getElem?, hy]; rfl
              refine ⟨_, rfl, .inl ⟨rfl, _, SqL.of I2.e2⟩, l2, _, V.str y, rfl, rfl, I2.e2, hy', ?_⟩
              rw [List.map_dropLast] at I3
              exact ⟨_, _, _, _, _, _, _, rfl, I3, by rw [List.length_append, List.length_singleton]; omega, by rw [List.length_dropLast]; omega⟩
          · skip
            refine ⟨_, rfl, _, _, rfl, rfl, _, rfl, ?_⟩
            refine iteN (fun z => absurd (dec_true z) (by omega)) ?_
            refine iteN Bool.false_ne_true ?_

            refine ⟨_, rfl, _, _, rfl, rfl, _, rfl, ?_⟩
            refine iteP (decide_eq_true (by omega)) ?_

            refine ⟨_, rfl, le0, fun q0 hq0 => ?_⟩
            replace I := I.mono (Same.new (o := .lst []) hq0)
            refine neNilS I.e2 I.op upd_same ?_
            refine ⟨_, rfl, ?_⟩
            generalize upd _ q0 (.lst []) = HH at I ⊢
            refine iteP (by rw [decide_eq_false hst]; rfl) ?_

            refine ⟨_, rfl, .inl ⟨rfl, _, SqL.of I.e1⟩, le1, fun tp htp => ?_⟩
            have hex := rw_plain (k := "end") (vs := []) (by decide +kernel) (by decide +kernel) (fun v hv => by cases hv)
            obtain ⟨ds, g1, g2⟩ := hex
            have I1 := I.mono (Same.new (o := .tup [.str "end"]) htp)
            refine ⟨l1, _, _, rfl, rfl, I1.e1, lt_1000 hxl, ?_⟩
            have I2 := I1.put (rw_dat (SqT.of upd_same) (g1 K _)) g2

            have I3 := I2.opn (st' := st.dropLast) (fun x hx => I2.op x ((List.dropLast_sublist _).subset hx))
            have hy' : (st.map V.str)[(st.map V.str).length - 1]? = some (.str y) := by rw [List.length_map, List.getElem?_map, ← List.getLast?_eq_getElem?, hy]; rfl
            refine ⟨_, rfl, .inl ⟨rfl, _, SqL.of I2.e2⟩, l2, _, V.str y, rfl, rfl, I2.e2, hy', ?_⟩
            rw [List.map_dropLast] at I3
            exact ⟨_, _, _, _, _, _, _, rfl, I3, by rw [List.length_append, List.length_singleton]; omega, by rw [List.length_dropLast]; omega⟩
      refine ⟨_, rfl, _, _, rfl, rfl, _, rfl, ?_⟩
      refine iteN (fun z => absurd (dec_true z) (by omega)) ?_
      refine iteN Bool.false_ne_true ?_

      refine ⟨_, rfl, _, _, rfl, rfl, _, rfl, ?_⟩
      refine iteN (fun z => absurd (dec_true z) (by omega)) ?_
      refine iteN Bool.false_ne_true ?_

      by_cases c4 : kd < 10
      · skip
        refine ⟨_, rfl, _, _, rfl, rfl, _, rfl, ?_⟩
        refine iteP (decide_eq_true (by omega)) ?_

        refine ⟨_, rfl, .inl ⟨rfl, _, SqL.of I.e1⟩, _, rfl, _, rfl, _, rfl, c, b, sz, ss, rfl, I.s.seq hS, hne, hsl, hss, fun r v H9 s9 hv hok => ?_⟩
        have I1 := I.mono s9
        refine ⟨l1, _, _, rfl, rfl, I1.e1, lt_1000 hxl, ?_⟩
        have I2 := I1.put hv hok
        exact ⟨_, _, _, _, _, _, _, rfl, I2, by rw [List.length_append, List.length_singleton]; omega, by omega⟩
      refine ⟨_, rfl, _, _, rfl, rfl, _, rfl, ?_⟩
      refine iteN (fun z => absurd (dec_true z) (by omega)) ?_

      refine ⟨_, rfl, .inl ⟨rfl, _, SqL.of I.e1⟩, _, rfl, _, _, rfl, rfl, ⟨by decide, by decide, by decide⟩, _, _, rfl, rfl, (show (0 : Int) < 2 ^ 48 by decide), le2, fun p1 hp1 => ?_⟩
      replace I := I.mono (Same.new (o := .tup [.str "back", .int (c % 2 ^ (48 : Int).toNat)]) hp1)
      have h1 := upd_same (H := H3) (a := p1) (o := .tup [.str "back", .int (c % 2 ^ (48 : Int).toNat)])
      generalize upd H3 p1 (.tup [.str "back", .int (c % 2 ^ (48 : Int).toNat)]) = H4 at I h1 ⊢
      refine ⟨_, rfl, b, 14, rfl, fun x H5 hx s5 => ⟨_, rfl, b, 13, rfl, fun y H6 hy s6 => ⟨le3, fun p2 hp2 => ?_⟩⟩⟩
      replace I := I.mono ((s5.trans s6).trans (Same.new (o := .tup [.str "copy", .str x, .str y]) hp2))
      have h1 := ((s5.trans s6).trans (Same.new (o := .tup [.str "copy", .str x, .str y]) hp2)) _ _ h1
      have h2 := upd_same (H := H6) (a := p2) (o := .tup [.str "copy", .str x, .str y])
      generalize upd H6 p2 (.tup [.str "copy", .str x, .str y]) = H7 at I h1 h2 ⊢
      refine ⟨le2, fun p3 hp3 => ?_⟩
      have s8 := Same.new (o := .lst [.ref p1, .ref p2]) hp3
      replace I := I.mono s8
      have hpk : ∃ r v, atI [V.ref p1, V.ref p2] (kd - 10) = some v ∧ DatV K (upd H7 p3 (.lst [.ref p1, .ref p2])) r.D v ∧ RwOk r := by
        obtain rfl | rfl : kd = 10 ∨ kd = 11 := by omega
        · obtain ⟨ds, g1, g2⟩ := rw_plain (k := "back") (vs := [.int (c % 2 ^ (48 : Int).toNat)]) (by decide +kernel) (by decide +kernel) (fun v hv => by rw [List.mem_singleton.mp hv]; exact GA.int _)
          exact ⟨_, _, rfl, rw_dat (SqT.of (s8 _ _ h1)) (g1 K _), g2⟩
        · obtain ⟨ds, g1, g2⟩ := rw_plain (k := "copy") (vs := [.str x, .str y]) (by decide +kernel) (by decide +kernel) (fun v hv => by
            rcases List.mem_cons.mp hv with rfl | hv
            · exact GA.str (nm_of hx)
            · rw [List.mem_singleton.mp hv]; exact GA.str (nm_of hy))
          exact ⟨_, _, rfl, rw_dat (SqT.of (s8 _ _ h2)) (g1 K _), g2⟩
      obtain ⟨r, v, hat, hv, hok⟩ := hpk
      refine ⟨_, rfl, _, _, rfl, rfl, p3, _, _, _, rfl, rfl, SqL.of upd_same, hat, ?_⟩
      refine ⟨l1, _, _, rfl, rfl, I.e1, lt_1000 hxl, ?_⟩
      have I2 := I.put hv hok
      exact ⟨_, _, _, _, _, _, _, rfl, I2, by rw [List.length_append, List.length_singleton]; omega, by omega⟩

    rintro σ H2 ⟨rs, xs, st, v6, v7, v8, v9, rfl, I, hrl, hsl'⟩
    refine ⟨_, rfl, l2, rfl, ⟨_, SqL.of I.e2⟩, for_list (xs := st.map V.str) (fun i σ H3 => ∃ (rs : List Rw) (xs : List V) (v6 v7 v8 v9 : Option V), σ = [some (.ref a), some (.int k), some (.int b), some (.ref sz), some (.ref l1), some (.ref l2), v6, v7, v8, v9] ∧ Iv3 K H l1 l2 rs xs st H3 ∧ rs.length ≤ 7 + i) ⟨rs, xs, v6, v7, v8, v9, rfl, I, by omega⟩ ?_ ?_ ?_⟩
    · rintro i σ H3 hi ⟨rs, xs, v6, v7, v8, v9, rfl, I, hrl⟩
      exact SqL.of I.e2
    · rintro i x σ H3 hx ⟨rs, xs, v6, v7, v8, v9, rfl, I, hrl⟩
      have hi := (List.getElem?_eq_some_iff.mp hx).1
      rw [List.length_map] at hi
      have hxl : xs.length ≤ 1000 := by rw [I.len]; omega
      refine ⟨_, rfl, .inl ⟨rfl, _, SqL.of I.e1⟩, le1, fun tp htp => ?_⟩
      have hex := rw_plain (k := "end") (vs := []) (by decide +kernel) (by decide +kernel) (fun v hv => by cases hv)
      obtain ⟨ds, g1, g2⟩ := hex
      have I1 := I.mono (Same.new (o := .tup [.str "end"]) htp)
      refine ⟨l1, _, _, rfl, rfl, I1.e1, lt_1000 hxl, ?_⟩
      have I2 := I1.put (rw_dat (SqT.of upd_same) (g1 K _)) g2

      exact ⟨_, _, _, _, _, _, rfl, I2, by rw [List.length_append, List.length_singleton]; omega⟩
    rintro σ H3 ⟨rs, xs, v6, v7, v8, v9, rfl, I, hrl⟩
    rw [List.length_map] at hrl
    have hxl : xs.length ≤ 1000 := by rw [I.len]; omega
    refine ⟨_, rfl, .inl ⟨rfl, _, SqL.of I.e1⟩, _, rfl, b, 12, rfl, fun x H4 hx s4 => ⟨le2, fun tp htp => ?_⟩⟩
    obtain ⟨ds, g1, g2⟩ := rw_plain (k := "back") (vs := [.str x]) (by decide +kernel) (by decide +kernel) (fun v hv => by rw [List.mem_singleton.mp hv]; exact GA.str (nm_of hx))
    have I1 := I.mono (s4.trans (Same.new (o := .tup [.str "back", .str x]) htp))
    refine ⟨l1, _, _, rfl, rfl, I1.e1, lt_1000 hxl, ?_⟩
    have I2 := I1.put (rw_dat (SqT.of upd_same) (g1 K _)) g2
    exact ⟨_, rfl, q l1 _ _ _ I2.s I2.f1 I2.e1 I2.d (by rw [List.length_append, List.length_singleton]; omega) I2.ok⟩
end
end K16

set_option Elab.async false
set_option linter.all false
set_option maxRecDepth 100000
set_option maxHeartbeats 4000000
namespace K16
open PySem L2 Gx Lk
section
variable {P : Program} {w : World} {K : PySem.W.Frag} {mg : Str → Option Value} {base : Heap} {t : Adr}
theorem sc_l_functions : FnScope ["_law_script", "_law_cell_here", "_law_base", "_law_many", "_law_sizes", "_law_functions_here", "_law_k", "_law_params", "_law_rows_here"] ["_law_script"] (defScope s_l_functions) := ⟨rfl, rfl, rfl, by decide +kernel, rfl, by decide +kernel, by decide +kernel⟩
theorem ok_l_functions (T : Txt K mg t) : FnOk P w K mg base CX0 5 t.a_l_functions t.d_l_functions ["_law_script"] (sp_l_functions K) := by
  have G_l_cell : FnOk P w K mg base CX0 1 t.a_l_cell t.d_l_cell ["_law_script", "_law_k"] (sp_l_cell K) := ok_l_cell T
  have G_l_part : FnOk P w K mg base CX0 1 t.a_l_part t.d_l_part ["_law_cell_here", "_law_j", "_law_many"] (sp_l_part K) := ok_l_part T
  have G_l_rows : FnOk P w K mg base CX0 4 t.a_l_rows t.d_l_rows ["_law_script", "_law_at", "_law_base", "_law_sizes"] (sp_l_rows K) := ok_l_rows T
  have G_l_name : FnOk P w K mg base CX0 2 t.a_l_name t.d_l_name ["_law_cell_here", "_law_k"] (sp_l_name K) := ok_l_name T
  refine T.l_functions.F.ok sc_l_functions (fun vs H Q E h => ?_) (fun cdv A outer s H vs Q E hr h => ?_)
  · obtain ⟨a, ns, rfl, hA, hnl, q⟩ := h
    rfl
  · obtain ⟨a, ns, rfl, hA, hnl, q⟩ := h
    refine ⟨_, (@pss_cons _ _ _ _ _ (@ps_set _ _ 1 _ _ _ _ sc_l_functions.nd rfl (Or.inr rfl) (callD T.l_cell G_l_cell (hr.mono (by decide)) (@pa_cons _ _ _ _ _ (pv 0) (@pa_cons _ _ _ _ _ pe_int pa_nil (by rfl)) (by rfl))) (by rfl) (by first | exact .inl rfl | exact .inr rfl | assumption)) (@pss_cons _ _ _ _ _ (@ps_set _ _ 2 _ _ _ _ sc_l_functions.nd rfl (Or.inr rfl) (callD T.l_cell G_l_cell (hr.mono (by decide)) (@pa_cons _ _ _ _ _ (pv 0) (@pa_cons _ _ _ _ _ pe_int pa_nil (by rfl)) (by rfl))) (by rfl) (by first | exact .inl rfl | exact .inr rfl | assumption)) (@pss_cons _ _ _ _ _ (@ps_set _ _ 3 _ _ _ _ sc_l_functions.nd rfl (Or.inl rfl) (@pe_op _ _ _ _ _ _ _ _ op_add pe_int (@pe_op _ _ _ _ _ _ _ _ op_mod (pv 1) pe_int)) (by rfl) (by first | exact .inl rfl | exact .inr rfl | assumption)) (@pss_cons _ _ _ _ _ (@ps_if _ _ _ _ _ _ _ _ (@pt_cmpR _ _ _ _ _ _ _ _ op_eq (callD T.l_part G_l_part (hr.mono (by decide)) (@pa_cons _ _ _ _ _ (pv 1) (@pa_cons _ _ _ _ _ pe_int (@pa_cons _ _ _ _ _ pe_int pa_nil (by rfl)) (by rfl)) (by rfl))) pe_int (nomark _)) (@pss_one _ _ _ (@ps_set _ _ 3 _ _ _ _ sc_l_functions.nd rfl (Or.inl rfl) pe_int (by rfl) (by first | exact .inl rfl | exact .inr rfl | assumption))) pss_nil) (@pss_cons _ _ _ _ _ (ps_setc (i := 4) sc_l_functions.nd rfl (Or.inl rfl) (N' := ["_law_k", "_law_cell_here"]) (js := [none, some 1]) (by kernel_rfl) rfl (pi_range1 rfl T.b_range (@pa_cons _ _ _ _ _ (pv 3) pa_nil (by rfl))) own_name (fun _ _ _ _ => (pg_name (i := 0) (show (["_law_k", "_law_cell_here"] : List Str).Nodup by decide +kernel) rfl (Or.inl rfl) (.inr rfl))) (fun _ _ _ _ => pif_nil) (fun _ _ _ _ => (callD T.l_part G_l_part (hr.mono (by decide)) (@pa_cons _ _ _ _ _ (pv 1) (@pa_cons _ _ _ _ _ (pv 0) (@pa_cons _ _ _ _ _ pe_int pa_nil (by rfl)) (by rfl)) (by rfl)))) (by rfl)) (@pss_cons _ _ _ _ _ (@ps_set _ _ 5 _ _ _ _ sc_l_functions.nd rfl (Or.inl rfl) (@pe_lst _ _ _ _ pa_nil) (by rfl) (by first | exact .inl rfl | exact .inr rfl | assumption)) (@pss_cons _ _ _ _ _ (ps_for PassesOwn.never rfl (pi_range1 rfl T.b_range (@pa_cons _ _ _ _ _ (pv 3) pa_nil (by rfl))) (pg_name (i := 6) sc_l_functions.nd rfl (Or.inl rfl)) (@pss_cons _ _ _ _ _ (ps_setc (i := 7) sc_l_functions.nd rfl (Or.inl rfl) (N' := ["_law_j", "_law_base"]) (js := [none, some 2]) (by kernel_rfl) rfl (pi_range1 rfl T.b_range (@pa_cons _ _ _ _ _ (@pe_ix _ _ _ _ _ _ _ ix_list (pv 4) (pv 6) (fun _ _ => rfl)) pa_nil (by rfl))) own_name (fun _ _ _ _ => (pg_name (i := 0) (show (["_law_j", "_law_base"] : List Str).Nodup by decide +kernel) rfl (Or.inl rfl) (.inr rfl))) (fun _ _ _ _ => pif_nil) (fun _ _ _ _ => (callD T.l_name G_l_name (hr.mono (by decide)) (@pa_cons _ _ _ _ _ (pv 1) (@pa_cons _ _ _ _ _ (@pe_op _ _ _ _ _ _ _ _ op_mod (@pe_op _ _ _ _ _ _ _ _ op_add (callD T.l_part G_l_part (hr.mono (by decide)) (@pa_cons _ _ _ _ _ (pv 1) (@pa_cons _ _ _ _ _ pe_int (@pa_cons _ _ _ _ _ pe_int pa_nil (by rfl)) (by rfl)) (by rfl))) (@pe_op _ _ _ _ _ _ _ _ op_mul pe_int (pv 0))) pe_int) pa_nil (by rfl)) (by rfl)))) (by rfl)) (@pss_cons _ _ _ _ _ (@ps_set _ _ 8 _ _ _ _ sc_l_functions.nd rfl (Or.inl rfl) (callD T.l_rows G_l_rows (hr.mono (by decide)) (@pa_cons _ _ _ _ _ (pv 0) (@pa_cons _ _ _ _ _ (@pe_op _ _ _ _ _ _ _ _ op_add pe_int (@pe_op _ _ _ _ _ _ _ _ op_mul pe_int (pv 6))) (@pa_cons _ _ _ _ _ (pv 2) (@pa_cons _ _ _ _ _ (pv 4) pa_nil (by rfl)) (by rfl)) (by rfl)) (by rfl))) (by rfl) (by first | exact .inl rfl | exact .inr rfl | assumption)) (@pss_one _ _ _ (@ps_expr _ _ _ _ (pe_bm PySem.F.plainAttrs_list PySem.F.slot_list_append PySem.F.type_list_append mt_append (pv 5) (@pa_cons _ _ _ _ _ (@pe_lst _ _ _ _ (@pa_cons _ _ _ _ _ (callD T.l_name G_l_name (hr.mono (by decide)) (@pa_cons _ _ _ _ _ (pv 2) (@pa_cons _ _ _ _ _ (pv 6) pa_nil (by rfl)) (by rfl))) (@pa_cons _ _ _ _ _ (pe_cmpR op_eq (callD T.l_part G_l_part (hr.mono (by decide)) (@pa_cons _ _ _ _ _ (pv 1) (@pa_cons _ _ _ _ _ (pv 6) (@pa_cons _ _ _ _ _ pe_int pa_nil (by rfl)) (by rfl)) (by rfl))) pe_int (nomark _)) (@pa_cons _ _ _ _ _ (pv 7) (@pa_cons _ _ _ _ _ (pv 8) pa_nil (by rfl)) (by rfl)) (by rfl)) (by rfl))) pa_nil (by rfl))) (by rfl)))))) (@pss_one _ _ _ (@ps_ret _ _ _ _ (pv 5)))))))))), ?_⟩
    refine ⟨_, rfl, a, ns, 0, rfl, hA, hnl, by decide, by decide, fun c => ?_⟩
    refine ⟨_, rfl, a, ns, 1, rfl, hA, hnl, by decide, by decide, fun b => ?_⟩
    refine ⟨_, rfl, _, _, rfl, rfl, (show (0 : Int) < 4 by decide), _, _, rfl, rfl, ?_⟩
    refine ⟨_, rfl, c, 3, 16, rfl, by decide, by decide, fun z H2 z0 z1 s2 => ?_⟩
    refine ⟨rfl, _, rfl, ?_⟩
    refine ite2 (fun c1 => ?_) (fun c1 => ?_)
    · skip
      refine ⟨_, rfl, _, rfl, by omega, by omega, fun sz hsz => comp_relR (lo := 0) (n := (12 : Int).toNat) (fun _ _ v => ∃ n : Int, (0 ≤ n ∧ n ≤ 10) ∧ v = .int n) (fun _ _ _ _ _ h => h) (by omega) hsz ?_ ?_⟩
      · rintro i H3 R' hi s3 _ r3
        exact ⟨_, rfl, _, rfl, c, _, 7, rfl, by omega, by decide, fun z H4 z0 z1 s4 => r3 _ H4 s4 ⟨z, ⟨z0, by omega⟩, rfl⟩⟩
      intro H3 vs s3 e3 lv tv
      obtain ⟨ss, rfl, hss⟩ := ints_of (vs_mem tv)
      rw [List.length_map] at lv
      clear tv
      have s03 := s2.trans s3
      refine ⟨le0, fun L hL => ?_⟩
      have hsL : sz ≠ L := fun z => by rw [z, hL] at e3; cases e3
      have F0 : FsAt K H (upd H3 L (.lst [])) 20 L [] := FsAt.none s03 hL
      refine ⟨_, rfl, _, rfl, by omega, by omega, for_range (lo := 0) (n := (12 : Int).toNat) (fun i σ H4 => ∃ (fos : List Fo) (v6 v7 v8 : Option V), σ = [some (.ref a), some (.int c), some (.int b), some (.int 12), some (.ref sz), some (.ref L), v6, v7, v8] ∧ FsAt K H H4 20 L fos ∧ H4 sz = some (.lst (ss.map V.int)) ∧ fos.length ≤ i) ⟨[], none, none, none, rfl, F0, by rw [upd_ne hsL]; exact e3, Nat.le_refl _⟩ ?_ ?_⟩
      · rintro i σ H4 hi ⟨fos, v6, v7, v8, rfl, F, eS, hfl⟩
        have hkn : ss[i]? = some ss[i] := List.getElem?_eq_getElem (by omega)
        obtain ⟨b0, b1⟩ := hss ss[i] (List.getElem_mem _)
        generalize ss[i] = n at hkn b0 b1
        have hat : atI (ss.map V.int) (0 + (i : Int)) = some (V.int n) := by rw [Int.zero_add]; exact atN (by rw [List.getElem?_map, hkn]; rfl)
        refine ⟨_, rfl, _, rfl, sz, _, _, _, rfl, rfl, SqL.of eS, hat, _, rfl, by omega, by omega, fun pa hpa => comp_relR (lo := 0) (n := n.toNat) (fun _ _ v => ∃ x : Str, Nm x ∧ v = .str x) (fun _ _ _ _ _ h => h) (by omega) hpa ?_ ?_⟩
        · rintro j H5 R' hj s5 _ r5
          exact ⟨_, rfl, _, rfl, b, 11, 12, rfl, by decide, by decide, fun z H6 z0 z1 s6 => ⟨_, rfl, _, _, rfl, rfl, .inl ⟨by decide, by decide⟩, _, _, rfl, rfl, _, _, rfl, rfl, (show (0 : Int) < 26 by decide), b, _, rfl, fun x H7 hx s7 => r5 _ H7 (s6.trans s7) ⟨x, nm_of hx, rfl⟩⟩⟩
        intro H5 ps s5 e5 lp tp
        obtain ⟨pn, rfl, hpn⟩ := ints_of (vs_mem tp)
        rw [List.length_map] at lp
        clear tp
        refine ⟨_, rfl, _, rfl, _, _, rfl, rfl, .inl ⟨by decide, by decide⟩, _, _, rfl, rfl, _, rfl, _, rfl, a, ns, _, b, sz, ss, rfl, (F.s.trans s5).seq hA, hnl, by omega, by omega, SqL.of (s5 _ _ eS), (fun z => by rw [z] at hkn; simp at hkn), by omega, hss, fun ra rs rv H6 s6 hra e6 d6 l6 ok6 => ?_⟩
        have F6 := F.mono (s5.trans s6)
        refine ⟨_, rfl, .inl ⟨rfl, _, SqL.of F6.eL⟩, _, rfl, _, rfl, b, _, rfl, fun nm H7 hnm s7 => ⟨_, rfl, _, rfl, c, _, 2, rfl, by omega, by decide, fun z H8 z0 z1 s8 => ⟨rfl, _, rfl, _, rfl, le4, fun e he => ?_⟩⟩⟩
        have s48 := ((s5.trans s6).trans s7).trans s8
        have sN := Same.new (o := .lst [.str nm, .bl (decide (V.int z = V.int 1)), .ref pa, .ref ra]) he
        have e5' := (s6.trans (s7.trans s8)) _ _ e5
        have e6' := (s7.trans s8) _ _ e6
        refine ⟨L, _, _, rfl, rfl, sN _ _ (s48 _ _ F.eL), lt_1000 (by rw [List.length_map]; omega), ?_⟩
        have m1 : pa ≠ e := fun q => by rw [← q, e5'] at he; cases he
        have m2 : ra ≠ e := fun q => by rw [← q, e6'] at he; cases he
        have m3 : ra ≠ pa := fun q => by rw [q, e5] at hra; cases hra
        have G := F.snoc (x := ⟨e, pa, ra, ⟨nm, decide (V.int z = V.int 1), pn, rs⟩, rv⟩) (s48.trans sN) (by omega) (s48.free he) hpa (s5.free hra) m1 m2 m3
          ⟨upd_same, sN _ _ e5', sN _ _ e6', L2.DatAll.mono ((s7.trans s8).trans sN) _ _ d6⟩ ⟨nm_of hnm, hpn, ok6⟩ (by show pn.length ≤ 10; omega) l6
        exact ⟨_, _, _, _, rfl, G, by rw [upd_ne hsL]; exact sN _ _ (s48 _ _ eS), by rw [List.length_append, List.length_singleton]; omega⟩
      rintro σ H4 ⟨fos, v6, v7, v8, rfl, F, eS, hfl⟩
      exact ⟨_, rfl, q L fos _ F⟩
    · skip
      refine ⟨_, rfl, _, rfl, by omega, by omega, fun sz hsz => comp_relR (lo := 0) (n := ((1 + c % 4) : Int).toNat) (fun _ _ v => ∃ n : Int, (0 ≤ n ∧ n ≤ 10) ∧ v = .int n) (fun _ _ _ _ _ h => h) (by omega) hsz ?_ ?_⟩
      · rintro i H3 R' hi s3 _ r3
        exact ⟨_, rfl, _, rfl, c, _, 7, rfl, by omega, by decide, fun z H4 z0 z1 s4 => r3 _ H4 s4 ⟨z, ⟨z0, by omega⟩, rfl⟩⟩
      intro H3 vs s3 e3 lv tv
      obtain ⟨ss, rfl, hss⟩ := ints_of (vs_mem tv)
      rw [List.length_map] at lv
      clear tv
      have s03 := s2.trans s3
      refine ⟨le0, fun L hL => ?_⟩
      have hsL : sz ≠ L := fun z => by rw [z, hL] at e3; cases e3
      have F0 : FsAt K H (upd H3 L (.lst [])) 20 L [] := FsAt.none s03 hL
      refine ⟨_, rfl, _, rfl, by omega, by omega, for_range (lo := 0) (n := ((1 + c % 4) : Int).toNat) (fun i σ H4 => ∃ (fos : List Fo) (v6 v7 v8 : Option V), σ = [some (.ref a), some (.int c), some (.int b), some (.int (1 + c % 4)), some (.ref sz), some (.ref L), v6, v7, v8] ∧ FsAt K H H4 20 L fos ∧ H4 sz = some (.lst (ss.map V.int)) ∧ fos.length ≤ i) ⟨[], none, none, none, rfl, F0, by rw [upd_ne hsL]; exact e3, Nat.le_refl _⟩ ?_ ?_⟩
      · rintro i σ H4 hi ⟨fos, v6, v7, v8, rfl, F, eS, hfl⟩
        have hkn : ss[i]? = some ss[i] := List.getElem?_eq_getElem (by omega)
        obtain ⟨b0, b1⟩ := hss ss[i] (List.getElem_mem _)
        generalize ss[i] = n at hkn b0 b1
        have hat : atI (ss.map V.int) (0 + (i : Int)) = some (V.int n) := by rw [Int.zero_add]; exact atN (by rw [List.getElem?_map, hkn]; rfl)
        refine ⟨_, rfl, _, rfl, sz, _, _, _, rfl, rfl, SqL.of eS, hat, _, rfl, by omega, by omega, fun pa hpa => comp_relR (lo := 0) (n := n.toNat) (fun _ _ v => ∃ x : Str, Nm x ∧ v = .str x) (fun _ _ _ _ _ h => h) (by omega) hpa ?_ ?_⟩
        · rintro j H5 R' hj s5 _ r5
          exact ⟨_, rfl, _, rfl, b, 11, 12, rfl, by decide, by decide, fun z H6 z0 z1 s6 => ⟨_, rfl, _, _, rfl, rfl, .inl ⟨by decide, by decide⟩, _, _, rfl, rfl, _, _, rfl, rfl, (show (0 : Int) < 26 by decide), b, _, rfl, fun x H7 hx s7 => r5 _ H7 (s6.trans s7) ⟨x, nm_of hx, rfl⟩⟩⟩
        intro H5 ps s5 e5 lp tp
        obtain ⟨pn, rfl, hpn⟩ := ints_of (vs_mem tp)
        rw [List.length_map] at lp
        clear tp
        refine ⟨_, rfl, _, rfl, _, _, rfl, rfl, .inl ⟨by decide, by decide⟩, _, _, rfl, rfl, _, rfl, _, rfl, a, ns, _, b, sz, ss, rfl, (F.s.trans s5).seq hA, hnl, by omega, by omega, SqL.of (s5 _ _ eS), (fun z => by rw [z] at hkn; simp at hkn), by omega, hss, fun ra rs rv H6 s6 hra e6 d6 l6 ok6 => ?_⟩
        have F6 := F.mono (s5.trans s6)
        refine ⟨_, rfl, .inl ⟨rfl, _, SqL.of F6.eL⟩, _, rfl, _, rfl, b, _, rfl, fun nm H7 hnm s7 => ⟨_, rfl, _, rfl, c, _, 2, rfl, by omega, by decide, fun z H8 z0 z1 s8 => ⟨rfl, _, rfl, _, rfl, le4, fun e he => ?_⟩⟩⟩
        have s48 := ((s5.trans s6).trans s7).trans s8
        have sN := Same.new (o := .lst [.str nm, .bl (decide (V.int z = V.int 1)), .ref pa, .ref ra]) he
        have e5' := (s6.trans (s7.trans s8)) _ _ e5
        have e6' := (s7.trans s8) _ _ e6
        refine ⟨L, _, _, rfl, rfl, sN _ _ (s48 _ _ F.eL), lt_1000 (by rw [List.length_map]; omega), ?_⟩
        have m1 : pa ≠ e := fun q => by rw [← q, e5'] at he; cases he
        have m2 : ra ≠ e := fun q => by rw [← q, e6'] at he; cases he
        have m3 : ra ≠ pa := fun q => by rw [q, e5] at hra; cases hra
        have G := F.snoc (x := ⟨e, pa, ra, ⟨nm, decide (V.int z = V.int 1), pn, rs⟩, rv⟩) (s48.trans sN) (by omega) (s48.free he) hpa (s5.free hra) m1 m2 m3
          ⟨upd_same, sN _ _ e5', sN _ _ e6', L2.DatAll.mono ((s7.trans s8).trans sN) _ _ d6⟩ ⟨nm_of hnm, hpn, ok6⟩ (by show pn.length ≤ 10; omega) l6
        exact ⟨_, _, _, _, rfl, G, by rw [upd_ne hsL]; exact sN _ _ (s48 _ _ eS), by rw [List.length_append, List.length_singleton]; omega⟩
      rintro σ H4 ⟨fos, v6, v7, v8, rfl, F, eS, hfl⟩
      exact ⟨_, rfl, q L fos _ F⟩
end
end K16

set_option Elab.async false
set_option linter.all false
set_option maxRecDepth 100000
set_option maxHeartbeats 4000000
namespace K16
open PySem L2 Gx Lk
section
variable {P : Program} {w : World} {K : PySem.W.Frag} {mg : Str → Option Value} {base : Heap} {t : Adr}
theorem sc_l_spoilt : FnScope ["_law_functions_here", "_law_sort", "_law_cell_here", "_law_k", "_law_one", "_law_spot", "_law_other_here", "_law_name_here", "_law_size"] ["_law_functions_here", "_law_sort", "_law_cell_here"] (defScope s_l_spoilt) := ⟨rfl, rfl, rfl, by decide +kernel, rfl, by decide +kernel, by decide +kernel⟩
theorem ok_l_spoilt (T : Txt K mg t) : FnOk P w K mg base CX0 2 t.a_l_spoilt t.d_l_spoilt ["_law_functions_here", "_law_sort", "_law_cell_here"] (sp_l_spoilt K) := by
  have G_l_part : FnOk P w K mg base CX0 1 t.a_l_part t.d_l_part ["_law_cell_here", "_law_j", "_law_many"] (sp_l_part K) := ok_l_part T
  refine T.l_spoilt.F.ok sc_l_spoilt (fun vs H Q E h => ?_) (fun cdv A outer s H vs Q E hr h => ?_)
  · obtain ⟨Hb, n, L, fos, z, c, rfl, F, hn, z1, z12, q⟩ := h
    rfl
  · obtain ⟨Hb, n, L, fos, z, c, rfl, F, hn, z1, z12, q⟩ := h
    refine ⟨_, (@pss_cons _ _ _ _ _ (@ps_if _ _ _ _ _ _ _ _ (@PW.pt _ _ _ (pw_or (@pt_cmpR _ _ _ _ _ _ _ _ op_eq (pv 1) pe_int (nomark _)) (pw_or1 (@pt_cmpR _ _ _ _ _ _ _ _ (op_eqNil hr.units) (pv 0) (@pe_lst _ _ _ _ pa_nil) (nomark _))))) (@pss_one _ _ _ (@ps_ret _ _ _ _ (@pe_lst _ _ _ _ pa_nil))) pss_nil) (@pss_cons _ _ _ _ _ (@ps_set _ _ 3 _ _ _ _ sc_l_spoilt.nd rfl (Or.inl rfl) (callD T.l_part G_l_part (hr.mono (by decide)) (@pa_cons _ _ _ _ _ (pv 2) (@pa_cons _ _ _ _ _ pe_int (@pa_cons _ _ _ _ _ (pe_callB call_len_seq (by rfl) T.b_len bt_len (@pa_cons _ _ _ _ _ (pv 0) pa_nil (by rfl))) pa_nil (by rfl)) (by rfl)) (by rfl))) (by rfl) (by first | exact .inl rfl | exact .inr rfl | assumption)) (@pss_cons _ _ _ _ _ (@ps_set _ _ 4 _ _ _ _ sc_l_spoilt.nd rfl (Or.inl rfl) (@pe_ix _ _ _ _ _ _ _ ix_list (pv 0) (pv 3) (fun _ _ => rfl)) (by rfl) (by first | exact .inl rfl | exact .inr rfl | assumption)) (@pss_cons _ _ _ _ _ (@ps_set _ _ 5 _ _ _ _ sc_l_spoilt.nd rfl (Or.inl rfl) (callD T.l_part G_l_part (hr.mono (by decide)) (@pa_cons _ _ _ _ _ (pv 2) (@pa_cons _ _ _ _ _ pe_int (@pa_cons _ _ _ _ _ (@pe_op _ _ _ _ _ _ _ _ op_add (pe_callB call_len_seq (by rfl) T.b_len bt_len (@pa_cons _ _ _ _ _ (@pe_ix _ _ _ _ _ _ _ ix_list (pv 4) pe_int (fun _ _ => rfl)) pa_nil (by rfl))) pe_int) pa_nil (by rfl)) (by rfl)) (by rfl))) (by rfl) (by first | exact .inl rfl | exact .inr rfl | assumption)) (@pss_cons _ _ _ _ _ (@ps_if _ _ _ _ _ _ _ _ (@pt_cmpR _ _ _ _ _ _ _ _ op_eq (pv 1) pe_int (nomark _)) (@pss_one _ _ _ (ps_asg (@pe_ix _ _ _ _ _ _ _ ix_list (@pe_ix _ _ _ _ _ _ _ ix_list (pv 0) (callD T.l_part G_l_part (hr.mono (by decide)) (@pa_cons _ _ _ _ _ (pv 2) (@pa_cons _ _ _ _ _ pe_int (@pa_cons _ _ _ _ _ (@pe_op _ _ _ _ _ _ _ _ op_add (pv 3) pe_int) pa_nil (by rfl)) (by rfl)) (by rfl))) (fun _ _ => rfl)) pe_int (fun _ _ => rfl)) (pg_sub (pv 4) pe_int set_list))) (@pss_one _ _ _ (@ps_if _ _ _ _ _ _ _ _ (@PW.pt _ _ _ (@pw_and _ _ _ _ _ _ _ (@pt_cmpR _ _ _ _ _ _ _ _ op_eq (pv 1) pe_int (nomark _)) (@pw_and1 _ _ _ _ (@pt_cmpR _ _ _ _ _ _ _ _ op_gt (pe_callB call_len_seq (by rfl) T.b_len bt_len (@pa_cons _ _ _ _ _ (@pe_ix _ _ _ _ _ _ _ ix_list (pv 4) pe_int (fun _ _ => rfl)) pa_nil (by rfl))) pe_int (nomark _))))) (@pss_cons _ _ _ _ _ (@ps_set _ _ 6 _ _ _ _ sc_l_spoilt.nd rfl (Or.inl rfl) (@pe_op _ _ _ _ _ _ _ _ op_add pe_int (callD T.l_part G_l_part (hr.mono (by decide)) (@pa_cons _ _ _ _ _ (pv 2) (@pa_cons _ _ _ _ _ pe_int (@pa_cons _ _ _ _ _ (@pe_op _ _ _ _ _ _ _ _ op_sub (pe_callB call_len_seq (by rfl) T.b_len bt_len (@pa_cons _ _ _ _ _ (@pe_ix _ _ _ _ _ _ _ ix_list (pv 4) pe_int (fun _ _ => rfl)) pa_nil (by rfl))) pe_int) pa_nil (by rfl)) (by rfl)) (by rfl)))) (by rfl) (by first | exact .inl rfl | exact .inr rfl | assumption)) (@pss_one _ _ _ (ps_asg (@pe_ix _ _ _ _ _ _ _ ix_list (@pe_ix _ _ _ _ _ _ _ ix_list (pv 4) pe_int (fun _ _ => rfl)) (callD T.l_part G_l_part (hr.mono (by decide)) (@pa_cons _ _ _ _ _ (pv 2) (@pa_cons _ _ _ _ _ pe_int (@pa_cons _ _ _ _ _ (pv 6) pa_nil (by rfl)) (by rfl)) (by rfl))) (fun _ _ => rfl)) (pg_sub (@pe_ix _ _ _ _ _ _ _ ix_list (pv 4) pe_int (fun _ _ => rfl)) (pv 6) set_list)))) (@pss_one _ _ _ (@ps_if _ _ _ _ _ _ _ _ (@PW.pt _ _ _ (pw_or (@pt_cmpR _ _ _ _ _ _ _ _ op_eq (pv 1) pe_int (nomark _)) (pw_or1 (@pt_cmpR _ _ _ _ _ _ _ _ op_eq (pv 1) pe_int (nomark _))))) (@pss_one _ _ _ (@ps_expr _ _ _ _ (pe_bm PySem.F.plainAttrs_list PySem.F.slot_list_insert PySem.F.type_list_insert mt_insert (@pe_ix _ _ _ _ _ _ _ ix_list (pv 4) pe_int (fun _ _ => rfl)) (@pa_cons _ _ _ _ _ (pv 5) (@pa_cons _ _ _ _ _ (@pe_tup _ _ _ _ _ (@pa_cons _ _ _ _ _ (@pe_ix _ _ _ _ _ _ _ ix_list (@pe_lst _ _ _ _ (@pa_cons _ _ _ _ _ pe_str (@pa_cons _ _ _ _ _ pe_str pa_nil (by rfl)) (by rfl))) (@pe_op _ _ _ _ _ _ _ _ op_sub (pv 1) pe_int) (fun _ _ => rfl)) pa_nil (by rfl))) pa_nil (by rfl)) (by rfl))) (by rfl))) (@pss_one _ _ _ (@ps_if _ _ _ _ _ _ _ _ (@PW.pt _ _ _ (pw_or (@pt_cmpR _ _ _ _ _ _ _ _ op_eq (pv 1) pe_int (nomark _)) (pw_or1 (@pt_cmpR _ _ _ _ _ _ _ _ op_eq (pv 1) pe_int (nomark _))))) (@pss_one _ _ _ (ps_asg (@pe_op _ _ _ _ _ _ _ _ op_cat (@pe_slice _ _ _ _ _ _ _ _ _ _ sl_list (@pe_ix _ _ _ _ _ _ _ ix_list (pv 4) pe_int (fun _ _ => rfl)) po_none (po_some (pv 5))) (@pe_slice _ _ _ _ _ _ _ _ _ _ sl_list (@pe_ix _ _ _ _ _ _ _ ix_list (pv 4) pe_int (fun _ _ => rfl)) (po_some (@pe_op _ _ _ _ _ _ _ _ op_add (pv 5) pe_int)) po_none)) (pg_sub (pv 4) pe_int set_list))) (@pss_one _ _ _ (@ps_if _ _ _ _ _ _ _ _ (@pt_cmpR _ _ _ _ _ _ _ _ op_eq (pv 1) pe_int (nomark _)) (@pss_one _ _ _ (ps_asg (@pe_lst _ _ _ _ pa_nil) (pg_sub (pv 4) pe_int set_list))) (@pss_one _ _ _ (@ps_if _ _ _ _ _ _ _ _ (@PW.pt _ _ _ (@pw_and _ _ _ _ _ _ _ (@pt_cmpR _ _ _ _ _ _ _ _ op_eq (pv 1) pe_int (nomark _)) (@pw_and1 _ _ _ _ (@pt_cmpR _ _ _ _ _ _ _ _ (op_neD hr.units) (@pe_ix _ _ _ _ _ _ _ ix_list (pv 4) pe_int (fun _ _ => rfl)) (@pe_lst _ _ _ _ pa_nil) (nomark _))))) (@pss_one _ _ _ (ps_asg (@pe_ix _ _ _ _ _ _ _ ix_list (@pe_lst _ _ _ _ (@pa_cons _ _ _ _ _ (@pe_tup _ _ _ _ _ (@pa_cons _ _ _ _ _ pe_str (@pa_cons _ _ _ _ _ pe_int pa_nil (by rfl)) (by rfl))) (@pa_cons _ _ _ _ _ (@pe_tup _ _ _ _ _ (@pa_cons _ _ _ _ _ pe_str pa_nil (by rfl))) (@pa_cons _ _ _ _ _ (@pe_tup _ _ _ _ _ (@pa_cons _ _ _ _ _ pe_str (@pa_cons _ _ _ _ _ pe_str (@pa_cons _ _ _ _ _ (@pe_ix _ _ _ _ _ _ _ ix_list (pv 4) pe_int (fun _ _ => rfl)) (@pa_cons _ _ _ _ _ (@pe_tup _ _ _ _ _ pa_nil) pa_nil (by rfl)) (by rfl)) (by rfl)) (by rfl))) pa_nil (by rfl)) (by rfl)) (by rfl))) (callD T.l_part G_l_part (hr.mono (by decide)) (@pa_cons _ _ _ _ _ (pv 2) (@pa_cons _ _ _ _ _ pe_int (@pa_cons _ _ _ _ _ pe_int pa_nil (by rfl)) (by rfl)) (by rfl))) (fun _ _ => rfl)) (pg_sub (@pe_ix _ _ _ _ _ _ _ ix_list (pv 4) pe_int (fun _ _ => rfl)) (pe_un un_neg pe_int) set_list))) (@pss_one _ _ _ (@ps_if _ _ _ _ _ _ _ _ (@pt_cmpR _ _ _ _ _ _ _ _ op_gt (pv 1) pe_int (nomark _)) (@pss_cons _ _ _ _ _ (@ps_set _ _ 7 _ _ _ _ sc_l_spoilt.nd rfl (Or.inl rfl) (@pe_ix _ _ _ _ _ _ _ ix_list (@pe_lst _ _ _ _ (@pa_cons _ _ _ _ _ (@pe_ix _ _ _ _ _ _ _ ix_list (pv 4) pe_int (fun _ _ => rfl)) (@pa_cons _ _ _ _ _ (@pe_op _ _ _ _ _ _ _ _ op_add_str (@pe_ix _ _ _ _ _ _ _ ix_list (pv 4) pe_int (fun _ _ => rfl)) pe_str) (@pa_cons _ _ _ _ _ (@pe_op _ _ _ _ _ _ _ _ op_add_str pe_str (@pe_slice _ _ _ _ _ _ _ _ _ _ sl_str (@pe_ix _ _ _ _ _ _ _ ix_list (pv 4) pe_int (fun _ _ => rfl)) po_none (po_some pe_int))) pa_nil (by rfl)) (by rfl)) (by rfl))) (callD T.l_part G_l_part (hr.mono (by decide)) (@pa_cons _ _ _ _ _ (pv 2) (@pa_cons _ _ _ _ _ pe_int (@pa_cons _ _ _ _ _ pe_int pa_nil (by rfl)) (by rfl)) (by rfl))) (fun _ _ => rfl)) (by rfl) (by first | exact .inl rfl | exact .inr rfl | assumption)) (@pss_cons _ _ _ _ _ (@ps_set _ _ 8 _ _ _ _ sc_l_spoilt.nd rfl (Or.inl rfl) (@pe_op _ _ _ _ _ _ _ _ op_mod (@pe_op _ _ _ _ _ _ _ _ op_add (pe_callB call_len_seq (by rfl) T.b_len bt_len (@pa_cons _ _ _ _ _ (@pe_ix _ _ _ _ _ _ _ ix_list (pv 4) pe_int (fun _ _ => rfl)) pa_nil (by rfl))) (@pe_ix _ _ _ _ _ _ _ ix_list (@pe_litL _ _ [V.int 0, V.int 1, V.int 6, V.int 3, V.int 5, V.int 2] (by kernel_rfl)) (callD T.l_part G_l_part (hr.mono (by decide)) (@pa_cons _ _ _ _ _ (pv 2) (@pa_cons _ _ _ _ _ pe_int (@pa_cons _ _ _ _ _ pe_int pa_nil (by rfl)) (by rfl)) (by rfl))) (fun _ _ => rfl))) pe_int) (by rfl) (by first | exact .inl rfl | exact .inr rfl | assumption)) (@pss_one _ _ _ (@ps_expr _ _ _ _ (pe_bm PySem.F.plainAttrs_list PySem.F.slot_list_insert PySem.F.type_list_insert mt_insert (@pe_ix _ _ _ _ _ _ _ ix_list (pv 4) pe_int (fun _ _ => rfl)) (@pa_cons _ _ _ _ _ (pv 5) (@pa_cons _ _ _ _ _ (@pe_tup _ _ _ _ _ (@pa_cons _ _ _ _ _ pe_str (@pa_cons _ _ _ _ _ pe_str (@pa_cons _ _ _ _ _ (@pe_slice _ _ _ _ _ _ _ _ _ _ sl_str (pv 7) po_none (po_some pe_int)) (@pa_cons _ _ _ _ _ (@pe_op _ _ _ _ _ _ _ _ op_repT (@pe_tup _ _ _ _ _ (@pa_cons _ _ _ _ _ pe_int pa_nil (by rfl))) (pv 8)) pa_nil (by rfl)) (by rfl)) (by rfl)) (by rfl))) pa_nil (by rfl)) (by rfl))) (by rfl))))) pss_nil))))))))))))) (@pss_one _ _ _ (@ps_ret _ _ _ _ (pv 0)))))))), ?_⟩
    by_cases hz1 : z = 1
    · refine ⟨_, rfl, rfl, _, rfl, iteP (decide_eq_true (congrArg V.int hz1)) (iteP rfl ?_)⟩
      exact ⟨le0, fun p hp => q p [] _ (FsAt.none F.s hp)⟩
    refine ⟨_, rfl, rfl, _, rfl, iteN (fun w => hz1 (V.int.inj (dec_true w))) ?_⟩
    refine ⟨_, rfl, le0, fun p hp => ⟨L, p, _, rfl, rfl, SqL.of (Same.new hp _ _ F.eL), SqL.of upd_same, _, rfl, ?_⟩⟩
    replace F := F.mono (Same.new (o := .lst []) hp)
    generalize upd H p (.lst []) = H1 at F ⊢
    by_cases hf : fos = []
    · refine iteP (by rw [hf]; rfl) ?_
      exact ⟨le0, fun p2 hp2 => q p2 [] _ (FsAt.none F.s hp2)⟩
    have hfp := List.length_pos_iff.mpr hf
    refine iteN (by rw [decide_eq_false (fun w => hf (List.map_eq_nil_iff.mp w))]; exact Bool.false_ne_true) ?_
    refine ⟨_, rfl, _, rfl, L, _, rfl, .inl (SqL.of F.eL), c, 0, _, rfl, by decide, (show (0 : Int) < ((fos.map fun x => V.ref x.e).length : Nat) by rw [List.length_map]; omega), fun k H2 k0 k1 s2 => ?_⟩
    rw [List.length_map] at k1
    replace F := F.mono s2
    obtain ⟨kn, rfl⟩ := Int.eq_ofNat_of_zero_le k0
    obtain ⟨x, hk⟩ : ∃ x, fos[kn]? = some x := ⟨_, List.getElem?_eq_getElem (by omega)⟩
    have hkat : (fos.map fun x => V.ref x.e)[kn]? = some (.ref x.e) := by rw [List.getElem?_map, hk]; rfl
    have X1 : ∀ {H' : Hp}, FsAt K Hb H' n L fos → H' x.e = some (.lst [.str x.f.name, .bl x.f.folded, .ref x.pa, .ref x.ra]) := fun G => (G.mem hk).1.1
    have X2 : ∀ {H' : Hp}, FsAt K Hb H' n L fos → H' x.pa = some (.lst (x.f.ps.map V.str)) := fun G => (G.mem hk).1.2.1
    have X3 : ∀ {H' : Hp}, FsAt K Hb H' n L fos → H' x.ra = some (.lst x.rvs) := fun G => (G.mem hk).1.2.2.1
    have X4 : ∀ {H' : Hp}, FsAt K Hb H' n L fos → DatAll K H' (x.f.rows.map Rw.D) x.rvs := fun G => (G.mem hk).1.2.2.2
    have hxl := dat_len (X4 F)
    have hrl : x.rvs.length ≤ 1000 := by have := (F.mem hk).2.2.2; omega
    refine ⟨_, rfl, _, rfl, L, _, _, _, rfl, rfl, SqL.of F.eL, atN hkat, ?_⟩
    refine ⟨_, rfl, _, rfl, x.e, _, _, _, rfl, rfl, SqL.of (X1 F), atN (i := 3) rfl, x.ra, _, rfl, .inl (SqL.of (X3 F)), _, _, rfl, rfl, c, 1, _, rfl, by decide, by omega, fun sp H3 p0 p1 s3 => ?_⟩
    replace F := F.mono s3
    obtain ⟨sn, rfl⟩ := Int.eq_ofNat_of_zero_le p0
    have hsn : sn ≤ x.rvs.length := by omega
    by_cases zz : z = 2
    · skip
      refine ⟨_, rfl, rfl, _, rfl, iteP (decide_eq_true (congrArg V.int (by omega))) ?_⟩

      refine ⟨_, rfl, _, rfl, _, rfl, _, _, rfl, rfl, c, 2, _, rfl, by decide, by omega, fun j H4 j0 j1 s4 => ?_⟩
      replace F := F.mono s4
      obtain ⟨jn, rfl⟩ := Int.eq_ofNat_of_zero_le j0
      obtain ⟨y, hy⟩ : ∃ y, fos[jn]? = some y := ⟨_, List.getElem?_eq_getElem (by omega)⟩
      have hyat : (fos.map fun x => V.ref x.e)[jn]? = some (.ref y.e) := by rw [List.getElem?_map, hy]; rfl
      refine ⟨L, _, _, _, rfl, rfl, SqL.of F.eL, atN hyat, y.e, _, _, _, rfl, rfl, SqL.of (F.mem hy).1.1, at0, _, rfl, x.e, _, _, _, rfl, rfl, X1 F, (show ixN 4 0 = some 0 by decide), ?_⟩
      have G := F.name (m := n + 1) hk (F.mem hy).2.1.1 (by omega)

      obtain ⟨fos', F'⟩ := G
      exact ⟨_, rfl, q L fos' _ F'⟩
    by_cases zz : z = 3
    · skip
      refine ⟨_, rfl, rfl, _, rfl, iteN (fun w => absurd (V.int.inj (dec_true w)) (by omega)) ?_⟩

      refine ⟨_, rfl, rfl, _, rfl, iteP (decide_eq_true (congrArg V.int (by omega))) ?_⟩
      refine ⟨_, rfl, x.e, _, _, _, rfl, rfl, SqL.of (X1 F), atN (i := 2) rfl, x.pa, _, rfl, .inl (SqL.of (X2 F)), _, _, rfl, rfl, _, rfl, ?_⟩
      by_cases hps : 1 < x.f.ps.length
      · refine iteP (decide_eq_true (show (1 : Int) < ((x.f.ps.map V.str).length : Nat) by rw [List.length_map]; omega)) ?_
        refine ⟨_, rfl, _, rfl, x.e, _, _, _, rfl, rfl, SqL.of (X1 F), atN (i := 2) rfl, x.pa, _, rfl, .inl (SqL.of (X2 F)), _, _, rfl, rfl, c, 2, _, rfl, by decide, (show (0 : Int) < ((x.f.ps.map V.str).length : Nat) - 1 by rw [List.length_map]; omega), fun o H4 o0 o1 s4 => ?_⟩
        rw [List.length_map] at o1
        replace F := F.mono s4
        obtain ⟨on, rfl⟩ := Int.eq_ofNat_of_zero_le o0
        refine ⟨_, _, rfl, rfl, ?_⟩
        refine ⟨_, rfl, x.e, _, _, _, rfl, rfl, SqL.of (X1 F), atN (i := 2) rfl, _, rfl, _, rfl, c, 3, _, rfl, by decide, by omega, fun j H5 j0 j1 s5 => ?_⟩
        replace F := F.mono s5
        obtain ⟨jn, rfl⟩ := Int.eq_ofNat_of_zero_le j0
        obtain ⟨y, hy⟩ : ∃ y, x.f.ps[jn]? = some y := ⟨_, List.getElem?_eq_getElem (by omega)⟩
        have hyat : (x.f.ps.map V.str)[jn]? = some (.str y) := by rw [List.getElem?_map, hy]; rfl
        refine ⟨x.pa, _, _, _, rfl, rfl, SqL.of (X2 F), atN hyat, _, rfl, x.e, _, _, _, rfl, rfl, SqL.of (X1 F), atN (i := 2) rfl, _, rfl, x.pa, _, _, on + 1, rfl, rfl, X2 F, ?_, ?_⟩
        · rw [List.length_map]
          unfold ixN
          rw [if_pos (by omega), if_pos (by omega)]
          congr 1
          omega
        have G := F.params (m := n + 1) (ps := x.f.ps.set (on + 1) y) hk (fun p hp => by
          rcases List.mem_or_eq_of_mem_set hp with hp | rfl
          · exact (F.mem hk).2.1.2.1 p hp
          · exact (F.mem hk).2.1.2.1 p (List.mem_of_getElem? hy)) (by rw [List.length_set]; exact (F.mem hk).2.2.1) (by omega)
        rw [List.map_set] at G
        obtain ⟨fos', F'⟩ := G
        exact ⟨_, rfl, q L fos' _ F'⟩

      · refine iteN (fun w => hps (by have := dec_true w; rw [List.length_map] at this; omega)) ?_
        refine ⟨_, rfl, rfl, _, rfl, iteN (fun w => absurd (V.int.inj (dec_true w)) (by omega)) ?_⟩
        refine ⟨_, rfl, rfl, _, rfl, iteN (fun w => absurd (V.int.inj (dec_true w)) (by omega)) ?_⟩
        refine ⟨_, rfl, rfl, _, rfl, iteN (fun w => absurd (V.int.inj (dec_true w)) (by omega)) ?_⟩
        refine ⟨_, rfl, rfl, _, rfl, iteN (fun w => absurd (V.int.inj (dec_true w)) (by omega)) ?_⟩
        refine ⟨_, rfl, rfl, _, rfl, iteN (fun w => absurd (V.int.inj (dec_true w)) (by omega)) ?_⟩
        refine ⟨_, rfl, rfl, _, rfl, iteN (fun w => absurd (V.int.inj (dec_true w)) (by omega)) (iteN Bool.false_ne_true ?_)⟩
        refine ⟨_, rfl, _, _, rfl, rfl, _, rfl, iteN (fun w => absurd (dec_true w) (by omega)) ?_⟩
        exact ⟨_, rfl, q L fos _ (F.more (by omega))⟩
    by_cases zz : z = 4
    · skip
      refine ⟨_, rfl, rfl, _, rfl, iteN (fun w => absurd (V.int.inj (dec_true w)) (by omega)) ?_⟩
      refine ⟨_, rfl, rfl, _, rfl, iteN (fun w => absurd (V.int.inj (dec_true w)) (by omega)) (iteN Bool.false_ne_true ?_)⟩
      refine ⟨_, rfl, rfl, _, rfl, iteP (decide_eq_true (congrArg V.int (by omega))) (iteP rfl ?_)⟩

      refine ⟨_, rfl, x.e, _, _, _, rfl, rfl, SqL.of (X1 F), atN (i := 3) rfl, .inl ⟨rfl, _, SqL.of (X3 F)⟩, _, rfl, le2, fun p hp => ?_⟩
      replace F := F.mono (Same.new (o := .lst [.str "end", .str "else"]) hp)
      have hw : ∃ w : Str, (w = "end" ∨ w = "else") ∧ atI [V.str "end", V.str "else"] (z - 4) = some (.str w) := by
        obtain rfl | rfl : z = 4 ∨ z = 5 := by omega
        · exact ⟨_, .inl rfl, rfl⟩
        · exact ⟨_, .inr rfl, rfl⟩
      obtain ⟨w, hw, hwat⟩ := hw
      refine ⟨_, rfl, _, _, rfl, rfl, p, _, _, _, rfl, rfl, SqL.of upd_same, hwat, le1, fun tp htp => ?_⟩
      replace F := F.mono (Same.new (o := .tup [.str w]) htp)
      obtain ⟨ds, g1, hok⟩ := rw_plain (k := w) (vs := []) (by rcases hw with rfl | rfl <;> decide +kernel) (by rcases hw with rfl | rfl <;> decide +kernel) (fun v hv => by cases hv)
      have hv := rw_dat (SqT.of (upd_same (H := upd H3 p (.lst [.str "end", .str "else"])) (a := tp) (o := .tup [.str w]))) (g1 K _)
      refine ⟨x.ra, _, sn, _, rfl, rfl, X3 F, hsn, lt_1000 hrl, ?_⟩

      have G := F.rows (m := n + 1) hk (da_ins (i := sn) (X4 F) hv) (fun r' hr' => by
        rcases List.mem_append.mp hr' with h | h
        · exact (F.mem hk).2.1.2.2 r' (List.mem_of_mem_take h)
        · rcases List.mem_cons.mp h with rfl | h
          · exact hok
          · exact (F.mem hk).2.1.2.2 r' (List.mem_of_mem_drop h)) (by
        have := (F.mem hk).2.2.2
        rw [List.length_append, List.length_cons, List.length_take, List.length_drop]
        omega) (by omega)

      obtain ⟨fos', F'⟩ := G
      exact ⟨_, rfl, q L fos' _ F'⟩
    by_cases zz : z = 5
    · skip
      refine ⟨_, rfl, rfl, _, rfl, iteN (fun w => absurd (V.int.inj (dec_true w)) (by omega)) ?_⟩
      refine ⟨_, rfl, rfl, _, rfl, iteN (fun w => absurd (V.int.inj (dec_true w)) (by omega)) (iteN Bool.false_ne_true ?_)⟩
      refine ⟨_, rfl, rfl, _, rfl, iteN (fun w => absurd (V.int.inj (dec_true w)) (by omega)) ?_⟩
      refine ⟨_, rfl, rfl, _, rfl, iteP (decide_eq_true (congrArg V.int (by omega))) ?_⟩

      refine ⟨_, rfl, x.e, _, _, _, rfl, rfl, SqL.of (X1 F), atN (i := 3) rfl, .inl ⟨rfl, _, SqL.of (X3 F)⟩, _, rfl, le2, fun p hp => ?_⟩
      replace F := F.mono (Same.new (o := .lst [.str "end", .str "else"]) hp)
      have hw : ∃ w : Str, (w = "end" ∨ w = "else") ∧ atI [V.str "end", V.str "else"] (z - 4) = some (.str w) := by
        obtain rfl | rfl : z = 4 ∨ z = 5 := by omega
        · exact ⟨_, .inl rfl, rfl⟩
        · exact ⟨_, .inr rfl, rfl⟩
      obtain ⟨w, hw, hwat⟩ := hw
      refine ⟨_, rfl, _, _, rfl, rfl, p, _, _, _, rfl, rfl, SqL.of upd_same, hwat, le1, fun tp htp => ?_⟩
      replace F := F.mono (Same.new (o := .tup [.str w]) htp)
      obtain ⟨ds, g1, hok⟩ := rw_plain (k := w) (vs := []) (by rcases hw with rfl | rfl <;> decide +kernel) (by rcases hw with rfl | rfl <;> decide +kernel) (fun v hv => by cases hv)
      have hv := rw_dat (SqT.of (upd_same (H := upd H3 p (.lst [.str "end", .str "else"])) (a := tp) (o := .tup [.str w]))) (g1 K _)
      refine ⟨x.ra, _, sn, _, rfl, rfl, X3 F, hsn, lt_1000 hrl, ?_⟩

      have G := F.rows (m := n + 1) hk (da_ins (i := sn) (X4 F) hv) (fun r' hr' => by
        rcases List.mem_append.mp hr' with h | h
        · exact (F.mem hk).2.1.2.2 r' (List.mem_of_mem_take h)
        · rcases List.mem_cons.mp h with rfl | h
          · exact hok
          · exact (F.mem hk).2.1.2.2 r' (List.mem_of_mem_drop h)) (by
        have := (F.mem hk).2.2.2
        rw [List.length_append, List.length_cons, List.length_take, List.length_drop]
        omega) (by omega)

      obtain ⟨fos', F'⟩ := G
      exact ⟨_, rfl, q L fos' _ F'⟩
    by_cases zz : z = 6
    · skip
      refine ⟨_, rfl, rfl, _, rfl, iteN (fun w => absurd (V.int.inj (dec_true w)) (by omega)) ?_⟩
      refine ⟨_, rfl, rfl, _, rfl, iteN (fun w => absurd (V.int.inj (dec_true w)) (by omega)) (iteN Bool.false_ne_true ?_)⟩
      refine ⟨_, rfl, rfl, _, rfl, iteN (fun w => absurd (V.int.inj (dec_true w)) (by omega)) ?_⟩
      refine ⟨_, rfl, rfl, _, rfl, iteN (fun w => absurd (V.int.inj (dec_true w)) (by omega)) ?_⟩
      refine ⟨_, rfl, rfl, _, rfl, iteP (decide_eq_true (congrArg V.int (by omega))) (iteP rfl ?_)⟩

      refine ⟨_, rfl, x.e, _, _, _, rfl, rfl, SqL.of (X1 F), atN (i := 3) rfl, _, rfl, _, rfl, x.ra, _, rfl, SqL.of (X3 F), fun p1 hp1 => ?_⟩
      have e1 := upd_same (H := H3) (a := p1) (o := .lst (cutV x.rvs none (some (sn : Int))))
      have sA := Same.new (o := .lst (cutV x.rvs none (some (sn : Int)))) hp1
      refine ⟨_, rfl, x.e, _, _, _, rfl, rfl, SqL.of (X1 (F.mono sA)), atN (i := 3) rfl, _, rfl, _, _, rfl, rfl, _, rfl, x.ra, _, rfl, SqL.of (X3 (F.mono sA)), fun p2 hp2 => ?_⟩
      have sB := Same.new (o := .lst (cutV x.rvs (some ((sn : Int) + 1)) none)) hp2
      have ee : ((sn : Int) + 1) = ((sn + 1 : Nat) : Int) := by omega
      have q1 : cutV x.rvs none (some (sn : Int)) = x.rvs.take sn := cut_pre hsn
      have q2 : cutV x.rvs (some ((sn : Int) + 1)) none = x.rvs.drop (sn + 1) := by rw [ee]; exact cut_pst
      refine ⟨p1, p2, _, _, rfl, rfl, sB _ _ e1, upd_same, ?_, fun p3 hp3 => ?_⟩
      · rw [q1, q2, List.length_take, List.length_drop]
        exact Nat.le_trans (by omega) (Nat.le_of_lt (lt_1000 hrl))
      have sC := Same.new (o := .lst (cutV x.rvs none (some (sn : Int)) ++ cutV x.rvs (some ((sn : Int) + 1)) none)) hp3
      refine ⟨_, rfl, x.e, _, _, _, rfl, rfl, X1 (F.mono ((sA.trans sB).trans sC)), (show ixN 4 3 = some 3 by decide), ?_⟩
      have d3 := da_sub (X4 F) sn (sn + 1)
      rw [← q1, ← q2] at d3
      have G := F.list (m := n + 1) hk ((sA.trans sB).trans sC) ((sA.trans sB).free hp3) upd_same (L2.DatAll.mono ((sA.trans sB).trans sC) _ _ d3) (fun r' hr' => by
        rcases List.mem_append.mp hr' with h | h
        · exact (F.mem hk).2.1.2.2 r' (List.mem_of_mem_take h)
        · exact (F.mem hk).2.1.2.2 r' (List.mem_of_mem_drop h)) (by
        have := (F.mem hk).2.2.2
        rw [List.length_append, List.length_take, List.length_drop]
        omega) (by omega)

      obtain ⟨fos', F'⟩ := G
      exact ⟨_, rfl, q L fos' _ F'⟩
    by_cases zz : z = 7
    · skip
      refine ⟨_, rfl, rfl, _, rfl, iteN (fun w => absurd (V.int.inj (dec_true w)) (by omega)) ?_⟩
      refine ⟨_, rfl, rfl, _, rfl, iteN (fun w => absurd (V.int.inj (dec_true w)) (by omega)) (iteN Bool.false_ne_true ?_)⟩
      refine ⟨_, rfl, rfl, _, rfl, iteN (fun w => absurd (V.int.inj (dec_true w)) (by omega)) ?_⟩
      refine ⟨_, rfl, rfl, _, rfl, iteN (fun w => absurd (V.int.inj (dec_true w)) (by omega)) ?_⟩
      refine ⟨_, rfl, rfl, _, rfl, iteN (fun w => absurd (V.int.inj (dec_true w)) (by omega)) ?_⟩
      refine ⟨_, rfl, rfl, _, rfl, iteP (decide_eq_true (congrArg V.int (by omega))) ?_⟩

      refine ⟨_, rfl, x.e, _, _, _, rfl, rfl, SqL.of (X1 F), atN (i := 3) rfl, _, rfl, _, rfl, x.ra, _, rfl, SqL.of (X3 F), fun p1 hp1 => ?_⟩
      have e1 := upd_same (H := H3) (a := p1) (o := .lst (cutV x.rvs none (some (sn : Int))))
      have sA := Same.new (o := .lst (cutV x.rvs none (some (sn : Int)))) hp1
      refine ⟨_, rfl, x.e, _, _, _, rfl, rfl, SqL.of (X1 (F.mono sA)), atN (i := 3) rfl, _, rfl, _, _, rfl, rfl, _, rfl, x.ra, _, rfl, SqL.of (X3 (F.mono sA)), fun p2 hp2 => ?_⟩
      have sB := Same.new (o := .lst (cutV x.rvs (some ((sn : Int) + 1)) none)) hp2
      have ee : ((sn : Int) + 1) = ((sn + 1 : Nat) : Int) := by omega
      have q1 : cutV x.rvs none (some (sn : Int)) = x.rvs.take sn := cut_pre hsn
      have q2 : cutV x.rvs (some ((sn : Int) + 1)) none = x.rvs.drop (sn + 1) := by rw [ee]; exact cut_pst
      refine ⟨p1, p2, _, _, rfl, rfl, sB _ _ e1, upd_same, ?_, fun p3 hp3 => ?_⟩
      · rw [q1, q2, List.length_take, List.length_drop]
        exact Nat.le_trans (by omega) (Nat.le_of_lt (lt_1000 hrl))
      have sC := Same.new (o := .lst (cutV x.rvs none (some (sn : Int)) ++ cutV x.rvs (some ((sn : Int) + 1)) none)) hp3
      refine ⟨_, rfl, x.e, _, _, _, rfl, rfl, X1 (F.mono ((sA.trans sB).trans sC)), (show ixN 4 3 = some 3 by decide), ?_⟩
      have d3 := da_sub (X4 F) sn (sn + 1)
      rw [← q1, ← q2] at d3
      have G := F.list (m := n + 1) hk ((sA.trans sB).trans sC) ((sA.trans sB).free hp3) upd_same (L2.DatAll.mono ((sA.trans sB).trans sC) _ _ d3) (fun r' hr' => by
        rcases List.mem_append.mp hr' with h | h
        · exact (F.mem hk).2.1.2.2 r' (List.mem_of_mem_take h)
        · exact (F.mem hk).2.1.2.2 r' (List.mem_of_mem_drop h)) (by
        have := (F.mem hk).2.2.2
        rw [List.length_append, List.length_take, List.length_drop]
        omega) (by omega)

      obtain ⟨fos', F'⟩ := G
      exact ⟨_, rfl, q L fos' _ F'⟩
    by_cases zz : z = 8
    · skip
      refine ⟨_, rfl, rfl, _, rfl, iteN (fun w => absurd (V.int.inj (dec_true w)) (by omega)) ?_⟩
      refine ⟨_, rfl, rfl, _, rfl, iteN (fun w => absurd (V.int.inj (dec_true w)) (by omega)) (iteN Bool.false_ne_true ?_)⟩
      refine ⟨_, rfl, rfl, _, rfl, iteN (fun w => absurd (V.int.inj (dec_true w)) (by omega)) ?_⟩
      refine ⟨_, rfl, rfl, _, rfl, iteN (fun w => absurd (V.int.inj (dec_true w)) (by omega)) ?_⟩
      refine ⟨_, rfl, rfl, _, rfl, iteN (fun w => absurd (V.int.inj (dec_true w)) (by omega)) ?_⟩
      refine ⟨_, rfl, rfl, _, rfl, iteN (fun w => absurd (V.int.inj (dec_true w)) (by omega)) ?_⟩
      refine ⟨_, rfl, rfl, _, rfl, iteP (decide_eq_true (congrArg V.int (by omega))) ?_⟩

      refine ⟨le0, fun p hp => ⟨_, rfl, x.e, _, _, _, rfl, rfl, X1 (F.mono (Same.new hp)), (show ixN 4 3 = some 3 by decide), ?_⟩⟩
      have G := F.list (m := n + 1) (rs := []) (rvs := []) hk (Same.new (o := .lst []) hp) hp upd_same (by show DatAll K _ [] []; unfold DatAll; rfl) (fun r' hr' => by cases hr') (Nat.zero_le _) (by omega)

      obtain ⟨fos', F'⟩ := G
      exact ⟨_, rfl, q L fos' _ F'⟩
    by_cases zz : z = 9
    · skip
      refine ⟨_, rfl, rfl, _, rfl, iteN (fun w => absurd (V.int.inj (dec_true w)) (by omega)) ?_⟩
      refine ⟨_, rfl, rfl, _, rfl, iteN (fun w => absurd (V.int.inj (dec_true w)) (by omega)) (iteN Bool.false_ne_true ?_)⟩
      refine ⟨_, rfl, rfl, _, rfl, iteN (fun w => absurd (V.int.inj (dec_true w)) (by omega)) ?_⟩
      refine ⟨_, rfl, rfl, _, rfl, iteN (fun w => absurd (V.int.inj (dec_true w)) (by omega)) ?_⟩
      refine ⟨_, rfl, rfl, _, rfl, iteN (fun w => absurd (V.int.inj (dec_true w)) (by omega)) ?_⟩
      refine ⟨_, rfl, rfl, _, rfl, iteN (fun w => absurd (V.int.inj (dec_true w)) (by omega)) ?_⟩
      refine ⟨_, rfl, rfl, _, rfl, iteN (fun w => absurd (V.int.inj (dec_true w)) (by omega)) ?_⟩
      refine ⟨_, rfl, rfl, _, rfl, iteP (decide_eq_true (congrArg V.int (by omega))) ?_⟩

      refine ⟨_, rfl, x.e, _, _, _, rfl, rfl, SqL.of (X1 F), atN (i := 3) rfl, le0, fun p hp => neNil (ds := x.f.rows.map Rw.D) ?_ ?_ (SqL.of upd_same) ⟨_, rfl, ?_⟩⟩
      · unfold DatV
        exact ⟨x.ra, _, rfl, SqL.of (X3 (F.mono (Same.new hp))), X4 (F.mono (Same.new hp))⟩
      · exact (Lay.list (n := 3) fun d hd => by
          obtain ⟨r', hr', rfl⟩ := List.mem_map.mp hd
          exact ((F.mem hk).2.1.2.2 r' hr').2.2).mono (by decide)
      replace F := F.mono (Same.new (o := .lst []) hp)
      generalize upd H3 p (.lst []) = H4 at F ⊢
      by_cases hr0 : x.f.rows = []
      · refine iteN (by rw [hr0]; decide) ?_
        refine ⟨_, rfl, _, _, rfl, rfl, _, rfl, iteN (fun w => absurd (dec_true w) (by omega)) ?_⟩
        exact ⟨_, rfl, q L fos _ (F.more (by omega))⟩
      refine iteP (by rw [decide_eq_false (fun w => hr0 (List.map_eq_nil_iff.mp w))]; rfl) ?_
      refine ⟨le2, fun a1 h1 => ?_⟩
      have e1 := upd_same (H := H4) (a := a1) (o := .tup [.str "out", .int 0])
      replace F := F.mono (Same.new (o := .tup [.str "out", .int 0]) h1)
      generalize upd H4 a1 (.tup [.str "out", .int 0]) = H5 at F e1 ⊢
      refine ⟨le1, fun a2 h2 => ?_⟩
      have e2 := upd_same (H := H5) (a := a2) (o := .tup [.str "end"])
      have e1 := Same.new (o := .tup [.str "end"]) h2 _ _ e1
      replace F := F.mono (Same.new (o := .tup [.str "end"]) h2)
      generalize upd H5 a2 (.tup [.str "end"]) = H6 at F e1 e2 ⊢
      refine ⟨_, rfl, x.e, _, _, _, rfl, rfl, SqL.of (X1 F), atN (i := 0) rfl, le0, fun a0 h0 => ?_⟩
      have e0 := upd_same (H := H6) (a := a0) (o := .tup [])
      have e1 := Same.new (o := .tup []) h0 _ _ e1
      have e2 := Same.new (o := .tup []) h0 _ _ e2
      replace F := F.mono (Same.new (o := .tup []) h0)
      generalize upd H6 a0 (.tup []) = H7 at F e0 e1 e2 ⊢
      refine ⟨le4, fun a3 h3 => ?_⟩
      have e3 := upd_same (H := H7) (a := a3) (o := .tup [.str "call", .str "a", .str x.f.name, .ref a0])
      have sN := Same.new (o := .tup [.str "call", .str "a", .str x.f.name, .ref a0]) h3
      have e1 := sN _ _ e1
      have e2 := sN _ _ e2
      have e0 := sN _ _ e0
      replace F := F.mono sN
      clear sN
      generalize upd H7 a3 (.tup [.str "call", .str "a", .str x.f.name, .ref a0]) = H8 at F e0 e1 e2 e3 ⊢
      refine ⟨le3, fun p4 hp4 => ⟨_, rfl, c, 2, 3, rfl, by decide, by decide, fun j H9 j0 j1 s9 => ?_⟩⟩
      have sN := (Same.new (o := .lst [.ref a1, .ref a2, .ref a3]) hp4).trans s9
      have ep := s9 _ _ (upd_same (H := H8) (a := p4) (o := .lst [.ref a1, .ref a2, .ref a3]))
      replace F := F.mono sN
      have hpk : ∃ r v, atI [V.ref a1, V.ref a2, V.ref a3] j = some v ∧ DatV K H9 r.D v ∧ RwOk r := by
        obtain rfl | rfl | rfl : j = 0 ∨ j = 1 ∨ j = 2 := by omega
        · obtain ⟨ds, g1, g2⟩ := rw_plain (k := "out") (vs := [.int 0]) (by decide +kernel) (by decide +kernel) (fun v hv => by rw [List.mem_singleton.mp hv]; exact GA.int _)
          exact ⟨_, _, rfl, rw_dat (SqT.of (sN _ _ e1)) (g1 K _), g2⟩
        · obtain ⟨ds, g1, g2⟩ := rw_plain (k := "end") (vs := []) (by decide +kernel) (by decide +kernel) (fun v hv => by cases hv)
          exact ⟨_, _, rfl, rw_dat (SqT.of (sN _ _ e2)) (g1 K _), g2⟩
        · exact ⟨_, _, rfl, rw_dat (SqT.of (sN _ _ e3)) (da3 (ds := []) (vs := []) (SqT.of (sN _ _ e0)) (by unfold DatAll; rfl)), rw_call (ds := []) (by decide +kernel) (F.mem hk).2.1.1.1 (by unfold nls; rfl) (fun d hd => by cases hd)⟩
      obtain ⟨r, v, hat, hv, hok⟩ := hpk
      have hrv : 0 < x.rvs.length := by rw [hxl]; exact List.length_pos_iff.mpr hr0
      refine ⟨p4, _, _, _, rfl, rfl, SqL.of ep, hat, _, rfl, x.e, _, _, _, rfl, rfl, SqL.of (X1 F), atN (i := 3) rfl, _, rfl, x.ra, _, _, _, rfl, rfl, X3 F, ix_last hrv, ?_⟩
      have G := F.rows (m := n + 1) hk (da_set (i := x.rvs.length - 1) (X4 F) hv) (fun r' hr' => by
        rcases List.mem_or_eq_of_mem_set hr' with h | rfl
        · exact (F.mem hk).2.1.2.2 r' h
        · exact hok) (by
        have := (F.mem hk).2.2.2
        rw [List.length_set]
        omega) (by omega)

      obtain ⟨fos', F'⟩ := G
      exact ⟨_, rfl, q L fos' _ F'⟩
    refine ⟨_, rfl, rfl, _, rfl, iteN (fun w => absurd (V.int.inj (dec_true w)) (by omega)) ?_⟩
    refine ⟨_, rfl, rfl, _, rfl, iteN (fun w => absurd (V.int.inj (dec_true w)) (by omega)) (iteN Bool.false_ne_true ?_)⟩
    refine ⟨_, rfl, rfl, _, rfl, iteN (fun w => absurd (V.int.inj (dec_true w)) (by omega)) ?_⟩
    refine ⟨_, rfl, rfl, _, rfl, iteN (fun w => absurd (V.int.inj (dec_true w)) (by omega)) ?_⟩
    refine ⟨_, rfl, rfl, _, rfl, iteN (fun w => absurd (V.int.inj (dec_true w)) (by omega)) ?_⟩
    refine ⟨_, rfl, rfl, _, rfl, iteN (fun w => absurd (V.int.inj (dec_true w)) (by omega)) ?_⟩
    refine ⟨_, rfl, rfl, _, rfl, iteN (fun w => absurd (V.int.inj (dec_true w)) (by omega)) ?_⟩
    refine ⟨_, rfl, rfl, _, rfl, iteN (fun w => absurd (V.int.inj (dec_true w)) (by omega)) (iteN Bool.false_ne_true ?_)⟩

    refine ⟨_, rfl, _, _, rfl, rfl, _, rfl, iteP (decide_eq_true (by omega)) ?_⟩
    obtain ⟨hn1, hn2⟩ := (F.mem hk).2.1.1
    have h1000 : (1000 : Nat) ≤ sizeLine := by decide
    have oka : PyData.strOk ("a" : Str) = true := by decide +kernel
    have la : ("a" : Str).length = 1 := by decide +kernel
    have l7 := slice7 hn2
    refine ⟨_, rfl, x.e, _, _, _, rfl, rfl, SqL.of (X1 F), atN (i := 0) rfl, _, rfl, x.e, _, _, _, rfl, rfl, SqL.of (X1 F), atN (i := 0) rfl, _, _, rfl, rfl, by rw [la]; omega, _, rfl, x.e, _, _, _, rfl, rfl, SqL.of (X1 F), atN (i := 0) rfl, _, rfl, _, rfl, by omega, _, _, rfl, rfl, by rw [la]; omega, le3, fun p hp => ?_⟩
    have s1 := Same.new (o := .lst [.str x.f.name, .str (x.f.name ++ "a"), .str ("a" ++ PySem.Txt.slice x.f.name none (some 7))]) hp
    refine ⟨_, rfl, c, 2, 3, rfl, by decide, by decide, fun j H4 j0 j1 s4 => ?_⟩
    have hla : ∀ u v : Str, (u ++ v).length = u.length + v.length := fun u v => by show (u.cps ++ v.cps).size = _; rw [Array.size_append]; rfl
    have hw : ∃ w : Str, (PyData.strOk w = true ∧ w.length ≤ 13) ∧ atI [V.str x.f.name, V.str (x.f.name ++ "a"), V.str ("a" ++ PySem.Txt.slice x.f.name none (some 7))] j = some (.str w) := by
      obtain rfl | rfl | rfl : j = 0 ∨ j = 1 ∨ j = 2 := by omega
      · exact ⟨_, ⟨hn1, by omega⟩, rfl⟩
      · exact ⟨_, ⟨ok_app hn1 oka, by rw [hla, la]; omega⟩, rfl⟩
      · exact ⟨_, ⟨ok_app oka (ok_slice hn1), by rw [hla, la]; omega⟩, rfl⟩
    obtain ⟨w, ⟨w1, w2⟩, hwat⟩ := hw
    refine ⟨p, _, _, _, rfl, rfl, SqL.of (s4 _ _ upd_same), hwat, ?_⟩
    replace F := F.mono (s1.trans s4)
    refine ⟨_, rfl, x.e, _, _, _, rfl, rfl, SqL.of (X1 F), atN (i := 2) rfl, x.pa, _, rfl, .inl (SqL.of (X2 F)), (by show 6 ≤ sizeLine; decide), fun p2 hp2 => ⟨_, rfl, c, 3, 6, rfl, by decide, by decide, fun j2 H5 i0 i1 s5 => ?_⟩⟩
    have s25 := (Same.new (o := .lst [.int 0, .int 1, .int 6, .int 3, .int 5, .int 2]) hp2).trans s5
    have hm : ∃ m : Int, atI [V.int 0, V.int 1, V.int 6, V.int 3, V.int 5, V.int 2] j2 = some (.int m) := by
      obtain rfl | rfl | rfl | rfl | rfl | rfl : j2 = 0 ∨ j2 = 1 ∨ j2 = 2 ∨ j2 = 3 ∨ j2 = 4 ∨ j2 = 5 := by omega
      all_goals exact ⟨_, rfl⟩
    obtain ⟨m, hmat⟩ := hm
    refine ⟨p2, _, _, _, rfl, rfl, SqL.of (s5 _ _ upd_same), hmat, _, _, rfl, rfl, _, _, rfl, rfl, (show (0 : Int) < 7 by decide), ?_⟩
    replace F := F.mono s25
    have u0 : 0 ≤ (((x.f.ps.map V.str).length : Nat) + m : Int) % 7 := Int.emod_nonneg _ (by decide)
    have u7 : (((x.f.ps.map V.str).length : Nat) + m : Int) % 7 < 7 := Int.emod_lt_of_pos _ (by decide)
    refine ⟨_, rfl, x.e, _, _, _, rfl, rfl, SqL.of (X1 F), atN (i := 3) rfl, .inl ⟨rfl, _, SqL.of (X3 F)⟩, _, rfl, _, rfl, _, rfl, w, rfl, by omega, le1, fun p7 hp7 => ?_⟩
    have e7 := upd_same (H := H5) (a := p7) (o := .tup [.int 7])
    have s7 := Same.new (o := .tup [.int 7]) hp7
    refine ⟨_, rfl, p7, _, _, rfl, rfl, SqT.of upd_same, by simp, u0, by omega, (by simp only [List.length_singleton]; omega), fun _ => ?_, fun _ p8 hp8 => ?_⟩
    · refine ⟨le4, fun tp htp => ?_⟩
      have sN := Same.new (o := .tup [.str "call", .str "a", .str (PySem.Txt.slice w none (some 8)), .ref p7]) htp
      obtain ⟨ds, g1, g2, g3⟩ := ga_all (vs := [V.int 7]) (by
        intro v hv
        rw [List.mem_singleton.mp hv]
        exact GA.int 7)
      have hv := rw_dat (SqT.of (upd_same (H := upd H5 p7 (.tup [.int 7])) (a := tp) (o := .tup [.str "call", .str "a", .str (PySem.Txt.slice w none (some 8)), .ref p7]))) (da3 (SqT.of (sN _ _ e7)) (g1 K _))
      have hok := rw_call (f := PySem.Txt.slice w none (some 8)) oka (ok_slice w1) g2 g3
      replace F := F.mono (s7.trans sN)
      refine ⟨x.ra, _, sn, _, rfl, rfl, X3 F, hsn, lt_1000 hrl, ?_⟩

      have G := F.rows (m := n + 1) hk (da_ins (i := sn) (X4 F) hv) (fun r' hr' => by
        rcases List.mem_append.mp hr' with h | h
        · exact (F.mem hk).2.1.2.2 r' (List.mem_of_mem_take h)
        · rcases List.mem_cons.mp h with rfl | h
          · exact hok
          · exact (F.mem hk).2.1.2.2 r' (List.mem_of_mem_drop h)) (by
        have := (F.mem hk).2.2.2
        rw [List.length_append, List.length_cons, List.length_take, List.length_drop]
        omega) (by omega)

      obtain ⟨fos', F'⟩ := G
      exact ⟨_, rfl, q L fos' _ F'⟩
    · have e8 := upd_same (H := upd H5 p7 (.tup [.int 7])) (a := p8) (o := .tup (List.replicate ((((x.f.ps.map V.str).length : Nat) + m : Int) % 7).toNat [V.int 7]).flatten)
      have s8 := Same.new (o := .tup (List.replicate ((((x.f.ps.map V.str).length : Nat) + m : Int) % 7).toNat [V.int 7]).flatten) hp8
      refine ⟨le4, fun tp htp => ?_⟩
      have sN := Same.new (o := .tup [.str "call", .str "a", .str (PySem.Txt.slice w none (some 8)), .ref p8]) htp
      obtain ⟨ds, g1, g2, g3⟩ := ga_all (vs := (List.replicate ((((x.f.ps.map V.str).length : Nat) + m : Int) % 7).toNat [V.int 7]).flatten) (by
        intro v hv
        rw [(show v = V.int 7 by obtain ⟨l, hl, hv⟩ := List.mem_flatten.mp hv; rw [List.eq_of_mem_replicate hl] at hv; exact List.mem_singleton.mp hv)]
        exact GA.int 7)
      have hv := rw_dat (SqT.of (upd_same (H := upd (upd H5 p7 (.tup [.int 7])) p8 (.tup (List.replicate ((((x.f.ps.map V.str).length : Nat) + m : Int) % 7).toNat [V.int 7]).flatten)) (a := tp) (o := .tup [.str "call", .str "a", .str (PySem.Txt.slice w none (some 8)), .ref p8]))) (da3 (SqT.of (sN _ _ e8)) (g1 K _))
      have hok := rw_call (f := PySem.Txt.slice w none (some 8)) oka (ok_slice w1) g2 g3
      replace F := F.mono ((s7.trans s8).trans sN)
      refine ⟨x.ra, _, sn, _, rfl, rfl, X3 F, hsn, lt_1000 hrl, ?_⟩

      have G := F.rows (m := n + 1) hk (da_ins (i := sn) (X4 F) hv) (fun r' hr' => by
        rcases List.mem_append.mp hr' with h | h
        · exact (F.mem hk).2.1.2.2 r' (List.mem_of_mem_take h)
        · rcases List.mem_cons.mp h with rfl | h
          · exact hok
          · exact (F.mem hk).2.1.2.2 r' (List.mem_of_mem_drop h)) (by
        have := (F.mem hk).2.2.2
        rw [List.length_append, List.length_cons, List.length_take, List.length_drop]
        omega) (by omega)

      obtain ⟨fos', F'⟩ := G
      exact ⟨_, rfl, q L fos' _ F'⟩
end
end K16

set_option Elab.async false
set_option linter.all false
set_option maxRecDepth 100000
set_option maxHeartbeats 4000000
namespace K16
open PySem L2 Gx Lk
section
variable {P : Program} {w : World} {K : PySem.W.Frag} {mg : Str → Option Value} {base : Heap} {t : Adr}
theorem sc_l_again : FnScope ["_law_names", "_law_k"] ["_law_names"] (defScope s_l_again) := ⟨rfl, rfl, rfl, by decide +kernel, rfl, by decide +kernel, by decide +kernel⟩
theorem ok_l_again (T : Txt K mg t) : FnOk P w K mg base CX0 1 t.a_l_again t.d_l_again ["_law_names"] (sp_l_again K) := by
  refine T.l_again.F.ok sc_l_again (fun vs H Q E h => ?_) (fun cdv A outer s H vs Q E hr h => ?_)
  · obtain ⟨p, ns, rfl, hS, hn, q⟩ := h
    rfl
  · obtain ⟨p, ns, rfl, hS, hn, q⟩ := h
    refine ⟨_, (@pss_cons _ _ _ _ _ (ps_for PassesOwn.never rfl (pi_range1 rfl T.b_range (@pa_cons _ _ _ _ _ (pe_callB call_len_seq (by rfl) T.b_len bt_len (@pa_cons _ _ _ _ _ (pv 0) pa_nil (by rfl))) pa_nil (by rfl))) (pg_name (i := 1) sc_l_again.nd rfl (Or.inl rfl)) (@pss_one _ _ _ (@ps_if _ _ _ _ _ _ _ _ (@pt_cmpR _ _ _ _ _ _ _ _ op_in_seq (@pe_ix _ _ _ _ _ _ _ ix_list (pv 0) (pv 1) (fun _ _ => rfl)) (@pe_slice _ _ _ _ _ _ _ _ _ _ sl_list (pv 0) po_none (po_some (pv 1))) (by with_unfolding_all rfl)) (@pss_one _ _ _ (@ps_ret _ _ _ _ (@pe_ix _ _ _ _ _ _ _ ix_list (pv 0) (pv 1) (fun _ _ => rfl)))) pss_nil))) (@pss_one _ _ _ (@ps_ret _ _ _ _ pe_non))), ?_⟩
    have hb := bd62 (n := (ns.map V.str).length) (by rw [List.length_map]; exact hn)
    refine ⟨_, rfl, p, _, rfl, .inl hS, _, rfl, hb.1, hb.2, for_range (fun i σ H2 => Same H H2 ∧ (∃ v1, σ = [some (.ref p), v1]) ∧ ∀ j y, j < i → ns[j]? = some y → y ∉ ns.take j) ⟨Same.refl _, ⟨none, rfl⟩, fun j y hj => absurd hj (Nat.not_lt_zero _)⟩ ?_ ?_⟩
    · rintro i σ H2 hi ⟨s2, ⟨v1, rfl⟩, hA⟩
      have hil : i < ns.length := by rw [Int.toNat_natCast, List.length_map] at hi; exact hi
      have he : ns[i]? = some ns[i] := List.getElem?_eq_getElem hil
      have hat : atI (ns.map V.str) (0 + (i : Int)) = some (.str ns[i]) := by rw [Int.zero_add]; exact atN (by rw [List.getElem?_map, he]; rfl)
      refine ⟨_, rfl, _, rfl, p, _, _, _, rfl, rfl, s2.seq hS, hat, _, rfl, _, rfl, _, rfl, p, _, rfl, s2.seq hS, fun l hl => ?_⟩
      have ecut : cutV (ns.map V.str) none (some (0 + (i : Int))) = (ns.take i).map V.str := by
        rw [Int.zero_add, cut_pre (by rw [List.length_map]; omega), List.map_take]
      rw [ecut]
      refine ⟨l, _, rfl, .inl (SqL.of upd_same), rfl, flat_strs _, _, rfl, ?_⟩
      have s3 := s2.trans (Same.new (o := .lst ((ns.take i).map V.str)) hl)
      by_cases hm : ns[i] ∈ ns.take i
      · refine iteP ((in_strs _ _).trans (decide_eq_true hm)) ?_
        have := q _ s3
        rw [tw_some he hm hA] at this
        exact ⟨_, rfl, _, rfl, p, _, _, _, rfl, rfl, s3.seq hS, hat, this⟩
      · refine iteN (fun z => hm (dec_true ((in_strs _ _).symm.trans z))) ?_
        refine ⟨s3, ⟨_, rfl⟩, fun j y hj hy => ?_⟩
        by_cases z : j = i
        · subst z; rw [he] at hy; cases hy; exact hm
        · exact hA j y (by omega) hy
    · rintro σ H2 ⟨s2, ⟨v1, rfl⟩, hA⟩
      have := q H2 s2
      rw [tw_none fun j y hy => hA j y (by rw [Int.toNat_natCast, List.length_map]; exact (List.getElem?_eq_some_iff.mp hy).1) hy] at this
      exact this
end
end K16

set_option Elab.async false
set_option linter.all false
set_option maxRecDepth 100000
set_option maxHeartbeats 4000000
namespace K16
open PySem L2 Gx Lk
section
variable {P : Program} {w : World} {K : PySem.W.Frag} {mg : Str → Option Value} {base : Heap} {t : Adr}
theorem sc_l_nest : FnScope ["_law_rows_here", "_law_opened", "_law_at", "_law_kind"] ["_law_rows_here"] (defScope s_l_nest) := ⟨rfl, rfl, rfl, by decide +kernel, rfl, by decide +kernel, by decide +kernel⟩
theorem ok_l_nest (T : Txt K mg t) : FnOk P w K mg base CX0 1 t.a_l_nest t.d_l_nest ["_law_rows_here"] (sp_l_nest K) := by
  refine T.l_nest.F.ok sc_l_nest (fun vs H Q E h => ?_) (fun cdv A outer s H vs Q E hr h => ?_)
  · obtain ⟨p, xs, rs, rfl, hS, hd, hn, q⟩ := h
    rfl
  · obtain ⟨p, xs, rs, rfl, hS, hd, hn, q⟩ := h
    refine ⟨_, (@pss_cons _ _ _ _ _ (@ps_set _ _ 1 _ _ _ _ sc_l_nest.nd rfl (Or.inl rfl) pe_str (by rfl) (by first | exact .inl rfl | exact .inr rfl | assumption)) (@pss_cons _ _ _ _ _ (ps_for PassesOwn.never rfl (pi_range1 rfl T.b_range (@pa_cons _ _ _ _ _ (pe_callB call_len_seq (by rfl) T.b_len bt_len (@pa_cons _ _ _ _ _ (pv 0) pa_nil (by rfl))) pa_nil (by rfl))) (pg_name (i := 2) sc_l_nest.nd rfl (Or.inl rfl)) (@pss_cons _ _ _ _ _ (@ps_set _ _ 3 _ _ _ _ sc_l_nest.nd rfl (Or.inl rfl) (@pe_ix _ _ _ _ _ _ _ ix_tup (@pe_ix _ _ _ _ _ _ _ ix_list (pv 0) (pv 2) (fun _ _ => rfl)) pe_int (fun _ _ => rfl)) (by rfl) (by first | exact .inl rfl | exact .inr rfl | assumption)) (@pss_one _ _ _ (@ps_if _ _ _ _ _ _ _ _ (@PW.pt _ _ _ (pw_or (@pt_cmpR _ _ _ _ _ _ _ _ op_eq (pv 3) pe_str (nomark _)) (pw_or1 (@pt_cmpR _ _ _ _ _ _ _ _ op_eq (pv 3) pe_str (nomark _))))) (@pss_one _ _ _ (@ps_set _ _ 1 _ _ _ _ sc_l_nest.nd rfl (Or.inl rfl) (@pe_op _ _ _ _ _ _ _ _ op_add_str (@pe_ix _ _ _ _ _ _ _ ix_str (pv 3) pe_int (fun _ _ => rfl)) (pv 1)) (by rfl) (by first | exact .inl rfl | exact .inr rfl | assumption))) (@pss_one _ _ _ (@ps_if _ _ _ _ _ _ _ _ (@PW.pt _ _ _ (pw_or (@PW.pt _ _ _ (@pw_and _ _ _ _ _ _ _ (@pt_cmpR _ _ _ _ _ _ _ _ op_eq (pv 3) pe_str (nomark _)) (@pw_and1 _ _ _ _ (@pt_cmpR _ _ _ _ _ _ _ _ op_eq (pv 1) pe_str (nomark _))))) (pw_or1 (@PW.pt _ _ _ (@pw_and _ _ _ _ _ _ _ (@pt_cmpR _ _ _ _ _ _ _ _ op_eq (pv 3) pe_str (nomark _)) (@pw_and1 _ _ _ _ (@pt_cmpR _ _ _ _ _ _ _ _ op_ne (@pe_slice _ _ _ _ _ _ _ _ _ _ sl_str (pv 1) po_none (po_some pe_int)) pe_str (nomark _)))))))) (@pss_one _ _ _ (@ps_ret _ _ _ _ (pv 2))) (@pss_one _ _ _ (@ps_if _ _ _ _ _ _ _ _ (@pt_cmpR _ _ _ _ _ _ _ _ op_eq (pv 3) pe_str (nomark _)) (@pss_one _ _ _ (@ps_set _ _ 1 _ _ _ _ sc_l_nest.nd rfl (Or.inl rfl) (@pe_op _ _ _ _ _ _ _ _ op_add_str pe_str (@pe_slice _ _ _ _ _ _ _ _ _ _ sl_str (pv 1) (po_some pe_int) po_none)) (by rfl) (by first | exact .inl rfl | exact .inr rfl | assumption))) (@pss_one _ _ _ (@ps_if _ _ _ _ _ _ _ _ (@pt_cmpR _ _ _ _ _ _ _ _ op_eq (pv 3) pe_str (nomark _)) (@pss_one _ _ _ (@ps_set _ _ 1 _ _ _ _ sc_l_nest.nd rfl (Or.inl rfl) (@pe_slice _ _ _ _ _ _ _ _ _ _ sl_str (pv 1) (po_some pe_int) po_none) (by rfl) (by first | exact .inl rfl | exact .inr rfl | assumption))) pss_nil)))))))))) (@pss_cons _ _ _ _ _ (@ps_if _ _ _ _ _ _ _ _ (@PW.pt _ _ _ (pw_or (@pt_cmpR _ _ _ _ _ _ _ _ op_ne (pv 1) pe_str (nomark _)) (pw_or (@pt_cmpR _ _ _ _ _ _ _ _ (op_eqNil hr.units) (pv 0) (@pe_lst _ _ _ _ pa_nil) (nomark _)) (pw_or1 (@pt_cmpR _ _ _ _ _ _ _ _ op_ne (@pe_ix _ _ _ _ _ _ _ ix_tup (@pe_ix _ _ _ _ _ _ _ ix_list (pv 0) (pe_un un_neg pe_int) (fun _ _ => rfl)) pe_int (fun _ _ => rfl)) pe_str (nomark _)))))) (@pss_one _ _ _ (@ps_ret _ _ _ _ (pe_callB call_len_seq (by rfl) T.b_len bt_len (@pa_cons _ _ _ _ _ (pv 0) pa_nil (by rfl))))) pss_nil) (@pss_one _ _ _ (@ps_ret _ _ _ _ (pe_un un_neg pe_int)))))), ?_⟩
    have hlen := dat_len hd
    have hb := bd62 (n := xs.length) (by omega)
    refine ⟨_, rfl, p, _, rfl, .inl hS, _, rfl, hb.1, hb.2, for_range (fun i σ H2 => H2 = H ∧ i ≤ rs.length ∧ ∃ st v2 v3, σ = [some (.ref p), some (.str (enc st)), v2, v3] ∧ stk (rs.map (·.kind)) i = some st ∧ st.length ≤ i ∧ Opn st) ⟨rfl, Nat.zero_le _, [], none, none, by rw [enc_nil]; rfl, rfl, Nat.le_refl _, fun k hk => by cases hk⟩ ?_ ?_⟩
    · rintro i σ H2 hi ⟨rfl, hi', st, v2, v3, rfl, hst, hsl, hop⟩
      have hil : i < rs.length := by rw [Int.toNat_natCast, hlen] at hi; exact hi
      obtain ⟨x, hx⟩ : ∃ x, xs[i]? = some x := ⟨_, List.getElem?_eq_getElem (by omega)⟩
      obtain ⟨r, hr', hD⟩ := dat_at hd hx
      obtain ⟨rb, ys, rfl, hrow, hrest⟩ := row_at hD
      have hk : (rs.map (·.kind))[i]? = some r.kind := by rw [List.getElem?_map, hr']; rfl
      have hat : atI xs (0 + (i : Int)) = some (.ref rb) := by rw [Int.zero_add]; exact atN hx
      have hel : (enc st).length ≤ sizeLine := by rw [enc_len]; exact Nat.le_of_lt (lt_1000 (by omega))
      have stay : ∀ st', stp r.kind st = some st' → st'.length ≤ i + 1 → ∀ v2 v3, (H2 = H2 ∧ i + 1 ≤ rs.length ∧ ∃ st v2' v3', [some (V.ref p), some (V.str (enc st')), v2, v3] = [some (.ref p), some (.str (enc st)), v2', v3'] ∧ stk (rs.map (·.kind)) (i + 1) = some st ∧ st.length ≤ i + 1 ∧ Opn st) :=
        fun st' h1 h2 v2 v3 => ⟨rfl, hil, st', v2, v3, rfl, by rw [stk_step hst hk, h1], h2, opn_step hop h1⟩
      have hret : stp r.kind st = none → Q (.int (0 + (i : Int))) H2 := fun h1 => by
        have := q H2 (Same.refl _)
        rw [nst_at hst hk h1] at this
        rw [Int.zero_add]
        exact this
      refine ⟨_, rfl, _, rfl, p, _, _, _, rfl, rfl, hS, hat, rb, _, _, _, rfl, rfl, hrow, at0, ?_⟩
      refine ⟨_, rfl, rfl, _, rfl, ?_⟩
      have lenp : (⟨#[fl r.kind]⟩ : Str).length + (enc st).length ≤ sizeLine := by rw [enc_len]; exact Nat.le_of_lt (lt_1000 (by show 1 + st.length ≤ 1000; omega))
      by_cases h1 : r.kind = "if"
      · have hO : r.kind = "if" ∨ r.kind = "while" := .inl h1
        refine iteP (decide_eq_true (congrArg V.str h1)) ?_
        refine iteP rfl ?_
        refine ⟨_, rfl, r.kind, 0, fl r.kind, rfl, rfl, (kf hO).1, (kf hO).2, _, rfl, _, _, rfl, rfl, lenp, ?_⟩
        have := stay (st ++ [r.kind]) (stp_o hO) (by rw [List.length_append, List.length_singleton]; omega) (some (.int (0 + (i : Int)))) (some (.str r.kind))
        rw [enc_snoc] at this
        exact this
      refine iteN (fun z => h1 (V.str.inj (dec_true z))) ?_
      refine ⟨_, rfl, rfl, _, rfl, ?_⟩
      by_cases h2 : r.kind = "while"
      · have hO : r.kind = "if" ∨ r.kind = "while" := .inr h2
        refine iteP (decide_eq_true (congrArg V.str h2)) ?_
        refine ⟨_, rfl, r.kind, 0, fl r.kind, rfl, rfl, (kf hO).1, (kf hO).2, _, rfl, _, _, rfl, rfl, lenp, ?_⟩
        have := stay (st ++ [r.kind]) (stp_o hO) (by rw [List.length_append, List.length_singleton]; omega) (some (.int (0 + (i : Int)))) (some (.str r.kind))
        rw [enc_snoc] at this
        exact this
      refine iteN (fun z => h2 (V.str.inj (dec_true z))) ?_
      have hO : ¬ (r.kind = "if" ∨ r.kind = "while") := fun z => z.elim h1 h2
      refine ⟨_, rfl, rfl, _, rfl, ?_⟩
      by_cases h3 : r.kind = "end"
      · have h4 : r.kind ≠ "else" := by rw [h3]; decide +kernel
        refine iteP (decide_eq_true (congrArg V.str h3)) ?_
        refine ⟨_, rfl, rfl, _, rfl, ?_⟩
        by_cases hs : st = []
        · refine iteP (decide_eq_true (congrArg V.str (enc_eq.mpr hs))) ?_
          refine iteP rfl ?_
          exact ⟨_, rfl, hret (by rw [h3, stp_e, if_pos hs])⟩
        · refine iteN (fun z => hs (enc_eq.mp (V.str.inj (dec_true z)))) ?_
          refine ⟨_, rfl, rfl, _, rfl, ?_⟩
          refine iteN (fun z => h4 (V.str.inj (dec_true z))) ?_
          refine iteN Bool.false_ne_true ?_
          refine ⟨_, rfl, rfl, _, rfl, ?_⟩
          refine iteN (fun z => h4 (V.str.inj (dec_true z))) ?_
          refine ⟨_, rfl, rfl, _, rfl, ?_⟩
          refine iteP (decide_eq_true (congrArg V.str h3)) ?_
          refine ⟨_, rfl, _, rfl, _, rfl, hel, ?_⟩
          have := stay st.dropLast (by rw [h3, stp_e, if_neg hs]) (by rw [List.length_dropLast]; omega) (some (.int (0 + (i : Int)))) (some (.str r.kind))
          rw [← enc_tail hs] at this
          exact this
      refine iteN (fun z => h3 (V.str.inj (dec_true z))) ?_
      refine iteN Bool.false_ne_true ?_
      refine ⟨_, rfl, rfl, _, rfl, ?_⟩
      by_cases h4 : r.kind = "else"
      · refine iteP (decide_eq_true (congrArg V.str h4)) ?_
        refine ⟨_, rfl, _, rfl, _, rfl, hel, rfl, _, rfl, ?_⟩
        by_cases hl : st.getLast? = some ("if" : Str)
        · have hs : st ≠ [] := fun z => by rw [z] at hl; cases hl
          refine iteN (by rw [(top_i hop).mpr hl]; decide +kernel) ?_
          refine ⟨_, rfl, rfl, _, rfl, ?_⟩
          refine iteP (decide_eq_true (congrArg V.str h4)) ?_
          refine ⟨_, rfl, _, rfl, _, rfl, hel, _, _, rfl, rfl, ?_, ?_⟩
          · rw [enc_tail hs, enc_len, List.length_dropLast]; exact Nat.le_of_lt (lt_1000 (by show 1 + (st.length - 1) ≤ 1000; omega))
          · have := stay (st.dropLast ++ [("else" : Str)]) (by rw [h4, stp_l, if_pos hl]) (by rw [List.length_append, List.length_dropLast, List.length_singleton]; omega) (some (.int (0 + (i : Int)))) (some (.str r.kind))
            rw [enc_snoc, fl_else, ← enc_tail hs] at this
            exact this
        · refine iteP (by simp; exact fun z => hl ((top_i hop).mp z)) ?_
          exact ⟨_, rfl, hret (by rw [h4, stp_l, if_neg hl])⟩
      · refine iteN (fun z => h4 (V.str.inj (dec_true z))) ?_
        refine iteN Bool.false_ne_true ?_
        refine ⟨_, rfl, rfl, _, rfl, ?_⟩
        refine iteN (fun z => h4 (V.str.inj (dec_true z))) ?_
        refine ⟨_, rfl, rfl, _, rfl, ?_⟩
        refine iteN (fun z => h3 (V.str.inj (dec_true z))) ?_
        exact stay st (stp_n hO h3 h4) (by omega) _ _
    · rintro σ H2 ⟨rfl, hi', st, v2, v3, rfl, hst, hsl, hop⟩
      have hks : (rs.map (·.kind)).length = xs.length := by rw [List.length_map, hlen]
      have hend := nst_end (ks := rs.map (·.kind)) (st := st) (by rw [hks]; rw [Int.toNat_natCast] at hst; exact hst)
      have hno : ¬ (st = [] ∧ (rs.map (·.kind)).getLast? = some ("back" : Str)) → ∀ H3, Same H2 H3 → Q (.int (xs.length : Nat)) H3 := fun z H3 s3 => by
        have := q H3 s3
        rw [hend, if_neg z, hks] at this
        exact this
      refine ⟨_, rfl, rfl, _, rfl, ?_⟩
      by_cases hs : st = []
      · refine iteN (by rw [enc_eq.mpr hs]; decide +kernel) ?_
        refine ⟨_, rfl, le0, fun l hl => ⟨p, l, _, rfl, rfl, (Same.new hl).seq hS, SqL.of upd_same, _, rfl, ?_⟩⟩
        have s3 : Same H2 (upd H2 l (.lst [])) := Same.new hl
        by_cases hx0 : xs = []
        · refine iteP (decide_eq_true hx0) ?_
          refine iteP rfl ?_
          refine ⟨_, rfl, p, _, rfl, .inl (s3.seq hS), hno (fun z => ?_) _ s3⟩
          have : rs = [] := List.length_eq_zero_iff.mp (by rw [← hlen, hx0]; rfl)
          rw [this] at z; cases z.2
        · refine iteN (fun z => hx0 (dec_true z)) ?_
          have hp : 0 < xs.length := List.length_pos_iff.mpr hx0
          obtain ⟨x, hx⟩ : ∃ x, xs[xs.length - 1]? = some x := ⟨_, List.getElem?_eq_getElem (by omega)⟩
          obtain ⟨r, hr', hD⟩ := dat_at hd hx
          obtain ⟨rb, ys, rfl, hrow, hrest⟩ := row_at hD
          have hkl : (rs.map (·.kind)).getLast? = some r.kind := by rw [List.getLast?_eq_getElem?, List.length_map, ← hlen, List.getElem?_map, hr']; rfl
          refine ⟨_, rfl, _, rfl, p, _, _, _, rfl, rfl, s3.seq hS, last_atV hx, rb, _, _, _, rfl, rfl, s3.tup hrow, at0, rfl, _, rfl, ?_⟩
          by_cases hb2 : r.kind = "back"
          · refine iteN (by rw [hb2]; decide +kernel) ?_
            have := q _ s3
            rw [hend, if_pos ⟨hs, by rw [hkl, hb2]⟩] at this
            exact ⟨_, rfl, this⟩
          · refine iteP (by simp [hb2]) ?_
            exact ⟨_, rfl, p, _, rfl, .inl (s3.seq hS), hno (fun z => hb2 (Option.some.inj (hkl.symm.trans z.2))) _ s3⟩
      · refine iteP (by simp; exact fun z => hs (enc_eq.mp z)) ?_
        refine iteP rfl ?_
        exact ⟨_, rfl, p, _, rfl, .inl hS, hno (fun z => hs z.1) _ (Same.refl _)⟩
end
end K16

set_option Elab.async false
set_option linter.all false
set_option maxRecDepth 100000
set_option maxHeartbeats 4000000
namespace K16
open PySem L2 Gx Lk
section
variable {P : Program} {w : World} {K : PySem.W.Frag} {mg : Str → Option Value} {base : Heap} {t : Adr}
theorem sc_l_due : FnScope ["_law_functions_here", "_law_word", "_law_name_here", "_law_folded", "_law_params", "_law_rows_here", "_law_at", "_law_fitting"] ["_law_functions_here"] (defScope s_l_due) := ⟨rfl, rfl, rfl, by decide +kernel, rfl, by decide +kernel, by decide +kernel⟩
theorem ok_l_due (T : Txt K mg t) : FnOk P w K mg base CX0 2 t.a_l_due t.d_l_due ["_law_functions_here"] (sp_l_due K) := by
  have G_l_again : FnOk P w K mg base CX0 1 t.a_l_again t.d_l_again ["_law_names"] (sp_l_again K) := ok_l_again T
  have G_l_nest : FnOk P w K mg base CX0 1 t.a_l_nest t.d_l_nest ["_law_rows_here"] (sp_l_nest K) := ok_l_nest T
  refine T.l_due.F.ok sc_l_due (fun vs H Q E h => ?_) (fun cdv A outer s H vs Q E hr h => ?_)
  · obtain ⟨L, fos, rfl, hL, hF, hn, q⟩ := h
    rfl
  · obtain ⟨L, fos, rfl, hL, hF, hn, q⟩ := h
    refine ⟨_, (@pss_cons _ _ _ _ _ (@ps_if _ _ _ _ _ _ _ _ (@pt_cmpR _ _ _ _ _ _ _ _ (op_eqNil hr.units) (pv 0) (@pe_lst _ _ _ _ pa_nil) (nomark _)) (@pss_one _ _ _ (@ps_ret _ _ _ _ (@pe_lst _ _ _ _ (@pa_cons _ _ _ _ _ pe_str pa_nil (by rfl))))) pss_nil) (@pss_cons _ _ _ _ _ (@ps_set _ _ 1 _ _ _ _ sc_l_due.nd rfl (Or.inl rfl) (callD T.l_again G_l_again (hr.mono (by decide)) (@pa_cons _ _ _ _ _ (pe_comp (N' := ["_law_one"]) (js := [none]) (by kernel_rfl) rfl (pi_list (pv 0)) own_name (fun _ _ _ _ => (pg_name (i := 0) (show (["_law_one"] : List Str).Nodup by decide +kernel) rfl (Or.inl rfl) (.inr rfl))) (fun _ _ _ _ => pif_nil) (fun _ _ _ _ => (@pe_ix _ _ _ _ _ _ _ (show IxR _ (rIxL K) from ix_list) (pv 0) pe_int (fun _ _ => rfl)))) pa_nil (by rfl))) (by rfl) (by first | exact .inl rfl | exact .inr rfl | assumption)) (@pss_cons _ _ _ _ _ (@ps_if _ _ _ _ _ _ _ _ (pt_cmp (pc_notN (pv 1))) (@pss_one _ _ _ (@ps_ret _ _ _ _ (@pe_lst _ _ _ _ (@pa_cons _ _ _ _ _ pe_str (@pa_cons _ _ _ _ _ (pv 1) pa_nil (by rfl)) (by rfl))))) pss_nil) (@pss_cons _ _ _ _ _ (ps_for PassesOwn.never rfl (pi_list (pv 0)) (pg_lst rfl (pgs_cons (pg_name (i := 2) sc_l_due.nd rfl (Or.inl rfl)) (pgs_cons (pg_name (i := 3) sc_l_due.nd rfl (Or.inl rfl)) (pgs_cons (pg_name (i := 4) sc_l_due.nd rfl (Or.inl rfl)) (pgs_cons (pg_name (i := 5) sc_l_due.nd rfl (Or.inr rfl)) pgs_nil))))) (@pss_cons _ _ _ _ _ (@ps_set _ _ 1 _ _ _ _ sc_l_due.nd rfl (Or.inl rfl) (callD T.l_again G_l_again (hr.mono (by decide)) (@pa_cons _ _ _ _ _ (pv 4) pa_nil (by rfl))) (by rfl) (by first | exact .inl rfl | exact .inr rfl | assumption)) (@pss_cons _ _ _ _ _ (@ps_if _ _ _ _ _ _ _ _ (pt_cmp (pc_notN (pv 1))) (@pss_one _ _ _ (@ps_ret _ _ _ _ (@pe_lst _ _ _ _ (@pa_cons _ _ _ _ _ pe_str (@pa_cons _ _ _ _ _ (pv 1) pa_nil (by rfl)) (by rfl))))) pss_nil) (@pss_cons _ _ _ _ _ (@ps_if _ _ _ _ _ _ _ _ (@pt_cmpR _ _ _ _ _ _ _ _ op_ge (callD T.l_nest G_l_nest (hr.mono (by decide)) (@pa_cons _ _ _ _ _ (pv 5) pa_nil (by rfl))) pe_int (nomark _)) (@pss_one _ _ _ (@ps_ret _ _ _ _ (@pe_lst _ _ _ _ (@pa_cons _ _ _ _ _ pe_str (@pa_cons _ _ _ _ _ (pv 2) (@pa_cons _ _ _ _ _ (callD T.l_nest G_l_nest (hr.mono (by decide)) (@pa_cons _ _ _ _ _ (pv 5) pa_nil (by rfl))) pa_nil (by rfl)) (by rfl)) (by rfl))))) pss_nil) (@pss_one _ _ _ (ps_for PassesOwn.never rfl (pi_range1 rfl T.b_range (@pa_cons _ _ _ _ _ (pe_callB call_len_seq (by rfl) T.b_len bt_len (@pa_cons _ _ _ _ _ (pv 5) pa_nil (by rfl))) pa_nil (by rfl))) (pg_name (i := 6) sc_l_due.nd rfl (Or.inr rfl)) (@pss_cons _ _ _ _ _ (ps_setc (i := 7) sc_l_due.nd rfl (Or.inl rfl) (N' := ["_law_one", "_law_rows_here", "_law_at"]) (js := [none, some 5, some 6]) (by kernel_rfl) rfl (pi_list (pv 0)) own_name (fun _ _ _ _ => (pg_name (i := 0) (show (["_law_one", "_law_rows_here", "_law_at"] : List Str).Nodup by decide +kernel) rfl (Or.inl rfl) (.inr rfl))) (fun _ _ _ _ => (pif_one (@PW.pt _ _ _ (@pw_and _ _ _ _ _ _ _ (@pt_cmpR _ _ _ _ _ _ _ _ op_eq (@pe_ix _ _ _ _ _ _ _ (show IxR _ (rIxT K) from ix_tup) (@pe_ix _ _ _ _ _ _ _ (show IxR _ (rIxL K) from ix_list) (pv 1) (pv 2) (fun _ _ => rfl)) pe_int (fun _ _ => rfl)) pe_str (nomark _)) (@pw_and1 _ _ _ _ (@pt_cmpR _ _ _ _ _ _ _ _ op_eq (@pe_ix _ _ _ _ _ _ _ (show IxR _ (rIxL K) from ix_list) (pv 0) pe_int (fun _ _ => rfl)) (@pe_ix _ _ _ _ _ _ _ (show IxR _ (rIxT K) from ix_tup) (@pe_ix _ _ _ _ _ _ _ (show IxR _ (rIxL K) from ix_list) (pv 1) (pv 2) (fun _ _ => rfl)) pe_int (fun _ _ => rfl)) (nomark _))))))) (fun _ _ _ _ => (pv 0)) (by rfl)) (@pss_one _ _ _ (@ps_if _ _ _ _ _ _ _ _ (@PW.pt _ _ _ (@pw_and _ _ _ _ _ _ _ (@pt_cmpR _ _ _ _ _ _ _ _ op_eq (@pe_ix _ _ _ _ _ _ _ ix_tup (@pe_ix _ _ _ _ _ _ _ ix_list (pv 5) (pv 6) (fun _ _ => rfl)) pe_int (fun _ _ => rfl)) pe_str (nomark _)) (@pw_and1 _ _ _ _ (@PW.pt _ _ _ (pw_or (@pt_cmpR _ _ _ _ _ _ _ _ (op_eqNil hr.units) (pv 7) (@pe_lst _ _ _ _ pa_nil) (nomark _)) (pw_or1 (@pt_cmpR _ _ _ _ _ _ _ _ op_ne (pe_callB call_len_seq (by rfl) T.b_len bt_len (@pa_cons _ _ _ _ _ (@pe_ix _ _ _ _ _ _ _ ix_list (@pe_ix _ _ _ _ _ _ _ ix_list (pv 7) pe_int (fun _ _ => rfl)) pe_int (fun _ _ => rfl)) pa_nil (by rfl))) (pe_callB call_len_seq (by rfl) T.b_len bt_len (@pa_cons _ _ _ _ _ (@pe_ix _ _ _ _ _ _ _ ix_tup (@pe_ix _ _ _ _ _ _ _ ix_list (pv 5) (pv 6) (fun _ _ => rfl)) pe_int (fun _ _ => rfl)) pa_nil (by rfl))) (nomark _)))))))) (@pss_one _ _ _ (@ps_ret _ _ _ _ (@pe_lst _ _ _ _ (@pa_cons _ _ _ _ _ pe_str (@pa_cons _ _ _ _ _ (pv 2) (@pa_cons _ _ _ _ _ (pv 6) pa_nil (by rfl)) (by rfl)) (by rfl))))) pss_nil))))))))) (@pss_one _ _ _ (@ps_ret _ _ _ _ (@pe_lst _ _ _ _ (@pa_cons _ _ _ _ _ pe_str pa_nil (by rfl))))))))), ?_⟩
    refine ⟨_, rfl, le0, fun l0 hl0 => ⟨L, l0, _, rfl, rfl, SqL.of ((Same.new hl0) _ _ hL), SqL.of upd_same, _, rfl, ?_⟩⟩
    have s0 : Same H (upd H l0 (.lst [])) := Same.new hl0
    by_cases h0 : fos = []
    · refine iteP (decide_eq_true (by rw [h0]; rfl)) ?_
      refine ⟨le1, fun l hl => q l _ (s0.trans (Same.new hl)) (s0.free hl) ?_⟩
      rw [upd_same, h0]; rfl
    refine iteN (fun z => h0 (List.map_eq_nil_iff.mp (dec_true z))) ?_
    refine ⟨_, rfl, L, rfl, ⟨_, SqL.of (s0 _ _ hL)⟩, fun c hc => comp_list (xs := fos.map fun x => V.ref x.e) (by rw [List.length_map]; omega) (fun i acc H2 => i ≤ fos.length ∧ Same H H2 ∧ H2 c = some (.lst acc) ∧ acc = (fos.take i).map fun x => V.str x.f.name) ⟨Nat.zero_le _, s0.trans (Same.new hc), upd_same, rfl⟩ ?_ ?_ ?_⟩
    · rintro i acc H2 hi ⟨hi', s2, h2, rfl⟩
      exact ⟨h2, by rw [List.length_map, List.length_take]; omega, SqL.of (s2 _ _ hL)⟩
    · rintro i x acc H2 hx ⟨hi', s2, h2, rfl⟩
      obtain ⟨y, hy, hym, rfl⟩ := map_at hx
      have hi : i < fos.length := (List.getElem?_eq_some_iff.mp hy).1
      refine ⟨_, rfl, y.e, _, _, _, rfl, rfl, SqL.of (s2 _ _ (hF y hym).1.1), at0, h2, hi, s2.upd (s0.free hc), upd_same, ?_⟩
      rw [take_snoc hy, List.map_append]; rfl
    rintro acc H2 ⟨hi', s2, h2, rfl⟩
    have e2 : H2 c = some (.lst (((fos.map (·.f)).map (·.name)).map V.str)) := by rw [h2, List.length_map, List.take_length, List.map_map, List.map_map]; rfl
    refine ⟨c, (fos.map (·.f)).map (·.name), rfl, SqL.of e2, by rw [List.length_map, List.length_map]; omega, fun H3 s3 => ?_⟩
    have s3 := s2.trans s3
    have hne : fos.map (·.f) ≠ [] := fun z => h0 (List.map_eq_nil_iff.mp z)
    refine ⟨_, rfl, _, rfl, ?_⟩
    cases htw : tw ((fos.map (·.f)).map (·.name)) with
    | some w =>
      refine iteP rfl ?_
      refine ⟨_, rfl, le2, fun l hl => q l _ (s3.trans (Same.new hl)) (s3.free hl) ?_⟩
      rw [upd_same]
      unfold lookM
      rw [if_neg hne, htw]
      rfl
    | none =>
      refine iteN (by decide) ?_
      have hlk : lookM (fos.map (·.f)) = (fos.map (·.f)).findSome? (fnM (fos.map (·.f))) := by unfold lookM; rw [if_neg hne, htw]
      refine ⟨_, rfl, L, rfl, ⟨_, SqL.of (s3 _ _ hL)⟩, for_list (xs := fos.map fun x => V.ref x.e) (fun i σ H4 => i ≤ fos.length ∧ Same H H4 ∧ (∃ v1 v2 v3 v4 v5 v6 v7, σ = [some (.ref L), v1, v2, v3, v4, v5, v6, v7]) ∧ ∀ j g, j < i → (fos.map (·.f))[j]? = some g → fnM (fos.map (·.f)) g = none) ?_ ?_ ?_ ?_⟩
      · exact ⟨Nat.zero_le _, s3, ⟨_, _, _, _, _, _, _, rfl⟩, fun j g hj => absurd hj (Nat.not_lt_zero _)⟩
      · rintro i σ H4 hi ⟨_, s4, _⟩
        exact SqL.of (s4 _ _ hL)
      · rintro i x σ H4 hx ⟨hi', s4, ⟨v1, v2, v3, v4, v5, v6, v7, rfl⟩, hA⟩
        obtain ⟨y, hy, hym, rfl⟩ := map_at hx
        have hil : i < fos.length := (List.getElem?_eq_some_iff.mp hy).1
        obtain ⟨⟨f1, f2, f3, f4⟩, z1, z2, z3⟩ := hF y hym
        have hfi : (fos.map (·.f))[i]? = some y.f := by rw [List.getElem?_map, hy]; rfl
        have due : ∀ o, fnM (fos.map (·.f)) y.f = some o → lookM (fos.map (·.f)) = some o := fun o ho => by rw [hlk]; exact find_at hfi ho hA
        refine ⟨y.e, _, rfl, SqL.of (s4 _ _ f1), rfl, _, _, rfl, _, _, rfl, _, _, rfl, _, _, rfl, rfl, ?_⟩
        refine ⟨_, rfl, y.pa, y.f.ps, rfl, SqL.of (s4 _ _ f2), by omega, fun H5 s5 => ?_⟩
        have s5 := s4.trans s5
        refine ⟨_, rfl, _, rfl, ?_⟩
        cases hw : tw y.f.ps with
        | some w =>
          refine iteP rfl ?_
          refine ⟨_, rfl, le2, fun l hl => q l _ (s5.trans (Same.new hl)) (s5.free hl) ?_⟩
          rw [upd_same, due (.twice w) (by unfold fnM; rw [hw])]
          rfl
        | none =>
          refine iteN (by decide) ?_
          have hrd5 := DatAll.mono s5 _ _ f4
          refine ⟨_, rfl, y.ra, y.rvs, y.f.rows, rfl, SqL.of (s5 _ _ f3), hrd5, z2, fun H6 s6 => ⟨_, _, rfl, rfl, _, rfl, ?_⟩⟩
          have s6 := s5.trans s6
          cases hns : nst (y.f.rows.map (·.kind)) with
          | some k =>
            refine iteP (decide_eq_true (show (0 : Int) ≤ ((k : Nat) : Int) from Int.natCast_nonneg k)) ?_
            refine ⟨_, rfl, _, rfl, y.ra, y.rvs, y.f.rows, rfl, SqL.of (s6 _ _ f3), DatAll.mono s6 _ _ f4, z2, fun H7 s7 => ⟨le3, fun l hl => ?_⟩⟩
            have s7 := s6.trans s7
            refine q l _ (s7.trans (Same.new hl)) (s7.free hl) ?_
            rw [upd_same, due (.nest y.f.name k) (by unfold fnM; rw [hw]; show (match nst (y.f.rows.map (·.kind)) with | some k => some (Out.nest y.f.name k) | none => _) = _; rw [hns]), hns]
            rfl
          | none =>
            refine iteN (by decide) ?_
            have efn : fnM (fos.map (·.f)) y.f = (cll (fos.map (·.f)) y.f.rows).map (.call y.f.name) := by
              unfold fnM
              rw [hw]
              show (match nst (y.f.rows.map (·.kind)) with | some k => some (Out.nest y.f.name k) | none => _) = _
              rw [hns]
            have hrl := dat_len f4
            have hb := bd62 (n := y.rvs.length) (by omega)
            refine ⟨_, rfl, y.ra, _, rfl, .inl (SqL.of (s6 _ _ f3)), _, rfl, hb.1, hb.2, for_range (fun j σ H7 => Same H H7 ∧ (∃ v1 v6 v7, σ = [some (.ref L), v1, some (.str y.f.name), some (.bl y.f.folded), some (.ref y.pa), some (.ref y.ra), v6, v7]) ∧ ∀ m r, m < j → y.f.rows[m]? = some r → bad (fos.map (·.f)) r = false) ⟨s6, ⟨_, _, _, rfl⟩, fun m r hm => absurd hm (Nat.not_lt_zero _)⟩ ?_ ?_⟩
            · rintro j σ H7 hj ⟨s7, ⟨v1, v6, v7, rfl⟩, hB⟩
              have hjl : j < y.f.rows.length := by rw [Int.toNat_natCast, hrl] at hj; exact hj
              obtain ⟨x, hx2⟩ : ∃ x, y.rvs[j]? = some x := ⟨_, List.getElem?_eq_getElem (by omega)⟩
              obtain ⟨r, hr', hD⟩ := dat_at f4 hx2
              obtain ⟨rb, ys, rfl, hrow, hrest⟩ := row_at hD
              have hat : atI y.rvs (0 + (j : Int)) = some (.ref rb) := by rw [Int.zero_add]; exact atN hx2
              refine ⟨_, rfl, L, rfl, ⟨_, SqL.of (s7 _ _ hL)⟩, fun c2 hc2 => comp_list (xs := fos.map fun x => V.ref x.e) (by rw [List.length_map]; omega) (fun m acc H8 => m ≤ fos.length ∧ Same H7 H8 ∧ H8 c2 = some (.lst acc) ∧ acc = ((fos.take m).filter fun x => r.kind == "call" && x.f.name == r.fn).map fun x => V.ref x.e) ⟨Nat.zero_le _, Same.new hc2, upd_same, rfl⟩ ?_ ?_ ?_⟩
              · rintro m acc H8 hm ⟨hm', s8, h8, rfl⟩
                refine ⟨h8, ?_, SqL.of ((s7.trans s8) _ _ hL)⟩
                rw [List.length_map]
                exact Nat.le_trans (List.length_filter_le _ _) (by rw [List.length_take]; omega)
              · rintro m x acc H8 hx3 ⟨hm', s8, h8, rfl⟩
                obtain ⟨x', hx', hxm, rfl⟩ := map_at hx3
                have hml : m < fos.length := (List.getElem?_eq_some_iff.mp hx').1
                have s78 := s7.trans s8
                have fx := (hF x' hxm).1
                refine ⟨_, rfl, _, rfl, y.ra, _, _, _, rfl, rfl, SqL.of (s78 _ _ f3), hat, rb, _, _, _, rfl, rfl, s78.tup hrow, at0, rfl, _, rfl, ?_⟩
                by_cases hc : r.kind = "call"
                · refine iteP (decide_eq_true (congrArg V.str hc)) ?_
                  obtain ⟨x0, f, as, hre⟩ := z3 r (List.mem_of_getElem? hr') hc
                  rw [hre] at hrest
                  obtain ⟨v0, ab, zs, rfl, hz, hzl⟩ := call_at hrest
                  have hfn : r.fn = f := by unfold Rw.fn; rw [hre]
                  refine ⟨_, rfl, x'.e, _, _, _, rfl, rfl, SqL.of (s78 _ _ fx.1), at0, _, rfl, _, rfl, y.ra, _, _, _, rfl, rfl, SqL.of (s78 _ _ f3), hat, rb, _, _, _, rfl, rfl, s78.tup hrow, atN (i := 2) rfl, rfl, _, rfl, ?_⟩
                  by_cases hnm : x'.f.name = f
                  · refine iteP (decide_eq_true (congrArg V.str hnm)) ?_
                    refine ⟨_, rfl, h8, hml, s8.upd hc2, upd_same, ?_⟩
                    rw [take_snoc hx', List.filter_append, List.map_append, List.filter_cons, if_pos (by rw [beq_iff_eq.mpr hc, hfn, beq_iff_eq.mpr hnm]; rfl)]
                    rfl
                  · refine iteN (fun z => hnm (V.str.inj (dec_true z))) ?_
                    refine ⟨hml, s8, h8, ?_⟩
                    rw [take_snoc hx', List.filter_append, List.map_append, List.filter_cons, if_neg (by rw [hfn, beq_eq_false_iff_ne.mpr hnm, Bool.and_false]; exact Bool.false_ne_true)]
                    simp
                · refine iteN (fun z => hc (V.str.inj (dec_true z))) ?_
                  refine ⟨hml, s8, h8, ?_⟩
                  rw [take_snoc hx', List.filter_append, List.map_append, List.filter_cons, if_neg (by rw [beq_eq_false_iff_ne.mpr hc, Bool.false_and]; exact Bool.false_ne_true)]
                  simp
              · rintro acc H8 ⟨hm', s8, h8, rfl⟩
                have s78 := s7.trans s8
                have next : bad (fos.map (·.f)) r = false → ∀ (H9 : Hp) (v6 v7 : Option V), Same H H9 → (Same H H9 ∧ (∃ v1' v6' v7', [some (V.ref L), v1, some (.str y.f.name), some (.bl y.f.folded), some (.ref y.pa), some (.ref y.ra), v6, v7] = [some (.ref L), v1', some (.str y.f.name), some (.bl y.f.folded), some (.ref y.pa), some (.ref y.ra), v6', v7']) ∧ ∀ m r, m < j + 1 → y.f.rows[m]? = some r → bad (fos.map (·.f)) r = false) := fun hb9 H9 v6 v7 s9 => by
                  refine ⟨s9, ⟨_, _, _, rfl⟩, fun m r' hm hr2 => ?_⟩
                  by_cases z : m = j
                  · subst z; rw [hr'] at hr2; cases hr2; exact hb9
                  · exact hB m r' (by omega) hr2
                have told : bad (fos.map (·.f)) r = true → lookM (fos.map (·.f)) = some (.call y.f.name j) := fun hb9 => due _ (by rw [efn, cll_at hr' hb9 hB]; rfl)
                refine ⟨_, rfl, _, rfl, y.ra, _, _, _, rfl, rfl, SqL.of (s78 _ _ f3), hat, rb, _, _, _, rfl, rfl, s78.tup hrow, at0, rfl, _, rfl, ?_⟩
                by_cases hc : r.kind = "call"
                · refine iteP (decide_eq_true (congrArg V.str hc)) ?_
                  obtain ⟨x0, f, as, hre⟩ := z3 r (List.mem_of_getElem? hr') hc
                  rw [hre] at hrest
                  obtain ⟨v0, ab, zs, rfl, hz, hzl⟩ := call_at hrest
                  have hfn : r.fn = f := by unfold Rw.fn; rw [hre]
                  have hrn : r.n = as.length := by unfold Rw.n; rw [hre]
                  have eP : (fos.filter fun x => r.kind == "call" && x.f.name == r.fn) = fos.filter fun x => x.f.name == r.fn := by
                    congr 1
                    funext x
                    rw [beq_iff_eq.mpr hc, Bool.true_and]
                  rw [List.length_map, List.take_length, eP] at h8
                  have hcn := cnt_fit fos r.fn
                  refine ⟨_, rfl, le0, fun l1 hl1 => ⟨c2, l1, _, rfl, rfl, SqL.of ((Same.new hl1) _ _ h8), SqL.of upd_same, _, rfl, ?_⟩⟩
                  have s9 := s78.trans (Same.new (o := .lst []) hl1)
                  have h9 := (Same.new (o := .lst []) hl1) _ _ h8
                  cases hfe : fos.filter fun x => x.f.name == r.fn with
                  | nil =>
                    rw [hfe] at hcn
                    have hb9 : bad (fos.map (·.f)) r = true := by rw [bad_call hc, hcn]; rfl
                    refine iteP rfl ?_
                    refine iteP rfl ?_
                    refine ⟨_, rfl, _, rfl, le3, fun l hl => q l _ (s9.trans (Same.new hl)) (s9.free hl) ?_⟩
                    rw [upd_same, told hb9, Int.zero_add]
                    rfl
                  | cons g rest =>
                    rw [hfe] at hcn h9
                    have hgm : g ∈ fos := (List.mem_filter.mp (show g ∈ fos.filter fun x => x.f.name == r.fn by rw [hfe]; exact .head _)).1
                    have fg := (hF g hgm).1
                    have hdec : (!decide (V.int ((g.f.ps.map V.str).length : Nat) = V.int (zs.length : Nat))) = bad (fos.map (·.f)) r := by
                      rw [bad_call hc, hcn, hrn, hzl, List.length_map]
                      show _ = (some g.f.ps.length != some as.length)
                      by_cases z : g.f.ps.length = as.length
                      · rw [z]; simp
                      · have z2 : ¬ V.int (g.f.ps.length : Nat) = V.int (as.length : Nat) := fun q => z (Int.ofNat.inj (V.int.inj q))
                        rw [decide_eq_false z2]
                        simp [z]
                    refine iteN (by rw [List.map_cons]; simp) ?_
                    refine ⟨_, rfl, c2, _, _, _, rfl, rfl, SqL.of h9, at0, g.e, _, _, _, rfl, rfl, SqL.of (s9 _ _ fg.1), atN (i := 2) rfl, g.pa, _, rfl, .inl (SqL.of (s9 _ _ fg.2.1)), _, rfl, _, rfl, y.ra, _, _, _, rfl, rfl, SqL.of (s9 _ _ f3), hat, rb, _, _, _, rfl, rfl, s9.tup hrow, atN (i := 3) rfl, ab, _, rfl, .inr (s9.tup hz), rfl, _, rfl, ?_⟩
                    by_cases hb9 : bad (fos.map (·.f)) r = true
                    · refine iteP (hdec.trans hb9) ?_
                      refine ⟨_, rfl, _, rfl, le3, fun l hl => q l _ (s9.trans (Same.new hl)) (s9.free hl) ?_⟩
                      rw [upd_same, told hb9, Int.zero_add]
                      rfl
                    · refine iteN (fun z => hb9 (hdec.symm.trans z)) ?_
                      exact next (Bool.eq_false_iff.mpr hb9) _ _ _ s9
                · refine iteN (fun z => hc (V.str.inj (dec_true z))) ?_
                  exact next (by unfold bad; rw [beq_eq_false_iff_ne.mpr hc]; rfl) _ _ _ s78
            · rintro σ H7 ⟨s7, ⟨v1, v6, v7, rfl⟩, hB⟩
              refine ⟨hil, s7, ⟨_, _, _, _, _, _, _, rfl⟩, fun j g hj hg => ?_⟩
              by_cases z : j = i
              · subst z
                rw [hfi] at hg; cases hg
                rw [efn, cll_none fun m r hr => hB m r (by rw [Int.toNat_natCast, hrl]; exact (List.getElem?_eq_some_iff.mp hr).1) hr]
                rfl
              · exact hA j g (by omega) hg
      · rintro σ H4 ⟨hi', s4, ⟨v1, v2, v3, v4, v5, v6, v7, rfl⟩, hA⟩
        have hnone : lookM (fos.map (·.f)) = none := by
          rw [hlk]
          refine find_none fun g hg => ?_
          obtain ⟨j, hj⟩ := List.mem_iff_getElem?.mp hg
          have := (List.getElem?_eq_some_iff.mp hj).1
          rw [List.length_map] at this
          exact hA j g (by rw [List.length_map]; exact this) hj
        refine ⟨le1, fun l hl => q l _ (s4.trans (Same.new hl)) (s4.free hl) ?_⟩
        rw [upd_same, hnone]
        rfl
end
end K16

set_option Elab.async false
set_option linter.all false
set_option maxRecDepth 100000
set_option maxHeartbeats 4000000
namespace K16
open PySem L2 Gx Lk
section
variable {P : Program} {w : World} {K : PySem.W.Frag} {mg : Str → Option Value} {base : Heap} {t : Adr}
theorem sc_l_whole : FnScope ["_law_found"] ["_law_found"] (defScope s_l_whole) := ⟨rfl, rfl, rfl, by decide +kernel, rfl, by decide +kernel, by decide +kernel⟩
theorem ok_l_whole (T : Txt K mg t) : FnOk P w K mg base CX0 1 t.a_l_whole t.d_l_whole ["_law_found"] (sp_l_whole K) := by
  refine T.l_whole.F.ok sc_l_whole (fun vs H Q E h => ?_) (fun cdv A outer s H vs Q E hr h => ?_)
  · obtain ⟨z, rfl, q⟩ := h
    rfl
  · obtain ⟨z, rfl, q⟩ := h
    refine ⟨_, (@pss_cons _ _ _ _ _ (@ps_ret _ _ _ _ (pe_and (pe_callB call_isinst (by rfl) T.b_isinstance bt_isinstance (@pa_cons _ _ _ _ _ (pv 0) (@pa_cons _ _ _ _ _ (pe_bltn (v := V.ty "int") rfl T.b_int bt_int rfl) pa_nil (by rfl)) (by rfl))) (pe_one (pe_not (pe_callB call_isinst (by rfl) T.b_isinstance bt_isinstance (@pa_cons _ _ _ _ _ (pv 0) (@pa_cons _ _ _ _ _ (pe_bltn (v := V.ty "bool") rfl T.b_bool bt_bool rfl) pa_nil (by rfl)) (by rfl))))))) pss_nil), ?_⟩
    exact ⟨_, rfl, _, _, _, true, rfl, .int _, rfl, _, rfl, iteP rfl ⟨_, rfl, _, _, _, false, rfl, .int _, rfl, _, rfl, q⟩⟩
end
end K16

set_option Elab.async false
set_option linter.all false
set_option maxRecDepth 100000
set_option maxHeartbeats 4000000
namespace K16
open PySem L2 Gx Lk
section
variable {P : Program} {w : World} {K : PySem.W.Frag} {mg : Str → Option Value} {base : Heap} {t : Adr}
theorem sc_l_other : FnScope ["_law_e", "_law_many"] ["_law_e"] (defScope s_l_other) := ⟨rfl, rfl, rfl, by decide +kernel, rfl, by decide +kernel, by decide +kernel⟩
theorem ok_l_other (T : Txt K mg t) : FnOk P w K mg base CX0 1 t.a_l_other t.d_l_other ["_law_e"] (sp_l_other K t) := by
  refine T.l_other.F.ok sc_l_other (fun vs H Q E h => ?_) (fun cdv A outer s H vs Q E hr h => ?_)
  · obtain ⟨e, d, o, rfl, he, ha, q⟩ := h
    rfl
  · obtain ⟨e, d, o, rfl, he, ha, q⟩ := h
    refine ⟨_, (@pss_cons _ _ _ _ _ (@ps_if _ _ _ _ _ _ _ _ (pt_val (pe_callB call_isxt (by rfl) T.b_isinstance bt_isinstance (@pa_cons _ _ _ _ _ (pv 0) (@pa_cons _ _ _ _ _ (@pe_tup _ _ _ _ _ (@pa_cons _ _ _ _ _ (pe_gtuple T.g_BadRow) (@pa_cons _ _ _ _ _ (pe_gtuple T.g_NoName) (@pa_cons _ _ _ _ _ (pe_gtuple T.g_Ended) (@pa_cons _ _ _ _ _ (pe_gtuple T.g_TooLong) (@pa_cons _ _ _ _ _ (pe_gtuple T.g_Gone) (@pa_cons _ _ _ _ _ (pe_gtuple T.g_NotBox) (@pa_cons _ _ _ _ _ (pe_gtuple T.g_Shared) (@pa_cons _ _ _ _ _ (pe_gtuple T.g_BadBits) (@pa_cons _ _ _ _ _ (pe_gtuple T.g_Untrue) pa_nil (by rfl)) (by rfl)) (by rfl)) (by rfl)) (by rfl)) (by rfl)) (by rfl)) (by rfl)) (by rfl))) pa_nil (by rfl)) (by rfl)))) (@pss_one _ _ _ (@ps_ret _ _ _ _ pe_bl)) pss_nil) (@pss_cons _ _ _ _ _ (@ps_set _ _ 1 _ _ _ _ sc_l_other.nd rfl (Or.inl rfl) (@pe_op _ _ _ _ _ _ _ _ op_add (pe_callTy call_int1 (by rfl) T.b_int bt_int (@pa_cons _ _ _ _ _ (pe_callB call_isx (by rfl) T.b_isinstance bt_isinstance (@pa_cons _ _ _ _ _ (pv 0) (@pa_cons _ _ _ _ _ (pe_gtuple T.x_NoFunction.g) pa_nil (by rfl)) (by rfl))) pa_nil (by rfl))) (pe_callTy call_int1 (by rfl) T.b_int bt_int (@pa_cons _ _ _ _ _ (pe_callB call_isx (by rfl) T.b_isinstance bt_isinstance (@pa_cons _ _ _ _ _ (pv 0) (@pa_cons _ _ _ _ _ (pe_gtuple T.x_TwiceNamed.g) pa_nil (by rfl)) (by rfl))) pa_nil (by rfl)))) (by rfl) (by first | exact .inl rfl | exact .inr rfl | assumption)) (@pss_cons _ _ _ _ _ (@ps_set _ _ 1 _ _ _ _ sc_l_other.nd rfl (Or.inl rfl) (@pe_op _ _ _ _ _ _ _ _ op_add (@pe_op _ _ _ _ _ _ _ _ op_add (pv 1) (pe_callTy call_int1 (by rfl) T.b_int bt_int (@pa_cons _ _ _ _ _ (pe_callB call_isx (by rfl) T.b_isinstance bt_isinstance (@pa_cons _ _ _ _ _ (pv 0) (@pa_cons _ _ _ _ _ (pe_gtuple T.x_BadNest.g) pa_nil (by rfl)) (by rfl))) pa_nil (by rfl)))) (pe_callTy call_int1 (by rfl) T.b_int bt_int (@pa_cons _ _ _ _ _ (pe_callB call_isx (by rfl) T.b_isinstance bt_isinstance (@pa_cons _ _ _ _ _ (pv 0) (@pa_cons _ _ _ _ _ (pe_gtuple T.x_BadCall.g) pa_nil (by rfl)) (by rfl))) pa_nil (by rfl)))) (by rfl) (by first | exact .inl rfl | exact .inr rfl | assumption)) (@pss_one _ _ _ (@ps_ret _ _ _ _ (pe_or (pe_cmpR op_ne (pv 1) pe_int (nomark _)) (pe_one (pe_not (pe_callB call_isx (by rfl) T.b_isinstance bt_isinstance (@pa_cons _ _ _ _ _ (pv 0) (@pa_cons _ _ _ _ _ (pe_bltn (v := V.ty "ValueError") rfl T.b_ValueError bt_ValueError rfl) pa_nil (by rfl)) (by rfl))))))))))), ?_⟩
    obtain ⟨nm, hC⟩ := T.xO o
    refine ⟨_, rfl, le9, fun tp htp => ?_⟩
    have s1 : Same H (upd H tp (.tup [.ref t.x_BadRow, .ref t.x_NoName, .ref t.x_Ended, .ref t.x_TooLong, .ref t.x_Gone, .ref t.x_NotBox, .ref t.x_Shared, .ref t.x_BadBits, .ref t.x_Untrue])) := Same.new htp
    have hX := s1 _ _ he
    have hdx := (ha.mono s1).dx
    refine ⟨e, clO t o, d, nm, tp, _, false, rfl, hX, hdx, hC, upd_same, fun us hv => ?_, _, rfl, ?_⟩
    · rw [refs_of (as := [t.x_BadRow, t.x_NoName, t.x_Ended, t.x_TooLong, t.x_Gone, t.x_NotBox, t.x_Shared, t.x_BadBits, t.x_Untrue]) hv]; exact T.kY o
    refine iteN Bool.false_ne_true ?_
    refine ⟨_, rfl, e, clO t o, d, nm, _, _, _, rfl, hX, hdx, hC, rfl, T.kN o, .inr ⟨_, rfl, _, rfl, e, clO t o, d, nm, _, _, _, rfl, hX, hdx, hC, rfl, T.kT o, .inr ⟨_, rfl, _, _, rfl, rfl, ?_⟩⟩⟩
    refine ⟨_, rfl, _, rfl, e, clO t o, d, nm, _, _, _, rfl, hX, hdx, hC, rfl, T.kB o, .inr ⟨_, rfl, _, _, rfl, rfl, _, rfl, e, clO t o, d, nm, _, _, _, rfl, hX, hdx, hC, rfl, T.kC o, .inr ⟨_, rfl, _, _, rfl, rfl, ?_⟩⟩⟩
    refine ⟨_, rfl, rfl, _, rfl, iteN (by cases o <;> simp [isN, isT, isB, isC]) ?_⟩
    exact ⟨_, rfl, e, clO t o, d, nm, _, _, _, rfl, hX, hdx, hC, rfl, T.kV o, _, rfl, q _ s1⟩
end
end K16

set_option Elab.async false
set_option linter.all false
set_option maxRecDepth 100000
set_option maxHeartbeats 4000000
namespace K16
open PySem L2 Gx Lk
section
variable {P : Program} {w : World} {K : PySem.W.Frag} {mg : Str → Option Value} {base : Heap} {t : Adr}
theorem sc_l_told : FnScope ["_law_program", "_law_fault", "_law_found", "_law_e"] ["_law_program"] (defScope s_l_told) := ⟨rfl, rfl, rfl, by decide +kernel, rfl, by decide +kernel, by decide +kernel⟩
theorem ok_l_told (T : Txt K mg t) : FnOk P w K mg base CX0 5 t.a_l_told t.d_l_told ["_law_program"] (sp_l_told K t) := by
  have G_l_other : FnOk P w K mg base CX0 1 t.a_l_other t.d_l_other ["_law_e"] (sp_l_other K t) := ok_l_other T
  have G_look : FnOk P w K mg base (CXe P w) 4 t.a_look t.d_look ["program"] (sp_look K t) := ok_look T
  have G_l_whole : FnOk P w K mg base CX0 1 t.a_l_whole t.d_l_whole ["_law_found"] (sp_l_whole K) := ok_l_whole T
  refine T.l_told.F.ok sc_l_told (fun vs H Q E h => ?_) (fun cdv A outer s H vs Q E hr h => ?_)
  · obtain ⟨p, xs, fs, rfl, hS, hd, hn, hok, q⟩ := h
    rfl
  · obtain ⟨p, xs, fs, rfl, hS, hd, hn, hok, q⟩ := h
    refine ⟨_, (@pss_cons _ _ _ _ _ (@ps_set _ _ 1 _ _ _ _ sc_l_told.nd rfl (Or.inl rfl) pe_non (by rfl) (by first | exact .inl rfl | exact .inr rfl | assumption)) (@pss_cons _ _ _ _ _ (@ps_set _ _ 2 _ _ _ _ sc_l_told.nd rfl (Or.inl rfl) pe_non (by rfl) (by first | exact .inl rfl | exact .inr rfl | assumption)) (@pss_cons _ _ _ _ _ (ps_try (j := 3) sc_l_told.nd rfl rfl T.x_GlassError rfl rfl (psx_set (i := 2) sc_l_told.nd rfl (Or.inl rfl) (px_call T.look G_look (hr.mono (by decide)) (@pa_cons _ _ _ _ _ (pv 0) pa_nil (by rfl)))) (fun _ => (@pss_one _ _ _ (@ps_set _ _ 1 _ _ _ _ sc_l_told.nd rfl (Or.inl rfl) (pv 3) (by rfl) (by first | exact .inl rfl | exact .inr rfl | assumption))))) (@pss_cons _ _ _ _ _ (@ps_if _ _ _ _ _ _ _ _ (pt_cmp (pc_isN (pv 1))) (@pss_one _ _ _ (@ps_ret _ _ _ _ (@pe_ix _ _ _ _ _ _ _ ix_list (@pe_lst _ _ _ _ (@pa_cons _ _ _ _ _ (@pe_lst _ _ _ _ (@pa_cons _ _ _ _ _ pe_str pa_nil (by rfl))) (@pa_cons _ _ _ _ _ (@pe_lst _ _ _ _ (@pa_cons _ _ _ _ _ pe_str pa_nil (by rfl))) pa_nil (by rfl)) (by rfl))) (pe_callTy call_int1 (by rfl) T.b_int bt_int (@pa_cons _ _ _ _ _ (pe_cmpR op_isB (pv 2) pe_bl (nomark _)) pa_nil (by rfl))) (fun _ _ => rfl)))) pss_nil) (@pss_cons _ _ _ _ _ (@ps_if _ _ _ _ _ _ _ _ (pt_val (callD T.l_other G_l_other (hr.mono (by decide)) (@pa_cons _ _ _ _ _ (pv 1) pa_nil (by rfl)))) (@pss_one _ _ _ (@ps_ret _ _ _ _ (@pe_lst _ _ _ _ (@pa_cons _ _ _ _ _ pe_str pa_nil (by rfl))))) pss_nil) (@pss_cons _ _ _ _ _ (@ps_if _ _ _ _ _ _ _ _ (@PW.pt _ _ _ (@pw_and _ _ _ _ _ _ _ (pt_val (pe_callB call_isx (by rfl) T.b_isinstance bt_isinstance (@pa_cons _ _ _ _ _ (pv 1) (@pa_cons _ _ _ _ _ (pe_gtuple T.x_TwiceNamed.g) pa_nil (by rfl)) (by rfl)))) (@pw_and1 _ _ _ _ (pt_val (pe_callB call_isinst (by rfl) T.b_isinstance bt_isinstance (@pa_cons _ _ _ _ _ (pe_xfld (pv 1) (by rfl)) (@pa_cons _ _ _ _ _ (pe_bltn (v := V.ty "str") rfl T.b_str bt_str rfl) pa_nil (by rfl)) (by rfl))))))) (@pss_one _ _ _ (@ps_ret _ _ _ _ (@pe_lst _ _ _ _ (@pa_cons _ _ _ _ _ pe_str (@pa_cons _ _ _ _ _ (pe_xfld (pv 1) (by rfl)) pa_nil (by rfl)) (by rfl))))) pss_nil) (@pss_cons _ _ _ _ _ (@ps_if _ _ _ _ _ _ _ _ (@PW.pt _ _ _ (@pw_and _ _ _ _ _ _ _ (pt_val (pe_callB call_isx (by rfl) T.b_isinstance bt_isinstance (@pa_cons _ _ _ _ _ (pv 1) (@pa_cons _ _ _ _ _ (pe_gtuple T.x_BadNest.g) pa_nil (by rfl)) (by rfl)))) (@pw_and1 _ _ _ _ (pt_val (callD T.l_whole G_l_whole (hr.mono (by decide)) (@pa_cons _ _ _ _ _ (pe_xfld (pv 1) (by rfl)) pa_nil (by rfl))))))) (@pss_one _ _ _ (@ps_ret _ _ _ _ (@pe_lst _ _ _ _ (@pa_cons _ _ _ _ _ pe_str (@pa_cons _ _ _ _ _ (pe_xfld (pv 1) (by rfl)) (@pa_cons _ _ _ _ _ (pe_xfld (pv 1) (by rfl)) pa_nil (by rfl)) (by rfl)) (by rfl))))) pss_nil) (@pss_cons _ _ _ _ _ (@ps_if _ _ _ _ _ _ _ _ (@PW.pt _ _ _ (@pw_and _ _ _ _ _ _ _ (pt_val (pe_callB call_isx (by rfl) T.b_isinstance bt_isinstance (@pa_cons _ _ _ _ _ (pv 1) (@pa_cons _ _ _ _ _ (pe_gtuple T.x_BadCall.g) pa_nil (by rfl)) (by rfl)))) (@pw_and1 _ _ _ _ (pt_val (callD T.l_whole G_l_whole (hr.mono (by decide)) (@pa_cons _ _ _ _ _ (pe_xfld (pv 1) (by rfl)) pa_nil (by rfl))))))) (@pss_one _ _ _ (@ps_ret _ _ _ _ (@pe_lst _ _ _ _ (@pa_cons _ _ _ _ _ pe_str (@pa_cons _ _ _ _ _ (pe_xfld (pv 1) (by rfl)) (@pa_cons _ _ _ _ _ (pe_xfld (pv 1) (by rfl)) pa_nil (by rfl)) (by rfl)) (by rfl))))) pss_nil) (@pss_one _ _ _ (@ps_ret _ _ _ _ (@pe_ix _ _ _ _ _ _ _ ix_list (@pe_lst _ _ _ _ (@pa_cons _ _ _ _ _ (@pe_lst _ _ _ _ (@pa_cons _ _ _ _ _ pe_str pa_nil (by rfl))) (@pa_cons _ _ _ _ _ (@pe_lst _ _ _ _ (@pa_cons _ _ _ _ _ pe_str pa_nil (by rfl))) pa_nil (by rfl)) (by rfl))) (pe_callTy call_int1 (by rfl) T.b_int bt_int (@pa_cons _ _ _ _ _ (pe_callB call_isx (by rfl) T.b_isinstance bt_isinstance (@pa_cons _ _ _ _ _ (pv 1) (@pa_cons _ _ _ _ _ (pe_gtuple T.x_NoFunction.g) pa_nil (by rfl)) (by rfl))) pa_nil (by rfl))) (fun _ _ => rfl)))))))))))), ?_⟩
    refine ⟨_, rfl, p, xs, fs, rfl, hS, hd, hn, hok, fun hl H1 s1 => ?_, fun o ho d H1 s1 hat => ?_⟩
    · refine ⟨_, rfl, _, rfl, iteP rfl ?_⟩
      refine ⟨le1, fun l1 h1 => ⟨le1, fun l2 h2 => ⟨le2, fun l3 h3 => ⟨_, rfl, _, _, rfl, rfl, .inr ⟨_, rfl, l3, _, _, _, rfl, rfl, SqL.of upd_same, rfl, ?_⟩⟩⟩⟩⟩
      have s2 := ((s1.trans (Same.new (o := .lst [V.str "bad"]) h1)).trans (Same.new (o := .lst [V.str "good"]) h2)).trans (Same.new (o := .lst [V.ref l1, V.ref l2]) h3)
      have ne : l2 ≠ l3 := fun z => by rw [← z, upd_same] at h3; cases h3
      refine q l2 _ s2 ((s1.trans (Same.new (o := .lst [V.str "bad"]) h1)).free h2) ?_
      rw [upd_ne ne, upd_same, hl]
      rfl
    · obtain ⟨nm, hC⟩ := T.xO o
      refine ⟨clO t o, nm, rfl, hC, T.eO o, fun ea hea => ⟨_, rfl, ?_⟩⟩
      have s2 : Same H (upd H1 ea (XC ea (clO t o) d)) := s1.trans (Same.new hea)
      refine ⟨_, rfl, _, rfl, iteN (by simp) ?_⟩
      refine ⟨_, rfl, ea, d, o, rfl, upd_same, hat.mono (Same.new hea), fun H4 s3 => ⟨_, rfl, iteN Bool.false_ne_true ?_⟩⟩
      have s4 := s2.trans s3
      have hX := s3 _ _ (show upd H1 ea (XC ea (clO t o) d) ea = some (XC ea (clO t o) d) from upd_same)
      have hat4 := (hat.mono (Same.new (o := XC ea (clO t o) d) hea)).mono s3
      have hdx4 := hat4.dx
      refine ⟨_, rfl, ea, _, _, nm, _, _, _, rfl, hX, hdx4, hC, rfl, T.kT o, _, rfl, ?_⟩
      rw [ho] at q
      cases o with
      | twice w =>
        obtain ⟨dx, rfl, hdx⟩ := hat4
        refine iteP rfl ?_
        refine ⟨_, rfl, ea, _, _, dx, _, _, rfl, hX, hdx, T.x_TwiceNamed, T.n_TwiceNamed_word, rfl, _, _, _, true, rfl, .str _, rfl, _, rfl, iteP rfl ?_⟩
        refine ⟨_, rfl, ea, _, _, dx, _, _, rfl, hX, hdx, T.x_TwiceNamed, T.n_TwiceNamed_word, rfl, le2, fun l hl => ?_⟩
        exact q l _ (s4.trans (Same.new hl)) (s4.free hl) upd_same
      | nest f k =>
        obtain ⟨dx, rfl, hdx⟩ := hat4
        refine iteN Bool.false_ne_true ?_
        refine iteN Bool.false_ne_true ?_
        refine ⟨_, rfl, ea, _, _, nm, _, _, _, rfl, hX, hdx4, hC, rfl, T.kB _, _, rfl, ?_⟩
        refine iteP rfl ?_
        refine ⟨_, rfl, ea, _, _, dx, _, _, rfl, (Same.refl _) _ _ hX, (Same.refl _) _ _ hdx, T.x_BadNest, T.n_BadNest_at, rfl, k, rfl, _, rfl, iteP rfl ?_⟩
        refine ⟨_, rfl, ea, _, _, dx, _, _, rfl, (Same.refl _) _ _ hX, (Same.refl _) _ _ hdx, T.x_BadNest, T.n_BadNest_function, rfl, _, rfl, ea, _, _, dx, _, _, rfl, (Same.refl _) _ _ hX, (Same.refl _) _ _ hdx, T.x_BadNest, T.n_BadNest_at, rfl, le3, fun l hl => ?_⟩
        exact q l _ (s4.trans (Same.new hl)) (s4.free hl) upd_same
      | call f k =>
        obtain ⟨dx, rfl, hdx⟩ := hat4
        refine iteN Bool.false_ne_true ?_
        refine iteN Bool.false_ne_true ?_
        refine ⟨_, rfl, ea, _, _, nm, _, _, _, rfl, hX, hdx4, hC, rfl, T.kB _, _, rfl, ?_⟩
        refine iteN Bool.false_ne_true ?_
        refine iteN Bool.false_ne_true ?_
        refine ⟨_, rfl, ea, _, _, nm, _, _, _, rfl, hX, hdx4, hC, rfl, T.kC _, _, rfl, ?_⟩
        refine iteP rfl ?_
        refine ⟨_, rfl, ea, _, _, dx, _, _, rfl, (Same.refl _) _ _ hX, (Same.refl _) _ _ hdx, T.x_BadCall, T.n_BadCall_at, rfl, k, rfl, _, rfl, iteP rfl ?_⟩
        refine ⟨_, rfl, ea, _, _, dx, _, _, rfl, (Same.refl _) _ _ hX, (Same.refl _) _ _ hdx, T.x_BadCall, T.n_BadCall_function, rfl, _, rfl, ea, _, _, dx, _, _, rfl, (Same.refl _) _ _ hX, (Same.refl _) _ _ hdx, T.x_BadCall, T.n_BadCall_at, rfl, le3, fun l hl => ?_⟩
        exact q l _ (s4.trans (Same.new hl)) (s4.free hl) upd_same
      | non =>
        refine iteN Bool.false_ne_true ?_
        refine iteN Bool.false_ne_true ?_
        refine ⟨_, rfl, ea, _, _, nm, _, _, _, rfl, hX, hdx4, hC, rfl, T.kB _, _, rfl, ?_⟩
        refine iteN Bool.false_ne_true ?_
        refine iteN Bool.false_ne_true ?_
        refine ⟨_, rfl, ea, _, _, nm, _, _, _, rfl, hX, hdx4, hC, rfl, T.kC _, _, rfl, ?_⟩
        refine iteN Bool.false_ne_true ?_
        refine iteN Bool.false_ne_true ?_
        refine ⟨le1, fun l1 h1 => ⟨le1, fun l2 h2 => ⟨le2, fun l3 h3 => ?_⟩⟩⟩
        have s5 := ((Same.new (o := .lst [V.str "bad"]) h1).trans (Same.new (o := .lst [V.str "none"]) h2)).trans (Same.new (o := .lst [V.ref l1, V.ref l2]) h3)
        have ne : l2 ≠ l3 := fun z => by rw [← z, upd_same] at h3; cases h3
        refine ⟨_, rfl, ea, _, _, nm, _, _, _, rfl, s5 _ _ hX, fun dx e => by obtain ⟨u, z⟩ := hdx4 dx e; exact ⟨u, s5 _ _ z⟩, hC, rfl, T.kN _, .inr ⟨_, rfl, l3, _, _, _, rfl, rfl, SqL.of upd_same, rfl, ?_⟩⟩
        refine q l2 _ (s4.trans s5) ((s4.trans (Same.new (o := .lst [V.str "bad"]) h1)).free h2) ?_
        rw [upd_ne ne, upd_same]
        rfl
end
end K16

set_option Elab.async false
set_option linter.all false
set_option maxRecDepth 100000
set_option maxHeartbeats 4000000
namespace K16
open PySem L2 Gx Lk
section
variable {P : Program} {w : World} {K : PySem.W.Frag} {mg : Str → Option Value} {base : Heap} {t : Adr}
theorem sc_law : FnScope ["_law_script", "_law_functions_here", "_law_k", "_law_sort", "_law_program", "_law_due_here", "_law_handed"] ["_law_script"] (defScope s_law) := ⟨rfl, rfl, rfl, by decide +kernel, rfl, by decide +kernel, by decide +kernel⟩
theorem ok_law (T : Txt K mg t) : FnOk P w K mg base CX0 6 t.a_law t.d_law ["_law_script"] (sp_law K) := by
  have G_l_functions : FnOk P w K mg base CX0 5 t.a_l_functions t.d_l_functions ["_law_script"] (sp_l_functions K) := ok_l_functions T
  have G_l_due : FnOk P w K mg base CX0 2 t.a_l_due t.d_l_due ["_law_functions_here"] (sp_l_due K) := ok_l_due T
  have G_l_spoilt : FnOk P w K mg base CX0 2 t.a_l_spoilt t.d_l_spoilt ["_law_functions_here", "_law_sort", "_law_cell_here"] (sp_l_spoilt K) := ok_l_spoilt T
  have G_look : FnOk P w K mg base (CXe P w) 4 t.a_look t.d_look ["program"] (sp_look K t) := ok_look T
  have G_l_told : FnOk P w K mg base CX0 5 t.a_l_told t.d_l_told ["_law_program"] (sp_l_told K t) := ok_l_told T
  have G_l_cell : FnOk P w K mg base CX0 1 t.a_l_cell t.d_l_cell ["_law_script", "_law_k"] (sp_l_cell K) := ok_l_cell T
  have G_l_part : FnOk P w K mg base CX0 1 t.a_l_part t.d_l_part ["_law_cell_here", "_law_j", "_law_many"] (sp_l_part K) := ok_l_part T
  refine T.law.F.ok sc_law (fun vs H Q E h => ?_) (fun cdv A outer s H vs Q E hr h => ?_)
  · obtain ⟨a, ns, rfl, hA, hnl, q⟩ := h
    rfl
  · obtain ⟨a, ns, rfl, hA, hnl, q⟩ := h
    refine ⟨_, (@pss_cons _ _ _ _ _ (@ps_set _ _ 1 _ _ _ _ sc_law.nd rfl (Or.inl rfl) (callD T.l_functions G_l_functions (hr.mono (by decide)) (@pa_cons _ _ _ _ _ (pv 0) pa_nil (by rfl))) (by rfl) (by first | exact .inl rfl | exact .inr rfl | assumption)) (@pss_cons _ _ _ _ _ (ps_for PassesOwn.never rfl (pi_range1 rfl T.b_range (@pa_cons _ _ _ _ _ (@pe_op _ _ _ _ _ _ _ _ op_mod (callD T.l_cell G_l_cell (hr.mono (by decide)) (@pa_cons _ _ _ _ _ (pv 0) (@pa_cons _ _ _ _ _ pe_int pa_nil (by rfl)) (by rfl))) pe_int) pa_nil (by rfl))) (pg_name (i := 2) sc_law.nd rfl (Or.inl rfl)) (@pss_cons _ _ _ _ _ (@ps_set _ _ 3 _ _ _ _ sc_law.nd rfl (Or.inl rfl) (@pe_op _ _ _ _ _ _ _ _ op_add pe_int (callD T.l_part G_l_part (hr.mono (by decide)) (@pa_cons _ _ _ _ _ (callD T.l_cell G_l_cell (hr.mono (by decide)) (@pa_cons _ _ _ _ _ (pv 0) (@pa_cons _ _ _ _ _ (@pe_op _ _ _ _ _ _ _ _ op_add pe_int (@pe_op _ _ _ _ _ _ _ _ op_mul pe_int (pv 2))) pa_nil (by rfl)) (by rfl))) (@pa_cons _ _ _ _ _ pe_int (@pa_cons _ _ _ _ _ pe_int pa_nil (by rfl)) (by rfl)) (by rfl)))) (by rfl) (by first | exact .inl rfl | exact .inr rfl | assumption)) (@pss_one _ _ _ (@ps_set _ _ 1 _ _ _ _ sc_law.nd rfl (Or.inl rfl) (callD T.l_spoilt G_l_spoilt (hr.mono (by decide)) (@pa_cons _ _ _ _ _ (pv 1) (@pa_cons _ _ _ _ _ (pv 3) (@pa_cons _ _ _ _ _ (callD T.l_cell G_l_cell (hr.mono (by decide)) (@pa_cons _ _ _ _ _ (pv 0) (@pa_cons _ _ _ _ _ (@pe_op _ _ _ _ _ _ _ _ op_add pe_int (@pe_op _ _ _ _ _ _ _ _ op_mul pe_int (pv 2))) pa_nil (by rfl)) (by rfl))) pa_nil (by rfl)) (by rfl)) (by rfl))) (by rfl) (by first | exact .inl rfl | exact .inr rfl | assumption))))) (@pss_cons _ _ _ _ _ (ps_setc (i := 4) sc_law.nd rfl (Or.inl rfl) (N' := ["_law_one"]) (js := [none]) (by kernel_rfl) rfl (pi_list (pv 1)) own_name (fun _ _ _ _ => (pg_name (i := 0) (show (["_law_one"] : List Str).Nodup by decide +kernel) rfl (Or.inl rfl) (.inr rfl))) (fun _ _ _ _ => pif_nil) (fun _ _ _ _ => (@pe_tup _ _ _ _ _ (@pa_cons _ _ _ _ _ (@pe_ix _ _ _ _ _ _ _ (show IxR _ (rIxL K) from ix_list) (pv 0) pe_int (fun _ _ => rfl)) (@pa_cons _ _ _ _ _ (@pe_ix _ _ _ _ _ _ _ (show IxR _ (rIxL K) from ix_list) (pv 0) pe_int (fun _ _ => rfl)) (@pa_cons _ _ _ _ _ (pe_callTy (show CallR _ (.type "tuple") (rTupK K) from call_tuple_of) (by rfl) T.b_tuple bt_tuple (@pa_cons _ _ _ _ _ (@pe_ix _ _ _ _ _ _ _ (show IxR _ (rIxL K) from ix_list) (pv 0) pe_int (fun _ _ => rfl)) pa_nil (by rfl))) (@pa_cons _ _ _ _ _ (pe_callTy (show CallR _ (.type "tuple") (rTupK K) from call_tuple_of) (by rfl) T.b_tuple bt_tuple (@pa_cons _ _ _ _ _ (@pe_ix _ _ _ _ _ _ _ (show IxR _ (rIxL K) from ix_list) (pv 0) pe_int (fun _ _ => rfl)) pa_nil (by rfl))) pa_nil (by rfl)) (by rfl)) (by rfl)) (by rfl)))) (by rfl)) (@pss_cons _ _ _ _ _ (@ps_set _ _ 5 _ _ _ _ sc_law.nd rfl (Or.inl rfl) (callD T.l_due G_l_due (hr.mono (by decide)) (@pa_cons _ _ _ _ _ (pv 1) pa_nil (by rfl))) (by rfl) (by first | exact .inl rfl | exact .inr rfl | assumption)) (@pss_cons _ _ _ _ _ (@ps_set _ _ 6 _ _ _ _ sc_law.nd rfl (Or.inl rfl) (pe_callTy call_list_of (by rfl) T.b_list bt_list (@pa_cons _ _ _ _ _ (pv 4) pa_nil (by rfl))) (by rfl) (by first | exact .inl rfl | exact .inr rfl | assumption)) (@pss_cons _ _ _ _ _ (@ps_if _ _ _ _ _ _ _ _ (@PW.pt _ _ _ (pw_or (@pt_cmpR _ _ _ _ _ _ _ _ (op_neD hr.units) (callD T.l_told G_l_told (hr.mono (by decide)) (@pa_cons _ _ _ _ _ (pv 6) pa_nil (by rfl))) (pv 5) (nomark _)) (pw_or1 (@pt_cmpR _ _ _ _ _ _ _ _ (op_neD hr.units) (pv 6) (pv 4) (nomark _))))) (@pss_one _ _ _ (@ps_ret _ _ _ _ pe_bl)) pss_nil) (@pss_cons _ _ _ _ _ (@ps_if _ _ _ _ _ _ _ _ (@pt_cmpR _ _ _ _ _ _ _ _ op_isNB (callX T.look G_look (hr.mono (by decide)) pass_no (@pa_cons _ _ _ _ _ (@pe_lst _ _ _ _ (@pa_cons _ _ _ _ _ (@pe_tup _ _ _ _ _ (@pa_cons _ _ _ _ _ pe_str (@pa_cons _ _ _ _ _ pe_bl (@pa_cons _ _ _ _ _ (@pe_tup _ _ _ _ _ pa_nil) (@pa_cons _ _ _ _ _ (@pe_tup _ _ _ _ _ (@pa_cons _ _ _ _ _ (@pe_tup _ _ _ _ _ (@pa_cons _ _ _ _ _ pe_str (@pa_cons _ _ _ _ _ pe_int pa_nil (by rfl)) (by rfl))) pa_nil (by rfl))) pa_nil (by rfl)) (by rfl)) (by rfl)) (by rfl))) pa_nil (by rfl))) pa_nil (by rfl))) pe_bl (nomark _)) (@pss_one _ _ _ (@ps_ret _ _ _ _ pe_bl)) pss_nil) (@pss_one _ _ _ (@ps_ret _ _ _ _ (pe_cmpR (op_eqD hr.units) (callD T.l_told G_l_told (hr.mono (by decide)) (@pa_cons _ _ _ _ _ (pv 4) pa_nil (by rfl))) (pv 5) (nomark _))))))))))), ?_⟩
    have dd : ∀ (o : Option Out) (H' : Hp), DatAll K H' (dueD o) (dueV o) := by
      intro o H'
      cases o with
      | none => exact dat_strs ["good"]
      | some x =>
        cases x with
        | non => exact dat_strs ["none"]
        | twice w => exact dat_strs ["twice", w]
        | nest f k => simp [dueD, dueV, DatAll, DatV]
        | call f k => simp [dueD, dueV, DatAll, DatV]
    refine ⟨_, rfl, a, ns, rfl, hA, hnl, fun L0 fos0 H1 F0 => ?_⟩
    refine ⟨_, rfl, a, ns, 2, rfl, F0.s.seq hA, hnl, by decide, by decide, fun z => ?_⟩
    refine ⟨_, _, rfl, rfl, (show (0 : Int) < 3 by decide), ?_⟩
    have z0 : 0 ≤ z % 3 := Int.emod_nonneg _ (by decide)
    have z3 : z % 3 < 3 := Int.emod_lt_of_pos _ (by decide)
    refine ⟨_, rfl, by omega, by omega, for_range (lo := 0) (n := (z % 3).toNat) (fun i σ H2 => ∃ (L : Addr) (fos : List Fo) (v2 v3 : Option V), σ = [some (.ref a), some (.ref L), v2, v3, none, none, none] ∧ FsAt K H H2 (20 + i) L fos) ⟨L0, fos0, none, none, rfl, F0⟩ ?_ ?_⟩
    · rintro i σ H2 hi ⟨L, fos, v2, v3, rfl, F⟩
      refine ⟨_, rfl, _, rfl, _, _, rfl, rfl, .inl ⟨by decide, by decide⟩, _, _, rfl, rfl, a, ns, _, rfl, F.s.seq hA, hnl, by omega, by omega, fun c => ?_⟩
      refine ⟨c, 5, 12, rfl, by decide, by decide, fun y H3 y0 y1 s3 => ?_⟩
      refine ⟨_, _, rfl, rfl, ?_⟩
      replace F := F.mono s3
      refine ⟨_, rfl, _, rfl, _, rfl, _, rfl, _, _, rfl, rfl, .inl ⟨by decide, by decide⟩, _, _, rfl, rfl, a, ns, _, rfl, F.s.seq hA, hnl, by omega, by omega, fun c2 => ?_⟩
      exact ⟨H, 20 + i, L, fos, _, c2, rfl, F, by omega, by omega, by omega, fun L' fos' H' F' => ⟨L', fos', _, _, rfl, F'⟩⟩
    rintro σ H2 ⟨L, fos, v2, v3, rfl, F⟩
    have F := F.more (m := 100) (by omega)
    have hfl := F.len
    refine ⟨_, rfl, L, rfl, ⟨_, SqL.of F.eL⟩, fun p hp => comp_relL (K := K) (xs := fos.map fun x => V.ref x.e) (fun i H' v => ∃ f, (fos.map (·.f))[i]? = some f ∧ DatV K H' f.D v) (fun i v H' H'' s h => let ⟨f, h1, h2⟩ := h; ⟨f, h1, L2.DatV.mono s _ _ h2⟩) (by rw [List.length_map]; omega) (SqL.of F.eL) hp ?_ ?_⟩
    · rintro i v H3 R' hv s3 ⟨acc, hacc⟩ r3
      obtain ⟨x, hk, rfl⟩ : ∃ x, fos[i]? = some x ∧ V.ref x.e = v := by
        rw [List.getElem?_map] at hv
        obtain ⟨x, h1, h2⟩ := Option.map_eq_some_iff.mp hv
        exact ⟨x, h1, h2⟩
      have G := F.mono s3
      obtain ⟨f1, f2, f3, f4⟩ := (G.mem hk).1
      refine ⟨_, rfl, x.e, _, _, _, rfl, rfl, SqL.of f1, at0, _, rfl, x.e, _, _, _, rfl, rfl, SqL.of f1, atN (i := 1) rfl, _, rfl, x.e, _, _, _, rfl, rfl, SqL.of f1, atN (i := 2) rfl, x.pa, _, rfl, .inl ⟨SqL.of f2, fun pt hpt => ?_⟩⟩
      have sA := Same.new (o := .tup (x.f.ps.map V.str)) hpt
      refine ⟨_, rfl, x.e, _, _, _, rfl, rfl, SqL.of (sA _ _ f1), atN (i := 3) rfl, x.ra, _, rfl, .inl ⟨SqL.of (sA _ _ f3), fun rt hrt => ⟨le4, fun tp htp => ?_⟩⟩⟩
      have sB := Same.new (o := .tup x.rvs) hrt
      have sC := Same.new (o := .tup [.str x.f.name, .bl x.f.folded, .ref pt, .ref rt]) htp
      have sN := (sA.trans sB).trans sC
      refine r3 _ _ sN ⟨x.f, by rw [List.getElem?_map, hk]; rfl, ?_⟩
      have nep : ∀ b, H3 b = none → b ≠ p := fun b hb w => by rw [w, hacc] at hb; cases hb
      refine fn_dat (pa := pt) (ra := rt) (rvs := x.rvs) (SqT.of ?_) (SqT.of ?_) (SqT.of ?_) ?_
      · rw [ers_ne (nep _ ((sA.trans sB).free htp))]; exact upd_same
      · rw [ers_ne (nep _ hpt)]; exact (sB.trans sC) _ _ upd_same
      · rw [ers_ne (nep _ (sA.free hrt))]; exact sC _ _ upd_same
      · exact L2.DatAll.mono (same_ers (s3.trans sN) hp) _ _ (F.mem hk).1.2.2.2
    intro H3 vs s3 e3 lv tv
    have s23 := s3
    replace F := F.mono s3
    rw [List.length_map] at lv
    have dv : DatAll K H3 ((fos.map (·.f)).map Fn.D) vs := da_of (by rw [lv, List.length_map]) fun i v hv => by
      obtain ⟨f, h1, h2⟩ := tv i v hv
      exact ⟨f, h1, L2.DatV.mono ers_same _ _ h2⟩
    have hbd : ∀ f ∈ fos.map (·.f), f.ps.length ≤ 100 ∧ f.rows.length ≤ 1000 ∧ ∀ r ∈ f.rows, r.Ok := fun f hf => by
      obtain ⟨x, hx, rfl⟩ := List.mem_map.mp hf
      obtain ⟨_, o1, o2, o3⟩ := F.at_ x hx
      exact ⟨by omega, by omega, fun r hr => (o1.2.2 r hr).1⟩
    have hfok : ∀ f ∈ fos.map (·.f), FnOk' f := fun f hf => by
      obtain ⟨x, hx, rfl⟩ := List.mem_map.mp hf
      exact (F.at_ x hx).2.1
    have hlen : (fos.map (·.f)).length ≤ 100 := by rw [List.length_map]; omega
    have lay := due_lay (o := lookM (fos.map (·.f))) fun x hx => lookM_ok hfok hx
    have layP : Lay 6 (.list ((fos.map (·.f)).map Fn.D)) := Lay.list fun d hd => by
      obtain ⟨f, hf, rfl⟩ := List.mem_map.mp hd
      exact fn_lay (hfok f hf)
    refine ⟨_, rfl, L, fos, rfl, F.eL, fun x hx => ⟨(F.at_ x hx).1, hbd x.f (List.mem_map.mpr ⟨x, hx, rfl⟩)⟩, by omega, fun d5 H4 s4 _ e5 => ?_⟩
    have lD : ∀ (l : Addr) (H' : Hp), H' l = some (.lst (dueV (lookM (fos.map (·.f))))) → DatV K H' (.list (dueD (lookM (fos.map (·.f))))) (.ref l) := fun l H' h => by
      unfold DatV
      exact ⟨l, _, rfl, SqL.of h, dd _ _⟩
    have lP : ∀ (l : Addr) (H' : Hp), Same H3 H' → H' l = some (.lst vs) → DatV K H' (.list ((fos.map (·.f)).map Fn.D)) (.ref l) := fun l H' s h => by
      unfold DatV
      exact ⟨l, _, rfl, SqL.of h, L2.DatAll.mono s _ _ dv⟩
    refine ⟨_, rfl, p, vs, rfl, .inl (SqL.of (s4 _ _ e3)), fun l6 h6 => ?_⟩
    have s5 := s4.trans (Same.new (o := .lst vs) h6)
    have e5 := Same.new (o := .lst vs) h6 _ _ e5
    have e6 := upd_same (H := H4) (a := l6) (o := .lst vs)
    generalize upd H4 l6 (.lst vs) = H5 at s5 e5 e6 ⊢
    refine ⟨_, rfl, l6, vs, _, rfl, SqL.of e6, L2.DatAll.mono s5 _ _ dv, hlen, hbd, fun l7 H6 s6 _ e7 => ?_⟩
    refine ⟨_, rfl, rNeD_same (by decide) lay (lD _ _ e7) (lD _ _ (s6 _ _ e5)) ⟨_, rfl, iteN Bool.false_ne_true ?_⟩⟩
    refine ⟨_, rfl, _, rfl, rNeD_same (by decide) layP (lP _ _ (s5.trans s6) (s6 _ _ e6)) (lP _ _ (s5.trans s6) ((s5.trans s6) _ _ e3)) ⟨_, rfl, iteN Bool.false_ne_true ?_⟩⟩
    refine ⟨le0, fun a0 h0 => ⟨le2, fun a1 h1 => ⟨le1, fun a2 h2 => ⟨le4, fun a3 h3 => ⟨le1, fun l9 h9 => ?_⟩⟩⟩⟩⟩
    have t0 := upd_same (H := H6) (a := a0) (o := .tup [])
    have t1 := upd_same (H := upd H6 a0 (.tup [])) (a := a1) (o := .tup [.str "back", .int 0])
    have t2 := upd_same (H := upd (upd H6 a0 (.tup [])) a1 (.tup [.str "back", .int 0])) (a := a2) (o := .tup [.ref a1])
    have t3 := upd_same (H := upd (upd (upd H6 a0 (.tup [])) a1 (.tup [.str "back", .int 0])) a2 (.tup [.ref a1])) (a := a3) (o := .tup [.str "fns", .bl true, .ref a0, .ref a2])
    have t9 := upd_same (H := upd (upd (upd (upd H6 a0 (.tup [])) a1 (.tup [.str "back", .int 0])) a2 (.tup [.ref a1])) a3 (.tup [.str "fns", .bl true, .ref a0, .ref a2])) (a := l9) (o := .lst [.ref a3])
    have u0 := Same.new (o := .tup []) h0
    have u1 := Same.new (o := .tup [.str "back", .int 0]) h1
    have u2 := Same.new (o := .tup [.ref a1]) h2
    have u3 := Same.new (o := .tup [.str "fns", .bl true, .ref a0, .ref a2]) h3
    have u9 := Same.new (o := .lst [.ref a3]) h9
    have t0 := u9 _ _ (u3 _ _ (u2 _ _ (u1 _ _ t0)))
    have t1 := u9 _ _ (u3 _ _ (u2 _ _ t1))
    have t2 := u9 _ _ (u3 _ _ t2)
    have t3 := u9 _ _ t3
    have s69 := (((u0.trans u1).trans u2).trans u3).trans u9
    clear u0 u1 u2 u3 u9 h0 h1 h2 h3 h9
    generalize upd (upd (upd (upd (upd H6 a0 (.tup [])) a1 (.tup [.str "back", .int 0])) a2 (.tup [.ref a1])) a3 (.tup [.str "fns", .bl true, .ref a0, .ref a2])) l9 (.lst [.ref a3]) = H9 at t0 t1 t2 t3 t9 s69 ⊢
    have dG : DatAll K H9 (goodP.map Fn.D) [.ref a3] := by
      show DatAll K H9 [Fn.D ⟨"fns", true, [], [⟨"back", [.int 0]⟩]⟩] [.ref a3]
      unfold DatAll
      refine ⟨_, _, rfl, fn_dat (f := ⟨"fns", true, [], [⟨"back", [.int 0]⟩]⟩) (rvs := [.ref a1]) (SqT.of t3) (SqT.of t0) (SqT.of t2) ?_, by unfold DatAll; rfl⟩
      show DatAll K H9 [Rw.D ⟨"back", [.int 0]⟩] [.ref a1]
      unfold DatAll
      refine ⟨_, _, rfl, rw_dat (SqT.of t1) ?_, by unfold DatAll; rfl⟩
      unfold DatAll
      exact ⟨_, _, rfl, by unfold DatV; rfl, by unfold DatAll; rfl⟩
    refine ⟨l9, _, goodP, rfl, SqL.of t9, dG, by decide, fun f hf => ?_, fun _ H10 s10 => ?_, fun o ho => by rw [look_good] at ho; cases ho⟩
    · rw [List.mem_singleton.mp hf]
      refine ⟨by decide, by decide, fun r hr => ?_⟩
      rw [List.mem_singleton.mp hr]
      intro w
      exact absurd w (by decide +kernel)
    refine ⟨true, true, rfl, rfl, _, rfl, iteN (by decide) ?_⟩
    have s3A := ((s5.trans s6).trans s69).trans s10
    refine ⟨_, rfl, p, vs, _, rfl, SqL.of (s3A _ _ e3), L2.DatAll.mono s3A _ _ dv, hlen, hbd, fun lB HB sB _ eB => ?_⟩
    exact ⟨_, rfl, rEqD_same (by decide) lay (lD _ _ eB) (lD _ _ (((s6.trans s69).trans (s10.trans sB)) _ _ e5)) (q _)⟩
end
end K16

set_option Elab.async false
set_option linter.all false
set_option maxRecDepth 100000
set_option maxHeartbeats 4000000
namespace K16
open PySem L2
set_option maxHeartbeats 4000000 in
theorem txt_mk {K : PySem.W.Frag} {h : Heap} {mg : Str → Option Value} (X : K.In h) (G : h.Ns mainGlobals mg)
    {X_GlassError NN_GlassError : Addr} {nm_GlassError qq_GlassError : Str} {bs_GlassError bm_GlassError : List Value} {sn_GlassError : List Str} {sub_GlassError : List Value} {ab_GlassError : Bool} {col_GlassError : Option Bool} {dd_GlassError : Option Addr} {k0_GlassError k1_GlassError k2_GlassError k3_GlassError k5_GlassError : Option Value}
    (xa_GlassError : PySem.W.nsIn K mainGlobals "GlassError" = some (some (.ref X_GlassError))) (xl_GlassError : K.lookup X_GlassError = some (excClassObj nm_GlassError qq_GlassError X_GlassError NN_GlassError bs_GlassError bm_GlassError true sn_GlassError sub_GlassError ab_GlassError col_GlassError dd_GlassError k0_GlassError k1_GlassError k2_GlassError k3_GlassError k5_GlassError "ValueError.__new__")) (xv_GlassError : Ex.veTail bm_GlassError = true) (xk_GlassError : PySem.W.keepIn K (.ref X_GlassError) = true) (xs_GlassError : PySem.W.findIn K (.ref X_GlassError) "__setattr__" = some (some (.builtin "object.__setattr__"))) (xg_GlassError : PySem.W.findIn K (.ref X_GlassError) "__getattribute__" = some (some (.builtin "BaseException.__getattribute__"))) (xt_GlassError : PySem.W.findIn K (.ref X_GlassError) "__getattr__" = some none) (xc_GlassError : PySem.W.findIn K (.ref X_GlassError) "__class__" = some (some (.builtin "object.__class__")))
    {X_NoFunction NN_NoFunction : Addr} {nm_NoFunction qq_NoFunction : Str} {bs_NoFunction bm_NoFunction : List Value} {sn_NoFunction : List Str} {sub_NoFunction : List Value} {ab_NoFunction : Bool} {col_NoFunction : Option Bool} {dd_NoFunction : Option Addr} {k0_NoFunction k1_NoFunction k2_NoFunction k3_NoFunction k5_NoFunction : Option Value}
    (xa_NoFunction : PySem.W.nsIn K mainGlobals "NoFunction" = some (some (.ref X_NoFunction))) (xl_NoFunction : K.lookup X_NoFunction = some (excClassObj nm_NoFunction qq_NoFunction X_NoFunction NN_NoFunction bs_NoFunction bm_NoFunction true sn_NoFunction sub_NoFunction ab_NoFunction col_NoFunction dd_NoFunction k0_NoFunction k1_NoFunction k2_NoFunction k3_NoFunction k5_NoFunction "ValueError.__new__")) (xv_NoFunction : Ex.veTail bm_NoFunction = true) (xk_NoFunction : PySem.W.keepIn K (.ref X_NoFunction) = true) (xs_NoFunction : PySem.W.findIn K (.ref X_NoFunction) "__setattr__" = some (some (.builtin "object.__setattr__"))) (xg_NoFunction : PySem.W.findIn K (.ref X_NoFunction) "__getattribute__" = some (some (.builtin "BaseException.__getattribute__"))) (xt_NoFunction : PySem.W.findIn K (.ref X_NoFunction) "__getattr__" = some none) (xc_NoFunction : PySem.W.findIn K (.ref X_NoFunction) "__class__" = some (some (.builtin "object.__class__")))
    {X_TwiceNamed NN_TwiceNamed : Addr} {nm_TwiceNamed qq_TwiceNamed : Str} {bs_TwiceNamed bm_TwiceNamed : List Value} {sn_TwiceNamed : List Str} {sub_TwiceNamed : List Value} {ab_TwiceNamed : Bool} {col_TwiceNamed : Option Bool} {dd_TwiceNamed : Option Addr} {k0_TwiceNamed k1_TwiceNamed k2_TwiceNamed k3_TwiceNamed k5_TwiceNamed : Option Value}
    (xa_TwiceNamed : PySem.W.nsIn K mainGlobals "TwiceNamed" = some (some (.ref X_TwiceNamed))) (xl_TwiceNamed : K.lookup X_TwiceNamed = some (excClassObj nm_TwiceNamed qq_TwiceNamed X_TwiceNamed NN_TwiceNamed bs_TwiceNamed bm_TwiceNamed true sn_TwiceNamed sub_TwiceNamed ab_TwiceNamed col_TwiceNamed dd_TwiceNamed k0_TwiceNamed k1_TwiceNamed k2_TwiceNamed k3_TwiceNamed k5_TwiceNamed "ValueError.__new__")) (xv_TwiceNamed : Ex.veTail bm_TwiceNamed = true) (xk_TwiceNamed : PySem.W.keepIn K (.ref X_TwiceNamed) = true) (xs_TwiceNamed : PySem.W.findIn K (.ref X_TwiceNamed) "__setattr__" = some (some (.builtin "object.__setattr__"))) (xg_TwiceNamed : PySem.W.findIn K (.ref X_TwiceNamed) "__getattribute__" = some (some (.builtin "BaseException.__getattribute__"))) (xt_TwiceNamed : PySem.W.findIn K (.ref X_TwiceNamed) "__getattr__" = some none) (xc_TwiceNamed : PySem.W.findIn K (.ref X_TwiceNamed) "__class__" = some (some (.builtin "object.__class__")))
    {X_BadNest NN_BadNest : Addr} {nm_BadNest qq_BadNest : Str} {bs_BadNest bm_BadNest : List Value} {sn_BadNest : List Str} {sub_BadNest : List Value} {ab_BadNest : Bool} {col_BadNest : Option Bool} {dd_BadNest : Option Addr} {k0_BadNest k1_BadNest k2_BadNest k3_BadNest k5_BadNest : Option Value}
    (xa_BadNest : PySem.W.nsIn K mainGlobals "BadNest" = some (some (.ref X_BadNest))) (xl_BadNest : K.lookup X_BadNest = some (excClassObj nm_BadNest qq_BadNest X_BadNest NN_BadNest bs_BadNest bm_BadNest true sn_BadNest sub_BadNest ab_BadNest col_BadNest dd_BadNest k0_BadNest k1_BadNest k2_BadNest k3_BadNest k5_BadNest "ValueError.__new__")) (xv_BadNest : Ex.veTail bm_BadNest = true) (xk_BadNest : PySem.W.keepIn K (.ref X_BadNest) = true) (xs_BadNest : PySem.W.findIn K (.ref X_BadNest) "__setattr__" = some (some (.builtin "object.__setattr__"))) (xg_BadNest : PySem.W.findIn K (.ref X_BadNest) "__getattribute__" = some (some (.builtin "BaseException.__getattribute__"))) (xt_BadNest : PySem.W.findIn K (.ref X_BadNest) "__getattr__" = some none) (xc_BadNest : PySem.W.findIn K (.ref X_BadNest) "__class__" = some (some (.builtin "object.__class__")))
    {X_BadCall NN_BadCall : Addr} {nm_BadCall qq_BadCall : Str} {bs_BadCall bm_BadCall : List Value} {sn_BadCall : List Str} {sub_BadCall : List Value} {ab_BadCall : Bool} {col_BadCall : Option Bool} {dd_BadCall : Option Addr} {k0_BadCall k1_BadCall k2_BadCall k3_BadCall k5_BadCall : Option Value}
    (xa_BadCall : PySem.W.nsIn K mainGlobals "BadCall" = some (some (.ref X_BadCall))) (xl_BadCall : K.lookup X_BadCall = some (excClassObj nm_BadCall qq_BadCall X_BadCall NN_BadCall bs_BadCall bm_BadCall true sn_BadCall sub_BadCall ab_BadCall col_BadCall dd_BadCall k0_BadCall k1_BadCall k2_BadCall k3_BadCall k5_BadCall "ValueError.__new__")) (xv_BadCall : Ex.veTail bm_BadCall = true) (xk_BadCall : PySem.W.keepIn K (.ref X_BadCall) = true) (xs_BadCall : PySem.W.findIn K (.ref X_BadCall) "__setattr__" = some (some (.builtin "object.__setattr__"))) (xg_BadCall : PySem.W.findIn K (.ref X_BadCall) "__getattribute__" = some (some (.builtin "BaseException.__getattribute__"))) (xt_BadCall : PySem.W.findIn K (.ref X_BadCall) "__getattr__" = some none) (xc_BadCall : PySem.W.findIn K (.ref X_BadCall) "__class__" = some (some (.builtin "object.__class__")))
    (sg0 : PySem.W.specialIn K (.builtin "object.__class__") "__get__" = some (some (.builtin "getset_descriptor.__get__"))) (tk0 : PySem.W.takesIn K (.builtin "object.__class__") = some true)
    {X_BadRow : Addr} (xa_BadRow : PySem.W.nsIn K mainGlobals "BadRow" = some (some (.ref X_BadRow)))
    {X_NoName : Addr} (xa_NoName : PySem.W.nsIn K mainGlobals "NoName" = some (some (.ref X_NoName)))
    {X_Ended : Addr} (xa_Ended : PySem.W.nsIn K mainGlobals "Ended" = some (some (.ref X_Ended)))
    {X_TooLong : Addr} (xa_TooLong : PySem.W.nsIn K mainGlobals "TooLong" = some (some (.ref X_TooLong)))
    {X_Gone : Addr} (xa_Gone : PySem.W.nsIn K mainGlobals "Gone" = some (some (.ref X_Gone)))
    {X_NotBox : Addr} (xa_NotBox : PySem.W.nsIn K mainGlobals "NotBox" = some (some (.ref X_NotBox)))
    {X_Shared : Addr} (xa_Shared : PySem.W.nsIn K mainGlobals "Shared" = some (some (.ref X_Shared)))
    {X_BadBits : Addr} (xa_BadBits : PySem.W.nsIn K mainGlobals "BadBits" = some (some (.ref X_BadBits)))
    {X_Untrue : Addr} (xa_Untrue : PySem.W.nsIn K mainGlobals "Untrue" = some (some (.ref X_Untrue)))
    (i0_NoFunction : PySem.W.findIn K (.ref X_NoFunction) "__init__" = some (some (.builtin "ValueError.__init__")))
    (e_NoFunction : PySem.W.mroIn K X_NoFunction (.ref X_GlassError) = some true)
    (kk_NoFunction_NoFunction : PySem.W.kitOne K (.ref X_NoFunction) (.ref X_NoFunction) = some true)
    (kk_NoFunction_TwiceNamed : PySem.W.kitOne K (.ref X_NoFunction) (.ref X_TwiceNamed) = some false)
    (kk_NoFunction_BadNest : PySem.W.kitOne K (.ref X_NoFunction) (.ref X_BadNest) = some false)
    (kk_NoFunction_BadCall : PySem.W.kitOne K (.ref X_NoFunction) (.ref X_BadCall) = some false)
    (kv_NoFunction : PySem.W.kitOne K (.ref X_NoFunction) (.type "ValueError") = some true)
    (ky_NoFunction : PySem.W.kitAny K (.ref X_NoFunction) [.ref X_BadRow, .ref X_NoName, .ref X_Ended, .ref X_TooLong, .ref X_Gone, .ref X_NotBox, .ref X_Shared, .ref X_BadBits, .ref X_Untrue] = some false)
    (na_TwiceNamed_word : PySem.W.findIn K (.ref X_TwiceNamed) "word" = some none)
    (e_TwiceNamed : PySem.W.mroIn K X_TwiceNamed (.ref X_GlassError) = some true)
    (kk_TwiceNamed_NoFunction : PySem.W.kitOne K (.ref X_TwiceNamed) (.ref X_NoFunction) = some false)
    (kk_TwiceNamed_TwiceNamed : PySem.W.kitOne K (.ref X_TwiceNamed) (.ref X_TwiceNamed) = some true)
    (kk_TwiceNamed_BadNest : PySem.W.kitOne K (.ref X_TwiceNamed) (.ref X_BadNest) = some false)
    (kk_TwiceNamed_BadCall : PySem.W.kitOne K (.ref X_TwiceNamed) (.ref X_BadCall) = some false)
    (kv_TwiceNamed : PySem.W.kitOne K (.ref X_TwiceNamed) (.type "ValueError") = some true)
    (ky_TwiceNamed : PySem.W.kitAny K (.ref X_TwiceNamed) [.ref X_BadRow, .ref X_NoName, .ref X_Ended, .ref X_TooLong, .ref X_Gone, .ref X_NotBox, .ref X_Shared, .ref X_BadBits, .ref X_Untrue] = some false)
    (na_BadNest_function : PySem.W.findIn K (.ref X_BadNest) "function" = some none)
    (na_BadNest_at : PySem.W.findIn K (.ref X_BadNest) "at" = some none)
    (e_BadNest : PySem.W.mroIn K X_BadNest (.ref X_GlassError) = some true)
    (kk_BadNest_NoFunction : PySem.W.kitOne K (.ref X_BadNest) (.ref X_NoFunction) = some false)
    (kk_BadNest_TwiceNamed : PySem.W.kitOne K (.ref X_BadNest) (.ref X_TwiceNamed) = some false)
    (kk_BadNest_BadNest : PySem.W.kitOne K (.ref X_BadNest) (.ref X_BadNest) = some true)
    (kk_BadNest_BadCall : PySem.W.kitOne K (.ref X_BadNest) (.ref X_BadCall) = some false)
    (kv_BadNest : PySem.W.kitOne K (.ref X_BadNest) (.type "ValueError") = some true)
    (ky_BadNest : PySem.W.kitAny K (.ref X_BadNest) [.ref X_BadRow, .ref X_NoName, .ref X_Ended, .ref X_TooLong, .ref X_Gone, .ref X_NotBox, .ref X_Shared, .ref X_BadBits, .ref X_Untrue] = some false)
    (na_BadCall_function : PySem.W.findIn K (.ref X_BadCall) "function" = some none)
    (na_BadCall_at : PySem.W.findIn K (.ref X_BadCall) "at" = some none)
    (e_BadCall : PySem.W.mroIn K X_BadCall (.ref X_GlassError) = some true)
    (kk_BadCall_NoFunction : PySem.W.kitOne K (.ref X_BadCall) (.ref X_NoFunction) = some false)
    (kk_BadCall_TwiceNamed : PySem.W.kitOne K (.ref X_BadCall) (.ref X_TwiceNamed) = some false)
    (kk_BadCall_BadNest : PySem.W.kitOne K (.ref X_BadCall) (.ref X_BadNest) = some false)
    (kk_BadCall_BadCall : PySem.W.kitOne K (.ref X_BadCall) (.ref X_BadCall) = some true)
    (kv_BadCall : PySem.W.kitOne K (.ref X_BadCall) (.type "ValueError") = some true)
    (ky_BadCall : PySem.W.kitAny K (.ref X_BadCall) [.ref X_BadRow, .ref X_NoName, .ref X_Ended, .ref X_TooLong, .ref X_Gone, .ref X_NotBox, .ref X_Shared, .ref X_BadBits, .ref X_Untrue] = some false)
    {f0 : Addr} {oc0 kV0 dc0 pm0 cd0 ct0 : Value} {od0 an0 : Option Addr} {sl0 : Array (Option Value)} (a0 : PySem.W.findIn K (.ref X_TwiceNamed) "__init__" = some (some (.ref f0))) (i0 : PySem.W.isFn K (.ref f0) = true) (l0 : K.lookup f0 = some ⟨oc0, od0, .func (PySem.W.fnOf "__init__" "TwiceNamed.__init__" (defArgs s_TwiceNamed_init) (defBody s_TwiceNamed_init) (defScope s_TwiceNamed_init) .none kV0 dc0 pm0 an0 cd0 ct0), sl0⟩) (c0 : PySem.W.codeIn K cd0 "TwiceNamed.__init__" = true) (k0 : PySem.W.keepIn K (.ref f0) = true)
    {f1 : Addr} {oc1 kV1 dc1 pm1 cd1 ct1 : Value} {od1 an1 : Option Addr} {sl1 : Array (Option Value)} (a1 : PySem.W.findIn K (.ref X_BadNest) "__init__" = some (some (.ref f1))) (i1 : PySem.W.isFn K (.ref f1) = true) (l1 : K.lookup f1 = some ⟨oc1, od1, .func (PySem.W.fnOf "__init__" "BadNest.__init__" (defArgs s_BadNest_init) (defBody s_BadNest_init) (defScope s_BadNest_init) .none kV1 dc1 pm1 an1 cd1 ct1), sl1⟩) (c1 : PySem.W.codeIn K cd1 "BadNest.__init__" = true) (k1 : PySem.W.keepIn K (.ref f1) = true)
    {f2 : Addr} {oc2 kV2 dc2 pm2 cd2 ct2 : Value} {od2 an2 : Option Addr} {sl2 : Array (Option Value)} (a2 : PySem.W.findIn K (.ref X_BadCall) "__init__" = some (some (.ref f2))) (i2 : PySem.W.isFn K (.ref f2) = true) (l2 : K.lookup f2 = some ⟨oc2, od2, .func (PySem.W.fnOf "__init__" "BadCall.__init__" (defArgs s_BadCall_init) (defBody s_BadCall_init) (defScope s_BadCall_init) .none kV2 dc2 pm2 an2 cd2 ct2), sl2⟩) (c2 : PySem.W.codeIn K cd2 "BadCall.__init__" = true) (k2 : PySem.W.keepIn K (.ref f2) = true)
    {f3 : Addr} {oc3 kV3 dc3 pm3 cd3 ct3 : Value} {od3 an3 : Option Addr} {sl3 : Array (Option Value)} (a3 : PySem.W.nsIn K mainGlobals "look" = some (some (.ref f3))) (l3 : K.lookup f3 = some ⟨oc3, od3, .func (PySem.W.fnOf "look" "look" (defArgs s_look) (defBody s_look) (defScope s_look) .none kV3 dc3 pm3 an3 cd3 ct3), sl3⟩) (c3 : PySem.W.codeIn K cd3 "look" = true) (k3 : PySem.W.keepIn K (.ref f3) = true)
    {f4 : Addr} {oc4 kV4 dc4 pm4 cd4 ct4 : Value} {od4 an4 : Option Addr} {sl4 : Array (Option Value)} (a4 : PySem.W.nsIn K mainGlobals "look_for_twice" = some (some (.ref f4))) (l4 : K.lookup f4 = some ⟨oc4, od4, .func (PySem.W.fnOf "look_for_twice" "look_for_twice" (defArgs s_look_for_twice) (defBody s_look_for_twice) (defScope s_look_for_twice) .none kV4 dc4 pm4 an4 cd4 ct4), sl4⟩) (c4 : PySem.W.codeIn K cd4 "look_for_twice" = true) (k4 : PySem.W.keepIn K (.ref f4) = true)
    {f5 : Addr} {oc5 kV5 dc5 pm5 cd5 ct5 : Value} {od5 an5 : Option Addr} {sl5 : Array (Option Value)} (a5 : PySem.W.nsIn K mainGlobals "look_at_nests" = some (some (.ref f5))) (l5 : K.lookup f5 = some ⟨oc5, od5, .func (PySem.W.fnOf "look_at_nests" "look_at_nests" (defArgs s_look_at_nests) (defBody s_look_at_nests) (defScope s_look_at_nests) .none kV5 dc5 pm5 an5 cd5 ct5), sl5⟩) (c5 : PySem.W.codeIn K cd5 "look_at_nests" = true) (k5 : PySem.W.keepIn K (.ref f5) = true)
    {f6 : Addr} {oc6 kV6 dc6 pm6 cd6 ct6 : Value} {od6 an6 : Option Addr} {sl6 : Array (Option Value)} (a6 : PySem.W.nsIn K mainGlobals "look_at_calls" = some (some (.ref f6))) (l6 : K.lookup f6 = some ⟨oc6, od6, .func (PySem.W.fnOf "look_at_calls" "look_at_calls" (defArgs s_look_at_calls) (defBody s_look_at_calls) (defScope s_look_at_calls) .none kV6 dc6 pm6 an6 cd6 ct6), sl6⟩) (c6 : PySem.W.codeIn K cd6 "look_at_calls" = true) (k6 : PySem.W.keepIn K (.ref f6) = true)
    {f7 : Addr} {oc7 kV7 dc7 pm7 cd7 ct7 : Value} {od7 an7 : Option Addr} {sl7 : Array (Option Value)} (a7 : PySem.W.nsIn K mainGlobals "_law_cell" = some (some (.ref f7))) (l7 : K.lookup f7 = some ⟨oc7, od7, .func (PySem.W.fnOf "_law_cell" "_law_cell" (defArgs s_l_cell) (defBody s_l_cell) (defScope s_l_cell) .none kV7 dc7 pm7 an7 cd7 ct7), sl7⟩) (c7 : PySem.W.codeIn K cd7 "_law_cell" = true) (k7 : PySem.W.keepIn K (.ref f7) = true)
    {f8 : Addr} {oc8 kV8 dc8 pm8 cd8 ct8 : Value} {od8 an8 : Option Addr} {sl8 : Array (Option Value)} (a8 : PySem.W.nsIn K mainGlobals "_law_part" = some (some (.ref f8))) (l8 : K.lookup f8 = some ⟨oc8, od8, .func (PySem.W.fnOf "_law_part" "_law_part" (defArgs s_l_part) (defBody s_l_part) (defScope s_l_part) .none kV8 dc8 pm8 an8 cd8 ct8), sl8⟩) (c8 : PySem.W.codeIn K cd8 "_law_part" = true) (k8 : PySem.W.keepIn K (.ref f8) = true)
    {f9 : Addr} {oc9 kV9 dc9 pm9 cd9 ct9 : Value} {od9 an9 : Option Addr} {sl9 : Array (Option Value)} (a9 : PySem.W.nsIn K mainGlobals "_law_name" = some (some (.ref f9))) (l9 : K.lookup f9 = some ⟨oc9, od9, .func (PySem.W.fnOf "_law_name" "_law_name" (defArgs s_l_name) (defBody s_l_name) (defScope s_l_name) .none kV9 dc9 pm9 an9 cd9 ct9), sl9⟩) (c9 : PySem.W.codeIn K cd9 "_law_name" = true) (k9 : PySem.W.keepIn K (.ref f9) = true)
    {f10 : Addr} {oc10 kV10 dc10 pm10 cd10 ct10 : Value} {od10 an10 : Option Addr} {sl10 : Array (Option Value)} (a10 : PySem.W.nsIn K mainGlobals "_law_call" = some (some (.ref f10))) (l10 : K.lookup f10 = some ⟨oc10, od10, .func (PySem.W.fnOf "_law_call" "_law_call" (defArgs s_l_call) (defBody s_l_call) (defScope s_l_call) .none kV10 dc10 pm10 an10 cd10 ct10), sl10⟩) (c10 : PySem.W.codeIn K cd10 "_law_call" = true) (k10 : PySem.W.keepIn K (.ref f10) = true)
    {f11 : Addr} {oc11 kV11 dc11 pm11 cd11 ct11 : Value} {od11 an11 : Option Addr} {sl11 : Array (Option Value)} (a11 : PySem.W.nsIn K mainGlobals "_law_rows" = some (some (.ref f11))) (l11 : K.lookup f11 = some ⟨oc11, od11, .func (PySem.W.fnOf "_law_rows" "_law_rows" (defArgs s_l_rows) (defBody s_l_rows) (defScope s_l_rows) .none kV11 dc11 pm11 an11 cd11 ct11), sl11⟩) (c11 : PySem.W.codeIn K cd11 "_law_rows" = true) (k11 : PySem.W.keepIn K (.ref f11) = true)
    {f12 : Addr} {oc12 kV12 dc12 pm12 cd12 ct12 : Value} {od12 an12 : Option Addr} {sl12 : Array (Option Value)} (a12 : PySem.W.nsIn K mainGlobals "_law_functions" = some (some (.ref f12))) (l12 : K.lookup f12 = some ⟨oc12, od12, .func (PySem.W.fnOf "_law_functions" "_law_functions" (defArgs s_l_functions) (defBody s_l_functions) (defScope s_l_functions) .none kV12 dc12 pm12 an12 cd12 ct12), sl12⟩) (c12 : PySem.W.codeIn K cd12 "_law_functions" = true) (k12 : PySem.W.keepIn K (.ref f12) = true)
    {f13 : Addr} {oc13 kV13 dc13 pm13 cd13 ct13 : Value} {od13 an13 : Option Addr} {sl13 : Array (Option Value)} (a13 : PySem.W.nsIn K mainGlobals "_law_spoilt" = some (some (.ref f13))) (l13 : K.lookup f13 = some ⟨oc13, od13, .func (PySem.W.fnOf "_law_spoilt" "_law_spoilt" (defArgs s_l_spoilt) (defBody s_l_spoilt) (defScope s_l_spoilt) .none kV13 dc13 pm13 an13 cd13 ct13), sl13⟩) (c13 : PySem.W.codeIn K cd13 "_law_spoilt" = true) (k13 : PySem.W.keepIn K (.ref f13) = true)
    {f14 : Addr} {oc14 kV14 dc14 pm14 cd14 ct14 : Value} {od14 an14 : Option Addr} {sl14 : Array (Option Value)} (a14 : PySem.W.nsIn K mainGlobals "_law_again" = some (some (.ref f14))) (l14 : K.lookup f14 = some ⟨oc14, od14, .func (PySem.W.fnOf "_law_again" "_law_again" (defArgs s_l_again) (defBody s_l_again) (defScope s_l_again) .none kV14 dc14 pm14 an14 cd14 ct14), sl14⟩) (c14 : PySem.W.codeIn K cd14 "_law_again" = true) (k14 : PySem.W.keepIn K (.ref f14) = true)
    {f15 : Addr} {oc15 kV15 dc15 pm15 cd15 ct15 : Value} {od15 an15 : Option Addr} {sl15 : Array (Option Value)} (a15 : PySem.W.nsIn K mainGlobals "_law_nest" = some (some (.ref f15))) (l15 : K.lookup f15 = some ⟨oc15, od15, .func (PySem.W.fnOf "_law_nest" "_law_nest" (defArgs s_l_nest) (defBody s_l_nest) (defScope s_l_nest) .none kV15 dc15 pm15 an15 cd15 ct15), sl15⟩) (c15 : PySem.W.codeIn K cd15 "_law_nest" = true) (k15 : PySem.W.keepIn K (.ref f15) = true)
    {f16 : Addr} {oc16 kV16 dc16 pm16 cd16 ct16 : Value} {od16 an16 : Option Addr} {sl16 : Array (Option Value)} (a16 : PySem.W.nsIn K mainGlobals "_law_due" = some (some (.ref f16))) (l16 : K.lookup f16 = some ⟨oc16, od16, .func (PySem.W.fnOf "_law_due" "_law_due" (defArgs s_l_due) (defBody s_l_due) (defScope s_l_due) .none kV16 dc16 pm16 an16 cd16 ct16), sl16⟩) (c16 : PySem.W.codeIn K cd16 "_law_due" = true) (k16 : PySem.W.keepIn K (.ref f16) = true)
    {f17 : Addr} {oc17 kV17 dc17 pm17 cd17 ct17 : Value} {od17 an17 : Option Addr} {sl17 : Array (Option Value)} (a17 : PySem.W.nsIn K mainGlobals "_law_whole" = some (some (.ref f17))) (l17 : K.lookup f17 = some ⟨oc17, od17, .func (PySem.W.fnOf "_law_whole" "_law_whole" (defArgs s_l_whole) (defBody s_l_whole) (defScope s_l_whole) .none kV17 dc17 pm17 an17 cd17 ct17), sl17⟩) (c17 : PySem.W.codeIn K cd17 "_law_whole" = true) (k17 : PySem.W.keepIn K (.ref f17) = true)
    {f18 : Addr} {oc18 kV18 dc18 pm18 cd18 ct18 : Value} {od18 an18 : Option Addr} {sl18 : Array (Option Value)} (a18 : PySem.W.nsIn K mainGlobals "_law_other" = some (some (.ref f18))) (l18 : K.lookup f18 = some ⟨oc18, od18, .func (PySem.W.fnOf "_law_other" "_law_other" (defArgs s_l_other) (defBody s_l_other) (defScope s_l_other) .none kV18 dc18 pm18 an18 cd18 ct18), sl18⟩) (c18 : PySem.W.codeIn K cd18 "_law_other" = true) (k18 : PySem.W.keepIn K (.ref f18) = true)
    {f19 : Addr} {oc19 kV19 dc19 pm19 cd19 ct19 : Value} {od19 an19 : Option Addr} {sl19 : Array (Option Value)} (a19 : PySem.W.nsIn K mainGlobals "_law_told" = some (some (.ref f19))) (l19 : K.lookup f19 = some ⟨oc19, od19, .func (PySem.W.fnOf "_law_told" "_law_told" (defArgs s_l_told) (defBody s_l_told) (defScope s_l_told) .none kV19 dc19 pm19 an19 cd19 ct19), sl19⟩) (c19 : PySem.W.codeIn K cd19 "_law_told" = true) (k19 : PySem.W.keepIn K (.ref f19) = true)
    {f20 : Addr} {oc20 kV20 dc20 pm20 cd20 ct20 : Value} {od20 an20 : Option Addr} {sl20 : Array (Option Value)} (a20 : PySem.W.nsIn K mainGlobals "law" = some (some (.ref f20))) (l20 : K.lookup f20 = some ⟨oc20, od20, .func (PySem.W.fnOf "law" "law" (defArgs s_law) (defBody s_law) (defScope s_law) .none kV20 dc20 pm20 an20 cd20 ct20), sl20⟩) (c20 : PySem.W.codeIn K cd20 "law" = true) (k20 : PySem.W.keepIn K (.ref f20) = true)
    (z_len : PySem.W.nsIn K mainGlobals "len" = some none)
    (z_list : PySem.W.nsIn K mainGlobals "list" = some none)
    (z_tuple : PySem.W.nsIn K mainGlobals "tuple" = some none)
    (z_isinstance : PySem.W.nsIn K mainGlobals "isinstance" = some none)
    (z_range : PySem.W.nsIn K mainGlobals "range" = some none)
    (z_enumerate : PySem.W.nsIn K mainGlobals "enumerate" = some none)
    (z_dict : PySem.W.nsIn K mainGlobals "dict" = some none)
    (z_str : PySem.W.nsIn K mainGlobals "str" = some none)
    (z_int : PySem.W.nsIn K mainGlobals "int" = some none)
    (z_bool : PySem.W.nsIn K mainGlobals "bool" = some none)
    (z_ValueError : PySem.W.nsIn K mainGlobals "ValueError" = some none)
    : ∃ t, Txt K mg t := by
  refine ⟨⟨X_GlassError, X_NoFunction, X_TwiceNamed, X_BadNest, X_BadCall, X_BadRow, X_NoName, X_Ended, X_TooLong, X_Gone, X_NotBox, X_Shared, X_BadBits, X_Untrue, f0, PySem.W.fnOf "__init__" "TwiceNamed.__init__" (defArgs s_TwiceNamed_init) (defBody s_TwiceNamed_init) (defScope s_TwiceNamed_init) .none kV0 dc0 pm0 an0 cd0 ct0, f1, PySem.W.fnOf "__init__" "BadNest.__init__" (defArgs s_BadNest_init) (defBody s_BadNest_init) (defScope s_BadNest_init) .none kV1 dc1 pm1 an1 cd1 ct1, f2, PySem.W.fnOf "__init__" "BadCall.__init__" (defArgs s_BadCall_init) (defBody s_BadCall_init) (defScope s_BadCall_init) .none kV2 dc2 pm2 an2 cd2 ct2, f3, PySem.W.fnOf "look" "look" (defArgs s_look) (defBody s_look) (defScope s_look) .none kV3 dc3 pm3 an3 cd3 ct3, f4, PySem.W.fnOf "look_for_twice" "look_for_twice" (defArgs s_look_for_twice) (defBody s_look_for_twice) (defScope s_look_for_twice) .none kV4 dc4 pm4 an4 cd4 ct4, f5, PySem.W.fnOf "look_at_nests" "look_at_nests" (defArgs s_look_at_nests) (defBody s_look_at_nests) (defScope s_look_at_nests) .none kV5 dc5 pm5 an5 cd5 ct5, f6, PySem.W.fnOf "look_at_calls" "look_at_calls" (defArgs s_look_at_calls) (defBody s_look_at_calls) (defScope s_look_at_calls) .none kV6 dc6 pm6 an6 cd6 ct6, f7, PySem.W.fnOf "_law_cell" "_law_cell" (defArgs s_l_cell) (defBody s_l_cell) (defScope s_l_cell) .none kV7 dc7 pm7 an7 cd7 ct7, f8, PySem.W.fnOf "_law_part" "_law_part" (defArgs s_l_part) (defBody s_l_part) (defScope s_l_part) .none kV8 dc8 pm8 an8 cd8 ct8, f9, PySem.W.fnOf "_law_name" "_law_name" (defArgs s_l_name) (defBody s_l_name) (defScope s_l_name) .none kV9 dc9 pm9 an9 cd9 ct9, f10, PySem.W.fnOf "_law_call" "_law_call" (defArgs s_l_call) (defBody s_l_call) (defScope s_l_call) .none kV10 dc10 pm10 an10 cd10 ct10, f11, PySem.W.fnOf "_law_rows" "_law_rows" (defArgs s_l_rows) (defBody s_l_rows) (defScope s_l_rows) .none kV11 dc11 pm11 an11 cd11 ct11, f12, PySem.W.fnOf "_law_functions" "_law_functions" (defArgs s_l_functions) (defBody s_l_functions) (defScope s_l_functions) .none kV12 dc12 pm12 an12 cd12 ct12, f13, PySem.W.fnOf "_law_spoilt" "_law_spoilt" (defArgs s_l_spoilt) (defBody s_l_spoilt) (defScope s_l_spoilt) .none kV13 dc13 pm13 an13 cd13 ct13, f14, PySem.W.fnOf "_law_again" "_law_again" (defArgs s_l_again) (defBody s_l_again) (defScope s_l_again) .none kV14 dc14 pm14 an14 cd14 ct14, f15, PySem.W.fnOf "_law_nest" "_law_nest" (defArgs s_l_nest) (defBody s_l_nest) (defScope s_l_nest) .none kV15 dc15 pm15 an15 cd15 ct15, f16, PySem.W.fnOf "_law_due" "_law_due" (defArgs s_l_due) (defBody s_l_due) (defScope s_l_due) .none kV16 dc16 pm16 an16 cd16 ct16, f17, PySem.W.fnOf "_law_whole" "_law_whole" (defArgs s_l_whole) (defBody s_l_whole) (defScope s_l_whole) .none kV17 dc17 pm17 an17 cd17 ct17, f18, PySem.W.fnOf "_law_other" "_law_other" (defArgs s_l_other) (defBody s_l_other) (defScope s_l_other) .none kV18 dc18 pm18 an18 cd18 ct18, f19, PySem.W.fnOf "_law_told" "_law_told" (defArgs s_l_told) (defBody s_l_told) (defScope s_l_told) .none kV19 dc19 pm19 an19 cd19 ct19, f20, PySem.W.fnOf "law" "law" (defArgs s_law) (defBody s_law) (defScope s_law) .none kV20 dc20 pm20 an20 cd20 ct20⟩, ?_⟩
  have bl : ∀ (s : Shared) (u : Value), BindsTo s (PySem.W.fnOf "law" "law" (defArgs s_law) (defBody s_law) (defScope s_law) .none kV20 dc20 pm20 an20 cd20 ct20) ⟨[u], []⟩ [("_law_script", u)] := fun s u => .of_eq rfl
  exact ⟨(xClsOk_mk X G xa_GlassError xl_GlassError xv_GlassError xk_GlassError xs_GlassError xg_GlassError xt_GlassError xc_GlassError sg0 tk0),
    (xClsOk_mk X G xa_NoFunction xl_NoFunction xv_NoFunction xk_NoFunction xs_NoFunction xg_NoFunction xt_NoFunction xc_NoFunction sg0 tk0),
    (xClsOk_mk X G xa_TwiceNamed xl_TwiceNamed xv_TwiceNamed xk_TwiceNamed xs_TwiceNamed xg_TwiceNamed xt_TwiceNamed xc_TwiceNamed sg0 tk0),
    (xClsOk_mk X G xa_BadNest xl_BadNest xv_BadNest xk_BadNest xs_BadNest xg_BadNest xt_BadNest xc_BadNest sg0 tk0),
    (xClsOk_mk X G xa_BadCall xl_BadCall xv_BadCall xk_BadCall xs_BadCall xg_BadCall xt_BadCall xc_BadCall sg0 tk0),
    (PySem.W.mg_of X G xa_BadRow),
    (PySem.W.mg_of X G xa_NoName),
    (PySem.W.mg_of X G xa_Ended),
    (PySem.W.mg_of X G xa_TooLong),
    (PySem.W.mg_of X G xa_Gone),
    (PySem.W.mg_of X G xa_NotBox),
    (PySem.W.mg_of X G xa_Shared),
    (PySem.W.mg_of X G xa_BadBits),
    (PySem.W.mg_of X G xa_Untrue),
    (i0_NoFunction),
    (e_NoFunction),
    (kk_NoFunction_NoFunction),
    (kk_NoFunction_TwiceNamed),
    (kk_NoFunction_BadNest),
    (kk_NoFunction_BadCall),
    (kv_NoFunction),
    (ky_NoFunction),
    (na_TwiceNamed_word),
    (e_TwiceNamed),
    (kk_TwiceNamed_NoFunction),
    (kk_TwiceNamed_TwiceNamed),
    (kk_TwiceNamed_BadNest),
    (kk_TwiceNamed_BadCall),
    (kv_TwiceNamed),
    (ky_TwiceNamed),
    (na_BadNest_function),
    (na_BadNest_at),
    (e_BadNest),
    (kk_BadNest_NoFunction),
    (kk_BadNest_TwiceNamed),
    (kk_BadNest_BadNest),
    (kk_BadNest_BadCall),
    (kv_BadNest),
    (ky_BadNest),
    (na_BadCall_function),
    (na_BadCall_at),
    (e_BadCall),
    (kk_BadCall_NoFunction),
    (kk_BadCall_TwiceNamed),
    (kk_BadCall_BadNest),
    (kk_BadCall_BadCall),
    (kv_BadCall),
    (ky_BadCall),
    (xIniOk_mk a0 i0 l0 c0 k0 fun _ _ _ _ _ _ us hl => match us, hl with | [_, _], _ => rfl),
    (xIniOk_mk a1 i1 l1 c1 k1 fun _ _ _ _ _ _ us hl => match us, hl with | [_, _, _], _ => rfl),
    (xIniOk_mk a2 i2 l2 c2 k2 fun _ _ _ _ _ _ us hl => match us, hl with | [_, _, _], _ => rfl),
    (defOk_mk X G a3 l3 c3 k3 fun _ _ _ _ _ _ us hl => match us, hl with | [_], _ => rfl),
    (defOk_mk X G a4 l4 c4 k4 fun _ _ _ _ _ _ us hl => match us, hl with | [_], _ => rfl),
    (defOk_mk X G a5 l5 c5 k5 fun _ _ _ _ _ _ us hl => match us, hl with | [_, _], _ => rfl),
    (defOk_mk X G a6 l6 c6 k6 fun _ _ _ _ _ _ us hl => match us, hl with | [_, _, _], _ => rfl),
    (defOk_mk X G a7 l7 c7 k7 fun _ _ _ _ _ _ us hl => match us, hl with | [_, _], _ => rfl),
    (defOk_mk X G a8 l8 c8 k8 fun _ _ _ _ _ _ us hl => match us, hl with | [_, _, _], _ => rfl),
    (defOk_mk X G a9 l9 c9 k9 fun _ _ _ _ _ _ us hl => match us, hl with | [_, _], _ => rfl),
    (defOk_mk X G a10 l10 c10 k10 fun _ _ _ _ _ _ us hl => match us, hl with | [_, _, _], _ => rfl),
    (defOk_mk X G a11 l11 c11 k11 fun _ _ _ _ _ _ us hl => match us, hl with | [_, _, _, _], _ => rfl),
    (defOk_mk X G a12 l12 c12 k12 fun _ _ _ _ _ _ us hl => match us, hl with | [_], _ => rfl),
    (defOk_mk X G a13 l13 c13 k13 fun _ _ _ _ _ _ us hl => match us, hl with | [_, _, _], _ => rfl),
    (defOk_mk X G a14 l14 c14 k14 fun _ _ _ _ _ _ us hl => match us, hl with | [_], _ => rfl),
    (defOk_mk X G a15 l15 c15 k15 fun _ _ _ _ _ _ us hl => match us, hl with | [_], _ => rfl),
    (defOk_mk X G a16 l16 c16 k16 fun _ _ _ _ _ _ us hl => match us, hl with | [_], _ => rfl),
    (defOk_mk X G a17 l17 c17 k17 fun _ _ _ _ _ _ us hl => match us, hl with | [_], _ => rfl),
    (defOk_mk X G a18 l18 c18 k18 fun _ _ _ _ _ _ us hl => match us, hl with | [_], _ => rfl),
    (defOk_mk X G a19 l19 c19 k19 fun _ _ _ _ _ _ us hl => match us, hl with | [_], _ => rfl),
    (defOk_mk X G a20 l20 c20 k20 fun _ _ _ _ _ _ us hl => match us, hl with | [_], _ => rfl),
    PySem.W.mg_none_of X G z_len,
    PySem.W.mg_none_of X G z_list,
    PySem.W.mg_none_of X G z_tuple,
    PySem.W.mg_none_of X G z_isinstance,
    PySem.W.mg_none_of X G z_range,
    PySem.W.mg_none_of X G z_enumerate,
    PySem.W.mg_none_of X G z_dict,
    PySem.W.mg_none_of X G z_str,
    PySem.W.mg_none_of X G z_int,
    PySem.W.mg_none_of X G z_bool,
    PySem.W.mg_none_of X G z_ValueError,
    bl⟩
end K16
open PySem PySem.W PyProof.Rows
set_option maxRecDepth 100000 in
set_option maxHeartbeats 0 in
theorem PySem.Challenge.cw_stopglass_k16_programs_in_order_holds : PySem.Challenge.rw_stopglass_k16_programs_in_order.Holds := by
  refine Hd.pk.2 ?_
  unfold Hd.pk
  dsimp only
  k_fill
  refine L2.walk_ofK (l := PySem.Challenge.rw_stopglass_k16_programs_in_order) (n := 63) (k := 6) (x := "_law_script") (CX := L2.CX0) (sp := K16.sp_law) rfl (by decide) rfl ⟨rfl, by decide, by decide⟩ (fun w h Y => PySem.W.kIn_of Y) ?F ?S ?C
  case F =>
    intro w mg fa h KX G hmg
    have T : ∃ t, K16.Txt (L2.KOf KX) mg t := by
      dsimp only [L2.KOf]
      refine' K16.txt_mk KX G ?xa_GlassError ?xl_GlassError ?xv_GlassError ?xk_GlassError ?xs_GlassError ?xg_GlassError ?xt_GlassError ?xc_GlassError ?xa_NoFunction ?xl_NoFunction ?xv_NoFunction ?xk_NoFunction ?xs_NoFunction ?xg_NoFunction ?xt_NoFunction ?xc_NoFunction ?xa_TwiceNamed ?xl_TwiceNamed ?xv_TwiceNamed ?xk_TwiceNamed ?xs_TwiceNamed ?xg_TwiceNamed ?xt_TwiceNamed ?xc_TwiceNamed ?xa_BadNest ?xl_BadNest ?xv_BadNest ?xk_BadNest ?xs_BadNest ?xg_BadNest ?xt_BadNest ?xc_BadNest ?xa_BadCall ?xl_BadCall ?xv_BadCall ?xk_BadCall ?xs_BadCall ?xg_BadCall ?xt_BadCall ?xc_BadCall ?sg0 ?tk0 ?xa_BadRow ?xa_NoName ?xa_Ended ?xa_TooLong ?xa_Gone ?xa_NotBox ?xa_Shared ?xa_BadBits ?xa_Untrue ?i0_NoFunction ?e_NoFunction ?kk_NoFunction_NoFunction ?kk_NoFunction_TwiceNamed ?kk_NoFunction_BadNest ?kk_NoFunction_BadCall ?kv_NoFunction ?ky_NoFunction ?na_TwiceNamed_word ?e_TwiceNamed ?kk_TwiceNamed_NoFunction ?kk_TwiceNamed_TwiceNamed ?kk_TwiceNamed_BadNest ?kk_TwiceNamed_BadCall ?kv_TwiceNamed ?ky_TwiceNamed ?na_BadNest_function ?na_BadNest_at ?e_BadNest ?kk_BadNest_NoFunction ?kk_BadNest_TwiceNamed ?kk_BadNest_BadNest ?kk_BadNest_BadCall ?kv_BadNest ?ky_BadNest ?na_BadCall_function ?na_BadCall_at ?e_BadCall ?kk_BadCall_NoFunction ?kk_BadCall_TwiceNamed ?kk_BadCall_BadNest ?kk_BadCall_BadCall ?kv_BadCall ?ky_BadCall ?a0 ?i0 ?l0 ?c0 ?k0 ?a1 ?i1 ?l1 ?c1 ?k1 ?a2 ?i2 ?l2 ?c2 ?k2 ?a3 ?l3 ?c3 ?k3 ?a4 ?l4 ?c4 ?k4 ?a5 ?l5 ?c5 ?k5 ?a6 ?l6 ?c6 ?k6 ?a7 ?l7 ?c7 ?k7 ?a8 ?l8 ?c8 ?k8 ?a9 ?l9 ?c9 ?k9 ?a10 ?l10 ?c10 ?k10 ?a11 ?l11 ?c11 ?k11 ?a12 ?l12 ?c12 ?k12 ?a13 ?l13 ?c13 ?k13 ?a14 ?l14 ?c14 ?k14 ?a15 ?l15 ?c15 ?k15 ?a16 ?l16 ?c16 ?k16 ?a17 ?l17 ?c17 ?k17 ?a18 ?l18 ?c18 ?k18 ?a19 ?l19 ?c19 ?k19 ?a20 ?l20 ?c20 ?k20 ?z_len ?z_list ?z_tuple ?z_isinstance ?z_range ?z_enumerate ?z_dict ?z_str ?z_int ?z_bool ?z_ValueError
      (case xa_GlassError => k_is)
      (case xl_GlassError => k_is)
      (case xv_GlassError => first | k_is | kernel_rfl)
      (case xk_GlassError => k_is)
      (case xs_GlassError => k_is)
      (case xg_GlassError => k_is)
      (case xt_GlassError => k_is)
      (case xc_GlassError => k_is)
      (case xa_NoFunction => k_is)
      (case xl_NoFunction => k_is)
      (case xv_NoFunction => first | k_is | kernel_rfl)
      (case xk_NoFunction => k_is)
      (case xs_NoFunction => k_is)
      (case xg_NoFunction => k_is)
      (case xt_NoFunction => k_is)
      (case xc_NoFunction => k_is)
      (case xa_TwiceNamed => k_is)
      (case xl_TwiceNamed => k_is)
      (case xv_TwiceNamed => first | k_is | kernel_rfl)
      (case xk_TwiceNamed => k_is)
      (case xs_TwiceNamed => k_is)
      (case xg_TwiceNamed => k_is)
      (case xt_TwiceNamed => k_is)
      (case xc_TwiceNamed => k_is)
      (case xa_BadNest => k_is)
      (case xl_BadNest => k_is)
      (case xv_BadNest => first | k_is | kernel_rfl)
      (case xk_BadNest => k_is)
      (case xs_BadNest => k_is)
      (case xg_BadNest => k_is)
      (case xt_BadNest => k_is)
      (case xc_BadNest => k_is)
      (case xa_BadCall => k_is)
      (case xl_BadCall => k_is)
      (case xv_BadCall => first | k_is | kernel_rfl)
      (case xk_BadCall => k_is)
      (case xs_BadCall => k_is)
      (case xg_BadCall => k_is)
      (case xt_BadCall => k_is)
      (case xc_BadCall => k_is)
      (case sg0 => first | k_is | kernel_rfl)
      (case tk0 => first | k_is | kernel_rfl)
      (case xa_BadRow => k_is)
      (case xa_NoName => k_is)
      (case xa_Ended => k_is)
      (case xa_TooLong => k_is)
      (case xa_Gone => k_is)
      (case xa_NotBox => k_is)
      (case xa_Shared => k_is)
      (case xa_BadBits => k_is)
      (case xa_Untrue => k_is)
      (case i0_NoFunction => first | k_is | kernel_rfl)
      (case e_NoFunction => first | k_is | kernel_rfl)
      (case kk_NoFunction_NoFunction => first | k_is | kernel_rfl)
      (case kk_NoFunction_TwiceNamed => first | k_is | kernel_rfl)
      (case kk_NoFunction_BadNest => first | k_is | kernel_rfl)
      (case kk_NoFunction_BadCall => first | k_is | kernel_rfl)
      (case kv_NoFunction => first | k_is | kernel_rfl)
      (case ky_NoFunction => first | k_is | kernel_rfl)
      (case na_TwiceNamed_word => first | k_is | kernel_rfl)
      (case e_TwiceNamed => first | k_is | kernel_rfl)
      (case kk_TwiceNamed_NoFunction => first | k_is | kernel_rfl)
      (case kk_TwiceNamed_TwiceNamed => first | k_is | kernel_rfl)
      (case kk_TwiceNamed_BadNest => first | k_is | kernel_rfl)
      (case kk_TwiceNamed_BadCall => first | k_is | kernel_rfl)
      (case kv_TwiceNamed => first | k_is | kernel_rfl)
      (case ky_TwiceNamed => first | k_is | kernel_rfl)
      (case na_BadNest_function => first | k_is | kernel_rfl)
      (case na_BadNest_at => first | k_is | kernel_rfl)
      (case e_BadNest => first | k_is | kernel_rfl)
      (case kk_BadNest_NoFunction => first | k_is | kernel_rfl)
      (case kk_BadNest_TwiceNamed => first | k_is | kernel_rfl)
      (case kk_BadNest_BadNest => first | k_is | kernel_rfl)
      (case kk_BadNest_BadCall => first | k_is | kernel_rfl)
      (case kv_BadNest => first | k_is | kernel_rfl)
      (case ky_BadNest => first | k_is | kernel_rfl)
      (case na_BadCall_function => first | k_is | kernel_rfl)
      (case na_BadCall_at => first | k_is | kernel_rfl)
      (case e_BadCall => first | k_is | kernel_rfl)
      (case kk_BadCall_NoFunction => first | k_is | kernel_rfl)
      (case kk_BadCall_TwiceNamed => first | k_is | kernel_rfl)
      (case kk_BadCall_BadNest => first | k_is | kernel_rfl)
      (case kk_BadCall_BadCall => first | k_is | kernel_rfl)
      (case kv_BadCall => first | k_is | kernel_rfl)
      (case ky_BadCall => first | k_is | kernel_rfl)
      (case a0 => k_is)
      (case i0 => k_is)
      (case l0 => k_is)
      (case c0 => k_is)
      (case k0 => k_is)
      (case a1 => k_is)
      (case i1 => k_is)
      (case l1 => k_is)
      (case c1 => k_is)
      (case k1 => k_is)
      (case a2 => k_is)
      (case i2 => k_is)
      (case l2 => k_is)
      (case c2 => k_is)
      (case k2 => k_is)
      (case a3 => k_is)
      (case l3 => k_is)
      (case c3 => k_is)
      (case k3 => k_is)
      (case a4 => k_is)
      (case l4 => k_is)
      (case c4 => k_is)
      (case k4 => k_is)
      (case a5 => k_is)
      (case l5 => k_is)
      (case c5 => k_is)
      (case k5 => k_is)
      (case a6 => k_is)
      (case l6 => k_is)
      (case c6 => k_is)
      (case k6 => k_is)
      (case a7 => k_is)
      (case l7 => k_is)
      (case c7 => k_is)
      (case k7 => k_is)
      (case a8 => k_is)
      (case l8 => k_is)
      (case c8 => k_is)
      (case k8 => k_is)
      (case a9 => k_is)
      (case l9 => k_is)
      (case c9 => k_is)
      (case k9 => k_is)
      (case a10 => k_is)
      (case l10 => k_is)
      (case c10 => k_is)
      (case k10 => k_is)
      (case a11 => k_is)
      (case l11 => k_is)
      (case c11 => k_is)
      (case k11 => k_is)
      (case a12 => k_is)
      (case l12 => k_is)
      (case c12 => k_is)
      (case k12 => k_is)
      (case a13 => k_is)
      (case l13 => k_is)
      (case c13 => k_is)
      (case k13 => k_is)
      (case a14 => k_is)
      (case l14 => k_is)
      (case c14 => k_is)
      (case k14 => k_is)
      (case a15 => k_is)
      (case l15 => k_is)
      (case c15 => k_is)
      (case k15 => k_is)
      (case a16 => k_is)
      (case l16 => k_is)
      (case c16 => k_is)
      (case k16 => k_is)
      (case a17 => k_is)
      (case l17 => k_is)
      (case c17 => k_is)
      (case k17 => k_is)
      (case a18 => k_is)
      (case l18 => k_is)
      (case c18 => k_is)
      (case k18 => k_is)
      (case a19 => k_is)
      (case l19 => k_is)
      (case c19 => k_is)
      (case k19 => k_is)
      (case a20 => k_is)
      (case l20 => k_is)
      (case c20 => k_is)
      (case k20 => k_is)
      (case z_len => k_is)
      (case z_list => k_is)
      (case z_tuple => k_is)
      (case z_isinstance => k_is)
      (case z_range => k_is)
      (case z_enumerate => k_is)
      (case z_dict => k_is)
      (case z_str => k_is)
      (case z_int => k_is)
      (case z_bool => k_is)
      (case z_ValueError => k_is)
    obtain ⟨t, T⟩ := T
    have e0 := hmg.symm.trans T.law.g
    cases e0
    exact ⟨t.d_law, T.bl, fun base kb nb => K16.ok_law T⟩
  case S => exact fun K H a ns hl hO hS => ⟨a, ns, rfl, hS, hl, fun _ => rfl⟩
  case C => exact fun _ _ _ _ z => z


