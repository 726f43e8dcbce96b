import PyProof.Rows.All
import Wide.All
import OpenK.AllK
import Wide.FinOn
import Lean
import PyProof.EqAt
import PyProof.EqKinds
import PyProof.TupleCall
import KE.KDictLaws
import KE.KDictOf
import KE.KEqDict
import KE.BitLaws
import PyProof.ZipIter
import PyProof.Rows.ZipGen
import PyProof.Rows.StrSplitAre
import KE.IntTextText
import PyProof.ExcInit
import PyProof.ExcBaseAll.ValueError
import PyProof.PassesOwn
import PyProof.StationsW
import PyProof.InstStoreFacts
import PyProof.ExcAttrAll.ValueError
import PyProof.NsDelKeeps
import KE.KListMore
import PyProof.P3Eq
import PyProof.Rows.TupDisplay
import PyProof.StrLawsReplace
import PyProof.StrCalls6
import PyProof.Rows.StrStrike
import PySem.Challenge.RW_stopglass_k15_rows_that_are_refused
set_option Elab.async false
set_option linter.all false
set_option maxRecDepth 100000

section
namespace Hd
open PySem PySem.W PyProof.Rows
lay_quick PySem.W.topFrom
lay_quick PySem.Challenge.pw_stopglass_k15_rows_that_are_refused
noncomputable abbrev TQ := PySem.W.Fast.tw370005188180407882 PySem.W.Fast.tw14364793385576792824
noncomputable abbrev OQ := PySem.W.Fast.tw4187177175401517315
noncomputable abbrev tp : Program := PySem.W.Fast.tw10729068769256268723
abbrev lo : List Str := [PySem.Str.ofString "FORMS"]
def keeps : PySem.Stmt → Bool
 | .Assign [.Name x _] _ _ => !decide (x = "__name__")
 | _ => true
def viewOf (p : Program) : Program := { p with main := { p.main with body := p.main.body.filter keeps } }
abbrev Xf : Program → Shared → Bool := (fun p s => xlAt (viewOf p) [] s && recOk (RowW.records (OpenRow.toRowW (OpenLaw.row PySem.Challenge.rw_stopglass_k15_rows_that_are_refused))) s)
noncomputable def S0 (w : World) (os : OsState) : Shared := ⟨boot_heap w.params, Array.mk [], boot_drawn, boot_toks, os⟩
section
local macro_rules | `(tactic| o_head $H) => `(tactic| (case Hk => exact $H))
noncomputable def hk : (H : Hook) ×' ((∀ P : Prop, P) → PySem.Challenge.rw_stopglass_k15_rows_that_are_refused.Holds) := by
 refine ⟨?Hk, fun h => ?m⟩
 rotate_left
 w_on; o_law; k_head; exact h _
end
theorem opt3 {σ α β γ : Type} {x : Option σ} {f : σ → α × β} {g : σ → γ} {a : α × β} {c : γ} (h1 : x.map (fun s => (f s).1) = some a.1) (h2 : x.map (fun s => (f s).2) = some a.2) (h3 : x.map g = some c) : x.map (fun s => (f s, g s)) = some (a, c) := by
 cases x with
 | none => cases h1
 | some s =>
  have e1 : (f s).1 = a.1 := Option.some.inj h1
  have e2 : (f s).2 = a.2 := Option.some.inj h2
  have e3 : g s = c := Option.some.inj h3
  show some (f s, g s) = some (a, c)
  rw [show f s = a from Prod.ext e1 e2, e3]
theorem r0a : ∀ (w : World) (os : OsState), (TQ tp (w.withFollow "special-get-raises" false) 20000 (S0 (w.withFollow "special-get-raises" false) os)).map (fun s => (OQ (viewOf tp) lo (importedModules tp.main.body) (Xf tp) true s).1) = some (openGood (viewOf tp) lo).1 := by
 intro w os; kernel_rfl
theorem r0b : ∀ (w : World) (os : OsState), (TQ tp (w.withFollow "special-get-raises" false) 20000 (S0 (w.withFollow "special-get-raises" false) os)).map (fun s => (OQ (viewOf tp) lo (importedModules tp.main.body) (Xf tp) true s).2) = some (openGood (viewOf tp) lo).2 := by
 intro w os; kernel_rfl
theorem r0c : ∀ (w : World) (os : OsState), (TQ tp (w.withFollow "special-get-raises" false) 20000 (S0 (w.withFollow "special-get-raises" false) os)).map (fun s => Hook.obs hk.1 s) = some (Hook.val hk.1 (w.withFollow "special-get-raises" false)) := by
 intro w os; kernel_rfl
theorem r0 : ∀ (w : World) (os : OsState), (TQ tp (w.withFollow "special-get-raises" false) 20000 (S0 (w.withFollow "special-get-raises" false) os)).map (fun s => (OQ (viewOf tp) lo (importedModules tp.main.body) (Xf tp) true s, Hook.obs hk.1 s)) = some (openGood (viewOf tp) lo, Hook.val hk.1 (w.withFollow "special-get-raises" false)) := fun w os => opt3 (r0a w os) (r0b w os) (r0c w os)
theorem r1a : ∀ (w : World) (os : OsState), (TQ tp (w.withFollow "special-get-raises" true) 20000 (S0 (w.withFollow "special-get-raises" true) os)).map (fun s => (OQ (viewOf tp) lo (importedModules tp.main.body) (Xf tp) true s).1) = some (openGood (viewOf tp) lo).1 := by
 intro w os; kernel_rfl
theorem r1b : ∀ (w : World) (os : OsState), (TQ tp (w.withFollow "special-get-raises" true) 20000 (S0 (w.withFollow "special-get-raises" true) os)).map (fun s => (OQ (viewOf tp) lo (importedModules tp.main.body) (Xf tp) true s).2) = some (openGood (viewOf tp) lo).2 := by
 intro w os; kernel_rfl
theorem r1c : ∀ (w : World) (os : OsState), (TQ tp (w.withFollow "special-get-raises" true) 20000 (S0 (w.withFollow "special-get-raises" true) os)).map (fun s => Hook.obs hk.1 s) = some (Hook.val hk.1 (w.withFollow "special-get-raises" true)) := by
 intro w os; kernel_rfl
theorem r1 : ∀ (w : World) (os : OsState), (TQ tp (w.withFollow "special-get-raises" true) 20000 (S0 (w.withFollow "special-get-raises" true) os)).map (fun s => (OQ (viewOf tp) lo (importedModules tp.main.body) (Xf tp) true s, Hook.obs hk.1 s)) = some (openGood (viewOf tp) lo, Hook.val hk.1 (w.withFollow "special-get-raises" true)) := fun w os => opt3 (r1a w os) (r1b w os) (r1c w os)
theorem left_twin {p p' : Program} {F : Program → Program} {X : Program → Shared → Bool} {loose : List Str} {α : Type} {Yf : Shared → α} {Ya : World → α} {N : Nat} {g0 : Bool} (row : String) (ep : p = p') (e : opening p = plainProg p.main.scope.names) (hN : Nat.ble 600 N = true) (f : ∀ s, fenceModules? p s = some s)
  (h0 : ∀ (w : World) (os : OsState), (TQ p' (w.withFollow row false) N (S0 (w.withFollow row false) os)).map (fun s => (OQ (F p') loose (importedModules p'.main.body) (X p') g0 s, Yf s)) = some (openGood (F p') loose, Ya (w.withFollow row false)))
  (h1 : ∀ (w : World) (os : OsState), (TQ p' (w.withFollow row true) N (S0 (w.withFollow row true) os)).map (fun s => (OQ (F p') loose (importedModules p'.main.body) (X p') g0 s, Yf s)) = some (openGood (F p') loose, Ya (w.withFollow row true))) : LeftO p (F p) loose (X p) Yf Ya N g0 := fun w => by
 subst ep
 have key : ∀ b, (openEnds treeTable p (w.withFollow row b) N).map (fun s => (openSeen (F p) loose (importedModules p.main.body) (X p) g0 s, Yf s)) = some (openGood (F p) loose, Ya (w.withFollow row b)) := by
  intro b
  obtain ⟨s, hs, hv⟩ := Option.map_eq_some_iff.mp (boot_open e hN f (w.withFollow row b))
  have es : s = S0 (w.withFollow row b) s.os := by
   cases s
   simp only [Prod.mk.injEq] at hv
   obtain ⟨a1, a2, a3, a4⟩ := hv
   subst a1 a2 a3 a4
   rfl
  unfold openEnds
  rw [hs, es, PySem.W.Fast.te370005188180407882, PySem.W.Fast.te14364793385576792824, PySem.W.Fast.te4187177175401517315]
  cases b
  . exact h0 w s.os
  . exact h1 w s.os
 have e0 := World.withFollow_self w row
 have := key (w.params.followText row)
 rwa [e0] at this
theorem left : LeftO PySem.Challenge.pw_stopglass_k15_rows_that_are_refused (viewOf PySem.Challenge.pw_stopglass_k15_rows_that_are_refused) lo (Xf PySem.Challenge.pw_stopglass_k15_rows_that_are_refused) (Hook.obs hk.1) (Hook.val hk.1) 20000 true :=
 left_twin (p := PySem.Challenge.pw_stopglass_k15_rows_that_are_refused) (p' := tp) (F := viewOf) (X := Xf) (loose := lo) (Yf := Hook.obs hk.1) (Ya := Hook.val hk.1) (N := 20000) (g0 := true) "special-get-raises" PySem.W.Fast.te10729068769256268723 (by kernel_rfl) (by decide) (fun s => by kernel_rfl) r0 r1
theorem left_of {H : Hook} (e : H = hk.1) : LeftO PySem.Challenge.pw_stopglass_k15_rows_that_are_refused (viewOf PySem.Challenge.pw_stopglass_k15_rows_that_are_refused) lo (Xf PySem.Challenge.pw_stopglass_k15_rows_that_are_refused) (Hook.obs H) (Hook.val H) 20000 true := by subst e; exact left
local macro_rules | `(tactic| o_head $H) => `(tactic| (
 refine holds_open (q := viewOf PySem.Challenge.pw_stopglass_k15_rows_that_are_refused) (loose := lo) (Xt := Xf PySem.Challenge.pw_stopglass_k15_rows_that_are_refused) (XP := XL (viewOf PySem.Challenge.pw_stopglass_k15_rows_that_are_refused) []) (Yf := Hook.obs $H) (Ya := Hook.val $H) (YP := Hook.says $H) (N := 20000) ?hl (Hook.of $H) (Hook.keeps $H) (fun s e => xl_of s (Bool.and_eq_true_iff.mp e).1) XL.keeps (by rfl) (by rfl) (by rfl) (fun s e => recFacts_of (Bool.and_eq_true_iff.mp e).2) (by rfl) (by assumption) (by decide +kernel) ⟨rfl, rfl, rfl, rfl, rfl, by decide +kernel⟩ ?hw ?hc
 (case hl => exact left_of (H := $H) (by kernel_rfl))))
set_option maxHeartbeats 0 in
noncomputable def pk : (G : Prop) ×' (G → PySem.Challenge.rw_stopglass_k15_rows_that_are_refused.Holds) := by
 refine' ⟨_, fun h => _⟩
 rotate_left
 w_on; o_law; k_head; (case hw => w_witness2)
 exact h
end Hd
end
namespace L2
open PySem PySem.Spec PyProof.Rows


abbrev Key := Sum Int Str
def keyIs : Key → Value → Bool
  | .inl k, v => Value.isInt k v
  | .inr x, v => Value.isStrOf x v
def keyH (w : World) : Key → Int
  | .inl k => hashInt k
  | .inr x => hashStr w x
theorem keyIs_shape : ∀ {k : Key} {v : Value}, keyIs k v = true → (∃ i t, k = Sum.inl i ∧ v = Value.int i t) ∨ (∃ x t, k = Sum.inr x ∧ v = Value.str x t)
  | .inl i, v, h => by
    obtain ⟨t, e⟩ := Value.isInt_shape (k := i) (v := v) h
    exact .inl ⟨i, t, rfl, e⟩
  | .inr x, v, h => by
    obtain ⟨t, e⟩ := Value.isStrOf_shape (x := x) (v := v) h
    exact .inr ⟨x, t, rfl, e⟩
theorem keyIs_int (i : Int) (t : Tok) : keyIs (.inl i) (.int i t) = true := by simp [keyIs, Value.isInt]
theorem keyIs_str (x : Str) (t : Tok) : keyIs (.inr x) (.str x t) = true := by simp [keyIs, Value.isStrOf]
theorem key_ll (a b : Int) : decide ((Sum.inl a : Key) = Sum.inl b) = (a == b) := by
  by_cases e : a = b
  · subst e; simp
  · have h : ¬ (Sum.inl a : Key) = Sum.inl b := fun q => e (Sum.inl.inj q)
    rw [decide_eq_false h]
    exact (beq_eq_false_iff_ne.mpr e).symm
theorem key_rr (a b : Str) : decide ((Sum.inr a : Key) = Sum.inr b) = decide (a = b) := by
  by_cases e : a = b
  · subst e; simp
  · have h : ¬ (Sum.inr a : Key) = Sum.inr b := fun q => e (Sum.inr.inj q)
    rw [decide_eq_false h, decide_eq_false e]
theorem key_lr (a : Int) (b : Str) : decide ((Sum.inl a : Key) = Sum.inr b) = false := decide_eq_false (fun q => nomatch q)
theorem key_rl (a : Str) (b : Int) : decide ((Sum.inr a : Key) = Sum.inl b) = false := decide_eq_false (fun q => nomatch q)

def mixKind (prog : Program) (w : World) : PySem.KeyKind prog w Key where
  is := keyIs
  hash := keyH w
  inj := fun v a b ha hb => by
    rcases keyIs_shape ha with ⟨i, t, rfl, rfl⟩ | ⟨x, t, rfl, rfl⟩
    · rcases keyIs_shape hb with ⟨j, u, rfl, e⟩ | ⟨y, u, rfl, e⟩
      · injection e with e1 _; rw [e1]
      · exact nomatch e
    · rcases keyIs_shape hb with ⟨j, u, rfl, e⟩ | ⟨y, u, rfl, e⟩
      · exact nomatch e
      · injection e with e1 _; rw [e1]
  byValue := fun k v h => by
    rcases keyIs_shape h with ⟨i, t, rfl, rfl⟩ | ⟨x, t, rfl, rfl⟩ <;> rfl
  pyHash := fun hv h => by
    rcases keyIs_shape hv with ⟨i, t, rfl, rfl⟩ | ⟨x, t, rfl, rfl⟩
    · exact wpAny_pyHash_int h
    · exact wpAny_pyHash_str h
  eqBool := fun hu hv h => by
    rcases keyIs_shape hu with ⟨i, t, rfl, rfl⟩ | ⟨x, t, rfl, rfl⟩
    · rcases keyIs_shape hv with ⟨j, u, rfl, rfl⟩ | ⟨y, u, rfl, rfl⟩
      · rw [key_ll] at h; exact wpAny_eqBool_int h
      · rw [key_lr] at h; exact SeqAt.EqAt.int_str i t y u _ _ _ _ h
    · rcases keyIs_shape hv with ⟨j, u, rfl, rfl⟩ | ⟨y, u, rfl, rfl⟩
      · rw [key_rl] at h; exact SeqAt.EqAt.str_int x t j u _ _ _ _ h
      · rw [key_rr] at h; exact wpAny_eqBool_str h
  «strs» := fun k x t v h => by
    rcases keyIs_shape h with ⟨i, u, rfl, e⟩ | ⟨y, u, rfl, e⟩
    · exact nomatch e
    · injection e with e1 _
      subst e1
      cases v <;> rfl

theorem mixKind_int (prog : Program) (w : World) (i : Int) (t : Tok) : (mixKind prog w).is (.inl i) (.int i t) = true := keyIs_int i t
theorem mixKind_str (prog : Program) (w : World) (x : Str) (t : Tok) : (mixKind prog w).is (.inr x) (.str x t) = true := keyIs_str x t
end L2

namespace L2
open PySem PySem.Spec PyProof.Rows


inductive V where
  | non | bl (b : Bool) | int (i : Int) | str (x : Str) | byt (b : Array UInt8) | flt (b : UInt64) | ref (a : Addr) | ty (n : String)
  deriving DecidableEq

def RelV : V → Value → Prop
  | .non, u => u = Value.none
  | .bl b, u => u = Value.bool b
  | .int i, u => ∃ t, u = Value.int i t
  | .str x, u => ∃ t, u = Value.str x t
  | .byt b, u => ∃ t, u = Value.bytes b t
  | .flt b, u => ∃ t, u = Value.float b t
  | .ref a, u => u = Value.ref a
  | .ty n, u => u = Value.type n

abbrev Vals : List V → List Value → Prop := Paired RelV
theorem Vals.length {xs : List V} {us : List Value} (r : Vals xs us) : xs.length = us.length := Paired.length r
theorem Vals.get : ∀ {xs : List V} {us : List Value} {i : Nat} {x : V}, Vals xs us → xs[i]? = some x → ∃ u, us[i]? = some u ∧ RelV x u
  | _, _, _, _, .nil, e => by simp at e
  | _, _, 0, _, .cons r _, e => by simp at e; subst e; exact ⟨_, rfl, r⟩
  | _, _, i + 1, x, .cons _ t, e => by
    obtain ⟨u, h1, h2⟩ := Vals.get (i := i) (x := x) t (by simpa using e)
    exact ⟨u, by simpa using h1, h2⟩
theorem Vals.set {x : V} {u : Value} (r : RelV x u) : ∀ {xs : List V} {us : List Value} (i : Nat), Vals xs us → Vals (xs.set i x) (us.set i u)
  | _, _, _, .nil => .nil
  | _, _, 0, .cons _ t => .cons r t
  | _, _, i + 1, .cons q t => .cons q (Vals.set r i t)
theorem Vals.append : ∀ {xs ys : List V} {us ws : List Value}, Vals xs us → Vals ys ws → Vals (xs ++ ys) (us ++ ws)
  | _, _, _, _, .nil, s => s
  | _, _, _, _, .cons r t, s => .cons r (Vals.append t s)
theorem Vals.take : ∀ {xs : List V} {us : List Value} (n : Nat), Vals xs us → Vals (xs.take n) (us.take n)
  | _, _, 0, _ => .nil
  | _, _, _ + 1, .nil => .nil
  | _, _, n + 1, .cons r t => .cons r (Vals.take n t)
theorem Vals.drop : ∀ {xs : List V} {us : List Value} (n : Nat), Vals xs us → Vals (xs.drop n) (us.drop n)
  | _, _, 0, r => r
  | _, _, _ + 1, .nil => .nil
  | _, _, n + 1, .cons _ t => Vals.drop n t
theorem Vals.none_of : ∀ {xs : List V} {us : List Value} {i : Nat}, Vals xs us → xs[i]? = none → us[i]? = none := fun {xs us i} r e => by
  have h1 := r.length
  have h2 : xs.length ≤ i := List.getElem?_eq_none_iff.mp e
  exact List.getElem?_eq_none_iff.mpr (by omega)

def RelO : Option V → Option Value → Prop
  | some v, some u => RelV v u
  | none, none => True
  | _, _ => False
def KV {κ : Type} : List (κ × V) → List (κ × Value) → Prop := Paired fun (p : κ × V) (q : κ × Value) => p.1 = q.1 ∧ RelV p.2 q.2


def kV : Key → V
  | .inl i => .int i
  | .inr x => .str x


inductive HO where
  
  | lst (xs : List V)
  
  | tup (xs : List V)
  
  | dK (kvs : List (Key × V)) | dT (kvs : List (List Key × V))
  
  | set (S : Int → Bool) (n : Nat)
  
  | ins (C dx : Addr) (fs : List (Str × V))
  
  | own (x : Addr)
  
  | xd (fs : List (Str × V))
  
  | met (f x : Addr)
  
  | rng (lo hi : Int)
  
  | frz (o : Obj) (u : HO)
  
  | tbl (ps : Array Value)
  
  | ext (φ : Heap → Prop)

abbrev Hp := Addr → Option HO
def upd (H : Hp) (a : Addr) (o : HO) : Hp := fun b => if b = a then some o else H b
theorem upd_same {H : Hp} {a : Addr} {o : HO} : upd H a o a = some o := by unfold upd; rw [if_pos rfl]
theorem upd_ne {H : Hp} {a b : Addr} {o : HO} (h : b ≠ a) : upd H a o b = H b := by unfold upd; rw [if_neg h]
theorem upd_upd {H : Hp} {a : Addr} {o u : HO} : upd (upd H a o) a u = upd H a u := by
  funext b; unfold upd; split <;> rfl

theorem ne_of {H : Hp} {a b : Addr} {o u : HO} (h : H a = some o) (h' : H b = some u) (d : o ≠ u) : a ≠ b := by
  intro e; subst e; rw [h] at h'; exact d (Option.some.inj h')
theorem ne_of_none {H : Hp} {a b : Addr} {o : HO} (h : H a = some o) (h' : H b = none) : a ≠ b := by
  intro e; subst e; rw [h] at h'; cases h'

section
variable (P : Program) (w : World)
def ObjOk (H : Hp) (h : Heap) (a : Addr) : HO → Prop
  | .lst xs => xs.length ≤ sizeLine ∧ ∃ (its : List Value) (n : Nat), Vals xs its ∧ h.get? a = some { cls := .type "list", data := .seq its.toArray n }
  | .tup xs => xs.length ≤ sizeLine ∧ ∃ its : List Value, Vals xs its ∧ IsTup h a its.toArray
  | .dK kvs => kvs.length ≤ sizeLine ∧ (a == sysModules) = false ∧ ∃ vs, KV kvs vs ∧ h.DictOf (mixKind P w) a vs
  | .dT kvs => kvs.length ≤ sizeLine ∧ (a == sysModules) = false ∧ ∃ xs : List (List Key × Addr × Value),
      Paired (fun (p : List Key × V) (q : List Key × Addr × Value) => p.1 = q.1 ∧ H q.2.1 = some (.tup (p.1.map kV)) ∧ RelV p.2 q.2.2) kvs xs ∧
      ∃ o es ep, h.get? a = some o ∧ o.ExactDict ∧ o.data = .dict es ep ∧ es.toList = xs.map (entryOfKey (tupleKind (mixKind P w))) ∧ (xs.map (·.1)).Nodup
  | .set S n => h.SetOf (intKind P w) a S n
  | .ins C dx fs => H dx = some (.own a) ∧ fs.length ≤ 1000 ∧ dx ≠ a ∧ h.get? a = some (PySem.W.instObj C dx) ∧
      ∃ mA, h.Ns1 dx mA ∧ (∀ f, RelO (fs.lookup f) (mA f)) ∧ PySem.Within mA (fs.map (·.1))
  | .own _ => ∃ o, h.get? a = some o
  | .xd fs => ∃ mA, h.Ns1 a mA ∧ ∀ f, RelO (fs.lookup f) (mA f)
  | .rng lo hi => ∃ t u v, h.get? a = some { cls := .type "range", data := .fields #[.int lo t, .int hi u, .int 1 v] }
  | .frz o u => h.get? a = some o ∧ ObjOk H h a u
  | .tbl ps => h.get? a = some { cls := .none, data := .fields ps }
  | .met f x => h.get? a = some (PySem.W.methodObj (.ref f) (.ref x))
  | .ext φ => φ h ∧ (∃ o, h.get? a = some o) ∧ ∀ h1 h2 : Heap, φ h1 → (∀ o, h1.get? a = some o → h2.get? a = some o) → φ h2

def HOk (H : Hp) (h : Heap) : Prop := ∀ a o, H a = some o → ObjOk P w H h a o
end

section
variable {P : Program} {w : World} {H H' : Hp} {h h' : Heap} {a : Addr} {o : HO}
theorem ObjOk.lt (x : ObjOk P w H h a o) : a < h.objs.size := by
  cases o with
  | lst xs => obtain ⟨_, _, _, _, e⟩ := x; exact Heap.lt_size e
  | tup xs => obtain ⟨_, _, _, p⟩ := x; exact p.lt
  | dK kvs => obtain ⟨_, _, _, _, o, _, _, e, _⟩ := x; exact Heap.lt_size e
  | dT kvs => obtain ⟨_, _, _, _, o, _, _, e, _⟩ := x; exact Heap.lt_size e
  | set S n => obtain ⟨o, _, _, _, e, _⟩ := x; exact Heap.lt_size e
  | ins C dx fs => obtain ⟨_, _, _, e, _⟩ := x; exact Heap.lt_size e
  | own y => obtain ⟨_, e⟩ := x; exact Heap.lt_size e
  | xd fs => obtain ⟨_, ⟨_, _, _, e, _⟩, _⟩ := x; exact Heap.lt_size e
  | rng lo hi => obtain ⟨_, _, _, e⟩ := x; exact Heap.lt_size e
  | frz ob u => obtain ⟨e, _⟩ := x; exact Heap.lt_size e
  | tbl ps => exact Heap.lt_size (show h.get? a = some _ from x)
  | met f y => exact Heap.lt_size (show h.get? a = some _ from x)
  | ext φ => obtain ⟨_, ⟨_, e⟩, _⟩ := x; exact Heap.lt_size e
theorem Paired.mapP {α β : Type} {F G : α → β → Prop} : ∀ {l₁ : List α} {l₂ : List β}, Paired F l₁ l₂ → (∀ a b, F a b → G a b) → Paired G l₁ l₂
  | _, _, .nil, _ => .nil
  | _, _, .cons r t, f => .cons (f _ _ r) (Paired.mapP t f)
theorem ObjOk.stay (x : ObjOk P w H h a o) (k : ∀ b u, (b = a ∨ H b = some (.own a)) → h.get? b = some u → h'.get? b = some u)
    (ho : ∀ b, H b = some (.own a) → H' b = some (.own a)) (ht : ∀ b xs, H b = some (.tup xs) → H' b = some (.tup xs)) : ObjOk P w H' h' a o := by
  induction o with
  | lst xs => obtain ⟨z, its, n, r, e⟩ := x; exact ⟨z, its, n, r, k _ _ (.inl rfl) e⟩
  | tup xs => obtain ⟨z, its, r, ob, e, c⟩ := x; exact ⟨z, its, r, ob, k _ _ (.inl rfl) e, c⟩
  | dK kvs => obtain ⟨z, y, vs, r, ob, es, ep, e, c⟩ := x; exact ⟨z, y, vs, r, ob, es, ep, k _ _ (.inl rfl) e, c⟩
  | dT kvs =>
    obtain ⟨z, y, xs, r, ob, es, ep, e, c⟩ := x
    exact ⟨z, y, xs, Paired.mapP r fun p q z => ⟨z.1, ht _ _ z.2.1, z.2.2⟩, ob, es, ep, k _ _ (.inl rfl) e, c⟩
  | set S n => obtain ⟨ob, es, ep, t, e, c⟩ := x; exact ⟨ob, es, ep, t, k _ _ (.inl rfl) e, c⟩
  | ins C dx fs =>
    obtain ⟨d, z, ne, e, mA, ⟨od, es, ep, e2, c⟩, r⟩ := x
    exact ⟨ho _ d, z, ne, k _ _ (.inl rfl) e, mA, ⟨od, es, ep, k _ _ (.inr d) e2, c⟩, r⟩
  | own y => obtain ⟨ob, e⟩ := x; exact ⟨ob, k _ _ (.inl rfl) e⟩
  | xd fs => obtain ⟨mA, ⟨od, es, ep, e, c⟩, r⟩ := x; exact ⟨mA, ⟨od, es, ep, k _ _ (.inl rfl) e, c⟩, r⟩
  | rng lo hi => obtain ⟨t, u, v, e⟩ := x; exact ⟨t, u, v, k _ _ (.inl rfl) e⟩
  | frz ob u ih => obtain ⟨e, q⟩ := x; exact ⟨k _ _ (.inl rfl) e, ih q⟩
  | tbl ps =>
    have e : h.get? a = some { cls := .none, data := .fields ps } := x
    show h'.get? a = some { cls := .none, data := .fields ps }
    exact k a _ (.inl rfl) e
  | met f y =>
    have e : h.get? a = some (PySem.W.methodObj (.ref f) (.ref y)) := x
    show h'.get? a = some (PySem.W.methodObj (.ref f) (.ref y))
    exact k a _ (.inl rfl) e
  | ext φ => obtain ⟨p, ⟨o, e⟩, st⟩ := x; exact ⟨st _ _ p fun o q => k _ _ (.inl rfl) q, ⟨o, k _ _ (.inl rfl) e⟩, st⟩
theorem HOk.lt (x : HOk P w H h) (e : H a = some o) : a < h.objs.size := (x a o e).lt
theorem HOk.fresh (x : HOk P w H h) (e : h.objs.size ≤ a) : H a = none := by
  cases q : H a with
  | none => rfl
  | some u => exact absurd (Nat.lt_of_lt_of_le (x.lt q) e) (Nat.lt_irrefl _)

theorem HOk.kept (x : HOk P w H h) (k : ∀ b u, h.get? b = some u → h'.get? b = some u) : HOk P w H h' := fun a o e =>
  (x a o e).stay (fun b u _ q => k b u q) (fun _ q => q) fun _ _ q => q

theorem HOk.laid (x : HOk P w H h) (k : ∀ b u, h.get? b = some u → h'.get? b = some u) (hp : h.objs.size ≤ a) (new : ObjOk P w (upd H a o) h' a o) : HOk P w (upd H a o) h' := fun b u e => by
  have hn := x.fresh hp
  by_cases hb : b = a
  · subst hb; rw [upd_same] at e; cases e; exact new
  · rw [upd_ne hb] at e
    exact (x b u e).stay (fun c v _ q => k c v q) (fun c q => by rw [upd_ne (ne_of_none q hn)]; exact q) fun c xs q => by rw [upd_ne (ne_of_none q hn)]; exact q
end


def Rd (H : Hp) (a : Addr) (u : HO) : Prop := H a = some u ∨ ∃ o, H a = some (.frz o u)
theorem Rd.of {H : Hp} {a : Addr} {u : HO} (h : H a = some u) : Rd H a u := .inl h
theorem Rd.ok {P : Program} {w : World} {H : Hp} {h : Heap} {a : Addr} {u : HO} (r : Rd H a u) (x : HOk P w H h) : ObjOk P w H h a u := by
  rcases r with r | ⟨o, r⟩
  · exact x a u r
  · obtain ⟨_, q⟩ := x a _ r
    exact q

def Mut : Option HO → Prop
  | some (.lst _) => True
  | some (.dK _) => True
  | some (.dT _) => True
  | some (.set _ _) => True
  | some (.ins _ _ _) => True
  | some (.ext _) => True
  | _ => False
section
variable {P : Program} {w : World} {H : Hp} {h h' : Heap} {x e : Addr} {o' : HO}

theorem HOk.write (ok : HOk P w H h) (mu : Mut (H x)) (he : e = x ∨ H e = some (.own x)) (k : ∀ b u, b ≠ e → h.get? b = some u → h'.get? b = some u) (heo : ∃ u, h'.get? e = some u)
    (new : ObjOk P w (upd H x o') h' x o') : HOk P w (upd H x o') h' := fun b u q => by
  have nown : ∀ c y, H c = some (.own y) → c ≠ x := fun c y r z => by subst z; rw [r] at mu; exact mu
  have ntup : ∀ c xs, H c = some (.tup xs) → c ≠ x := fun c xs r z => by subst z; rw [r] at mu; exact mu
  by_cases hb : b = x
  · subst hb; rw [upd_same] at q; cases q; exact new
  · rw [upd_ne hb] at q
    by_cases hbe : b = e
    · have q' : H b = some (.own x) := by
        rcases he with z | z
        · exact absurd (hbe.trans z) hb
        · rw [hbe]; exact z
      rw [q] at q'; cases q'
      obtain ⟨v, hv⟩ := heo
      exact ⟨v, by rw [hbe]; exact hv⟩
    · refine (ok b u q).stay (fun c v hc r => k c v ?_ r) (fun c r => by rw [upd_ne (nown c b r)]; exact r) fun c xs r => by rw [upd_ne (ntup c xs r)]; exact r
      rcases hc with rfl | hc
      · exact hbe
      · rintro rfl
        rcases he with z | z
        · exact nown c b hc z
        · rw [hc] at z; cases z; exact hb rfl
end


structure Un (fs ex : List Addr) (H H' : Hp) (h h' : Heap) : Prop where
  keep : ∀ b o, h.get? b = some o → H b = none → b ∉ fs → b ∉ ex → h'.get? b = some o
  slot : ∀ b o, h.get? b = some o → H b = none → b ∈ fs → b ∉ ex → ∃ sl, h'.get? b = some { o with slots := sl }
  free : ∀ b o, h.get? b = some o → H b = none → b ∉ ex → H' b = none
  there : ∀ b o, h.get? b = some o → b ∉ ex → ∃ o', h'.get? b = some o'
  tups : ∀ b xs, H b = some (.tup xs) → H' b = some (.tup xs)
  frzs : ∀ b o u, H b = some (.frz o u) → H' b = some (.frz o u)
  tbls : ∀ b ps, H b = some (.tbl ps) → ∃ more, H' b = some (.tbl (ps ++ more))
section
variable {fs fs' ex ex' : List Addr} {H H1 H2 : Hp} {h h1 h2 h' : Heap} {a x e : Addr} {o : HO}
theorem Un.any (u : Un fs ex H H1 h h1) {b : Addr} {ob : Obj} (q : h.get? b = some ob) (n : H b = none) (hx : b ∉ ex) : ∃ sl, h1.get? b = some { ob with slots := sl } := by
  by_cases hb : b ∈ fs
  · exact u.slot b ob q n hb hx
  · exact ⟨ob.slots, u.keep b ob q n hb hx⟩
theorem Un.trans (a : Un fs ex H H1 h h1) (b : Un fs ex H1 H2 h1 h2) : Un fs ex H H2 h h2 where
  keep := fun c ob q n hc hx => b.keep c ob (a.keep c ob q n hc hx) (a.free c ob q n hx) hc hx
  slot := fun c ob q n hc hx => by
    obtain ⟨sl, e1⟩ := a.slot c ob q n hc hx
    obtain ⟨sl', e2⟩ := b.slot c _ e1 (a.free c ob q n hx) hc hx
    exact ⟨sl', e2⟩
  free := fun c ob q n hx => by
    obtain ⟨o', e1⟩ := a.there c ob q hx
    exact b.free c o' e1 (a.free c ob q n hx) hx
  there := fun c ob q hx => by
    obtain ⟨o', e1⟩ := a.there c ob q hx
    exact b.there c o' e1 hx
  tups := fun c xs q => b.tups c xs (a.tups c xs q)
  frzs := fun c ob xs q => b.frzs c ob xs (a.frzs c ob xs q)
  tbls := fun c ps q => by
    obtain ⟨m1, e1⟩ := a.tbls c ps q
    obtain ⟨m2, e2⟩ := b.tbls c _ e1
    exact ⟨m1 ++ m2, by rw [e2, Array.append_assoc]⟩
theorem Un.kept (k : ∀ b u, h.get? b = some u → h'.get? b = some u) : Un fs ex H H h h' :=
  ⟨fun b ob q _ _ _ => k b ob q, fun b ob q _ _ _ => ⟨ob.slots, k b ob q⟩, fun _ _ _ n _ => n, fun b ob q _ => ⟨ob, k b ob q⟩, fun _ _ q => q, fun _ _ _ q => q, fun _ ps q => ⟨#[], by rw [q]; simp⟩⟩
theorem Un.refl : Un fs ex H H h h := Un.kept fun _ _ q => q
theorem Un.laid (k : ∀ b u, h.get? b = some u → h'.get? b = some u) (hp : h.objs.size ≤ a) (hn : H a = none) : Un fs ex H (upd H a o) h h' where
  keep := fun b u q _ _ _ => k b u q
  slot := fun b u q _ _ _ => ⟨u.slots, k b u q⟩
  free := fun b u q n _ => by rw [upd_ne (Nat.ne_of_lt (Nat.lt_of_lt_of_le (Heap.lt_size q) hp))]; exact n
  there := fun b u q _ => ⟨u, k b u q⟩
  tups := fun b xs q => by rw [upd_ne (ne_of_none q hn)]; exact q
  frzs := fun b u xs q => by rw [upd_ne (ne_of_none q hn)]; exact q
  tbls := fun b ps q => ⟨#[], by rw [upd_ne (ne_of_none q hn), q]; simp⟩
theorem Un.write (mu : Mut (H x)) (he : e = x ∨ H e = some (.own x)) (k : ∀ b u, b ≠ e → h.get? b = some u → h'.get? b = some u) (heo : ∃ u, h'.get? e = some u) : Un fs ex H (upd H x o) h h' := by
  have hx : ∀ b, H b = none → b ≠ x := fun b n z => by subst z; rw [n] at mu; exact mu
  have hb : ∀ b, H b = none → b ≠ e := fun b n z => by
    subst z
    rcases he with r | r
    · exact hx b n r
    · rw [n] at r; cases r
  have hm : ∀ b u, H b = some u → ¬ Mut (some u) → b ≠ x := fun b u q nm z => by subst z; rw [q] at mu; exact nm mu
  refine ⟨fun b u q n _ _ => k b u (hb b n) q, fun b u q n _ _ => ⟨u.slots, k b u (hb b n) q⟩, fun b u q n _ => by rw [upd_ne (hx b n)]; exact n, fun b u q _ => ?_,
    fun b xs q => by rw [upd_ne (hm b _ q fun z => z)]; exact q, fun b u xs q => by rw [upd_ne (hm b _ q fun z => z)]; exact q, fun b ps q => ⟨#[], by rw [upd_ne (hm b _ q fun z => z), q]; simp⟩⟩
  by_cases hbe : b = e
  · subst hbe; exact heo
  · exact ⟨u, k b u hbe q⟩
theorem Un.mono (u : Un fs ex H H1 h h1) (hs : ∀ b ∈ fs, b ∈ fs') (hx : ∀ b ∈ ex, b ∈ ex') : Un fs' ex' H H1 h h1 :=
  ⟨fun b ob q n hb he => u.keep b ob q n (fun z => hb (hs b z)) fun z => he (hx b z), fun _ _ q n _ he => u.any q n fun z => he (hx _ z), fun b ob q n he => u.free b ob q n fun z => he (hx b z), fun b ob q he => u.there b ob q fun z => he (hx b z), u.tups, u.frzs, u.tbls⟩
end


def trk (h : Heap) (H : Hp) : List Addr := (List.range h.objs.size).filter fun a => (H a).isSome
def hidT (h : Heap) (H : Hp) : Heap := PySem.W.hideAll h (trk h H)
theorem hidT_size (h : Heap) (H : Hp) : (hidT h H).objs.size = h.objs.size := PySem.W.hideAll_size _ _
theorem hidT_get {h : Heap} {H : Hp} {b : Addr} {o : Obj} (e : h.get? b = some o) (n : H b = none) : (hidT h H).get? b = some o :=
  PySem.W.hideAll_get _ e fun hm => by
    have q : (H b).isSome = true := (List.mem_filter.mp hm).2
    rw [n] at q; simp at q
theorem of_hidT {h : Heap} {H : Hp} {b : Addr} {o : Obj} (e : (hidT h H).get? b = some o) : h.get? b = some o ∧ H b = none := by
  have e' : h.get? b = some o := PySem.W.of_hideAll (trk h H) e
  refine ⟨e', ?_⟩
  cases q : H b with
  | none => rfl
  | some x =>
    have hm : b ∈ trk h H := List.mem_filter.mpr ⟨List.mem_range.mpr (Heap.lt_size e'), by simp [q]⟩
    have z : (hidT h H).get? b = none := PySem.W.hideAll_none (trk h H) hm
    rw [z] at e; cases e


def allNews (g h : Heap) (L : Addr) : List (Addr × Obj) := (List.range h.objs.size).filterMap fun a => if a = L ∨ (g.get? a).isSome = true then none else (h.get? a).map fun o => (a, o)
def rest (g h : Heap) (L d : Addr) : List (Addr × Obj) := (allNews g h L).filter fun p => decide (p.1 ≠ d)
end L2

namespace L2
open PySem PySem.Spec PyProof.Rows


structure Mod (K : PySem.W.Frag) (mg : Str → Option Value) (base : Heap) : Prop where
  kin : K.In base
  glob : base.Ns mainGlobals mg
  blt : ∃ mb, base.Ns builtinsNs mb ∧ ∀ x : Str, x ≠ "__name__" → mb x = bootBuiltins x
  nolimit : base.NoLimit


structure Cx where
  prog : Program
  w : World
  K : PySem.W.Frag
  mg : Str → Option Value
  base : Heap
  A : Around
  N : List Str
  s₀ : Shared
  H₀ : Hp
  env : Env
  outer : List Env
  stack : List Env
  ex : List Addr
  fn : Str → Bool
  calm : Bool
  pn : List (Addr × Obj)
  xe : Value → Shared → Prop

def frs (l : List Env) : List Addr := l.filterMap (·.frame)
abbrev Cx.fs (X : Cx) : List Addr := frs X.outer

def Vis (sc : Scope) (x : Str) : Prop := sc.names.lookup x = some .local ∨ sc.names.lookup x = some .cell ∨ sc.names.lookup x = some .free
def Loc (sc : Scope) (x : Str) : Prop := sc.names.lookup x = some .local ∨ sc.names.lookup x = some .cell
def Look (env : Env) (h : Heap) (m : Str → Option Value) (x : Str) (u : Value) : Prop :=
  (env.kindOf x = some .local ∧ m x = some u) ∨ ((env.kindOf x = some .cell ∨ env.kindOf x = some .free) ∧ ∃ c, env.cells.lookup x = some c ∧ h.IsCell c (some u))

structure Cx.Ok (X : Cx) : Prop where
  mod : Mod X.K X.mg X.base
  kind : X.env.scope.kind = .function
  glob : X.env.globals = mainGlobals
  blt : X.env.builtins = builtinsNs
  above : X.s₀.heap.objs.size ≤ X.env.locals
  inj : ∀ x y c, X.env.cells.lookup x = some c → X.env.cells.lookup y = some c → x = y
  has : ∀ x, (X.env.kindOf x = some .cell ∨ X.env.kindOf x = some .free) → ∃ c, X.env.cells.lookup x = some c
  cab : ∀ x c, X.fn x = true → X.env.cells.lookup x = some c → X.s₀.heap.objs.size ≤ c
  hd : X.calm = true → X.A.handled = none
  frames : X.A.frames = some X.stack
  stk : X.stack = X.outer ∨ (X.stack = X.env :: X.outer ∧ X.env.frame = some X.env.locals)
  exf : ∀ b ∈ X.ex, b ≠ X.env.locals ∧ ∀ x c, X.env.cells.lookup x = some c → c ≠ b
  bs : ∀ b o, X.base.get? b = some o → X.s₀.heap.get? b = some o ∧ X.H₀ b = none
  bsz : X.base.objs.size ≤ X.s₀.heap.objs.size
  noex : ∀ b o, X.base.get? b = some o → b ∉ X.ex
  exfs : ∀ b ∈ X.ex, b ∉ X.fs
  funs : X.s₀.heap.FunFrames X.base X.outer
  frf : ∀ b ∈ X.fs, X.H₀ b = none

structure Inv (X : Cx) (pins : List (Addr × Obj)) (σ : List (Option V)) (H : Hp) (s : Shared) : Prop where
  ok : X.Ok
  os : s.os = X.s₀.os
  bare : AllBare s.gens
  base : Un X.fs X.ex X.H₀ H X.s₀.heap s.heap
  loc : ∃ m, s.heap.Ns X.env.locals m ∧ ∀ (i : Nat) (x : Str) (v : V), X.N[i]? = some x → σ[i]? = some (some v) → Vis X.env.scope x → ∃ u, RelV v u ∧ Look X.env s.heap m x u
  cell : ∀ x c, X.env.cells.lookup x = some c → ∃ v, s.heap.IsCell c v
  free : H X.env.locals = none
  freeC : ∀ x c, X.env.cells.lookup x = some c → H c = none
  pin : ∀ p ∈ X.pn ++ pins, s.heap.get? p.1 = some p.2 ∧ H p.1 = none ∧ p.1 ≠ X.env.locals ∧ p.1 ∉ X.fs ∧ ∀ v, p.2.data ≠ .cell v
  hok : HOk X.prog X.w H s.heap
  len : σ.length = X.N.length

section
variable {X : Cx} {pins : List (Addr × Obj)} {σ : List (Option V)} {H H' : Hp} {s : Shared} {h' : Heap}

theorem Cx.Ok.nofr (ok : X.Ok) {b : Addr} {o : Obj} (e : X.base.get? b = some o) : b ∉ X.fs := fun hb => by
  have := (ok.funs.mem hb).1
  rw [e] at this; cases this
theorem Inv.bs (I : Inv X pins σ H s) : ∀ b o, X.base.get? b = some o → s.heap.get? b = some o ∧ H b = none := fun b o e =>
  ⟨I.base.keep b o (I.ok.bs b o e).1 (I.ok.bs b o e).2 (I.ok.nofr e) (I.ok.noex b o e), I.base.free b o (I.ok.bs b o e).1 (I.ok.bs b o e).2 (I.ok.noex b o e)⟩
theorem Inv.bk (I : Inv X pins σ H s) : ∀ b o, X.base.get? b = some o → s.heap.get? b = some o := fun b o e => (I.bs b o e).1
theorem Inv.mod (I : Inv X pins σ H s) : Mod X.K X.mg X.base := I.ok.mod
theorem Inv.kIn (I : Inv X pins σ H s) : X.K.In s.heap := I.ok.mod.kin.keeps I.bk
theorem Inv.nolimit (I : Inv X pins σ H s) : s.heap.NoLimit := I.ok.mod.nolimit.keeps I.bk

theorem Inv.fr (I : Inv X pins σ H s) : ∃ m, Fr X.base X.env.locals s.heap m :=
  let ⟨m, hn, _⟩ := I.loc
  ⟨m, hn, I.bk, Nat.le_trans I.ok.bsz I.ok.above⟩
theorem Inv.lt (I : Inv X pins σ H s) : X.env.locals < s.heap.objs.size := let ⟨_, hn, _⟩ := I.loc; hn.lt
theorem Inv.sz (I : Inv X pins σ H s) : X.s₀.heap.objs.size ≤ s.heap.objs.size := Nat.le_trans I.ok.above (Nat.le_of_lt I.lt)
theorem Inv.nofs (I : Inv X pins σ H s) {a : Addr} (h : s.heap.objs.size ≤ a) : a ∉ X.fs := fun hb => by
  obtain ⟨_, o, ho, _⟩ := I.ok.funs.mem hb
  exact absurd (Nat.lt_of_lt_of_le (Heap.lt_size ho) (Nat.le_trans I.sz h)) (Nat.lt_irrefl _)
theorem Inv.cne (I : Inv X pins σ H s) : ∀ x c, X.env.cells.lookup x = some c → c ≠ X.env.locals := fun x c e z => by
  obtain ⟨v, o, ho, hd⟩ := I.cell x c e
  obtain ⟨m, ⟨o', es, ep, ho', hd', _⟩, _⟩ := I.loc
  rw [z, ho'] at ho; cases ho; rw [hd'] at hd; cases hd
theorem Inv.funs (I : Inv X pins σ H s) : s.heap.FunFrames X.base X.outer := by
  have all : ∀ (l : List Env), (∀ b ∈ frs l, b ∈ X.fs) → X.s₀.heap.FunFrames X.base l → s.heap.FunFrames X.base l := by
    intro l
    induction l with
    | nil => intro _ _; trivial
    | cons env r ih =>
      intro hs hl
      obtain ⟨hk, ⟨L, o, hf, hn, ho, hd⟩, hr⟩ := hl
      have hL : L ∈ X.fs := hs L (by unfold frs; rw [List.filterMap_cons, hf]; exact List.mem_cons_self)
      obtain ⟨sl, e⟩ := I.base.slot L o ho (I.ok.frf L hL) hL fun z => I.ok.exfs L z hL
      exact ⟨hk, ⟨L, _, hf, hn, e, hd⟩, ih (fun b hb => hs b (by unfold frs; rw [List.filterMap_cons, hf]; exact List.mem_cons_of_mem _ hb)) hr⟩
  exact all X.outer (fun _ hb => hb) I.ok.funs


theorem Inv.stack (I : Inv X pins σ H s) : s.heap.FunFrames X.base X.stack := by
  rcases I.ok.stk with e | ⟨e, hf⟩
  · rw [e]; exact I.funs
  · rw [e]
    obtain ⟨m, hn, _⟩ := I.loc
    refine .cons (by rw [I.ok.kind]; decide) hf hn ?_ I.funs
    exact Heap.get?_none_of_le (Nat.le_trans I.ok.bsz I.ok.above)
theorem Inv.stkSub (I : Inv X pins σ H s) : ∀ b ∈ frs X.stack, b ∈ X.env.locals :: X.fs := fun b hb => by
  rcases I.ok.stk with e | ⟨e, hf⟩
  · rw [e] at hb; exact List.mem_cons_of_mem _ hb
  · rw [e] at hb
    unfold frs at hb
    rw [List.filterMap_cons, hf] at hb
    exact hb
theorem Inv.stkFree (I : Inv X pins σ H s) : ∀ b ∈ frs X.stack, H b = none := fun b hb => by
  rcases List.mem_cons.mp (I.stkSub b hb) with e | hb
  · rw [e]; exact I.free
  · obtain ⟨_, o, ho, _⟩ := I.ok.funs.mem hb
    exact I.base.free b o ho (I.ok.frf b hb) fun z => I.ok.exfs b z hb


theorem Inv.step {g' : Array GenState} {t' : Nat} {d' : Drawn} {ch : List Addr} (I : Inv X pins σ H s)
    (hch : ∀ b ∈ ch, (b ∈ X.ex ∨ X.s₀.heap.objs.size ≤ b) ∧ b ≠ X.env.locals ∧ (∀ x c, X.env.cells.lookup x = some c → c ≠ b) ∧ ∀ p ∈ X.pn ++ pins, p.1 ≠ b)
    (keep : ∀ b o, b ≠ X.env.locals → b ∉ X.fs → b ∉ ch → s.heap.get? b = some o → H b = none → h'.get? b = some o)
    (slot : ∀ b o, b ≠ X.env.locals → b ∈ X.fs → b ∉ ch → s.heap.get? b = some o → H b = none → ∃ sl, h'.get? b = some { o with slots := sl }) (free : ∀ b o, b ∉ ch → s.heap.get? b = some o → H b = none → H' b = none)
    (there : ∀ b o, b ∉ ch → s.heap.get? b = some o → ∃ o', h'.get? b = some o')
    (tups : ∀ b xs, H b = some (.tup xs) → H' b = some (.tup xs)) (frzs : ∀ b o u, H b = some (.frz o u) → H' b = some (.frz o u)) (tbls : ∀ b ps, H b = some (.tbl ps) → ∃ more, H' b = some (.tbl (ps ++ more)))
    (ns : ∀ m, s.heap.Ns X.env.locals m → h'.Ns X.env.locals m) (hok : HOk X.prog X.w H' h') (hg : AllBare g') :
    Inv X pins σ H' { s with heap := h', gens := g', drawn := d', toks := t' } := by
  have neL : ∀ b o, X.s₀.heap.get? b = some o → b ≠ X.env.locals := fun b o e => Nat.ne_of_lt (Nat.lt_of_lt_of_le (Heap.lt_size e) I.ok.above)
  have neC : ∀ b o, X.s₀.heap.get? b = some o → b ∉ X.ex → b ∉ ch := fun b o e hx hb => by
    rcases (hch b hb).1 with z | z
    · exact hx z
    · exact absurd (Nat.lt_of_lt_of_le (Heap.lt_size e) z) (Nat.lt_irrefl _)
  have cellK : ∀ x c, X.env.cells.lookup x = some c → ∀ v, s.heap.IsCell c v → h'.IsCell c v := fun x c e v ⟨o, ho, hd⟩ => by
    have nch : c ∉ ch := fun z => (hch c z).2.2.1 x c e rfl
    by_cases hc : c ∈ X.fs
    · obtain ⟨sl, q⟩ := slot c o (I.cne x c e) hc nch ho (I.freeC x c e)
      exact ⟨_, q, hd⟩
    · exact ⟨o, keep c o (I.cne x c e) hc nch ho (I.freeC x c e), hd⟩
  refine ⟨I.ok, I.os, hg, ⟨fun b o e n hb hx => ?_, fun b o e n hb hx => ?_, fun b o e n hx => ?_, fun b o e hx => ?_, fun b xs e => tups b xs (I.base.tups b xs e), fun b o xs e => frzs b o xs (I.base.frzs b o xs e), fun b ps e => ?_⟩, ?_, fun x c e => ?_, ?_, fun x c e => ?_, fun p hp => ?_, hok, I.len⟩
  · exact keep b o (neL b o e) hb (neC b o e hx) (I.base.keep b o e n hb hx) (I.base.free b o e n hx)
  · obtain ⟨sl, e1⟩ := I.base.slot b o e n hb hx
    obtain ⟨sl', e2⟩ := slot b _ (neL b o e) hb (neC b o e hx) e1 (I.base.free b o e n hx)
    exact ⟨sl', e2⟩
  · obtain ⟨o', e1⟩ := I.base.there b o e hx
    exact free b o' (neC b o e hx) e1 (I.base.free b o e n hx)
  · obtain ⟨o', e1⟩ := I.base.there b o e hx
    exact there b o' (neC b o e hx) e1
  · obtain ⟨m1, e1⟩ := I.base.tbls b ps e
    obtain ⟨m2, e2⟩ := tbls b _ e1
    exact ⟨m1 ++ m2, by rw [e2, Array.append_assoc]⟩
  · obtain ⟨m, hn, hl⟩ := I.loc
    refine ⟨m, ns m hn, fun i x v e1 e2 e3 => ?_⟩
    obtain ⟨u, r, l⟩ := hl i x v e1 e2 e3
    refine ⟨u, r, ?_⟩
    rcases l with l | ⟨k, c, e, z⟩
    · exact .inl l
    · exact .inr ⟨k, c, e, cellK x c e _ z⟩
  · obtain ⟨v, z⟩ := I.cell x c e
    exact ⟨v, cellK x c e v z⟩
  · obtain ⟨m, ⟨o, _, _, ho, _⟩, _⟩ := I.loc
    exact free _ o (fun z => (hch _ z).2.1 rfl) ho I.free
  · obtain ⟨v, o, ho, hd⟩ := I.cell x c e
    exact free c o (fun z => (hch c z).2.2.1 x c e rfl) ho (I.freeC x c e)
  · obtain ⟨e, n, ne, nf, d⟩ := I.pin p hp
    have nch : p.1 ∉ ch := fun z => (hch p.1 z).2.2.2 p hp rfl
    exact ⟨keep p.1 p.2 ne nf nch e n, free p.1 p.2 nch e n, ne, nf, d⟩

theorem Inv.un {t' : Nat} (I : Inv X pins σ H s) (u : Un X.fs [] H H' s.heap h') (hok : HOk X.prog X.w H' h') : Inv X pins σ H' { s with heap := h', toks := t' } := by
  obtain ⟨m, ⟨o, es, ep, ho, r⟩, _⟩ := id I.loc
  obtain ⟨sl, hL⟩ := u.any ho I.free (by simp)
  exact I.step (g' := s.gens) (d' := s.drawn) (ch := []) (fun _ z => nomatch z) (fun b o _ hb _ e n => u.keep b o e n hb (by simp)) (fun b o _ hb _ e n => u.slot b o e n hb (by simp)) (fun b o _ e n => u.free b o e n (by simp)) (fun b o _ e => u.there b o e (by simp)) u.tups u.frzs u.tbls (fun m' hm => by
    obtain ⟨o', es', ep', ho', r'⟩ := hm
    rw [ho] at ho'; cases ho'
    exact ⟨_, es', ep', hL, r'⟩) hok I.bare

theorem Inv.call {g' : Array GenState} {t' : Nat} {d' : Drawn} {ch : List Addr} (I : Inv X pins σ H s) (u : Un (frs X.stack) ch H H' s.heap h') (hok : HOk X.prog X.w H' h') (hg : AllBare g')
    (hch : ∀ b ∈ ch, (b ∈ X.ex ∨ X.s₀.heap.objs.size ≤ b) ∧ b ≠ X.env.locals ∧ (∀ x c, X.env.cells.lookup x = some c → c ≠ b) ∧ ∀ p ∈ X.pn ++ pins, p.1 ≠ b) :
    Inv X pins σ H' { s with heap := h', gens := g', drawn := d', toks := t' } := by
  obtain ⟨m, ⟨o, es, ep, ho, r⟩, _⟩ := id I.loc
  obtain ⟨sl, hL⟩ := u.any ho I.free fun z => (hch _ z).2.1 rfl
  exact I.step (ch := ch) hch (fun b o hL hb hc e n => u.keep b o e n (fun z => (List.mem_cons.mp (I.stkSub b z)).elim hL hb) hc) (fun b o _ _ hc e n => u.any e n hc) (fun b o hc e n => u.free b o e n hc) (fun b o hc e => u.there b o e hc) u.tups u.frzs u.tbls (fun m' hm => by
    obtain ⟨o', es', ep', ho', r'⟩ := hm
    rw [ho] at ho'; cases ho'
    exact ⟨_, es', ep', hL, r'⟩) hok hg

theorem Inv.turned {t' : Nat} {it : Addr} (I : Inv X pins σ H s) (k : ∀ b o, b ≠ it → s.heap.get? b = some o → h'.get? b = some o) (hn : H it = none) (hL : it ≠ X.env.locals)
    (h1 : it ∈ X.ex ∨ X.s₀.heap.objs.size ≤ it) (h2 : ∀ x c, X.env.cells.lookup x = some c → c ≠ it) (h3 : ∀ p ∈ X.pn ++ pins, p.1 ≠ it) : Inv X pins σ H { s with heap := h', toks := t' } := by
  have nit : ∀ b u, H b = some u → b ≠ it := fun b u e z => by rw [z, hn] at e; cases e
  refine I.step (g' := s.gens) (d' := s.drawn) (ch := [it]) (fun b hb => ?_) (fun b o _ _ hc e _ => k b o (fun z => hc (by simp [z])) e) (fun b o _ _ hc e _ => ⟨o.slots, k b o (fun z => hc (by simp [z])) e⟩) (fun _ _ _ _ n => n)
    (fun b o hc e => ⟨o, k b o (fun z => hc (by simp [z])) e⟩) (fun _ _ e => e) (fun _ _ _ e => e) (fun b ps e => ⟨#[], by rw [e]; simp⟩) (fun m hm => ?_) (fun b u e => ?_) I.bare
  · have e : b = it := by simpa using hb
    subst e
    exact ⟨h1, hL, h2, h3⟩
  · obtain ⟨o, es, ep, ho, r⟩ := hm
    exact ⟨o, es, ep, k _ o (Ne.symm hL) ho, r⟩
  · refine (I.hok b u e).stay (fun c v hc q => k c v ?_ q) (fun _ q => q) fun _ _ q => q
    rcases hc with z | z
    · rw [z]; exact nit b u e
    · exact nit c _ z
theorem Inv.tok (I : Inv X pins σ H s) (t : Nat) : Inv X pins σ H { s with toks := t } := I.un (h' := s.heap) (t' := t) Un.refl I.hok

theorem Inv.kept {t' : Nat} (I : Inv X pins σ H s) (k : ∀ b u, s.heap.get? b = some u → h'.get? b = some u) : Inv X pins σ H { s with heap := h', toks := t' } := I.un (Un.kept k) (I.hok.kept k)

theorem Inv.laid {a : Addr} {o : HO} {t' : Nat} (I : Inv X pins σ H s) (k : ∀ b u, s.heap.get? b = some u → h'.get? b = some u) (hp : s.heap.objs.size ≤ a) (new : ObjOk X.prog X.w (upd H a o) h' a o) :
    Inv X pins σ (upd H a o) { s with heap := h', toks := t' } := I.un (Un.laid k hp (I.hok.fresh hp)) (I.hok.laid k hp new)

theorem Inv.write {x e : Addr} {o : HO} {t' : Nat} (I : Inv X pins σ H s) (mu : Mut (H x)) (he : e = x ∨ H e = some (.own x)) (k : ∀ b u, b ≠ e → s.heap.get? b = some u → h'.get? b = some u) (heo : ∃ u, h'.get? e = some u)
    (new : ObjOk X.prog X.w (upd H x o) h' x o) : Inv X pins σ (upd H x o) { s with heap := h', toks := t' } := I.un (Un.write mu he k heo) (I.hok.write mu he k heo new)

theorem Inv.weak {σ' : List (Option V)} (I : Inv X pins σ H s) (hl : σ'.length = σ.length) (w : ∀ (i : Nat) v, σ'[i]? = some (some v) → σ[i]? = some (some v)) : Inv X pins σ' H s :=
  ⟨I.ok, I.os, I.bare, I.base, let ⟨m, hn, hl'⟩ := I.loc; ⟨m, hn, fun i x v e1 e2 e3 => hl' i x v e1 (w i v e2) e3⟩, I.cell, I.free, I.freeC, I.pin, I.hok, hl.trans I.len⟩
theorem Inv.pins_of {pins' : List (Addr × Obj)} (I : Inv X pins σ H s) (h : ∀ p ∈ pins', s.heap.get? p.1 = some p.2 ∧ H p.1 = none ∧ p.1 ≠ X.env.locals ∧ p.1 ∉ X.fs ∧ ∀ v, p.2.data ≠ .cell v) : Inv X pins' σ H s :=
  ⟨I.ok, I.os, I.bare, I.base, I.loc, I.cell, I.free, I.freeC, fun p hp => (List.mem_append.mp hp).elim (fun z => I.pin p (List.mem_append_left _ z)) (h p), I.hok, I.len⟩

theorem nodup_ix {N : List Str} (hN : N.Nodup) {i j : Nat} {x : Str} (a : N[i]? = some x) (b : N[j]? = some x) : i = j := by
  obtain ⟨h1, e1⟩ := List.getElem?_eq_some_iff.mp a
  obtain ⟨h2, e2⟩ := List.getElem?_eq_some_iff.mp b
  exact (List.getElem_inj hN).mp (e1.trans e2.symm)


theorem store_ok2 {M : Model} {A : Around} {E : Value → Shared → Prop} {i : Nat} {x : Str} {v : V} {u : Value} {Q : Unit → Shared → Prop} (I : Inv X pins σ H s) (hN : X.N.Nodup) (hi : X.N[i]? = some x) (hx : Loc X.env.scope x) (r : RelV v u)
    (h : ∀ s', Inv X pins (σ.set i (some v)) H s' → (∃ a, Heap.SameBut a s.heap s'.heap ∧ (a = X.env.locals ∨ X.env.cells.lookup x = some a)) → Q () s') (hf : X.fn x = true ∨ X.env.scope.names.lookup x = some .local := by first | exact .inl rfl | exact .inr rfl | assumption) : wpAny M A (storeName X.env x u) Q E s := by
  obtain ⟨m, hn, hl⟩ := id I.loc
  have hcls : (X.env.scope.kind == .class || (X.env.scope.kind == .module && X.env.locals != X.env.globals)) = false := by rw [I.ok.kind]; rfl
  have hiσ : i < σ.length := by rw [I.len]; exact (List.getElem?_eq_some_iff.mp hi).1
  have cne := I.cne
  have tracked : ∀ {a : Addr} {h' : Heap}, (∃ o, s.heap.get? a = some o ∧ H a = none) → Heap.SameBut a s.heap h' → HOk X.prog X.w H h' := fun {a h'} ha hs b ob e => by
    obtain ⟨_, _, hfree⟩ := ha
    refine (I.hok b ob e).stay (fun c w' hc q => (hs.2 c ?_).trans q) (fun _ q => q) fun _ _ q => q
    rintro rfl
    rcases hc with rfl | hc
    · rw [hfree] at e; cases e
    · rw [hfree] at hc; cases hc
  rcases hx with hk | hk
  · refine wpAny_storeName_local hk hn (fun h' hn' hs => ?_) hcls
    obtain ⟨oL, _, _, hoL, _⟩ := id hn
    refine h _ ⟨I.ok, I.os, I.bare, ⟨fun b o e n hb hx => ?_, fun b o e n hb hx => ?_, I.base.free, fun b o e hx => ?_, I.base.tups, I.base.frzs, I.base.tbls⟩, ⟨_, hn', fun j y v' e1 e2 e3 => ?_⟩, fun y c e => ?_, I.free, I.freeC, fun p hp => ?_, tracked ⟨oL, hoL, I.free⟩ hs, by simpa using I.len⟩ ⟨_, hs, .inl rfl⟩
    · exact (hs.2 b (Nat.ne_of_lt (Nat.lt_of_lt_of_le (Heap.lt_size e) I.ok.above))).trans (I.base.keep b o e n hb hx)
    · obtain ⟨sl, e1⟩ := I.base.slot b o e n hb hx
      exact ⟨sl, (hs.2 b (Nat.ne_of_lt (Nat.lt_of_lt_of_le (Heap.lt_size e) I.ok.above))).trans e1⟩
    · obtain ⟨o', e1⟩ := I.base.there b o e hx
      exact ⟨o', (hs.2 b (Nat.ne_of_lt (Nat.lt_of_lt_of_le (Heap.lt_size e) I.ok.above))).trans e1⟩
    · by_cases hj : j = i
      · subst hj
        rw [hi] at e1; cases e1
        rw [List.getElem?_set_self hiσ] at e2
        cases e2
        exact ⟨u, r, .inl ⟨hk, by simp⟩⟩
      · rw [List.getElem?_set_ne (Ne.symm hj)] at e2
        obtain ⟨u', r', q⟩ := hl j y v' e1 e2 e3
        refine ⟨u', r', ?_⟩
        rcases q with ⟨k, e⟩ | ⟨k, c, e, z⟩
        · refine .inl ⟨k, ?_⟩
          have : y ≠ x := fun e => hj (nodup_ix hN e1 (e ▸ hi))
          simp [this, e]
        · exact .inr ⟨k, c, e, z.sameBut hs (cne y c e)⟩
    · obtain ⟨w', z⟩ := I.cell y c e
      exact ⟨w', z.sameBut hs (cne y c e)⟩
    · obtain ⟨e, n, ne, nf, d⟩ := I.pin p hp
      exact ⟨(hs.2 p.1 ne).trans e, n, ne, nf, d⟩
  · have hfn : X.fn x = true := by
      rcases hf with z | z
      · exact z
      · rw [z] at hk; cases hk
    obtain ⟨c, hc⟩ := I.ok.has x (.inl hk)
    obtain ⟨w', z⟩ := I.cell x c hc
    refine wpAny_storeName_cell I.ok.kind hk hc z (fun h' hc' hs => ?_)
    obtain ⟨oc, hoc, hocd⟩ := id z
    refine h { s with heap := h' } ⟨I.ok, I.os, I.bare, ⟨fun b o e n hb hx => ?_, fun b o e n hb hx => ?_, I.base.free, fun b o e hx => ?_, I.base.tups, I.base.frzs, I.base.tbls⟩, ⟨m, hn.sameBut hs (Ne.symm (cne x c hc)), fun j y v' e1 e2 e3 => ?_⟩, fun y c' e => ?_, I.free, I.freeC, fun p hp => ?_, tracked ⟨oc, hoc, I.freeC x c hc⟩ hs, by simpa using I.len⟩ ⟨c, hs, .inr hc⟩
    · exact (hs.2 b (Nat.ne_of_lt (Nat.lt_of_lt_of_le (Heap.lt_size e) (I.ok.cab x c hfn hc)))).trans (I.base.keep b o e n hb hx)
    · obtain ⟨sl, e1⟩ := I.base.slot b o e n hb hx
      exact ⟨sl, (hs.2 b (Nat.ne_of_lt (Nat.lt_of_lt_of_le (Heap.lt_size e) (I.ok.cab x c hfn hc)))).trans e1⟩
    · obtain ⟨o', e1⟩ := I.base.there b o e hx
      exact ⟨o', (hs.2 b (Nat.ne_of_lt (Nat.lt_of_lt_of_le (Heap.lt_size e) (I.ok.cab x c hfn hc)))).trans e1⟩
    · by_cases hj : j = i
      · subst hj
        rw [hi] at e1; cases e1
        rw [List.getElem?_set_self hiσ] at e2
        cases e2
        exact ⟨u, r, .inr ⟨.inl hk, c, hc, hc'⟩⟩
      · rw [List.getElem?_set_ne (Ne.symm hj)] at e2
        obtain ⟨u', r', q⟩ := hl j y v' e1 e2 e3
        refine ⟨u', r', ?_⟩
        rcases q with q | ⟨k, c', e, z'⟩
        · exact .inl q
        · refine .inr ⟨k, c', e, z'.sameBut hs ?_⟩
          rintro rfl
          exact hj (nodup_ix hN e1 (I.ok.inj _ _ _ e hc ▸ hi))
    · by_cases hcc : c' = c
      · subst hcc; exact ⟨_, hc'⟩
      · obtain ⟨w2, z2⟩ := I.cell y c' e
        exact ⟨w2, z2.sameBut hs hcc⟩
    · obtain ⟨e, n, ne, nf, d⟩ := I.pin p hp
      refine ⟨(hs.2 p.1 ?_).trans e, n, ne, nf, d⟩
      intro q
      rw [q, hoc] at e
      have q' : oc = p.2 := Option.some.inj e
      exact d w' (by rw [← q']; exact hocd)
theorem store_ok {M : Model} {A : Around} {E : Value → Shared → Prop} {i : Nat} {x : Str} {v : V} {u : Value} {Q : Unit → Shared → Prop} (I : Inv X pins σ H s) (hN : X.N.Nodup) (hi : X.N[i]? = some x) (hx : Loc X.env.scope x) (r : RelV v u)
    (h : ∀ s', Inv X pins (σ.set i (some v)) H s' → Q () s') (hf : X.fn x = true ∨ X.env.scope.names.lookup x = some .local := by first | exact .inl rfl | exact .inr rfl | assumption) : wpAny M A (storeName X.env x u) Q E s :=
  store_ok2 I hN hi hx r (fun s' I' _ => h s' I') hf

theorem Inv.call' {s' : Shared} {ch : List Addr} (I : Inv X pins σ H s) (ho : s'.os = s.os) (u : Un (frs X.stack) ch H H' s.heap s'.heap) (hok : HOk X.prog X.w H' s'.heap) (hg : AllBare s'.gens)
    (hch : ∀ b ∈ ch, (b ∈ X.ex ∨ X.s₀.heap.objs.size ≤ b) ∧ b ≠ X.env.locals ∧ (∀ x c, X.env.cells.lookup x = some c → c ≠ b) ∧ ∀ p ∈ X.pn ++ pins, p.1 ≠ b) : Inv X pins σ H' s' := by
  obtain ⟨h', g', d', t', o'⟩ := s'
  have e : o' = s.os := ho
  subst e
  exact I.call (g' := g') (t' := t') (d' := d') u hok hg hch
end



abbrev XK := Value → Option Addr → Hp → Prop
abbrev St := List (Option V)
abbrev VK := V → Hp → Prop

abbrev TE := St → Hp → VK → Prop
abbrev TT := St → Hp → (Bool → Hp → Prop) → Prop
abbrev TA := St → Hp → (List V → Hp → Prop) → Prop

structure Ends where
  nx : St → Hp → Prop
  rt : VK
  bk : St → Hp → Prop := fun _ _ => False
  ct : St → Hp → Prop := fun _ _ => False
abbrev TS := Ends → St → Hp → Prop

def EP (X : Cx) (pins : List (Addr × Obj)) (σ : St) (Q : VK) (u : Value) (s' : Shared) : Prop := ∃ v H', Inv X pins σ H' s' ∧ RelV v u ∧ Q v H'
def TP (X : Cx) (pins : List (Addr × Obj)) (σ : St) (Q : Bool → Hp → Prop) (b : Bool) (s' : Shared) : Prop := ∃ H', Inv X pins σ H' s' ∧ Q b H'
def AP (X : Cx) (pins : List (Addr × Obj)) (σ : St) (Q : List V → Hp → Prop) (us : List Value) (s' : Shared) : Prop := ∃ vs H', Inv X pins σ H' s' ∧ Vals vs us ∧ Q vs H'
def SP (X : Cx) (pins : List (Addr × Obj)) (D : Ends) (f : Flow) (s' : Shared) : Prop :=
  match f with
  | .next => ∃ σ' H', Inv X pins σ' H' s' ∧ D.nx σ' H'
  | .brk => ∃ σ' H', Inv X pins σ' H' s' ∧ D.bk σ' H'
  | .cont => ∃ σ' H', Inv X pins σ' H' s' ∧ D.ct σ' H'
  | .ret u => ∃ v σ' H', Inv X pins σ' H' s' ∧ RelV v u ∧ D.rt v H'

def PE (X : Cx) (e : Expr) (t : TE) : Prop :=
  ∀ (pins : List (Addr × Obj)) (s : Shared) (σ : St) (H : Hp) (Q : VK), Inv X pins σ H s → t σ H Q → wpAny (model X.prog X.w) X.A (eval e X.env) (EP X pins σ Q) X.xe s
def PT (X : Cx) (e : Expr) (t : TT) : Prop :=
  ∀ (pins : List (Addr × Obj)) (s : Shared) (σ : St) (H : Hp) (Q : Bool → Hp → Prop), Inv X pins σ H s → t σ H Q → wpAny (model X.prog X.w) X.A (isTrue e X.env (eval e X.env)) (TP X pins σ Q) X.xe s

def PW (X : Cx) (e : Expr) (t : TT) : Prop :=
  ∀ (whole : Sem Value) (pins : List (Addr × Obj)) (s : Shared) (σ : St) (H : Hp) (Q : Bool → Hp → Prop), Inv X pins σ H s → t σ H Q → wpAny (model X.prog X.w) X.A (isTrue e X.env whole) (TP X pins σ Q) X.xe s
theorem PW.pt {X : Cx} {e : Expr} {t : TT} (h : PW X e t) : PT X e t := h _

def PA (X : Cx) (es : List Expr) (t : TA) : Prop :=
  ∀ (pos : Pos) (pins : List (Addr × Obj)) (s : Shared) (σ : St) (H : Hp) (Q : List V → Hp → Prop), Inv X pins σ H s → t σ H Q → wpAny (model X.prog X.w) X.A (spliced (backTo pos (starEach es X.env))) (AP X pins σ Q) X.xe s
def PS (X : Cx) (st : Stmt) (t : TS) : Prop :=
  ∀ (pins : List (Addr × Obj)) (s : Shared) (σ : St) (H : Hp) (D : Ends), Inv X pins σ H s → t D σ H → wpAny (model X.prog X.w) X.A (exec st X.env) (SP X pins D) X.xe s
def PSs (X : Cx) (st : List Stmt) (t : TS) : Prop :=
  ∀ (pins : List (Addr × Obj)) (s : Shared) (σ : St) (H : Hp) (D : Ends), Inv X pins σ H s → t D σ H → wpAny (model X.prog X.w) X.A (execs st X.env) (SP X pins D) X.xe s

theorem thn {α : Type} {t : Sem α} {Q Q' : α → Shared → Prop} {M : Model} {A : Around} {E : Value → Shared → Prop} {s : Shared} (h : wpAny M A t Q E s) (hQ : ∀ a s, Q a s → Q' a s) : wpAny M A t Q' E s := wpAny_mono h hQ fun _ _ x => x
end L2

namespace L2
open PySem PySem.Spec PyProof.Rows
section
variable {X : Cx}


def tVar (i : Nat) : TE := fun σ H Q => ∃ v, σ[i]? = some (some v) ∧ Q v H
def tC (v : V) : TE := fun _ H Q => Q v H
theorem pe_var {i : Nat} {x : Str} {pos : Pos} (hN : X.N[i]? = some x) (hv : Vis X.env.scope x) (hd : (x == ("__debug__" : Str)) = false := by decide) (hcd : (x == ("__classdict__" : Str)) = false := by decide) : PE X (.Name x pos) (tVar i) := by
  intro pins s σ H Q I h
  obtain ⟨v, e, h⟩ := h
  obtain ⟨m, hn, hl⟩ := I.loc
  obtain ⟨u, r, l⟩ := hl i x v hN e hv
  have fin : EP X pins σ Q u s := ⟨v, H, I, r, h⟩
  rcases l with ⟨hk, hm⟩ | ⟨hk, c, hc, hcell⟩
  · exact wpAny_Name (wpAny_loadName_local I.ok.kind hk hn hm fin) hd
  · rcases hk with hk | hk
    · exact wpAny_Name (wpAny_loadName_cell I.ok.kind hk hc hcell fin) hd
    · exact wpAny_Name (wpAny_loadName_free I.ok.kind hk hc hcell fin hcd) hd
theorem pe_int {i j pos} : PE X (.Constant (.int i) j pos) (tC (.int i)) := fun _ _ _ H _ I h => wpAny_Constant_int ⟨.int i, H, I.tok _, ⟨_, rfl⟩, h⟩
theorem pe_bl {b j pos} : PE X (.Constant (.bool b) j pos) (tC (.bl b)) := fun _ _ _ H _ I h => Constant_bool ⟨.bl b, H, I, rfl, h⟩
theorem pe_non {j pos} : PE X (.Constant .none j pos) (tC .non) := fun _ _ _ H _ I h => Constant_none ⟨.non, H, I, rfl, h⟩
theorem pe_str {x j pos} : PE X (.Constant (.str x) j pos) (tC (.str x)) := fun _ _ _ H _ I h => Calls.Constant_str ⟨.str x, H, I.tok _, ⟨_, rfl⟩, h⟩


def Gl (X : Cx) (x : Str) : Prop := X.env.kindOf x = some .globalImplicit
theorem ld_glob {E : Value → Shared → Prop} {pins : List (Addr × Obj)} {s : Shared} {σ : St} {H : Hp} {x : Str} {u : Value} {pos : Pos} {Q : Value → Shared → Prop} (I : Inv X pins σ H s) (hg : Gl X x) (hm : X.mg x = some u) (h : Q u s)
    (hd : (x == ("__debug__" : Str)) = false := by decide) : wpAny (model X.prog X.w) X.A (eval (.Name x pos) X.env) Q E s :=
  Calls.Name_function_global I.ok.kind hg (Calls.loadGlobal_global (by rw [I.ok.glob]; exact I.mod.glob.keeps I.bk) hm h) hd
theorem ld_blt {E : Value → Shared → Prop} {pins : List (Addr × Obj)} {s : Shared} {σ : St} {H : Hp} {x : Str} {u : Value} {pos : Pos} {Q : Value → Shared → Prop} (I : Inv X pins σ H s) (hg : Gl X x) (hm : X.mg x = none) (hv : bootBuiltins x = some u) (h : Q u s)
    (hn : x ≠ "__name__" := by decide) (hd : (x == ("__debug__" : Str)) = false := by decide) : wpAny (model X.prog X.w) X.A (eval (.Name x pos) X.env) Q E s := by
  obtain ⟨mb, h1, h2⟩ := I.mod.blt
  exact Calls.Name_function_global I.ok.kind hg (Calls.loadGlobal_builtin (by rw [I.ok.glob]; exact I.mod.glob.keeps I.bk) hm (by rw [I.ok.blt]; exact h1.keeps I.bk) ((h2 x hn).trans hv) h) hd

theorem pe_glob {x : Str} {v : V} {u : Value} {pos : Pos} (hg : Gl X x) (hm : X.mg x = some u) (r : RelV v u) (hd : (x == ("__debug__" : Str)) = false := by decide) : PE X (.Name x pos) (tC v) :=
  fun _ _ _ H _ I h => ld_glob I hg hm ⟨v, H, I, r, h⟩ hd
theorem pe_bltn {x : Str} {v : V} {u : Value} {pos : Pos} (hg : Gl X x) (hm : X.mg x = none) (hv : bootBuiltins x = some u) (r : RelV v u) (hn : x ≠ "__name__" := by decide) (hd : (x == ("__debug__" : Str)) = false := by decide) : PE X (.Name x pos) (tC v) :=
  fun _ _ _ H _ I h => ld_blt I hg hm hv ⟨v, H, I, r, h⟩ hn hd



variable {a b : Expr} {ta tb : TE} {pos : Pos}
def PC (X : Cx) (op : CmpOp) (a b : Expr) (t : TE) : Prop :=
  ∀ (pins : List (Addr × Obj)) (s : Shared) (σ : St) (H : Hp) (Q : VK), Inv X pins σ H s → t σ H Q →
    wpAny (model X.prog X.w) X.A (eval a X.env) (fun v s₁ => wpAny (model X.prog X.w) X.A (eval b X.env) (fun u s₂ => wpAny (model X.prog X.w) X.A (compareOp op v u) (EP X pins σ Q) X.xe s₂) X.xe s₁) X.xe s
theorem nobehind (b : Expr) {op : CmpOp} (h : op ≠ .In) (h2 : op ≠ .NotIn) : behindInMarks op b = false := by
  have e1 : (op == CmpOp.In) = false := by cases op <;> first | rfl | exact absurd rfl h
  have e2 : (op == CmpOp.NotIn) = false := by cases op <;> first | rfl | exact absurd rfl h2
  cases b <;> simp [behindInMarks, e1, e2]
def tIsN (ta : TE) : TE := fun σ H Q => ta σ H fun x H1 => Q (.bl (decide (x = .non))) H1
def tNotN (ta : TE) : TE := fun σ H Q => ta σ H fun x H1 => Q (.bl (!decide (x = .non))) H1
theorem RelV.none_iff {x : V} {v : Value} (r : RelV x v) : (v == Value.none) = decide (x = .non) := by
  cases x with
  | non => cases r; rfl
  | bl _ => cases r; rfl
  | int _ => obtain ⟨t, rfl⟩ := r; rfl
  | str _ => obtain ⟨t, rfl⟩ := r; rfl
  | byt _ => obtain ⟨t, rfl⟩ := r; rfl
  | flt _ => obtain ⟨t, rfl⟩ := r; rfl
  | ref _ => cases r; rfl
  | ty _ => cases r; rfl
theorem pc_isN {j pos'} (ha : PE X a ta) : PC X .Is a (.Constant .none j pos') (tIsN ta) := by
  intro pins s σ H Q I h
  refine thn (ha pins s σ H _ I h) fun v s1 ⟨x, H1, I1, r1, q1⟩ => ?_
  exact Constant_none (is_none_gen ⟨.bl _, H1, I1, by rw [r1.none_iff]; rfl, q1⟩)
theorem pc_notN {j pos'} (ha : PE X a ta) : PC X .IsNot a (.Constant .none j pos') (tNotN ta) := by
  intro pins s σ H Q I h
  refine thn (ha pins s σ H _ I h) fun v s1 ⟨x, H1, I1, r1, q1⟩ => ?_
  exact Constant_none (isnot_none_gen ⟨.bl _, H1, I1, by rw [r1.none_iff]; rfl, q1⟩)

def tB (t : TE) : TT := fun σ H Q => t σ H fun x H1 => ∃ c, x = .bl c ∧ Q c H1
theorem pe_cmp {op : CmpOp} {t : TE} (h : PC X op a b t) (h1 : behindInMarks op b = false := by first | exact nobehind _ (by decide) (by decide) | rfl) : PE X (.Compare a [op] [b] pos) t := fun pins s σ H Q I hw => wpAny_Compare1 (h pins s σ H Q I hw) h1
theorem pt_cmp {op : CmpOp} {t : TE} (h : PC X op a b t) (h1 : behindInMarks op b = false := by first | exact nobehind _ (by decide) (by decide) | rfl) : PT X (.Compare a [op] [b] pos) (tB t) := by
  intro pins s σ H Q I hw
  refine wpAny_isTrue_Compare1 (thn (h pins s σ H _ I hw) fun v s1 h1 => thn h1 fun u s2 h2 => thn h2 fun c s3 ⟨x, H1, I1, r1, q1⟩ => ?_) h1
  obtain ⟨d, rfl, q⟩ := q1
  cases r1
  exact wpAny_truthy_bool ⟨H1, I1, q⟩

theorem pt_val {e : Expr} {t : TE} (h : PE X e t) (he : ∀ whole, isTrue e X.env whole = (do let v ← whole; standAt e.pos; holding [v] (truthy v)) := by intro _; rfl) : PT X e (tB t) := by
  intro pins s σ H Q I hw
  refine isTrue_plain (thn (h pins s σ H _ I hw) fun v s1 ⟨x, H1, I1, r1, q1⟩ => ?_) (he _)
  obtain ⟨d, rfl, q⟩ := q1
  cases r1
  exact wpAny_truthy_bool ⟨H1, I1, q⟩


variable {tA tB' : TT} {rest : List Expr}
def tAnd (t u : TT) : TT := fun σ H Q => t σ H fun c H1 => if c = true then u σ H1 Q else Q false H1
def tOr (t u : TT) : TT := fun σ H Q => t σ H fun c H1 => if c = true then Q true H1 else u σ H1 Q
def tNot (t : TT) : TT := fun σ H Q => t σ H fun c H1 => Q (!c) H1
theorem pw_and1 (ha : PT X a tA) : PW X (.BoolOp .And [a] pos) tA := by
  intro wh pins s σ H Q I h
  refine isTrue_and (thn (ha pins s σ H Q I h) fun c s1 e => ?_)
  cases c with
  | true => exact isTrue_and_nil e
  | false => exact e
theorem pw_or1 (ha : PT X a tA) : PW X (.BoolOp .Or [a] pos) tA := by
  intro wh pins s σ H Q I h
  refine isTrue_or (thn (ha pins s σ H Q I h) fun c s1 e => ?_)
  cases c with
  | false => exact isTrue_or_nil e
  | true => exact e
theorem pw_and (ha : PT X a tA) (hb : PW X (.BoolOp .And (b :: rest) pos) tB') : PW X (.BoolOp .And (a :: b :: rest) pos) (tAnd tA tB') := by
  intro wh pins s σ H Q I h
  refine isTrue_and (thn (ha pins s σ H _ I h) fun c s1 ⟨H1, I1, q1⟩ => ?_)
  cases c with
  | true => exact hb wh pins s1 σ H1 Q I1 q1
  | false => exact ⟨H1, I1, q1⟩
theorem pw_or (ha : PT X a tA) (hb : PW X (.BoolOp .Or (b :: rest) pos) tB') : PW X (.BoolOp .Or (a :: b :: rest) pos) (tOr tA tB') := by
  intro wh pins s σ H Q I h
  refine isTrue_or (thn (ha pins s σ H _ I h) fun c s1 ⟨H1, I1, q1⟩ => ?_)
  cases c with
  | true => exact ⟨H1, I1, q1⟩
  | false => exact hb wh pins s1 σ H1 Q I1 q1
theorem pt_not (ha : PT X a tA) : PT X (.UnaryOp .Not a pos) (tNot tA) := by
  intro pins s σ H Q I h
  exact isTrue_not (ha pins s σ H (fun c H1 => Q (!c) H1) I h)

def tAndV (ta tb : TE) : TE := fun σ H Q => ta σ H fun x H1 => ∃ c, x = .bl c ∧ if c = true then tb σ H1 Q else Q (.bl false) H1
def tNotV (ta : TE) : TE := fun σ H Q => ta σ H fun x H1 => ∃ c, x = .bl c ∧ Q (.bl (!c)) H1
theorem pe_one {op} {t : TE} (h : PE X a t) : PE X (.BoolOp op [a] pos) t := fun pins s σ H Q I hw => BoolOp_one (h pins s σ H Q I hw)
theorem pe_and (ha : PE X a ta) (hb : PE X (.BoolOp .And (b :: rest) pos) tb) : PE X (.BoolOp .And (a :: b :: rest) pos) (tAndV ta tb) := by
  intro pins s σ H Q I h
  refine BoolOp_and (thn (ha pins s σ H _ I h) fun v s1 ⟨x, H1, I1, r1, q1⟩ => ?_)
  obtain ⟨c, rfl, q1⟩ := q1
  cases r1
  refine wpAny_truthy_bool ?_
  cases c with
  | true => exact hb pins s1 σ H1 Q I1 q1
  | false => exact ⟨.bl false, H1, I1, rfl, q1⟩
theorem pe_not (ha : PE X a ta) : PE X (.UnaryOp .Not a pos) (tNotV ta) := by
  intro pins s σ H Q I h
  refine UnaryOp_ (thn (ha pins s σ H _ I h) fun v s1 ⟨x, H1, I1, r1, q1⟩ => ?_)
  obtain ⟨c, rfl, q1⟩ := q1
  cases r1
  exact not_of (wpAny_truthy_bool ⟨.bl (!c), H1, I1, rfl, q1⟩)

def tIf (t : TT) (ta tb : TE) : TE := fun σ H Q => t σ H fun c H1 => if c = true then ta σ H1 Q else tb σ H1 Q
theorem pe_ifExp {c : Expr} (hc : PT X c tA) (ha : PE X a ta) (hb : PE X b tb) : PE X (.IfExp c a b pos) (tIf tA ta tb) := by
  intro pins s σ H Q I h
  refine wpAny_IfExp (thn (hc pins s σ H _ I h) fun d s1 ⟨H1, I1, q1⟩ => ?_)
  cases d with
  | true => exact ha pins s1 σ H1 Q I1 q1
  | false => exact hb pins s1 σ H1 Q I1 q1
end
end L2

namespace L2
open PySem PySem.Spec PyProof.Rows


def SqL (K : PySem.W.Frag) (H : Hp) (a : Addr) (xs : List V) : Prop :=
  Rd H a (.lst xs) ∨
    ∃ (o : Obj) (its : Array Value) (n : Nat), K.lookup a = some o ∧ o.cls = .type "list" ∧ o.dict = none ∧ o.data = .seq its n ∧ its.size ≤ sizeLine ∧ Vals xs its.toList
def SqT (K : PySem.W.Frag) (H : Hp) (a : Addr) (xs : List V) : Prop :=
  Rd H a (.tup xs) ∨
    ∃ (o : Obj) (its : Array Value) (n : Nat), K.lookup a = some o ∧ o.cls = .type "tuple" ∧ o.data = .seq its n ∧ its.size ≤ sizeLine ∧ Vals xs its.toList
def absV : Value → Option V
  | .none => some .non
  | .bool b => some (.bl b)
  | .int i _ => some (.int i)
  | .str x _ => some (.str x)
  | .bytes b _ => some (.byt b)
  | .float b _ => some (.flt b)
  | .ref a => some (.ref a)
  | .type n => some (.ty n)
  | _ => none
theorem RelV.abs {x : V} {u : Value} (r : RelV x u) : absV u = some x := by
  cases x with
  | non => cases r; rfl
  | bl _ => cases r; rfl
  | int _ => obtain ⟨t, rfl⟩ := r; rfl
  | str _ => obtain ⟨t, rfl⟩ := r; rfl
  | byt _ => obtain ⟨t, rfl⟩ := r; rfl
  | flt _ => obtain ⟨t, rfl⟩ := r; rfl
  | ref _ => cases r; rfl
  | ty _ => cases r; rfl
theorem RelV.inj {x y : V} {u : Value} (r : RelV x u) (q : RelV y u) : x = y := Option.some.inj (r.abs.symm.trans q.abs)
theorem Vals.inj : ∀ {xs ys : List V} {us : List Value}, Vals xs us → Vals ys us → xs = ys
  | _, _, _, .nil, .nil => rfl
  | _, _, _, .cons r t, .cons r' t' => by rw [r.inj r', Vals.inj t t']
section
variable {X : Cx} {pins : List (Addr × Obj)} {σ : St} {H : Hp} {s : Shared} {a : Addr} {xs ys : List V}
theorem SqL.of {K : PySem.W.Frag} (h : H a = some (.lst xs)) : SqL K H a xs := .inl (.inl h)
theorem SqT.of {K : PySem.W.Frag} (h : H a = some (.tup xs)) : SqT K H a xs := .inl (.inl h)
theorem Inv.list (I : Inv X pins σ H s) (h : SqL X.K H a xs) : ∃ its : List Value, Vals xs its ∧ PlainL s.heap a its.toArray ∧ xs.length ≤ sizeLine := by
  rcases h with h | ⟨o, its, n, hk, hc, hd, hs, hz, r⟩
  · obtain ⟨z, its, n, r, e⟩ := h.ok I.hok
    exact ⟨its, r, ⟨_, n, e, rfl, rfl, rfl⟩, z⟩
  · refine ⟨its.toList, r, ⟨o, n, I.kIn a o hk, hc, hd, by simpa using hs⟩, ?_⟩
    have e := r.length
    simp only [Array.length_toList] at e
    omega
theorem Inv.tuple (I : Inv X pins σ H s) (h : SqT X.K H a xs) : ∃ its : List Value, Vals xs its ∧ IsTup s.heap a its.toArray ∧ xs.length ≤ sizeLine := by
  rcases h with h | ⟨o, its, n, hk, hc, hs, hz, r⟩
  · obtain ⟨z, its, r, p⟩ := h.ok I.hok
    exact ⟨its, r, p, z⟩
  · refine ⟨its.toList, r, ⟨o, I.kIn a o hk, hc, n, by simpa using hs⟩, ?_⟩
    have e := r.length
    simp only [Array.length_toList] at e
    omega
theorem Inv.list_inj (I : Inv X pins σ H s) (h : SqL X.K H a xs) (h' : SqL X.K H a ys) : xs = ys := by
  obtain ⟨its, r, ⟨o, n, e, _, _, d⟩, _⟩ := I.list h
  obtain ⟨its', r', ⟨o', n', e', _, _, d'⟩, _⟩ := I.list h'
  rw [e] at e'; cases e'
  rw [d] at d'
  injection d' with d1 _
  have : its = its' := by simpa using congrArg Array.toList d1
  subst this
  exact r.inj r'
theorem Inv.tuple_inj (I : Inv X pins σ H s) (h : SqT X.K H a xs) (h' : SqT X.K H a ys) : xs = ys := by
  obtain ⟨its, r, ⟨o, e, _, n, d⟩, _⟩ := I.tuple h
  obtain ⟨its', r', ⟨o', e', _, n', d'⟩, _⟩ := I.tuple h'
  rw [e] at e'; cases e'
  rw [d] at d'
  injection d' with d1 _
  have : its = its' := by simpa using congrArg Array.toList d1
  subst this
  exact r.inj r'
end


abbrev Cx.wish (X : Cx) (E : Value → Shared → Prop) : Cx := { X with xe := E }

abbrev Cx.nox (X : Cx) : Cx := X.wish fun _ _ => False
theorem Cx.Ok.wish {X : Cx} (ok : X.Ok) (E : Value → Shared → Prop) : (X.wish E).Ok :=
  ⟨ok.mod, ok.kind, ok.glob, ok.blt, ok.above, ok.inj, ok.has, ok.cab, ok.hd, ok.frames, ok.stk, ok.exf, ok.bs, ok.bsz, ok.noex, ok.exfs, ok.funs, ok.frf⟩
theorem Cx.Ok.unwish {X : Cx} {E : Value → Shared → Prop} (ok : (X.wish E).Ok) : X.Ok :=
  ⟨ok.mod, ok.kind, ok.glob, ok.blt, ok.above, ok.inj, ok.has, ok.cab, ok.hd, ok.frames, ok.stk, ok.exf, ok.bs, ok.bsz, ok.noex, ok.exfs, ok.funs, ok.frf⟩
section
variable {X : Cx} {pins : List (Addr × Obj)} {σ : St} {H : Hp} {s : Shared} {E : Value → Shared → Prop}
theorem Inv.wish (I : Inv X pins σ H s) (E : Value → Shared → Prop) : Inv (X.wish E) pins σ H s := ⟨I.ok.wish E, I.os, I.bare, I.base, I.loc, I.cell, I.free, I.freeC, I.pin, I.hok, I.len⟩
theorem Inv.unwish (I : Inv (X.wish E) pins σ H s) : Inv X pins σ H s := ⟨I.ok.unwish, I.os, I.bare, I.base, I.loc, I.cell, I.free, I.freeC, I.pin, I.hok, I.len⟩
theorem SP.unwish {D : Ends} {f : Flow} {s' : Shared} (h : SP (X.wish E) pins D f s') : SP X pins D f s' := by
  cases f with
  | next => obtain ⟨σ', H', I, q⟩ := h; exact ⟨σ', H', I.unwish, q⟩
  | brk => obtain ⟨σ', H', I, q⟩ := h; exact ⟨σ', H', I.unwish, q⟩
  | cont => obtain ⟨σ', H', I, q⟩ := h; exact ⟨σ', H', I.unwish, q⟩
  | ret u => obtain ⟨v, σ', H', I, r, q⟩ := h; exact ⟨v, σ', H', I.unwish, r, q⟩
theorem PE.nox {e : Expr} {t : TE} (h : PE X.nox e t) : PE X e t := fun pins s σ H Q I hw =>
  wpAny_mono (h pins s σ H Q (I.wish _) hw) (fun _ _ ⟨v, H', I', r, q⟩ => ⟨v, H', I'.unwish, r, q⟩) fun _ _ z => False.elim z
theorem PT.nox {e : Expr} {t : TT} (h : PT X.nox e t) : PT X e t := fun pins s σ H Q I hw =>
  wpAny_mono (h pins s σ H Q (I.wish _) hw) (fun _ _ ⟨H', I', q⟩ => ⟨H', I'.unwish, q⟩) fun _ _ z => False.elim z
theorem PSs.nox {st : List Stmt} {t : TS} (h : PSs X.nox st t) : PSs X st t := fun pins s σ H D I hw =>
  wpAny_mono (h pins s σ H D (I.wish _) hw) (fun _ _ q => q.unwish) fun _ _ z => False.elim z
end


section
variable {X : Cx} {st : Stmt} {rest : List Stmt} {t u : TS} {e : Expr} {te : TE} {pos : Pos}
def tNext : TS := fun D σ H => D.nx σ H
def tSeq (t u : TS) : TS := fun D σ H => t { D with nx := u D } σ H
theorem pss_nil : PSs X [] tNext := fun _ _ σ H _ I h => wpAny_execs_nil ⟨σ, H, I, h⟩
theorem pss_cons (h1 : PS X st t) (h2 : PSs X rest u) : PSs X (st :: rest) (tSeq t u) := by
  intro pins s σ H D I h
  refine wpAny_execs_cons (thn (h1 pins s σ H { D with nx := u D } I h) fun f s1 q => ?_)
  cases f with
  | next =>
    obtain ⟨σ', H', I', q⟩ := q
    exact h2 pins s1 σ' H' D I' q
  | ret v => exact q
  | brk => exact q
  | cont => exact q
theorem pss_one (h1 : PS X st t) : PSs X [st] t := by
  intro pins s σ H D I h
  refine wpAny_execs_cons (thn (h1 pins s σ H D I h) fun f s1 q => ?_)
  cases f with
  | next => exact wpAny_execs_nil q
  | ret v => exact q
  | brk => exact q
  | cont => exact q
theorem Inv.quiet {pins : List (Addr × Obj)} {σ : St} {H : Hp} {s : Shared} (I : Inv X pins σ H s) : interactive X.env = false := by simp [interactive, I.ok.kind]

def tDrop (te : TE) : TS := fun D σ H => te σ H fun _ H1 => D.nx σ H1
theorem ps_expr (he : PE X e te) (hs : swapsWith e none pos.line X.env = pure false := by rfl) : PS X (.Expr e pos) (tDrop te) := by
  intro pins s σ H D I h
  exact wpAny_Expr_any (thn (he pins s σ H _ I h) fun v s1 ⟨x, H1, I1, r1, q1⟩ => ⟨σ, H1, I1, q1⟩) I.quiet hs
def tRet (te : TE) : TS := fun D σ H => te σ H D.rt
theorem ps_ret (he : PE X e te) : PS X (.Return (some e) pos) (tRet te) := by
  intro pins s σ H D I h
  exact wpAny_Return_some (thn (he pins s σ H _ I h) fun v s1 ⟨x, H1, I1, r1, q1⟩ => ⟨x, σ, H1, I1, r1, q1⟩)
def tIfS (c : TT) (t u : TS) : TS := fun D σ H => c σ H fun b H1 => if b = true then t D σ H1 else u D σ H1
theorem ps_if {c : Expr} {a b : List Stmt} {tc : TT} (hc : PT X c tc) (ha : PSs X a t) (hb : PSs X b u) : PS X (.If c a b pos) (tIfS tc t u) := by
  intro pins s σ H D I h
  refine wpAny_If (thn (hc pins s σ H _ I h) fun d s1 ⟨H1, I1, q1⟩ => ?_)
  cases d with
  | true => exact ha pins s1 σ H1 D I1 q1
  | false => exact hb pins s1 σ H1 D I1 q1

end


abbrev TG := V → St → Hp → (St → Hp → Prop) → Prop
abbrev TGs := List V → St → Hp → (St → Hp → Prop) → Prop
def PG (X : Cx) (target : Expr) (t : TG) : Prop :=
  ∀ (pins : List (Addr × Obj)) (s : Shared) (σ : St) (H : Hp) (v : V) (u : Value) (Q : St → Hp → Prop), Inv X pins σ H s → RelV v u → t v σ H Q →
    wpAny (model X.prog X.w) X.A (assign target X.env u) (fun _ s' => ∃ σ' H', Inv X pins σ' H' s' ∧ Q σ' H') X.xe s

def PGs (X : Cx) (ts : List Expr) (t : TGs) : Prop :=
  ∀ (pins : List (Addr × Obj)) (s : Shared) (σ : St) (H : Hp) (vs : List V) (us : List Value) (Q : St → Hp → Prop), Inv X pins σ H s → Vals vs us → t vs σ H Q →
    wpAny (model X.prog X.w) X.A (assignInOrder ((assignEach ts X.env).map (·.2)) us) (fun _ s' => ∃ σ' H', Inv X pins σ' H' s' ∧ Q σ' H') X.xe s

abbrev TSet := V → V → V → Hp → (Hp → Prop) → Prop
def PSet (X : Cx) (t : TSet) : Prop :=
  ∀ (pins : List (Addr × Obj)) (s : Shared) (σ : St) (H : Hp) (o i v : V) (ov iv u : Value) (Q : Hp → Prop), Inv X pins σ H s → RelV o ov → RelV i iv → RelV v u → t o i v H Q →
    wpAny (model X.prog X.w) X.A (setItem ov iv u) (fun _ s' => ∃ H', Inv X pins σ H' s' ∧ Q H') X.xe s

section
variable {X : Cx} {pos : Pos}
def gName (i : Nat) : TG := fun v σ H Q => Q (σ.set i (some v)) H
theorem pg_name {i : Nat} {x : Str} (hN : X.N.Nodup) (hi : X.N[i]? = some x) (hx : Loc X.env.scope x) (hf : X.fn x = true ∨ X.env.scope.names.lookup x = some .local := by first | exact .inl rfl | exact .inr rfl | assumption) : PG X (.Name x pos) (gName i) := by
  intro pins s σ H v u Q I r h
  exact wpAny_assign_Name (store_ok I hN hi hx r (fun s' I' => ⟨_, H, I', h⟩) hf)
def gNil : TGs := fun vs σ H Q => vs = [] ∧ Q σ H
def gCons (t : TG) (u : TGs) : TGs := fun vs σ H Q => ∃ v r, vs = v :: r ∧ t v σ H fun σ' H' => u r σ' H' Q
theorem pgs_nil : PGs X [] gNil := by
  intro pins s σ H vs us Q I r h
  obtain ⟨e, h⟩ := h
  subst e
  cases r
  exact assignInOrder_nil ⟨σ, H, I, h⟩
theorem pgs_cons {e : Expr} {es : List Expr} {t : TG} {u : TGs} (h1 : PG X e t) (h2 : PGs X es u)
    (hs : (assignEach (e :: es) X.env).map (·.2) = assign e X.env :: (assignEach es X.env).map (·.2) := by rfl) : PGs X (e :: es) (gCons t u) := by
  intro pins s σ H vs us Q I r h
  obtain ⟨v, vr, e1, h⟩ := h
  subst e1
  cases r with
  | cons r rr =>
    rw [hs]
    refine assignInOrder_cons (thn (h1 pins s σ H _ _ _ I r h) fun _ s1 ⟨σ1, H1, I1, q1⟩ => ?_)
    exact h2 pins s1 σ1 H1 _ _ Q I1 rr q1

def gTup (K : PySem.W.Frag) (n : Nat) (t : TGs) : TG := fun v σ H Q => ∃ a xs, v = .ref a ∧ SqT K H a xs ∧ xs.length = n ∧ t xs σ H Q
theorem pg_tup {es : List Expr} {k : Nat} {t : TGs} {n : Nat} (hc : X.calm = true) (h : PGs X es t)
    (hn : (assignEach es X.env).length = n := by rfl) (hst : (assignEach es X.env).findIdx? (·.1) = none := by rfl) : PG X (.Tuple es k pos) (gTup X.K n t) := by
  intro pins s σ H v u Q I r hw
  obtain ⟨a, xs, e1, hq, hl, hw⟩ := hw
  subst e1
  cases r
  obtain ⟨its, rv, ht, hz⟩ := I.tuple hq
  refine assign_Tuple_tuple (I.ok.hd hc) ht (by simp [hn, ← hl, rv.length]) hst fun h' hx => ?_
  have I1 : Inv X pins σ H { s with heap := h' } := I.kept (t' := s.toks) fun b o e => hx b o (Nat.ne_of_lt (Heap.lt_size e)) e
  exact h pins _ σ H xs _ Q I1 (by simpa using rv) hw

def gSub (to ti : TE) (t : TSet) : TG := fun v σ H Q => to σ H fun o H1 => ti σ H1 fun i H2 => t o i v H2 fun H3 => Q σ H3
theorem pg_sub {o i : Expr} {to ti : TE} {t : TSet} (ho : PE X o to) (hi : PE X i ti) (hs : PSet X t)
    (ha : ∀ v, assign (.Subscript o i pos) X.env v = (do
      let ov ← holding [v] (eval o X.env)
      let iv ← holding [v, ov] (eval i X.env)
      standAt pos
      holding [v, ov, iv] (setItem ov iv v)
      release [v, ov, iv] []) := by intro _; rfl) : PG X (.Subscript o i pos) (gSub to ti t) := by
  intro pins s σ H v u Q I r h
  rw [ha]
  refine wpAny_bind (wpAny_holding (thn (ho pins s σ H _ I h) fun ov s1 ⟨x, H1, I1, r1, q1⟩ => ?_))
  refine wpAny_bind (wpAny_holding (thn (hi pins s1 σ H1 _ I1 q1) fun iv s2 ⟨y, H2, I2, r2, q2⟩ => ?_))
  refine wpAny_bind (wpAny_standAt (wpAny_bind (wpAny_holding (thn (hs pins s2 σ H2 x y v ov iv u _ I2 r1 r2 r q2) fun _ s3 ⟨H3, I3, q3⟩ => ?_))))
  exact wpAny_release ⟨σ, H3, I3, q3⟩

def tAsg (te : TE) (g : TG) : TS := fun D σ H => te σ H fun x H1 => g x σ H1 D.nx
theorem ps_asg {tg e : Expr} {te : TE} {g : TG} (he : PE X e te) (hg : PG X tg g) (hs : swapsWithSole [tg] e pos.line X.env = pure false := by rfl) (hw : swappedStores [tg] e X.env = pure none := by rfl)
    (h1 : (assignEach [tg] X.env).map (·.2) = [assign tg X.env] := by rfl) : PS X (.Assign [tg] e pos) (tAsg te g) := by
  intro pins s σ H D I h
  refine wpAny_Assign_stores (thn (he pins s σ H _ I h) fun v s1 ⟨x, H1, I1, r1, q1⟩ => ?_) hs hw
  rw [h1]
  exact thn (hg pins s1 σ H1 x v _ I1 r1 q1) fun _ s2 q => q

theorem ps_set {i : Nat} {x : Str} {e : Expr} {te : TE} {pos' : Pos} (hN : X.N.Nodup) (hi : X.N[i]? = some x) (hx : Loc X.env.scope x) (he : PE X e te) (hs : swapsWith e (some (.Name x pos')) pos.line X.env = pure false := by rfl) (hf : X.fn x = true ∨ X.env.scope.names.lookup x = some .local := by first | exact .inl rfl | exact .inr rfl | assumption) :
    PS X (.Assign [.Name x pos'] e pos) (tAsg te (gName i)) := by
  intro pins s σ H D I h
  refine wpAny_Assign_Name (thn (he pins s σ H _ I h) fun v s1 ⟨y, H1, I1, r1, q1⟩ => ?_) hs
  exact store_ok I1 hN hi hx r1 (fun s2 I2 => ⟨_, H1, I2, q1⟩) hf

end


section
variable {X : Cx} {pos : Pos}

end



structure It where
  go : Nat → Hp → Prop
  yld : Nat → Hp → V → Hp → Prop
  stop : Nat → Hp → Prop

def FpOk (X : Cx) (pins : List (Addr × Obj)) (H : Hp) (b : Addr) : Prop :=
  H b = none ∧ b ≠ X.env.locals ∧ b ∉ X.fs ∧ (b ∈ X.ex ∨ X.s₀.heap.objs.size ≤ b) ∧ (∀ x c, X.env.cells.lookup x = some c → c ≠ b) ∧ ∀ p ∈ X.pn ++ pins, p.1 ≠ b
theorem Inv.fpOk {X : Cx} {pins : List (Addr × Obj)} {σ : St} {H H' : Hp} {s : Shared} {b : Addr} (I : Inv X pins σ H s) (hb : s.heap.objs.size ≤ b) (hn : H' b = none) : FpOk X pins H' b := by
  refine ⟨hn, Nat.ne_of_gt (Nat.lt_of_lt_of_le I.lt hb), I.nofs hb, .inr (Nat.le_trans I.sz hb), fun x c e z => ?_, fun p hp z => ?_⟩
  · obtain ⟨v, q⟩ := I.cell x c e
    exact absurd (Nat.lt_of_lt_of_le q.lt (by rw [z]; exact hb)) (Nat.lt_irrefl _)
  · exact absurd (Nat.lt_of_lt_of_le (Heap.lt_size (I.pin p hp).1) (by rw [z]; exact hb)) (Nat.lt_irrefl _)
structure Turn (P : Program) (w : World) (K : PySem.W.Frag) (tg : Expr) (J : It) (fp : List Addr) (it : Addr) (tn : Nat → Heap → Prop) : Prop where
  mem : it ∈ fp
  obj : ∀ i h, tn i h → ∀ b ∈ fp, ∃ o, h.get? b = some o ∧ ∀ v, o.data ≠ .cell v
  keep : ∀ i h h', tn i h → (∀ b ∈ fp, ∀ o, h.get? b = some o → h'.get? b = some o) → tn i h'
  item : ∀ (X : Cx), X.prog = P → X.w = w → X.K = K → X.calm = true → ∀ (i : Nat) (pins : List (Addr × Obj)) (s : Shared) (σ : St) (H : Hp) (E : Value → Shared → Prop), Inv X pins σ H s → (∀ b ∈ fp, FpOk X pins H b) → tn i s.heap → J.go i H →
    wpAny (model P w) X.A (pyNext (.ref it)) (fun r s1 => ∃ u, r = some u ∧
      wpAny (model P w) X.A (letOwnedTupleGo tg (.ref it) u) (fun _ s2 => ∃ x H', Inv X pins σ H' s2 ∧ RelV x u ∧ J.yld i H x H' ∧ tn (i + 1) s2.heap ∧ ∀ b ∈ fp, H' b = none) E s1) E s
  done : ∀ (X : Cx), X.prog = P → X.w = w → X.K = K → X.calm = true → ∀ (i : Nat) (pins : List (Addr × Obj)) (s : Shared) (σ : St) (H : Hp) (E : Value → Shared → Prop), Inv X pins σ H s → (∀ b ∈ fp, FpOk X pins H b) → tn i s.heap → J.stop i H →
    wpAny (model P w) X.A (pyNext (.ref it)) (fun r s1 => r = none ∧ Inv X pins σ H s1) E s
  self : ∀ (A : Around) (i : Nat) (s : Shared) (Q : Value → Shared → Prop) (E : Value → Shared → Prop), tn i s.heap → Q (.ref it) s → wpAny (model P w) A (pyIter (.ref it)) Q E s
abbrev TI := St → Hp → (It → Hp → Prop) → Prop

def PIE (X : Cx) (pins : List (Addr × Obj)) (σ : St) (tg : Expr) (R : It → Hp → Prop) (itv : Value) (s2 : Shared) : Prop :=
  ∃ (it : Addr) (fp : List Addr) (tn : Nat → Heap → Prop) (J : It) (H' : Hp), itv = .ref it ∧ Inv X pins σ H' s2 ∧ Turn X.prog X.w X.K tg J fp it tn ∧ tn 0 s2.heap ∧ (∀ b ∈ fp, FpOk X pins H' b) ∧ R J H'
def PI (X : Cx) (tg iter : Expr) (wi : TI) : Prop :=
  ∀ (pins : List (Addr × Obj)) (s : Shared) (σ : St) (H : Hp) (R : It → Hp → Prop), Inv X pins σ H s → wi σ H R →
    wpAny (model X.prog X.w) X.A (eval iter X.env) (fun v s1 => wpAny (model X.prog X.w) X.A (pyIter v) (PIE X pins σ tg R) X.xe s1) X.xe s


theorem go_of {M : Model} {A : Around} {E : Value → Shared → Prop} {s : Shared} {tg : Expr} {it : Addr} {u : Value} {o : Obj} {n : String} {vs : Array Value} {Q : Unit → Shared → Prop} (ho : s.heap.get? it = some o) (hc : o.cls = .type n) (hd : o.data = .fields vs)
    (hn : ["enumerate", "zip", "dict_itemiterator", "dict_reverseitemiterator", "odict_iterator", "itertools.zip_longest", "itertools.pairwise"].contains n = false) (hQ : Q () s) : wpAny M A (letOwnedTupleGo tg (.ref it) u) Q E s := by
  unfold letOwnedTupleGo
  cases tg <;> first
    | exact wpAny_pure hQ
    | (cases u <;> first
        | exact wpAny_pure hQ
        | (refine wpAny_bind (wpAny_load ho ?_)
           rw [hc, hd]
           show wpAny M A (if (["enumerate", "zip", "dict_itemiterator", "dict_reverseitemiterator", "odict_iterator", "itertools.zip_longest", "itertools.pairwise"].contains n && vs[0]? == some (rawInt _)) = true then _ else _) Q E s
           rw [if_neg (by intro h; rw [hn, Bool.false_and] at h; cases h)]
           exact wpAny_pure hQ))


def Itl (K : PySem.W.Frag) (a : Addr) : It :=
  ⟨fun i H => ∃ xs x, SqL K H a xs ∧ xs[i]? = some x, fun i H x H' => H' = H ∧ ∀ xs, SqL K H a xs → xs[i]? = some x, fun i H => ∃ xs, SqL K H a xs ∧ xs.length ≤ i⟩
def Itt (K : PySem.W.Frag) (a : Addr) : It :=
  ⟨fun i H => ∃ xs x, SqT K H a xs ∧ xs[i]? = some x, fun i H x H' => H' = H ∧ ∀ xs, SqT K H a xs → xs[i]? = some x, fun i H => ∃ xs, SqT K H a xs ∧ xs.length ≤ i⟩

def Itr (lo : Int) (n : Nat) : It := ⟨fun i _ => i < n, fun i H x H' => H' = H ∧ x = .int (lo + i), fun i _ => n ≤ i⟩
theorem turn_list {P : Program} {w : World} {K : PySem.W.Frag} {tg : Expr} (a it : Addr) : Turn P w K tg (Itl K a) [it] it (fun i h => h.IsListIter it a i) where
  mem := by simp
  obj := fun i h st b hb => by
    have e : b = it := by simpa using hb
    subst e
    obtain ⟨o, e, c, d⟩ := st
    exact ⟨o, e, fun v z => by rw [d] at z; cases z⟩
  keep := fun i h h' st k => st.at fun o e => k it (by simp) o e
  item := by
    intro X hP hw hK hc i pins s σ H E I hf st hg
    subst hP hw hK
    obtain ⟨xs, x, hq, hx⟩ := hg
    obtain ⟨its, rv, p, hz⟩ := I.list hq
    obtain ⟨u, hu, ru⟩ := rv.get hx
    obtain ⟨f0, f1, f2, f3, f4, f5⟩ := hf it (by simp)
    refine wpAny_pyNext_list_item st p.isList (x := u) (by simpa using hu) fun h' st' sb => ?_
    have I1 : Inv X pins σ H { s with heap := h' } := I.turned (t' := s.toks) (fun b o hb e => (sb.2 b hb).trans e) f0 f1 f3 f4 f5
    obtain ⟨o, e, c, d⟩ := id st'
    exact ⟨u, rfl, go_of (s := { s with heap := h' }) e c d (by decide) ⟨x, H, I1, ru, ⟨rfl, fun ys hy => by rw [I.list_inj hy hq]; exact hx⟩, st', fun b hb => (hf b hb).1⟩⟩
  done := by
    intro X hP hw hK hc i pins s σ H E I hf st hg
    subst hP hw hK
    obtain ⟨xs, hq, hx⟩ := hg
    obtain ⟨its, rv, p, hz⟩ := I.list hq
    obtain ⟨f0, f1, f2, f3, f4, f5⟩ := hf it (by simp)
    have hl := rv.length
    exact wpAny_pyNext_list_end (I.ok.hd hc) st p.isList (by simp; omega) fun h' eb => ⟨rfl, I.turned (t' := s.toks) (fun b o hb e => eb b o hb e) f0 f1 f3 f4 f5⟩
  self := fun _ _ _ _ _ st h => wpAny_pyIter_listiter st h
theorem turn_tuple {P : Program} {w : World} {K : PySem.W.Frag} {tg : Expr} (a it : Addr) : Turn P w K tg (Itt K a) [it] it (fun i h => h.IsTupleIter it a i) where
  mem := by simp
  obj := fun i h st b hb => by
    have e : b = it := by simpa using hb
    subst e
    obtain ⟨o, e, c, d⟩ := st
    exact ⟨o, e, fun v z => by rw [d] at z; cases z⟩
  keep := fun i h h' st k => st.at fun o e => k it (by simp) o e
  item := by
    intro X hP hw hK hc i pins s σ H E I hf st hg
    subst hP hw hK
    obtain ⟨xs, x, hq, hx⟩ := hg
    obtain ⟨its, rv, p, hz⟩ := I.tuple hq
    obtain ⟨u, hu, ru⟩ := rv.get hx
    obtain ⟨f0, f1, f2, f3, f4, f5⟩ := hf it (by simp)
    refine wpAny_pyNext_tuple_item st (show s.heap.IsTuple a its.toArray from p) (x := u) (by simpa using hu) fun h' st' sb => ?_
    have I1 : Inv X pins σ H { s with heap := h' } := I.turned (t' := s.toks) (fun b o hb e => (sb.2 b hb).trans e) f0 f1 f3 f4 f5
    obtain ⟨o, e, c, d⟩ := id st'
    exact ⟨u, rfl, go_of (s := { s with heap := h' }) e c d (by decide) ⟨x, H, I1, ru, ⟨rfl, fun ys hy => by rw [I.tuple_inj hy hq]; exact hx⟩, st', fun b hb => (hf b hb).1⟩⟩
  done := by
    intro X hP hw hK hc i pins s σ H E I hf st hg
    subst hP hw hK
    obtain ⟨xs, hq, hx⟩ := hg
    obtain ⟨its, rv, p, hz⟩ := I.tuple hq
    obtain ⟨f0, f1, f2, f3, f4, f5⟩ := hf it (by simp)
    have hl := rv.length
    exact wpAny_pyNext_tuple_end (I.ok.hd hc) st (show s.heap.IsTuple a its.toArray from p) (by simp; omega) fun h' eb => ⟨rfl, I.turned (t' := s.toks) (fun b o hb e => eb b o hb e) f0 f1 f3 f4 f5⟩
  self := fun _ _ _ _ _ st h => wpAny_pyIter_tupleiter st h
theorem turn_range {P : Program} {w : World} {K : PySem.W.Frag} {tg : Expr} (it : Addr) (lo : Int) (n : Nat) : Turn P w K tg (Itr lo n) [it] it (fun i h => IsRangeIter h it (lo + (i : Nat) * 1) ((n : Int) - (i : Nat)) 1) where
  mem := by simp
  obj := fun i h st b hb => by
    have e : b = it := by simpa using hb
    subst e
    exact ⟨_, st, fun v z => by
      have z' : Data.fields _ = Data.cell v := z
      cases z'⟩
  keep := fun i h h' st k => k it (by simp) _ st
  item := by
    intro X hP hw hK hc i pins s σ H E I hf st hg
    subst hP hw hK
    obtain ⟨f0, f1, f2, f3, f4, f5⟩ := hf it (by simp)
    have W := Walks.range (prog := X.prog) (w := X.w) (I.ok.hd hc) it lo 1 n
    refine W.item i s _ _ hg st fun v h' tk hv st' kk => ?_
    obtain ⟨t, rfl⟩ := hv
    have I1 : Inv X pins σ H { s with heap := h', toks := tk } := I.turned (fun b o hb e => kk b o (by simpa using hb) e) f0 f1 f3 f4 f5
    refine ⟨_, rfl, go_of (s := { s with heap := h', toks := tk }) (n := "range_iterator") st' rfl rfl (by decide) ⟨.int (lo + i), H, I1, ⟨t, ?_⟩, ⟨rfl, rfl⟩, st', fun b hb => (hf b hb).1⟩⟩
    rw [Int.mul_one]
  done := by
    intro X hP hw hK hc i pins s σ H E I hf st hg
    subst hP hw hK
    obtain ⟨f0, f1, f2, f3, f4, f5⟩ := hf it (by simp)
    exact wpAny_pyNext_range_end (I.ok.hd hc) st (by have : n ≤ i := hg; omega) fun h' eb => ⟨rfl, I.turned (t' := s.toks) (fun b o hb e => eb b o hb e) f0 f1 f3 f4 f5⟩
  self := fun _ _ _ _ _ st h => wpAny_pyIter_rangeiter st h
end L2

namespace L2
open PySem PySem.Spec PyProof.Rows
section
variable {X : Cx} {tg : Expr}
def iList (K : PySem.W.Frag) (tl : TE) : TI := fun σ H R => tl σ H fun x H1 => ∃ a, x = .ref a ∧ (∃ xs, SqL K H1 a xs) ∧ R (Itl K a) H1
def iTup (K : PySem.W.Frag) (tl : TE) : TI := fun σ H R => tl σ H fun x H1 => ∃ a, x = .ref a ∧ (∃ xs, SqT K H1 a xs) ∧ R (Itt K a) H1
theorem pi_list {l : Expr} {tl : TE} (hl : PE X l tl) : PI X tg l (iList X.K tl) := by
  intro pins s σ H R I h
  refine thn (hl pins s σ H _ I h) fun v s1 ⟨x, H1, I1, r1, q1⟩ => ?_
  obtain ⟨a, e, ⟨xs, hq⟩, q⟩ := q1
  subst e
  cases r1
  obtain ⟨its, rv, p, hz⟩ := I1.list hq
  refine wpAny_pyIter_list p.isList ?_
  refine ⟨s1.heap.objs.size, [s1.heap.objs.size], _, _, H1, rfl, I1.kept (t' := s1.toks) fun b o e => Heap.get?_push_of_some _ e, turn_list a _, ⟨_, Heap.get?_push_size _ rfl, rfl, rfl⟩, fun b hb => ?_, q⟩
  have e : b = s1.heap.objs.size := by simpa using hb
  subst e
  exact I1.fpOk (Nat.le_refl _) (I1.hok.fresh (Nat.le_refl _))
theorem pi_tup {l : Expr} {tl : TE} (hl : PE X l tl) : PI X tg l (iTup X.K tl) := by
  intro pins s σ H R I h
  refine thn (hl pins s σ H _ I h) fun v s1 ⟨x, H1, I1, r1, q1⟩ => ?_
  obtain ⟨a, e, ⟨xs, hq⟩, q⟩ := q1
  subst e
  cases r1
  obtain ⟨its, rv, p, hz⟩ := I1.tuple hq
  refine wpAny_pyIter_tuple (show s1.heap.IsTuple a its.toArray from p) ?_
  refine ⟨s1.heap.objs.size, [s1.heap.objs.size], _, _, H1, rfl, I1.kept (t' := s1.toks) fun b o e => Heap.get?_push_of_some _ e, turn_tuple a _, ⟨_, Heap.get?_push_size _ rfl, rfl, rfl⟩, fun b hb => ?_, q⟩
  have e : b = s1.heap.objs.size := by simpa using hb
  subst e
  exact I1.fpOk (Nat.le_refl _) (I1.hok.fresh (Nat.le_refl _))

theorem range_it {pins : List (Addr × Obj)} {σ : St} {H : Hp} {s : Shared} {R : It → Hp → Prop} {E : Value → Shared → Prop} {lo hi : Int} {t u v : Tok} {tk : Nat} (I : Inv X pins σ H s) (h1 : -(2 ^ 62) ≤ lo) (h2 : lo < 2 ^ 62) (h3 : -(2 ^ 62) ≤ hi) (h4 : hi < 2 ^ 62)
    (q : R (Itr lo (hi - lo).toNat) H) : wpAny (model X.prog X.w) X.A (pyIter (.ref s.heap.objs.size)) (PIE X pins σ tg R) E { s with heap := s.heap.push { cls := .type "range", data := .fields #[.int lo t, .int hi u, .int 1 v] }, toks := tk } := by
  refine wpAny_pyIter_range (IsRange.new ..) (small_one h1 h2 h3 h4) ?_
  have I1 : Inv X pins σ H { s with heap := s.heap.push { cls := .type "range", data := .fields #[.int lo t, .int hi u, .int 1 v] }, toks := tk } := I.kept fun b o e => Heap.get?_push_of_some _ e
  refine ⟨(s.heap.push { cls := .type "range", data := .fields #[.int lo t, .int hi u, .int 1 v] }).objs.size, [(s.heap.push { cls := .type "range", data := .fields #[.int lo t, .int hi u, .int 1 v] }).objs.size], _, _, H, rfl,
    I1.kept (t' := tk) fun b o e => Heap.get?_push_of_some _ e, turn_range _ lo (hi - lo).toNat, ?_, fun b hb => ?_, q⟩
  · have e1 : lo + ((0 : Nat) : Int) * 1 = lo := by simp
    have e2 : (((hi - lo).toNat : Nat) : Int) - ((0 : Nat) : Int) = Builtin.Range.rangeSize lo hi 1 := by rw [rangeSize_one]; split <;> omega
    show IsRangeIter _ _ (lo + ((0 : Nat) : Int) * 1) ((((hi - lo).toNat : Nat) : Int) - ((0 : Nat) : Int)) 1
    rw [e1, e2]
    exact Heap.get?_push_size _ rfl
  · have e : b = (s.heap.push { cls := .type "range", data := .fields #[.int lo t, .int hi u, .int 1 v] }).objs.size := by simpa using hb
    subst e
    exact I1.fpOk (Nat.le_refl _) (I1.hok.fresh (Nat.le_refl _))
def iRng1 (ta : TA) : TI := fun σ H R => ta σ H fun vs H1 => ∃ j : Int, vs = [.int j] ∧ -(2 ^ 62) ≤ j ∧ j < 2 ^ 62 ∧ R (Itr 0 j.toNat) H1
theorem pi_range1 {a : Expr} {ta : TA} {p pos : Pos} (hg : Gl X "range") (hm : X.mg "range" = none) (ha : PA X [a] ta) (hs : starEach [a] X.env = [(false, eval a X.env)] := by rfl) : PI X tg (.Call (.Name "range" p) [a] [] pos) (iRng1 ta) := by
  intro pins s σ H R I h
  refine Call_ (ld_blt I hg hm boot_range (PyProof.Rows.callWith_type1 (thn (ha pos pins s σ H _ I h) fun us s1 ⟨vs, H1, I1, r1, q1⟩ => ?_) hs rfl))
  obtain ⟨j, e, q1, q2, q⟩ := q1
  subst e
  cases r1 with
  | cons r rr =>
    cases rr
    obtain ⟨t, rfl⟩ := r
    exact call_range_1 (range_it I1 (by omega) (by omega) q1 q2 (by simpa using q))
def tFor (wi : TI) (g : TG) (tb : TS) : TS := fun D σ H => wi σ H fun J H1 => ∃ W : Nat → Nat → St → Hp → Prop, (∃ m, W 0 m σ H1) ∧ ∀ i m σ H, W i m σ H →
  (J.stop i H ∧ D.nx σ H) ∨ (J.go i H ∧ ∃ N : St → Hp → Prop, (∀ σ' H', N σ' H' → ∃ m', m' < m ∧ W (i + 1) m' σ' H') ∧ ∀ x H', J.yld i H x H' → g x σ H' fun σ2 H2 => tb { D with nx := N, ct := N, bk := D.nx } σ2 H2)

def pinsAt (fp : List Addr) (h : Heap) : List (Addr × Obj) := fp.filterMap fun b => (h.get? b).map fun o => (b, o)
theorem mem_pinsAt {fp : List Addr} {h : Heap} {b : Addr} {o : Obj} (hb : b ∈ fp) (e : h.get? b = some o) : (b, o) ∈ pinsAt fp h := List.mem_filterMap.mpr ⟨b, hb, by rw [e]; rfl⟩
theorem of_pinsAt {fp : List Addr} {h : Heap} {p : Addr × Obj} (hp : p ∈ pinsAt fp h) : p.1 ∈ fp ∧ h.get? p.1 = some p.2 := by
  obtain ⟨b, hb, e⟩ := List.mem_filterMap.mp hp
  cases q : h.get? b with
  | none => rw [q] at e; cases e
  | some o =>
    rw [q] at e
    have e' : (b, o) = p := Option.some.inj e
    subst e'
    exact ⟨hb, q⟩
theorem Inv.pinned {pins : List (Addr × Obj)} {σ : St} {H : Hp} {s : Shared} {fp : List Addr} (I : Inv X pins σ H s) (hf : ∀ b ∈ fp, FpOk X pins H b) (ho : ∀ b ∈ fp, ∃ o, s.heap.get? b = some o ∧ ∀ v, o.data ≠ .cell v) : Inv X (pins ++ pinsAt fp s.heap) σ H s :=
  I.pins_of fun p hp => (List.mem_append.mp hp).elim (fun z => I.pin p (List.mem_append_right _ z)) fun z => by
    obtain ⟨hb, e⟩ := of_pinsAt z
    obtain ⟨f0, f1, f2, _⟩ := hf p.1 hb
    obtain ⟨o, e', d⟩ := ho p.1 hb
    rw [e] at e'; cases e'
    exact ⟨e, f0, f1, f2, d⟩
theorem Inv.unpinned {pins pl : List (Addr × Obj)} {σ : St} {H : Hp} {s : Shared} (I : Inv X (pins ++ pl) σ H s) : Inv X pins σ H s := I.pins_of fun p hp => I.pin p (List.mem_append_right _ (List.mem_append_left _ hp))
theorem ps_for {iter : Expr} {body : List Stmt} {wi : TI} {g : TG} {tb : TS} {pos : Pos} (hp : PassesOwn (model X.prog X.w) X.A X.env X.xe) (hc : X.calm = true) (hi : PI X tg iter wi) (hg : PG X tg g) (hb : PSs X body tb)
    (hs : ∀ x, foldedSetIterable iter X.env x = pure x := by intro _; rfl) : PS X (.For tg iter body [] pos) (tFor wi g tb) := by
  intro pins s σ H D I h
  refine wpAny_For (thn (hi pins s σ H _ I h) fun v s1 h1 => thn h1 fun itv s2 h2 => ?_) hs
  obtain ⟨it, fp, tn, J, H2, e, I2, T, st2, f2, W, ⟨m0, w0⟩, turn⟩ := h2
  subst e
  -- what stays true of the iterator's objects through the loop
  have stat : ∀ {H' : Hp}, (∀ b ∈ fp, H' b = none) → ∀ b ∈ fp, FpOk X pins H' b := fun hn b hb => ⟨hn b hb, (f2 b hb).2⟩
  refine codeAny_forLoop_any (fun n s' => ∃ i σ' H', Inv X pins σ' H' s' ∧ tn i s'.heap ∧ (∀ b ∈ fp, H' b = none) ∧ W i n σ' H') ?_ m0 ⟨0, σ, H2, I2, st2, fun b hb => (f2 b hb).1, w0⟩
  rintro n s3 ⟨i, σ3, H3, I3, st3, fr3, w3⟩
  rcases turn i n σ3 H3 w3 with ⟨stop, qn⟩ | ⟨go, N, hN, step⟩
  · refine wpAny_passesOwn hp (thn (T.done X rfl rfl rfl hc i pins s3 σ3 H3 X.xe I3 (stat fr3) st3 stop) fun r s4 ⟨hr, I4⟩ => ?_)
    subst hr
    exact wpAny_execs_nil ⟨σ3, H3, I4, qn⟩
  · refine wpAny_passesOwn hp (thn (T.item X rfl rfl rfl hc i pins s3 σ3 H3 X.xe I3 (stat fr3) st3 go) fun r s4 ⟨u, hr, h4⟩ => ?_)
    subst hr
    refine wpAny_passesOwn hp (thn h4 fun _ s5 ⟨x, H5, I5, r5, y5, st5, fr5⟩ => ?_)
    have I5' := I5.pinned (stat fr5) (T.obj _ _ st5)
    refine wpAny_passesOwn hp (thn (hg _ s5 σ3 H5 x u _ I5' r5 (step x H5 y5)) fun _ s6 ⟨σ6, H6, I6, q6⟩ => ?_)
    refine wpAny_passesOwn hp (thn (hb _ s6 σ6 H6 _ I6 q6) fun f s7 q7 => ?_)
    have again : ∀ {σ7 : St} {H7 : Hp}, Inv X (pins ++ pinsAt fp s5.heap) σ7 H7 s7 → N σ7 H7 → ∃ m, m < n ∧ ∃ i σ' H', Inv X pins σ' H' s7 ∧ tn i s7.heap ∧ (∀ b ∈ fp, H' b = none) ∧ W i m σ' H' := fun {σ7 H7} I7 n7 => by
      obtain ⟨m', hm, w7⟩ := hN σ7 H7 n7
      refine ⟨m', hm, i + 1, σ7, H7, I7.unpinned, T.keep _ _ _ st5 fun b hb o e => (I7.pin (b, o) (List.mem_append_right _ (List.mem_append_right _ (mem_pinsAt hb e)))).1, fun b hb => ?_, w7⟩
      obtain ⟨o, e, d⟩ := T.obj _ _ st5 b hb
      exact (I7.pin (b, o) (List.mem_append_right _ (List.mem_append_right _ (mem_pinsAt hb e)))).2.1
    cases f with
    | next => obtain ⟨σ7, H7, I7, n7⟩ := q7; exact again I7 n7
    | cont => obtain ⟨σ7, H7, I7, n7⟩ := q7; exact again I7 n7
    | brk => obtain ⟨σ7, H7, I7, q7⟩ := q7; exact ⟨σ7, H7, I7.unpinned, q7⟩
    | ret v => obtain ⟨x7, σ7, H7, I7, r7, q7⟩ := q7; exact ⟨x7, σ7, H7, I7.unpinned, r7, q7⟩
end



theorem for_range {lo : Int} {n : Nat} {g : TG} {tb : TS} {D : Ends} {σ : St} {H : Hp} (Pv : Nat → St → Hp → Prop) (h0 : Pv 0 σ H)
    (hs : ∀ i σ H, i < n → Pv i σ H → g (.int (lo + i)) σ H fun σ2 H2 => tb { D with nx := Pv (i + 1), ct := Pv (i + 1), bk := D.nx } σ2 H2) (hd : ∀ σ H, Pv n σ H → D.nx σ H) :
    ∃ W : Nat → Nat → St → Hp → Prop, (∃ m, W 0 m σ H) ∧ ∀ i m σ H, W i m σ H →
      ((Itr lo n).stop i H ∧ D.nx σ H) ∨ ((Itr lo n).go i H ∧ ∃ N : St → Hp → Prop, (∀ σ' H', N σ' H' → ∃ m', m' < m ∧ W (i + 1) m' σ' H') ∧ ∀ x H', (Itr lo n).yld i H x H' → g x σ H' fun σ2 H2 => tb { D with nx := N, ct := N, bk := D.nx } σ2 H2) := by
  refine ⟨fun i m σ H => m = n - i ∧ i ≤ n ∧ Pv i σ H, ⟨n, by simp, Nat.zero_le _, h0⟩, ?_⟩
  rintro i m σ H ⟨rfl, hi, p⟩
  by_cases hlt : i < n
  · refine .inr ⟨hlt, Pv (i + 1), fun σ' H' p' => ⟨n - (i + 1), by omega, rfl, hlt, p'⟩, fun x H' y => ?_⟩
    obtain ⟨e, y⟩ := y
    subst e y
    exact hs i σ _ hlt p
  · have e : i = n := by omega
    subst e
    exact .inl ⟨Nat.le_refl _, hd σ H p⟩

end L2

namespace L2
open PySem PySem.Spec PyProof.Rows

abbrev R2 := V → V → Hp → VK → Prop

def OpR (X : Cx) (f : Value → Value → Sem Value) (r : R2) : Prop :=
  ∀ (pins : List (Addr × Obj)) (s : Shared) (σ : St) (H : Hp) (x y : V) (v u : Value) (Q : VK), Inv X pins σ H s → RelV x v → RelV y u → r x y H Q →
    wpAny (model X.prog X.w) X.A (f v u) (EP X pins σ Q) X.xe s

def UnR (X : Cx) (f : Value → Sem Value) (r : V → Hp → VK → Prop) : Prop :=
  ∀ (pins : List (Addr × Obj)) (s : Shared) (σ : St) (H : Hp) (x : V) (v : Value) (Q : VK), Inv X pins σ H s → RelV x v → r x H Q →
    wpAny (model X.prog X.w) X.A (f v) (EP X pins σ Q) X.xe s

def CallR (X : Cx) (f : Value) (r : List V → Hp → VK → Prop) : Prop :=
  ∀ (pins : List (Addr × Obj)) (s : Shared) (σ : St) (H : Hp) (xs : List V) (us : List Value) (Q : VK), Inv X pins σ H s → Vals xs us → r xs H Q →
    wpAny (model X.prog X.w) X.A (call f us) (EP X pins σ Q) X.xe s

def TruR (X : Cx) (r : V → Hp → (Bool → Hp → Prop) → Prop) : Prop :=
  ∀ (pins : List (Addr × Obj)) (s : Shared) (σ : St) (H : Hp) (x : V) (v : Value) (Q : Bool → Hp → Prop), Inv X pins σ H s → RelV x v → r x H Q →
    wpAny (model X.prog X.w) X.A (truthy v) (TP X pins σ Q) X.xe s

def tOp (r : R2) (ta tb : TE) : TE := fun σ H Q => ta σ H fun x H1 => tb σ H1 fun y H2 => r x y H2 Q
def tUn (r : V → Hp → VK → Prop) (ta : TE) : TE := fun σ H Q => ta σ H fun x H1 => r x H1 Q

def rI (C : Int → Int → Prop) (g : Int → Int → V) : R2 := fun x y H Q => ∃ i j, x = .int i ∧ y = .int j ∧ C i j ∧ Q (g i j) H
def rI0 (g : Int → Int → V) : R2 := fun x y H Q => ∃ i j, x = .int i ∧ y = .int j ∧ Q (g i j) H
def rU (g : Int → V) : V → Hp → VK → Prop := fun x H Q => ∃ i, x = .int i ∧ Q (g i) H

section
variable {X : Cx} {a b c : Expr} {ta tb tc : TE} {pos : Pos}

theorem binT (ha : PE X a ta) (hb : PE X b tb) {pins : List (Addr × Obj)} {s : Shared} {σ : St} {H : Hp} {R : V → V → Hp → Prop} (I : Inv X pins σ H s)
    (h : ta σ H fun x H1 => tb σ H1 fun y H2 => R x y H2) {Q : Value → Shared → Prop} {f : Value → Value → Sem Value}
    (hf : ∀ v u s2 x y H2, Inv X pins σ H2 s2 → RelV x v → RelV y u → R x y H2 → wpAny (model X.prog X.w) X.A (f v u) Q X.xe s2) :
    wpAny (model X.prog X.w) X.A (eval a X.env) (fun v s₁ => wpAny (model X.prog X.w) X.A (eval b X.env) (fun u s₂ => wpAny (model X.prog X.w) X.A (f v u) Q X.xe s₂) X.xe s₁) X.xe s := by
  refine thn (ha pins s σ H _ I h) fun v s1 ⟨x, H1, I1, r1, q1⟩ => ?_
  refine thn (hb pins s1 σ H1 _ I1 q1) fun u s2 ⟨y, H2, I2, r2, q2⟩ => ?_
  exact hf v u s2 x y H2 I2 r1 r2 q2

theorem pe_op {op : Operator} {r : R2} (ho : OpR X (binaryOp op) r) (ha : PE X a ta) (hb : PE X b tb) : PE X (.BinOp a op b pos) (tOp r ta tb) := by
  intro pins s σ H Q I h
  exact wpAny_BinOp (binT ha hb I h fun v u s2 x y H2 I2 rx ry q => ho pins s2 σ H2 x y v u Q I2 rx ry q)
theorem pe_un {op : UnaryOp} {r : V → Hp → VK → Prop} (ho : UnR X (unaryOp op) r) (ha : PE X a ta) : PE X (.UnaryOp op a pos) (tUn r ta) := by
  intro pins s σ H Q I h
  exact UnaryOp_ (thn (ha pins s σ H _ I h) fun v s1 ⟨x, H1, I1, r1, q1⟩ => ho pins s1 σ H1 x v Q I1 r1 q1)

theorem opI {f : Value → Value → Sem Value} {C : Int → Int → Prop} {g : Int → Int → Int}
    (rule : ∀ (i j : Int) (t u : Tok) (s : Shared) (Q : Value → Shared → Prop) (E : Value → Shared → Prop), C i j → Q (.int (g i j) s.toks) { s with toks := s.toks + 1 } → wpAny (model X.prog X.w) X.A (f (.int i t) (.int j u)) Q E s) :
    OpR X f (rI C fun i j => .int (g i j)) := by
  intro pins s σ H x y v u Q I rx ry h
  obtain ⟨i, j, rfl, rfl, hc, q⟩ := h
  obtain ⟨t, rfl⟩ := rx
  obtain ⟨t', rfl⟩ := ry
  exact rule i j t t' s _ _ hc ⟨.int (g i j), H, I.tok _, ⟨_, rfl⟩, q⟩
theorem opI0 {f : Value → Value → Sem Value} {g : Int → Int → Int}
    (rule : ∀ (i j : Int) (t u : Tok) (s : Shared) (Q : Value → Shared → Prop) (E : Value → Shared → Prop), Q (.int (g i j) s.toks) { s with toks := s.toks + 1 } → wpAny (model X.prog X.w) X.A (f (.int i t) (.int j u)) Q E s) :
    OpR X f (rI0 fun i j => .int (g i j)) := by
  intro pins s σ H x y v u Q I rx ry h
  obtain ⟨i, j, rfl, rfl, q⟩ := h
  obtain ⟨t, rfl⟩ := rx
  obtain ⟨t', rfl⟩ := ry
  exact rule i j t t' s _ _ ⟨.int (g i j), H, I.tok _, ⟨_, rfl⟩, q⟩
theorem opB0 {f : Value → Value → Sem Value} {g : Int → Int → Bool}
    (rule : ∀ (i j : Int) (t u : Tok) (s : Shared) (Q : Value → Shared → Prop) (E : Value → Shared → Prop), Q (.bool (g i j)) s → wpAny (model X.prog X.w) X.A (f (.int i t) (.int j u)) Q E s) :
    OpR X f (rI0 fun i j => .bl (g i j)) := by
  intro pins s σ H x y v u Q I rx ry h
  obtain ⟨i, j, rfl, rfl, q⟩ := h
  obtain ⟨t, rfl⟩ := rx
  obtain ⟨t', rfl⟩ := ry
  exact rule i j t t' s _ _ ⟨.bl (g i j), H, I, rfl, q⟩

def CPow (i j : Int) : Prop := 0 ≤ j ∧ j ≤ 1000000 ∧ i.natAbs < 2 ^ 64
def CMul (i j : Int) : Prop := (-(2 ^ 64) < i ∧ i < 2 ^ 64) ∨ (-(2 ^ 64) < j ∧ j < 2 ^ 64)
theorem CMul.ok {i j : Int} (h : CMul i j) : IntMulOk i j := by
  rcases h with ⟨h1, h2⟩ | ⟨h1, h2⟩
  · exact .of_left (intBits_le_64 h1 h2)
  · exact .of_right (intBits_le_64 h1 h2)
theorem op_add : OpR X (binaryOp .Add) (rI0 fun i j => .int (i + j)) := opI0 fun _ _ _ _ _ _ _ q => add_int q
theorem op_sub : OpR X (binaryOp .Sub) (rI0 fun i j => .int (i - j)) := opI0 fun _ _ _ _ _ _ _ q => sub_int q
theorem op_mul : OpR X (binaryOp .Mult) (rI CMul fun i j => .int (i * j)) := opI fun _ _ _ _ _ _ _ hc q => mul_int q hc.ok

theorem op_mod : OpR X (binaryOp .Mod) (rI (fun _ j => 0 < j) fun i j => .int (i % j)) := opI fun i j _ _ _ _ _ hc q => by
  have h1 : (0 : Int) < j := hc
  exact mod_int' (by omega) (by rw [Int.fmod_eq_emod_of_nonneg i (by omega)]; exact q)
theorem op_pow : OpR X (binaryOp .Pow) (rI CPow fun i j => .int (i ^ j.toNat)) := opI fun _ _ _ _ _ _ _ hc q => pow_int_small hc.1 hc.2.1 hc.2.2 q
theorem unI {f : Value → Sem Value} {g : Int → Int}
    (rule : ∀ (i : Int) (t : Tok) (s : Shared) (Q : Value → Shared → Prop) (E : Value → Shared → Prop), Q (.int (g i) s.toks) { s with toks := s.toks + 1 } → wpAny (model X.prog X.w) X.A (f (.int i t)) Q E s) :
    UnR X f (rU fun i => .int (g i)) := by
  intro pins s σ H x v Q I rx h
  obtain ⟨i, rfl, q⟩ := h
  obtain ⟨t, rfl⟩ := rx
  exact rule i t s _ _ ⟨.int (g i), H, I.tok _, ⟨_, rfl⟩, q⟩
theorem un_neg : UnR X (unaryOp .USub) (rU fun i => .int (-i)) := unI fun _ _ _ _ _ q => neg_int q
end



def scal : V → V → Bool
  | .non, .non => true | .non, .int _ => true | .int _, .non => true | .non, .bl _ => true | .bl _, .non => true | .non, .str _ => true | .str _, .non => true
  | .int _, .int _ => true | .bl _, .bl _ => true | .str _, .str _ => true | .byt _, .byt _ => true
  | .int _, .str _ => true | .str _, .int _ => true | .bl _, .str _ => true | .str _, .bl _ => true
  | _, _ => false
def rEq : R2 := fun x y H Q => scal x y = true ∧ Q (.bl (decide (x = y))) H
def rNe : R2 := fun x y H Q => scal x y = true ∧ Q (.bl (!decide (x = y))) H

theorem dec_int {i j : Int} : decide (V.int i = V.int j) = (i == j) := by
  rw [Bool.eq_iff_iff]
  simp
theorem dec_bl {i j : Bool} : decide (V.bl i = V.bl j) = (i == j) := by
  rw [Bool.eq_iff_iff]
  simp
theorem dec_str {i j : Str} : decide (V.str i = V.str j) = (i == j) := by
  rw [Bool.eq_iff_iff]
  simp
theorem dec_byt {i j : Array UInt8} : decide (V.byt i = V.byt j) = (i.toList == j.toList) := by
  rw [Bool.eq_iff_iff]
  cases i
  cases j
  simp

section
variable {X : Cx} {a b c : Expr} {ta tb tc : TE} {pos : Pos}
theorem fin_bl {pins : List (Addr × Obj)} {σ : St} {H : Hp} {s : Shared} {Q : VK} {k k' : Bool} (I : Inv X pins σ H s) (q : Q (.bl k) H) (e : k = k') : EP X pins σ Q (.bool k') s := by
  subst e
  exact ⟨.bl k, H, I, rfl, q⟩
theorem op_eq : OpR X (compareOp .Eq) rEq := by
  intro pins s σ H x y v u Q I rx ry h
  obtain ⟨hs, q⟩ := h
  cases x with
  | non =>
    cases rx
    cases y with
    | non => cases ry; exact PySem.EqNone.eq_none_none (fin_bl I q (by simp))
    | bl j => cases ry; exact PySem.EqNone.eq_none_bool (fin_bl I q (by simp))
    | int j => obtain ⟨t', rfl⟩ := ry; exact PySem.EqNone.eq_none_int (fin_bl I q (by simp))
    | str j => obtain ⟨t', rfl⟩ := ry; exact PySem.EqNone.eq_none_str (fin_bl I q (by simp))
    | _ => exact absurd (show false = true from hs) Bool.false_ne_true
  | bl i =>
    cases rx
    cases y with
    | non => cases ry; exact PySem.EqNone.eq_bool_none (fin_bl I q (by simp))
    | bl j => cases ry; exact eq_bool (fin_bl I q dec_bl)
    | str j => obtain ⟨t', rfl⟩ := ry; exact PySem.EqMixed.eq_bool_str (fin_bl I q (by simp))
    | _ => exact absurd (show false = true from hs) Bool.false_ne_true
  | int i =>
    obtain ⟨t, rfl⟩ := rx
    cases y with
    | non => cases ry; exact PySem.EqNone.eq_int_none (fin_bl I q (by simp))
    | int j => obtain ⟨t', rfl⟩ := ry; exact eq_int (fin_bl I q dec_int)
    | str j => obtain ⟨t', rfl⟩ := ry; exact PySem.EqMixed.eq_int_str (fin_bl I q (by simp))
    | _ => exact absurd (show false = true from hs) Bool.false_ne_true
  | str i =>
    obtain ⟨t, rfl⟩ := rx
    cases y with
    | non => cases ry; exact PySem.EqNone.eq_str_none (fin_bl I q (by simp))
    | bl j => cases ry; exact PySem.EqMixed.eq_str_bool (fin_bl I q (by simp))
    | int j => obtain ⟨t', rfl⟩ := ry; exact PySem.EqMixed.eq_str_int (fin_bl I q (by simp))
    | str j => obtain ⟨t', rfl⟩ := ry; exact eq_str (fin_bl I q dec_str)
    | _ => exact absurd (show false = true from hs) Bool.false_ne_true
  | byt i =>
    obtain ⟨t, rfl⟩ := rx
    cases y with
    | byt j => obtain ⟨t', rfl⟩ := ry; exact PySem.W.eq_bytes (fin_bl I q dec_byt)
    | _ => exact absurd (show false = true from hs) Bool.false_ne_true
  | _ => cases y <;> exact absurd (show false = true from hs) Bool.false_ne_true
theorem op_ne : OpR X (compareOp .NotEq) rNe := by
  intro pins s σ H x y v u Q I rx ry h
  obtain ⟨hs, q⟩ := h
  cases x with
  | non =>
    cases rx
    cases y with
    | non => cases ry; exact PySem.EqNone.ne_none_none (fin_bl I q (by simp))
    | bl j => cases ry; exact PySem.EqNone.ne_none_bool (fin_bl I q (by simp))
    | int j => obtain ⟨t', rfl⟩ := ry; exact PySem.EqNone.ne_none_int (fin_bl I q (by simp))
    | str j => obtain ⟨t', rfl⟩ := ry; exact PySem.EqNone.ne_none_str (fin_bl I q (by simp))
    | _ => exact absurd (show false = true from hs) Bool.false_ne_true
  | bl i =>
    cases rx
    cases y with
    | non => cases ry; exact PySem.EqNone.ne_bool_none (fin_bl I q (by simp))
    | bl j => cases ry; exact ne_bool (fin_bl I q (congrArg not dec_bl))
    | str j => obtain ⟨t', rfl⟩ := ry; exact PySem.EqMixed.ne_bool_str (fin_bl I q (by simp))
    | _ => exact absurd (show false = true from hs) Bool.false_ne_true
  | int i =>
    obtain ⟨t, rfl⟩ := rx
    cases y with
    | non => cases ry; exact PySem.EqNone.ne_int_none (fin_bl I q (by simp))
    | int j => obtain ⟨t', rfl⟩ := ry; exact ne_int (fin_bl I q (congrArg not dec_int))
    | str j => obtain ⟨t', rfl⟩ := ry; exact PySem.EqMixed.ne_int_str (fin_bl I q (by simp))
    | _ => exact absurd (show false = true from hs) Bool.false_ne_true
  | str i =>
    obtain ⟨t, rfl⟩ := rx
    cases y with
    | non => cases ry; exact PySem.EqNone.ne_str_none (fin_bl I q (by simp))
    | bl j => cases ry; exact PySem.EqMixed.ne_str_bool (fin_bl I q (by simp))
    | int j => obtain ⟨t', rfl⟩ := ry; exact PySem.EqMixed.ne_str_int (fin_bl I q (by simp))
    | str j => obtain ⟨t', rfl⟩ := ry; exact ne_str (fin_bl I q (congrArg not dec_str))
    | _ => exact absurd (show false = true from hs) Bool.false_ne_true
  | byt i =>
    obtain ⟨t, rfl⟩ := rx
    cases y with
    | byt j => obtain ⟨t', rfl⟩ := ry; exact PySem.W.ne_bytes (fin_bl I q (congrArg not dec_byt))
    | _ => exact absurd (show false = true from hs) Bool.false_ne_true
  | _ => cases y <;> exact absurd (show false = true from hs) Bool.false_ne_true

theorem op_lt : OpR X (compareOp .Lt) (rI0 fun i j => .bl (decide (i < j))) := opB0 fun _ _ _ _ _ _ _ q => lt_int q
theorem op_le : OpR X (compareOp .LtE) (rI0 fun i j => .bl (decide (i ≤ j))) := opB0 fun _ _ _ _ _ _ _ q => le_int q
theorem op_gt : OpR X (compareOp .Gt) (rI0 fun i j => .bl (decide (j < i))) := opB0 fun _ _ _ _ _ _ _ q => gt_int q
theorem op_in_str : OpR X (compareOp .In) (fun x y H Q => ∃ i j, x = .str i ∧ y = .str j ∧ Q (.bl (!(Builtin.Str.occurrences j i 0 j.length 1).isEmpty)) H) := by
  intro pins s σ H x y v u Q I rx ry h
  obtain ⟨i, j, rfl, rfl, q⟩ := h
  obtain ⟨t, rfl⟩ := rx
  obtain ⟨t', rfl⟩ := ry
  exact in_str (fin_bl I q rfl)


theorem op_notin_str : OpR X (compareOp .NotIn) (fun x y H Q => ∃ i j, x = .str i ∧ y = .str j ∧ Q (.bl (!(!(Builtin.Str.occurrences j i 0 j.length 1).isEmpty))) H) := by
  intro pins s σ H x y v u Q I rx ry h
  obtain ⟨i, j, rfl, rfl, q⟩ := h
  obtain ⟨t, rfl⟩ := rx
  obtain ⟨t', rfl⟩ := ry
  exact notIn_str (fin_bl I q rfl)

theorem OpR.or {f : Value → Value → Sem Value} {r r' : R2} (h : OpR X f r) (h' : OpR X f r') : OpR X f (fun x y H Q => r x y H Q ∨ r' x y H Q) := by
  intro pins s σ H x y v u Q I rx ry q
  rcases q with q | q
  · exact h pins s σ H x y v u Q I rx ry q
  · exact h' pins s σ H x y v u Q I rx ry q

theorem nomark (b : Expr) {op : CmpOp} (h : op ≠ .In := by decide) (h2 : op ≠ .NotIn := by decide) : behindInMarks op b = false := by
  have e1 : (op == CmpOp.In) = false := by cases op <;> first | rfl | exact absurd rfl h
  have e2 : (op == CmpOp.NotIn) = false := by cases op <;> first | rfl | exact absurd rfl h2
  cases b <;> simp [behindInMarks, e1, e2]

theorem pe_cmpR {op : CmpOp} {r : R2} (ho : OpR X (compareOp op) r) (ha : PE X a ta) (hb : PE X b tb) (hm : behindInMarks op b = false) : PE X (.Compare a [op] [b] pos) (tOp r ta tb) := by
  intro pins s σ H Q I h
  exact wpAny_Compare1 (binT ha hb I h fun v u s2 x y H2 I2 rx ry q => ho pins s2 σ H2 x y v u Q I2 rx ry q) hm

def tTest (t : TE) : TT := fun σ H Q => t σ H fun x H' => ∃ k, x = .bl k ∧ Q k H'
theorem pt_cmpR {op : CmpOp} {r : R2} (ho : OpR X (compareOp op) r) (ha : PE X a ta) (hb : PE X b tb) (hm : behindInMarks op b = false) : PT X (.Compare a [op] [b] pos) (tTest (tOp r ta tb)) := by
  intro pins s σ H Q I h
  refine wpAny_isTrue_Compare1 (thn (ha pins s σ H _ I h) fun v s1 ⟨x, H1, I1, r1, q1⟩ => thn (hb pins s1 σ H1 _ I1 q1) fun u s2 ⟨y, H2, I2, r2, q2⟩ =>
    thn (ho pins s2 σ H2 x y v u _ I2 r1 r2 q2) fun c s3 ⟨z, H3, I3, r3, k, e, q3⟩ => ?_) hm
  subst e
  cases r3
  exact wpAny_truthy_bool ⟨H3, I3, q3⟩

def tChain (r r' : R2) (ta tb tc : TE) : TE := fun σ H Q => ta σ H fun x H1 => tb σ H1 fun y H2 => r x y H2 fun z H3 => ∃ k, z = .bl k ∧
  (if k = true then tc σ H3 fun w' H4 => r' y w' H4 Q else Q (.bl false) H3)
theorem pt_chain {op op' : CmpOp} {r r' : R2} (ho : OpR X (compareOp op) r) (ho' : OpR X (compareOp op') r') (ha : PE X a ta) (hb : PE X b tb) (hc : PE X c tc)
    (hm : lastMarks [op, op'] [b, c] = false := by with_unfolding_all rfl) : PT X (.Compare a [op, op'] [b, c] pos) (tTest (tChain r r' ta tb tc)) := by
  intro pins s σ H Q I h
  refine isTrue_chain (thn (ha pins s σ H _ I h) fun v s1 ⟨x, H1, I1, r1, q1⟩ => test_link (thn (hb pins s1 σ H1 _ I1 q1) fun u s2 ⟨y, H2, I2, r2, q2⟩ =>
    thn (ho pins s2 σ H2 x y v u _ I2 r1 r2 q2) fun d s3 ⟨z, H3, I3, r3, k, e, q3⟩ => ?_)) hm
  subst e
  cases r3
  refine wpAny_truthy_bool ?_
  cases k with
  | false =>
    obtain ⟨k', e', q'⟩ := q3
    cases e'
    exact ite_ff ⟨H3, I3, q'⟩
  | true =>
    refine ite_tt (test_last (thn (hc pins s3 σ H3 _ I3 q3) fun w' s4 ⟨z', H4, I4, r4, q4⟩ => thn (ho' pins s4 σ H4 y z' u w' _ I4 r2 r4 q4) fun d' s5 ⟨z2, H5, I5, r5, k2, e2, q5⟩ => ?_))
    subst e2
    cases r5
    exact wpAny_truthy_bool ⟨H5, I5, q5⟩



def TruV (K : PySem.W.Frag) (x : V) (H : Hp) (k : Bool) : Prop :=
  match x with
  | .non => k = false
  | .bl b => k = b
  | .int i => k = (i != 0)
  | .str y => y.length ≤ sizeLine ∧ k = ((y.length : Int) != 0)
  | .byt y => y.size ≤ sizeLine ∧ k = ((y.size : Int) != 0)
  | .ref p => (∃ xs, SqL K H p xs ∧ k = !xs.isEmpty) ∨ (∃ xs, SqT K H p xs ∧ k = !xs.isEmpty) ∨ ∃ kvs, H p = some (.dK kvs) ∧ k = !kvs.isEmpty
  | _ => False
theorem isEmpty_kv {κ : Type} {kvs : List (κ × V)} {vs : List (κ × Value)} (r : KV kvs vs) : (!vs.isEmpty) = !kvs.isEmpty := by
  cases r <;> rfl
theorem isEmpty_of {xs : List V} {its : List Value} (r : Vals xs its) : (!its.toArray.isEmpty) = !xs.isEmpty := by
  cases r <;> simp
theorem line63 : (sizeLine : Nat) < 2 ^ 63 := by rw [sizeLine_eq]; decide
theorem tru_ok : TruR X (fun x H Q => ∃ k, TruV X.K x H k ∧ Q k H) := by
  intro pins s σ H x v Q I rx h
  obtain ⟨k, e, q⟩ := h
  have hl := line63
  have hs : sizeLine = 16777216 := sizeLine_eq
  cases x with
  | non =>
    cases rx
    have e' : k = false := e
    subst e'
    exact truthy_none ⟨H, I, q⟩
  | bl b =>
    cases rx
    have e' : k = b := e
    subst e'
    exact wpAny_truthy_bool ⟨H, I, q⟩
  | int i =>
    obtain ⟨t, rfl⟩ := rx
    have e' : k = (i != 0) := e
    subst e'
    exact PySem.P.truthy_int ⟨H, I, q⟩
  | str y =>
    obtain ⟨t, rfl⟩ := rx
    obtain ⟨hy, e'⟩ : y.length ≤ sizeLine ∧ k = ((y.length : Int) != 0) := e
    subst e'
    exact PySem.P.truthy_str (by omega) ⟨H, I.tok _, q⟩
  | byt y =>
    obtain ⟨t, rfl⟩ := rx
    obtain ⟨hy, e'⟩ : y.size ≤ sizeLine ∧ k = ((y.size : Int) != 0) := e
    subst e'
    exact PySem.W.truthy_bytes (by omega) ⟨H, I.tok _, q⟩
  | ref p =>
    cases rx
    have e' : (∃ xs, SqL X.K H p xs ∧ k = !xs.isEmpty) ∨ (∃ xs, SqT X.K H p xs ∧ k = !xs.isEmpty) ∨ ∃ kvs, H p = some (.dK kvs) ∧ k = !kvs.isEmpty := e
    rcases e' with ⟨xs, hx, e'⟩ | ⟨xs, hx, e'⟩ | ⟨kvs, hx, e'⟩
    · subst e'
      obtain ⟨its, r, pl, hz⟩ := I.list hx
      have hlen := r.length
      exact wpAny_truthy_list pl.isList (by simp only [List.size_toArray]; omega) ⟨H, I.tok _, by rw [isEmpty_of r]; exact q⟩
    · subst e'
      obtain ⟨its, r, pl, hz⟩ := I.tuple hx
      have hlen := r.length
      exact truthy_tuple pl (by simp only [List.size_toArray]; omega) ⟨H, I.tok _, by rw [isEmpty_of r]; exact q⟩
    · subst e'
      obtain ⟨hz, hS, vs, r, m⟩ : kvs.length ≤ sizeLine ∧ (p == sysModules) = false ∧ ∃ vs, KV kvs vs ∧ s.heap.DictOf (mixKind X.prog X.w) p vs := I.hok p _ hx
      have hlen : kvs.length = vs.length := Paired.length r
      exact wpAny_truthy_dict hS m (by omega) ⟨H, I.tok _, by rw [isEmpty_kv r]; exact q⟩
  | _ => exact (show False from e).elim

theorem pt_truth (ha : PE X a ta) (he : ∀ whole, isTrue a X.env whole = (do let v ← whole; standAt a.pos; holding [v] (truthy v))) :
    PT X a (fun σ H Q => ta σ H fun x H' => ∃ k, TruV X.K x H' k ∧ Q k H') := by
  intro pins s σ H Q I h
  exact isTrue_plain (thn (ha pins s σ H _ I h) fun v s1 ⟨x, H1, I1, r1, q1⟩ => tru_ok pins s1 σ H1 x v Q I1 r1 q1) (he _)


theorem op_add_str : OpR X (binaryOp .Add) (fun x y H Q => ∃ i j, x = .str i ∧ y = .str j ∧ i.length + j.length ≤ sizeLine ∧ Q (.str (i ++ j)) H) := by
  intro pins s σ H x y v u Q I rx ry h
  obtain ⟨i, j, rfl, rfl, hz, q⟩ := h
  obtain ⟨t, rfl⟩ := rx
  obtain ⟨t', rfl⟩ := ry
  exact add_str (fun t' tk => ⟨.str (i ++ j), H, I.tok _, ⟨_, rfl⟩, q⟩) hz
theorem vals1 {x : V} {us : List Value} (r : Vals [x] us) : ∃ u, us = [u] ∧ RelV x u := by
  cases r with
  | cons r1 r2 => cases r2; exact ⟨_, rfl, r1⟩
theorem vals2 {x y : V} {us : List Value} (r : Vals [x, y] us) : ∃ u w', us = [u, w'] ∧ RelV x u ∧ RelV y w' := by
  cases r with
  | cons r1 r2 =>
    cases r2 with
    | cons r3 r4 => cases r4; exact ⟨_, _, rfl, r1, r3⟩
theorem call_max2 (hc : X.calm = true) : CallR X (.builtin "max") (fun xs H Q => ∃ i j, xs = [.int i, .int j] ∧ Q (.int (if j > i then j else i)) H) := by
  intro pins s σ H xs us Q I r h
  obtain ⟨i, j, rfl, q⟩ := h
  obtain ⟨u, w', rfl, ⟨t, rfl⟩, ⟨t', rfl⟩⟩ := vals2 r
  refine max_two_ints (I.ok.hd hc) fun h' tk k => ⟨_, H, I.kept k, ?_, q⟩
  by_cases hj : j > i
  · rw [if_pos hj, if_pos hj]; exact ⟨_, rfl⟩
  · rw [if_neg hj, if_neg hj]; exact ⟨_, rfl⟩
theorem call_min2 (hc : X.calm = true) : CallR X (.builtin "min") (fun xs H Q => ∃ i j, xs = [.int i, .int j] ∧ Q (.int (if j < i then j else i)) H) := by
  intro pins s σ H xs us Q I r h
  obtain ⟨i, j, rfl, q⟩ := h
  obtain ⟨u, w', rfl, ⟨t, rfl⟩, ⟨t', rfl⟩⟩ := vals2 r
  refine min_two_ints (I.ok.hd hc) fun h' tk k => ⟨_, H, I.kept k, ?_, q⟩
  by_cases hj : j < i
  · rw [if_pos hj, if_pos hj]; exact ⟨_, rfl⟩
  · rw [if_neg hj, if_neg hj]; exact ⟨_, rfl⟩
theorem call_int1 : CallR X (.type "int") (fun xs H Q => (∃ i, xs = [.int i] ∧ Q (.int i) H) ∨ ∃ k, xs = [.bl k] ∧ Q (.int (if k then 1 else 0)) H) := by
  intro pins s σ H xs us Q I r h
  rcases h with ⟨i, rfl, q⟩ | ⟨k, rfl, q⟩
  · obtain ⟨u, rfl, t, rfl⟩ := vals1 r
    exact call_int_int ⟨.int i, H, I, ⟨_, rfl⟩, q⟩
  · obtain ⟨u, rfl, r1⟩ := vals1 r
    cases r1
    exact call_int_bool ⟨.int (if k then 1 else 0), H, I.tok _, ⟨_, rfl⟩, q⟩
theorem call_str_int : CallR X (.type "str") (fun xs H Q => ∃ i, xs = [.int i] ∧ i.natAbs.log2 < 1920 ∧ Q (.str (toString i)) H) := by
  intro pins s σ H xs us Q I r h
  obtain ⟨i, rfl, hz, q⟩ := h
  obtain ⟨u, rfl, t, rfl⟩ := vals1 r
  exact PySem.P.str_of_int hz ⟨.str _, H, I.tok _, ⟨_, rfl⟩, q⟩
end
end L2

namespace L2
open PySem PySem.Spec PyProof.Rows


structure ObjM (h : Heap) (x dx C : Addr) (mA : Str → Option Value) : Prop where
  obj : h.get? x = some (PySem.W.instObj C dx)
  ns : h.Ns1 dx mA
  ne : dx ≠ x

theorem lookIn_ns {h : Heap} {dx : Addr} {mA : Str → Option Value} (n : h.Ns1 dx mA) : ∃ od, h.get? dx = some od ∧ ∀ name, PySem.W.lookIn name od = some (mA name) := by
  obtain ⟨o, es, ep, ho, hd, hk, _, hm⟩ := n
  refine ⟨o, ho, fun name => ?_⟩
  have e := hm name
  unfold nsFind findBy at e
  rw [← Array.find?_toList] at e
  unfold PySem.W.lookIn
  rw [hd]
  dsimp only
  split
  · rename_i y q
    rw [q] at e
    exact congrArg some e
  · rename_i q
    rw [q] at e
    have a : es.toList.any (·.refKey) = false := by
      rw [List.any_eq_false]
      intro y hy
      obtain ⟨z, t, hkey⟩ := hk y (Array.mem_toList_iff.mp hy)
      simp [DictEntry.refKey, hkey]
    have a' : ¬ es.toList.any (·.refKey) = true := by rw [a]; exact Bool.false_ne_true
    rw [if_neg a']
    exact congrArg some e

theorem ObjM.look {h : Heap} {x dx C : Addr} {mA : Str → Option Value} (I : ObjM h x dx C mA) : ∃ od, PySem.W.InstAt h x (PySem.W.instObj C dx) C (some od) ∧ ∀ name, PySem.W.lookIn name od = some (mA name) :=
  let ⟨od, ho, hl⟩ := lookIn_ns I.ns
  ⟨od, ⟨I.obj, rfl, rfl, ho⟩, hl⟩

section
variable {prog : Program} {w : World} {A : Around} {E : Value → Shared → Prop} {s : Shared} {K : PySem.W.Frag} {x dx C f : Addr} {mA : Str → Option Value} {name : Str} {v : Value}

end


def putF (f : Str) (v : V) : List (Str × V) → List (Str × V)
  | [] => [(f, v)]
  | (g, x) :: r => if g = f then (g, v) :: r else (g, x) :: putF f v r
theorem lookup_putF (f g : Str) (v : V) : ∀ fs : List (Str × V), (putF f v fs).lookup g = if g = f then some v else fs.lookup g
  | [] => by
    show List.lookup g [(f, v)] = _
    by_cases h : g = f
    · have hb : (g == f) = true := beq_iff_eq.mpr h
      simp only [List.lookup, hb, if_pos h]
    · have hb : (g == f) = false := beq_eq_false_iff_ne.mpr h
      simp only [List.lookup, hb, if_neg h]
  | (k, x) :: r => by
    have ih := lookup_putF f g v r
    rw [show putF f v ((k, x) :: r) = (if k = f then (k, v) :: r else (k, x) :: putF f v r) from rfl]
    by_cases hk : k = f
    · rw [if_pos hk]
      by_cases h : g = k
      · have hb : (g == k) = true := beq_iff_eq.mpr h
        simp only [List.lookup, hb, if_pos (h.trans hk)]
      · have hb : (g == k) = false := beq_eq_false_iff_ne.mpr h
        simp only [List.lookup, hb, if_neg (fun e : g = f => h (e.trans hk.symm))]
    · rw [if_neg hk]
      by_cases h : g = k
      · have hb : (g == k) = true := beq_iff_eq.mpr h
        simp only [List.lookup, hb, if_neg (fun e : g = f => hk (h.symm.trans e))]
      · have hb : (g == k) = false := beq_eq_false_iff_ne.mpr h
        simp only [List.lookup, hb]
        exact ih
theorem keys_putF (f : Str) (v : V) : ∀ fs : List (Str × V), f ∈ (putF f v fs).map (·.1) ∧ ∀ g, g ∈ fs.map (·.1) → g ∈ (putF f v fs).map (·.1)
  | [] => ⟨by simp [putF], fun g h => by simp at h⟩
  | (k, x) :: r => by
    obtain ⟨i1, i2⟩ := keys_putF f v r
    rw [show putF f v ((k, x) :: r) = (if k = f then (k, v) :: r else (k, x) :: putF f v r) from rfl]
    by_cases hk : k = f
    · rw [if_pos hk]
      subst hk
      exact ⟨by simp, fun g h => by simpa using h⟩
    · rw [if_neg hk]
      refine ⟨?_, fun g h => ?_⟩
      · rw [List.map_cons]
        exact List.mem_cons_of_mem _ i1
      · rw [List.map_cons] at h ⊢
        rcases List.mem_cons.mp h with e | e
        · exact List.mem_cons.mpr (.inl e)
        · exact List.mem_cons_of_mem _ (i2 g e)
theorem length_putF (f : Str) (v : V) : ∀ fs : List (Str × V), (putF f v fs).length ≤ fs.length + 1
  | [] => by simp [putF]
  | (k, x) :: r => by
    have ih := length_putF f v r
    rw [show putF f v ((k, x) :: r) = (if k = f then (k, v) :: r else (k, x) :: putF f v r) from rfl]
    by_cases hk : k = f
    · rw [if_pos hk, List.length_cons, List.length_cons]; omega
    · rw [if_neg hk, List.length_cons, List.length_cons]; omega

theorem RelO.some_of {v : V} {o : Option Value} (r : RelO (some v) o) : ∃ u, o = some u ∧ RelV v u := by
  cases o with
  | none => exact (show False from r).elim
  | some u => exact ⟨u, rfl, r⟩
theorem RelO.none_of {o : Option Value} (r : RelO none o) : o = none := by
  cases o with
  | none => rfl
  | some u => exact (show False from r).elim
theorem handed_of {v : V} {u : Value} (r : RelV v u) : PySem.W.handedIn u = true := by
  cases v with
  | non => cases (show u = Value.none from r); rfl
  | bl b => cases (show u = Value.bool b from r); rfl
  | int i => obtain ⟨t, e⟩ := (show ∃ t, u = Value.int i t from r); cases e; rfl
  | str x => obtain ⟨t, e⟩ := (show ∃ t, u = Value.str x t from r); cases e; rfl
  | byt b => obtain ⟨t, e⟩ := (show ∃ t, u = Value.bytes b t from r); cases e; rfl
  | flt b => obtain ⟨t, e⟩ := (show ∃ t, u = Value.float b t from r); cases e; rfl
  | ref a => cases (show u = Value.ref a from r); rfl
  | ty n => cases (show u = Value.type n from r); rfl

section
variable {P : Program} {w : World} {H H' : Hp} {h h' : Heap} {a C dx : Addr} {fs fs' : List (Str × V)}
theorem ins_get (hok : HOk P w H h) (e : H a = some (.ins C dx fs)) : ∃ mA, ObjM h a dx C mA ∧ (∀ f, RelO (fs.lookup f) (mA f)) ∧ PySem.Within mA (fs.map (·.1)) ∧ fs.length ≤ 1000 ∧ H dx = some (.own a) := by
  obtain ⟨d, z, ne, ob, mA, n, r, q⟩ := (show ObjOk P w H h a (.ins C dx fs) from hok a _ e)
  exact ⟨mA, ⟨ob, n, ne⟩, r, q, z, d⟩
end


structure Cls (K : PySem.W.Frag) (C : Addr) : Prop where
  pg : PySem.W.plainGet K C Str.empty = true
  hd : PySem.W.hasDictIn K C = true
  po : PySem.W.plainOver K C = true
  sa : PySem.W.findIn K (.ref C) "__setattr__" = some (some (.builtin "object.__setattr__"))
theorem Cls.get {K : PySem.W.Frag} {C : Addr} (c : Cls K C) (f : Str) : PySem.W.plainGet K C f = true := c.pg

def NoAttr (K : PySem.W.Frag) (C : Addr) (f : Str) : Prop := PySem.W.findIn K (.ref C) f = some none
theorem NoAttr.taker {K : PySem.W.Frag} {C : Addr} {f : Str} (n : NoAttr K C f) : PySem.W.takerIn K C f = some none := by
  unfold PySem.W.takerIn
  rw [show PySem.W.findIn K (.ref C) f = some none from n]
  rfl

section
variable {X : Cx} {pins : List (Addr × Obj)} {σ : St} {H : Hp} {s : Shared} {a C dx : Addr} {fs : List (Str × V)} {f : Str} {v : V} {A : Around} {E : Value → Shared → Prop}

theorem attr_of {prog : Program} {w : World} {env : Env} {e : Expr} {f : Str} {pos : Pos} {s : Shared} {Q : Value → Shared → Prop} (hb : attributeBase e f env (eval e env) = eval e env)
    (h : wpAny (model prog w) A (eval e env) (fun o s₁ => wpAny (model prog w) A (getAttr o f true) Q E s₁) E s) : wpAny (model prog w) A (eval (.Attribute e f pos) env) Q E s :=
  Attribute_any_ h (by rw [arm_eval_Attribute, hb])
end



section
variable {X : Cx} {o e value : Expr} {f : Str} {pos pos' tpos : Pos} {ta tv : TE}
end


section
variable {X : Cx} {pins : List (Addr × Obj)} {σ : St} {H : Hp} {s : Shared} {A : Around} {E : Value → Shared → Prop} {Q : Value → Shared → Prop} {c : Value} {b : Bool}

inductive TyOf (K : PySem.W.Frag) (H : Hp) : V → Value → Prop where
  | non : TyOf K H .non (.type "NoneType")
  | bl (x : Bool) : TyOf K H (.bl x) (.type "bool")
  | int (i : Int) : TyOf K H (.int i) (.type "int")
  | str (x : Str) : TyOf K H (.str x) (.type "str")
  | flt (x : UInt64) : TyOf K H (.flt x) (.type "float")
  | lst {a : Addr} {xs : List V} (e : H a = some (.lst xs)) : TyOf K H (.ref a) (.type "list")
  | frz {a : Addr} {o : Obj} {xs : List V} (e : H a = some (.frz o (.lst xs))) : TyOf K H (.ref a) (.type "list")
  | tup {a : Addr} {xs : List V} (e : H a = some (.tup xs)) : TyOf K H (.ref a) (.type "tuple")
  | dK {a : Addr} {kvs : List (Key × V)} (e : H a = some (.dK kvs)) : TyOf K H (.ref a) (.type "dict")
  | dT {a : Addr} {kvs : List (List Key × V)} (e : H a = some (.dT kvs)) : TyOf K H (.ref a) (.type "dict")
  | ins {a C dx : Addr} {fs : List (Str × V)} (e : H a = some (.ins C dx fs)) (cl : Cls K C) (ha : PySem.W.findIn K (.ref C) "__class__" = some (some (.builtin "object.__class__")))
      (hn : PySem.W.specialIn K (.builtin "object.__class__") "__get__" = some (some (.builtin "getset_descriptor.__get__"))) (htk : PySem.W.takesIn K (.builtin "object.__class__") = some true)
      (hm : PySem.W.mroIn K C (.type "object") = some true) : TyOf K H (.ref a) (.ref C)

theorem isinst_ok {x : V} {u t : Value} (I : Inv X pins σ H s) (rx : RelV x u) (ty : TyOf X.K H x t) (e : PySem.W.kitOne X.K t c = some b) (h : ∀ tk, Q (.bool b) { s with toks := tk }) :
    wpAny (model X.prog X.w) A (call (.builtin "isinstance") [u, c]) Q E s := by
  cases ty with
  | non => cases (show u = Value.none from rx); exact PySem.W.kia_one PySem.W.kitx_none I.kIn True.intro e (fun z => nomatch z) h
  | bl y => cases (show u = Value.bool y from rx); exact PySem.W.kia_one PySem.W.kitx_bool I.kIn True.intro e (fun z => nomatch z) h
  | int i => obtain ⟨t, q⟩ := (show ∃ t, u = Value.int i t from rx); cases q; exact PySem.W.kia_one PySem.W.kitx_int I.kIn True.intro e (fun z => nomatch z) h
  | str y => obtain ⟨t, q⟩ := (show ∃ t, u = Value.str y t from rx); cases q; exact PySem.W.kia_one PySem.W.kitx_str I.kIn True.intro e (fun z => nomatch z) h
  | flt y => obtain ⟨t, q⟩ := (show ∃ t, u = Value.float y t from rx); cases q; exact PySem.W.kia_one PySem.W.kitx_float I.kIn True.intro e (fun z => nomatch z) h
  | @lst a xs ea =>
    cases (show u = Value.ref a from rx)
    obtain ⟨_, _, n, _, h1⟩ := (show ObjOk X.prog X.w H s.heap a (.lst xs) from I.hok a _ ea)
    exact PySem.W.kia_one PySem.W.kitx_list I.kIn ⟨_, h1, rfl⟩ e (fun z => nomatch z) h
  | @frz a ob xs ea =>
    cases (show u = Value.ref a from rx)
    obtain ⟨_, _, _, n, _, h1⟩ := (show ObjOk X.prog X.w H s.heap a (.frz ob (.lst xs)) from I.hok a _ ea)
    exact PySem.W.kia_one PySem.W.kitx_list I.kIn ⟨_, h1, rfl⟩ e (fun z => nomatch z) h
  | @tup a xs ea =>
    cases (show u = Value.ref a from rx)
    obtain ⟨_, _, _, p⟩ := (show ObjOk X.prog X.w H s.heap a (.tup xs) from I.hok a _ ea)
    obtain ⟨o, h1, h2, _⟩ := p
    exact PySem.W.kia_one PySem.W.kitx_tuple I.kIn ⟨o, h1, h2⟩ e (fun z => nomatch z) h
  | @dK a kvs ea =>
    cases (show u = Value.ref a from rx)
    obtain ⟨_, _, vs, _, p⟩ := (show ObjOk X.prog X.w H s.heap a (.dK kvs) from I.hok a _ ea)
    obtain ⟨o, es, ep, h1, h2, _⟩ := p
    exact PySem.W.kia_one PySem.W.kitx_dict I.kIn ⟨o, h1, h2.1⟩ e (fun z => nomatch z) h
  | @dT a kvs ea =>
    cases (show u = Value.ref a from rx)
    obtain ⟨_, _, xs, _, o, es, ep, h1, h2, _⟩ := (show ObjOk X.prog X.w H s.heap a (.dT kvs) from I.hok a _ ea)
    exact PySem.W.kia_one PySem.W.kitx_dict I.kIn ⟨o, h1, h2.1⟩ e (fun z => nomatch z) h
  | @ins a C dx fs ea cl ha hn htk hm =>
    cases (show u = Value.ref a from rx)
    obtain ⟨mA, O, _⟩ := ins_get I.hok ea
    obtain ⟨od, J, _⟩ := O.look
    exact PySem.W.kia_one (PySem.W.kitx_own (cl.get _) cl.hd ha hn htk hm) I.kIn J e (fun z => nomatch z) h
end
end L2

namespace L2
open PySem PySem.Spec PyProof.Rows


structure Room (k : Nat) (A : Around) : Prop where
  hd : A.handled = none
  dp : A.depth + 3 * k + 5 < recursionLimit
  un : A.units + 16 * k + 200 < cLine
theorem Room.mono {j k : Nat} {A : Around} (r : Room k A) (h : j ≤ k) : Room j A := ⟨r.hd, by have := r.dp; omega, by have := r.un; omega⟩
theorem Room.deeper {k : Nat} {A : Around} (r : Room (k + 1) A) (env : Env) : Room k (A.deeper env) :=
  ⟨r.hd, by have := r.dp; show A.depth + 1 + 3 * k + 5 < _; omega, by have := r.un; show A.units + 3 + 16 * k + 200 < _; omega⟩
theorem Room.in1 {k : Nat} {A : Around} (r : Room (k + 1) A) : Room k A.in1 :=
  ⟨r.hd, by have := r.dp; show A.depth + 3 * k + 5 < _; omega, by have := r.un; show A.units + 1 + 16 * k + 200 < _; omega⟩
theorem make_depth {A : Around} {C : Addr} {us : List Value} {kw : List (Str × Value)} : (A.under (.builtin "type.__call__" ⟨.ref C :: us, kw⟩)).depth = A.depth + 1 := by
  first | rfl | simp [Around.under, Code.weight, Code.isCreation, Code.isGuard, Code.isCaller, Code.frames, Code.isFrame, guardIds]
theorem make_units {A : Around} {C : Addr} {us : List Value} {kw : List (Str × Value)} : (A.under (.builtin "type.__call__" ⟨.ref C :: us, kw⟩)).units = A.units + 1 := by
  first | rfl | simp [Around.under, Code.cUnits, Code.frames, Code.isFrame]
theorem Room.make {k : Nat} {A : Around} (r : Room (k + 1) A) (C : Addr) (us : List Value) (kw : List (Str × Value)) : Room k (A.under (.builtin "type.__call__" ⟨.ref C :: us, kw⟩)) :=
  ⟨r.hd, by have := r.dp; rw [make_depth]; omega, by have := r.un; rw [make_units]; omega⟩
theorem Room.depth {k : Nat} {A : Around} (r : Room k A) : A.depth < recursionLimit := by have := r.dp; omega
theorem Room.units {k : Nat} {A : Around} (r : Room k A) : A.units + 64 < cLine := by have := r.un; omega
def tNil : TA := fun _ H Q => Q [] H
def tCons (ta : TE) (tr : TA) : TA := fun σ H Q => ta σ H fun x H1 => tr σ H1 fun xs H2 => Q (x :: xs) H2
section
variable {X : Cx} {e : Expr} {es : List Expr} {te : TE} {t : TA} {pos : Pos}
theorem pa_nil : PA X [] tNil := fun _ _ _ _ H Q I h => Calls.spliced_nil ⟨[], H, I, .nil, h⟩
theorem pa_cons (ha : PE X e te) (hr : PA X es t) (hs : starEach (e :: es) X.env = (false, eval e X.env) :: starEach es X.env := by rfl) : PA X (e :: es) (tCons te t) := by
  intro pos pins s σ H Q I h
  rw [hs]
  show wpAny _ _ (spliced ((false, eval e X.env) :: backTo pos (starEach es X.env))) _ _ s
  refine Calls.spliced_cons (thn (ha pins s σ H _ I h) fun u s1 ⟨x, H1, I1, r1, q1⟩ => ?_)
  exact thn (hr pos pins s1 σ H1 _ I1 q1) fun us s2 ⟨xs, H2, I2, r2, q2⟩ => ⟨x :: xs, H2, I2, .cons r1 r2, q2⟩


def tTup (t : TA) : TE := fun σ H Q => t σ H fun xs H1 => xs.length ≤ sizeLine ∧ ∀ p, H1 p = none → Q (.ref p) (upd H1 p (.tup xs))
def tLst (t : TA) : TE := fun σ H Q => t σ H fun xs H1 => xs.length ≤ sizeLine ∧ ∀ p, H1 p = none → Q (.ref p) (upd H1 p (.lst xs))
theorem pe_tup {x1} (h : PA X es t) : PE X (.Tuple es x1 pos) (tTup t) := by
  intro pins s σ H Q I hq
  refine wpAny_Tuple_spliced (thn (h pos pins s σ H _ I hq) fun us s1 ⟨xs, H1, I1, r, z, q⟩ => ⟨by rw [← r.length]; exact z, ?_⟩)
  have hf : H1 s1.heap.objs.size = none := I1.hok.fresh (Nat.le_refl _)
  refine ⟨.ref s1.heap.objs.size, upd H1 s1.heap.objs.size (.tup xs), I1.laid (t' := s1.toks) (fun b u e => Heap.get?_push_of_some _ e) (Nat.le_refl _) ?_, rfl, q _ hf⟩
  exact ⟨z, us, r, ⟨_, Heap.get?_push_size _ rfl, rfl, _, rfl⟩⟩
theorem pe_lst (h : PA X es t) : PE X (.List es pos) (tLst t) := by
  intro pins s σ H Q I hq
  refine wpAny_List_spliced (thn (h pos pins s σ H _ I hq) fun us s1 ⟨xs, H1, I1, r, z, q⟩ => ⟨by rw [← r.length]; exact z, ?_⟩)
  have hf : H1 s1.heap.objs.size = none := I1.hok.fresh (Nat.le_refl _)
  refine ⟨.ref s1.heap.objs.size, upd H1 s1.heap.objs.size (.lst xs), I1.laid (t' := s1.toks) (fun b u e => Heap.get?_push_of_some _ e) (Nat.le_refl _) ?_, rfl, q _ hf⟩
  exact ⟨z, us, 0, r, Heap.get?_push_size _ rfl⟩
end



abbrev Sp := List V → Hp → VK → XK → Prop

abbrev CXT := List Env → Hp → Shared → XK → Value → Shared → Prop


structure Env0 (P : Program) (w : World) (K : PySem.W.Frag) (mg : Str → Option Value) (base : Heap) (A : Around) (outer : List Env) (s : Shared) (H : Hp) : Prop where
  frames : A.frames = some outer
  mod : Mod K mg base
  bs : ∀ b o, base.get? b = some o → s.heap.get? b = some o ∧ H b = none
  bsz : base.objs.size ≤ s.heap.objs.size
  funs : s.heap.FunFrames base outer
  frf : ∀ b ∈ frs outer, H b = none
  hok : HOk P w H s.heap
  bare : AllBare s.gens

def CE (outer : List Env) (P : Program) (w : World) (H : Hp) (s : Shared) (Q : VK) (u : Value) (s' : Shared) : Prop :=
  ∃ v H', s'.os = s.os ∧ AllBare s'.gens ∧ Un (frs outer) [] H H' s.heap s'.heap ∧ HOk P w H' s'.heap ∧ RelV v u ∧ Q v H'
def CR (CX : CXT) (outer : List Env) (P : Program) (w : World) (H : Hp) (s : Shared) (Q : VK) (E : XK) (r : Result) (s' : Shared) : Prop :=
  match r with
  | .ok (.ret u) => CE outer P w H s Q u s'
  | .ok _ => False
  | .error e => CX outer H s E e s'
structure FnOk (P : Program) (w : World) (K : PySem.W.Frag) (mg : Str → Option Value) (base : Heap) (CX : CXT) (k : Nat) (f : Addr) (fd : FuncData) (ps : List Str) (sp : Sp) : Prop where
  len : ∀ vs H Q E, sp vs H Q E → vs.length = ps.length
  run : ∀ (A : Around) (outer : List Env) (s : Shared) (H : Hp) (args : Args) (us : List Value) (vs : List V) (Q : VK) (E : XK), Room k A → Env0 P w K mg base A outer s H → BindsTo s fd args (ps.zip us) → Vals vs us → sp vs H Q E →
    codeAny (model P w) A (.call (.ref f) args) (CR CX outer P w H s Q E) s
theorem FnOk.mono {P : Program} {w : World} {K : PySem.W.Frag} {mg : Str → Option Value} {base : Heap} {CX : CXT} {j k : Nat} {f : Addr} {fd : FuncData} {ps : List Str} {sp : Sp} (F : FnOk P w K mg base CX j f fd ps sp) (h : j ≤ k) :
    FnOk P w K mg base CX k f fd ps sp := ⟨F.len, fun A outer s H args us vs Q E hr => F.run A outer s H args us vs Q E (hr.mono h)⟩

theorem FnOk.imp {P : Program} {w : World} {K : PySem.W.Frag} {mg : Str → Option Value} {base : Heap} {CX : CXT} {k : Nat} {f : Addr} {fd : FuncData} {ps : List Str} {sp sp' : Sp} (F : FnOk P w K mg base CX k f fd ps sp)
    (h : ∀ vs H Q E, sp' vs H Q E → sp vs H Q E) : FnOk P w K mg base CX k f fd ps sp' :=
  ⟨fun vs H Q E q => F.len vs H Q E (h _ _ _ _ q), fun A outer s H args us vs Q E hr he hb hv hs => F.run A outer s H args us vs Q E hr he hb hv (h _ _ _ _ hs)⟩

theorem Env0.make {P : Program} {w : World} {K : PySem.W.Frag} {mg : Str → Option Value} {base : Heap} {A : Around} {outer : List Env} {s : Shared} {H : Hp} (e : Env0 P w K mg base A outer s H) (C : Addr) (us : List Value) (kw : List (Str × Value)) :
    Env0 P w K mg base (A.under (.builtin "type.__call__" ⟨.ref C :: us, kw⟩)) outer s H := ⟨by first | exact e.frames | (simpa [Around.under, Code.envs, Code.isFrame, pushEnvs] using e.frames), e.mod, e.bs, e.bsz, e.funs, e.frf, e.hok, e.bare⟩
theorem Env0.in1 {P : Program} {w : World} {K : PySem.W.Frag} {mg : Str → Option Value} {base : Heap} {A : Around} {outer : List Env} {s : Shared} {H : Hp} (e : Env0 P w K mg base A outer s H) :
    Env0 P w K mg base A.in1 outer s H := ⟨e.frames, e.mod, e.bs, e.bsz, e.funs, e.frf, e.hok, e.bare⟩

section
variable {X : Cx} {pins : List (Addr × Obj)} {σ : St} {H : Hp} {s s' : Shared}

theorem Inv.env0 (I : Inv X pins σ H s) : Env0 X.prog X.w X.K X.mg X.base X.A X.stack s H :=
  ⟨I.ok.frames, I.ok.mod, I.bs, Nat.le_trans I.ok.bsz I.sz, I.stack, I.stkFree, I.hok, I.bare⟩

theorem Inv.after {Q : VK} {u : Value} (I : Inv X pins σ H s) (h : CE X.stack X.prog X.w H s Q u s') : EP X pins σ Q u s' := by
  obtain ⟨v, H', os, bare, un, hok, r, q⟩ := h
  obtain ⟨hh, g, d, t, os'⟩ := s'
  obtain rfl : os' = s.os := os
  exact ⟨v, H', I.call (h' := hh) (g' := g) (d' := d) (t' := t) (ch := []) un hok bare (fun b z => absurd z (by simp)), r, q⟩
end



def tCall (sp : Sp) (dvs : List V) (E : XK) (t : TA) : TE := fun σ H Q => t σ H fun vs H1 => sp (vs ++ dvs) H1 Q E

def Binds (K : PySem.W.Frag) (fd : FuncData) (ps : List Str) (ds : List Value) : Prop :=
  ∀ (s : Shared) (us : List Value), K.In s.heap → (us ++ ds).length = ps.length → BindsTo s fd ⟨us, []⟩ (ps.zip (us ++ ds))

theorem Binds.all {K : PySem.W.Frag} {fd : FuncData} {ps : List Str} (h : ∀ us : List Value, us.length = ps.length → bindArgs fd ⟨us, []⟩ = pure (ps.zip us)) : Binds K fd ps [] := fun s us _ hl => by
  rw [List.append_nil] at hl ⊢
  exact .of_eq (h us hl)


def Passes (CX : CXT) (X : Cx) (E : XK) : Prop := ∀ (pins : List (Addr × Obj)) (σ : St) (H : Hp) (s : Shared) (e : Value) (s' : Shared), Inv X pins σ H s → CX X.stack H s E e s' → X.xe e s'

section
variable {X : Cx} {CX : CXT} {k : Nat} {f C : Addr} {fd : FuncData} {ps : List Str} {sp : Sp} {dvs : List V} {ds : List Value} {E : XK} {x m : Str} {p pos apos : Pos} {e o : Expr} {es : List Expr} {ta : TE} {t : TA}


theorem run_fn {pins : List (Addr × Obj)} {σ : St} {H : Hp} {s : Shared} {Q : VK} {us : List Value} {vs : List V} (F : FnOk X.prog X.w X.K X.mg X.base CX k f fd ps sp) (hr : Room k X.A) (hb : Binds X.K fd ps ds) (hd : Vals dvs ds) (hx : Passes CX X E)
    (I : Inv X pins σ H s) (r : Vals vs us) (h : sp (vs ++ dvs) H Q E) : wpAny (model X.prog X.w) X.A (call (.ref f) us) (EP X pins σ Q) X.xe s := by
  have r2 : Vals (vs ++ dvs) (us ++ ds) := r.append hd
  have hl : (us ++ ds).length = ps.length := by rw [← r2.length]; exact F.len _ _ _ _ h
  refine wpAny_call (codeAny_mono (F.run X.A X.stack s H ⟨us, []⟩ (us ++ ds) (vs ++ dvs) Q E hr I.env0 (hb s us I.kIn hl) r2 h) fun r s' hq => ?_)
  cases r with
  | error e => exact hx pins σ H s e s' I hq
  | ok fl =>
    cases fl with
    | ret u => exact I.after hq
    | next => exact False.elim hq
    | brk => exact False.elim hq
    | cont => exact False.elim hq

theorem pe_call (F : FnOk X.prog X.w X.K X.mg X.base CX k f fd ps sp) (hr : Room k X.A) (hg : Gl X x) (hm : X.mg x = some (.ref f)) (hk : PySem.W.keepIn X.K (.ref f) = true) (hb : Binds X.K fd ps ds) (hd : Vals dvs ds) (hx : Passes CX X E)
    (ha : PA X (e :: es) t) (hdb : (x == ("__debug__" : Str)) = false := by decide) (he : starEach (e :: es) X.env = (false, eval e X.env) :: starEach es X.env := by rfl) (hpl : (backTo pos (starEach es X.env)).any (·.1) = false := by rfl) :
    PE X (.Call (.Name x p) (e :: es) [] pos) (tCall sp dvs E t) := by
  intro pins s σ H Q I h
  refine wpAny_Call_Name_kw (ld_glob I hg hm ?_ hdb)
  refine PySem.W.callWith_K (h₀ := X.base) I.ok.mod.kin hk (thn (ha pos pins s σ H _ I h) fun us s1 ⟨vs, H1, I1, r, q⟩ => ⟨I1.kIn, ?_⟩) he hpl
  exact run_fn F hr hb hd hx I1 r q
theorem pe_call0 (F : FnOk X.prog X.w X.K X.mg X.base CX k f fd ps sp) (hr : Room k X.A) (hg : Gl X x) (hm : X.mg x = some (.ref f)) (hk : PySem.W.keepIn X.K (.ref f) = true) (hb : Binds X.K fd ps ds) (hd : Vals dvs ds) (hx : Passes CX X E)
    (hdb : (x == ("__debug__" : Str)) = false := by decide) : PE X (.Call (.Name x p) [] [] pos) (tCall sp dvs E tNil) := by
  intro pins s σ H Q I h
  refine wpAny_Call_Name_kw (ld_glob I hg hm ?_ hdb)
  exact PySem.W.callWith_K0 I.kIn hk (run_fn (us := []) F hr hb hd hx I .nil h)


end



section
variable {X : Cx} {CX : CXT} {k : Nat} {f C : Addr} {fd : FuncData} {ps ks : List Str} {sp : Sp} {E : XK} {x m : Str} {p pos apos kpos : Pos} {e o : Expr} {es : List Expr} {kws : List Keyword} {te ta : TE} {t tk : TA} {nm : Option Str}
variable {g : List Value → List Value → List Value} {gV : List V → List V → List V}
end



structure FnScope (N P : List Str) (sc : Scope) : Prop where
  kind : sc.kind = .function
  co : sc.isCoroutine = false
  gen : sc.isGenerator = false
  nd : N.Nodup
  pre : N.take P.length = P
  par : ∀ x ∈ P, sc.names.lookup x = some .local ∨ sc.names.lookup x = some .cell
  nofree : ∀ y ∈ sc.names, y.2 ≠ .free

theorem bindL_out {kindOf : Str → Option NameKind} {x : Str} : ∀ {binds : List (Str × Value)} {m : Str → Option Value}, (∀ v, (x, v) ∉ binds) → bindL kindOf binds m x = m x
  | [], _, _ => rfl
  | (n, v) :: r, m, h => by
    unfold bindL
    rw [bindL_out fun w hw => h w (List.mem_cons_of_mem _ hw)]
    split
    · have : x ≠ n := by rintro rfl; exact h v List.mem_cons_self
      simp [this]
    · rfl
theorem bindC_out {kindOf : Str → Option NameKind} {x : Str} : ∀ {binds : List (Str × Value)} {m : Str → Option Value}, (∀ v, (x, v) ∉ binds) → bindC kindOf binds m x = m x
  | [], _, _ => rfl
  | (n, v) :: r, m, h => by
    unfold bindC
    rw [bindC_out fun w hw => h w (List.mem_cons_of_mem _ hw)]
    split
    · rfl
    · have : x ≠ n := by rintro rfl; exact h v List.mem_cons_self
      simp [this]
theorem bindL_get {kindOf : Str → Option NameKind} {x : Str} {v : Value} : ∀ {P : List Str} {vs : List Value} {i : Nat} {m : Str → Option Value}, P.Nodup → P[i]? = some x → vs[i]? = some v → kindOf x = some .local →
    bindL kindOf (P.zip vs) m x = some v
  | [], _, _, _, _, h, _, _ => by simp at h
  | _ :: _, [], _, _, _, _, h, _ => by simp at h
  | p :: P, w :: vs, 0, m, nd, h1, h2, hk => by
    simp at h1 h2; subst h1; subst h2
    show bindL kindOf ((p, w) :: P.zip vs) m p = _
    unfold bindL
    rw [bindL_out fun v hv => (List.nodup_cons.mp nd).1 (List.of_mem_zip hv).1, if_pos hk]
    simp
  | p :: P, w :: vs, i + 1, m, nd, h1, h2, hk => by
    show bindL kindOf ((p, w) :: P.zip vs) m x = _
    unfold bindL
    exact bindL_get (i := i) (List.nodup_cons.mp nd).2 (by simpa using h1) (by simpa using h2) hk
theorem bindC_get {kindOf : Str → Option NameKind} {x : Str} {v : Value} : ∀ {P : List Str} {vs : List Value} {i : Nat} {m : Str → Option Value}, P.Nodup → P[i]? = some x → vs[i]? = some v → kindOf x ≠ some .local →
    bindC kindOf (P.zip vs) m x = some v
  | [], _, _, _, _, h, _, _ => by simp at h
  | _ :: _, [], _, _, _, _, h, _ => by simp at h
  | p :: P, w :: vs, 0, m, nd, h1, h2, hk => by
    simp at h1 h2; subst h1; subst h2
    show bindC kindOf ((p, w) :: P.zip vs) m p = _
    unfold bindC
    rw [bindC_out fun v hv => (List.nodup_cons.mp nd).1 (List.of_mem_zip hv).1, if_neg hk]
    simp
  | p :: P, w :: vs, i + 1, m, nd, h1, h2, hk => by
    show bindC kindOf ((p, w) :: P.zip vs) m x = _
    unfold bindC
    exact bindC_get (i := i) (List.nodup_cons.mp nd).2 (by simpa using h1) (by simpa using h2) hk


def start (N : List Str) (vs : List V) : St := vs.map some ++ List.replicate (N.length - vs.length) none


def cxOf (CX : CXT) (P : Program) (w : World) (K : PySem.W.Frag) (mg : Str → Option Value) (base : Heap) (N : List Str) (qual : Str) (scope : Scope) (f : Addr) (cd : Value) (A : Around) (outer : List Env) (s : Shared) (H : Hp) (E : XK) : Cx where
  prog := P
  w := w
  K := K
  mg := mg
  base := base
  A := A.deeper (envOfC qual scope s.heap.objs.size f cd)
  N := N
  s₀ := s
  H₀ := H
  env := envOfC qual scope s.heap.objs.size f cd
  outer := outer
  stack := envOfC qual scope s.heap.objs.size f cd :: outer
  ex := []
  calm := true
  fn := fun _ => true
  pn := []
  xe := fun e s' => wpAny (model P w) (A.deeper (envOfC qual scope s.heap.objs.size f cd)) (leaving (envOfC qual scope s.heap.objs.size f cd) e) (fun _ s'' => CX outer H s E e s'') (fun e' s'' => CX outer H s E e' s'') s'

theorem cell_has {sc : Scope} {n : Nat} {x : Str} (h : sc.names.lookup x = some .cell) : ∃ c, (cellsFrom n sc.names []).lookup x = some c := by
  have q := PySem.W.cellsFrom_some sc.names n [] (.inl h)
  exact Option.isSome_iff_exists.mp q

theorem inv_start {CX : CXT} {P : Program} {w : World} {K : PySem.W.Frag} {mg : Str → Option Value} {base : Heap} {N ps : List Str} {qual : Str} {scope : Scope} {f : Addr} {cd : Value} {A : Around} {outer : List Env} {s s1 : Shared} {H : Hp} {E : XK} {us : List Value} {vs : List V}
    (S : FnScope N ps scope) (hd : A.handled = none) (e0 : Env0 P w K mg base A outer s H) (hl : vs.length = ps.length) (r : Vals vs us)
    (x : InCallC s s.heap.objs.size (bindL (envOfC qual scope s.heap.objs.size f cd).kindOf (ps.zip us) fun _ => none) (cellsFrom (s.heap.objs.size + 1) scope.names []) (bindC (envOfC qual scope s.heap.objs.size f cd).kindOf (ps.zip us) fun _ => none) s1) :
    Inv (cxOf CX P w K mg base N qual scope f cd A outer s H E) [] (start N vs) H s1 := by
  have hpl : ps.length ≤ N.length := by have := congrArg List.length S.pre; rw [List.length_take] at this; omega
  obtain ⟨h1, tk, rfl, hk⟩ := x.done
  have noA : ∀ b : Addr, b ∉ (cxOf CX P w K mg base N qual scope f cd A outer s H E).ex := fun b z => absurd (show b ∈ ([] : List Addr) from z) (by simp)
  refine ⟨⟨e0.mod, S.kind, rfl, rfl, Nat.le_refl _, fun y z c h1 h2 => ?_, fun y hy => ?_, fun y c _ h => ?_, fun _ => hd, Around.frames_deeper e0.frames, .inr ⟨rfl, rfl⟩, fun b z => absurd z (noA b), e0.bs, e0.bsz, fun b _ _ => noA b, fun b z => absurd z (noA b), e0.funs, e0.frf⟩,
    rfl, e0.bare, Un.kept hk, ⟨_, x.toInCall.ns, fun i y v h1 h2 h3 => ?_⟩, fun y c h => ⟨_, x.cell y c h⟩, e0.hok.fresh (Nat.le_refl _), fun y c h => ?_, fun p hp => absurd (show p ∈ ([] : List (Addr × Obj)) from hp) (by simp), e0.hok.kept hk, ?_⟩
  · exact name_of_addr x.apart (PySem.mem_of_lookup h1) (PySem.mem_of_lookup h2)
  · have hy : scope.names.lookup y = some .cell ∨ scope.names.lookup y = some .free := hy
    rcases hy with hy | hy
    · exact cell_has hy
    · exact absurd rfl (S.nofree _ (PySem.mem_of_lookup hy))
  · exact Nat.le_of_lt (x.above y c (PySem.mem_of_lookup h))
  · have hi : i < vs.length := by
      unfold start at h2
      by_cases hi : i < vs.length
      · exact hi
      · rw [List.getElem?_append_right (by simpa using hi)] at h2
        rw [List.getElem?_replicate] at h2
        split at h2 <;> cases h2
    have ha : vs[i]? = some v := by
      unfold start at h2
      rw [List.getElem?_append_left (by simpa using hi), List.getElem?_map] at h2
      cases e : vs[i]? with
      | none => rw [e] at h2; cases h2
      | some a => rw [e] at h2; cases h2; rfl
    obtain ⟨u, hu, rv⟩ := r.get ha
    have hp : ps[i]? = some y := by
      rw [← S.pre, List.getElem?_take_of_lt (by omega)]; exact h1
    have ndP : ps.Nodup := by rw [← S.pre]; exact S.nd.sublist (List.take_sublist _ _)
    refine ⟨u, rv, ?_⟩
    rcases S.par y (List.mem_of_getElem? hp) with k | k
    · exact .inl ⟨k, bindL_get ndP hp hu k⟩
    · obtain ⟨c, e⟩ := cell_has (n := s.heap.objs.size + 1) k
      refine .inr ⟨.inl k, c, e, ?_⟩
      have q := x.cell y c e
      rw [bindC_get ndP hp hu (by show scope.names.lookup y ≠ _; rw [k]; decide)] at q
      exact q
  · exact e0.hok.fresh (Nat.le_of_lt (x.above y c (PySem.mem_of_lookup h)))
  · unfold start
    show _ = N.length
    rw [List.length_append, List.length_map, List.length_replicate]
    omega


theorem fn_of {CX : CXT} {P : Program} {w : World} {K : PySem.W.Frag} {mg : Str → Option Value} {base : Heap} {k : Nat} {f : Addr} {name qual : Str} {params : Arguments} {body : List Stmt} {scope : Scope} {dV kV doc pm cdv ct oc : Value} {an od : Option Addr}
    {osl : Array (Option Value)} {N ps : List Str} {sp : Sp} (lk : K.lookup f = some ⟨oc, od, .func (PySem.W.fnOf name qual params body scope dV kV doc pm an cdv ct), osl⟩) (hcd : PySem.W.codeIn K cdv qual = true) (S : FnScope N ps scope)
    (len : ∀ vs H Q E, sp vs H Q E → vs.length = ps.length)
    (hbody : ∀ (A : Around) (outer : List Env) (s : Shared) (H : Hp) (vs : List V) (Q : VK) (E : XK), Room k (A.deeper (envOfC qual scope s.heap.objs.size f cdv)) → sp vs H Q E →
      ∃ t, PSs (cxOf CX P w K mg base N qual scope f cdv A outer s H E) body t ∧ t { nx := fun _ H' => Q .non H', rt := Q } (start N vs) H) :
    FnOk P w K mg base CX (k + 1) f (PySem.W.fnOf name qual params body scope dV kV doc pm an cdv ct) ps sp := by
  refine ⟨len, fun A outer s H args us vs Q E hr e0 hb r hsp => ?_⟩
  have hl := len _ _ _ _ hsp
  have KX : K.In s.heap := e0.mod.kin.keeps fun b o e => (e0.bs b o e).1
  have lim : s.heap.NoLimit := e0.mod.nolimit.keeps fun b o e => (e0.bs b o e).1
  have hkind : ∀ y ∈ ps.zip us, scope.names.lookup y.1 = some .local ∨ (scope.names.lookup y.1 = some .cell ∧ ((cellsFrom (s.heap.objs.size + 1) scope.names []).lookup y.1).isSome = true) := fun ⟨n, v⟩ hy => by
    rcases S.par n (List.of_mem_zip hy).1 with q | q
    · exact .inl q
    · exact .inr ⟨q, PySem.W.cellsFrom_some _ _ _ (.inl q)⟩
  refine codeAny_call_function hr.depth (KX _ _ lk) rfl S.co S.gen rfl (PySem.W.codeRec_of KX hcd) (hb _ _ _ _ ?_)
  refine wpAny_newFunctionEnv_cells S.kind hkind fun env he s1 x => ?_
  subst he
  refine ⟨lim.keeps x.toInCall.keep, codeAny_func ?_⟩
  obtain ⟨t, ht, hq⟩ := hbody A outer s H vs Q E (hr.deeper _) hsp
  have I : Inv (cxOf CX P w K mg base N qual scope f cdv A outer s H E) [] (start N vs) H s1 := inv_start S hr.hd e0 hl r x
  refine wpAny_mono (ht [] s1 (start N vs) H _ I hq) (fun fl s' hs => ?_) fun e s' hs => hs
  have fin : ∀ {σ' : St} {H' : Hp} {v : V} {u : Value}, Inv (cxOf CX P w K mg base N qual scope f cdv A outer s H E) [] σ' H' s' → RelV v u → Q v H' → CE outer P w H s Q u s' :=
    fun {σ' H' v u} J rv q => ⟨v, H', J.os, J.bare, J.base, J.hok, rv, q⟩
  cases fl with
  | ret u =>
    obtain ⟨v, σ', H', J, rv, q⟩ := hs
    exact fin J rv q
  | next =>
    obtain ⟨σ', H', J, q⟩ := hs
    exact fin (v := V.non) (u := Value.none) J rfl q
  | brk =>
    obtain ⟨_, _, _, q⟩ := hs
    exact False.elim q
  | cont =>
    obtain ⟨_, _, _, q⟩ := hs
    exact False.elim q
end L2

namespace L2
open PySem PySem.Spec PyProof.Rows
section
variable {X : Cx} {x : Str} {p pos : Pos} {e : Expr} {es : List Expr} {t : TA} {id T : String} {r : List V → Hp → VK → Prop}

def tCB (r : List V → Hp → VK → Prop) (t : TA) : TE := fun σ H Q => t σ H fun vs H1 => r vs H1 Q

theorem pe_callB (hc : CallR X (.builtin id) r) (hg : Gl X x) (hm : X.mg x = none) (hv : bootBuiltins x = some (.builtin id)) (ha : PA X (e :: es) t) (hn : x ≠ "__name__" := by decide) (hdb : (x == ("__debug__" : Str)) = false := by decide)
    (he : starEach (e :: es) X.env = (false, eval e X.env) :: starEach es X.env := by rfl) (hpl : (backTo pos (starEach es X.env)).any (·.1) = false := by rfl) : PE X (.Call (.Name x p) (e :: es) [] pos) (tCB r t) := by
  intro pins s σ H Q I h
  refine wpAny_Call_Name_kw (ld_blt I hg hm hv ?_ hn hdb)
  exact PyProof.Rows.callWith_builtin1 (thn (ha pos pins s σ H _ I h) fun us s1 ⟨vs, H1, I1, r1, q1⟩ => hc pins s1 σ H1 vs us Q I1 r1 q1) he hpl

theorem pe_callTy (hc : CallR X (.type T) r) (hg : Gl X x) (hm : X.mg x = none) (hv : bootBuiltins x = some (.type T)) (ha : PA X (e :: es) t) (hn : x ≠ "__name__" := by decide) (hdb : (x == ("__debug__" : Str)) = false := by decide)
    (he : starEach (e :: es) X.env = (false, eval e X.env) :: starEach es X.env := by rfl) (hpl : (backTo pos (starEach es X.env)).any (·.1) = false := by rfl) : PE X (.Call (.Name x p) (e :: es) [] pos) (tCB r t) := by
  intro pins s σ H Q I h
  refine wpAny_Call_Name_kw (ld_blt I hg hm hv ?_ hn hdb)
  exact PyProof.Rows.callWith_type1 (thn (ha pos pins s σ H _ I h) fun us s1 ⟨vs, H1, I1, r1, q1⟩ => hc pins s1 σ H1 vs us Q I1 r1 q1) he hpl

end
end L2

namespace HT
open PySem PyProof.Rows


section
open PySem.SeqAt
open PySem.AutoSeq1 (wpAny_loadPart')
open PySem.MeetsSeq PySem.MeetsSeq2 PySem.MeetsSeq3

end

section
variable {prog : Program} {w : World} {A : Around} {E : Value → Shared → Prop} {s : Shared}

theorem cat_tup {t b : Addr} {vs ws : List Value} {Q : Value → Shared → Prop} (ht : IsTup s.heap t vs.toArray) (hb : IsTup s.heap b ws.toArray) (hv : vs ≠ [])
    (h1 : ws = [] → Q (.ref t) s) (h2 : ws ≠ [] → Q (.ref s.heap.objs.size) { s with heap := s.heap.push { cls := .type "tuple", data := .seq (vs ++ ws).toArray } })
    (hsz : vs.length + ws.length ≤ sizeLine) : wpAny (model prog w) A (binaryOp .Add (.ref t) (.ref b)) Q E s := by
  obtain ⟨⟨cls, dd, data, sl⟩, ho, hc, n, hd⟩ := id ht
  obtain ⟨⟨cls2, dd2, data2, sl2⟩, ho2, hc2, n2, hd2⟩ := id hb
  simp only at hc hd hc2 hd2
  subst hc hd hc2 hd2
  have e : vs.toArray ++ ws.toArray = (vs ++ ws).toArray := by simp
  by_cases hw : ws = []
  · exact concat_meets ⟨_, ho, rfl⟩ ⟨_, ho2, rfl⟩ noFill_tuple_add seq_tuple_add PySem.F.slot_tuple_add PySem.F.entry_tuple_add (PySem.F.args_tuple_add_2 _ _)
      (tuple_addW1 t b vs.toArray ws.toArray n n2 dd dd2 sl sl2 (by simpa using hv) (by simp [hw])) ⟨ho, ho2, h1 hw⟩
  · refine concat_meets ⟨_, ho, rfl⟩ ⟨_, ho2, rfl⟩ noFill_tuple_add seq_tuple_add PySem.F.slot_tuple_add PySem.F.entry_tuple_add (PySem.F.args_tuple_add_2 _ _)
      (tuple_addW2 t b vs.toArray ws.toArray n n2 dd dd2 sl sl2 (by simpa using hv) (by simpa using hw) (by rw [List.size_toArray, List.size_toArray]; exact hsz)) ⟨ho, ho2, ?_⟩
    rw [e]
    exact h2 hw



def sIx (n d : Nat) : Option Int → Nat
  | none => d
  | some v => if v < 0 then (v + (n : Int)).toNat else min v.toNat n
end
end HT

namespace L2
open PySem PySem.Spec PyProof.Rows


abbrev TO := St → Hp → (Option Int → Hp → Prop) → Prop

def PO (X : Cx) (e : Option Expr) (t : TO) : Prop :=
  ∀ (pins : List (Addr × Obj)) (s : Shared) (σ : St) (H : Hp) (Q : Option Int → Hp → Prop), Inv X pins σ H s → t σ H Q →
    wpAny (model X.prog X.w) X.A (evalPart e X.env) (fun u s' => ∃ o H', Inv X pins σ H' s' ∧ IsPart u o ∧ Q o H') X.xe s
def tNoPart : TO := fun _ H Q => Q none H
def tPart (t : TE) : TO := fun σ H Q => t σ H fun x H1 => ∃ i, x = .int i ∧ Q (some i) H1

section
variable {X : Cx} {e : Expr} {te : TE} {lo hi : Option Expr} {tl th : TO} {pos p2 : Pos}

theorem po_none : PO X none tNoPart := by
  intro pins s σ H Q I h
  rw [evalPart_none]
  exact wpAny_pure ⟨none, H, I, .none, h⟩
theorem po_some (h : PE X e te) : PO X (some e) (tPart te) := by
  intro pins s σ H Q I hw
  rw [evalPart_some]
  refine thn (h pins s σ H _ I hw) fun u s1 ⟨x, H1, I1, r1, q1⟩ => ?_
  obtain ⟨i, rfl, q⟩ := q1
  obtain ⟨t, rfl⟩ := r1
  exact ⟨some i, H1, I1, .int i t, q⟩


def SlR (X : Cx) (r : V → Option Int → Option Int → Hp → VK → Prop) : Prop :=
  ∀ (pins : List (Addr × Obj)) (s : Shared) (σ : St) (H : Hp) (x : V) (v vl vu : Value) (lo hi : Option Int) (sl : Addr) (Q : VK), Inv X pins σ H s → RelV x v → s.heap.IsSliceOf sl vl vu .none → IsPart vl lo → IsPart vu hi → r x lo hi H Q →
    ∃ T id, typeLookup (.type T) "__getitem__" = pure (some (.builtin id)) ∧ s.TypeIs v T ∧ wpAny (model X.prog X.w) X.A (getItem v (.ref sl)) (EP X pins σ Q) X.xe s
theorem SlR.or {r r' : V → Option Int → Option Int → Hp → VK → Prop} (h : SlR X r) (h' : SlR X r') : SlR X (fun x lo hi H Q => r x lo hi H Q ∨ r' x lo hi H Q) := by
  intro pins s σ H x v vl vu lo hi sl Q I rx hs pl pu q
  rcases q with q | q
  · exact h pins s σ H x v vl vu lo hi sl Q I rx hs pl pu q
  · exact h' pins s σ H x v vl vu lo hi sl Q I rx hs pl pu q
def tSl (r : V → Option Int → Option Int → Hp → VK → Prop) (te : TE) (tl th : TO) : TE := fun σ H Q => te σ H fun x H1 => tl σ H1 fun l H2 => th σ H2 fun u H3 => r x l u H3 Q

theorem pe_slice {r : V → Option Int → Option Int → Hp → VK → Prop} (hr : SlR X r) (he : PE X e te) (hl : PO X lo tl) (hu : PO X hi th) : PE X (.Subscript e (.Slice lo hi none p2) pos) (tSl r te tl th) := by
  intro pins s σ H Q I h
  refine Subscript_ (thn (he pins s σ H _ I h) fun v s1 ⟨x, H1, I1, r1, q1⟩ => ?_)
  refine wpAny_Slice (thn (hl pins s1 σ H1 _ I1 q1) fun vl s2 ⟨l, H2, I2, pl, q2⟩ => thn (hu pins s2 σ H2 _ I2 q2) fun vu s3 ⟨u, H3, I3, pu, q3⟩ => ?_)
  rw [evalPart_none]
  refine wpAny_pure ?_
  have I4 : Inv X pins σ H3 { s3 with heap := s3.heap.push { cls := .type "slice", data := .fields #[vl, vu, .none] } } := I3.kept (t' := s3.toks) fun b ob q => Heap.get?_push_of_some _ q
  obtain ⟨T, id, hT, ht, hg⟩ := hr pins { s3 with heap := s3.heap.push { cls := .type "slice", data := .fields #[vl, vu, .none] } } σ H3 x v vl vu l u s3.heap.objs.size Q I4 r1 (Heap.IsSliceOf.new ..) pl pu q3
  show wpAny (model X.prog X.w) X.A (subscriptTail e (.Slice lo hi none p2) v (.ref s3.heap.objs.size)) (EP X pins σ Q) X.xe { s3 with heap := s3.heap.push { cls := .type "slice", data := .fields #[vl, vu, .none] } }
  exact tail_any (ops := [.ref s3.heap.objs.size, v]) ht hT hg (by with_unfolding_all rfl)


def cutV (xs : List V) (lo hi : Option Int) : List V := (xs.drop (HT.sIx xs.length 0 lo)).take (HT.sIx xs.length xs.length hi - HT.sIx xs.length 0 lo)
theorem cutV_length (xs : List V) (lo hi : Option Int) : (cutV xs lo hi).length ≤ xs.length := by
  unfold cutV
  rw [List.length_take, List.length_drop]
  omega

def rCatT (K : PySem.W.Frag) : R2 := fun x y H Q => ∃ a b xs ys, x = .ref a ∧ y = .ref b ∧ SqT K H a xs ∧ SqT K H b ys ∧ xs ≠ [] ∧ xs.length + ys.length ≤ sizeLine ∧
  (ys = [] → Q (.ref a) H) ∧ (ys ≠ [] → ∀ p, H p = none → Q (.ref p) (upd H p (.tup (xs ++ ys))))
theorem Vals.nil_iff {xs : List V} {us : List Value} (r : Vals xs us) : us = [] ↔ xs = [] := by
  cases r with
  | nil => simp
  | cons _ _ => simp
theorem op_catT : OpR X (binaryOp .Add) (rCatT X.K) := by
  intro pins s σ H x y v u Q I rx ry h
  obtain ⟨a, b, xs, ys, rfl, rfl, ha, hb, hx, hz, q1, q2⟩ := h
  cases rx
  cases ry
  obtain ⟨its, r1, p1, _⟩ := I.tuple ha
  obtain ⟨its2, r2, p2, _⟩ := I.tuple hb
  refine HT.cat_tup p1 p2 (fun z => hx (r1.nil_iff.mp z)) (fun z => ⟨.ref a, H, I, rfl, q1 (r2.nil_iff.mp z)⟩) (fun z => ?_) (by rw [← r1.length, ← r2.length]; exact hz)
  refine ⟨.ref s.heap.objs.size, _, I.laid (t' := s.toks) (o := .tup (xs ++ ys)) (fun b ob q => Heap.get?_push_of_some _ q) (Nat.le_refl _) ?_, rfl, q2 (fun w => z (r2.nil_iff.mpr w)) _ (I.hok.fresh (Nat.le_refl _))⟩
  exact ⟨by rw [List.length_append]; exact hz, _, r1.append r2, IsTup.new _ _⟩

end
end L2

namespace L2
open PySem PySem.Spec PyProof.Rows



def ixN (n : Nat) (i : Int) : Option Nat := if 0 ≤ i then (if i < n then some i.toNat else none) else if -(n : Int) ≤ i then some (i + n).toNat else none
def atI {α : Type} (xs : List α) (i : Int) : Option α := (ixN xs.length i).bind fun j => xs[j]?
theorem ixN_seq {n : Nat} {i : Int} {j : Nat} (h : ixN n i = some j) : seqIndex? i n = some j ∧ j < n ∧ -(n : Int) ≤ i ∧ i < n := by
  unfold ixN at h
  by_cases h0 : 0 ≤ i
  · rw [if_pos h0] at h
    by_cases h1 : i < n
    · rw [if_pos h1] at h
      have e : i.toNat = j := Option.some.inj h
      exact ⟨by rw [seqIndex_of h0 h1, e], by omega, by omega, h1⟩
    · rw [if_neg h1] at h; cases h
  · rw [if_neg h0] at h
    by_cases h1 : -(n : Int) ≤ i
    · rw [if_pos h1] at h
      have e : (i + n).toNat = j := Option.some.inj h
      exact ⟨by rw [seqIndex_neg (by omega) h1, e], by omega, h1, by omega⟩
    · rw [if_neg h1] at h; cases h
theorem atI_get {α : Type} {xs : List α} {i : Int} {v : α} (h : atI xs i = some v) : ∃ j, seqIndex? i xs.length = some j ∧ xs[j]? = some v ∧ j < xs.length ∧ -(xs.length : Int) ≤ i ∧ i < xs.length := by
  unfold atI at h
  cases e : ixN xs.length i with
  | none => rw [e] at h; cases h
  | some j =>
    rw [e] at h
    obtain ⟨h1, h2, h3, h4⟩ := ixN_seq e
    exact ⟨j, h1, h, h2, h3, h4⟩
theorem atI_nat {α : Type} {xs : List α} {j : Nat} {v : α} (h : xs[j]? = some v) : atI xs (j : Int) = some v := by
  have hj : j < xs.length := (List.getElem?_eq_some_iff.mp h).1
  have e : ixN xs.length (j : Int) = some j := by
    unfold ixN
    rw [if_pos (by omega), if_pos (by omega)]; simp
  unfold atI; rw [e]; exact h
def PlainIx (b : Expr) : Prop := ∀ o i, subscripted b false o i = operate [o, i] (getItem o i)

def IxR (X : Cx) (r : R2) : Prop :=
  ∀ (value slice : Expr) (pins : List (Addr × Obj)) (s : Shared) (σ : St) (H : Hp) (x y : V) (v u : Value) (Q : VK), Inv X pins σ H s → RelV x v → RelV y u → r x y H Q →
    subscripted slice false v u = operate [v, u] (getItem v u) → wpAny (model X.prog X.w) X.A (subscriptTail value slice v u) (EP X pins σ Q) X.xe s

def MtR (X : Cx) (id : String) (r : V → List V → Hp → VK → Prop) : Prop :=
  ∀ (pins : List (Addr × Obj)) (s : Shared) (σ : St) (H : Hp) (x : V) (xs : List V) (v : Value) (us : List Value) (Q : VK), Inv X pins σ H s → RelV x v → Vals xs us → r x xs H Q →
    wpAny (model X.prog X.w) X.A (call (.builtin id) (v :: us)) (EP X pins σ Q) X.xe s
section
variable {X : Cx} {a b : Expr} {ta tb : TE} {pos : Pos}
theorem IxR.or {r r' : R2} (h : IxR X r) (h' : IxR X r') : IxR X (fun x y H Q => r x y H Q ∨ r' x y H Q) := by
  intro value slice pins s σ H x y v u Q I rx ry q hs
  rcases q with q | q
  · exact h value slice pins s σ H x y v u Q I rx ry q hs
  · exact h' value slice pins s σ H x y v u Q I rx ry q hs
theorem MtR.or {id : String} {r r' : V → List V → Hp → VK → Prop} (h : MtR X id r) (h' : MtR X id r') : MtR X id (fun x xs H Q => r x xs H Q ∨ r' x xs H Q) := by
  intro pins s σ H x xs v us Q I rx rs q
  rcases q with q | q
  · exact h pins s σ H x xs v us Q I rx rs q
  · exact h' pins s σ H x xs v us Q I rx rs q

theorem pe_ix {r : R2} (hr : IxR X r) (ha : PE X a ta) (hb : PE X b tb) (hs : PlainIx b) : PE X (.Subscript a b pos) (tOp r ta tb) := by
  intro pins s σ H Q I h
  exact Subscript_ (binT ha hb I h fun v u s2 x y H2 I2 rx ry q => hr a b pins s2 σ H2 x y v u Q I2 rx ry q (hs _ _))

def rIxL (K : PySem.W.Frag) : R2 := fun x y H Q => ∃ p xs i v, x = .ref p ∧ y = .int i ∧ SqL K H p xs ∧ atI xs i = some v ∧ Q v H
def rIxT (K : PySem.W.Frag) : R2 := fun x y H Q => ∃ p xs i v, x = .ref p ∧ y = .int i ∧ SqT K H p xs ∧ atI xs i = some v ∧ Q v H
def rIxS : R2 := fun x y H Q => ∃ z i c, x = .str z ∧ y = .int i ∧ z.length ≤ sizeLine ∧ atI z.cps.toList i = some c ∧ Q (.str ⟨#[c]⟩) H
theorem ix_list : IxR X (rIxL X.K) := by
  intro value slice pins s σ H x y v u Q I rx ry h hs
  obtain ⟨p, xs, i, z, rfl, rfl, hq, he, q⟩ := h
  cases rx
  obtain ⟨t, rfl⟩ := ry
  obtain ⟨its, r, pl, hz⟩ := I.list hq
  obtain ⟨j, h1, h2, h3, h4, h5⟩ := atI_get he
  obtain ⟨w, ew, rw'⟩ := r.get h2
  have hl := r.length
  have hn := line63
  have fin : EP X pins σ Q w s := ⟨z, H, I, rw', q⟩
  by_cases h0 : 0 ≤ i
  · have hj : i.toNat = j := by
      rw [seqIndex_of h0 h5] at h1
      exact Option.some.inj h1
    exact item_listR pl.isList h0 (by omega) (by rw [hj]; simpa using ew) fin hs
  · have hj : (i + (its.toArray.size : Int)).toNat = j := by
      rw [seqIndex_neg (by omega) h4] at h1
      rw [List.size_toArray, ← hl]
      exact Option.some.inj h1
    exact subscriptTail_builtinR (x := w) pl.isList.typeIs slot_list_getitem.lookup
      (wpAny_getItem_list_neg (Q := fun r s' => r = w ∧ EP X pins σ Q r s') pl.isList (by omega) (by rw [List.size_toArray] <;> omega) (by omega) (by rw [hj]; simpa using ew) ⟨rfl, fin⟩) hs
theorem ix_tup : IxR X (rIxT X.K) := by
  intro value slice pins s σ H x y v u Q I rx ry h hs
  obtain ⟨p, xs, i, z, rfl, rfl, hq, he, q⟩ := h
  cases rx
  obtain ⟨t, rfl⟩ := ry
  obtain ⟨its, r, pl, hz⟩ := I.tuple hq
  obtain ⟨j, h1, h2, h3, h4, h5⟩ := atI_get he
  obtain ⟨w, ew, rw'⟩ := r.get h2
  have hl := r.length
  have hn := line63
  have fin : EP X pins σ Q w s := ⟨z, H, I, rw', q⟩
  exact subscriptTail_builtinR (x := w) pl.typeIs slot_tuple_getitem.lookup
    (getItem_tuple (j := j) (Q := fun r s' => r = w ∧ EP X pins σ Q r s') pl (by omega) (by omega) (by rw [List.size_toArray, ← hl]; exact h1) (by simpa using ew) ⟨rfl, fin⟩) hs
theorem ix_str : IxR X rIxS := by
  intro value slice pins s σ H x y v u Q I rx ry h hs
  obtain ⟨z, i, c, rfl, rfl, hz, he, q⟩ := h
  obtain ⟨t, rfl⟩ := rx
  obtain ⟨t', rfl⟩ := ry
  obtain ⟨j, h1, h2, h3, h4, h5⟩ := atI_get he
  have hl : z.cps.toList.length = z.length := by simp [Str.length]
  rw [hl] at h1 h4 h5
  have hn := line63
  exact tail_any (typeIs_str s z t) slot_str_getitem.lookup (getItem_str (c := c) (by
    have e1 : decide (i < -(2 ^ 63 : Int)) = false := decide_eq_false (by omega)
    have e2 : decide (i ≥ 2 ^ 63) = false := decide_eq_false (by omega)
    rw [e1, e2, Bool.or_false]) (by rw [h1]; simpa using h2) ⟨.str ⟨#[c]⟩, H, I.tok _, ⟨_, rfl⟩, q⟩) hs

theorem mapSeq_set (its : List Value) (n j : Nat) (u : Value) : Obj.mapSeq (·.setIfInBounds j u) { cls := .type "list", data := .seq its.toArray n } = { cls := .type "list", data := .seq (its.set j u).toArray n } := by
  simp [Obj.mapSeq]
theorem Inv.lst {pins : List (Addr × Obj)} {σ : St} {H : Hp} {s : Shared} {p : Addr} {xs : List V} (I : Inv X pins σ H s) (h : H p = some (.lst xs)) :
    ∃ (its : List Value) (n : Nat), Vals xs its ∧ s.heap.get? p = some { cls := .type "list", data := .seq its.toArray n } ∧ xs.length ≤ sizeLine := by
  obtain ⟨z, its, n, r, e⟩ := I.hok p _ h
  exact ⟨its, n, r, e, z⟩

theorem Inv.lstUpd {pins : List (Addr × Obj)} {σ : St} {H : Hp} {s : Shared} {p : Addr} {xs ys : List V} {its its' : List Value} {n n' : Nat} {f : Obj → Obj} (I : Inv X pins σ H s) (h : H p = some (.lst xs))
    (ho : s.heap.get? p = some { cls := .type "list", data := .seq its.toArray n }) (hf : f { cls := .type "list", data := .seq its.toArray n } = { cls := .type "list", data := .seq its'.toArray n' }) (r : Vals ys its') (hz : ys.length ≤ sizeLine) (t : Nat) :
    Inv X pins σ (upd H p (.lst ys)) { s with heap := s.heap.update p f, toks := t } := by
  have e : (s.heap.update p f).get? p = some { cls := .type "list", data := .seq its'.toArray n' } := by
    rw [Heap.get?_update_self f ho (by rw [hf] <;> rfl), hf]
  refine I.write (x := p) (e := p) (by rw [h]; trivial) (.inl rfl) (fun b u hb q => (Heap.get?_update_other _ _ (Ne.symm hb)).trans q) ⟨_, e⟩ ?_
  exact ⟨hz, its', n', r, e⟩
def rSetL : V → V → V → Hp → (Hp → Prop) → Prop := fun o i v H Q => ∃ p xs k j, o = .ref p ∧ i = .int k ∧ H p = some (.lst xs) ∧ ixN xs.length k = some j ∧ Q (upd H p (.lst (xs.set j v)))
theorem set_list : PSet X rSetL := by
  intro pins s σ H o i v ov iv u Q I ro ri rv h
  obtain ⟨p, xs, k, j, rfl, rfl, hp, hj, q⟩ := h
  cases ro
  obtain ⟨t, rfl⟩ := ri
  obtain ⟨its, n, r, ho, hz⟩ := I.lst hp
  obtain ⟨h1, h2, h3, h4⟩ := ixN_seq hj
  have hl := r.length
  have hn := line63
  have I' : Inv X pins σ (upd H p (.lst (xs.set j v))) { s with heap := s.heap.update p (Obj.mapSeq (·.setIfInBounds j u)) } :=
    I.lstUpd hp ho (mapSeq_set its n j u) (r.set rv j) (by rw [List.length_set]; exact hz) s.toks
  by_cases h0 : 0 ≤ k
  · have hk : k.toNat = j := by
      rw [seqIndex_of h0 h4] at h1
      exact Option.some.inj h1
    exact PySem.W.ki_setAt ho h0 (by omega) (by rw [List.size_toArray, ← hl]; exact h4) (by rw [hk]; exact ⟨_, I', q⟩)
  · have hk : (k + (its.toArray.size : Int)).toNat = j := by
      rw [seqIndex_neg (by omega) h3] at h1
      rw [List.size_toArray, ← hl]
      exact Option.some.inj h1
    exact PySem.W.ki_setBack ho (by omega) (by rw [List.size_toArray, ← hl]; exact h3) (by omega) (by rw [hk]; exact ⟨_, I', q⟩)


theorem slice_bounds (lo hi : Option Int) (n : Nat) : (sliceBounds lo hi none n).1 = ((HT.sIx n 0 lo : Nat) : Int) ∧ (sliceBounds lo hi none n).2.1 = ((HT.sIx n n hi : Nat) : Int) ∧ (sliceBounds lo hi none n).2.2 = 1 := by
  refine ⟨?_, ?_, rfl⟩
  · cases lo with
    | none => simp [sliceBounds, HT.sIx]
    | some i =>
      simp only [sliceBounds, HT.sIx, Option.getD_none, show (1 : Int) > 0 by decide, if_true]
      by_cases h : i < 0
      · simp only [h, if_true] <;> omega
      · simp only [h, if_false] <;> omega
  · cases hi with
    | none => simp [sliceBounds, HT.sIx]
    | some i =>
      simp only [sliceBounds, HT.sIx, Option.getD_none, show (1 : Int) > 0 by decide, if_true]
      by_cases h : i < 0
      · simp only [h, if_true] <;> omega
      · simp only [h, if_false] <;> omega
theorem slicePick_cut (its : List Value) (lo hi : Option Int) : slicePick its.toArray lo hi none = ((its.drop (HT.sIx its.length 0 lo)).take (HT.sIx its.length its.length hi - HT.sIx its.length 0 lo)).toArray := by
  obtain ⟨h1, h2, h3⟩ := slice_bounds lo hi its.toArray.size
  unfold slicePick
  rw [h1, h2, h3]
  simp only [sliceRange_one, pick_run, List.size_toArray] <;> rfl

def rSlL (K : PySem.W.Frag) : V → Option Int → Option Int → Hp → VK → Prop := fun x lo hi H Q => ∃ a xs, x = .ref a ∧ SqL K H a xs ∧ ∀ p, H p = none → Q (.ref p) (upd H p (.lst (cutV xs lo hi)))
theorem sl_list : SlR X (rSlL X.K) := by
  intro pins s σ H x v vl vu lo hi sl Q I rx hs pl pu h
  obtain ⟨a, xs, rfl, hx, q⟩ := h
  cases rx
  obtain ⟨its, r, ht, hz⟩ := I.list hx
  have hlen := r.length
  refine ⟨"list", _, slot_list_getitem.lookup, ht.isList.typeIs, ?_⟩
  refine wpAny_getItem_list_slice ht.isList hs pl pu .none (by simp) ?_ (by rw [List.size_toArray] <;> omega)
  rw [slicePick_cut, ← hlen]
  refine ⟨.ref s.heap.objs.size, _, I.laid (t' := s.toks) (o := .lst (cutV xs lo hi)) (fun b ob q => Heap.get?_push_of_some _ q) (Nat.le_refl _) ?_, rfl, q _ (I.hok.fresh (Nat.le_refl _))⟩
  exact ⟨Nat.le_trans (cutV_length xs lo hi) hz, _, 0, (r.drop (HT.sIx xs.length 0 lo)).take (HT.sIx xs.length xs.length hi - HT.sIx xs.length 0 lo), Heap.get?_push_size _ rfl⟩


def flatV : V → Bool
  | .non => true
  | .bl _ => true
  | .int _ => true
  | .str _ => true
  | _ => false

def eqV : V → V → Bool
  | .non, .non => true
  | .bl a, .bl b => a == b
  | .bl a, .int b => (if a then 1 else 0) == b
  | .int a, .bl b => a == (if b then 1 else 0)
  | .int a, .int b => a == b
  | .str a, .str b => a == b
  | _, _ => false
theorem eqAt_V {A : Around} {s : Shared} {y x : V} {u v : Value} (ry : RelV y u) (rx : RelV x v) (fy : flatV y = true) (fx : flatV x = true) : SeqAt.EqAt A s u v (eqV y x) := by
  cases y with
  | non =>
    cases ry
    cases x with
    | non => cases rx; exact SeqAt.EqAt.same _
    | bl b => cases rx; exact SeqAt.EqAt.none_bool b
    | int b => obtain ⟨t, rfl⟩ := rx; exact SeqAt.EqAt.none_int b t
    | str b => obtain ⟨t, rfl⟩ := rx; exact SeqAt.EqAt.none_str b t
    | _ => exact absurd (show false = true from fx) Bool.false_ne_true
  | bl a =>
    cases ry
    cases x with
    | non => cases rx; exact SeqAt.EqAt.bool_none a
    | bl b => cases rx; exact SeqAt.EqAt.bool_bool a b
    | int b => obtain ⟨t, rfl⟩ := rx; exact SeqAt.EqAt.bool_int a b t
    | str b => obtain ⟨t, rfl⟩ := rx; exact SeqAt.EqAt.bool_str a b t
    | _ => exact absurd (show false = true from fx) Bool.false_ne_true
  | int a =>
    obtain ⟨t', rfl⟩ := ry
    cases x with
    | non => cases rx; exact SeqAt.EqAt.int_none a t'
    | bl b => cases rx; exact SeqAt.EqAt.int_bool a t' b
    | int b => obtain ⟨t, rfl⟩ := rx; exact SeqAt.EqAt.int_int a t' b t
    | str b => obtain ⟨t, rfl⟩ := rx; exact SeqAt.EqAt.int_str a t' b t
    | _ => exact absurd (show false = true from fx) Bool.false_ne_true
  | str a =>
    obtain ⟨t', rfl⟩ := ry
    cases x with
    | non => cases rx; exact SeqAt.EqAt.str_none a t'
    | bl b => cases rx; exact SeqAt.EqAt.str_bool a t' b
    | int b => obtain ⟨t, rfl⟩ := rx; exact SeqAt.EqAt.str_int a t' b t
    | str b => obtain ⟨t, rfl⟩ := rx; exact SeqAt.EqAt.str_str a t' b t
    | _ => exact absurd (show false = true from fx) Bool.false_ne_true
  | _ => exact absurd (show false = true from fy) Bool.false_ne_true

def eqU (x : V) (u : Value) : Bool := match u with
  | .none => eqV .non x
  | .bool b => eqV (.bl b) x
  | .int i _ => eqV (.int i) x
  | .str z _ => eqV (.str z) x
  | _ => false
theorem eqU_of {x y : V} {u : Value} (r : RelV y u) (f : flatV y = true) : eqU x u = eqV y x := by
  cases y with
  | non => cases r; rfl
  | bl b => cases r; rfl
  | int i => obtain ⟨t, rfl⟩ := r; rfl
  | str z => obtain ⟨t, rfl⟩ := r; rfl
  | _ => exact absurd (show false = true from f) Bool.false_ne_true
theorem any_eqU {x : V} : ∀ {xs : List V} {us : List Value}, Vals xs us → xs.all flatV = true → us.any (eqU x) = xs.any fun y => eqV y x
  | _, _, .nil, _ => rfl
  | y :: xs, u :: us, .cons r t, f => by
    rw [List.all_cons, Bool.and_eq_true] at f
    rw [List.any_cons, List.any_cons, eqU_of r f.1, any_eqU t f.2]
theorem mem_eqAt {A : Around} {s : Shared} {x : V} {v : Value} (rx : RelV x v) (fx : flatV x = true) : ∀ {xs : List V} {us : List Value}, Vals xs us → xs.all flatV = true → ∀ u ∈ us, SeqAt.EqAt A s u v (eqU x u)
  | _, _, .nil, _ => fun u hu => by cases hu
  | y :: xs, u :: us, .cons r t, f => fun u' hu => by
    rw [List.all_cons, Bool.and_eq_true] at f
    rcases List.mem_cons.mp hu with rfl | hu
    · rw [eqU_of r f.1]; exact eqAt_V r rx f.1 fx
    · exact mem_eqAt rx fx t f.2 u' hu
def inV (x : V) (xs : List V) : Bool := xs.any fun y => eqV y x

def rIn (K : PySem.W.Frag) (neg : Bool) : R2 := fun x y H Q => ∃ p xs, y = .ref p ∧ (SqL K H p xs ∨ SqT K H p xs) ∧ flatV x = true ∧ xs.all flatV = true ∧ Q (.bl (if neg then !inV x xs else inV x xs)) H
theorem op_in_seq : OpR X (compareOp .In) (rIn X.K false) := by
  intro pins s σ H x y v u Q I rx ry h
  obtain ⟨p, xs, rfl, hq, fx, fs, q⟩ := h
  cases ry
  rcases hq with hq | hq
  · obtain ⟨its, r, pl, hz⟩ := I.list hq
    refine SeqAt.in_listAt (eqU x) pl.isList (fun w hw => mem_eqAt rx fx r fs w (by simpa using hw)) ⟨.bl _, H, I, rfl, ?_⟩
    rw [show its.toArray.any (eqU x) = its.any (eqU x) by simp, any_eqU r fs]
    exact q
  · obtain ⟨its, r, pl, hz⟩ := I.tuple hq
    refine SeqAt.in_tupleAt (eqU x) pl (fun w hw => mem_eqAt rx fx r fs w (by simpa using hw)) ⟨.bl _, H, I, rfl, ?_⟩
    rw [show its.toArray.any (eqU x) = its.any (eqU x) by simp, any_eqU r fs]
    exact q
theorem op_notIn_seq : OpR X (compareOp .NotIn) (rIn X.K true) := by
  intro pins s σ H x y v u Q I rx ry h
  obtain ⟨p, xs, rfl, hq, fx, fs, q⟩ := h
  cases ry
  rcases hq with hq | hq
  · obtain ⟨its, r, pl, hz⟩ := I.list hq
    refine SeqAt.notIn_listAt (eqU x) pl.isList (fun w hw => mem_eqAt rx fx r fs w (by simpa using hw)) ⟨.bl _, H, I, rfl, ?_⟩
    rw [show its.toArray.any (eqU x) = its.any (eqU x) by simp, any_eqU r fs]
    exact q
  · obtain ⟨its, r, pl, hz⟩ := I.tuple hq
    refine SeqAt.notIn_tupleAt (eqU x) pl (fun w hw => mem_eqAt rx fx r fs w (by simpa using hw)) ⟨.bl _, H, I, rfl, ?_⟩
    rw [show its.toArray.any (eqU x) = its.any (eqU x) by simp, any_eqU r fs]
    exact q
theorem call_len_seq : CallR X (.builtin "len") (fun xs H Q => ∃ p ys, xs = [.ref p] ∧ (SqL X.K H p ys ∨ SqT X.K H p ys) ∧ Q (.int ys.length) H) := by
  intro pins s σ H xs us Q I r h
  obtain ⟨p, ys, rfl, hq, q⟩ := h
  obtain ⟨u, rfl, rx⟩ := vals1 r
  cases rx
  have hn := line63
  rcases hq with hq | hq
  · obtain ⟨its, r', pl, hz⟩ := I.list hq
    have hlen := r'.length
    exact Calls.call_len_list pl.isList (by simp only [List.size_toArray] <;> omega) ⟨.int ys.length, H, I.tok _, ⟨s.toks + 1, by rw [List.size_toArray, hlen]⟩, q⟩
  · obtain ⟨its, r', pl, hz⟩ := I.tuple hq
    have hlen := r'.length
    exact len_tuple pl (by simp only [List.size_toArray] <;> omega) ⟨.int ys.length, H, I.tok _, ⟨s.toks + 1, by rw [List.size_toArray, hlen]⟩, q⟩
theorem call_len_str : CallR X (.builtin "len") (fun xs H Q => ∃ z, xs = [.str z] ∧ z.length ≤ sizeLine ∧ Q (.int z.length) H) := by
  intro pins s σ H xs us Q I r h
  obtain ⟨z, rfl, hz, q⟩ := h
  obtain ⟨u, rfl, t, rfl⟩ := vals1 r
  have hn := line63
  exact len_str (by omega) ⟨.int z.length, H, I.tok _, ⟨_, rfl⟩, q⟩
theorem CallR.or {f : Value} {r r' : List V → Hp → VK → Prop} (h : CallR X f r) (h' : CallR X f r') : CallR X f (fun xs H Q => r xs H Q ∨ r' xs H Q) := by
  intro pins s σ H xs us Q I rs q
  rcases q with q | q
  · exact h pins s σ H xs us Q I rs q
  · exact h' pins s σ H xs us Q I rs q
theorem call_tuple_of : CallR X (.type "tuple") (fun xs H Q => ∃ p ys, xs = [.ref p] ∧ ((SqL X.K H p ys ∧ ∀ l, H l = none → Q (.ref l) (upd H l (.tup ys))) ∨ (SqT X.K H p ys ∧ Q (.ref p) H))) := by
  intro pins s σ H xs us Q I r h
  obtain ⟨p, ys, rfl, h⟩ := h
  obtain ⟨u, rfl, rx⟩ := vals1 r
  cases rx
  rcases h with ⟨hq, q⟩ | ⟨hq, q⟩
  · obtain ⟨its, r', pl, hz⟩ := I.list hq
    have hlen := r'.length
    refine call_tuple_list pl.isList (fun h' kp => ?_) (by simp only [List.size_toArray] <;> omega)
    have I1 : Inv X pins σ H { s with heap := h' } := I.kept (t' := s.toks) kp
    have I2 : Inv X pins σ (upd H h'.objs.size (.tup ys)) { s with heap := h'.push { cls := .type "tuple", data := .seq its.toArray } } :=
      I1.laid (t' := s.toks) (fun b o e => Heap.get?_push_of_some _ e) (Nat.le_refl _) (show ObjOk X.prog X.w _ _ _ (.tup ys) from ⟨hz, its, r', IsTup.new _ _⟩)
    exact ⟨.ref h'.objs.size, _, I2, rfl, q _ (I1.hok.fresh (Nat.le_refl _))⟩
  · obtain ⟨its, r', pl, hz⟩ := I.tuple hq
    exact call_tuple_same pl ⟨.ref p, H, I, rfl, q⟩



def tyV (K : PySem.W.Frag) (T : String) (x : V) (H : Hp) : Prop := match x with
  | .str _ => T = "str"
  | .int _ => T = "int"
  | .ref p => (T = "list" ∧ ∃ xs, SqL K H p xs) ∨ (T = "tuple" ∧ ∃ o, K.lookup p = some o ∧ o.cls = .type "tuple" ∧ o.dict = none) ∨
      (T = "dict" ∧ ((∃ kvs, H p = some (.dK kvs)) ∨ ∃ kvs, H p = some (.dT kvs))) ∨ (T = "set" ∧ ∃ S n, H p = some (.set S n))
  | _ => False
theorem tyV_is {pins : List (Addr × Obj)} {σ : St} {H : Hp} {s : Shared} {T : String} {x : V} {v : Value} (I : Inv X pins σ H s) (r : RelV x v) (ty : tyV X.K T x H) :
    s.TypeIs v T ∧ ∀ a, v = .ref a → ∃ ob, s.heap.get? a = some ob ∧ ob.dict = none := by
  cases x with
  | str z =>
    obtain ⟨t, rfl⟩ := r
    cases (show T = "str" from ty)
    exact ⟨typeIs_str s z t, fun _ e => nomatch e⟩
  | int i =>
    obtain ⟨t, rfl⟩ := r
    cases (show T = "int" from ty)
    exact ⟨typeIs_int s i t, fun _ e => nomatch e⟩
  | ref p =>
    cases r
    rcases ty with ⟨rfl, xs, hq⟩ | ⟨rfl, o, hk, hc, hd⟩ | ⟨rfl, hk⟩ | ⟨rfl, S, n, hk⟩
    · obtain ⟨its, _, pl, _⟩ := I.list hq
      refine ⟨pl.isList.typeIs, fun a e => ?_⟩
      cases e
      obtain ⟨o, n, e, c, hd, _⟩ := pl
      exact ⟨o, e, hd⟩
    · refine ⟨⟨o, I.kIn p o hk, hc⟩, fun a e => ?_⟩
      cases e
      exact ⟨o, I.kIn _ o hk, hd⟩
    · have z : ∃ o, s.heap.get? p = some o ∧ o.ExactDict := by
        rcases hk with ⟨kvs, hk⟩ | ⟨kvs, hk⟩
        · obtain ⟨_, _, _, _, o, _, _, e, ex, _⟩ := I.hok p _ hk
          exact ⟨o, e, ex⟩
        · obtain ⟨_, _, _, _, o, _, _, e, ex, _⟩ := I.hok p _ hk
          exact ⟨o, e, ex⟩
      obtain ⟨o, e, ex⟩ := z
      refine ⟨⟨o, e, ex.1⟩, fun a e2 => ?_⟩
      cases e2
      exact ⟨o, e, ex.2.1⟩
    · obtain ⟨o, _, _, _, e, ex, _⟩ := I.hok p _ hk
      refine ⟨⟨o, e, ex.1⟩, fun a e2 => ?_⟩
      cases e2
      exact ⟨o, e, ex.2.1⟩
  | _ => exact False.elim ty
def tBM0 (K : PySem.W.Frag) (T : String) (r : V → List V → Hp → VK → Prop) (to : TE) : TE := fun σ H Q => to σ H fun x H1 => tyV K T x H1 ∧ r x [] H1 Q
def tBM (K : PySem.W.Frag) (T : String) (r : V → List V → Hp → VK → Prop) (to : TE) (t : TA) : TE := fun σ H Q => to σ H fun x H1 => tyV K T x H1 ∧ t σ H1 fun xs H2 => r x xs H2 Q
variable {o e : Expr} {es : List Expr} {to : TE} {t : TA} {name : Str} {apos cpos : Pos} {T id : String} {r : V → List V → Hp → VK → Prop}
theorem pe_bm0 (pa : PlainAttrs T) (slot : Slot T name id) (hty : typeOf (.builtin id) = pure (.type "method_descriptor")) (hm : MtR X id r) (ho : PE X o to)
    (hbase : attributeBase o name X.env (eval o X.env) = eval o X.env := by rfl) (hline : (apos.endLine == cpos.line) = true := by rfl) : PE X (.Call (.Attribute o name apos) [] [] cpos) (tBM0 X.K T r to) := by
  intro pins s σ H Q I h
  refine wpAny_Call_method0_late hbase hline (thn (ho pins s σ H _ I h) fun v s1 ⟨x, H1, I1, r1, ty, q1⟩ => ?_)
  obtain ⟨h1, h2⟩ := tyV_is I1 r1 ty
  exact ⟨T, id, pa, slot, hty, h1, h2, Calls.callWith_builtin rfl (PySem.evalArgs_none (hm pins s1 σ H1 x [] v [] Q I1 r1 .nil q1))⟩
theorem pe_bm (pa : PlainAttrs T) (slot : Slot T name id) (hty : typeOf (.builtin id) = pure (.type "method_descriptor")) (hm : MtR X id r) (ho : PE X o to) (ha : PA X (e :: es) t)
    (hbase : attributeBase o name X.env (eval o X.env) = eval o X.env := by rfl)
    (hfew : ((backTo cpos (starEach (e :: es) X.env)).all (fun x => !x.1) && (backToKw cpos (keywordEach [] X.env)).all (fun x => x.1.isSome)
      && decide ((e :: es).length + ([] : List Keyword).length + (if ([] : List Keyword).isEmpty then 0 else 1) < 30)) = true := by rfl)
    (hline : (apos.endLine == cpos.line) = true := by rfl) (hs : starEach (e :: es) X.env = (false, eval e X.env) :: starEach es X.env := by rfl) (hplain : (backTo cpos (starEach es X.env)).any (·.1) = false := by rfl) :
    PE X (.Call (.Attribute o name apos) (e :: es) [] cpos) (tBM X.K T r to t) := by
  intro pins s σ H Q I h
  refine wpAny_Call_method_late hbase hfew hline rfl (thn (ho pins s σ H _ I h) fun v s1 ⟨x, H1, I1, r1, ty, q1⟩ => ?_)
  obtain ⟨h1, h2⟩ := tyV_is I1 r1 ty
  refine ⟨T, id, pa, slot, hty, h1, h2, ?_⟩
  have hA := ha cpos pins s1 σ H1 _ I1 q1
  rw [hs] at hA ⊢
  refine Calls.callWith_builtin (by show (false || (backTo cpos (starEach es X.env)).any (·.1)) = false; rw [hplain] <;> rfl) (Calls.evalArgs_plain ?_)
  exact thn hA fun us s2 ⟨vs, H2, I2, r2, q2⟩ => hm pins s2 σ H2 x vs v us Q I2 r1 r2 q2

end
end L2

namespace L2
open PySem PySem.Spec PyProof.Rows

def MtM (X : Cx) (id : String) (r : V → List V → Hp → VK → Prop) : Prop :=
  ∀ (pins : List (Addr × Obj)) (s : Shared) (σ : St) (H : Hp) (x : V) (xs : List V) (v : Value) (us : List Value) (Q : VK), Inv X pins σ H s → RelV x v → Vals xs us → r x xs H Q →
    wpAny (model X.prog X.w) X.A (call (.builtin id) (v :: us)) (EP X pins σ Q) X.xe s


theorem Vals.one : ∀ {x : V} {us : List Value}, Vals [x] us → ∃ u, us = [u] ∧ RelV x u
  | _, _, .cons r .nil => ⟨_, rfl, r⟩
theorem Vals.zero : ∀ {us : List Value}, Vals [] us → us = []
  | _, .nil => rfl
theorem Vals.dropLast {xs : List V} {us : List Value} (h : Vals xs us) : Vals xs.dropLast us.dropLast := by
  induction h with
  | nil => exact .nil
  | cons r t ih =>
    cases t with
    | nil => exact .nil
    | cons q t' => exact .cons r ih
theorem Vals.eraseIdx : ∀ {xs : List V} {us : List Value} (i : Nat), Vals xs us → Vals (xs.eraseIdx i) (us.eraseIdx i)
  | _, _, _, .nil => .nil
  | _, _, 0, .cons _ t => t
  | _, _, i + 1, .cons r t => .cons r (Vals.eraseIdx i t)
theorem Vals.rep {xs : List V} {us : List Value} (h : Vals xs us) : ∀ k : Nat, Vals (List.replicate k xs).flatten (List.replicate k us).flatten
  | 0 => .nil
  | k + 1 => by
    rw [List.replicate_succ, List.replicate_succ, List.flatten_cons, List.flatten_cons]
    exact Vals.append h (Vals.rep h k)
theorem erase_last {α : Type} (l : List α) : l.eraseIdx (l.length - 1) = l.dropLast := by
  induction l with
  | nil => rfl
  | cons a r ih =>
    cases r with
    | nil => rfl
    | cons b r =>
      have e : (a :: b :: r).length - 1 = ((b :: r).length - 1) + 1 := by
        have h1 : (a :: b :: r).length = r.length + 2 := rfl
        have h2 : (b :: r).length = r.length + 1 := rfl
        omega
      rw [e, List.eraseIdx_cons_succ, ih]
      all_goals rfl
theorem foldl_rep (its : List Value) : ∀ (k : Nat) (acc : List Value),
    List.foldl (fun x1 x2 => x1 ++ x2) acc.toArray (List.replicate k its.toArray) = (acc ++ (List.replicate k its).flatten).toArray
  | 0, acc => by simp
  | k + 1, acc => by
    have e : acc.toArray ++ its.toArray = (acc ++ its).toArray := by simp
    have e2 : (acc ++ its) ++ (List.replicate k its).flatten = acc ++ (List.replicate (k + 1) its).flatten := by
      rw [List.replicate_succ, List.flatten_cons, List.append_assoc]
    rw [← e2, ← foldl_rep its k (acc ++ its), ← e, List.replicate_succ, List.foldl_cons]

section
variable {X : Cx} {pins : List (Addr × Obj)} {σ : St} {H : Hp} {s : Shared} {l b : Addr} {xs ys zs : List V}


theorem Inv.lset {its its' : List Value} {n : Nat} {f : Array Value → Array Value} {t' : Nat} (I : Inv X pins σ H s) (hH : H l = some (.lst xs))
    (e : s.heap.get? l = some { cls := .type "list", data := .seq its.toArray n }) (hf : f its.toArray = its'.toArray) (hv : Vals ys its') (hz : ys.length ≤ sizeLine) :
    Inv X pins σ (upd H l (.lst ys)) { s with heap := s.heap.update l (Obj.mapSeq f), toks := t' } := by
  have q := PySem.IsL.update e f
  rw [hf] at q
  refine I.write (x := l) (e := l) (by rw [hH]; exact trivial) (.inl rfl) (fun b' u hb hu => (Heap.get?_update_other s.heap (Obj.mapSeq f) (Ne.symm hb)).trans hu) ⟨_, q⟩ ?_
  exact ⟨hz, its', _, hv, q⟩
theorem Inv.lnew {its : List Value} {t' : Nat} (I : Inv X pins σ H s) (hv : Vals ys its) (hz : ys.length ≤ sizeLine) :
    Inv X pins σ (upd H s.heap.objs.size (.lst ys)) { s with heap := s.heap.push { cls := .type "list", data := .seq its.toArray }, toks := t' } :=
  I.laid (fun _ _ q => Heap.get?_push_of_some _ q) (Nat.le_refl _) ⟨hz, its, 0, hv, Heap.get?_push_size _ rfl⟩
theorem Inv.fresh (I : Inv X pins σ H s) : H s.heap.objs.size = none := I.hok.fresh (Nat.le_refl _)
theorem Inv.lstM (I : Inv X pins σ H s) (hH : H l = some (.lst xs)) : xs.length ≤ sizeLine ∧ ∃ (its : List Value) (n : Nat), Vals xs its ∧ xs.length = its.length ∧ s.heap.get? l = some { cls := .type "list", data := .seq its.toArray n } := by
  obtain ⟨z, its, n, r, e⟩ := I.hok l _ hH
  exact ⟨z, its, n, r, r.length, e⟩

theorem notLongL {n : Nat} (h : n ≤ sizeLine) : Builtin.List.listTooLong n = false := by
  unfold Builtin.List.listTooLong
  exact decide_eq_false (by omega)
end

section
variable {X : Cx}


def rAppend : V → List V → Hp → VK → Prop := fun x vs H Q => ∃ l xs y, x = .ref l ∧ vs = [y] ∧ H l = some (.lst xs) ∧ xs.length < sizeLine ∧ Q .non (upd H l (.lst (xs ++ [y])))
theorem mt_append : MtM X "list.append" rAppend := by
  intro pins s σ H x vs v us Q I rx rv h
  obtain ⟨l, xs, y, rfl, rfl, hH, hz, q⟩ := h
  cases rx
  obtain ⟨u, rfl, ru⟩ := rv.one
  obtain ⟨z, its, n, r, hl, e⟩ := I.lstM hH
  refine call_meets F.slot_list_append ⟨_, e, rfl⟩ F.entry_list_append (F.args_list_append_2 _ _) (PySem.list_append l its.toArray n u (by rw [List.size_toArray]; omega)) ⟨e, ?_⟩
  refine ⟨.non, _, I.lset (its' := its ++ [u]) hH e (by simp) (r.append (.cons ru .nil)) ?_, rfl, q⟩
  rw [List.length_append, List.length_singleton]
  omega

def rPop : V → List V → Hp → VK → Prop := fun x vs H Q => ∃ l xs y, x = .ref l ∧ vs = [] ∧ H l = some (.lst xs) ∧ xs[xs.length - 1]? = some y ∧ Q y (upd H l (.lst xs.dropLast))
theorem mt_pop : MtM X "list.pop" rPop := by
  intro pins s σ H x vs v us Q I rx rv h
  obtain ⟨l, xs, y, rfl, rfl, hH, hy, q⟩ := h
  cases rx
  have hus := rv.zero
  subst hus
  obtain ⟨z, its, n, r, hl, e⟩ := I.lstM hH
  obtain ⟨u, hu, ru⟩ := r.get hy
  have hy' : its.toArray[its.toArray.size - 1]? = some u := by
    show its.toArray[its.length - 1]? = some u
    rw [← Array.getElem?_toList, ← hl]
    exact hu
  refine call_meets F.slot_list_pop ⟨_, e, rfl⟩ F.entry_list_pop (F.args_list_pop_1 _) (MeetsSeq.list_pop_last l its.toArray n u hy' (by rw [List.size_toArray]; omega)) ⟨e, ?_⟩
  refine ⟨y, _, I.lset (its' := its.dropLast) hH e ?_ r.dropLast ?_, ru, q⟩
  · show its.toArray.eraseIdxIfInBounds (its.toArray.size - 1) = its.dropLast.toArray
    rw [List.size_toArray, List.eraseIdxIfInBounds_toArray, erase_last]
  · rw [List.length_dropLast]
    omega

def rCat : R2 := fun x y H Q => ∃ l b xs zs, x = .ref l ∧ y = .ref b ∧ H l = some (.lst xs) ∧ H b = some (.lst zs) ∧ xs.length + zs.length ≤ sizeLine ∧ ∀ p, H p = none → Q (.ref p) (upd H p (.lst (xs ++ zs)))
theorem op_cat : OpR X (binaryOp .Add) rCat := by
  intro pins s σ H x y v u Q I rx ry h
  obtain ⟨l, b, xs, zs, rfl, rfl, hH, hB, hz, q⟩ := h
  cases rx
  cases ry
  obtain ⟨z, its, n, r, hl, e⟩ := I.lstM hH
  obtain ⟨z2, its2, n2, r2, hl2, e2⟩ := I.lstM hB
  refine PySem.P.add_list e e2 ?_ (by rw [List.size_toArray, List.size_toArray]; omega)
  have ea : its.toArray ++ its2.toArray = (its ++ its2).toArray := by simp
  rw [ea]
  exact ⟨.ref _, _, I.lnew (t' := s.toks) (r.append r2) (by rw [List.length_append]; omega), rfl, q _ I.fresh⟩

def rRep : R2 := fun x y H Q => ∃ l k xs, x = .ref l ∧ y = .int k ∧ H l = some (.lst xs) ∧ -(2 ^ 63) ≤ k ∧ k < 2 ^ 63 ∧ xs.length * k.toNat ≤ sizeLine ∧
  ∀ p, H p = none → Q (.ref p) (upd H p (.lst (List.replicate k.toNat xs).flatten))
theorem len_rep {α : Type} (xs : List α) (k : Nat) : (List.replicate k xs).flatten.length = k * xs.length := by
  induction k with
  | zero => simp
  | succ k ih => rw [List.replicate_succ, List.flatten_cons, List.length_append, ih, Nat.succ_mul, Nat.add_comm]
theorem op_rep : OpR X (binaryOp .Mult) rRep := by
  intro pins s σ H x y v u Q I rx ry h
  obtain ⟨l, k, xs, rfl, rfl, hH, h1, h2, hz, q⟩ := h
  cases rx
  obtain ⟨t, rfl⟩ := ry
  obtain ⟨z, its, n, r, hl, e⟩ := I.lstM hH
  have hlen : its.toArray.size * k.toNat ≤ sizeLine := by rw [List.size_toArray, ← hl]; exact hz
  have hcap : ¬ its.toArray.size * k.toNat > (2 ^ 63 - 1) / 8 := by
    have : (sizeLine : Nat) ≤ (2 ^ 63 - 1) / 8 := by decide
    omega
  have hfit : ¬ (!Builtin.List.listFitsIndex k) = true := by
    rw [fitsIndex_both h1 h2]
    exact Bool.false_ne_true
  have hlong : ¬ Builtin.List.listTooLong (its.toArray.size * k.toNat) = true := by
    rw [notLongL hlen]
    exact Bool.false_ne_true
  have hnew : List.foldl (fun x1 x2 => x1 ++ x2) #[] (List.replicate (if its.toArray.isEmpty = true then 0 else k.toNat) its.toArray) = (List.replicate k.toNat its).flatten.toArray := by
    have f0 : ∀ m : Nat, List.foldl (fun x1 x2 => x1 ++ x2) #[] (List.replicate m its.toArray) = (List.replicate m its).flatten.toArray := fun m => by
      have := foldl_rep its m []
      rw [List.nil_append] at this
      exact this
    rw [f0]
    cases its with
    | nil => simp
    | cons a r' => rw [if_neg (by simp)]
  refine wpAny_binaryOp_repeat_ref (T := "list") (U := "int") (by decide) ⟨_, e, rfl⟩ (fun s' => typeIs_int s' k t) noFill_list_mul F.fills_int_mul F.slot_int_rmul repeat_list F.slot_int_index.lookup
    (call_meets F.slot_int_rmul (typeIs_int s k t) F.entry_int_rmul (F.args_int_rmul_2 _ _) (int___rmul___int_list k t l its.toArray n)
      ⟨e, rfl, ⟨_, e, rfl⟩, call_meets F.slot_list_mul ⟨_, e, rfl⟩ F.entry_list_mul (F.args_list_mul_2 _ _) (AutoListH.list___mul___list_int_3 l its.toArray n k t hfit hcap hlong) ⟨e, ?_⟩⟩)
  rw [hnew]
  exact ⟨.ref _, _, I.lnew (t' := s.toks) (r.rep k.toNat) (by rw [len_rep, Nat.mul_comm]; exact hz), rfl, q _ I.fresh⟩


end


section
variable {prog : Program} {w : World} {A : Around} {E : Value → Shared → Prop} {s : Shared}
end

section
variable {X : Cx}

end
end L2

namespace Att
open PySem PySem.W PySem.Calls PyProof.Rows


theorem ints_of_wellAll {P : Params} {h : Heap} : ∀ (ns : List Int) (vs : List Value), WellAll P h vs (ns.map WData.int) → IntsAre vs ns := by
  intro ns
  induction ns with
  | nil =>
    intro vs w
    rw [List.map_nil] at w
    cases w
    exact .nil
  | cons n ns ih =>
    intro vs w
    rw [List.map_cons] at w
    cases w with
    | cons a b =>
      cases a
      exact .cons _ _ (ih _ b)

theorem script_of {l : OpenLaw} {n : Nat} (hn : l.most = some n) {P : Params} {h : Heap} {args : List WData} {vals : List Value}
    (hpre : l.row.toRowW.claim.pre args = true) (hwl : WellAll P h vals args) :
    ∃ a vs ns, vals = [Value.ref a] ∧ args = [WData.list (ns.map WData.int)] ∧ h.get? a = some { cls := .type "list", data := .seq vs.toArray } ∧ IntsAre vs ns ∧ ns.length ≤ n := by
  have hsh : WShape.hasAll [] args [.list .int] = true := (pre_splitW hpre).1
  have hc : l.pre.holds [] { args := args } = true := (pre_splitW hpre).2
  obtain ⟨d, r, rfl, h1, h2⟩ := hasAllW_cons hsh
  obtain rfl := hasAllW_nil h2
  obtain ⟨xs, rfl, h3⟩ := hasW_list h1
  obtain ⟨ns, rfl⟩ := items_int h3
  have hlen : ns.length ≤ n := by
    unfold OpenLaw.pre at hc
    have h4 : (WTm.not (.lt (.lit (.int (n : Int))) (.len (.arg 0)))).holds [] { args := [.list (ns.map .int)] } = true := by
      have h4 := (holds_andW hc).1
      rw [hn] at h4
      exact h4
    have h5 := condW_of h4 (w_not (w_lt w_lit (w_len_list (w_arg rfl))))
    rw [List.length_map] at h5
    refine Nat.le_of_not_lt fun q => ?_
    have q' : (n : Int) < ((ns.length : Nat) : Int) := by omega
    first
      | (rw [decide_eq_true q'] at h5; exact absurd h5 (by decide))
      | (simp at h5; omega)
  cases hwl with
  | cons w1 w2 =>
    cases w2
    cases w1 with
    | list ho hall => exact ⟨_, _, ns, rfl, rfl, ho, ints_of_wellAll ns _ hall, hlen⟩

theorem post_true (l : OpenLaw) (args : List WData) : l.row.toRowW.claim.post args (.bool true) args = true :=
  postW_of (r := l.row.toRowW) (X := (true == true))
    (show WShape.has [] (.bool true) .bool = true by first | rfl | decide | simp [WShape.has, WShape.arms, WShape.armsAll])
    (show (WTm.eq .res (.lit (.bool true))).value [] { args := args, res := some (.bool true), after := args } = some (.bool (true == true)) from w_eq_bool (w_res rfl) w_lit) rfl


theorem attach_call {l : OpenLaw} {n : Nat} {q : Program} {loose : List Str} {XP : (Str → Option Value) → Heap → Prop} {YP : World → Heap → Prop} {d : DefRec}
    (hn : l.most = some n) (hdf : d.params.defaults = [])
    (call : ∀ (w : World) (s₀ s₁ : Shared) (mg mb : Str → Option Value) (fa : Addr) (o : Obj) (pm cd doc : Value) (a : Addr) (vs : List Value) (ns : List Int),
      Ground q loose [] XP w s₀ mg mb s₁.heap → YP w s₁.heap →
      s₁.heap.get? fa = some o → o.data = .func (docDef d.name d.params d.body d.scope pm cd doc) → s₁.heap.CodeRec cd d.name → mg d.name = some (.ref fa) →
      s₁.heap.get? a = some { cls := .type "list", data := .seq vs.toArray } → IntsAre vs ns → ns.length ≤ n → s₁.gens = #[] →
      codeAny (model l.prog w) callerA (.call (.ref fa) ⟨[.ref a], []⟩) (fun r s' => r = .ok (.ret (.bool true)) ∧ OldK s₁.heap s'.heap ∧ s'.os = s₁.os ∧ AllBare s'.gens) s₁) :
    WalkO q loose XP YP l.row.toRowW d [] (fun f vs => PySem.call f vs) := by
  intro w s₀ s₁ mg mb G Y fa o pm cd doc dV kV ho hd hcd hD hmg hg args vals as hpre hlay hrd hwl hlo
  obtain rfl : dV = .none := Dflts.none hD hdf
  obtain rfl : kV = .none := Dflts.noKw hD
  obtain ⟨a, vs, ns, rfl, rfl, hobj, hints, hlen⟩ := script_of hn hpre hwl
  refine enter_call (codeAny_mono (call w s₀ s₁ mg mb fa o pm cd doc a vs ns G Y ho (fd_plain hd) hcd hmg hobj hints hlen hg) fun r s' hq => ?_)
  obtain ⟨rfl, h2, h3, h4⟩ := hq
  exact ⟨.inl ⟨.bool true, .bool true, [], rfl, fun _ => rfl, .bool true, post_true l _, fun _ => ⟨List.Pairwise.nil, fun _ hm => (nomatch hm)⟩⟩, h2, h3, h4⟩


section
variable {prog : Program} {w : World} {A : Around} {E : Value → Shared → Prop} {s : Shared} {K : Frag}


end
end Att

namespace L2
open PySem PySem.Spec PyProof.Rows

theorem vals_ints : ∀ {vs : List Value} {ns : List Int}, IntsAre vs ns → Vals (ns.map V.int) vs
  | _, _, .nil => .nil
  | _, _, .cons n t h => .cons ⟨t, rfl⟩ (vals_ints h)


def Only (H : Hp) : Prop := ∀ b, H b = none ∨ ∃ o xs, H b = some (.frz o (.lst xs))


theorem law_call {P : Program} {w : World} {K : PySem.W.Frag} {mg mb : Str → Option Value} {CX : CXT} {k : Nat} {fa a : Addr} {fd : FuncData} {x : Str} {sp : Sp} {s₁ : Shared} {vs : List Value} {ns : List Int}
    (KX : K.In s₁.heap) (hns : s₁.heap.Ns mainGlobals mg) (hb : s₁.heap.Ns builtinsNs mb) (hbb : ∀ x : Str, x ≠ "__name__" → mb x = bootBuiltins x) (hlim : s₁.heap.NoLimit) (hg : s₁.gens = #[])
    (ha : s₁.heap.get? a = some { cls := .type "list", data := .seq vs.toArray }) (hi : IntsAre vs ns) (hl : ns.length ≤ sizeLine) (hr : Room k callerA)
    (F : ∀ base : Heap, K.In base → base.Ns mainGlobals mg → FnOk P w K mg base CX k fa fd [x] sp) (hbind : ∀ (s : Shared) (u : Value), BindsTo s fd ⟨[u], []⟩ [(x, u)])
    (hsp : ∀ H : Hp, Only H → SqL K H a (ns.map V.int) → sp [.ref a] H (fun v _ => v = .bl true) fun _ _ _ => False)
    (hCX : ∀ H e s', CX [] H s₁ (fun _ _ _ => False) e s' → False) :
    codeAny (model P w) callerA (.call (.ref fa) ⟨[.ref a], []⟩) (fun r s' => r = .ok (.ret (.bool true)) ∧ OldK s₁.heap s'.heap ∧ s'.os = s₁.os ∧ AllBare s'.gens) s₁ := by
  have rv := vals_ints hi
  have lenV := hi.length
  -- from an abstract heap in which nothing but the script may be tracked
  have core : ∀ H : Hp, Only H → SqL K H a (ns.map V.int) → HOk P w H s₁.heap → (∀ b, H b ≠ none → b = a) → (H a ≠ none → K.lookup a = none) →
      codeAny (model P w) callerA (.call (.ref fa) ⟨[.ref a], []⟩) (fun r s' => r = .ok (.ret (.bool true)) ∧ OldK s₁.heap s'.heap ∧ s'.os = s₁.os ∧ AllBare s'.gens) s₁ := by
    intro H hO hS hok hA hK
    have base_of : ∀ {b : Addr} {o : Obj}, s₁.heap.get? b = some o → H b = none → (hidT s₁.heap H).get? b = some o := fun e n => hidT_get e n
    have noA : ∀ {b : Addr} {o : Obj} {es : Array DictEntry} {ep : Nat}, s₁.heap.get? b = some o → o.data = .dict es ep → H b = none := fun {b o es ep} e d => by
      cases q : H b with
      | none => rfl
      | some u =>
        have e' : b = a := hA b (by rw [q]; simp)
        subst e'
        rw [ha] at e; cases e
        have d' : Data.seq vs.toArray _ = Data.dict es ep := d
        cases d'
    have nsK : ∀ {b : Addr} {m : Str → Option Value}, s₁.heap.Ns b m → (hidT s₁.heap H).Ns b m := fun {b m} ⟨o, es, ep, e, d, r⟩ => ⟨o, es, ep, base_of e (noA e d), d, r⟩
    have hKb : K.In (hidT s₁.heap H) := fun b o e => base_of (KX b o e) (by
      cases q : H b with
      | none => rfl
      | some u =>
        have e' : b = a := hA b (by rw [q]; simp)
        subst e'
        rw [hK (by rw [q]; simp)] at e; cases e)
    have hM : Mod K mg (hidT s₁.heap H) := ⟨hKb, nsK hns, ⟨mb, nsK hb, hbb⟩, let ⟨mc, h1, h2⟩ := hlim; ⟨mc, nsK h1, h2⟩⟩
    have e0 : Env0 P w K mg (hidT s₁.heap H) callerA [] s₁ H := ⟨rfl, hM, fun b o e => of_hidT e, Nat.le_of_eq (hidT_size _ _), trivial, fun b hb => absurd (show b ∈ ([] : List Addr) from hb) (by simp), hok, .of_eq hg⟩
    refine codeAny_mono ((F _ hKb (nsK hns)).run callerA [] s₁ H ⟨[.ref a], []⟩ [.ref a] [.ref a] _ _ hr e0 (hbind s₁ (.ref a)) (.cons rfl .nil) (hsp H hO hS)) fun r s' h => ?_
    cases r with
    | error e => exact (hCX H e s' h).elim
    | ok fl =>
      cases fl with
      | next => exact False.elim h
      | brk => exact False.elim h
      | cont => exact False.elim h
      | ret u =>
        obtain ⟨v, H', os, bare, un, hok', r', q⟩ := h
        have q' : v = .bl true := q
        subst q'
        obtain rfl : u = Value.bool true := r'
        refine ⟨rfl, OldK.of_keep fun b o e => ?_, os, bare⟩
        cases q : H b with
        | none => exact un.keep b o e q (by intro z; exact absurd (show b ∈ ([] : List Addr) from z) (by simp)) (by simp)
        | some u =>
          rcases hO b with z | ⟨ob, xs, z⟩
          · rw [q] at z; cases z
          · have z2 := un.frzs b ob _ z
            obtain ⟨e1, _⟩ := hok b _ z
            obtain ⟨e2, _⟩ := hok' b _ z2
            rw [e] at e1; cases e1
            exact e2
  cases hk : K.lookup a with
  | some o =>
    -- the script is one of the module's own objects
    have e := KX a o hk
    rw [ha] at e
    cases e
    refine core (fun _ => none) (fun _ => .inl rfl) (.inr ⟨_, vs.toArray, _, hk, rfl, rfl, rfl, by rw [List.size_toArray, lenV]; exact hl, by simpa using rv⟩) (fun b u z => by have z' : (none : Option HO) = some u := z; cases z') (fun b z => absurd rfl z) fun z => absurd rfl z
  | none =>
    refine core (fun b => if b = a then some (.frz { cls := .type "list", data := .seq vs.toArray } (.lst (ns.map V.int))) else none) (fun b => ?_) (.inl (.inr ⟨{ cls := .type "list", data := .seq vs.toArray }, if_pos rfl⟩)) (fun b u z => ?_) (fun b z => ?_) fun _ => hk
    · by_cases hb : b = a
      · exact .inr ⟨_, _, if_pos hb⟩
      · exact .inl (if_neg hb)
    · by_cases hb : b = a
      · have z' := (if_pos hb).symm.trans z
        cases z'
        subst hb
        exact ⟨ha, by rw [List.length_map]; exact hl, vs, _, rv, ha⟩
      · have z' := (if_neg hb).symm.trans z
        cases z'
    · by_cases hb : b = a
      · exact hb
      · exact absurd (if_neg hb) z
end L2

namespace L2
open PySem PySem.Spec PyProof.Rows

abbrev KOf {K : PySem.W.Frag} {h : Heap} (_ : K.In h) : PySem.W.Frag := K


theorem walk_of {l : PySem.W.OpenLaw} {n k : Nat} {q : Program} {loose : List Str} {XP : (Str → Option Value) → Heap → Prop} {YP : World → Heap → Prop} {d : DefRec} {K : Params → PySem.W.Frag} {CX : World → CXT} {sp : World → Sp} {x : Str}
    (hn : l.most = some n) (hn2 : n ≤ sizeLine) (hdf : d.params.defaults = []) (hr : Room k callerA)
    (hY : ∀ (w : World) (h : Heap), YP w h → (K w.params).In h)
    (F : ∀ (w : World) (mg : Str → Option Value) (fa : Addr) (h : Heap), (K w.params).In h → h.Ns mainGlobals mg → mg d.name = some (.ref fa) →
      ∃ fd : FuncData, (∀ (s : Shared) (u : Value), BindsTo s fd ⟨[u], []⟩ [(x, u)]) ∧
        ∀ base : Heap, (K w.params).In base → base.Ns mainGlobals mg → FnOk l.prog w (K w.params) mg base (CX w) k fa fd [x] (sp w))
    (hsp : ∀ (w : World) (H : Hp) (a : Addr) (ns : List Int), ns.length ≤ n → Only H → SqL (K w.params) H a (ns.map V.int) → sp w [.ref a] H (fun v _ => v = .bl true) fun _ _ _ => False)
    (hCX : ∀ (w : World) (H : Hp) (s : Shared) (e : Value) (s' : Shared), CX w [] H s (fun _ _ _ => False) e s' → False) :
    PySem.W.WalkO q loose XP YP l.row.toRowW d [] (fun f vs => PySem.call f vs) := by
  refine Att.attach_call hn hdf fun w s₀ s₁ mg mb fa o pm cd doc a vs ns G Y ho hd hcd hmg hobj hints hlen hg => ?_
  have KX := hY w _ Y
  obtain ⟨fd, hb, hF⟩ := F w mg fa _ KX G.T.g hmg
  exact law_call KX G.T.g G.T.b G.T.builtins G.T.nolimit hg hobj hints (Nat.le_trans hlen hn2) hr hF hb (fun H hO hS => hsp w H a ns hlen hO hS) fun H e s' => hCX w H s₁ e s'

theorem walk_ofK {l : PySem.W.OpenLaw} {n k : Nat} {q : Program} {loose : List Str} {XP : (Str → Option Value) → Heap → Prop} {YP : World → Heap → Prop} {d : DefRec} {K : Params → PySem.W.Frag} {CX : CXT} {sp : PySem.W.Frag → Sp} {x : Str}
    (hn : l.most = some n) (hn2 : n ≤ sizeLine) (hdf : d.params.defaults = []) (hr : Room k callerA)
    (hY : ∀ (w : World) (h : Heap), YP w h → (K w.params).In h)
    (F : ∀ (w : World) (mg : Str → Option Value) (fa : Addr) (h : Heap), (K w.params).In h → h.Ns mainGlobals mg → mg d.name = some (.ref fa) →
      ∃ fd : FuncData, (∀ (s : Shared) (u : Value), BindsTo s fd ⟨[u], []⟩ [(x, u)]) ∧
        ∀ base : Heap, (K w.params).In base → base.Ns mainGlobals mg → FnOk l.prog w (K w.params) mg base CX k fa fd [x] (sp (K w.params)))
    (hsp : ∀ (K : PySem.W.Frag) (H : Hp) (a : Addr) (ns : List Int), ns.length ≤ n → Only H → SqL K H a (ns.map V.int) → sp K [.ref a] H (fun v _ => v = .bl true) fun _ _ _ => False)
    (hCX : ∀ (H : Hp) (s : Shared) (e : Value) (s' : Shared), CX [] H s (fun _ _ _ => False) e s' → False) :
    PySem.W.WalkO q loose XP YP l.row.toRowW d [] (fun f vs => PySem.call f vs) :=
  walk_of (K := K) (CX := fun _ => CX) (sp := fun w => sp (K w.params)) hn hn2 hdf hr hY F (fun w H a ns h1 h2 h3 => hsp (K w.params) H a ns h1 h2 h3) fun _ H s e s' => hCX H s e s'
end L2




namespace L2
open PySem PySem.Spec PyProof.Rows



def inClass (s : Stmt) (j : Nat) : Stmt := match s with
  | .ClassDef _ _ _ body _ _ _ _ _ _ _ => body.getD j (.Pass ⟨0, 0, 0, 0⟩)
  | _ => .Pass ⟨0, 0, 0, 0⟩
def defArgs (s : Stmt) : Arguments := match s with
  | .FunctionDef _ a _ _ _ _ _ _ _ _ => a
  | _ => { posonlyargs := [], args := [], vararg := none, kwonlyargs := [], kw_defaults := [], kwarg := none, defaults := [] }
def defBody (s : Stmt) : List Stmt := match s with
  | .FunctionDef _ _ b _ _ _ _ _ _ _ => b
  | _ => []
def defScope (s : Stmt) : Scope := match s with
  | .FunctionDef _ _ _ _ _ _ sc _ _ _ => sc
  | _ => { kind := .function, names := [], isGenerator := false, isCoroutine := false }


abbrev CX0 : CXT := fun _ _ _ _ _ _ => False
abbrev E0 : XK := fun _ _ _ => False
theorem pass0 {X : Cx} : Passes CX0 X E0 := fun _ _ _ _ _ _ _ h => h.elim


structure Fun (K : PySem.W.Frag) (x qual : Str) (st : Stmt) (f : Addr) (fd : FuncData) : Prop where
  ex : ∃ (oc : Value) (od : Option Addr) (kV doc pm : Value) (an : Option Addr) (cdv ct : Value) (osl : Array (Option Value)),
    fd = PySem.W.fnOf x qual (defArgs st) (defBody st) (defScope st) .none kV doc pm an cdv ct ∧ K.lookup f = some ⟨oc, od, .func fd, osl⟩ ∧ PySem.W.codeIn K cdv qual = true
  kp : PySem.W.keepIn K (.ref f) = true
section
variable {P : Program} {w : World} {K : PySem.W.Frag} {mg : Str → Option Value} {base : Heap}

theorem Fun.ok {x qual : Str} {st : Stmt} {f : Addr} {fd : FuncData} {N ps : List Str} {k : Nat} {sp : Sp} (F : Fun K x qual st f fd) (S : FnScope N ps (defScope st)) (len : ∀ vs H Q E, sp vs H Q E → vs.length = ps.length)
    (hbody : ∀ (cdv : Value) (A : Around) (outer : List Env) (s : Shared) (H : Hp) (vs : List V) (Q : VK) (E : XK), Room k (A.deeper (envOfC qual (defScope st) s.heap.objs.size f cdv)) → sp vs H Q E →
      ∃ t, PSs (cxOf CX0 P w K mg base N qual (defScope st) f cdv A outer s H E).nox (defBody st) t ∧ t { nx := fun _ H' => Q .non H', rt := Q } (start N vs) H) : FnOk P w K mg base CX0 (k + 1) f fd ps sp := by
  obtain ⟨oc, od, kV, doc, pm, an, cdv, ct, osl, rfl, lk, hcd⟩ := F.ex
  refine fn_of lk hcd S len fun A outer s H vs Q E hr hsp => ?_
  obtain ⟨t, h, q⟩ := hbody cdv A outer s H vs Q E hr hsp
  exact ⟨t, h.nox, q⟩

theorem Fun.binds {x qual : Str} {st : Stmt} {f : Addr} {fd : FuncData} {ps : List Str} (F : Fun K x qual st f fd)
    (h : ∀ (kV doc pm : Value) (an : Option Addr) (cdv ct : Value) (us : List Value), us.length = ps.length → bindArgs (PySem.W.fnOf x qual (defArgs st) (defBody st) (defScope st) .none kV doc pm an cdv ct) ⟨us, []⟩ = pure (ps.zip us)) : Binds K fd ps [] := by
  obtain ⟨oc, od, kV, doc, pm, an, cdv, ct, osl, rfl, lk, hcd⟩ := F.ex
  exact .all (h kV doc pm an cdv ct)
theorem fun_mk {x qual : Str} {st : Stmt} {f : Addr} {oc : Value} {od an : Option Addr} {osl : Array (Option Value)} {kV doc pm cdv ct : Value} (l : K.lookup f = some ⟨oc, od, .func (PySem.W.fnOf x qual (defArgs st) (defBody st) (defScope st) .none kV doc pm an cdv ct), osl⟩)
    (c : PySem.W.codeIn K cdv qual = true) (k : PySem.W.keepIn K (.ref f) = true) : Fun K x qual st f (PySem.W.fnOf x qual (defArgs st) (defBody st) (defScope st) .none kV doc pm an cdv ct) := ⟨⟨oc, od, kV, doc, pm, an, cdv, ct, osl, rfl, l, c⟩, k⟩
end
theorem small1000 {n : Nat} (h : n ≤ 1000) : n < sizeLine := Nat.lt_of_le_of_lt h (by decide)


section
variable {X : Cx}
theorem pv (i : Nat) {x : Str} {pos : Pos} (hN : X.N[i]? = some x := by rfl) (hv : Vis X.env.scope x := by first | exact Or.inl rfl | exact Or.inr (Or.inl rfl) | exact Or.inr (Or.inr rfl)) (hd : (x == ("__debug__" : Str)) = false := by decide)
    (hcd : (x == ("__classdict__" : Str)) = false := by decide) : PE X (.Name x pos) (tVar i) := pe_var hN hv hd hcd
end


theorem iteF {A B : Prop} (h : B) : if false = true then A else B := by
  rw [if_neg Bool.false_ne_true]
  exact h
theorem iteT {A B : Prop} (h : A) : if true = true then A else B := by
  rw [if_pos rfl]
  exact h
theorem ite2 {c A B : Prop} [Decidable c] (h1 : c → A) (h2 : ¬ c → B) : if c then A else B := by
  by_cases h : c
  · rw [if_pos h]
    exact h1 h
  · rw [if_neg h]
    exact h2 h
def Same (H H' : Hp) : Prop := ∀ b o, H b = some o → H' b = some o
theorem Same.refl (H : Hp) : Same H H := fun _ _ h => h
theorem Same.trans {H H1 H2 : Hp} (a : Same H H1) (b : Same H1 H2) : Same H H2 := fun c o h => b c o (a c o h)
theorem Same.free {H H' : Hp} (e : Same H H') {l : Addr} (h : H' l = Option.none) : H l = Option.none := by
  cases q : H l with
  | none => rfl
  | some o =>
    rw [e l o q] at h
    cases h
theorem Same.seq {K : PySem.W.Frag} {H H' : Hp} {a : Addr} {xs : List V} (e : Same H H') (h : SqL K H a xs) : SqL K H' a xs := by
  rcases h with (h | ⟨o, h⟩) | h
  · exact .inl (.inl (e _ _ h))
  · exact .inl (.inr ⟨o, e _ _ h⟩)
  · exact .inr h

end L2

set_option Elab.async false
set_option linter.all false
set_option maxRecDepth 100000
set_option maxHeartbeats 4000000

namespace L2
open PySem PySem.Spec PyProof.Rows


def closL : List (Str × NameKind) → List (Str × Addr) → List (Str × Addr) → List (Str × Addr)
  | [], _, acc => acc
  | (n, k) :: r, cells, acc => if k == .free then closL r cells ((n, (cells.lookup n).getD 0) :: acc) else closL r cells acc
theorem closL_for {env : Env} : ∀ (names : List (Str × NameKind)) (acc : List (Str × Addr)), (∀ y ∈ names, y.2 = .free → ∃ c, env.cells.lookup y.1 = some c) →
    (forIn names acc fun x r => (match x with | (name, kind) => if (kind == NameKind.free) = true then do let a ← cellOf env name; pure (ForInStep.yield ((name, a) :: r)) else pure (ForInStep.yield r) : Sem (ForInStep (List (Str × Addr))))) = (pure (closL names env.cells acc) : Sem (List (Str × Addr)))
  | [], acc, _ => rfl
  | (n, k) :: r, acc, h => by
    have ih := fun acc => closL_for (env := env) r acc fun y hy => h y (List.mem_cons_of_mem _ hy)
    rw [List.forIn_cons]
    unfold closL
    cases hk : (k == NameKind.free) with
    | true =>
      obtain ⟨c, hc⟩ := h (n, k) List.mem_cons_self (by simpa using hk)
      have hc : env.cells.lookup n = some c := hc
      have e : cellOf env n = pure c := by unfold cellOf; rw [hc]
      simp only [hk, if_true, e, pure_bind, hc, Option.getD_some]
      exact ih _
    | false =>
      simp only [hk, Bool.false_eq_true, if_false, pure_bind]
      exact ih _
theorem closL_eq {scope : Scope} {env : Env} (h : ∀ y ∈ scope.names, y.2 = .free → ∃ c, env.cells.lookup y.1 = some c) : closureFor scope env = pure (closL scope.names env.cells []) := by
  have e := closL_for (env := env) scope.names [] h
  unfold closureFor
  first
    | (rw [e]; rfl)
    | (simp only [e]; rfl)
    | exact (congrArg (fun t => t >>= fun r => pure r) e)
theorem closL_sub {cells : List (Str × Addr)} : ∀ (names : List (Str × NameKind)) (acc : List (Str × Addr)), (∀ y ∈ names, y.2 = .free → ∃ c, cells.lookup y.1 = some c) → (∀ x c, acc.lookup x = some c → cells.lookup x = some c) →
    ∀ x c, (closL names cells acc).lookup x = some c → cells.lookup x = some c
  | [], acc, _, h2 => h2
  | (n, k) :: r, acc, h, h2 => by
    unfold closL
    cases hk : (k == NameKind.free) with
    | true =>
      rw [if_pos rfl]
      refine closL_sub r _ (fun y hy => h y (List.mem_cons_of_mem _ hy)) fun x c e => ?_
      obtain ⟨c', hc⟩ := h (n, k) List.mem_cons_self (by simpa using hk)
      have hc : cells.lookup n = some c' := hc
      rw [List.lookup_cons] at e
      cases hx : x == n with
      | true =>
        have hx' : x = n := by simpa using hx
        rw [hx] at e
        rw [hx', hc]
        simpa [hc] using e
      | false =>
        rw [hx] at e
        exact h2 x c e
    | false =>
      rw [if_neg (by simp)]
      exact closL_sub r _ (fun y hy => h y (List.mem_cons_of_mem _ hy)) h2
theorem closL_acc {cells : List (Str × Addr)} {x : Str} : ∀ (names : List (Str × NameKind)) (acc : List (Str × Addr)), (acc.lookup x).isSome = true → ((closL names cells acc).lookup x).isSome = true
  | [], _, h => h
  | (n, k) :: r, acc, h => by
    unfold closL
    split
    · refine closL_acc r _ ?_
      rw [List.lookup_cons]
      cases x == n <;> simp [h]
    · exact closL_acc r _ h
theorem closL_has {cells : List (Str × Addr)} {x : Str} : ∀ (names : List (Str × NameKind)) (acc : List (Str × Addr)), (x, NameKind.free) ∈ names → ((closL names cells acc).lookup x).isSome = true
  | (n, k) :: r, acc, h => by
    unfold closL
    rcases List.mem_cons.mp h with e | e
    · cases e
      rw [if_pos (by rfl)]
      exact closL_acc r _ (by rw [List.lookup_cons]; simp)
    · split
      · exact closL_has r _ e
      · exact closL_has r _ e


def compCx (X : Cx) (N' : List Str) (scope : Scope) (C : Addr) (s : Shared) (H : Hp) (fp : List Addr) : Cx :=
  { X with N := N', s₀ := s, H₀ := H, env := compEnvC scope (closL scope.names X.env.cells []) C X.env, outer := X.stack, stack := X.stack, ex := fp, fn := fun _ => false, pn := [], xe := fun _ _ => False }
def cap (js : List (Option Nat)) (σ : St) : St := js.map fun o => o.bind fun j => (σ[j]?).join

def compOk (scope osc : Scope) (N' N : List Str) (js : List (Option Nat)) : Bool :=
  (scope.kind == .function) && (scope.names.all fun y => y.2 != .cell && (if y.2 == .local then scope.names.lookup y.1 == some .local else true) &&
    (if y.2 == .free then osc.names.lookup y.1 == some .cell || osc.names.lookup y.1 == some .free else true)) &&
  js.length == N'.length && ((js.zip N').all fun q => match q.1 with
    | none => true
    | some j => N[j]? == some q.2 && (osc.names.lookup q.2 == some .cell || osc.names.lookup q.2 == some .free) && scope.names.lookup q.2 == some .free)
structure CompOk (scope osc : Scope) (N' N : List Str) (js : List (Option Nat)) : Prop where
  kind : scope.kind = .function
  nocell : ∀ y ∈ scope.names, y.2 ≠ .cell
  names : ∀ y ∈ scope.names, y.2 = .local → scope.names.lookup y.1 = some .local
  free : ∀ y ∈ scope.names, y.2 = .free → osc.names.lookup y.1 = some .cell ∨ osc.names.lookup y.1 = some .free
  len : js.length = N'.length
  slots : ∀ (i j : Nat) (x : Str), js[i]? = some (some j) → N'[i]? = some x → N[j]? = some x ∧ (osc.names.lookup x = some .cell ∨ osc.names.lookup x = some .free) ∧ scope.names.lookup x = some .free
theorem compOk_of {scope osc : Scope} {N' N : List Str} {js : List (Option Nat)} (h : compOk scope osc N' N js = true) : CompOk scope osc N' N js := by
  unfold compOk at h
  rw [Bool.and_eq_true, Bool.and_eq_true, Bool.and_eq_true, List.all_eq_true, List.all_eq_true] at h
  obtain ⟨⟨⟨h1, h2⟩, h3⟩, h4⟩ := h
  refine ⟨by cases hk : scope.kind <;> first | rfl | (rw [hk] at h1; cases h1), fun y hy e => ?_, fun y hy e => ?_, fun y hy e => ?_, by simpa using h3, fun i j x e1 e2 => ?_⟩
  · have q := h2 y hy
    rw [e] at q
    simp at q
  · have q := h2 y hy
    rw [Bool.and_eq_true, Bool.and_eq_true] at q
    have q2 := q.1.2
    rw [e] at q2
    simpa using q2
  · have q := h2 y hy
    rw [Bool.and_eq_true, Bool.and_eq_true] at q
    have q2 := q.2
    rw [e] at q2
    simpa using q2
  · have hm : (some j, x) ∈ js.zip N' := by
      refine List.mem_of_getElem? (i := i) ?_
      rw [List.getElem?_zip_eq_some]
      exact ⟨e1, e2⟩
    have q := h4 _ hm
    simp only [Bool.and_eq_true, Bool.or_eq_true, beq_iff_eq] at q
    exact ⟨q.1.1, q.1.2, q.2⟩
theorem relabel_lookup {env : Env} : ∀ (names : List (Str × NameKind)) (x : Str), names.lookup x = some .free →
    ((names.map fun (n, k) => if (k == NameKind.free && env.scope.kind == .function && env.kindOf n == some .cell) then (n, NameKind.cell) else (n, k)).lookup x = some .cell ∨
      (names.map fun (n, k) => if (k == NameKind.free && env.scope.kind == .function && env.kindOf n == some .cell) then (n, NameKind.cell) else (n, k)).lookup x = some .free)
  | [], x, h => by simp at h
  | (n, k) :: r, x, h => by
    have ih := relabel_lookup (env := env) r x
    rw [List.map_cons]
    rw [List.lookup_cons] at h
    by_cases hb : (k == NameKind.free && env.scope.kind == .function && env.kindOf n == some .cell) = true
    · have e1 : (if (k == NameKind.free && env.scope.kind == .function && env.kindOf n == some .cell) = true then (n, NameKind.cell) else (n, k)) = (n, NameKind.cell) := if_pos hb
      simp only [e1, List.lookup_cons]
      cases hx : x == n with
      | true => exact .inl rfl
      | false =>
        rw [hx] at h
        exact ih h
    · have e1 : (if (k == NameKind.free && env.scope.kind == .function && env.kindOf n == some .cell) = true then (n, NameKind.cell) else (n, k)) = (n, k) := if_neg hb
      simp only [e1, List.lookup_cons]
      cases hx : x == n with
      | true =>
        rw [hx] at h
        exact .inr h
      | false =>
        rw [hx] at h
        exact ih h
theorem relabel_free {scope : Scope} {env : Env} : ∀ (names : List (Str × NameKind)) (x : Str), (∀ y ∈ names, y.2 ≠ .cell) →
    ((names.map fun (n, k) => if (k == NameKind.free && env.scope.kind == .function && env.kindOf n == some .cell) then (n, NameKind.cell) else (n, k)).lookup x = some .cell ∨
      (names.map fun (n, k) => if (k == NameKind.free && env.scope.kind == .function && env.kindOf n == some .cell) then (n, NameKind.cell) else (n, k)).lookup x = some .free) → (x, NameKind.free) ∈ names
  | [], x, _, h => by simp at h
  | (n, k) :: r, x, hc, h => by
    have ih := relabel_free (scope := scope) (env := env) r x fun y hy => hc y (List.mem_cons_of_mem _ hy)
    rw [List.map_cons] at h
    by_cases hb : (k == NameKind.free && env.scope.kind == .function && env.kindOf n == some .cell) = true
    · have hkf : k = .free := by
        rw [Bool.and_eq_true, Bool.and_eq_true] at hb
        simpa using hb.1.1
      have e1 : (if (k == NameKind.free && env.scope.kind == .function && env.kindOf n == some .cell) = true then (n, NameKind.cell) else (n, k)) = (n, NameKind.cell) := if_pos hb
      simp only [e1, List.lookup_cons] at h
      cases hx : x == n with
      | true =>
        have hx' : x = n := by simpa using hx
        rw [hx', hkf]
        exact List.mem_cons_self
      | false =>
        rw [hx] at h
        exact List.mem_cons_of_mem _ (ih h)
    · have e1 : (if (k == NameKind.free && env.scope.kind == .function && env.kindOf n == some .cell) = true then (n, NameKind.cell) else (n, k)) = (n, k) := if_neg hb
      simp only [e1, List.lookup_cons] at h
      cases hx : x == n with
      | true =>
        have hx' : x = n := by simpa using hx
        rw [hx] at h
        rcases h with h | h
        · exact absurd (Option.some.inj h) (hc (n, k) List.mem_cons_self)
        · have hkf : k = .free := Option.some.inj h
          rw [hx', hkf]
          exact List.mem_cons_self
      | false =>
        rw [hx] at h
        exact List.mem_cons_of_mem _ (ih h)

theorem Un.sameBut {fs ex : List Addr} {H H' : Hp} {h h1 h2 : Heap} {C : Addr} (u : Un fs ex H H' h h1) (hs : Heap.SameBut C h1 h2) (hC : h.objs.size ≤ C) : Un fs ex H H' h h2 := by
  have ne : ∀ b o, h.get? b = some o → b ≠ C := fun b o e => Nat.ne_of_lt (Nat.lt_of_lt_of_le (Heap.lt_size e) hC)
  refine ⟨fun b o e n hb hx => (hs.2 b (ne b o e)).trans (u.keep b o e n hb hx), fun b o e n hb hx => ?_, u.free, fun b o e hx => ?_, u.tups, u.frzs, u.tbls⟩
  · obtain ⟨sl, q⟩ := u.slot b o e n hb hx
    exact ⟨sl, (hs.2 b (ne b o e)).trans q⟩
  · obtain ⟨o', q⟩ := u.there b o e hx
    exact ⟨o', (hs.2 b (ne b o e)).trans q⟩

theorem thn0 {α : Type} {t : Sem α} {Q Q' : α → Shared → Prop} {M : Model} {A : Around} {E : Value → Shared → Prop} {s : Shared} (h : wpAny M A t Q (fun _ _ => False) s) (hQ : ∀ a s, Q a s → Q' a s) : wpAny M A t Q' E s := wpAny_mono h hQ fun _ _ f => f.elim

theorem comp_loop {prog : Program} {w : World} {A : Around} {R : Result → Shared → Prop} {s : Shared} {elt target iter : Expr} {ifs : List Expr} {scope : Scope} {pos : Pos} {it acc : Value} {env : Env} (I : Nat → Shared → Prop)
    (turn : ∀ n s, I n s → wpAny (model prog w) A (pyNext it) (fun r s₁ => match r with
      | none => R (.ok .next) s₁
      | some v => wpAny (model prog w) A (letOwnedTupleGo target it v) (fun _ s₂ => wpAny (model prog w) A (assign target env v) (fun _ s₃ =>
          wpAny (model prog w) A (forIn ifs true fun c r => if r = true then do let ok ← isTrue c env (eval c env); pure (ForInStep.yield ok) else pure (ForInStep.yield r)) (fun ok s₄ =>
            if ok = true then wpAny (model prog w) A (eval elt env) (fun x s₅ =>
              wpAny (model prog w) A (call (.builtin "list.append") [acc, x]) (fun _ s₆ => ∃ m, m < n ∧ I m s₆) (fun _ _ => False) s₅) (fun _ _ => False) s₄
            else ∃ m, m < n ∧ I m s₄) (fun _ _ => False) s₃) (fun _ _ => False) s₂) (fun _ _ => False) s₁) (fun _ _ => False) s)
    (n : Nat) (h : I n s) : codeAny (model prog w) A (.compLoop (.ListComp elt [⟨target, iter, ifs, 0⟩] scope pos) 0 it acc env) R s := by
  refine codeAny_loop rfl I (fun n s hI => ?_) n h
  show wpAny _ A ((compTurn (.ListComp elt [⟨target, iter, ifs, 0⟩] scope pos) 0 it acc env).onRaise (fun x => do noteFrame x env; theTreesLotGoes x)) _ _ s
  refine wpAny_noted ?_
  rw [compTurn_list]
  refine wpAny_bind (wpAny_standAt (wpAny_bind (thn0 (turn n s hI) fun r s₁ h₁ => ?_)))
  cases r with
  | none => exact wpAny_pure h₁
  | some v =>
    refine wpAny_bind (thn0 h₁ fun _ s₂ h₂ => wpAny_bind (thn0 h₂ fun _ s₃ h₃ => wpAny_bind (thn0 h₃ fun ok s₄ h₄ => ?_)))
    cases ok with
    | false => exact wpAny_pure ⟨rfl, h₄⟩
    | true =>
      exact wpAny_bind (wpAny_bind (thn0 h₄ fun x s₅ h₅ => wpAny_bind (thn0 h₅ fun _ s₆ h₆ => wpAny_pure (wpAny_pure ⟨rfl, h₆⟩))))


def PIf (X : Cx) (ifs : List Expr) (t : TT) : Prop :=
  ∀ (pins : List (Addr × Obj)) (s : Shared) (σ : St) (H : Hp) (Q : Bool → Hp → Prop), Inv X pins σ H s → t σ H Q →
    wpAny (model X.prog X.w) X.A (forIn ifs true fun c r => if r = true then do let ok ← isTrue c X.env (eval c X.env); pure (ForInStep.yield ok) else pure (ForInStep.yield r)) (TP X pins σ Q) X.xe s
def tYes : TT := fun _ H Q => Q true H
theorem pif_nil {X : Cx} : PIf X [] tYes := fun _ _ _ H _ I h => wpAny_tests_nil ⟨H, I, h⟩
theorem pif_one {X : Cx} {c : Expr} {t : TT} (h : PT X c t) : PIf X [c] t := fun pins s σ H Q I hq => wpAny_tests_one (h pins s σ H Q I hq)


def OwnG (js : List (Option Nat)) (g : TG) : Prop := ∀ (x : V) (σ : St) (H : Hp) (Q : St → Hp → Prop), σ.length = js.length → g x σ H Q → g x σ H fun σ' H' => Q σ' H' ∧ σ'.length = js.length ∧ ∀ (i j : Nat), js[i]? = some (some j) → σ'[i]? = σ[i]?
def OwnGs (js : List (Option Nat)) (g : TGs) : Prop := ∀ (x : List V) (σ : St) (H : Hp) (Q : St → Hp → Prop), σ.length = js.length → g x σ H Q → ∀ Q' : St → Hp → Prop, (∀ σ' H', Q σ' H' → σ'.length = js.length → (∀ (i j : Nat), js[i]? = some (some j) → σ'[i]? = σ[i]?) → Q' σ' H') → g x σ H Q'
theorem own_name {js : List (Option Nat)} {i : Nat} (h : js[i]? = some none := by rfl) : OwnG js (gName i) := fun x σ H Q hl q => ⟨q, by rw [List.length_set]; exact hl, fun k j e => by
  rw [List.getElem?_set_ne]
  intro z
  subst z
  rw [h] at e
  cases e⟩
theorem own_nil {js : List (Option Nat)} : OwnGs js gNil := fun x σ H Q hl ⟨e, q⟩ Q' k => ⟨e, k _ _ q hl fun _ _ _ => rfl⟩
theorem own_cons {js : List (Option Nat)} {i : Nat} {u : TGs} (hu : OwnGs js u) (h : js[i]? = some none := by rfl) : OwnGs js (gCons (gName i) u) := fun x σ H Q hl ⟨v, r, e, q⟩ Q' k => ⟨v, r, e, by
  have hl' : (σ.set i (some v)).length = js.length := by rw [List.length_set]; exact hl
  exact hu r (σ.set i (some v)) H Q hl' q _ fun σ' H' z1 z2 z3 => k σ' H' z1 z2 fun n j e => (z3 n j e).trans (by
    rw [List.getElem?_set_ne]
    intro z
    subst z
    rw [h] at e
    cases e)⟩
theorem own_tup {js : List (Option Nat)} {K : PySem.W.Frag} {n : Nat} {t : TGs} (h : OwnGs js t) : OwnG js (gTup K n t) := fun x σ H Q hl ⟨a, xs, e, sq, l, q⟩ => ⟨a, xs, e, sq, l, h xs σ H Q hl q _ fun σ' H' z1 z2 z3 => ⟨z1, z2, z3⟩⟩

def CompW (J : It) (g : TG) (tif : TT) (te : TE) (js : List (Option Nat)) (σ : St) (Q : VK) (p : Addr) (H1 : Hp) : Prop :=
  ∃ W : Nat → Nat → List V → Hp → Prop, (∃ m, W 0 m [] (upd H1 p (.lst []))) ∧ ∀ i m acc H2, W i m acc H2 → H2 p = some (.lst acc) ∧
    ((J.stop i H2 ∧ Q (.ref p) H2) ∨ (J.go i H2 ∧ acc.length < sizeLine ∧ ∃ N : List V → Hp → Prop, (∀ acc' H', N acc' H' → ∃ m', m' < m ∧ W (i + 1) m' acc' H') ∧
      ∀ x H', J.yld i H2 x H' → g x (cap js σ) H' fun σ2 H3 => tif σ2 H3 fun c H4 =>
        if c = true then te σ2 H4 fun y H5 => H5 p = some (.lst acc) ∧ N (acc ++ [y]) (upd H5 p (.lst (acc ++ [y]))) else N acc H4))

def tComp (wi : TI) (g : TG) (tif : TT) (te : TE) (js : List (Option Nat)) : TE := fun σ H Q => wi σ H fun J H1 => ∀ p, H1 p = none → CompW J g tif te js σ Q p H1

theorem comp_core {X : Cx} {use : Option (Value → Sem Unit)} {Q' : Value → Shared → Prop} {Q : VK} {pins : List (Addr × Obj)} {s : Shared} {σ : St} {H : Hp} {elt target iter : Expr} {ifs : List Expr} {scope : Scope} {pos : Pos} {wi : TI} {g : TG} {tif : TT} {te : TE} {N' : List Str} {js : List (Option Nat)} (hok : compOk scope X.env.scope N' X.N js = true) (hc : X.calm = true)
    (hi : PI X target iter wi) (ho : OwnG js g) (hg : ∀ C s H fp, PG (compCx X N' scope C s H fp) target g) (hif : ∀ C s H fp, PIf (compCx X N' scope C s H fp) ifs tif) (he : ∀ C s H fp, PE (compCx X N' scope C s H fp) elt te)
    (hs : ∀ x, foldedSetIterable iter X.env x = pure x) (I : Inv X pins σ H s) (h : tComp wi g tif te js σ H Q)
    (hfin : ∀ (s2 : Shared) (H2 : Hp) (fp : List Addr) (C : Addr), Inv X pins σ H2 s2 → (∀ b ∈ fp, FpOk X pins H2 b) → s2.heap.objs.size ≤ C → ∀ (σ' : St) (H' : Hp) (s' : Shared), Inv (compCx X N' scope C s2 H2 fp) [] σ' H' s' → Q (.ref s2.heap.objs.size) H' →
      compPost (model X.prog X.w) X.A X.xe use Q' (.ref s2.heap.objs.size) C (.ok .next) s') :
    wpAny (model X.prog X.w) X.A (comprehension (.ListComp elt [⟨target, iter, ifs, 0⟩] scope pos) scope X.env (firstIterPos [⟨target, iter, ifs, 0⟩] pos) (newList []) false (eval iter X.env) use) Q' X.xe s := by
  have O := compOk_of hok
  have hfr : ∀ y ∈ scope.names, y.2 = .free → ∃ c, X.env.cells.lookup y.1 = some c := fun y hy e => I.ok.has y.1 (O.free y hy e)
  refine wpAny_comprehension_free (use := use) rfl hs (closL_eq hfr) O.kind O.names (thn (hi pins s σ H _ I h) fun v s1 h1 => thn h1 fun itv s2 h2 => ?_)
  obtain ⟨it, fp, tn, J, H2, e, I2, T, st2, f2, hq⟩ := h2
  subst e
  have hf0 : H2 s2.heap.objs.size = none := I2.hok.fresh (Nat.le_refl _)
  obtain ⟨W, ⟨m0, w0⟩, turn⟩ := hq _ hf0
  refine wpAny_newObj_type (wpAny_newFunctionEnv O.nocell (by intro y hy; simp at hy) (fun h₁ hns₁ hsb₁ => ?_) O.kind)
  dsimp only at hns₁ hsb₁ ⊢
  generalize hH2 : s2.heap.push { cls := .type "list", dict := none, data := .seq ([] : List Value).toArray } = B at hns₁ hsb₁ ⊢
  have hC : B.objs.size = s2.heap.objs.size + 1 := by rw [← hH2, Heap.size_push]
  have hCle : s2.heap.objs.size ≤ B.objs.size := by rw [hC]; exact Nat.le_succ _
  have old : ∀ b o, s2.heap.get? b = some o → h₁.get? b = some o := fun b o e => hsb₁.extBut b o (by rw [hC]; exact Nat.ne_of_lt (Nat.lt_succ_of_lt (Heap.lt_size e))) (Heap.get?_push_of_some _ (hH2 ▸ Heap.get?_push_of_some _ e))
  have hDC : s2.heap.objs.size ≠ B.objs.size := by rw [hC]; exact Nat.ne_of_lt (Nat.lt_succ_self _)
  have hacc : h₁.get? s2.heap.objs.size = some { cls := .type "list", dict := none, data := .seq ([] : List Value).toArray } := hsb₁.extBut _ _ hDC (Heap.get?_push_of_some _ (hH2 ▸ Heap.get?_push_size _ rfl))
  have fpO : ∀ b ∈ fp, b < s2.heap.objs.size := fun b hb => by
    obtain ⟨o, e, _⟩ := T.obj 0 _ st2 b hb
    exact Heap.lt_size e
  have sub : ∀ x c, (closL scope.names X.env.cells []).lookup x = some c → X.env.cells.lookup x = some c := closL_sub scope.names [] hfr (fun x c e => by cases e)
  have hasC : ∀ x, ((relabel scope X.env).names.lookup x = some .cell ∨ (relabel scope X.env).names.lookup x = some .free) → ∃ c, (closL scope.names X.env.cells []).lookup x = some c := fun x hx =>
    Option.isSome_iff_exists.mp (closL_has scope.names [] (relabel_free (scope := scope) (env := X.env) scope.names x O.nocell hx))
  -- the block's context at its begin
  have IY : ∀ t, Inv (compCx X N' scope B.objs.size s2 H2 fp) [] (cap js σ) (upd H2 s2.heap.objs.size (.lst [])) { s2 with heap := h₁, toks := t } := by
    intro t
    refine ⟨⟨I2.ok.mod, O.kind, I2.ok.glob, I2.ok.blt, hCle, fun x y c h1 h2 => I2.ok.inj x y c (sub x c h1) (sub y c h2), fun x hx => hasC x hx, fun x c h => (by cases h), I2.ok.hd, I2.ok.frames, .inl rfl, fun b hb => ⟨Nat.ne_of_lt (Nat.lt_of_lt_of_le (fpO b hb) hCle), fun x c e => (f2 b hb).2.2.2.2.1 x c (sub x c e)⟩,
      I2.bs, Nat.le_trans I2.ok.bsz I2.sz, fun b o e hb => ?_, fun b hb z => ?_, I2.stack, I2.stkFree⟩, rfl, I2.bare, Un.laid old (Nat.le_refl _) hf0, ⟨_, hns₁, fun i x v e1 e2 e3 => ?_⟩, fun x c e => ?_, ?_, fun x c e => ?_, fun p hp => absurd (show p ∈ ([] : List (Addr × Obj)) from hp) (by simp), ?_, ?_⟩
    · rcases (f2 b hb).2.2.2.1 with z | z
      · exact I2.ok.noex b o e z
      · exact absurd (Nat.lt_of_lt_of_le (Nat.lt_of_lt_of_le (Heap.lt_size e) I2.ok.bsz) z) (Nat.lt_irrefl _)
    · rcases List.mem_cons.mp (I2.stkSub b z) with q | q
      · exact (f2 b hb).2.1 q
      · exact (f2 b hb).2.2.1 q
    · have e1 : N'[i]? = some x := e1
      unfold cap at e2
      rw [List.getElem?_map] at e2
      cases q : js[i]? with
      | none => rw [q] at e2; cases e2
      | some o =>
        rw [q] at e2
        cases o with
        | none => cases e2
        | some j =>
          have e2 : (σ[j]?).join = some v := by simpa using e2
          have e2' : σ[j]? = some (some v) := by
            cases z : σ[j]? with
            | none => rw [z] at e2; cases e2
            | some a => rw [z] at e2; cases a with
              | none => cases e2
              | some a => cases e2; rfl
          obtain ⟨hN, hk, hsf⟩ := O.slots i j x q e1
          obtain ⟨m, hn, hl⟩ := I2.loc
          obtain ⟨u, r, l⟩ := hl j x v hN e2' (.inr hk)
          refine ⟨u, r, ?_⟩
          have hkX : X.env.kindOf x = some .cell ∨ X.env.kindOf x = some .free := hk
          rcases l with ⟨k, _⟩ | ⟨k, c, hc', hcell⟩
          · rcases hkX with z | z
            · rw [k] at z; cases z
            · rw [k] at z; cases z
          · have hky : (relabel scope X.env).names.lookup x = some .cell ∨ (relabel scope X.env).names.lookup x = some .free := relabel_lookup (env := X.env) scope.names x hsf
            obtain ⟨c2, hc2⟩ := hasC x hky
            have : c2 = c := by
              have := sub x c2 hc2
              rw [hc'] at this
              exact (Option.some.inj this).symm
            subst this
            obtain ⟨ob, ho, hd⟩ := hcell
            exact .inr ⟨hky, c2, hc2, ob, old _ _ ho, hd⟩
    · obtain ⟨v, ob, ho, hd⟩ := I2.cell x c (sub x c e)
      exact ⟨v, ob, old _ _ ho, hd⟩
    · show upd H2 s2.heap.objs.size (.lst []) B.objs.size = none
      rw [upd_ne (Ne.symm hDC)]
      exact I2.hok.fresh hCle
    · obtain ⟨v, ob, ho, hd⟩ := I2.cell x c (sub x c e)
      rw [upd_ne (Nat.ne_of_lt (Heap.lt_size ho))]
      exact I2.freeC x c (sub x c e)
    · exact I2.hok.laid old (Nat.le_refl _) ⟨Nat.zero_le _, [], 0, .nil, hacc⟩
    · unfold cap
      rw [List.length_map]
      exact O.len
  have hcl : (cap js σ).length = js.length := by unfold cap; rw [List.length_map]
  have fin : ∀ {σ' : St} {H' : Hp} {s' : Shared}, Inv (compCx X N' scope B.objs.size s2 H2 fp) [] σ' H' s' → Q (.ref s2.heap.objs.size) H' → compPost (model X.prog X.w) X.A X.xe use Q' (.ref s2.heap.objs.size) B.objs.size (.ok .next) s' :=
    fun {σ' H' s'} J q => hfin s2 H2 fp B.objs.size I2 f2 hCle σ' H' s' J q
  have loop : ∀ t, codeAny (model X.prog X.w) X.A (.compLoop (.ListComp elt [⟨target, iter, ifs, 0⟩] scope pos) 0 (.ref it) (.ref s2.heap.objs.size) (compEnvC scope (closL scope.names X.env.cells []) B.objs.size X.env))
      (compPost (model X.prog X.w) X.A X.xe use Q' (.ref s2.heap.objs.size) B.objs.size) { s2 with heap := h₁, toks := t } := by
    intro t
    have stat : ∀ {H' : Hp}, (∀ b ∈ fp, H' b = none) → ∀ b ∈ fp, FpOk (compCx X N' scope B.objs.size s2 H2 fp) [] H' b := fun hn b hb =>
      ⟨hn b hb, Nat.ne_of_lt (Nat.lt_of_lt_of_le (fpO b hb) hCle), (IY t).ok.exfs b hb, .inl hb, fun x c e => ((IY t).ok.exf b hb).2 x c e, fun p hp => absurd (show p ∈ ([] : List (Addr × Obj)) from hp) (by simp)⟩
    refine comp_loop (fun n s' => ∃ i acc H', Inv (compCx X N' scope B.objs.size s2 H2 fp) [] (cap js σ) H' s' ∧ tn i s'.heap ∧ (∀ b ∈ fp, H' b = none) ∧ W i n acc H') ?_ m0
      ⟨0, [], _, IY t, T.keep 0 _ _ st2 (fun b _ o e => old b o e), fun b hb => by rw [upd_ne (Nat.ne_of_lt (fpO b hb))]; exact (f2 b hb).1, w0⟩
    rintro n s3 ⟨i, acc, H3, I3, st3, fr3, w3⟩
    obtain ⟨hD, turn⟩ := turn i n acc H3 w3
    rcases turn with ⟨stop, qn⟩ | ⟨go, hlen, N, hN, step⟩
    · refine thn (T.done (compCx X N' scope B.objs.size s2 H2 fp) rfl rfl rfl hc i [] s3 (cap js σ) H3 (fun _ _ => False) I3 (stat fr3) st3 stop) fun r s4 ⟨hr, I4⟩ => ?_
      subst hr
      exact fin I4 qn
    · refine thn (T.item (compCx X N' scope B.objs.size s2 H2 fp) rfl rfl rfl hc i [] s3 (cap js σ) H3 (fun _ _ => False) I3 (stat fr3) st3 go) fun r s4 ⟨u, hr, h4⟩ => ?_
      subst hr
      refine thn h4 fun _ s5 ⟨x, H5, I5, r5, y5, st5, fr5⟩ => ?_
      have I5' := I5.pinned (stat fr5) (T.obj _ _ st5)
      refine thn (hg _ _ _ _ _ s5 (cap js σ) H5 x u _ I5' r5 (ho x (cap js σ) H5 _ hcl (step x H5 y5))) fun _ s6 ⟨σ6, H6, I6, q6, hl6, hk6⟩ => ?_
      refine thn (hif _ _ _ _ _ s6 σ6 H6 _ I6 q6) fun ok s7 ⟨H7, I7, q7⟩ => ?_
      have again : ∀ {H8 : Hp} {acc8 : List V} {s8 : Shared}, Inv (compCx X N' scope B.objs.size s2 H2 fp) ([] ++ pinsAt fp s5.heap) σ6 H8 s8 → N acc8 H8 →
          ∃ m, m < n ∧ ∃ i acc H', Inv (compCx X N' scope B.objs.size s2 H2 fp) [] (cap js σ) H' s8 ∧ tn i s8.heap ∧ (∀ b ∈ fp, H' b = none) ∧ W i m acc H' := by
        intro H8 acc8 s8 I8 n8
        obtain ⟨m', hm, w8⟩ := hN acc8 H8 n8
        refine ⟨m', hm, i + 1, acc8, H8, ?_, T.keep _ _ _ st5 fun b hb o e => (I8.pin (b, o) (List.mem_append_right _ (List.mem_append_right _ (mem_pinsAt hb e)))).1, fun b hb => ?_, w8⟩
        · refine Inv.weak I8.unpinned (by rw [hl6, hcl]) fun k v e => ?_
          have e' := e
          unfold cap at e
          rw [List.getElem?_map] at e
          cases q : js[k]? with
          | none => rw [q] at e; cases e
          | some o =>
            cases o with
            | none => rw [q] at e; cases e
            | some j => rw [hk6 k j q]; exact e'
        · obtain ⟨o, e, d⟩ := T.obj _ _ st5 b hb
          exact (I8.pin (b, o) (List.mem_append_right _ (List.mem_append_right _ (mem_pinsAt hb e)))).2.1
      cases ok with
      | false => exact again I7 q7
      | true =>
        refine thn (he _ _ _ _ _ s7 σ6 H7 _ I7 q7) fun y s8 ⟨yv, H8, I8, r8, hD8, q8⟩ => ?_
        refine thn (mt_append _ s8 σ6 H8 (.ref s2.heap.objs.size) [yv] (.ref s2.heap.objs.size) [y] (fun _ H9 => N (acc ++ [yv]) H9) I8 rfl (.cons r8 .nil) ⟨_, acc, yv, rfl, rfl, hD8, hlen, q8⟩) fun _ s9 ⟨_, H9, I9, _, q9⟩ => ?_
        exact again I9 q9
  exact codeAny_compStart_list (loop _) (T.self X.A 0 _ _ _ (T.keep 0 _ _ st2 (fun b _ o e => old b o e)) (loop _))
theorem pe_comp {X : Cx} {elt target iter : Expr} {ifs : List Expr} {scope : Scope} {pos : Pos} {wi : TI} {g : TG} {tif : TT} {te : TE} {N' : List Str} {js : List (Option Nat)} (hok : compOk scope X.env.scope N' X.N js = true) (hc : X.calm = true)
    (hi : PI X target iter wi) (ho : OwnG js g) (hg : ∀ C s H fp, PG (compCx X N' scope C s H fp) target g) (hif : ∀ C s H fp, PIf (compCx X N' scope C s H fp) ifs tif) (he : ∀ C s H fp, PE (compCx X N' scope C s H fp) elt te)
    (hs : ∀ x, foldedSetIterable iter X.env x = pure x := by intro _; rfl) : PE X (.ListComp elt [⟨target, iter, ifs, 0⟩] scope pos) (tComp wi g tif te js) := by
  intro pins s σ H Q I h
  rw [eval_ListComp]
  refine comp_core (use := none) hok hc hi ho hg hif he hs I h fun s2 H2 fp C I2 f2 hCle σ' H' s' J q => ?_
  obtain ⟨m, hn, _⟩ := J.loc
  refine ⟨m, hn, fun h' hs' => ⟨.ref s2.heap.objs.size, H', ?_, rfl, q⟩⟩
  refine I2.call' (s' := { s' with heap := h' }) (ch := fp) J.os (J.base.sameBut hs' hCle) (fun b ob e => ?_) J.bare fun b hb => ⟨(f2 b hb).2.2.2.1, (f2 b hb).2.1, (f2 b hb).2.2.2.2.1, (f2 b hb).2.2.2.2.2⟩
  refine (J.hok b ob e).stay (fun c w' hc q => (hs'.2 c ?_).trans q) (fun _ q => q) fun _ _ q => q
  have hfree : H' C = none := J.free
  intro hcC
  rw [hcC] at hc
  rcases hc with z | z
  · rw [← z, hfree] at e; cases e
  · rw [hfree] at z; cases z

theorem ps_setc {X : Cx} {i : Nat} {y : Str} {elt target iter : Expr} {ifs : List Expr} {scope : Scope} {pos py spos : Pos} {wi : TI} {g : TG} {tif : TT} {te : TE} {N' : List Str} {js : List (Option Nat)} (hN : X.N.Nodup) (hi' : X.N[i]? = some y) (hx : Loc X.env.scope y)
    (hok : compOk scope X.env.scope N' X.N js = true) (hc : X.calm = true)
    (hi : PI X target iter wi) (ho : OwnG js g) (hg : ∀ C s H fp, PG (compCx X N' scope C s H fp) target g) (hif : ∀ C s H fp, PIf (compCx X N' scope C s H fp) ifs tif) (he : ∀ C s H fp, PE (compCx X N' scope C s H fp) elt te)
    (hsw : swapsWith (.ListComp elt [⟨target, iter, ifs, 0⟩] scope pos) (some (.Name y py)) spos.line X.env = pure true)
    (hs : ∀ x, foldedSetIterable iter X.env x = pure x := by intro _; rfl) (hf : X.fn y = true ∨ X.env.scope.names.lookup y = some .local := by first | exact .inl rfl | exact .inr rfl | assumption) :
    PS X (.Assign [.Name y py] (.ListComp elt [⟨target, iter, ifs, 0⟩] scope pos) spos) (tAsg (tComp wi g tif te js) (gName i)) := by
  intro pins s σ H D I h
  rw [exec_Assign_Name_used _ _ _ _ hsw]
  refine wpAny_bind (wpAny_standAt (wpAny_bind ?_))
  show wpAny _ X.A (do let _ ← comprehension (.ListComp elt [⟨target, iter, ifs, 0⟩] scope pos) scope X.env _ (newList []) false (eval iter X.env) (some (assign (.Name y py) X.env))) _ _ s
  refine wpAny_bind (thn (comp_core (use := some (assign (.Name y py) X.env)) (Q' := fun _ s' => SP X pins D .next s') hok hc hi ho hg hif he hs I h fun s2 H2 fp C I2 f2 hCle σ' H' s' J q => ?_) fun _ s' q => ?_)
  · obtain ⟨m, hn, _⟩ := J.loc
    have I3 : Inv X pins σ H' s' := I2.call' (ch := fp) J.os J.base J.hok J.bare fun b hb => ⟨(f2 b hb).2.2.2.1, (f2 b hb).2.1, (f2 b hb).2.2.2.2.1, (f2 b hb).2.2.2.2.2⟩
    have hCL : C ≠ X.env.locals := fun z => absurd (Nat.lt_of_lt_of_le I2.lt hCle) (by rw [z]; exact Nat.lt_irrefl _)
    have hCc : ∀ x c, X.env.cells.lookup x = some c → c ≠ C := fun x c e z => by
      obtain ⟨v, ob, ho, _⟩ := I2.cell x c e
      exact absurd (Nat.lt_of_lt_of_le (Heap.lt_size ho) hCle) (by rw [z]; exact Nat.lt_irrefl _)
    have hCp : ∀ p ∈ X.pn ++ pins, p.1 ≠ C := fun p hp z => by
      have e := (I2.pin p hp).1
      exact absurd (Nat.lt_of_lt_of_le (Heap.lt_size e) hCle) (by rw [z]; exact Nat.lt_irrefl _)
    show wpAny _ X.A (assign (.Name y py) X.env (.ref s2.heap.objs.size)) _ _ s'
    refine wpAny_assign_Name (store_ok2 I3 hN hi' hx (v := .ref s2.heap.objs.size) rfl (fun s'' I4 ⟨a, hsb, ha⟩ => ?_) hf)
    have hna : C ≠ a := by
      rcases ha with z | z
      · rw [z]; exact hCL
      · exact (hCc _ _ z).symm
    refine ⟨m, hn.sameBut hsb hna, fun h' hs' => ⟨_, H', ?_, q⟩⟩
    exact I4.turned (t' := s''.toks) (h' := h') (it := C) (fun b o hb e => (hs'.2 b hb).trans e) J.free hCL (.inr (Nat.le_trans I2.sz hCle)) hCc hCp
  · exact wpAny_pure (wpAny_pure q)

end L2

set_option Elab.async false
set_option linter.all false
set_option maxRecDepth 100000
set_option maxHeartbeats 4000000
namespace L2
open PySem PySem.Spec PyProof.Rows


def Its (x : Str) : It := ⟨fun i _ => i < x.length, fun i H v H' => H' = H ∧ ∃ c, x.cps[i]? = some c ∧ v = .str ⟨#[c]⟩, fun i _ => i = x.length⟩
theorem turn_str {P : Program} {w : World} {K : PySem.W.Frag} {tg : Expr} {it : Addr} {x : Str} {t : Tok} {ty : String}
    (hty : ["enumerate", "zip", "dict_itemiterator", "dict_reverseitemiterator", "odict_iterator", "itertools.zip_longest", "itertools.pairwise"].contains ty = false)
    (W : ∀ A : Around, A.handled = none → Walks P w A it [it] [it] x.cps.size (SignAt x) (fun i h => h.IsStrIter it ty x t i))
    (hs : ∀ (A : Around) (i : Nat) (s : Shared) (Q : Value → Shared → Prop) (E : Value → Shared → Prop), s.heap.IsStrIter it ty x t i → Q (.ref it) s → wpAny (model P w) A (pyIter (.ref it)) Q E s) :
    Turn P w K tg (Its x) [it] it (fun i h => h.IsStrIter it ty x t i) where
  mem := by simp
  obj := fun i h st b hb => by
    have e : b = it := by simpa using hb
    subst e
    obtain ⟨o, e, c, d⟩ := st
    exact ⟨o, e, fun v z => by rw [d] at z; cases z⟩
  keep := fun i h h' st k => by
    obtain ⟨o, e, r⟩ := st
    exact ⟨o, k it (by simp) o e, r⟩
  item := by
    intro X hP hw hK hc i pins s σ H E I hf st hg
    subst hP hw hK
    obtain ⟨f0, f1, f2, f3, f4, f5⟩ := hf it (by simp)
    refine (W X.A (I.ok.hd hc)).item i s _ _ hg st fun v h' tk hv st' kk => ?_
    obtain ⟨c, u, hx, rfl⟩ := hv
    have I1 : Inv X pins σ H { s with heap := h', toks := tk } := I.turned (fun b o hb e => kk b o (by simpa using hb) e) f0 f1 f3 f4 f5
    obtain ⟨o, e, cc, d⟩ := id st'
    exact ⟨_, rfl, go_of (s := { s with heap := h', toks := tk }) e cc d hty ⟨.str ⟨#[c]⟩, H, I1, ⟨u, rfl⟩, ⟨rfl, c, hx, rfl⟩, st', fun b hb => (hf b hb).1⟩⟩
  done := by
    intro X hP hw hK hc i pins s σ H E I hf st hg
    subst hP hw hK
    obtain ⟨f0, f1, f2, f3, f4, f5⟩ := hf it (by simp)
    have hi : i = x.cps.size := hg
    subst hi
    refine (W X.A (I.ok.hd hc)).done s _ _ st fun h' tk kk => ⟨rfl, I.turned (fun b o hb e => kk b o (by simpa using hb) e) f0 f1 f3 f4 f5⟩
  self := fun A i s Q E st h => hs A i s Q E st h
section
variable {X : Cx} {tg : Expr}
def iStr (tl : TE) : TI := fun σ H R => tl σ H fun x H1 => ∃ z, x = .str z ∧ R (Its z) H1
theorem pi_str {l : Expr} {tl : TE} (hl : PE X l tl) : PI X tg l (iStr tl) := by
  intro pins s σ H R I h
  refine thn (hl pins s σ H _ I h) fun v s1 ⟨x, H1, I1, r1, q1⟩ => ?_
  obtain ⟨z, e, q⟩ := q1
  subst e
  obtain ⟨t, rfl⟩ := r1
  have fo : ∀ b ∈ [s1.heap.objs.size], FpOk X pins H1 b := fun b hb => by
    have e : b = s1.heap.objs.size := by simpa using hb
    subst e
    exact I1.fpOk (Nat.le_refl _) (I1.hok.fresh (Nat.le_refl _))
  cases ha : z.cps.all (· < 128)
  · refine wpAny_pyIter_wide ha ?_
    exact ⟨s1.heap.objs.size, [s1.heap.objs.size], _, _, H1, rfl, I1.kept (t' := s1.toks) fun b o e => Heap.get?_push_of_some _ e, turn_str (t := t) (by decide) (fun A hA => Walks.strWide hA _ z t) (fun A i s Q E st h => wpAny_pyIter_striter_wide st h), ⟨_, Heap.get?_push_size _ rfl, rfl, rfl⟩, fo, q⟩
  · refine wpAny_pyIter_ascii ha ?_
    exact ⟨s1.heap.objs.size, [s1.heap.objs.size], _, _, H1, rfl, I1.kept (t' := s1.toks) fun b o e => Heap.get?_push_of_some _ e, turn_str (t := t) (by decide) (fun A hA => Walks.strAscii hA _ z t) (fun A i s Q E st h => wpAny_pyIter_striter_ascii st h), ⟨_, Heap.get?_push_size _ rfl, rfl, rfl⟩, fo, q⟩
end
section
variable {g : TG} {tif : TT} {te : TE} {js : List (Option Nat)} {σ : St} {H : Hp} {Q : VK}

def cTurn (g : TG) (tif : TT) (te : TE) (σ : St) (p : Addr) (acc : List V) (N : List V → Hp → Prop) (x : V) (H : Hp) : Prop :=
  g x σ H fun σ2 H3 => tif σ2 H3 fun c H4 => if c = true then te σ2 H4 fun y H5 => H5 p = some (.lst acc) ∧ N (acc ++ [y]) (upd H5 p (.lst (acc ++ [y]))) else N acc H4
theorem comp_range {lo : Int} {n : Nat} {p : Addr} (hn : n ≤ 1000000) (Pv : Nat → List V → Hp → Prop) (h0 : Pv 0 [] (upd H p (.lst [])))
    (hl : ∀ i acc H2, i ≤ n → Pv i acc H2 → H2 p = some (.lst acc) ∧ acc.length ≤ i)
    (hs : ∀ i acc H2, i < n → Pv i acc H2 → cTurn g tif te (cap js σ) p acc (Pv (i + 1)) (.int (lo + i)) H2) (hd : ∀ acc H2, Pv n acc H2 → Q (.ref p) H2) :
    CompW (Itr lo n) g tif te js σ Q p H := by
  refine ⟨fun i m acc H => m = n - i ∧ i ≤ n ∧ Pv i acc H, ⟨n, by simp, Nat.zero_le _, h0⟩, ?_⟩
  rintro i m acc H2 ⟨rfl, hi, q⟩
  obtain ⟨q1, q2⟩ := hl i acc H2 hi q
  refine ⟨q1, ?_⟩
  by_cases hlt : i < n
  · refine .inr ⟨hlt, ?_, Pv (i + 1), fun acc' H' p' => ⟨n - (i + 1), by omega, rfl, hlt, p'⟩, fun x H' y => ?_⟩
    · have : (1000000 : Nat) < sizeLine := by decide
      omega
    · obtain ⟨e, y⟩ := y
      subst e y
      exact hs i acc _ hlt q
  · have e : i = n := by omega
    subst e
    exact .inl ⟨Nat.le_refl _, hd acc H2 q⟩
theorem comp_str {z : Str} {p : Addr} (hn : z.length ≤ 1000000) (Pv : Nat → List V → Hp → Prop) (h0 : Pv 0 [] (upd H p (.lst [])))
    (hl : ∀ i acc H2, i ≤ z.length → Pv i acc H2 → H2 p = some (.lst acc) ∧ acc.length ≤ i)
    (hs : ∀ i c acc H2, z.cps[i]? = some c → Pv i acc H2 → cTurn g tif te (cap js σ) p acc (Pv (i + 1)) (.str ⟨#[c]⟩) H2) (hd : ∀ acc H2, Pv z.length acc H2 → Q (.ref p) H2) :
    CompW (Its z) g tif te js σ Q p H := by
  refine ⟨fun i m acc H => m = z.length - i ∧ i ≤ z.length ∧ Pv i acc H, ⟨z.length, by simp, Nat.zero_le _, h0⟩, ?_⟩
  rintro i m acc H2 ⟨rfl, hi, q⟩
  obtain ⟨q1, q2⟩ := hl i acc H2 hi q
  refine ⟨q1, ?_⟩
  by_cases hlt : i < z.length
  · refine .inr ⟨hlt, ?_, Pv (i + 1), fun acc' H' p' => ⟨z.length - (i + 1), by omega, rfl, hlt, p'⟩, fun x H' y => ?_⟩
    · have : (1000000 : Nat) < sizeLine := by decide
      omega
    · obtain ⟨e, c, hc, y⟩ := y
      subst e y
      exact hs i c acc _ hc q
  · have e : i = z.length := by omega
    subst e
    exact .inl ⟨rfl, hd acc H2 q⟩
theorem comp_list {K : PySem.W.Frag} {a : Addr} {xs : List V} {p : Addr} (hn : xs.length ≤ 1000000) (Pv : Nat → List V → Hp → Prop) (h0 : Pv 0 [] (upd H p (.lst [])))
    (hl : ∀ i acc H2, i ≤ xs.length → Pv i acc H2 → H2 p = some (.lst acc) ∧ acc.length ≤ i ∧ SqL K H2 a xs)
    (hs : ∀ i x acc H2, xs[i]? = some x → Pv i acc H2 → cTurn g tif te (cap js σ) p acc (Pv (i + 1)) x H2) (hd : ∀ acc H2, Pv xs.length acc H2 → Q (.ref p) H2) :
    CompW (Itl K a) g tif te js σ Q p H := by
  refine ⟨fun i m acc H => m = xs.length - i ∧ i ≤ xs.length ∧ Pv i acc H, ⟨xs.length, by simp, Nat.zero_le _, h0⟩, ?_⟩
  rintro i m acc H2 ⟨rfl, hi, q⟩
  obtain ⟨q1, q2, q3⟩ := hl i acc H2 hi q
  refine ⟨q1, ?_⟩
  by_cases hlt : i < xs.length
  · refine .inr ⟨⟨xs, xs[i], q3, by simp [hlt]⟩, ?_, Pv (i + 1), fun acc' H' p' => ⟨xs.length - (i + 1), by omega, rfl, hlt, p'⟩, fun x H' y => ?_⟩
    · have : (1000000 : Nat) < sizeLine := by decide
      omega
    · obtain ⟨e, y⟩ := y
      subst e
      exact hs i x acc _ (y xs q3) q
  · have e : i = xs.length := by omega
    subst e
    exact .inl ⟨⟨xs, q3, Nat.le_refl _⟩, hd acc H2 q⟩
theorem comp_tup {K : PySem.W.Frag} {a : Addr} {xs : List V} {p : Addr} (hn : xs.length ≤ 1000000) (Pv : Nat → List V → Hp → Prop) (h0 : Pv 0 [] (upd H p (.lst [])))
    (hl : ∀ i acc H2, i ≤ xs.length → Pv i acc H2 → H2 p = some (.lst acc) ∧ acc.length ≤ i ∧ SqT K H2 a xs)
    (hs : ∀ i x acc H2, xs[i]? = some x → Pv i acc H2 → cTurn g tif te (cap js σ) p acc (Pv (i + 1)) x H2) (hd : ∀ acc H2, Pv xs.length acc H2 → Q (.ref p) H2) :
    CompW (Itt K a) g tif te js σ Q p H := by
  refine ⟨fun i m acc H => m = xs.length - i ∧ i ≤ xs.length ∧ Pv i acc H, ⟨xs.length, by simp, Nat.zero_le _, h0⟩, ?_⟩
  rintro i m acc H2 ⟨rfl, hi, q⟩
  obtain ⟨q1, q2, q3⟩ := hl i acc H2 hi q
  refine ⟨q1, ?_⟩
  by_cases hlt : i < xs.length
  · refine .inr ⟨⟨xs, xs[i], q3, by simp [hlt]⟩, ?_, Pv (i + 1), fun acc' H' p' => ⟨xs.length - (i + 1), by omega, rfl, hlt, p'⟩, fun x H' y => ?_⟩
    · have : (1000000 : Nat) < sizeLine := by decide
      omega
    · obtain ⟨e, y⟩ := y
      subst e
      exact hs i x acc _ (y xs q3) q
  · have e : i = xs.length := by omega
    subst e
    exact .inl ⟨⟨xs, q3, Nat.le_refl _⟩, hd acc H2 q⟩
end


section
variable {X : Cx}
theorem isSlice_of {h : Heap} {sl : Addr} {vl vu : Value} {lo hi : Option Int} (hs : h.IsSliceOf sl vl vu .none) (pl : IsPart vl lo) (pu : IsPart vu hi) : ∃ l u : Option (Int × Tok), l.map (·.1) = lo ∧ u.map (·.1) = hi ∧ h.IsSlice sl l u none := by
  obtain ⟨o, ho, hc, hd⟩ := hs
  cases pl with
  | none =>
    cases pu with
    | none => exact ⟨none, none, rfl, rfl, o, ho, hc, hd⟩
    | int j t => exact ⟨none, some (j, t), rfl, rfl, o, ho, hc, hd⟩
  | int i t =>
    cases pu with
    | none => exact ⟨some (i, t), none, rfl, rfl, o, ho, hc, hd⟩
    | int j t' => exact ⟨some (i, t), some (j, t'), rfl, rfl, o, ho, hc, hd⟩
def rSlS : V → Option Int → Option Int → Hp → VK → Prop := fun x lo hi H Q => ∃ z, x = .str z ∧ z.length ≤ sizeLine ∧ Q (.str (Txt.slice z lo hi)) H
theorem sl_str : SlR X rSlS := by
  intro pins s σ H x v vl vu lo hi sl Q I rx hs pl pu h
  obtain ⟨z, rfl, hz, q⟩ := h
  obtain ⟨t, rfl⟩ := rx
  obtain ⟨l, u, rfl, rfl, hsl⟩ := isSlice_of hs pl pu
  refine ⟨"str", _, F.slot_str_getitem.lookup, typeIs_str _ _ _, wpAny_getItem_str_slice (l := l) (u := u) (st := none) hsl rfl
    (post_val_or_str ⟨Nat.le_trans (Txt.slice_le z _ _) hz, fun t' k => ⟨.str (Txt.slice z (l.map (·.1)) (u.map (·.1))), H, I.tok _, ⟨_, rfl⟩, q⟩⟩)⟩
theorem strs_of {ys : List Str} : ∀ {us : List Value}, Vals (ys.map V.str) us → StrsAre us ys := by
  induction ys with
  | nil => intro us h; cases h; exact .nil
  | cons y r ih =>
    intro us h
    cases h with
    | cons r1 h =>
      obtain ⟨t, rfl⟩ := r1
      exact .cons y t (ih h)
def rJoin (K : PySem.W.Frag) : V → List V → Hp → VK → Prop := fun x xs H Q => ∃ sep p ys, x = .str sep ∧ xs = [.ref p] ∧ SqL K H p (ys.map V.str) ∧ (ys.map (·.length)).sum + ys.length * sep.length ≤ 16777216 ∧ Q (.str (Txt.join sep ys)) H
theorem mt_join : MtR X "str.join" (rJoin X.K) := by
  intro pins s σ H x xs v us Q I rx r h
  obtain ⟨sep, p, ys, rfl, rfl, hp, hl, q⟩ := h
  obtain ⟨t, rfl⟩ := rx
  obtain ⟨u, rfl, ru⟩ := vals1 r
  cases (show u = Value.ref p from ru)
  obtain ⟨its, rv, pl, hz⟩ := I.list hp
  exact join_list pl.isList (by simpa using strs_of rv) hl fun t' k => ⟨.str (Txt.join sep ys), H, I.tok _, ⟨_, rfl⟩, q⟩
theorem call_int_str : CallR X (.type "int") (fun xs H Q => ∃ x n, xs = [.str x] ∧ PySem.intText? x = some n ∧ x.length ≤ 640 ∧ Q (.int n) H) := by
  intro pins s σ H xs us Q I r h
  obtain ⟨x, n, rfl, h1, h2, q⟩ := h
  obtain ⟨u, rfl, t, rfl⟩ := vals1 r
  exact PySem.W.KIN.call_text h1 h2 ⟨.int n, H, I.tok _, ⟨_, rfl⟩, q⟩

theorem call_isinst : CallR X (.builtin "isinstance") (fun xs H Q => ∃ x c t b, xs = [x, .ty c] ∧ TyOf X.K H x t ∧ PySem.W.kitOne X.K t (.type c) = some b ∧ Q (.bl b) H) := by
  intro pins s σ H xs us Q I r h
  obtain ⟨x, c, t, b, rfl, ty, hk, q⟩ := h
  obtain ⟨u, w', rfl, rx, rc⟩ := vals2 r
  cases (show w' = Value.type c from rc)
  exact isinst_ok I rx ty hk fun tk => ⟨.bl b, H, I.tok _, rfl, q⟩
theorem all_range (bs : List Bool) : (List.range bs.length).all (fun i => bs.getD i false) = bs.all id := by
  rw [Bool.eq_iff_iff, List.all_eq_true, List.all_eq_true]
  constructor
  · intro h b hb
    obtain ⟨i, hi, rfl⟩ := List.mem_iff_getElem.mp hb
    have := h i (List.mem_range.mpr hi)
    simpa [List.getD, hi] using this
  · intro h i hi
    have hi' := List.mem_range.mp hi
    have := h bs[i] (List.getElem_mem hi')
    simpa [List.getD, hi'] using this

theorem call_all : X.calm = true → CallR X (.builtin "all") (fun xs H Q => ∃ (p : Addr) (bs : List Bool), xs = [.ref p] ∧ SqL X.K H p (bs.map V.bl) ∧ Q (.bl (bs.all id)) H) := by
  intro hc pins s σ H xs us Q I r h
  obtain ⟨p, bs, rfl, hp, q⟩ := h
  obtain ⟨u, rfl, ru⟩ := vals1 r
  cases (show u = Value.ref p from ru)
  obtain ⟨its, rv, pl, hz⟩ := I.list hp
  have hlen := rv.length
  rw [List.length_map] at hlen
  have hne : p ≠ s.heap.objs.size := Nat.ne_of_lt pl.lt
  refine call_all_walk (wpAny_pyIter_list pl.isList ?_)
  have W := Walks.list (prog := X.prog) (w := X.w) (A := X.A.in1) (I.ok.hd hc) s.heap.objs.size p hne its.toArray
  refine ⟨s.heap.objs.size, _, _, _, _, _, fun i => bs.getD i false, rfl, W, ⟨⟨_, Heap.get?_push_size _ rfl, rfl, rfl⟩, pl.isList.push _⟩, ?_, fun h' tk hk => ?_⟩
  · intro i v s' Q' E' hv hq
    have hv' : its[i]? = some v := by simpa using hv
    have hi : i < bs.length := by rw [hlen]; exact (List.getElem?_eq_some_iff.mp hv').1
    have hb : (bs.map V.bl)[i]? = some (.bl bs[i]) := by simp [hi]
    obtain ⟨u', e1, r1⟩ := rv.get hb
    rw [hv'] at e1
    cases e1
    cases (show v = Value.bool bs[i] from r1)
    have e2 : bs.getD i false = bs[i] := by simp [List.getD, hi]
    have hq : Q' (bs.getD i false) s' := hq
    rw [e2] at hq
    exact wpAny_truthy_bool hq
  · have e : (List.range its.toArray.size).all (fun i => bs.getD i false) = bs.all id := by
      rw [List.size_toArray, ← hlen]
      exact all_range bs
    rw [e]
    exact ⟨.bl (bs.all id), H, I.kept fun b o q => hk b o (fun z => by
      have z' : b = s.heap.objs.size := by simpa using z
      rw [z'] at q
      exact absurd (Heap.lt_size q) (Nat.lt_irrefl _)) (Heap.get?_push_of_some _ q), rfl, q⟩
end


def litV : Expr → Option V
  | .Constant (.str x) _ _ => some (.str x)
  | .Constant (.int i) _ _ => some (.int i)
  | .Constant (.bool b) _ _ => some (.bl b)
  | .Constant .none _ _ => some .non
  | _ => none
def litsOf : List Expr → Option (List V)
  | [] => some []
  | e :: r => match litV e, litsOf r with
    | some v, some vs => some (v :: vs)
    | _, _ => none
theorem pe_lit {X : Cx} {e : Expr} {v : V} (h : litV e = some v) : PE X e (tC v) := by
  unfold litV at h
  split at h
  · cases h; exact pe_str
  · cases h; exact pe_int
  · cases h; exact pe_bl
  · cases h; exact pe_non
  · cases h
theorem star_lit {X : Cx} {e : Expr} {es : List Expr} {v : V} (h : litV e = some v) : starEach (e :: es) X.env = (false, eval e X.env) :: starEach es X.env := by
  unfold litV at h
  split at h <;> first | rfl | cases h
theorem pa_lits {X : Cx} : ∀ {es : List Expr} {vs : List V}, litsOf es = some vs → PA X es (fun _ H Q => Q vs H)
  | [], vs, h => by
    cases h
    exact pa_nil
  | e :: r, vs, h => by
    unfold litsOf at h
    split at h
    · rename_i v vs' h1 h2
      cases h
      exact pa_cons (pe_lit h1) (pa_lits h2) (star_lit h1)
    · cases h


theorem Same.tup {K : PySem.W.Frag} {H H' : Hp} {a : Addr} {xs : List V} (e : Same H H') (h : SqT K H a xs) : SqT K H' a xs := by
  rcases h with (h | ⟨o, h⟩) | h
  · exact .inl (.inl (e _ _ h))
  · exact .inl (.inr ⟨o, e _ _ h⟩)
  · exact .inr h
theorem Same.new {H : Hp} {p : Addr} {o : HO} (h : H p = none) : Same H (upd H p o) := fun b u e => by
  rw [upd_ne (ne_of_none e h)]
  exact e

theorem Same.upd {H H' : Hp} {p : Addr} {o : HO} (e : Same H H') (h : H p = none) : Same H (upd H' p o) := fun b u q => by
  rw [upd_ne (ne_of_none q h)]
  exact e b u q
end L2

set_option Elab.async false
set_option linter.all false
set_option maxRecDepth 100000
set_option maxHeartbeats 4000000
namespace L2
open PySem PySem.Spec PyProof.Rows


structure DefOk (K : PySem.W.Frag) (mg : Str → Option Value) (name : Str) (st : Stmt) (ps : List Str) (f : Addr) (fd : FuncData) : Prop where
  F : Fun K name name st f fd
  g : mg name = some (.ref f)
  b : Binds K fd ps []
section
variable {X : Cx} {k : Nat} {f : Addr} {fd : FuncData} {ps : List Str} {sp : Sp} {x : Str} {st : Stmt} {p pos : Pos} {e : Expr} {es : List Expr} {t : TA}
theorem callD (D : DefOk X.K X.mg x st ps f fd) (G : FnOk X.prog X.w X.K X.mg X.base CX0 k f fd ps sp) (hr : Room k X.A) (ha : PA X (e :: es) t) (hg : Gl X x := by rfl)
    (hdb : (x == ("__debug__" : Str)) = false := by decide) (he : starEach (e :: es) X.env = (false, eval e X.env) :: starEach es X.env := by rfl) (hpl : (backTo pos (starEach es X.env)).any (·.1) = false := by rfl) :
    PE X (.Call (.Name x p) (e :: es) [] pos) (tCall sp [] E0 t) := pe_call G hr hg D.g D.F.kp D.b .nil pass0 ha hdb he hpl
theorem callD0 (D : DefOk X.K X.mg x st ps f fd) (G : FnOk X.prog X.w X.K X.mg X.base CX0 k f fd ps sp) (hr : Room k X.A) (hg : Gl X x := by rfl)
    (hdb : (x == ("__debug__" : Str)) = false := by decide) : PE X (.Call (.Name x p) [] [] pos) (tCall sp [] E0 tNil) := pe_call0 G hr hg D.g D.F.kp D.b .nil pass0 hdb
theorem pe_gstr {z : Str} (h : ∃ t, X.mg x = some (.str z t)) (hg : Gl X x := by rfl) (hd : (x == ("__debug__" : Str)) = false := by decide) : PE X (.Name x pos) (tC (.str z)) := by
  obtain ⟨t, h⟩ := h
  exact pe_glob hg h ⟨t, rfl⟩ hd
theorem pe_gint {z : Int} (h : ∃ t, X.mg x = some (.int z t)) (hg : Gl X x := by rfl) (hd : (x == ("__debug__" : Str)) = false := by decide) : PE X (.Name x pos) (tC (.int z)) := by
  obtain ⟨t, h⟩ := h
  exact pe_glob hg h ⟨t, rfl⟩ hd
theorem pe_gtuple {a : Addr} (h : X.mg x = some (.ref a)) (hg : Gl X x := by rfl) (hd : (x == ("__debug__" : Str)) = false := by decide) : PE X (.Name x pos) (tC (.ref a)) := pe_glob hg h rfl hd
end
theorem defOk_mk {K : PySem.W.Frag} {mg : Str → Option Value} {h : Heap} {name : Str} {st : Stmt} {ps : List Str} {f : Addr} {oc : Value} {od an : Option Addr} {osl : Array (Option Value)} {kV doc pm cdv ct : Value} (X : K.In h) (G : h.Ns mainGlobals mg)
    (a : PySem.W.nsIn K mainGlobals name = some (some (.ref f))) (l : K.lookup f = some ⟨oc, od, .func (PySem.W.fnOf name name (defArgs st) (defBody st) (defScope st) .none kV doc pm an cdv ct), osl⟩) (c : PySem.W.codeIn K cdv name = true) (k : PySem.W.keepIn K (.ref f) = true)
    (b : ∀ (kV doc pm : Value) (an : Option Addr) (cdv ct : Value) (us : List Value), us.length = ps.length → bindArgs (PySem.W.fnOf name name (defArgs st) (defBody st) (defScope st) .none kV doc pm an cdv ct) ⟨us, []⟩ = pure (ps.zip us)) :
    DefOk K mg name st ps f (PySem.W.fnOf name name (defArgs st) (defBody st) (defScope st) .none kV doc pm an cdv ct) :=
  ⟨fun_mk l c k, PySem.W.mg_of X G a, (fun_mk l c k).binds b⟩


theorem atI_some {α : Type} {xs : List α} {i : Int} (h0 : 0 ≤ i) (h1 : i < xs.length) : ∃ v, atI xs i = some v ∧ v ∈ xs := by
  have hi : i.toNat < xs.length := by omega
  refine ⟨xs[i.toNat], ?_, List.getElem_mem hi⟩
  have := atI_nat (xs := xs) (j := i.toNat) (v := xs[i.toNat]) (by simp [hi])
  have e : ((i.toNat : Nat) : Int) = i := by omega
  rwa [e] at this
theorem at_ints {ns : List Int} {i : Int} (h0 : 0 ≤ i) (h1 : i < ns.length) : ∃ z, atI (ns.map V.int) i = some (.int z) := by
  obtain ⟨v, e, hv⟩ := atI_some (xs := ns.map V.int) h0 (by rw [List.length_map]; exact h1)
  obtain ⟨z, _, rfl⟩ := List.mem_map.mp hv
  exact ⟨z, e⟩
theorem dec_true {p : Prop} [Decidable p] (h : decide p = true) : p := of_decide_eq_true h
theorem dec_false {p : Prop} [Decidable p] (h : ¬ decide p = true) : ¬ p := fun q => h (decide_eq_true q)
end L2
namespace L2
open PySem PySem.Spec PyProof.Rows
theorem iteP {c A B : Prop} [Decidable c] (hc : c) (h : A) : if c then A else B := by
  rw [if_pos hc]
  exact h
theorem iteN {c A B : Prop} [Decidable c] (hc : ¬ c) (h : B) : if c then A else B := by
  rw [if_neg hc]
  exact h
theorem log_small {v : Int} (h0 : 0 ≤ v) (h : v < 2 ^ 60) : v.natAbs.log2 < 1920 := by
  by_cases e : v.natAbs = 0
  · rw [e]
    decide
  · rw [Nat.log2_lt e]
    refine Nat.lt_of_lt_of_le (m := 2 ^ 60) ?_ (Nat.pow_le_pow_right (by decide) (by decide))
    have : (2 : Int) ^ 60 = ((2 ^ 60 : Nat) : Int) := by decide
    omega
end L2
namespace L2
open PySem
theorem bt_len : bootBuiltins "len" = some (.builtin "len") := by decide +kernel
theorem bt_all : bootBuiltins "all" = some (.builtin "all") := by decide +kernel
theorem bt_isinstance : bootBuiltins "isinstance" = some (.builtin "isinstance") := by decide +kernel
theorem bt_min : bootBuiltins "min" = some (.builtin "min") := by decide +kernel
theorem bt_max : bootBuiltins "max" = some (.builtin "max") := by decide +kernel
theorem bt_str : bootBuiltins "str" = some (.type "str") := by decide +kernel
theorem bt_int : bootBuiltins "int" = some (.type "int") := by decide +kernel
theorem bt_bool : bootBuiltins "bool" = some (.type "bool") := by decide +kernel
theorem bt_list : bootBuiltins "list" = some (.type "list") := by decide +kernel
theorem bt_tuple : bootBuiltins "tuple" = some (.type "tuple") := by decide +kernel
theorem bt_enumerate : bootBuiltins "enumerate" = some (.type "enumerate") := by decide +kernel
theorem bt_zip : bootBuiltins "zip" = some (.type "zip") := by decide +kernel
end L2

set_option Elab.async false
set_option linter.all false
set_option maxRecDepth 100000
set_option maxHeartbeats 4000000
namespace K11
open PySem PySem.NumText L2

def inS (c : Nat) (S : Str) : Bool := !(Builtin.Str.occurrences S ⟨#[c]⟩ 0 S.length 1).isEmpty
def letters : Str := "abcdefghijklmnopqrstuvwxyz"
def figs : Str := "0123456789"
def taken : List Str := ["fn", "in", "new", "get", "put", "call", "out", "if", "while", "else", "end", "back"]
def allIn (w S : Str) : Bool := w.cps.toList.all fun c => inS c S
def within (w S : Str) : Bool := allIn w S && decide ((0 : Int) < w.length)
def isTaken (w : Str) : Bool := inV (.str w) (taken.map V.str)
def named (w : Str) : Bool := decide ((w.length : Int) < 9) && (within w letters && !isTaken w)
def madeOf (w S : Str) (most : Int) : Bool := !(decide ((w.length : Int) < 1) || decide (most < (w.length : Int))) && allIn w S
def first (w : Str) : Option Nat := w.cps.toList[0]?
def total (w : Str) : Int := w.cps.toList.foldl (fun acc c => acc * 10 + PySem.Txt.find figs ⟨#[c]⟩) 0
def lawVal (w : Str) : V := if within w figs = true ∧ ¬ (1 < w.length ∧ first w = some 48) ∧ total w < 2 ^ 48 then .int (total w) else .non
theorem inS_iff (c : Nat) (S : Str) : inS c S = decide (c ∈ S.cps.toList) := StrLaws.found_one S c
theorem len_cps (w : Str) : w.cps.toList.length = w.length := Array.length_toList
theorem fig_of {c : Nat} (h : inS c figs = true) : 48 ≤ c ∧ c ≤ 57 := by
  rw [inS_iff] at h
  have h : c ∈ figs.cps.toList := of_decide_eq_true h
  have e : figs.cps.toList = [48, 49, 50, 51, 52, 53, 54, 55, 56, 57] := by decide +kernel
  rw [e] at h
  simp at h
  omega
theorem find_fig {c : Nat} (h : 48 ≤ c ∧ c ≤ 57) : PySem.Txt.find figs ⟨#[c]⟩ = ((c - 48 : Nat) : Int) := by
  have : c = 48 ∨ c = 49 ∨ c = 50 ∨ c = 51 ∨ c = 52 ∨ c = 53 ∨ c = 54 ∨ c = 55 ∨ c = 56 ∨ c = 57 := by omega
  rcases this with e | e | e | e | e | e | e | e | e | e <;> subst e <;> decide +kernel
theorem name_eq (w : Str) : (madeOf w letters 8 && !isTaken w) = named w := by
  unfold madeOf named within
  by_cases h1 : (w.length : Int) < 1
  · have h2 : ¬ ((0 : Int) < w.length) := by omega
    rw [decide_eq_true h1, decide_eq_false h2]
    cases decide ((8 : Int) < (w.length : Int)) <;> cases allIn w letters <;> cases isTaken w <;> cases decide ((w.length : Int) < 9) <;> rfl
  · by_cases h3 : (8 : Int) < (w.length : Int)
    · have h4 : ¬ ((w.length : Int) < 9) := by omega
      rw [decide_eq_false h1, decide_eq_true h3, decide_eq_false h4]
      cases allIn w letters <;> cases isTaken w <;> rfl
    · have h4 : (w.length : Int) < 9 := by omega
      have h5 : (0 : Int) < w.length := by omega
      rw [decide_eq_false h1, decide_eq_false h3, decide_eq_true h4, decide_eq_true h5]
      cases allIn w letters <;> cases isTaken w <;> rfl
theorem digits_of_all {w : Str} (h : allIn w figs = true) : AllDigits w.cps.toList := fun c hc => fig_of (List.all_eq_true.mp h c hc)
theorem fold_digits : ∀ (cs : List Nat) (acc : Nat), (∀ c ∈ cs, 48 ≤ c ∧ c ≤ 57) → cs.foldl (fun (acc : Int) c => acc * 10 + PySem.Txt.find figs ⟨#[c]⟩) (acc : Int) = ((cs.foldl (fun acc c => acc * 10 + (c - 48)) acc : Nat) : Int)
  | [], acc, _ => rfl
  | c :: cs, acc, h => by
    rw [List.foldl_cons, List.foldl_cons, find_fig (h c List.mem_cons_self)]
    have := fold_digits cs (acc * 10 + (c - 48)) fun d hd => h d (List.mem_cons_of_mem _ hd)
    rw [← this]
    congr 1
theorem total_digits {w : Str} (h : allIn w figs = true) : total w = ((digitsVal w.cps.toList : Nat) : Int) := fold_digits _ 0 (digits_of_all h)
theorem fold_ge : ∀ (cs : List Nat) (acc : Nat), acc * 10 ^ cs.length ≤ cs.foldl (fun acc c => acc * 10 + (c - 48)) acc
  | [], acc => by simp
  | c :: cs, acc => by
    rw [List.foldl_cons, List.length_cons]
    refine Nat.le_trans ?_ (fold_ge cs _)
    rw [Nat.pow_succ, Nat.mul_comm (10 ^ cs.length) 10, ← Nat.mul_assoc]
    exact Nat.mul_le_mul_right _ (Nat.le_add_right _ _)
theorem big_of {w : Str} (h : allIn w figs = true) (hl : 15 < w.length) (h0 : first w ≠ some 48) : 2 ^ 48 ≤ total w := by
  rw [total_digits h]
  have hd := digits_of_all h
  have hlen := len_cps w
  unfold first at h0
  cases e : w.cps.toList with
  | nil => rw [e] at hlen; simp at hlen; omega
  | cons c cs =>
    rw [e] at hd h0 hlen
    have hc := hd c List.mem_cons_self
    have hc2 : c ≠ 48 := fun z => h0 (by simp [z])
    have h1 := fold_ge cs (0 * 10 + (c - 48))
    have h2 : (10 : Nat) ^ 15 ≤ 10 ^ cs.length := Nat.pow_le_pow_right (by decide) (by simp at hlen; omega)
    have h3 : 1 * 10 ^ cs.length ≤ (0 * 10 + (c - 48)) * 10 ^ cs.length := Nat.mul_le_mul_right _ (by omega)
    have h4 : (2 : Nat) ^ 48 ≤ 10 ^ 15 := by decide
    have h5 : (2 : Nat) ^ 48 ≤ digitsVal (c :: cs) := by
      show 2 ^ 48 ≤ List.foldl _ _ _
      rw [List.foldl_cons]
      omega
    have e2 : ((2 : Int) ^ 48) = (((2 : Nat) ^ 48 : Nat) : Int) := by decide
    rw [e2]
    exact Int.ofNat_le.mpr h5
theorem one_fig {w : Str} (h : w.length = 1) (h0 : first w = some 48) : w = ("0" : Str) := by
  have hlen := len_cps w
  unfold first at h0
  have e : w.cps.toList = [48] := by
    cases q : w.cps.toList with
    | nil => rw [q] at h0; cases h0
    | cons c cs =>
      rw [q] at h0 hlen
      simp at h0 hlen
      rw [h] at hlen
      have : cs = [] := List.length_eq_zero_iff.mp (by omega)
      rw [h0, this]
  have e2 : (("0" : Str)).cps.toList = [48] := by decide +kernel
  have : w.cps = ("0" : Str).cps := by
    apply Array.toList_inj.mp
    rw [e, e2]
  cases w
  cases hq : ("0" : Str)
  rw [hq] at this
  simp_all
theorem zero_len : (("0" : Str)).length = 1 := by decide +kernel
end K11
namespace K11
open PySem PySem.NumText L2
theorem within_pos {x S : Str} (e : within x S = true) : 0 < x.length := by
  unfold within at e
  rw [Bool.and_eq_true] at e
  have := of_decide_eq_true e.2
  omega
theorem first_at {x : Str} (h : 0 < x.length) : ∃ c, first x = some c ∧ atI x.cps.toList 0 = some c := by
  have h0 : 0 < x.cps.toList.length := by rw [len_cps]; exact h
  refine ⟨x.cps.toList[0], by unfold first; simp [h0], ?_⟩
  exact atI_nat (j := 0) (by simp [h0])
theorem zero_str : (⟨#[48]⟩ : Str) = ("0" : Str) := by decide +kernel
theorem str_zero {c : Nat} (h : (⟨#[c]⟩ : Str) = ("0" : Str)) : c = 48 := by
  rw [← zero_str] at h
  injection h with h
  simpa using h
theorem madeOf_true {x S : Str} {m : Int} (e : madeOf x S m = true) : allIn x S = true ∧ 0 < x.length ∧ (x.length : Int) ≤ m := by
  unfold madeOf at e
  rw [Bool.and_eq_true, Bool.not_eq_true', Bool.or_eq_false_iff] at e
  obtain ⟨⟨h1, h2⟩, h3⟩ := e
  have h1 := of_decide_eq_false h1
  have h2 := of_decide_eq_false h2
  exact ⟨h3, by omega, by omega⟩
theorem lawVal_not {x : Str} (e : madeOf x figs 15 = false) : lawVal x = .non := by
  unfold lawVal
  rw [if_neg]
  rintro ⟨h1, h2, h3⟩
  have hp := within_pos h1
  unfold within at h1
  rw [Bool.and_eq_true] at h1
  unfold madeOf at e
  rw [h1.1, Bool.and_true] at e
  have e : (decide ((x.length : Int) < 1) || decide ((15 : Int) < (x.length : Int))) = true := by
    cases h : (decide ((x.length : Int) < 1) || decide ((15 : Int) < (x.length : Int))) with
    | true => rfl
    | false =>
      rw [h] at e
      cases e
  rw [Bool.or_eq_true] at e
  rcases e with e | e
  · have := of_decide_eq_true e
    omega
  · have e := of_decide_eq_true e
    have h0 : first x ≠ some 48 := fun z => h2 ⟨by omega, z⟩
    have := big_of h1.1 (by omega) h0
    omega
theorem lawVal_cases (x : Str) : lawVal x = .non ∨ ∃ z, lawVal x = .int z := by
  unfold lawVal
  by_cases h : within x figs = true ∧ ¬ (1 < x.length ∧ first x = some 48) ∧ total x < 2 ^ 48
  · rw [if_pos h]
    exact .inr ⟨_, rfl⟩
  · rw [if_neg h]
    exact .inl rfl
end K11
namespace K11
open PySem PySem.NumText L2
def signs1 : Str := " !\"#$&'()*+,-./0123456789:;<=>?@ABCDEFGHIJKLMNOPQRSTUVWXYZ[\\]^_`"
def signs2 : Str := "abcdefghijklmnopqrstuvwxyz{|}~"
theorem signs_len : signs1.length + signs2.length ≤ sizeLine := by decide +kernel
theorem signs_94 : signs1.length + signs2.length = 94 := by decide +kernel
end K11

set_option Elab.async false
set_option linter.all false
set_option maxRecDepth 100000
set_option maxHeartbeats 4000000
namespace L2
open PySem PySem.Spec PyProof.Rows


mutual
def DatV (K : PySem.W.Frag) (H : Hp) : PyData → V → Prop
  | .none, v => v = .non
  | .bool b, v => v = .bl b
  | .int i, v => v = .int i
  | .str x, v => v = .str x
  | .list ds, v => ∃ a xs, v = .ref a ∧ SqL K H a xs ∧ DatAll K H ds xs
  | .tuple ds, v => ∃ a xs, v = .ref a ∧ SqT K H a xs ∧ DatAll K H ds xs
  | .dict _, _ => False
def DatAll (K : PySem.W.Frag) (H : Hp) : List PyData → List V → Prop
  | [], xs => xs = []
  | d :: ds, xs => ∃ x r, xs = x :: r ∧ DatV K H d x ∧ DatAll K H ds r
end
section
variable {X : Cx} {pins : List (Addr × Obj)} {σ : St} {H : Hp} {s : Shared}
end

section
variable {prog : Program} {w : World} {A : Around} {E : Value → Shared → Prop}
end

end L2
namespace L2
open PySem PySem.Spec PyProof.Rows
end L2

set_option Elab.async false
set_option linter.all false
set_option maxRecDepth 100000
namespace L2
open PySem PySem.Spec PyProof.Rows


section
variable {κ : Type} [DecidableEq κ]
def valV (kvs : List (κ × V)) (k : κ) : Option V := (kvs.find? fun kv => decide (kv.1 = k)).map (·.2)

def putK (kvs : List (κ × V)) (k : κ) (v : V) : List (κ × V) :=
  if (kvs.any fun kv => decide (kv.1 = k)) = true then kvs.map (fun kv => if kv.1 = k then (kv.1, v) else kv) else kvs ++ [(k, v)]
def dropK (kvs : List (κ × V)) (k : κ) : List (κ × V) := kvs.filter fun kv => decide (kv.1 ≠ k)

theorem valV_pos {p : κ × V} {r : List (κ × V)} {k : κ} (e : p.1 = k) : valV (p :: r) k = some p.2 := by simp [valV, List.find?_cons, e]
theorem valV_neg {p : κ × V} {r : List (κ × V)} {k : κ} (e : ¬ p.1 = k) : valV (p :: r) k = valV r k := by simp [valV, List.find?_cons, e]
theorem valV_any (k : κ) : ∀ kvs : List (κ × V), (kvs.any fun kv => decide (kv.1 = k)) = (valV kvs k).isSome
  | [] => rfl
  | p :: r => by
    rw [List.any_cons]
    by_cases e : p.1 = k
    · simp only [valV_pos e, decide_eq_true e, Bool.true_or, Option.isSome_some]
    · rw [valV_neg e, decide_eq_false e, Bool.false_or]; exact valV_any k r
theorem valV_map (k j : κ) (y : V) : ∀ kvs : List (κ × V), valV (kvs.map fun kv => if kv.1 = k then (kv.1, y) else kv) j = (valV kvs j).map fun x => if j = k then y else x
  | [] => rfl
  | p :: r => by
    have ih := valV_map k j y r
    rw [List.map_cons]
    by_cases h : p.1 = k
    · rw [if_pos h]
      by_cases e : p.1 = j
      · rw [valV_pos (p := (p.1, y)) e, valV_pos e, Option.map_some, if_pos (e.symm.trans h)]
      · rw [valV_neg (p := (p.1, y)) e, valV_neg e, ih]
    · rw [if_neg h]
      by_cases e : p.1 = j
      · rw [valV_pos (p := p) e, valV_pos e, Option.map_some, if_neg (fun z => h (e.trans z))]
      · rw [valV_neg (p := p) e, valV_neg e, ih]
theorem valV_snoc (k j : κ) (y : V) : ∀ kvs : List (κ × V), valV kvs k = none → valV (kvs ++ [(k, y)]) j = if j = k then some y else valV kvs j
  | [], _ => by
    by_cases e : k = j
    · rw [if_pos e.symm]; exact valV_pos (p := (k, y)) e
    · rw [if_neg (fun z => e z.symm)]; exact valV_neg (p := (k, y)) e
  | p :: r, hn => by
    rw [List.cons_append]
    have hk : ¬ p.1 = k := fun z => by rw [valV_pos z] at hn; cases hn
    rw [valV_neg hk] at hn
    have ih := valV_snoc k j y r hn
    by_cases e : p.1 = j
    · rw [valV_pos e, valV_pos e, if_neg (fun z => hk (e.trans z))]
    · rw [valV_neg e, valV_neg e, ih]
theorem valV_put (kvs : List (κ × V)) (k j : κ) (y : V) : valV (putK kvs k y) j = if j = k then some y else valV kvs j := by
  unfold putK
  by_cases a : (kvs.any fun kv => decide (kv.1 = k)) = true
  · rw [if_pos a, valV_map]
    rw [valV_any] at a
    by_cases e : j = k
    · obtain ⟨x, hx⟩ := Option.isSome_iff_exists.mp a
      rw [if_pos e, e, hx, Option.map_some, if_pos rfl]
    · rw [if_neg e]
      cases valV kvs j with
      | none => rfl
      | some x => rw [Option.map_some, if_neg e]
  · rw [if_neg a]
    refine valV_snoc k j y kvs ?_
    rw [valV_any] at a
    cases q : valV kvs k with
    | none => rfl
    | some x => rw [q] at a; exact (a rfl).elim
theorem length_putK (kvs : List (κ × V)) (k : κ) (v : V) : (putK kvs k v).length ≤ kvs.length + 1 := by
  unfold putK
  split
  · rw [List.length_map]; omega
  · rw [List.length_append, List.length_cons, List.length_nil]; omega
theorem RelO.isSome_eq {o : Option V} {u : Option Value} (r : RelO o u) : o.isSome = u.isSome := by
  cases o with
  | none => cases u with
    | none => rfl
    | some _ => exact (show False from r).elim
  | some _ => cases u with
    | none => exact (show False from r).elim
    | some _ => rfl
theorem RelO.getD {o : Option V} {u : Option Value} {d : V} {d' : Value} (r : RelO o u) (rd : RelV d d') : RelV (o.getD d) (u.getD d') := by
  cases o with
  | none => cases u with
    | none => exact rd
    | some _ => exact (show False from r).elim
  | some _ => cases u with
    | none => exact (show False from r).elim
    | some _ => exact r


theorem KV.val {kvs : List (κ × V)} {vs : List (κ × Value)} (r : KV kvs vs) (k : κ) : RelO (valV kvs k) (valueAt vs k) := by
  unfold KV at r
  induction r with
  | nil => exact True.intro
  | @cons p q ps qs h t ih =>
    obtain ⟨h1, h2⟩ := h
    by_cases e : p.1 = k
    · have e' : q.1 = k := h1.symm.trans e
      have b : valueAt (q :: qs) k = some q.2 := by simp [valueAt, List.find?_cons, e']
      rw [valV_pos e, b]; exact h2
    · have e' : ¬ q.1 = k := fun z => e (h1.trans z)
      have b : valueAt (q :: qs) k = valueAt qs k := by simp [valueAt, List.find?_cons, e']
      rw [valV_neg e, b]; exact ih
theorem KV.any {kvs : List (κ × V)} {vs : List (κ × Value)} (r : KV kvs vs) (k : κ) : (kvs.any fun kv => decide (kv.1 = k)) = vs.any fun kv => decide (kv.1 = k) := by
  unfold KV at r
  induction r with
  | nil => rfl
  | cons h t ih => rw [List.any_cons, List.any_cons, ih, h.1]
theorem KV.repl {kvs : List (κ × V)} {vs : List (κ × Value)} (r : KV kvs vs) (k : κ) {y : V} {u : Value} (ry : RelV y u) :
    KV (kvs.map fun kv => if kv.1 = k then (kv.1, y) else kv) (vs.map fun kv => if kv.1 = k then (kv.1, u) else kv) := by
  unfold KV at r ⊢
  induction r with
  | nil => exact .nil
  | @cons p q ps qs h t ih =>
    rw [List.map_cons, List.map_cons]
    refine .cons ?_ ih
    obtain ⟨h1, h2⟩ := h
    by_cases e : p.1 = k
    · rw [if_pos e, if_pos (h1.symm.trans e)]; exact ⟨h1, ry⟩
    · rw [if_neg e, if_neg (fun z => e (h1.trans z))]; exact ⟨h1, h2⟩
theorem KV.put {kvs : List (κ × V)} {vs : List (κ × Value)} (r : KV kvs vs) (k : κ) {y : V} {u : Value} (ry : RelV y u) : KV (putK kvs k y) (stored vs k u) := by
  unfold putK stored
  rw [r.any k]
  by_cases e : (vs.any fun kv => decide (kv.1 = k)) = true
  · rw [if_pos e, if_pos e]; exact r.repl k ry
  · rw [if_neg e, if_neg e]; exact Paired.snoc r ⟨rfl, ry⟩
theorem KV.drop {kvs : List (κ × V)} {vs : List (κ × Value)} (r : KV kvs vs) (k : κ) : KV (dropK kvs k) (without vs k) := by
  unfold KV at r ⊢
  unfold dropK without
  induction r with
  | nil => exact .nil
  | @cons p q ps qs h t ih =>
    obtain ⟨h1, h2⟩ := h
    rw [List.filter_cons, List.filter_cons]
    by_cases e : p.1 = k
    · have a : ¬ decide (p.1 ≠ k) = true := by simp [e]
      have b : ¬ decide (q.1 ≠ k) = true := by simp [h1.symm.trans e]
      rw [if_neg a, if_neg b]; exact ih
    · have e' : ¬ q.1 = k := fun z => e (h1.trans z)
      have a : decide (p.1 ≠ k) = true := by simp [e]
      have b : decide (q.1 ≠ k) = true := by simp [e']
      rw [if_pos a, if_pos b]; exact .cons ⟨h1, h2⟩ ih
theorem KV.length {kvs : List (κ × V)} {vs : List (κ × Value)} (r : KV kvs vs) : kvs.length = vs.length := Paired.length r
end



theorem kV_is {P : Program} {w : World} {k : Key} {u : Value} (r : RelV (kV k) u) : (mixKind P w).is k u = true := by
  cases k with
  | inl i => obtain ⟨t, e⟩ := (show ∃ t, u = Value.int i t from r); subst e; exact mixKind_int P w i t
  | inr x => obtain ⟨t, e⟩ := (show ∃ t, u = Value.str x t from r); subst e; exact mixKind_str P w x t
theorem items_are {P : Program} {w : World} : ∀ {ks : List Key} {us : List Value}, Vals (ks.map kV) us → ItemsAre (mixKind P w) ks us
  | [], _, r => by rw [List.map_nil] at r; cases r; exact .nil
  | k :: ks, _, r => by
    rw [List.map_cons] at r
    cases r with
    | cons h t => exact .cons (kV_is h) (items_are t)


abbrev KT (H : Hp) : List (List Key × V) → List (List Key × Addr × Value) → Prop := Paired fun p q => p.1 = q.1 ∧ H q.2.1 = some (.tup (p.1.map kV)) ∧ RelV p.2 q.2.2
theorem KT.val {H : Hp} {kvs : List (List Key × V)} {xs : List (List Key × Addr × Value)} (r : KT H kvs xs) (k : List Key) : RelO (valV kvs k) ((atKey xs k).map (·.2)) := by
  induction r with
  | nil => exact True.intro
  | @cons p q ps qs h t ih =>
    obtain ⟨h1, _, h2⟩ := h
    by_cases e : p.1 = k
    · have e' : q.1 = k := h1.symm.trans e
      have b : atKey (q :: qs) k = some q.2 := by simp [atKey, List.find?_cons, e']
      rw [valV_pos e, b]; exact h2
    · have e' : ¬ q.1 = k := fun z => e (h1.trans z)
      have b : atKey (q :: qs) k = atKey qs k := by simp [atKey, List.find?_cons, e']
      rw [valV_neg e, b]; exact ih
theorem KT.repl {H : Hp} {kvs : List (List Key × V)} {xs : List (List Key × Addr × Value)} (r : KT H kvs xs) (k : List Key) {y : V} {u : Value} (ry : RelV y u) :
    KT H (kvs.map fun kv => if kv.1 = k then (kv.1, y) else kv) (xs.map (putAt k u)) := by
  induction r with
  | nil => exact .nil
  | @cons p q ps qs h t ih =>
    rw [List.map_cons, List.map_cons]
    refine .cons ?_ ih
    obtain ⟨h1, h2, h3⟩ := h
    unfold putAt
    by_cases e : p.1 = k
    · rw [if_pos e, if_pos (h1.symm.trans e)]; exact ⟨h1, h2, ry⟩
    · rw [if_neg e, if_neg (fun z => e (h1.trans z))]; exact ⟨h1, h2, h3⟩
theorem KT.put {H : Hp} {kvs : List (List Key × V)} {xs : List (List Key × Addr × Value)} (r : KT H kvs xs) (k : List Key) {b : Addr} {y : V} {u : Value} (hb : H b = some (.tup (k.map kV))) (ry : RelV y u) :
    KT H (putK kvs k y) (storedH xs k b u) := by
  have e : (kvs.any fun kv => decide (kv.1 = k)) = (atKey xs k).isSome := by
    rw [valV_any, (r.val k).isSome_eq, Option.isSome_map]
  unfold putK storedH
  rw [e]
  by_cases q : (atKey xs k).isSome = true
  · rw [if_pos q, if_pos q]; exact r.repl k ry
  · rw [if_neg q, if_neg q]; exact Paired.snoc r ⟨rfl, hb, ry⟩
theorem KT.keeps {H H' : Hp} {kvs : List (List Key × V)} {xs : List (List Key × Addr × Value)} (r : KT H kvs xs) (ht : ∀ b ys, H b = some (.tup ys) → H' b = some (.tup ys)) : KT H' kvs xs :=
  Paired.mapP r fun _ _ z => ⟨z.1, ht _ _ z.2.1, z.2.2⟩

section
variable {P : Program} {w : World} {H : Hp} {h : Heap} {a : Addr}
theorem rd_of {u : HO} (ok : HOk P w H h) (e : Rd H a u) : ObjOk P w H h a u := e.ok ok
theorem dk_rd {kvs : List (Key × V)} (ok : HOk P w H h) (e : Rd H a (.dK kvs)) : kvs.length ≤ sizeLine ∧ (a == sysModules) = false ∧ ∃ vs, KV kvs vs ∧ h.DictOf (mixKind P w) a vs :=
  show ObjOk P w H h a (.dK kvs) from rd_of ok e
theorem dk_of {kvs : List (Key × V)} (ok : HOk P w H h) (e : H a = some (.dK kvs)) : kvs.length ≤ sizeLine ∧ (a == sysModules) = false ∧ ∃ vs, KV kvs vs ∧ h.DictOf (mixKind P w) a vs := dk_rd ok (.inl e)

theorem key_of {ks : List Key} (ok : HOk P w H h) (e : H a = some (.tup (ks.map kV))) : (tupleKind (mixKind P w)).is h ks a := by
  obtain ⟨_, its, r, o, h1, h2, n, h3⟩ := (show ObjOk P w H h a (.tup (ks.map kV)) from ok a _ e)
  exact ⟨o, its.toArray, n, h1, h2, h3, by simpa using items_are r⟩
theorem dt_rd {kvs : List (List Key × V)} (ok : HOk P w H h) (e : Rd H a (.dT kvs)) : kvs.length ≤ sizeLine ∧ (a == sysModules) = false ∧
    ∃ xs, KT H kvs xs ∧ h.DictOfH (tupleKind (mixKind P w)) a xs := by
  obtain ⟨z, y, xs, r, o, es, ep, h1, h2, h3, h4, h5⟩ := (show ObjOk P w H h a (.dT kvs) from rd_of ok e)
  refine ⟨z, y, xs, r, o, es, ep, h1, h2, h3, h4, fun x hx => ?_, h5⟩
  have all : ∀ {l : List (List Key × V)} {m : List (List Key × Addr × Value)}, KT H l m → ∀ x ∈ m, (tupleKind (mixKind P w)).is h x.1 x.2.1 := by
    intro l m q
    induction q with
    | nil => intro x hx; exact nomatch hx
    | @cons p q ps qs hq t ih =>
      intro x hx
      rcases List.mem_cons.mp hx with e | hx
      · subst e
        exact key_of ok (by rw [← hq.1]; exact hq.2.1)
      · exact ih x hx
  exact all r x hx
theorem dt_of {kvs : List (List Key × V)} (ok : HOk P w H h) (e : H a = some (.dT kvs)) : kvs.length ≤ sizeLine ∧ (a == sysModules) = false ∧
    ∃ xs, KT H kvs xs ∧ h.DictOfH (tupleKind (mixKind P w)) a xs := dt_rd ok (.inl e)
end


def DGet (H : Hp) (a : Addr) (y : V) (r : Option V) : Prop :=
  (∃ kvs k, Rd H a (.dK kvs) ∧ y = kV k ∧ r = valV kvs k) ∨ ∃ kvs k b, Rd H a (.dT kvs) ∧ y = .ref b ∧ H b = some (.tup (k.map kV)) ∧ r = valV kvs k

def DPut (H : Hp) (a : Addr) (y v : V) (H' : Hp) : Prop :=
  (∃ kvs k, H a = some (.dK kvs) ∧ y = kV k ∧ kvs.length < sizeLine ∧ H' = upd H a (.dK (putK kvs k v))) ∨
  ∃ kvs k b, H a = some (.dT kvs) ∧ y = .ref b ∧ H b = some (.tup (k.map kV)) ∧ kvs.length < sizeLine ∧ H' = upd H a (.dT (putK kvs k v))
theorem DGet.k {H : Hp} {a : Addr} {kvs : List (Key × V)} {k : Key} (e : H a = some (.dK kvs)) : DGet H a (kV k) (valV kvs k) := .inl ⟨kvs, k, .inl e, rfl, rfl⟩
theorem DGet.t {H : Hp} {a b : Addr} {kvs : List (List Key × V)} {k : List Key} (e : H a = some (.dT kvs)) (eb : H b = some (.tup (k.map kV))) : DGet H a (.ref b) (valV kvs k) := .inr ⟨kvs, k, b, .inl e, rfl, eb, rfl⟩
theorem DPut.k {H : Hp} {a : Addr} {kvs : List (Key × V)} {k : Key} {v : V} (e : H a = some (.dK kvs)) (hl : kvs.length < sizeLine) : DPut H a (kV k) v (upd H a (.dK (putK kvs k v))) := .inl ⟨kvs, k, e, rfl, hl, rfl⟩
theorem DPut.t {H : Hp} {a b : Addr} {kvs : List (List Key × V)} {k : List Key} {v : V} (e : H a = some (.dT kvs)) (eb : H b = some (.tup (k.map kV))) (hl : kvs.length < sizeLine) :
    DPut H a (.ref b) v (upd H a (.dT (putK kvs k v))) := .inr ⟨kvs, k, b, e, rfl, eb, hl, rfl⟩


section
variable {X : Cx} {pins : List (Addr × Obj)} {σ : St} {H : Hp} {s : Shared} {a : Addr} {y v : V} {u r : Value} {o : Option V} {A : Around} {E : Value → Shared → Prop}

theorem Inv.big (I : Inv X pins σ H s) : sysModules < s.heap.objs.size := by
  have h : mainGlobals < s.heap.objs.size := (I.mod.glob.keeps I.bk).lt
  exact Nat.lt_trans (by decide) h


theorem d_getItem {Q : Value → Shared → Prop} (hu : A.units + 1 < cLine) (I : Inv X pins σ H s) (g : DGet H a y (some v)) (ry : RelV y u) (h : ∀ w' s', Inv X pins σ H s' → RelV v w' → Q w' s') :
    wpAny (model X.prog X.w) A (getItem (.ref a) u) Q E s := by
  rcases g with ⟨kvs, k, e, ey, l⟩ | ⟨kvs, k, b, e, ey, eb, l⟩
  · subst ey
    obtain ⟨z, hd, vs, rel, dd⟩ := dk_rd I.hok e
    obtain ⟨w', hw, rw'⟩ := RelO.some_of (v := v) (o := valueAt vs k) (by rw [l]; exact rel.val k)
    exact wpAny_getItem_of (kV_is ry) dd.mapOf hw (h w' _ (I.tok _) rw')
  · subst ey
    cases (show u = Value.ref b from ry)
    obtain ⟨z, hd, xs, rel, dd⟩ := dt_rd I.hok e
    obtain ⟨w', hw, rw'⟩ := RelO.some_of (v := v) (o := (atKey xs k).map (·.2)) (by rw [l]; exact rel.val k)
    obtain ⟨p, hp, hp2⟩ := Option.map_eq_some_iff.mp hw
    refine wpAny_getItem_heap (tupleKind_room_in1 hu) (key_of I.hok eb) dd hp ?_
    rw [hp2]
    exact h w' _ (I.tok _) rw'

theorem d_write {h' : Heap} {t' : Nat} {ob : HO} (I : Inv X pins σ H s) (mu : Mut (H a)) (hs : Heap.SameBut a s.heap h') (he : ∃ q, h'.get? a = some q) (new : ObjOk X.prog X.w (upd H a ob) h' a ob) :
    Inv X pins σ (upd H a ob) { s with heap := h', toks := t' } :=
  I.write (x := a) (e := a) mu (.inl rfl) (fun b q hb z => (hs.2 b hb).trans z) he new
theorem dk_new {P : Program} {w : World} {H' : Hp} {h' : Heap} {kvs : List (Key × V)} {vs : List (Key × Value)} (z : kvs.length ≤ sizeLine) (hd : (a == sysModules) = false) (rel : KV kvs vs) (dd : h'.DictOf (mixKind P w) a vs) :
    ObjOk P w H' h' a (.dK kvs) := ⟨z, hd, vs, rel, dd⟩

theorem d_setItem {H' : Hp} {Q : Unit → Shared → Prop} (hu : A.units + 1 < cLine) (I : Inv X pins σ H s) (g : DPut H a y v H') (ry : RelV y u) (rv : RelV v r) (h : ∀ s', Inv X pins σ H' s' → Q () s') :
    wpAny (model X.prog X.w) A (setItem (.ref a) u r) Q E s := by
  rcases g with ⟨kvs, k, e, ey, l, eH⟩ | ⟨kvs, k, b, e, ey, eb, l, eH⟩
  · subst ey eH
    obtain ⟨z, hd, vs, rel, dd⟩ := dk_of I.hok e
    have hz : vs.length ≤ sizeLine := by rw [← rel.length]; exact z
    have hl : (putK kvs k v).length ≤ sizeLine := by have := length_putK kvs k v; omega
    refine wpAny_setItem_pairs (hsz := hz) (kV_is ry) dd fun h' dd' hs => h _ ?_
    have he : ∃ q, h'.get? a = some q := let ⟨q, _, _, hq, _⟩ := dd'; ⟨q, hq⟩
    exact d_write I (by rw [e]; exact True.intro) hs he (dk_new hl hd (rel.put k rv) dd')
  · subst ey eH
    cases (show u = Value.ref b from ry)
    obtain ⟨z, hd, xs, rel, dd⟩ := dt_of I.hok e
    have hz : xs.length ≤ sizeLine := by rw [← Paired.length rel]; exact z
    have hl : (putK kvs k v).length ≤ sizeLine := by have := length_putK kvs k v; omega
    refine wpAny_setItem_heap (hsz := hz) (tupleKind_room_in1 hu) (key_of I.hok eb) dd fun h' dd' hs => h _ ?_
    obtain ⟨q, es, ep, hq, h2, h3, h4, _, h5⟩ := dd'
    refine d_write I (by rw [e]; exact True.intro) hs ⟨q, hq⟩ ⟨hl, hd, _, (rel.put k eb rv).keeps fun c ys ec => ?_, q, es, ep, hq, h2, h3, h4, h5⟩
    rw [upd_ne (ne_of ec e (fun z => nomatch z))]
    exact ec
end

section
variable {X : Cx} {pins : List (Addr × Obj)} {σ : St} {H : Hp} {s : Shared} {a : Addr} {kvs : List (Key × V)} {k : Key} {u : Value} {A : Around} {E : Value → Shared → Prop}

end




def NoSl (i : Expr) : Prop := ∀ ov iv, subscripted i false ov iv = operate [ov, iv] (getItem ov iv)
theorem subD_of {prog : Program} {w : World} {A : Around} {E : Value → Shared → Prop} {s : Shared} {env : Env} {value slice : Expr} {pos : Pos} {T id : String} {Q : Value → Shared → Prop}
    (hl : typeLookup (.type T) "__getitem__" = pure (some (.builtin id))) (hs : NoSl slice)
    (h : wpAny (model prog w) A (eval value env) (fun o s₁ => wpAny (model prog w) A (eval slice env) (fun i s₂ => s₂.TypeIs o T ∧ wpAny (model prog w) A (getItem o i) Q E s₂) E s₁) E s) :
    wpAny (model prog w) A (eval (.Subscript value slice pos) env) Q E s := by
  refine Subscript_ (wpAny_mono h (fun o s₁ h₁ => wpAny_mono h₁ (fun i s₂ h₂ => ?_) fun _ _ x => x) fun _ _ x => x)
  obtain ⟨hT, h₂⟩ := h₂
  unfold subscriptTail
  refine wpAny_bind ?_
  rw [getitemInPython_of_ne hT.not_modules]
  refine wpAny_bind (wpAny_specialOf hT hl ?_)
  have fin : wpAny (model prog w) A (subscripted slice false o i) (fun r s₃ => wpAny (model prog w) A (letTemporaryGo value o r >>= fun _ => pure r) Q E s₃) E s₂ := by
    rw [hs o i]
    exact wpAny_operating (wpAny_mono h₂ (fun r s₃ h₃ => wpAny_bind (wpAny_letTemporaryGo (wpAny_pure h₃))) fun _ _ x => x)
  first
    | exact wpAny_pure (wpAny_bind fin)
    | exact wpAny_bind (wpAny_pure (wpAny_bind fin))
    | exact wpAny_bind fin

theorem dict_typeIs {X : Cx} {pins : List (Addr × Obj)} {σ : St} {H : Hp} {s : Shared} {a : Addr} {y : V} {o : Option V} (I : Inv X pins σ H s) (g : DGet H a y o) : s.TypeIs (.ref a) "dict" := by
  rcases g with ⟨kvs, k, e, _, _⟩ | ⟨kvs, k, b, e, _, _, _⟩
  · obtain ⟨_, _, vs, _, dd⟩ := dk_rd I.hok e
    exact dd.typeIs
  · obtain ⟨_, _, xs, _, dd⟩ := dt_rd I.hok e
    exact dd.typeIs
def tDGet (td ty : TE) : TE := fun σ H Q => td σ H fun x H1 => ty σ H1 fun y H2 => ∃ a v, x = .ref a ∧ DGet H2 a y (some v) ∧ Q v H2

def sDPut (td ty tv : TE) : TS := fun D σ H => tv σ H fun v H1 => td σ H1 fun x H2 => ty σ H2 fun y H3 => ∃ a H4, x = .ref a ∧ DPut H3 a y v H4 ∧ D.nx σ H4

section
variable {X : Cx} {o i e value : Expr} {pos pos' tpos : Pos} {td ty tv : TE}
theorem pe_dget (hu : X.A.units + 1 < cLine) (ho : PE X o td) (hi : PE X i ty) (hs : NoSl i) : PE X (.Subscript o i pos) (tDGet td ty) := by
  intro pins s σ H Q I h
  refine subD_of PySem.F.slot_dict_getitem.lookup hs (thn (ho pins s σ H _ I h) fun u s1 ⟨x, H1, I1, rx, q1⟩ => thn (hi pins s1 σ H1 _ I1 q1) fun iv s2 ⟨y, H2, I2, ry, a, v, ex, g, q2⟩ => ?_)
  subst ex
  obtain rfl : u = Value.ref a := rx
  exact ⟨dict_typeIs I2 g, d_getItem hu I2 g ry fun w' s3 I3 rw' => ⟨v, H2, I3, rw', q2⟩⟩
theorem ps_dput (hu : X.A.units + 1 < cLine) (ho : PE X o td) (hi : PE X i ty) (hv : PE X value tv) (hs : swapsWith value (some (.Subscript o i pos')) pos.line X.env = pure false) :
    PS X (.Assign [.Subscript o i pos'] value pos) (sDPut td ty tv) := by
  intro pins s σ H D I h
  refine wpAny_Assign_Subscript (thn (hv pins s σ H _ I h) fun r s1 ⟨v, H1, I1, rv, q1⟩ => thn (ho pins s1 σ H1 _ I1 q1) fun u s2 ⟨x, H2, I2, rx, q2⟩ => thn (hi pins s2 σ H2 _ I2 q2) fun iv s3 ⟨y, H3, I3, ry, a, H4, ex, g, q3⟩ => ?_) hs
  subst ex
  obtain rfl : u = Value.ref a := rx
  exact d_setItem hu I3 g ry rv fun s4 I4 => ⟨σ, H4, I4, q3⟩
end



theorem dk_empty {P : Program} {w : World} {H : Hp} (h : Heap) (hb : sysModules < h.objs.size) : ObjOk P w H (h.push { cls := .type "dict", data := .dict #[] }) h.objs.size (.dK []) :=
  ⟨Nat.zero_le _, beq_eq_false_iff_ne.mpr (Ne.symm (Nat.ne_of_lt hb)), [], .nil, Heap.DictOf.new h⟩
def tDNewK : TE := fun _ H Q => ∀ p, H p = none → Q (.ref p) (upd H p (.dK []))
section
variable {X : Cx} {pos : Pos}
theorem pe_dnewK : PE X (.Dict [] [] pos) tDNewK := fun pins s σ H Q I h =>
  wpAny_Dict_empty ⟨.ref s.heap.objs.size, _, I.laid (a := s.heap.objs.size) (o := .dK []) (t' := s.toks) (fun _ _ q => Heap.get?_push_of_some _ q) (Nat.le_refl _) (dk_empty s.heap I.big), rfl, h _ (I.hok.fresh (Nat.le_refl _))⟩
end


abbrev VV : List (V × V) → List (Value × Value) → Prop := Paired fun p q => RelV p.1 q.1 ∧ RelV p.2 q.2
section
variable {X : Cx} {pins : List (Addr × Obj)} {σ : St} {H : Hp} {s : Shared} {a : Addr} {y d : V} {u r : Value} {o : Option V} {A : Around} {E : Value → Shared → Prop}

end

section
variable {X : Cx} {o e f : Expr} {apos cpos : Pos} {td ty tx : TE}
end


section
variable {X : Cx} {pins : List (Addr × Obj)} {σ : St} {H : Hp} {s : Shared} {a : Addr} {kvs : List (Key × V)} {A : Around} {E : Value → Shared → Prop}
end


section
variable {X : Cx} {pins : List (Addr × Obj)} {σ : St} {H : Hp} {s : Shared} {a : Addr} {y : V} {u : Value} {A : Around} {E : Value → Shared → Prop}

end
end L2

set_option Elab.async false
set_option linter.all false
set_option maxRecDepth 100000
set_option maxHeartbeats 4000000
namespace PySem
end PySem
namespace L2
open PySem PySem.Spec PyProof.Rows
section
variable {X : Cx} {pins : List (Addr × Obj)} {σ : St} {H : Hp}
end
end L2

set_option Elab.async false
set_option linter.all false
set_option maxRecDepth 100000
set_option maxHeartbeats 4000000
namespace L2
open PySem PySem.Spec PyProof.Rows
section
variable {X : Cx}

end
end L2

set_option Elab.async false
set_option linter.all false
set_option maxRecDepth 100000
set_option maxHeartbeats 4000000
namespace L2
open PySem PySem.Spec PyProof.Rows PySem.W
section
variable {prog : Program} {w : World} {A : Around} {E : Value → Shared → Prop} {s : Shared} {δ : Type} {R : δ → Value → Prop} {a : Addr} {D : List (Str × δ)} {k : Str} {tk : Tok} {d : δ}
theorem tab_typeIs (T : KTD.TabOf R s.heap a D) : s.TypeIs (.ref a) "dict" := let ⟨_, o, _, _, ho, hc, _⟩ := T; ⟨o, ho, hc.1⟩
theorem getItem_tab {Q : Value → Shared → Prop} (T : KTD.TabOf R s.heap a D) (hd : KTD.datumAt k D = some d) (h : ∀ v, R d v → Q v { s with toks := s.toks + 1 }) :
    wpAny (model prog w) A (getItem (.ref a) (.str k tk)) Q E s := by
  have ty := tab_typeIs T
  obtain ⟨_, o, es, ep, ho, hc, hdt, hr⟩ := T
  unfold getItem
  try with_reducible refine wpAny_holding ?_
  refine wpAny_bind (wpAny_sequenceKey ty (by decide) ?_)
  refine wpAny_bind (wpAny_callSpecial?_slot (name := Str.ofString "__getitem__") ty slot_dict_getitem
    (wpAny_call_entry slot_dict_getitem ty entry_dict_getitem ?_ (args_dict_getitem _ _)))
  show wpAny _ _ (dictGet a (.str k tk) >>= _) _ _ s
  refine wpAny_bind ?_
  unfold dictGet
  try with_reducible refine wpAny_holding ?_
  refine wpAny_bind (wpAny_pyHash_str (wpAny_bind (KTD.kt_dictFind_strs (s := { s with toks := s.toks + 1 }) ho hdt (by obtain ⟨l⟩ := es; simpa using hr.exact) ?_)))
  have hq : ∃ v, findBy (fun k v => v.isStr k) es k = some v ∧ R d v := by
    have hf : findBy (fun k v => v.isStr k) es k = (es.toList.find? fun e => e.key.isStr k).map (·.val) := by
      obtain ⟨l⟩ := es
      simp [findBy]
    rw [hf]
    exact hr.find_some hd
  obtain ⟨v, hv, hR⟩ := hq
  rw [findBy_of_findIdx?] at hv
  cases hi : es.findIdx? fun e => e.key.isStr k with
  | none => rw [hi] at hv; cases hv
  | some i =>
    rw [hi] at hv
    have hv : es[i]?.map (·.val) = some v := hv
    refine wpAny_bind (wpAny_dictEntries (s := { s with toks := s.toks + 1 }) ho hdt (wpAny_pure ?_))
    show wpAny _ _ _ _ _ _
    rw [hv]
    exact wpAny_pure ⟨v, rfl, wpAny_pure (h v hR)⟩
end

end L2

set_option Elab.async false
set_option linter.all false
set_option maxRecDepth 100000
set_option maxHeartbeats 4000000
namespace L2
open PySem PySem.Spec PyProof.Rows

def relLook : V → Value → Bool
  | .non, .none => true
  | .bl b, .bool c => b == c
  | .int i, .int j _ => i == j
  | .str x, .str y _ => x == y
  | _, _ => false
theorem rel_of_look : ∀ {x : V} {v : Value}, relLook x v = true → RelV x v := by
  intro x v h
  unfold relLook at h
  split at h
  · rfl
  · obtain rfl := beq_iff_eq.mp h; rfl
  · obtain rfl := beq_iff_eq.mp h; exact ⟨_, rfl⟩
  · obtain rfl := beq_iff_eq.mp h; exact ⟨_, rfl⟩
  · cases h
def relsLook : List V → List Value → Bool
  | [], [] => true
  | x :: xs, v :: vs => relLook x v && relsLook xs vs
  | _, _ => false
theorem rels_of_look : ∀ {xs : List V} {vs : List Value}, relsLook xs vs = true → Vals xs vs
  | [], [], _ => .nil
  | x :: xs, v :: vs, h => by
    simp only [relsLook, Bool.and_eq_true] at h
    exact .cons (rel_of_look h.1) (rels_of_look h.2)
  | [], _ :: _, h => by simp [relsLook] at h
  | _ :: _, [], h => by simp [relsLook] at h
def tupLook (K : PySem.W.Frag) (xs : List V) (v : Value) : Bool := match v with
  | .ref a => match K.lookup a with
    | some o => o.cls == .type "tuple" && (match o.data with | .seq its _ => decide (its.size ≤ sizeLine) && relsLook xs its.toList | _ => false)
    | none => false
  | _ => false
theorem tup_of_look {K : PySem.W.Frag} (xs : List V) (v : Value) (h : tupLook K xs v = true) : ∃ a, v = .ref a ∧ ∀ H : Hp, SqT K H a xs := by
  unfold tupLook at h
  split at h
  · rename_i a
    split at h
    · rename_i o ho
      rw [Bool.and_eq_true] at h
      obtain ⟨h1, h2⟩ := h
      split at h2
      · rename_i its n hd
        rw [Bool.and_eq_true] at h2
        exact ⟨a, rfl, fun H => .inr ⟨o, its, n, ho, beq_iff_eq.mp h1, hd, of_decide_eq_true h2.1, rels_of_look h2.2⟩⟩
      · cases h2
    · cases h
  · cases h
end L2
namespace L2
open PySem

def isLitL : Expr → Option (List V)
  | .List es _ => litsOf es
  | _ => none
def isLitT : Expr → Option (List V)
  | .Tuple es _ _ => litsOf es
  | _ => none
theorem pe_litL {X : Cx} {e : Expr} {vs : List V} (h : isLitL e = some vs) : PE X e (tLst fun _ H Q => Q vs H) := by
  unfold isLitL at h
  split at h
  · exact pe_lst (pa_lits h)
  · cases h
theorem pe_litT {X : Cx} {e : Expr} {vs : List V} (h : isLitT e = some vs) : PE X e (tTup fun _ H Q => Q vs H) := by
  unfold isLitT at h
  split at h
  · exact pe_tup (pa_lits h)
  · cases h
end L2

set_option Elab.async false
set_option linter.all false
set_option maxRecDepth 100000
set_option maxHeartbeats 4000000
namespace L2
open PySem PySem.Spec PyProof.Rows

section
variable {prog : Program} {w : World} {A : Around} {E : Value → Shared → Prop} {s : Shared}
theorem gx_nextOf_tup {it t : Addr} {i : Nat} {items : Array Value} {x : Value} {Q : Value → Shared → Prop} (hit : s.heap.IsTupleIter it t i) (ht : s.heap.IsTuple t items) (hx : items[i]? = some x)
    (hQ : ∀ h', h'.IsTupleIter it t (i + 1) → Heap.SameBut it s.heap h' → Q x { s with heap := h' }) : wpAny (model prog w) A (Builtin.SmallTypes.nextOf (.ref it)) Q E s := by
  obtain ⟨⟨o, ho, hc, hd⟩, ⟨ol, hol, _, nl, hdl⟩⟩ := (⟨id hit, ht⟩ : _ ∧ _)
  unfold Builtin.SmallTypes.nextOf; refine wpAny_bind (wpAny_callSpecial?_slot (name := Str.ofString "__next__") hit.typeIs F.slot_tuple_iterator_next (wpAny_call_entry F.slot_tuple_iterator_next hit.typeIs F.entry_tuple_iterator_next ?_ (F.args_tuple_iterator_next_1 _)))
  show wpAny (model prog w) _ (field (.ref it) 0 >>= _) _ _ s; refine wpAny_bind (wpAny_field ho hd (x := .ref t) rfl ?_)
  show wpAny (model prog w) _ (if (Value.ref t == Value.none) = true then _ else _) _ _ s; rw [if_neg (by exact Bool.false_ne_true)]
  show wpAny (model prog w) _ (field (.ref it) 1 >>= _) _ _ s; refine wpAny_bind (wpAny_field ho hd (x := .int i 0) rfl ?_)
  show wpAny (model prog w) _ (seqItems? (.ref t) >>= _) _ _ s; refine wpAny_bind (wpAny_seqItems hol hdl ?_); simp only [Int.toNat_natCast, hx]
  refine wpAny_bind (wpAny_setField ho hd (by simp) (wpAny_pure ⟨x, rfl, wpAny_pure (hQ _ ⟨_, Heap.get?_update_self _ ho (Obj.isFreed_of_fields (Obj.data_mapFields hd _)), (Obj.cls_mapFields ..).trans hc, by rw [Obj.data_mapFields hd]; simp [rawInt]⟩ (Heap.SameBut.update ..))⟩))
theorem gx_nextOf_tup_end {it t : Addr} {i : Nat} {items : Array Value} {Q : Value → Shared → Prop} (hh : A.handled = none) (hit : s.heap.IsTupleIter it t i) (ht : s.heap.IsTuple t items) (hx : items[i]? = none)
    (hE : ∀ h' e, Heap.ExtBut it s.heap h' → (∃ o, h'.get? e = some o ∧ o.cls = .type "StopIteration") → E (.ref e) { s with heap := h' }) : wpAny (model prog w) A (Builtin.SmallTypes.nextOf (.ref it)) Q E s := by
  obtain ⟨⟨o, ho, hc, hd⟩, ⟨ol, hol, _, nl, hdl⟩⟩ := (⟨id hit, ht⟩ : _ ∧ _)
  unfold Builtin.SmallTypes.nextOf; refine wpAny_bind (wpAny_callSpecial?_slot (name := Str.ofString "__next__") hit.typeIs F.slot_tuple_iterator_next (wpAny_call_entry F.slot_tuple_iterator_next hit.typeIs F.entry_tuple_iterator_next ?_ (F.args_tuple_iterator_next_1 _)))
  show wpAny (model prog w) _ (field (.ref it) 0 >>= _) _ _ s; refine wpAny_bind (wpAny_field ho hd (x := .ref t) rfl ?_)
  show wpAny (model prog w) _ (if (Value.ref t == Value.none) = true then _ else _) _ _ s; rw [if_neg (by exact Bool.false_ne_true)]
  show wpAny (model prog w) _ (field (.ref it) 1 >>= _) _ _ s; refine wpAny_bind (wpAny_field ho hd (x := .int i 0) rfl ?_)
  show wpAny (model prog w) _ (seqItems? (.ref t) >>= _) _ _ s; refine wpAny_bind (wpAny_seqItems hol hdl ?_); simp only [Int.toNat_natCast, hx]
  refine wpAny_bind (wpAny_rule (wpAny_bind (wpAny_setField ho hd (by simp) ?_))); show wpAny (model prog w) _ (newExc (.type "StopIteration") [] >>= _) _ _ _
  refine wpAny_bind ?_; simp only [newExc, newTuple]; refine wpAny_bind (wpAny_newObj_type ?_ (by size_fits))
  refine wpAny_bind (m := firstArgMember _ _) (wpAny_of_eq (a := Value.none) (by first | rfl | (simp only [firstArgMember]; rfl)) (wpAny_newObj_type ?_ (by size_fits)))
  simp only [raiseNew]; refine wpAny_bind (wpAny_handled ?_); first | rw [show A.in1.handled = none from hh] | rw [hh]
  refine wpAny_bind (wpAny_pure (wpAny_throw (hE _ _ (((Heap.SameBut.update ..).extBut.push _).push _) ⟨_, Heap.get?_push_size _ rfl, rfl⟩)))
end
end L2

namespace L2
open PySem PySem.Spec PyProof.Rows

section
variable {X : Cx} {pins : List (Addr × Obj)} {σ : St} {H : Hp} {s : Shared} {h' : Heap}
theorem Inv.turnedL {t' : Nat} {ch : List Addr} (I : Inv X pins σ H s) (k : ∀ b o, b ∉ ch → s.heap.get? b = some o → h'.get? b = some o) (hf : ∀ b ∈ ch, FpOk X pins H b) : Inv X pins σ H { s with heap := h', toks := t' } := by
  have nit : ∀ b u, H b = some u → b ∉ ch := fun b u e z => by rw [(hf b z).1] at e; cases e
  refine I.step (g' := s.gens) (d' := s.drawn) (ch := ch) (fun b hb => ⟨(hf b hb).2.2.2.1, (hf b hb).2.1, (hf b hb).2.2.2.2.1, (hf b hb).2.2.2.2.2⟩) (fun b o _ _ hc e _ => k b o hc e) (fun b o _ _ hc e _ => ⟨o.slots, k b o hc e⟩) (fun _ _ _ _ n => n) (fun b o hc e => ⟨o, k b o hc e⟩) (fun _ _ e => e) (fun _ _ _ e => e) (fun b ps e => ⟨#[], by rw [e]; simp⟩) (fun m hm => ?_) (fun b u e => ?_) I.bare
  · obtain ⟨o, es, ep, ho, r⟩ := hm
    exact ⟨o, es, ep, k _ _ (fun z => (hf _ z).2.1 rfl) ho, r⟩
  · have key : ∀ c, c = b ∨ H c = some (.own b) → c ∉ ch := fun c hc => by
      rcases hc with z | z
      · subst z; exact nit _ u e
      · exact nit c _ z
    exact (I.hok b u e).stay (fun c v hc q => k c v (key c hc) q) (fun _ q => q) fun _ _ q => q

theorem Inv.turnLaid {t' : Nat} {ch : List Addr} {a : Addr} {o : HO} (I : Inv X pins σ H s) (k : ∀ b o, b ∉ ch → s.heap.get? b = some o → h'.get? b = some o) (hf : ∀ b ∈ ch, FpOk X pins H b) (hp : s.heap.objs.size ≤ a) (new : ObjOk X.prog X.w (upd H a o) h' a o) :
    Inv X pins σ (upd H a o) { s with heap := h', toks := t' } := by
  have nit : ∀ b u, H b = some u → b ∉ ch := fun b u e z => by rw [(hf b z).1] at e; cases e
  have hn : H a = none := I.hok.fresh hp
  refine I.step (g' := s.gens) (d' := s.drawn) (ch := ch) (fun b hb => ⟨(hf b hb).2.2.2.1, (hf b hb).2.1, (hf b hb).2.2.2.2.1, (hf b hb).2.2.2.2.2⟩) (fun b o _ _ hc e _ => k b o hc e) (fun b o _ _ hc e _ => ⟨o.slots, k b o hc e⟩) (fun b u _ q n => by rw [upd_ne (fun z => by subst z; exact absurd (Nat.lt_of_lt_of_le (Heap.lt_size q) hp) (Nat.lt_irrefl _))]; exact n) (fun b o hc e => ⟨o, k b o hc e⟩) (fun b xs q => by rw [upd_ne (ne_of_none q hn)]; exact q) (fun b u xs q => by rw [upd_ne (ne_of_none q hn)]; exact q) (fun b ps q => ⟨#[], by rw [upd_ne (ne_of_none q hn), q]; simp⟩) (fun m hm => ?_) (fun b u e => ?_) I.bare
  · obtain ⟨o, es, ep, ho, r⟩ := hm
    exact ⟨o, es, ep, k _ _ (fun z => (hf _ z).2.1 rfl) ho, r⟩
  · by_cases hb : b = a
    · subst hb
      rw [upd_same] at e
      cases e
      exact new
    · rw [upd_ne hb] at e
      have key : ∀ c, c = b ∨ H c = some (.own b) → c ∉ ch := fun c hc => by
        rcases hc with z | z
        · subst z; exact nit _ u e
        · exact nit c _ z
      exact (I.hok b u e).stay (fun c v hc q => k c v (key c hc) q) (fun c q => (upd_ne (ne_of_none q hn)).trans q) fun c xs q => (upd_ne (ne_of_none q hn)).trans q
end

end L2

namespace L2
open PySem PySem.Spec PyProof.Rows
section
variable {X : Cx}
theorem boot_enum : bootBuiltins "enumerate" = some (.type "enumerate") := bt_enumerate

end
end L2

set_option Elab.async false
set_option linter.all false
set_option maxRecDepth 100000
set_option maxHeartbeats 4000000
namespace L2
open PySem PySem.Spec PyProof.Rows
section
variable {X : Cx} {pins : List (Addr × Obj)} {σ : St} {H : Hp} {s : Shared}

end
section
variable {X : Cx}

end

section
variable {X : Cx} {o e f : Expr} {apos cpos : Pos} {td ty tx : TE}
end
end L2

set_option Elab.async false
set_option linter.all false
set_option maxRecDepth 100000
set_option maxHeartbeats 4000000
namespace L2
open PySem PySem.Spec PyProof.Rows


section
variable {X : Cx} {tg : Expr}
end
end L2

set_option Elab.async false
set_option linter.all false
set_option maxRecDepth 100000
set_option maxHeartbeats 4000000
namespace L2
open PySem PySem.Spec PyProof.Rows

def rCatT0 (K : PySem.W.Frag) : R2 := fun x y H Q => ∃ a b ys, x = .ref a ∧ y = .ref b ∧ SqT K H a [] ∧ SqT K H b ys ∧ Q (.ref b) H
theorem op_catT0 {X : Cx} : OpR X (binaryOp .Add) (rCatT0 X.K) := by
  intro pins s σ H x y v u Q I rx ry h
  obtain ⟨a, b, ys, rfl, rfl, ha, hb, q⟩ := h
  cases rx
  cases ry
  obtain ⟨its, r1, p1, _⟩ := I.tuple ha
  obtain ⟨its2, r2, p2, _⟩ := I.tuple hb
  obtain ⟨⟨cls, dd, data, sl⟩, ho, hc, n, hd⟩ := id p1
  obtain ⟨⟨cls2, dd2, data2, sl2⟩, ho2, hc2, n2, hd2⟩ := id p2
  simp only at hc hd hc2 hd2
  subst hc hd hc2 hd2
  exact concat_meets ⟨_, ho, rfl⟩ ⟨_, ho2, rfl⟩ noFill_tuple_add seq_tuple_add PySem.F.slot_tuple_add PySem.F.entry_tuple_add (PySem.F.args_tuple_add_2 _ _)
    (tuple_addW0 a b its.toArray its2.toArray n n2 dd dd2 sl sl2 (by simp [r1.nil_iff.mpr rfl])) ⟨ho, ho2, ⟨.ref b, H, I, rfl, q⟩⟩
theorem op_catTT {X : Cx} : OpR X (binaryOp .Add) (fun x y H Q => rCatT X.K x y H Q ∨ rCatT0 X.K x y H Q) := op_catT.or op_catT0

theorem pss_cut {X : Cx} {st : Stmt} {rest : List Stmt} {t u : TS} (h1 : PS X st t) (h2 : PSs X rest u) : PSs X (st :: rest) (fun D σ H => ∃ M : St → Hp → Prop, t { D with nx := M } σ H ∧ ∀ σ' H', M σ' H' → u D σ' H') := by
  intro pins s σ H D I h
  obtain ⟨M, h, hm⟩ := h
  refine wpAny_execs_cons (thn (h1 pins s σ H { D with nx := M } I h) fun f s1 q => ?_)
  cases f with
  | next =>
    obtain ⟨σ', H', I', q⟩ := q
    exact h2 pins s1 σ' H' D I' (hm _ _ q)
  | ret v => exact q
  | brk => exact q
  | cont => exact q
end L2

set_option Elab.async false
set_option linter.all false
set_option maxRecDepth 100000
set_option maxHeartbeats 4000000
namespace L2
open PySem PySem.Spec PyProof.Rows

end L2

set_option Elab.async false
set_option linter.all false
set_option maxRecDepth 100000
set_option maxHeartbeats 4000000
namespace L2
open PySem PySem.Spec PyProof.Rows PySem.W

theorem Paired.len {α β : Type} {R : α → β → Prop} : ∀ {xs : List α} {ys : List β}, Paired R xs ys → xs.length = ys.length
  | _, _, .nil => rfl
  | _, _, .cons _ r => by rw [List.length_cons, List.length_cons, Paired.len r]
end L2

set_option Elab.async false
set_option linter.all false
set_option maxRecDepth 100000
set_option maxHeartbeats 4000000
namespace L2
open PySem PySem.Spec PyProof.Rows

def rEqNil (K : PySem.W.Frag) : R2 := fun x y H Q => ∃ a b xs, x = .ref a ∧ y = .ref b ∧ SqL K H a xs ∧ SqL K H b [] ∧ Q (.bl (decide (xs = []))) H
theorem op_eqNil {X : Cx} (hu : X.A.units + 64 < cLine) : OpR X (compareOp .Eq) (rEqNil X.K) := by
  intro pins s σ H x y v u Q I rx ry h
  obtain ⟨a, b, xs, rfl, rfl, hA, hB, q⟩ := h
  cases rx
  cases ry
  obtain ⟨its, r1, p1, _⟩ := I.list hA
  obtain ⟨its2, r2, p2, _⟩ := I.list hB
  have e2 : its2 = [] := r2.nil_iff.mpr rfl
  subst e2
  by_cases hx : xs = []
  · have e1 : its = [] := r1.nil_iff.mpr hx
    subst e1
    refine SeqAt.eq_listAt (e := fun _ => true) p1.isList p2.isList rfl (by omega) (fun i h => absurd h (Nat.not_lt_zero i)) ?_
    rw [decide_eq_true hx] at q
    exact ⟨.bl true, H, I, rfl, q⟩
  · have hne : (its.toArray.size != ([] : List Value).toArray.size) = true := by
      have : its ≠ [] := fun z => hx (r1.nil_iff.mp z)
      cases its with
      | nil => exact absurd rfl this
      | cons a b => rfl
    refine SeqAt.eq_list_lengthsAt p1.isList p2.isList hne (by omega) ?_
    rw [decide_eq_false hx] at q
    exact ⟨.bl false, H, I, rfl, q⟩
end L2

set_option Elab.async false
set_option linter.all false
set_option maxRecDepth 100000
set_option maxHeartbeats 4000000
namespace L2
open PySem PySem.Spec PyProof.Rows

def Lay (n : Nat) (d : PyData) : Prop := PyData.canLay0 d = true ∧ PyData.depth d ≤ n
theorem Lay.int {n : Nat} (i : Int) : Lay n (.int i) := ⟨by unfold PyData.canLay0; rfl, by unfold PyData.depth; exact Nat.zero_le _⟩
theorem Lay.bool {n : Nat} (b : Bool) : Lay n (.bool b) := ⟨by unfold PyData.canLay0; rfl, by unfold PyData.depth; exact Nat.zero_le _⟩
theorem Lay.none {n : Nat} : Lay n .none := ⟨by unfold PyData.canLay0; rfl, by unfold PyData.depth; exact Nat.zero_le _⟩
theorem Lay.str {n : Nat} {x : Str} (h : PyData.strOk x = true) : Lay n (.str x) := ⟨by unfold PyData.canLay0; exact h, by unfold PyData.depth; exact Nat.zero_le _⟩
theorem lays {n : Nat} : ∀ {ds : List PyData}, (∀ d ∈ ds, Lay n d) → PyData.canLayAll0 ds = true ∧ PyData.depthAll ds ≤ n
  | [], _ => ⟨by unfold PyData.canLayAll0; rfl, by unfold PyData.depthAll; exact Nat.zero_le _⟩
  | d :: ds, h => by
    have h1 := h d List.mem_cons_self
    have h2 := lays (fun x hx => h x (List.mem_cons_of_mem _ hx))
    constructor
    · unfold PyData.canLayAll0; rw [h1.1, h2.1]; rfl
    · unfold PyData.depthAll; exact Nat.max_le.mpr ⟨h1.2, h2.2⟩
theorem Lay.list {n : Nat} {ds : List PyData} (h : ∀ d ∈ ds, Lay n d) : Lay (n + 1) (.list ds) := by
  have h2 := lays h
  exact ⟨by unfold PyData.canLay0; exact h2.1, by unfold PyData.depth; have := h2.2; omega⟩
theorem Lay.tuple {n : Nat} {ds : List PyData} (h : ∀ d ∈ ds, Lay n d) : Lay (n + 1) (.tuple ds) := by
  have h2 := lays h
  exact ⟨by unfold PyData.canLay0; exact h2.1, by unfold PyData.depth; have := h2.2; omega⟩
theorem Lay.refl {n : Nat} {d : PyData} (h : Lay n d) : PyData.eqv d d = true := SeqAt.eqv_refl d h.1
theorem Lay.mono {n m : Nat} {d : PyData} (h : Lay n d) (hn : n ≤ m) : Lay m d := ⟨h.1, Nat.le_trans h.2 hn⟩

mutual
theorem DatV.mono {K : PySem.W.Frag} {H H' : Hp} (e : Same H H') : ∀ (d : PyData) (v : V), DatV K H d v → DatV K H' d v
  | .none, v, h => by unfold DatV at h ⊢; exact h
  | .bool b, v, h => by unfold DatV at h ⊢; exact h
  | .int i, v, h => by unfold DatV at h ⊢; exact h
  | .str x, v, h => by unfold DatV at h ⊢; exact h
  | .list ds, v, h => by
    unfold DatV at h ⊢
    obtain ⟨a, xs, rfl, hq, hd⟩ := h
    exact ⟨a, xs, rfl, e.seq hq, DatAll.mono e ds xs hd⟩
  | .tuple ds, v, h => by
    unfold DatV at h ⊢
    obtain ⟨a, xs, rfl, hq, hd⟩ := h
    exact ⟨a, xs, rfl, e.tup hq, DatAll.mono e ds xs hd⟩
  | .dict _, v, h => by unfold DatV at h; exact h.elim
theorem DatAll.mono {K : PySem.W.Frag} {H H' : Hp} (e : Same H H') : ∀ (ds : List PyData) (xs : List V), DatAll K H ds xs → DatAll K H' ds xs
  | [], xs, h => by unfold DatAll at h ⊢; exact h
  | d :: ds, xs, h => by
    unfold DatAll at h ⊢
    obtain ⟨x, r, rfl, hd, hds⟩ := h
    exact ⟨x, r, rfl, DatV.mono e d x hd, DatAll.mono e ds r hds⟩
end

def ers (l : Addr) (H : Hp) : Hp := fun b => if b = l then none else H b
theorem ers_ne {l b : Addr} {H : Hp} (h : b ≠ l) : ers l H b = H b := by unfold ers; rw [if_neg h]
theorem ers_same {l : Addr} {H : Hp} : Same (ers l H) H := fun b o h => by
  unfold ers at h
  split at h
  · cases h
  · exact h
theorem Same.ers {l : Addr} {H H' : Hp} (e : Same H H') : Same (ers l H) (ers l H') := fun b o h => by
  unfold L2.ers at h ⊢
  split at h
  · cases h
  · rename_i hb
    rw [if_neg hb]
    exact e b o h
theorem ixI {n : Nat} {i : Int} (h0 : 0 ≤ i) (h : i < n) : ixN n i = some i.toNat := by
  unfold ixN
  rw [if_pos h0, if_pos h]
end L2
namespace L2
open PySem PySem.Spec PyProof.Rows

section
variable {g : TG} {tif : TT} {te : TE} {js : List (Option Nat)} {σ : St} {H : Hp} {Q : VK}
end
end L2
namespace Gx
open PySem L2
theorem le0 : 0 ≤ sizeLine := by decide
theorem le1 : 1 ≤ sizeLine := by decide
theorem le2 : 2 ≤ sizeLine := by decide
theorem le3 : 3 ≤ sizeLine := by decide
theorem le4 : 4 ≤ sizeLine := by decide
theorem le5 : 5 ≤ sizeLine := by decide
theorem lt_line {n : Nat} (h : n < 1000000) : n ≤ sizeLine := by
  have : (1000000 : Nat) < sizeLine := by decide
  omega
theorem at0 {x : V} {r : List V} : atI (x :: r) 0 = some x := by
  unfold atI ixN
  rw [if_pos (by decide), if_pos (by simp)]
  rfl
theorem vq {Q : VK} {H : Hp} {x y : V} (h : x = y) (q : Q y H) : Q x H := by subst h; exact q
theorem emod_bd (z n : Int) (h : 0 < n) : 0 ≤ z % n ∧ z % n < n := ⟨Int.emod_nonneg _ (by omega), Int.emod_lt_of_pos _ h⟩
theorem map_at {α : Type} {es : List α} {f : α → V} {i : Nat} {x : V} (h : (es.map f)[i]? = some x) : ∃ e, es[i]? = some e ∧ e ∈ es ∧ x = f e := by
  rw [List.getElem?_map] at h
  cases he : es[i]? with
  | none => rw [he] at h; cases h
  | some e => rw [he] at h; cases h; exact ⟨e, rfl, List.mem_of_getElem? he, rfl⟩
end Gx

set_option Elab.async false
set_option linter.all false
set_option maxRecDepth 100000
set_option maxHeartbeats 4000000
namespace L2
open PySem PySem.Spec PyProof.Rows

section
variable {X : Cx} {tg : Expr}
end
section
variable {g : TG} {tif : TT} {te : TE} {js : List (Option Nat)} {σ : St} {H : Hp} {Q : VK}
end

def tTru (K : PySem.W.Frag) (ta : TE) : TT := fun σ H Q => ta σ H fun x H' => ∃ k, TruV K x H' k ∧ Q k H'
theorem pt_tru {X : Cx} {K : PySem.W.Frag} {a : Expr} {ta : TE} (hK : X.K = K) (ha : PE X a ta) (he : ∀ whole, isTrue a X.env whole = (do let v ← whole; standAt a.pos; holding [v] (truthy v))) : PT X a (tTru K ta) := by
  subst hK
  exact pt_truth ha he
end L2
namespace Gx
open PySem L2

def tx (l : List Nat) : Str := ⟨l.toArray⟩
theorem tx_cps (l : List Nat) : (tx l).cps.toList = l := by unfold tx; simp
theorem tx_len (l : List Nat) : (tx l).length = l.length := by unfold tx Str.length; simp
theorem tx_app (a b : List Nat) : tx a ++ tx b = tx (a ++ b) := by
  show (⟨_ ++ _⟩ : Str) = _
  unfold tx
  simp
theorem tx_inj {a b : List Nat} (h : tx a = tx b) : a = b := by rw [← tx_cps a, h, tx_cps]
theorem tx_slice {l : List Nat} {i j : Int} (h0 : 0 ≤ i) (h1 : i ≤ j) (h2 : j ≤ l.length) : Txt.slice (tx l) (some i) (some j) = tx ((l.drop i.toNat).take (j - i).toNat) := by
  have := PyProof.Rows.slice_closes (x := tx l) (i := i) (j := j) ⟨h0, h1, by rw [tx_cps]; exact h2⟩
  rw [beq_iff_eq, tx_cps] at this
  exact this
theorem join_cons (y : Str) (ys : List Str) : PySem.Txt.join "" (y :: ys) = y ++ PySem.Txt.join "" ys := by
  show PySem.Builtin.Str.glued ("" : Str) (y :: ys) = y ++ PySem.Builtin.Str.glued ("" : Str) ys
  rw [PySem.StrLaws.glued_eq_join, PySem.StrLaws.glued_eq_join]
  cases ys with
  | nil =>
    show y = y ++ Str.empty
    cases y
    show _ = (⟨_ ++ #[]⟩ : Str)
    simp
  | cons z zs =>
    show y ++ "" ++ Str.join "" (z :: zs) = _
    have : y ++ ("" : Str) = y := by
      cases y
      show (⟨_ ++ #[]⟩ : Str) = _
      simp
    rw [this]
theorem tx_join : ∀ (ls : List (List Nat)), PySem.Txt.join "" (ls.map tx) = tx ls.flatten
  | [] => by
    show PySem.Builtin.Str.glued ("" : Str) [] = _
    rw [PySem.StrLaws.glued_eq_join]
    rfl
  | l :: ls => by rw [List.map_cons, join_cons, tx_join ls, tx_app, List.flatten_cons]
end Gx

set_option Elab.async false
set_option linter.all false
set_option maxRecDepth 100000
set_option maxHeartbeats 4000000
namespace PySem
open PySem.SeqAt
end PySem
namespace L2
open PySem PySem.Spec PyProof.Rows

end L2

set_option Elab.async false
set_option linter.all false
set_option maxRecDepth 100000
set_option maxHeartbeats 4000000
namespace L2
open PySem PySem.Spec PyProof.Rows


def ItE (K : PySem.W.Frag) (a : Addr) : It :=
  ⟨fun i H => ∃ xs x, SqL K H a xs ∧ xs[i]? = some x, fun i H y H' => ∃ b, y = .ref b ∧ H b = none ∧ ∀ xs x, SqL K H a xs → xs[i]? = some x → H' = upd H b (.tup [.int i, x]), fun i H => ∃ xs, SqL K H a xs ∧ xs.length = i⟩
theorem turn_enumL {P : Program} {w : World} {K : PySem.W.Frag} {elts : List Expr} {k : Nat} {pos : Pos} (a e it : Addr) (hne : e ≠ it) : Turn P w K (.Tuple elts k pos) (ItE K a) [e, it] e (fun i h => (∃ old, IsEnum h e it i old) ∧ h.IsListIter it a i) where
  mem := by simp
  obj := fun i h st b hb => by
    obtain ⟨⟨old, he⟩, ⟨o, ho, hc, hd⟩⟩ := st
    rcases List.mem_cons.mp hb with z | z
    · subst z
      exact ⟨_, he, fun v z => by cases (show Data.fields _ = Data.cell v from z)⟩
    · have z : b = it := by simpa using z
      subst z
      exact ⟨o, ho, fun v z => by rw [hd] at z; cases z⟩
  keep := fun i h h' st kk => by
    obtain ⟨⟨old, he⟩, ⟨o, ho, r⟩⟩ := st
    exact ⟨⟨old, kk e (by simp) _ he⟩, ⟨o, kk it (by simp) o ho, r⟩⟩
  item := by
    intro X hP hw hK hc i pins s σ H E I hf st hg
    subst hP hw hK
    obtain ⟨⟨old, he⟩, hit⟩ := st
    obtain ⟨xs, x, hq, hx⟩ := hg
    obtain ⟨its, rv, p, hz⟩ := I.list hq
    have pt : s.heap.IsList a its.toArray := p.isList
    obtain ⟨u, hu, ru⟩ := rv.get hx
    have hia : a ≠ it := fun z => by
      subst z
      obtain ⟨o1, h1, c1, _⟩ := hit
      obtain ⟨o2, h2, c2, _⟩ := pt
      rw [h1] at h2
      cases h2
      rw [c1] at c2
      injection c2 with c2
      exact absurd c2 (by decide)
    have hea : e ∉ [it, a] := fun z => by
      rcases List.mem_cons.mp z with z | z
      · exact hne z
      · have z : e = a := by simpa using z
        subst z
        obtain ⟨o2, h2, c2, _⟩ := pt
        rw [he] at h2
        cases h2
        injection (show Value.type "enumerate" = Value.type "list" from c2) with c2
        exact absurd c2 (by decide)
    have hlt : i < its.toArray.size := by
      have := (List.getElem?_eq_some_iff.mp hu).1
      simpa using this
    refine wpAny_pyNext_enum_itemD (Draws.list (A := X.A.in1) (I.ok.hd hc) it a hia its.toArray) he ⟨hit, pt⟩ hlt hne hea fun y h' tk hy hout hst hT hsz hk => ?_
    refine ⟨_, rfl, wpAny_letOwnedTupleGo_enum hout fun h2 he2 hs2 => ?_⟩
    have hs2 : Heap.SameBut e h' h2 := hs2
    have hyu : y = u := by
      have hy : its.toArray[i]? = some y := hy
      have : its[i]? = some y := by simpa using hy
      rw [hu] at this
      exact (Option.some.inj this).symm
    subst hyu
    have helt : e < s.heap.objs.size := Heap.lt_size he
    have hfr : H s.heap.objs.size = none := I.hok.fresh (Nat.le_refl _)
    have hnS : s.heap.objs.size ≠ e := Nat.ne_of_gt helt
    have hT2 : h2.get? s.heap.objs.size = some { cls := .type "tuple", data := .seq #[.int i tk, y] } := (hs2.2 _ hnS).trans hT
    refine ⟨.ref s.heap.objs.size, upd H s.heap.objs.size (.tup [.int i, x]), I.turnLaid (t' := tk + 1) (ch := [e, it]) (fun b o hb q => ?_) hf (Nat.le_refl _) ?_, rfl, ⟨s.heap.objs.size, rfl, hfr, fun xs' x' hq' hx' => ?_⟩, ⟨⟨y, by exact_mod_cast he2⟩, ?_⟩, fun b hb => ?_⟩
    · have h1 : b ≠ e := fun z => hb (by simp [z])
      have h3 : b ≠ it := fun z => hb (by simp [z])
      exact (hs2.2 b h1).trans (hk b o h1 h3 q)
    · exact ⟨by show 2 ≤ sizeLine; decide, [.int i tk, y], .cons ⟨tk, rfl⟩ (.cons ru .nil), ⟨_, hT2, rfl, _, rfl⟩⟩
    · have := I.list_inj hq' hq
      subst this
      rw [hx] at hx'
      cases hx'
      rfl
    · obtain ⟨⟨o, ho, r⟩, _⟩ := hst
      exact ⟨o, (hs2.2 it hne.symm).trans ho, r⟩
    · have hb0 := (hf b hb).1
      rw [upd_ne]
      · exact hb0
      · intro z
        subst z
        obtain ⟨o, ho, _⟩ := hit
        rcases List.mem_cons.mp hb with z | z
        · exact hnS z
        · have z : s.heap.objs.size = it := by simpa using z
          exact absurd (Heap.lt_size ho) (by rw [← z]; exact Nat.lt_irrefl _)
  done := by
    intro X hP hw hK hc i pins s σ H E I hf st hg
    subst hP hw hK
    obtain ⟨⟨old, he⟩, hit⟩ := st
    obtain ⟨xs, hq, hx⟩ := hg
    obtain ⟨its, rv, p, hz⟩ := I.list hq
    have pt : s.heap.IsList a its.toArray := p.isList
    have hl := rv.length
    have hia : a ≠ it := fun z => by
      subst z
      obtain ⟨o1, h1, c1, _⟩ := hit
      obtain ⟨o2, h2, c2, _⟩ := pt
      rw [h1] at h2
      cases h2
      rw [c1] at c2
      injection c2 with c2
      exact absurd c2 (by decide)
    have hi : i = its.toArray.size := by simp; omega
    refine wpAny_pyNext_enum_endD (Draws.list (A := X.A.in1) (I.ok.hd hc) it a hia its.toArray) he (by rw [← hi]; exact ⟨hit, pt⟩) fun h' eb => ⟨rfl, ?_⟩
    exact I.turnedL (t' := s.toks) (ch := [e, it]) (fun b o hb q => eb b o (fun z => hb (by simp [z])) q) hf
  self := fun _ _ _ _ _ st h => by
    obtain ⟨⟨old, he⟩, _⟩ := st
    exact wpAny_pyIter_enum he h
end L2

namespace L2
open PySem PySem.Spec PyProof.Rows
section
variable {X : Cx}

def iEnumL (K : PySem.W.Frag) (ta : TA) : TI := fun σ H R => ta σ H fun vs H1 => ∃ a, vs = [.ref a] ∧ (∃ xs, SqL K H1 a xs) ∧ R (ItE K a) H1
theorem pi_enumL {a : Expr} {ta : TA} {p pos tpos : Pos} {elts : List Expr} {k : Nat} (hg : Gl X "enumerate") (hm : X.mg "enumerate" = none) (ha : PA X [a] ta) (hs : starEach [a] X.env = [(false, eval a X.env)] := by rfl) : PI X (.Tuple elts k tpos) (.Call (.Name "enumerate" p) [a] [] pos) (iEnumL X.K ta) := by
  intro pins s σ H R I h
  refine Call_ (ld_blt I hg hm boot_enum (PyProof.Rows.callWith_type1 (thn (ha pos pins s σ H _ I h) fun us s1 ⟨vs, H1, I1, r1, q1⟩ => ?_) hs rfl))
  obtain ⟨a, e, ⟨xs, hq⟩, q⟩ := q1
  subst e
  cases r1 with
  | cons r rr =>
    cases rr
    cases r
    obtain ⟨its, rv, p, hz⟩ := I1.list hq
    refine call_enumerate_list p.isList fun h' he hit _ hk => ?_
    refine wpAny_pyIter_enum he ?_
    refine ⟨s1.heap.objs.size + 1, [s1.heap.objs.size + 1, s1.heap.objs.size], _, _, H1, rfl, I1.kept (t' := s1.toks) hk, turn_enumL a (s1.heap.objs.size + 1) s1.heap.objs.size (Nat.succ_ne_self _), ⟨⟨.none, he⟩, hit⟩, fun b hb => ?_, q⟩
    rcases List.mem_cons.mp hb with z | z
    · subst z
      exact I1.fpOk (Nat.le_succ _) (I1.hok.fresh (Nat.le_succ _))
    · have z : b = s1.heap.objs.size := by simpa using z
      subst z
      exact I1.fpOk (Nat.le_refl _) (I1.hok.fresh (Nat.le_refl _))

theorem for_enumL {K : PySem.W.Frag} {a : Addr} {xs : List V} {g : TG} {tb : TS} {D : Ends} {σ : St} {H : Hp} (Pv : Nat → St → Hp → Prop) (h0 : Pv 0 σ H) (hl : ∀ i σ H, i ≤ xs.length → Pv i σ H → SqL K H a xs)
    (hs : ∀ i x σ H b, xs[i]? = some x → Pv i σ H → H b = none → g (.ref b) σ (upd H b (.tup [.int i, x])) fun σ2 H2 => tb { D with nx := Pv (i + 1), ct := Pv (i + 1), bk := D.nx } σ2 H2) (hd : ∀ σ H, Pv xs.length σ H → D.nx σ H) :
    ∃ W : Nat → Nat → St → Hp → Prop, (∃ m, W 0 m σ H) ∧ ∀ i m σ H, W i m σ H → ((ItE K a).stop i H ∧ D.nx σ H) ∨ ((ItE K a).go i H ∧ ∃ N : St → Hp → Prop, (∀ σ' H', N σ' H' → ∃ m', m' < m ∧ W (i + 1) m' σ' H') ∧ ∀ x H', (ItE K a).yld i H x H' → g x σ H' fun σ2 H2 => tb { D with nx := N, ct := N, bk := D.nx } σ2 H2) := by
  refine ⟨fun i m σ H => m = xs.length - i ∧ i ≤ xs.length ∧ Pv i σ H, ⟨xs.length, by simp, Nat.zero_le _, h0⟩, ?_⟩
  rintro i m σ H ⟨rfl, hi, p⟩
  have q := hl i σ H hi p
  by_cases hlt : i < xs.length
  · refine .inr ⟨⟨xs, xs[i], q, by simp [hlt]⟩, Pv (i + 1), fun σ' H' p' => ⟨xs.length - (i + 1), by omega, rfl, hlt, p'⟩, fun x H' y => ?_⟩
    obtain ⟨b, rfl, hb, y⟩ := y
    rw [y xs xs[i] q (by simp [hlt])]
    exact hs i xs[i] σ H b (by simp [hlt]) p hb
  · have e : i = xs.length := by omega
    subst e
    exact .inl ⟨⟨xs, q, rfl⟩, hd σ H p⟩
end
end L2

set_option Elab.async false
set_option linter.all false
set_option maxRecDepth 100000
set_option maxHeartbeats 4000000
namespace PySem
open Sem (wp)

def ItB (b : Bool) (h : Heap) (it l : Addr) (k : Nat) : Prop := match b with | true => h.IsTupleIter it l k | false => h.IsListIter it l k
def SqB (b : Bool) (h : Heap) (l : Addr) (xs : Array Value) : Prop := match b with | true => h.IsTuple l xs | false => h.IsList l xs
theorem ItB.at {b : Bool} {h h' : Heap} {it l : Addr} {k : Nat} (p : ItB b h it l k) (e : ∀ o, h.get? it = some o → h'.get? it = some o) : ItB b h' it l k := by
  cases b <;> (obtain ⟨o, ho, r⟩ := p; exact ⟨o, e o ho, r⟩)
theorem SqB.at {b : Bool} {h h' : Heap} {l : Addr} {xs : Array Value} (p : SqB b h l xs) (e : ∀ o, h.get? l = some o → h'.get? l = some o) : SqB b h' l xs := by
  cases b <;> (obtain ⟨o, ho, r⟩ := p; exact ⟨o, e o ho, r⟩)
theorem ItB.extBut {b : Bool} {h h' : Heap} {it l c : Addr} {k : Nat} (p : ItB b h it l k) (e : Heap.ExtBut c h h') (n : it ≠ c) : ItB b h' it l k := p.at fun o ho => e _ _ n ho
theorem SqB.extBut {b : Bool} {h h' : Heap} {l c : Addr} {xs : Array Value} (p : SqB b h l xs) (e : Heap.ExtBut c h h') (n : l ≠ c) : SqB b h' l xs := p.at fun o ho => e _ _ n ho
theorem ItB.lt {b : Bool} {h : Heap} {it l : Addr} {k : Nat} (p : ItB b h it l k) : it < h.objs.size := by
  cases b <;> (obtain ⟨o, ho, r⟩ := p; exact Heap.lt_size ho)
section
variable {prog : Program} {w : World} {A : Around} {E : Value → Shared → Prop} {s : Shared}
theorem nextB_item {b : Bool} {it l : Addr} {i : Nat} {items : Array Value} {x : Value} {Q : Value → Shared → Prop} (p : ItB b s.heap it l i) (q : SqB b s.heap l items) (hx : items[i]? = some x)
    (hQ : ∀ h', ItB b h' it l (i + 1) → Heap.SameBut it s.heap h' → Q x { s with heap := h' }) : wpAny (model prog w) A (Builtin.SmallTypes.nextOf (.ref it)) Q E s := by
  cases b with
  | true => exact L2.gx_nextOf_tup p q hx hQ
  | false => exact wpAny_nextOf_list_item p q hx hQ
theorem nextB_end {b : Bool} {it l : Addr} {i : Nat} {items : Array Value} {Q : Value → Shared → Prop} (hh : A.handled = none) (p : ItB b s.heap it l i) (q : SqB b s.heap l items) (hx : items[i]? = none)
    (hE : ∀ h' e, Heap.ExtBut it s.heap h' → (∃ o, h'.get? e = some o ∧ o.cls = .type "StopIteration") → E (.ref e) { s with heap := h' }) : wpAny (model prog w) A (Builtin.SmallTypes.nextOf (.ref it)) Q E s := by
  cases b with
  | true => exact L2.gx_nextOf_tup_end hh p q hx hE
  | false => exact wpAny_nextOf_list_end hh p q hx hE
theorem gx_zipN_item {b1 b2 : Bool} {z TI TO i1 i2 l1 l2 : Addr} {k1 k2 : Nat} {xs ys : Array Value} {x y a b : Value} {Q : Value → Shared → Prop} (D : ZipApart z TI TO i1 i2 l1 l2)
    (zZ : IsZip s.heap z TI TO .none) (zI : IsPair s.heap TI (.ref i1) (.ref i2)) (zO : IsPair s.heap TO a b)
    (p1 : ItB b1 s.heap i1 l1 k1) (p2 : ItB b2 s.heap i2 l2 k2) (q1 : SqB b1 s.heap l1 xs) (q2 : SqB b2 s.heap l2 ys) (hx : xs[k1]? = some x) (hy : ys[k2]? = some y)
    (hQ : ∀ h', IsZip h' z TI TO (rawInt s.heap.objs.size) → IsPair h' TO x y → ItB b1 h' i1 l1 (k1 + 1) → ItB b2 h' i2 l2 (k2 + 1) → IsPair h' s.heap.objs.size x y → h'.objs.size = s.heap.objs.size + 1 →
      (∀ c o, c ≠ z → c ≠ TO → c ≠ i1 → c ≠ i2 → s.heap.get? c = some o → h'.get? c = some o) → Q (.ref s.heap.objs.size) { s with heap := h' }) :
    wpAny (model prog w) A (Builtin.«zip.__next__» ⟨[.ref z], []⟩) (fun fin s' => ∃ v, fin = .done (.ret v) ∧ Q v s') E s := by
  show wpAny _ _ (field (.ref z) 2 >>= _) _ _ _; refine wpAny_bind (wpAny_field zZ rfl (x := .bool false) rfl ?_); show wpAny _ _ (field (.ref z) 3 >>= _) _ _ _; refine wpAny_bind (wpAny_field zZ rfl (x := .ref TI) rfl ?_); refine wpAny_bind (wpAny_seqItems zI rfl ?_); show wpAny _ _ (Builtin.SmallTypes.ownedTupleIsFree (.ref z) >>= _) _ _ _; refine wpAny_bind ?_; unfold Builtin.SmallTypes.ownedTupleIsFree; refine wpAny_bind (wpAny_field zZ rfl (x := .none) rfl (wpAny_pure ?_)); simp only [if_true]; refine wpAny_bind (wpAny_rule ?_); refine wpAny_bind (wpAny_field zZ rfl (x := .ref TO) rfl ?_)
  refine wpAny_bind (wpAny_setField_rec zZ (by simp) fun h₁ zZ₁ hs₁ => ?_); replace zZ₁ : IsZip h₁ z TI TO .ellipsis := zZ₁; refine wpAny_bind ?_; simp only [List.zipIdx_cons, List.zipIdx_nil, List.forIn_cons, List.forIn_nil]

  refine wpAny_bind (wpAny_bind (wpAny_onRaise ?_)); show wpAny _ _ (Builtin.SmallTypes.nextOf (.ref i1) >>= _) _ _ _; refine wpAny_bind (nextB_item (p1.extBut hs₁.extBut D.i1z) (q1.extBut hs₁.extBut D.l1z) hx fun h₂ h1₂ hs₂ => wpAny_pure ?_); have hTO₂ : IsPair h₂ TO a b := hs₂.extBut _ _ D.TOi1 (hs₁.extBut _ _ D.TOz zO); refine wpAny_bind (wpAny_seqItems hTO₂ rfl ?_); refine wpAny_bind (wpAny_updateSeq_pair hTO₂ fun h₃ hTO₃ hs₃ => ?_); replace hTO₃ : IsPair h₃ TO x b := hTO₃; refine wpAny_bind (wpAny_letGo (wpAny_pure ?_))

  refine wpAny_bind (wpAny_bind (wpAny_onRaise ?_)); show wpAny _ _ (Builtin.SmallTypes.nextOf (.ref i2) >>= _) _ _ _; refine wpAny_bind (nextB_item (((p2.extBut hs₁.extBut D.i2z).extBut hs₂.extBut D.i12.symm).extBut hs₃.extBut D.TOi2.symm)
    (((q2.extBut hs₁.extBut D.l2z).extBut hs₂.extBut D.l2i1).extBut hs₃.extBut D.l2TO) hy fun h₄ h2₄ hs₄ => wpAny_pure ?_)
  have hTO₄ : IsPair h₄ TO x b := hs₄.extBut _ _ D.TOi2 hTO₃; refine wpAny_bind (wpAny_seqItems hTO₄ rfl ?_); refine wpAny_bind (wpAny_updateSeq_pair hTO₄ fun h₅ hTO₅ hs₅ => ?_); replace hTO₅ : IsPair h₅ TO x y := hTO₅; refine wpAny_bind (wpAny_letGo (wpAny_pure (wpAny_pure ?_)))

  refine wpAny_bind (wpAny_seqItems hTO₅ rfl ?_); refine wpAny_bind (wpAny_newTuple ?_); have hsz : h₅.objs.size = s.heap.objs.size := (by rw [hs₅.1, hs₄.1, hs₃.1, hs₂.1, hs₁.1]); have hz₅ : IsZip h₅ z TI TO .ellipsis := hs₅.extBut _ _ D.TOz.symm (hs₄.extBut _ _ D.i2z.symm (hs₃.extBut _ _ D.TOz.symm (hs₂.extBut _ _ D.i1z.symm zZ₁))); have hk₅ : ∀ c o, c ≠ z → c ≠ TO → c ≠ i1 → c ≠ i2 → s.heap.get? c = some o → h₅.get? c = some o := fun c o c1 c2 c3 c4 e =>
    hs₅.extBut _ _ c2 (hs₄.extBut _ _ c4 (hs₃.extBut _ _ c2 (hs₂.extBut _ _ c3 (hs₁.extBut _ _ c1 e))))
  have h1₅ : ItB b1 h₅ i1 l1 (k1 + 1) := ((h1₂.extBut hs₃.extBut D.TOi1.symm).extBut hs₄.extBut D.i12).extBut hs₅.extBut D.TOi1.symm; have h2₅ : ItB b2 h₅ i2 l2 (k2 + 1) := h2₄.extBut hs₅.extBut D.TOi2.symm; have hzlt : z < h₅.objs.size := Heap.lt_size hz₅; have hTOlt : TO < h₅.objs.size := Heap.lt_size hTO₅; have hi1lt : i1 < h₅.objs.size := ItB.lt h1₅; have hi2lt : i2 < h₅.objs.size := ItB.lt h2₅; show wpAny _ _ (Builtin.SmallTypes.ownedTupleHandOut (.ref z) (.ref h₅.objs.size) >>= _) _ _ _; refine wpAny_bind ?_; unfold Builtin.SmallTypes.ownedTupleHandOut; have hz₆ : IsZip (h₅.push { cls := .type "tuple", data := .seq #[x, y] }) z TI TO .ellipsis := Heap.get?_push_of_some _ hz₅
  refine wpAny_bind (wpAny_setField_rec hz₆ (by simp) fun h₇ hz₇ hs₇ => ?_); replace hz₇ : IsZip h₇ z TI TO (rawInt h₅.objs.size) := hz₇; refine wpAny_setField_rec hz₇ (by simp) fun h₈ hz₈ hs₈ => ?_; replace hz₈ : IsZip h₈ z TI TO (rawInt h₅.objs.size) := hz₈; have up : ∀ c o, c ≠ z → h₅.get? c = some o → h₈.get? c = some o := fun c o c1 e => hs₈.extBut _ _ c1 (hs₇.extBut _ _ c1 (Heap.get?_push_of_some _ e)); have hT₈ : IsPair h₈ h₅.objs.size x y := hs₈.extBut _ _ (Nat.ne_of_gt hzlt) (hs₇.extBut _ _ (Nat.ne_of_gt hzlt) (Heap.get?_push_size _ rfl)); have hz8 : h₈.objs.size = h₅.objs.size + 1 := (by rw [hs₈.1, hs₇.1, Heap.size_push])
  rw [hsz] at hz₈ hT₈ hz8
  refine wpAny_pure ⟨_, rfl, ?_⟩; show Q (.ref h₅.objs.size) _
  rw [hsz]
  exact hQ h₈ hz₈ (up _ _ D.TOz hTO₅) (h1₅.at fun o e => up _ o D.i1z e) (h2₅.at fun o e => up _ o D.i2z e) hT₈ hz8 fun c o c1 c2 c3 c4 e => up c o c1 (hk₅ c o c1 c2 c3 c4 e)

theorem gx_zipN_end {b1 b2 : Bool} {z TI TO i1 i2 l1 l2 : Addr} {k1 k2 : Nat} {xs ys : Array Value} {a b : Value} {Q : Fin → Shared → Prop} (hh : A.handled = none) (D : ZipApart z TI TO i1 i2 l1 l2)
    (zZ : IsZip s.heap z TI TO .none) (zI : IsPair s.heap TI (.ref i1) (.ref i2)) (zO : IsPair s.heap TO a b)
    (p1 : ItB b1 s.heap i1 l1 k1) (p2 : ItB b2 s.heap i2 l2 k2) (q1 : SqB b1 s.heap l1 xs) (q2 : SqB b2 s.heap l2 ys) (hend : xs[k1]? = none ∨ ys[k2]? = none)
    (hE : ∀ h' e, (∀ c o, c ≠ z → c ≠ TO → c ≠ i1 → c ≠ i2 → s.heap.get? c = some o → h'.get? c = some o) → (∃ o, h'.get? e = some o ∧ o.cls = .type "StopIteration") → E (.ref e) { s with heap := h' }) :
    wpAny (model prog w) A (Builtin.«zip.__next__» ⟨[.ref z], []⟩) Q E s := by
  show wpAny _ _ (field (.ref z) 2 >>= _) _ _ _; refine wpAny_bind (wpAny_field zZ rfl (x := .bool false) rfl ?_); show wpAny _ _ (field (.ref z) 3 >>= _) _ _ _; refine wpAny_bind (wpAny_field zZ rfl (x := .ref TI) rfl ?_); refine wpAny_bind (wpAny_seqItems zI rfl ?_); show wpAny _ _ (Builtin.SmallTypes.ownedTupleIsFree (.ref z) >>= _) _ _ _; refine wpAny_bind ?_; unfold Builtin.SmallTypes.ownedTupleIsFree; refine wpAny_bind (wpAny_field zZ rfl (x := .none) rfl (wpAny_pure ?_)); simp only [if_true]; refine wpAny_bind (wpAny_rule ?_); refine wpAny_bind (wpAny_field zZ rfl (x := .ref TO) rfl ?_)
  refine wpAny_bind (wpAny_setField_rec zZ (by simp) fun h₁ zZ₁ hs₁ => ?_); replace zZ₁ : IsZip h₁ z TI TO .ellipsis := zZ₁; refine wpAny_bind ?_; simp only [List.zipIdx_cons, List.zipIdx_nil, List.forIn_cons, List.forIn_nil]; refine wpAny_bind (wpAny_bind (wpAny_onRaise ?_)); show wpAny _ _ (Builtin.SmallTypes.nextOf (.ref i1) >>= _) _ _ _
  cases hx : xs[k1]? with
  | none =>
    refine wpAny_bind (nextB_end hh (p1.extBut hs₁.extBut D.i1z) (q1.extBut hs₁.extBut D.l1z) hx fun h₂ e hs₂ he => ?_); obtain ⟨oe, hoe, hce⟩ := he; have hz₂ : IsZip h₂ z TI TO .ellipsis := hs₂ _ _ D.i1z.symm zZ₁; have hez : e ≠ z := (fun x => by subst x; rw [hz₂] at hoe; cases hoe; simp at hce); refine wpAny_setField_rec hz₂ (by simp) fun h₃ _ hs₃ => hE h₃ e (fun c o c1 _ c3 _ x => hs₃.extBut _ _ c1 (hs₂ _ _ c3 (hs₁.extBut _ _ c1 x))) ⟨oe, hs₃.extBut _ _ hez hoe, hce⟩
  | some x =>
    have hy : ys[k2]? = none := (by rcases hend with h | h; rw [hx] at h; cases h; exact h); refine wpAny_bind (nextB_item (p1.extBut hs₁.extBut D.i1z) (q1.extBut hs₁.extBut D.l1z) hx fun h₂ h1₂ hs₂ => wpAny_pure ?_); have hTO₂ : IsPair h₂ TO a b := hs₂.extBut _ _ D.TOi1 (hs₁.extBut _ _ D.TOz zO); refine wpAny_bind (wpAny_seqItems hTO₂ rfl ?_); refine wpAny_bind (wpAny_updateSeq_pair hTO₂ fun h₃ hTO₃ hs₃ => ?_); refine wpAny_bind (wpAny_letGo (wpAny_pure ?_)); refine wpAny_bind (wpAny_bind (wpAny_onRaise ?_)); show wpAny _ _ (Builtin.SmallTypes.nextOf (.ref i2) >>= _) _ _ _; refine wpAny_bind (nextB_end hh (((p2.extBut hs₁.extBut D.i2z).extBut hs₂.extBut D.i12.symm).extBut hs₃.extBut D.TOi2.symm)
      (((q2.extBut hs₁.extBut D.l2z).extBut hs₂.extBut D.l2i1).extBut hs₃.extBut D.l2TO) hy fun h₄ e hs₄ he => ?_)
    obtain ⟨oe, hoe, hce⟩ := he; have hz₄ : IsZip h₄ z TI TO .ellipsis := hs₄ _ _ D.i2z.symm (hs₃.extBut _ _ D.TOz.symm (hs₂.extBut _ _ D.i1z.symm zZ₁)); have hez : e ≠ z := (fun x => by subst x; rw [hz₄] at hoe; cases hoe; simp at hce); refine wpAny_setField_rec hz₄ (by simp) fun h₅ _ hs₅ => hE h₅ e (fun c o c1 c2 c3 c4 x => hs₅.extBut _ _ c1 (hs₄ _ _ c4 (hs₃.extBut _ _ c2 (hs₂.extBut _ _ c3 (hs₁.extBut _ _ c1 x))))) ⟨oe, hs₅.extBut _ _ hez hoe, hce⟩

theorem gx_zipB_item {b1 b2 : Bool} {z TI TO i1 i2 l1 l2 : Addr} {k1 k2 : Nat} {xs ys : Array Value} {x y a b : Value} {Q : Option Value → Shared → Prop} (D : ZipApart z TI TO i1 i2 l1 l2)
    (zZ : IsZip s.heap z TI TO .none) (zI : IsPair s.heap TI (.ref i1) (.ref i2)) (zO : IsPair s.heap TO a b)
    (p1 : ItB b1 s.heap i1 l1 k1) (p2 : ItB b2 s.heap i2 l2 k2) (q1 : SqB b1 s.heap l1 xs) (q2 : SqB b2 s.heap l2 ys) (hx : xs[k1]? = some x) (hy : ys[k2]? = some y)
    (hQ : ∀ h', IsZip h' z TI TO (rawInt s.heap.objs.size) → IsPair h' TO x y → ItB b1 h' i1 l1 (k1 + 1) → ItB b2 h' i2 l2 (k2 + 1) → IsPair h' s.heap.objs.size x y → h'.objs.size = s.heap.objs.size + 1 →
      (∀ c o, c ≠ z → c ≠ TO → c ≠ i1 → c ≠ i2 → s.heap.get? c = some o → h'.get? c = some o) → Q (some (.ref s.heap.objs.size)) { s with heap := h' }) :
    wpAny (model prog w) A (pyNext (.ref z)) Q E s := by
  have hT : s.TypeIs (.ref z) "zip" := ⟨_, zZ, rfl⟩; unfold pyNext
  exact wpAny_bind (wpAny_attempt (wpAny_callSpecial?_slot (name := Str.ofString "__next__") hT F.slot_zip_next
    (wpAny_call_entry F.slot_zip_next hT F.entry_zip_next
      (gx_zipN_item D zZ zI zO p1 p2 q1 q2 hx hy fun h' a1 a2 a3 a4 a5 a6 a7 => wpAny_pure (hQ h' a1 a2 a3 a4 a5 a6 a7)) (F.args_zip_next_1 _))))

theorem gx_zipB_end {b1 b2 : Bool} {z TI TO i1 i2 l1 l2 : Addr} {k1 k2 : Nat} {xs ys : Array Value} {a b : Value} {Q : Option Value → Shared → Prop} (hh : A.handled = none) (D : ZipApart z TI TO i1 i2 l1 l2)
    (zZ : IsZip s.heap z TI TO .none) (zI : IsPair s.heap TI (.ref i1) (.ref i2)) (zO : IsPair s.heap TO a b)
    (p1 : ItB b1 s.heap i1 l1 k1) (p2 : ItB b2 s.heap i2 l2 k2) (q1 : SqB b1 s.heap l1 xs) (q2 : SqB b2 s.heap l2 ys) (hend : xs[k1]? = none ∨ ys[k2]? = none)
    (hQ : ∀ h', (∀ c o, c ≠ z → c ≠ TO → c ≠ i1 → c ≠ i2 → s.heap.get? c = some o → h'.get? c = some o) → Q none { s with heap := h' }) : wpAny (model prog w) A (pyNext (.ref z)) Q E s := by
  have hT : s.TypeIs (.ref z) "zip" := ⟨_, zZ, rfl⟩; unfold pyNext; refine wpAny_bind (wpAny_attempt (wpAny_callSpecial?_slot (name := Str.ofString "__next__") hT F.slot_zip_next
    (wpAny_call_entry F.slot_zip_next hT F.entry_zip_next (gx_zipN_end hh D zZ zI zO p1 p2 q1 q2 hend fun h' e hk he => ?_) (F.args_zip_next_1 _))))
  obtain ⟨o, ho, hc⟩ := he; refine wpAny_bind (wpAny_isInstance (T := "StopIteration") (b := true) ⟨o, ho, hc⟩ isSubtype_stop ?_)
  exact wpAny_pure (hQ _ hk)

end
end PySem

set_option Elab.async false
set_option linter.all false
set_option maxRecDepth 100000
set_option maxHeartbeats 4000000
namespace PySem
open Sem (wp)

def itO (b : Bool) (l : Addr) : Obj := { cls := .type (match b with | true => "tuple_iterator" | false => "list_iterator"), data := .fields #[.ref l, .int 0 0] }
theorem gx_zip_new (b1 b2 : Bool) (l1 l2 : Addr) (xs ys : Array Value) :
    Meets (Builtin.«zip.__new__» ⟨[.type "zip", .ref l1, .ref l2], []⟩) (fun _ R s => SqB b1 s.heap l1 xs ∧ SqB b2 s.heap l2 ys ∧
      R (.ok (.ret (.ref ((((s.heap.push (itO b1 l1)).push (itO b2 l2)).push { cls := .type "tuple", data := .seq #[.ref s.heap.objs.size, .ref (s.heap.push (itO b1 l1)).objs.size] }).push { cls := .type "tuple", data := .seq #[.none, .none] }).objs.size)))
        { s with heap := (((((s.heap.push (itO b1 l1)).push (itO b2 l2)).push { cls := .type "tuple", data := .seq #[.ref s.heap.objs.size, .ref (s.heap.push (itO b1 l1)).objs.size] }).push { cls := .type "tuple", data := .seq #[.none, .none] }).push
          { cls := .type "zip", data := .fields #[.none, .bool false, .bool false, .ref ((s.heap.push (itO b1 l1)).push (itO b2 l2)).objs.size, .ref (((s.heap.push (itO b1 l1)).push (itO b2 l2)).push { cls := .type "tuple", data := .seq #[.ref s.heap.objs.size, .ref (s.heap.push (itO b1 l1)).objs.size] }).objs.size] }) }) :=
  .of_wp fun prog w A R s h => by
    obtain ⟨hp, g, d, tk, os⟩ := s; obtain ⟨q1, q2, h⟩ := h
    have hsub := sub_zip
    have q2' : SqB b2 (hp.push (itO b1 l1)) l2 ys := q2.at fun o e => Heap.get?_push_of_some _ e
    cases b1 with
    | true =>
      have hL1 : Heap.IsTuple (Shared.heap ⟨hp, g, d, tk, os⟩) l1 xs := q1
      cases b2 with
      | true =>
        have hL2 : Heap.IsTuple (Shared.heap ⟨hp.push { cls := .type "tuple_iterator", data := .fields #[.ref l1, .int 0 0] }, g, d, tk, os⟩) l2 ys := q2'
        wp_walk using wpAny_pyIter_tuple hL1, wpAny_pyIter_tuple hL2; exact ⟨_, rfl, h⟩
      | false =>
        have hL2 : Heap.IsList (Shared.heap ⟨hp.push { cls := .type "tuple_iterator", data := .fields #[.ref l1, .int 0 0] }, g, d, tk, os⟩) l2 ys := q2'
        wp_walk using wpAny_pyIter_tuple hL1, wpAny_pyIter_list hL2; exact ⟨_, rfl, h⟩
    | false =>
      have hL1 : Heap.IsList (Shared.heap ⟨hp, g, d, tk, os⟩) l1 xs := q1
      cases b2 with
      | true =>
        have hL2 : Heap.IsTuple (Shared.heap ⟨hp.push { cls := .type "list_iterator", data := .fields #[.ref l1, .int 0 0] }, g, d, tk, os⟩) l2 ys := q2'
        wp_walk using wpAny_pyIter_list hL1, wpAny_pyIter_tuple hL2; exact ⟨_, rfl, h⟩
      | false =>
        have hL2 : Heap.IsList (Shared.heap ⟨hp.push { cls := .type "list_iterator", data := .fields #[.ref l1, .int 0 0] }, g, d, tk, os⟩) l2 ys := q2'
        wp_walk using wpAny_pyIter_list hL1, wpAny_pyIter_list hL2; exact ⟨_, rfl, h⟩
end PySem

set_option Elab.async false
set_option linter.all false
set_option maxRecDepth 100000
set_option maxHeartbeats 4000000
namespace PySem
open Sem (wp)
section
variable {prog : Program} {w : World} {A : Around} {E : Value → Shared → Prop} {s : Shared}
theorem itO_at {b : Bool} {h : Heap} {it l : Addr} (e : h.get? it = some (itO b l)) : ItB b h it l 0 := by cases b <;> exact ⟨_, e, rfl, rfl⟩
theorem gx_call_zip {b1 b2 : Bool} {l1 l2 : Addr} {xs ys : Array Value} {Q : Value → Shared → Prop} (q1 : SqB b1 s.heap l1 xs) (q2 : SqB b2 s.heap l2 ys)
    (h : ∀ h' (n : Nat), n = s.heap.objs.size → IsZip h' (n + 4) (n + 2) (n + 3) .none → IsPair h' (n + 2) (.ref n) (.ref (n + 1)) → IsPair h' (n + 3) .none .none → ItB b1 h' n l1 0 → ItB b2 h' (n + 1) l2 0 →
      (∀ c o, s.heap.get? c = some o → h'.get? c = some o) → Q (.ref (n + 4)) { s with heap := h' }) :
    wpAny (model prog w) A (call (.type "zip") [.ref l1, .ref l2]) Q E s := by
  refine callType_new F.called_zip (by decide) (F.typeCall_zip_2 _ _) (F.newCall_zip_2 _ _) (fun obj => F.args_object_init_3 obj _ _) F.entry_zip_new (gx_zip_new b1 b2 l1 l2 xs ys) ⟨q1, q2, ?_⟩
  generalize ho1 : itO b1 l1 = o1
  generalize ho2 : itO b2 l2 = o2
  have z1 : (s.heap.push o1).objs.size = s.heap.objs.size + 1 := Heap.size_push ..
  have z2 : ((s.heap.push o1).push o2).objs.size = s.heap.objs.size + 2 := by rw [Heap.size_push, z1]
  rw [z1, z2]
  generalize hT1 : ({ cls := .type "tuple", data := .seq #[.ref s.heap.objs.size, .ref (s.heap.objs.size + 1)] } : Obj) = t1
  generalize hT2 : ({ cls := .type "tuple", data := .seq #[.none, .none] } : Obj) = t2
  have z3 : (((s.heap.push o1).push o2).push t1).objs.size = s.heap.objs.size + 3 := by rw [Heap.size_push, z2]
  have z4 : ((((s.heap.push o1).push o2).push t1).push t2).objs.size = s.heap.objs.size + 4 := by rw [Heap.size_push, z3]
  rw [z3, z4]
  generalize hZ : ({ cls := .type "zip", data := .fields #[.none, .bool false, .bool false, .ref (s.heap.objs.size + 2), .ref (s.heap.objs.size + 3)] } : Obj) = tz
  have g5 := Heap.get?_push_size ((((s.heap.push o1).push o2).push t1).push t2) (o := tz) (by rw [← hZ]; rfl)
  have g4 := Heap.get?_push_of_some tz (Heap.get?_push_size (((s.heap.push o1).push o2).push t1) (o := t2) (by rw [← hT2]; rfl))
  have g3 := Heap.get?_push_of_some tz (Heap.get?_push_of_some t2 (Heap.get?_push_size ((s.heap.push o1).push o2) (o := t1) (by rw [← hT1]; rfl)))
  have g2 := Heap.get?_push_of_some tz (Heap.get?_push_of_some t2 (Heap.get?_push_of_some t1 (Heap.get?_push_size (s.heap.push o1) (o := o2) (by rw [← ho2]; rfl))))
  have g1 := Heap.get?_push_of_some tz (Heap.get?_push_of_some t2 (Heap.get?_push_of_some t1 (Heap.get?_push_of_some o2 (Heap.get?_push_size s.heap (o := o1) (by rw [← ho1]; rfl)))))
  rw [z4] at g5
  rw [z3] at g4
  rw [z2] at g3
  rw [z1] at g2
  subst hZ hT1 hT2 ho1 ho2
  exact ⟨⟨_, g5, rfl⟩, h _ s.heap.objs.size rfl g5 g3 g4 (itO_at g1) (itO_at g2) fun c o x =>
    Heap.get?_push_of_some _ (Heap.get?_push_of_some _ (Heap.get?_push_of_some _ (Heap.get?_push_of_some _ (Heap.get?_push_of_some _ x))))⟩
end
end PySem
namespace L2
open PySem PySem.Spec PyProof.Rows
def SqV (b : Bool) (K : PySem.W.Frag) (H : Hp) (l : Addr) (xs : List V) : Prop := match b with | true => SqT K H l xs | false => SqL K H l xs
theorem Inv.sqv {X : Cx} {pins : List (Addr × Obj)} {σ : St} {H : Hp} {s : Shared} {b : Bool} {l : Addr} {xs : List V} (I : Inv X pins σ H s) (h : SqV b X.K H l xs) : ∃ its : List Value, Vals xs its ∧ SqB b s.heap l its.toArray := by
  cases b with
  | true => obtain ⟨its, r, p, _⟩ := I.tuple h; exact ⟨its, r, p⟩
  | false => obtain ⟨its, r, p, _⟩ := I.list h; exact ⟨its, r, p.isList⟩
theorem Inv.sqv_inj {X : Cx} {pins : List (Addr × Obj)} {σ : St} {H : Hp} {s : Shared} {b : Bool} {l : Addr} {xs ys : List V} (I : Inv X pins σ H s) (h : SqV b X.K H l xs) (h' : SqV b X.K H l ys) : xs = ys := by
  cases b with
  | true => exact I.tuple_inj h h'
  | false => exact I.list_inj h h'
theorem SqB.lt {b : Bool} {h : Heap} {l : Addr} {xs : Array Value} (p : SqB b h l xs) : l < h.objs.size := by
  cases b <;> (obtain ⟨o, ho, r⟩ := p; exact Heap.lt_size ho)

def Itz (K : PySem.W.Frag) (b1 b2 : Bool) (l1 l2 : Addr) : It :=
  ⟨fun i H => ∃ xs ys x y, SqV b1 K H l1 xs ∧ SqV b2 K H l2 ys ∧ xs[i]? = some x ∧ ys[i]? = some y,
   fun i H v H' => ∃ b, v = .ref b ∧ H b = none ∧ ∀ xs ys x y, SqV b1 K H l1 xs → SqV b2 K H l2 ys → xs[i]? = some x → ys[i]? = some y → H' = upd H b (.tup [x, y]),
   fun i H => ∃ xs ys, SqV b1 K H l1 xs ∧ SqV b2 K H l2 ys ∧ (xs[i]? = none ∨ ys[i]? = none)⟩
theorem turn_zip {P : Program} {w : World} {K : PySem.W.Frag} {elts : List Expr} {k : Nat} {pos : Pos} (b1 b2 : Bool) (z TI TO i1 i2 l1 l2 : Addr) (D : ZipApart z TI TO i1 i2 l1 l2) :
    Turn P w K (.Tuple elts k pos) (Itz K b1 b2 l1 l2) [z, TI, TO, i1, i2] z (fun i h => IsZip h z TI TO .none ∧ IsPair h TI (.ref i1) (.ref i2) ∧ (∃ a b, IsPair h TO a b) ∧ ItB b1 h i1 l1 i ∧ ItB b2 h i2 l2 i) where
  mem := by simp
  obj := fun i h st b hb => by
    obtain ⟨hz, hTI, ⟨a, c, hTO⟩, h1, h2⟩ := st
    simp only [List.mem_cons, List.not_mem_nil, or_false] at hb
    rcases hb with rfl | rfl | rfl | rfl | rfl
    · exact ⟨_, hz, fun v z => by cases (show Data.fields _ = Data.cell v from z)⟩
    · exact ⟨_, hTI, fun v z => by cases (show Data.seq _ _ = Data.cell v from z)⟩
    · exact ⟨_, hTO, fun v z => by cases (show Data.seq _ _ = Data.cell v from z)⟩
    · cases b1 <;> (obtain ⟨o, ho, hc, hd⟩ := h1; exact ⟨o, ho, fun v z => by rw [hd] at z; cases z⟩)
    · cases b2 <;> (obtain ⟨o, ho, hc, hd⟩ := h2; exact ⟨o, ho, fun v z => by rw [hd] at z; cases z⟩)
  keep := fun i h h' st kk => by
    obtain ⟨hz, hTI, ⟨a, c, hTO⟩, h1, h2⟩ := st
    exact ⟨kk _ (by simp) _ hz, kk _ (by simp) _ hTI, ⟨a, c, kk _ (by simp) _ hTO⟩, h1.at fun o e => kk _ (by simp) o e, h2.at fun o e => kk _ (by simp) o e⟩
  item := by
    intro X hP hw hK hc i pins s σ H E I hf st hg
    subst hP hw hK
    obtain ⟨hz, hTI, ⟨oa, ob, hTO⟩, h1, h2⟩ := st
    obtain ⟨xs, ys, x, y, e1, e2, hx, hy⟩ := hg
    obtain ⟨is1, r1, p1⟩ := I.sqv e1
    obtain ⟨is2, r2, p2⟩ := I.sqv e2
    obtain ⟨u, hu, ru⟩ := r1.get hx
    obtain ⟨v, hv, rv⟩ := r2.get hy
    refine gx_zipB_item D hz hTI hTO h1 h2 p1 p2 (by simpa using hu) (by simpa using hv) fun h' a1 a2 a3 a4 a5 a6 hk => ?_
    refine ⟨_, rfl, wpAny_letOwnedTupleGo_zip a1 fun h3 hz3 hs3 => ?_⟩
    have hs3 : Heap.SameBut z h' h3 := hs3
    have hzlt : z < s.heap.objs.size := Heap.lt_size hz
    have hfr : H s.heap.objs.size = none := I.hok.fresh (Nat.le_refl _)
    have hnS : s.heap.objs.size ≠ z := Nat.ne_of_gt hzlt
    have hT3 : IsPair h3 s.heap.objs.size u v := (hs3.2 _ hnS).trans a5
    refine ⟨.ref s.heap.objs.size, upd H s.heap.objs.size (.tup [x, y]), I.turnLaid (t' := s.toks) (ch := [z, TI, TO, i1, i2]) (fun b o hb q => ?_) hf (Nat.le_refl _) ?_, rfl, ⟨s.heap.objs.size, rfl, hfr, fun xs' ys' x' y' q1 q2 hx' hy' => ?_⟩, ⟨hz3, ?_, ⟨u, v, ?_⟩, ?_, ?_⟩, fun b hb => ?_⟩
    · have n1 : b ≠ z := fun zz => hb (by simp [zz])
      have n3 : b ≠ TO := fun zz => hb (by simp [zz])
      have n4 : b ≠ i1 := fun zz => hb (by simp [zz])
      have n5 : b ≠ i2 := fun zz => hb (by simp [zz])
      exact (hs3.2 b n1).trans (hk b o n1 n3 n4 n5 q)
    · exact ⟨by show 2 ≤ sizeLine; decide, [u, v], .cons ru (.cons rv .nil), ⟨_, hT3, rfl, _, rfl⟩⟩
    · have t1 := I.sqv_inj q1 e1
      have t2 := I.sqv_inj q2 e2
      subst t1 t2
      rw [hx] at hx'
      rw [hy] at hy'
      cases hx'
      cases hy'
      rfl
    · exact (hs3.2 _ D.TIz).trans (hk _ _ D.TIz D.TITO D.TIi1 D.TIi2 hTI)
    · exact (hs3.2 _ D.TOz).trans a2
    · exact a3.at fun o e => (hs3.2 _ D.i1z).trans e
    · exact a4.at fun o e => (hs3.2 _ D.i2z).trans e
    · have hb0 := (hf b hb).1
      rw [upd_ne]
      · exact hb0
      · intro zz
        subst zz
        simp only [List.mem_cons, List.not_mem_nil, or_false] at hb
        rcases hb with e | e | e | e | e
        · exact hnS e
        · exact absurd (Heap.lt_size hTI) (by rw [← e]; exact Nat.lt_irrefl _)
        · exact absurd (Heap.lt_size hTO) (by rw [← e]; exact Nat.lt_irrefl _)
        · exact absurd h1.lt (by rw [← e]; exact Nat.lt_irrefl _)
        · exact absurd h2.lt (by rw [← e]; exact Nat.lt_irrefl _)
  done := by
    intro X hP hw hK hc i pins s σ H E I hf st hg
    subst hP hw hK
    obtain ⟨hz, hTI, ⟨oa, ob, hTO⟩, h1, h2⟩ := st
    obtain ⟨xs, ys, e1, e2, hend⟩ := hg
    obtain ⟨is1, r1, p1⟩ := I.sqv e1
    obtain ⟨is2, r2, p2⟩ := I.sqv e2
    refine gx_zipB_end (I.ok.hd hc) D hz hTI hTO h1 h2 p1 p2 ?_ fun h' hk => ⟨rfl, ?_⟩
    · rcases hend with h | h
      · left; have := r1.none_of h; simpa using this
      · right; have := r2.none_of h; simpa using this
    · exact I.turnedL (t' := s.toks) (ch := [z, TI, TO, i1, i2]) (fun b o hb q => hk b o (fun zz => hb (by simp [zz])) (fun zz => hb (by simp [zz])) (fun zz => hb (by simp [zz])) (fun zz => hb (by simp [zz])) q) hf
  self := fun _ _ _ _ _ st h => wpAny_pyIter_zip st.1 h
section
variable {X : Cx}
def iZip (b1 b2 : Bool) (K : PySem.W.Frag) (ta : TA) : TI := fun σ H R => ta σ H fun vs H1 => ∃ l1 l2, vs = [.ref l1, .ref l2] ∧ (∃ xs, SqV b1 K H1 l1 xs) ∧ (∃ ys, SqV b2 K H1 l2 ys) ∧ R (Itz K b1 b2 l1 l2) H1
theorem pi_zip (b1 b2 : Bool) {a b : Expr} {ta : TA} {p pos tpos : Pos} {elts : List Expr} {k : Nat} (hg : Gl X "zip") (hm : X.mg "zip" = none) (ha : PA X [a, b] ta) (hs : starEach [a, b] X.env = (false, eval a X.env) :: starEach [b] X.env := by rfl) (hs2 : (backTo pos (starEach [b] X.env)).any (·.1) = false := by rfl) :
    PI X (.Tuple elts k tpos) (.Call (.Name "zip" p) [a, b] [] pos) (iZip b1 b2 X.K ta) := by
  intro pins s σ H R I h
  refine Call_ (ld_blt I hg hm bt_zip (PyProof.Rows.callWith_type1 (thn (ha pos pins s σ H _ I h) fun us s1 ⟨vs, H1, I1, r1, q1⟩ => ?_) hs hs2))
  obtain ⟨l1, l2, e, ⟨xs, hx⟩, ⟨ys, hy⟩, q⟩ := q1
  subst e
  cases r1 with
  | cons r rr =>
    cases rr with
    | cons r' rr =>
      cases rr
      cases r
      cases r'
      obtain ⟨is1, v1, p1⟩ := I1.sqv hx
      obtain ⟨is2, v2, p2⟩ := I1.sqv hy
      refine gx_call_zip p1 p2 fun h' n hn hz hTI hTO h1 h2 hk => ?_
      subst hn
      refine wpAny_pyIter_zip hz ?_
      refine ⟨s1.heap.objs.size + 4, [s1.heap.objs.size + 4, s1.heap.objs.size + 2, s1.heap.objs.size + 3, s1.heap.objs.size, s1.heap.objs.size + 1], _, _, H1, rfl, I1.kept (t' := s1.toks) hk, turn_zip b1 b2 _ _ _ _ _ l1 l2 (zipApart_new (SqB.lt p1) (SqB.lt p2)), ⟨hz, hTI, ⟨_, _, hTO⟩, h1, h2⟩, fun b hb => ?_, q⟩
      have hb' : s1.heap.objs.size ≤ b := by
        simp only [List.mem_cons, List.not_mem_nil, or_false] at hb
        rcases hb with e | e | e | e | e <;> rw [e] <;> first | exact Nat.le_refl _ | exact Nat.le_add_right _ _
      exact I1.fpOk hb' (I1.hok.fresh hb')
theorem for_zip {b1 b2 : Bool} {K : PySem.W.Frag} {l1 l2 : Addr} {xs ys : List V} {g : TG} {tb : TS} {D : Ends} {σ : St} {H : Hp} (Pv : Nat → St → Hp → Prop) (h0 : Pv 0 σ H) (hl : ∀ i σ H, i ≤ min xs.length ys.length → Pv i σ H → SqV b1 K H l1 xs ∧ SqV b2 K H l2 ys)
    (hs : ∀ i x y σ H b, xs[i]? = some x → ys[i]? = some y → Pv i σ H → H b = none → g (.ref b) σ (upd H b (.tup [x, y])) fun σ2 H2 => tb { D with nx := Pv (i + 1), ct := Pv (i + 1), bk := D.nx } σ2 H2) (hd : ∀ σ H, Pv (min xs.length ys.length) σ H → D.nx σ H) :
    ∃ W : Nat → Nat → St → Hp → Prop, (∃ m, W 0 m σ H) ∧ ∀ i m σ H, W i m σ H → ((Itz K b1 b2 l1 l2).stop i H ∧ D.nx σ H) ∨ ((Itz K b1 b2 l1 l2).go i H ∧ ∃ N : St → Hp → Prop, (∀ σ' H', N σ' H' → ∃ m', m' < m ∧ W (i + 1) m' σ' H') ∧ ∀ x H', (Itz K b1 b2 l1 l2).yld i H x H' → g x σ H' fun σ2 H2 => tb { D with nx := N, ct := N, bk := D.nx } σ2 H2) := by
  refine ⟨fun i m σ H => m = min xs.length ys.length - i ∧ i ≤ min xs.length ys.length ∧ Pv i σ H, ⟨min xs.length ys.length, by simp, Nat.zero_le _, h0⟩, ?_⟩
  rintro i m σ H ⟨rfl, hi, p⟩
  obtain ⟨q1, q2⟩ := hl i σ H hi p
  by_cases hlt : i < min xs.length ys.length
  · have l1' : i < xs.length := by omega
    have l2' : i < ys.length := by omega
    refine .inr ⟨⟨xs, ys, xs[i], ys[i], q1, q2, by simp [l1'], by simp [l2']⟩, Pv (i + 1), fun σ' H' p' => ⟨min xs.length ys.length - (i + 1), by omega, rfl, hlt, p'⟩, fun x H' y => ?_⟩
    obtain ⟨b, rfl, hb, y⟩ := y
    rw [y xs ys xs[i] ys[i] q1 q2 (by simp [l1']) (by simp [l2'])]
    exact hs i xs[i] ys[i] σ H b (by simp [l1']) (by simp [l2']) p hb
  · have e : i = min xs.length ys.length := by omega
    subst e
    refine .inl ⟨⟨xs, ys, q1, q2, ?_⟩, hd σ H p⟩
    rcases Nat.le_total xs.length ys.length with h | h
    · left; rw [Nat.min_eq_left h]; exact List.getElem?_eq_none (Nat.le_refl _)
    · right; rw [Nat.min_eq_right h]; exact List.getElem?_eq_none (Nat.le_refl _)
end
end L2

set_option Elab.async false
set_option linter.all false
set_option maxRecDepth 100000
set_option maxHeartbeats 4000000
namespace L2
open PySem PySem.Spec PyProof.Rows

section
variable {X : Cx} {k : Nat} {C f : Addr} {fd : FuncData} {ps : List Str} {sp : Sp} {x m qual : Str} {st : Stmt} {p pos apos : Pos} {o e : Expr} {es : List Expr} {ta : TE} {t : TA}
end
theorem u1' {A : Around} (h : A.units + 64 < cLine) : A.units + 1 < cLine := by omega
end L2

set_option Elab.async false
set_option linter.all false
set_option maxRecDepth 100000
set_option maxHeartbeats 4000000
namespace L2
open PySem PySem.Spec PyProof.Rows

section
variable {prog : Program} {w : World} {A : Around} {E : Value → Shared → Prop} {s : Shared}
end
end L2

set_option Elab.async false
set_option linter.all false
set_option maxRecDepth 100000
set_option maxHeartbeats 4000000
namespace L2
open PySem PySem.Spec PyProof.Rows

def sB : Stmt → List Stmt
  | .For _ _ b _ _ => b
  | .While _ b _ _ => b
  | .If _ b _ _ => b
  | _ => []
section
variable {g : TG} {tif : TT} {te : TE} {js : List (Option Nat)} {σ : St} {H : Hp} {Q : VK}

end
end L2

set_option Elab.async false
set_option linter.all false
set_option maxRecDepth 100000
set_option maxHeartbeats 4000000
namespace L2
open PySem PySem.Spec PyProof.Rows

inductive WVar (i : Nat) (σ : St) (H : Hp) (Q : VK) : Prop
  | mk (v : V) (h : σ[i]? = some (some v)) (q : Q v H) : WVar i σ H Q
def cVar (i : Nat) : TE := fun σ H Q => WVar i σ H Q
theorem pvC {X : Cx} (i : Nat) {x : Str} {pos : Pos} (hN : X.N[i]? = some x := by rfl) (hv : Vis X.env.scope x := by first | exact Or.inl rfl | exact Or.inr (Or.inl rfl) | exact Or.inr (Or.inr rfl)) (hd : (x == ("__debug__" : Str)) = false := by decide)
    (hcd : (x == ("__classdict__" : Str)) = false := by decide) : PE X (.Name x pos) (cVar i) := fun pins s σ H Q I h => pv i hN hv hd hcd pins s σ H Q I (let ⟨v, e, q⟩ := h; ⟨v, e, q⟩)
inductive WIxL (K : PySem.W.Frag) (x y : V) (H : Hp) (Q : VK) : Prop
  | mk (p : Addr) (xs : List V) (i : Int) (v : V) (h1 : x = .ref p) (h2 : y = .int i) (h3 : SqL K H p xs) (h4 : atI xs i = some v) (q : Q v H) : WIxL K x y H Q
def cIxL (K : PySem.W.Frag) : R2 := fun x y H Q => WIxL K x y H Q
theorem IxR.imp {X : Cx} {r r' : R2} (h : IxR X r) (f : ∀ x y H Q, r' x y H Q → r x y H Q) : IxR X r' := fun a b pins s σ H x y v u Q I r1 r2 q z => h a b pins s σ H x y v u Q I r1 r2 (f x y H Q q) z
theorem OpR.imp {X : Cx} {g : Value → Value → Sem Value} {r r' : R2} (h : OpR X g r) (f : ∀ x y H Q, r' x y H Q → r x y H Q) : OpR X g r' := fun pins s σ H x y v u Q I r1 r2 q => h pins s σ H x y v u Q I r1 r2 (f x y H Q q)
theorem CallR.imp {X : Cx} {g : Value} {r r' : List V → Hp → VK → Prop} (h : CallR X g r) (f : ∀ xs H Q, r' xs H Q → r xs H Q) : CallR X g r' := fun pins s σ H xs us Q I r1 q => h pins s σ H xs us Q I r1 (f xs H Q q)
theorem ixC_list {X : Cx} : IxR X (cIxL X.K) := ix_list.imp fun x y H Q h => let ⟨p, xs, i, v, h1, h2, h3, h4, q⟩ := h; ⟨p, xs, i, v, h1, h2, h3, h4, q⟩
inductive WI0 (g : Int → Int → V) (x y : V) (H : Hp) (Q : VK) : Prop
  | mk (i j : Int) (h1 : x = .int i) (h2 : y = .int j) (q : Q (g i j) H) : WI0 g x y H Q
def cI0 (g : Int → Int → V) : R2 := fun x y H Q => WI0 g x y H Q
theorem opC0 {X : Cx} {f : Value → Value → Sem Value} {g : Int → Int → V} (h : OpR X f (rI0 g)) : OpR X f (cI0 g) := h.imp fun x y H Q h => let ⟨i, j, h1, h2, q⟩ := h; ⟨i, j, h1, h2, q⟩
inductive WLen (K : PySem.W.Frag) (xs : List V) (H : Hp) (Q : VK) : Prop
  | mk (p : Addr) (ys : List V) (h1 : xs = [.ref p]) (h2 : SqL K H p ys ∨ SqT K H p ys) (q : Q (.int ys.length) H) : WLen K xs H Q
def cLen (K : PySem.W.Frag) : List V → Hp → VK → Prop := fun xs H Q => WLen K xs H Q
theorem callC_len {X : Cx} : CallR X (.builtin "len") (cLen X.K) := call_len_seq.imp fun xs H Q h => let ⟨p, ys, h1, h2, q⟩ := h; ⟨p, ys, h1, h2, q⟩
inductive WBl (x : V) (H : Hp) (Q : Bool → Hp → Prop) : Prop
  | mk (k : Bool) (h : x = .bl k) (q : Q k H) : WBl x H Q
def cTest (t : TE) : TT := fun σ H Q => t σ H fun x H' => WBl x H' Q
section
variable {X : Cx} {a b : Expr} {ta tb : TE} {pos : Pos}
theorem ptC_cmpR {op : CmpOp} {r : R2} (ho : OpR X (compareOp op) r) (ha : PE X a ta) (hb : PE X b tb) (hm : behindInMarks op b = false) : PT X (.Compare a [op] [b] pos) (cTest (tOp r ta tb)) := by
  intro pins s σ H Q I h
  refine wpAny_isTrue_Compare1 (thn (ha pins s σ H _ I h) fun v s1 ⟨x, H1, I1, r1, q1⟩ => thn (hb pins s1 σ H1 _ I1 q1) fun u s2 ⟨y, H2, I2, r2, q2⟩ =>
    thn (ho pins s2 σ H2 x y v u _ I2 r1 r2 q2) fun c s3 ⟨z, H3, I3, r3, w⟩ => ?_) hm
  obtain ⟨k, e, q3⟩ := w
  subst e
  cases r3
  exact wpAny_truthy_bool ⟨H3, I3, q3⟩
theorem ptC_val {e : Expr} {t : TE} (h : PE X e t) (he : ∀ whole, isTrue e X.env whole = (do let v ← whole; standAt e.pos; holding [v] (truthy v)) := by intro _; rfl) : PT X e (cTest t) := by
  intro pins s σ H Q I hw
  refine isTrue_plain (thn (h pins s σ H _ I hw) fun v s1 ⟨x, H1, I1, r1, q1⟩ => ?_) (he _)
  obtain ⟨d, rfl, q⟩ := q1
  cases r1
  exact wpAny_truthy_bool ⟨H1, I1, q⟩
end

end L2

set_option Elab.async false
set_option linter.all false
set_option maxRecDepth 100000
set_option maxHeartbeats 4000000
namespace L2
open PySem PySem.Spec PyProof.Rows PySem.Builtin PySem.Builtin.Str
section
variable {X : Cx}

theorem vals_numbered : ∀ (tk : Nat) (ys : List Str), Vals (ys.map V.str) (strValues (numbered tk ys))
  | _, [] => .nil
  | tk, y :: ys => .cons ⟨tk, rfl⟩ (vals_numbered (tk + 1) ys)
def rSplit : V → List V → Hp → VK → Prop := fun x xs H Q => ∃ z y, x = .str z ∧ xs = [.str y] ∧ (y.length == 0) = false ∧ z.length + 2 ≤ sizeLine ∧ ∀ l, H l = none → Q (.ref l) (upd H l (.lst ((Txt.split z y).map V.str)))
theorem mt_split : MtR X "str.split" rSplit := by
  intro pins s σ H x xs v us Q I rx r h
  obtain ⟨z, y, rfl, rfl, hy, hz, q⟩ := h
  obtain ⟨t, rfl⟩ := rx
  obtain ⟨u, rfl, t', rfl⟩ := vals1 r
  have hn : (partsBetween z (occurrences z y 0 z.length (z.length + 1)) y.length).length ≤ sizeLine := by
    have e1 := StrLaws.occ_length_le z y 0 z.length (z.length + 1)
    rw [length_partsBetween]; omega
  have fin : ∀ (ys : List Str) (tk : Tok) (vs : List Value), Txt.split z y = ys → ys.length ≤ sizeLine → Vals (ys.map V.str) vs → EP X pins σ Q (.ref s.heap.objs.size) { s with heap := s.heap.push { cls := .type "list", data := .seq vs.toArray }, toks := tk } := fun ys tk vs e hl hv => by
    refine ⟨.ref s.heap.objs.size, _, I.laid (a := s.heap.objs.size) (o := .lst (ys.map V.str)) (fun b o e => Heap.get?_push_of_some _ e) (Nat.le_refl _) ⟨by rw [List.length_map]; exact hl, vs, 0, hv, Heap.get?_push_size _ rfl⟩, rfl, ?_⟩
    rw [← e]
    exact q _ (I.hok.fresh (Nat.le_refl _))
  have line1 : 1 ≤ sizeLine := by decide
  cases h1 : (decide (z.length < y.length) || decide (strKind z < strKind y))
  · cases hf : (occurrences z y 0 z.length (z.length + 1)).isEmpty
    · refine call_meets F.slot_str_split (typeIs_str _ _ _) F.entry_str_split (F.args_str_split_2 _ _) (meets_str_split_sep z y t t' h1 hy hf (by omega) hn) ?_
      show wants _ _ _ { s with toks := _, heap := s.heap.push { cls := .type "list", data := .seq (strsFrom s.toks (partsBetween z (occurrences z y 0 z.length (z.length + 1)) y.length)).toArray } }
      rw [strsFrom_eq]
      exact fin _ _ _ ((if_neg (ne_true_of_eq_false h1)).trans (if_neg (ne_true_of_eq_false hf))) hn (vals_numbered _ _)
    · exact call_meets F.slot_str_split (typeIs_str _ _ _) F.entry_str_split (F.args_str_split_2 _ _) (meets_str_split_not_found z y t t' h1 hy hf)
        (fin [z] s.toks [.str z t] ((if_neg (ne_true_of_eq_false h1)).trans (if_pos hf)) line1 (.cons ⟨t, rfl⟩ .nil))
  · exact call_meets F.slot_str_split (typeIs_str _ _ _) F.entry_str_split (F.args_str_split_2 _ _) (meets_str_split_cannot_occur z y t t' h1)
      (fin [z] s.toks [.str z t] (if_pos h1) line1 (.cons ⟨t, rfl⟩ .nil))
def rUpper : V → List V → Hp → VK → Prop := fun x xs H Q => ∃ z, x = .str z ∧ xs = [] ∧ Q (.bl (Txt.isupper z)) H
theorem mt_isupper : MtR X "str.isupper" rUpper := by
  intro pins s σ H x xs v us Q I rx r h
  obtain ⟨z, rfl, rfl, q⟩ := h
  obtain ⟨t, rfl⟩ := rx
  cases r
  exact SC.isupper ⟨.bl (Txt.isupper z), H, I, rfl, q⟩

end
end L2

set_option Elab.async false
set_option linter.all false
set_option maxRecDepth 100000
set_option maxHeartbeats 4000000
namespace L2
open PySem PySem.Spec PyProof.Rows

abbrev Row2 := Str × (List V × List V)
def Two (K : PySem.W.Frag) (p : List V × List V) (v : Value) : Prop := ∃ a b c : Addr, v = .ref a ∧ (∀ H : Hp, SqT K H a [.ref b, .ref c]) ∧ (∀ H : Hp, SqT K H b p.1) ∧ ∀ H : Hp, SqT K H c p.2
def TabK2 (K : PySem.W.Frag) (d : Addr) (rows : List Row2) : Prop :=
  ∃ (o : Obj) (es : Array DictEntry) (ep : Nat), K.lookup d = some o ∧ (d == sysModules) = false ∧ o.ExactDict ∧ o.data = .dict es ep ∧ KTD.Rows (Two K) es.toList rows
def twoLook (K : PySem.W.Frag) (p : List V × List V) (v : Value) : Bool := match v with
  | .ref a => match K.lookup a with
    | some o => o.cls == .type "tuple" && (match o.data with | .seq its _ => (match its.toList with | [.ref b, .ref c] => tupLook K p.1 (.ref b) && tupLook K p.2 (.ref c) | _ => false) | _ => false)
    | none => false
  | _ => false
theorem two_of_look {K : PySem.W.Frag} (p : List V × List V) (v : Value) (h : twoLook K p v = true) : Two K p v := by
  unfold twoLook at h
  split at h
  · rename_i a
    split at h
    · rename_i o ho
      rw [Bool.and_eq_true] at h
      obtain ⟨h1, h2⟩ := h
      split at h2
      · rename_i its n hd
        split at h2
        · rename_i b c hb
          rw [Bool.and_eq_true] at h2
          obtain ⟨b', e1, q1⟩ := tup_of_look _ _ h2.1
          obtain ⟨c', e2, q2⟩ := tup_of_look _ _ h2.2
          cases e1
          cases e2
          have hs : its.size = 2 := by rw [← Array.length_toList, hb]; rfl
          exact ⟨a, b, c, rfl, fun H => .inr ⟨o, its, n, ho, beq_iff_eq.mp h1, hd, by rw [hs]; decide, by rw [hb]; exact .cons rfl (.cons rfl .nil)⟩, q1, q2⟩
        · cases h2
      · cases h2
    · cases h
  · cases h
theorem tabK2_of_look {K : PySem.W.Frag} {d : Addr} {rows : List Row2} (h : KTD.tabLook (twoLook K) (fun a => K.lookup a) d rows = true) : TabK2 K d rows := by
  simp only [KTD.tabLook, Bool.and_eq_true] at h
  obtain ⟨h0, hl⟩ := h
  split at hl
  · rename_i o ho
    simp only [Bool.and_eq_true] at hl
    obtain ⟨⟨⟨e1, e2⟩, e3⟩, e4⟩ := hl
    split at e4
    · rename_i es ep hd
      exact ⟨o, es, ep, ho, by simpa using h0, ⟨beq_iff_eq.mp e1, by simpa using e2, by simpa using e3⟩, hd, KTD.rows_of_look two_of_look e4⟩
    · cases e4
  · cases hl
def rIxTab2 (K : PySem.W.Frag) : R2 := fun x y H Q => ∃ d rows k p, x = .ref d ∧ y = .str k ∧ TabK2 K d rows ∧ KTD.datumAt k rows = some p ∧ ∀ a b c, SqT K H a [.ref b, .ref c] → SqT K H b p.1 → SqT K H c p.2 → Q (.ref a) H
theorem ix_tab2 {X : Cx} : IxR X (rIxTab2 X.K) := by
  intro value slice pins s σ H x y v u Q I rx ry h hs
  obtain ⟨d, rows, k, xs, rfl, rfl, ⟨o, es, ep, ho, lo, hc, hd, hr⟩, hk, q⟩ := h
  cases (show v = Value.ref d from rx)
  obtain ⟨t, rfl⟩ := (show ∃ t, u = Value.str k t from ry)
  have T : KTD.TabOf (Two X.K) s.heap d rows := ⟨lo, o, es, ep, I.kIn d o ho, hc, hd, hr⟩
  refine tail_any (tab_typeIs T) slot_dict_getitem.lookup (getItem_tab T hk fun v hv => ?_) hs
  obtain ⟨a, b, c, rfl, q0, q1, q2⟩ := hv
  exact ⟨.ref a, H, I.tok _, rfl, q a b c (q0 H) (q1 H) (q2 H)⟩
section
variable {prog : Program} {w : World} {A : Around} {E : Value → Shared → Prop} {s : Shared}
theorem gx_iter_keys {d : Addr} {o : Obj} {es : Array DictEntry} {ep : Nat} {Q : Value → Shared → Prop} (hd : (d == sysModules) = false) (ho : s.heap.get? d = some o) (hc : o.ExactDict) (hdat : o.data = .dict es ep)
    (hQ : Q (.ref s.heap.objs.size) { s with heap := s.heap.push { cls := .type "dict_keyiterator", data := .fields #[.ref d, .int 0 0, .int es.size 0, .int ep 0] } }) :
    wpAny (model prog w) A (pyIter (.ref d)) Q E s := by
  have hT : s.TypeIs (.ref d) "dict" := ⟨o, ho, hc.1⟩
  refine wpAny_pyIter_slot hT F.slot_dict_iter (wpAny_call_entry F.slot_dict_iter hT F.entry_dict_iter ?_ (F.args_dict_iter_1 _))
  unfold Builtin.«dict.__iter__»
  refine wpAny_bind ?_
  unfold Builtin.Dict.dictSlotNone
  refine wpAny_bind (wpAny_notOrdered_dict hT ?_)
  show wpAny _ _ (pure (Value.ref d)) _ _ s
  refine wpAny_pure ?_
  show wpAny _ _ (Builtin.Dict.showsAll d >>= _) _ _ s
  unfold Builtin.Dict.showsAll
  rw [if_neg (by rw [hd]; exact Bool.false_ne_true)]
  refine wpAny_bind (wpAny_pure ?_)
  refine wpAny_bind (wpAny_dictEntries ho hdat ?_)
  refine wpAny_bind (wpAny_dictEpoch ho hdat ?_)
  refine wpAny_bind (wpAny_newObj_type (wpAny_pure ⟨_, rfl, "dict_keyiterator", _, ⟨_, Heap.get?_push_size _ rfl, rfl⟩, F.slot_dict_keyiterator_next.lookup, ?_⟩))
  simpa [rawInt] using hQ
theorem gx_next_key {it d : Addr} {i ep : Nat} {od : Obj} {es : Array DictEntry} {Q : Option Value → Shared → Prop} (hit : s.heap.IsKeyIter it d i es.size ep) (hod : s.heap.get? d = some od) (hdd : od.data = .dict es ep) (hlt : i < es.size)
    (hQ : ∀ h', h'.IsKeyIter it d (i + 1) es.size ep → Heap.SameBut it s.heap h' → Q (some es[i].key) { s with heap := h' }) :
    wpAny (model prog w) A (pyNext (.ref it)) Q E s := by
  obtain ⟨o, ho, hc, hd⟩ := id hit
  unfold pyNext
  refine wpAny_bind (wpAny_attempt (wpAny_callSpecial?_slot (name := Str.ofString "__next__") hit.typeIs F.slot_dict_keyiterator_next
    (wpAny_call_entry F.slot_dict_keyiterator_next hit.typeIs F.entry_dict_keyiterator_next ?_ (F.args_dict_keyiterator_next_1 _))))
  refine wpAny_bind (wpAny_pure ?_)
  refine wpAny_bind ?_
  refine wpAny_bind ?_
  first | refine wpAny_bind (wpAny_typeNameOfWhole_keyiter hit.typeIs (wpAny_pure ?_)) | refine wpAny_bind (wpAny_typeNameOf_keyiter hit.typeIs (wpAny_pure ?_))
  refine wpAny_bind (wpAny_fieldsOf ho hd ?_)
  have hown : Builtin.Dict_items.ownsTuple "dict_keyiterator" = false := by decide
  simp only [hown, Bool.false_eq_true, if_false]
  show wpAny _ _ (if (Value.ref d == Value.none) = true then _ else _) _ _ s
  rw [if_neg (show ¬ ((Value.ref d == Value.none) = true) from Bool.false_ne_true)]
  refine wpAny_bind (wpAny_pure ?_)
  refine wpAny_bind (wpAny_dictEntries hod hdd ?_)
  rw [if_neg (by simp)]
  refine wpAny_bind (wpAny_pure ?_)
  refine wpAny_bind (wpAny_dictEpoch hod hdd ?_)
  rw [if_neg (by simp)]
  refine wpAny_pure ?_
  simp only [show ¬ ((i : Int) < 0) from by omega, if_false, Int.toNat_natCast, Array.getElem?_eq_getElem hlt]
  refine wpAny_bind ?_
  first | refine wpAny_bind (wpAny_typeNameOfWhole_keyiter hit.typeIs (wpAny_pure ?_)) | refine wpAny_bind (wpAny_typeNameOf_keyiter hit.typeIs (wpAny_pure ?_))
  refine wpAny_bind (wpAny_isOneOf_keyiter hit.typeIs ?_)
  show wpAny _ _ (setField (.ref it) 1 (rawInt ((i : Int) + 1)) >>= _) _ _ s
  refine wpAny_bind (wpAny_setField ho hd (by simp) ?_)
  have hit' : (s.heap.update it (Obj.mapFields (·.setIfInBounds 1 (rawInt ((i : Int) + 1))))).IsKeyIter it d (i + 1) es.size ep :=
    ⟨_, Heap.get?_update_self _ ho (Obj.isFreed_of_fields (Obj.data_mapFields hd _)), (Obj.cls_mapFields ..).trans hc, by rw [Obj.data_mapFields hd]; simp [rawInt]⟩
  refine wpAny_bind (wpAny_holding ?_)
  refine wpAny_bind (wpAny_isOneOf_keyiter (s := { s with heap := s.heap.update it (Obj.mapFields (·.setIfInBounds 1 (rawInt ((i : Int) + 1)))) }) hit'.typeIs ?_)
  show wpAny _ _ (pure es[i].key) _ _ _
  exact wpAny_pure (wpAny_pure ⟨_, rfl, wpAny_pure (hQ _ hit' (Heap.SameBut.update ..))⟩)
theorem gx_next_key_end {it d : Addr} {i ep : Nat} {od : Obj} {es : Array DictEntry} {Q : Option Value → Shared → Prop} (hh : A.handled = none) (hit : s.heap.IsKeyIter it d i es.size ep) (hod : s.heap.get? d = some od) (hdd : od.data = .dict es ep) (hge : es.size ≤ i)
    (hQ : ∀ h', Heap.ExtBut it s.heap h' → Q none { s with heap := h' }) : wpAny (model prog w) A (pyNext (.ref it)) Q E s := by
  obtain ⟨o, ho, hc, hd⟩ := id hit
  unfold pyNext
  refine wpAny_bind (wpAny_attempt (wpAny_callSpecial?_slot (name := Str.ofString "__next__") hit.typeIs F.slot_dict_keyiterator_next
    (wpAny_call_entry F.slot_dict_keyiterator_next hit.typeIs F.entry_dict_keyiterator_next ?_ (F.args_dict_keyiterator_next_1 _))))
  refine wpAny_bind (wpAny_pure ?_)
  refine wpAny_bind ?_
  refine wpAny_bind ?_
  first | refine wpAny_bind (wpAny_typeNameOfWhole_keyiter hit.typeIs (wpAny_pure ?_)) | refine wpAny_bind (wpAny_typeNameOf_keyiter hit.typeIs (wpAny_pure ?_))
  refine wpAny_bind (wpAny_fieldsOf ho hd ?_)
  have hown : Builtin.Dict_items.ownsTuple "dict_keyiterator" = false := by decide
  simp only [hown, Bool.false_eq_true, if_false]
  show wpAny _ _ (if (Value.ref d == Value.none) = true then _ else _) _ _ s
  rw [if_neg (show ¬ ((Value.ref d == Value.none) = true) from Bool.false_ne_true)]
  refine wpAny_bind (wpAny_pure ?_)
  refine wpAny_bind (wpAny_dictEntries hod hdd ?_)
  rw [if_neg (by simp)]
  refine wpAny_bind (wpAny_pure ?_)
  refine wpAny_bind (wpAny_dictEpoch hod hdd ?_)
  rw [if_neg (by simp)]
  refine wpAny_pure ?_
  simp only [show ¬ ((i : Int) < 0) from by omega, if_false, Int.toNat_natCast, Array.getElem?_eq_none hge]
  refine wpAny_bind ?_
  first | refine wpAny_bind (wpAny_typeNameOfWhole_keyiter hit.typeIs (wpAny_pure ?_)) | refine wpAny_bind (wpAny_typeNameOf_keyiter hit.typeIs (wpAny_pure ?_))
  show wpAny _ _ (setField (.ref it) 0 .none >>= _) _ _ s
  refine wpAny_bind (wpAny_setField ho hd (by simp) ?_)
  show wpAny _ _ (newExc (.type "StopIteration") [] >>= _) _ _ _
  refine wpAny_bind ?_
  simp only [newExc, newTuple]
  refine wpAny_bind (wpAny_newObj_type ?_ (by size_fits))
  refine wpAny_bind (m := firstArgMember _ _) (wpAny_of_eq (a := Value.none) (by first | rfl | (simp only [firstArgMember]; rfl)) ?_)
  refine wpAny_newObj_type ?_ (by size_fits)
  simp only [raiseNew]
  refine wpAny_bind (wpAny_handled ?_)
  rw [show A.in1.handled = none from hh]
  refine wpAny_bind (wpAny_pure (wpAny_throw ?_))
  refine wpAny_bind (wpAny_isInstance (T := "StopIteration") (b := true) ⟨_, Heap.get?_push_size _ rfl, rfl⟩ isSubtype_stop ?_)
  exact wpAny_pure (hQ _ (((Heap.SameBut.update ..).extBut.push _).push _))
end

def Itk (rows : List Row2) : It := ⟨fun i _ => i < rows.length, fun i H x H' => H' = H ∧ ∀ r, rows[i]? = some r → x = .str r.1, fun i _ => rows.length ≤ i⟩
theorem rows_len {K : PySem.W.Frag} : ∀ {l : List DictEntry} {D : List Row2}, KTD.Rows (Two K) l D → l.length = D.length
  | _, _, .nil => rfl
  | _, _, .cons _ _ r => by simp [rows_len r]
theorem rows_key {K : PySem.W.Frag} : ∀ {l : List DictEntry} {D : List Row2}, KTD.Rows (Two K) l D → ∀ {i : Nat} {e : DictEntry} {r : Row2}, l[i]? = some e → D[i]? = some r → ∃ t, e.key = .str r.1 t
  | _, _, .cons hk _ _, 0, _, _, h1, h2 => by cases h1; cases h2; exact ⟨_, hk⟩
  | _, _, .cons _ _ r, i + 1, _, _, h1, h2 => rows_key r (i := i) (by simpa using h1) (by simpa using h2)
theorem turn_keys {P : Program} {w : World} {K : PySem.W.Frag} {tg : Expr} (d it : Addr) (o : Obj) (es : Array DictEntry) (ep : Nat) (rows : List Row2) (ho : K.lookup d = some o) (hd : o.data = .dict es ep) (hr : KTD.Rows (Two K) es.toList rows) :
    Turn P w K tg (Itk rows) [it] it (fun i h => h.IsKeyIter it d i es.size ep) where
  mem := by simp
  obj := fun i h st b hb => by
    have e : b = it := by simpa using hb
    subst e
    obtain ⟨o, e, c, d⟩ := st
    exact ⟨o, e, fun v z => by rw [d] at z; cases z⟩
  keep := fun i h h' st k => st.at fun o e => k it (by simp) o e
  item := by
    intro X hP hw hK hc i pins s σ H E I hf st hg
    subst hP hw hK
    have hlen : es.size = rows.length := by rw [← rows_len hr]; simp
    have hlt : i < es.size := by rw [hlen]; exact hg
    have hg' : i < rows.length := hg
    obtain ⟨t, ek⟩ := rows_key hr (i := i) (e := es[i]) (r := rows[i]) (by simp [hlt]) (by simp [hg'])
    refine gx_next_key st (I.kIn d o ho) hd hlt fun h' st' sb => ?_
    rw [ek]
    have I1 : Inv X pins σ H { s with heap := h' } := I.turnedL (t' := s.toks) (ch := [it]) (fun b o hb e => (sb.2 b (fun z => hb (by simp [z]))).trans e) hf
    obtain ⟨o', e', c', d'⟩ := id st'
    have key : ∀ r, rows[i]? = some r → V.str rows[i].1 = V.str r.1 := fun r hr => by
      have : rows[i] = r := by simpa [hg'] using hr
      rw [this]
    exact ⟨_, rfl, go_of (s := { s with heap := h' }) e' c' d' (by decide) ⟨.str rows[i].1, H, I1, ⟨t, rfl⟩, ⟨rfl, key⟩, st', fun b hb => (hf b hb).1⟩⟩
  done := by
    intro X hP hw hK hc i pins s σ H E I hf st hg
    subst hP hw hK
    have hlen : es.size = rows.length := by rw [← rows_len hr]; simp
    have hg' : rows.length ≤ i := hg
    exact gx_next_key_end (I.ok.hd hc) st (I.kIn d o ho) hd (by omega) fun h' eb => ⟨rfl, I.turnedL (t' := s.toks) (ch := [it]) (fun b o hb e => eb b o (fun z => hb (by simp [z])) e) hf⟩
  self := fun _ _ _ _ _ st h => wpAny_pyIter_keyiter st h
section
variable {X : Cx} {tg : Expr}
def iKeys (K : PySem.W.Frag) (tl : TE) : TI := fun σ H R => tl σ H fun x H1 => ∃ d rows, x = .ref d ∧ TabK2 K d rows ∧ R (Itk rows) H1
theorem pi_keys {l : Expr} {tl : TE} (hl : PE X l tl) : PI X tg l (iKeys X.K tl) := by
  intro pins s σ H R I h
  refine thn (hl pins s σ H _ I h) fun v s1 ⟨x, H1, I1, r1, q1⟩ => ?_
  obtain ⟨d, rows, e, ⟨o, es, ep, ho, lo, hc, hd, hr⟩, q⟩ := q1
  subst e
  cases r1
  refine gx_iter_keys lo (I1.kIn d o ho) hc hd ?_
  refine ⟨s1.heap.objs.size, [s1.heap.objs.size], _, _, H1, rfl, I1.kept (t' := s1.toks) fun b o e => Heap.get?_push_of_some _ e, turn_keys d _ o es ep rows ho hd hr, ⟨_, Heap.get?_push_size _ rfl, rfl, rfl⟩, fun b hb => ?_, q⟩
  have e : b = s1.heap.objs.size := by simpa using hb
  subst e
  exact I1.fpOk (Nat.le_refl _) (I1.hok.fresh (Nat.le_refl _))
theorem for_keys {rows : List Row2} {g : TG} {tb : TS} {D : Ends} {σ : St} {H : Hp} (Pv : Nat → St → Hp → Prop) (h0 : Pv 0 σ H)
    (hs : ∀ i r σ H, rows[i]? = some r → Pv i σ H → g (.str r.1) σ H fun σ2 H2 => tb { D with nx := Pv (i + 1), ct := Pv (i + 1), bk := D.nx } σ2 H2) (hd : ∀ σ H, Pv rows.length σ H → D.nx σ H) :
    ∃ W : Nat → Nat → St → Hp → Prop, (∃ m, W 0 m σ H) ∧ ∀ i m σ H, W i m σ H → ((Itk rows).stop i H ∧ D.nx σ H) ∨ ((Itk rows).go i H ∧ ∃ N : St → Hp → Prop, (∀ σ' H', N σ' H' → ∃ m', m' < m ∧ W (i + 1) m' σ' H') ∧ ∀ x H', (Itk rows).yld i H x H' → g x σ H' fun σ2 H2 => tb { D with nx := N, ct := N, bk := D.nx } σ2 H2) := by
  refine ⟨fun i m σ H => m = rows.length - i ∧ i ≤ rows.length ∧ Pv i σ H, ⟨rows.length, by simp, Nat.zero_le _, h0⟩, ?_⟩
  rintro i m σ H ⟨rfl, hi, p⟩
  by_cases hlt : i < rows.length
  · refine .inr ⟨hlt, Pv (i + 1), fun σ' H' p' => ⟨rows.length - (i + 1), by omega, rfl, hlt, p'⟩, fun x H' y => ?_⟩
    obtain ⟨rfl, y⟩ := y
    rw [y rows[i] (by simp [hlt])]
    exact hs i rows[i] σ H' (by simp [hlt]) p
  · have e : i = rows.length := by omega
    subst e
    exact .inl ⟨Nat.le_refl _, hd σ H p⟩

def rIsT (K : PySem.W.Frag) : List V → Hp → VK → Prop := fun xs H Q => ∃ x p b, xs = [x, .ref p] ∧ H p = some (.tup [.ty "list", .ty "tuple"]) ∧
  ((b = true ∧ ∃ a, x = .ref a ∧ ((∃ ys, H a = some (.lst ys)) ∨ ∃ ys, H a = some (.tup ys))) ∨ b = false ∧ ((∃ z, x = .bl z) ∨ (∃ z, x = .int z) ∨ ∃ z, x = .str z)) ∧ Q (.bl b) H
theorem call_isinstT : CallR X (.builtin "isinstance") (rIsT X.K) := by
  intro pins s σ H xs us Q I r h
  obtain ⟨x, p, b, rfl, hp, hx, q⟩ := h
  obtain ⟨u, w', rfl, rx, rc⟩ := vals2 r
  cases (show w' = Value.ref p from rc)
  obtain ⟨z0, its, vv, ⟨o, h1, h2, n, h3⟩⟩ := (show ObjOk X.prog X.w H s.heap p (.tup [.ty "list", .ty "tuple"]) from I.hok p _ hp)
  obtain ⟨cl, dd, dat, sl⟩ := o
  cases (show cl = _ from h2)
  cases (show dat = _ from h3)
  have ei : its = [.type "list", .type "tuple"] := by
    cases vv with
    | cons a r => cases r with
      | cons b r => cases r; cases (show _ = Value.type "list" from a); cases (show _ = Value.type "tuple" from b); rfl
  subst ei
  have fin : ∀ tk, EP X pins σ Q (.bool b) { s with toks := tk } := fun tk => ⟨.bl b, H, I.tok _, rfl, q⟩
  rcases hx with ⟨rfl, a, rfl, ⟨ys, ea⟩ | ⟨ys, ea⟩⟩ | ⟨rfl, ⟨y, rfl⟩ | ⟨y, rfl⟩ | ⟨y, rfl⟩⟩
  · cases (show u = Value.ref a from rx)
    obtain ⟨_, _, m, _, g1⟩ := (show ObjOk X.prog X.w H s.heap a (.lst ys) from I.hok a _ ea)
    exact PySem.W.kia_tup PySem.W.kitx_list I.kIn ⟨_, g1, rfl⟩ h1 rfl (fun z => nomatch z) fin
  · cases (show u = Value.ref a from rx)
    obtain ⟨_, _, _, p⟩ := (show ObjOk X.prog X.w H s.heap a (.tup ys) from I.hok a _ ea)
    obtain ⟨o, g1, g2, _⟩ := p
    exact PySem.W.kia_tup PySem.W.kitx_tuple I.kIn ⟨o, g1, g2⟩ h1 rfl (fun z => nomatch z) fin
  · cases (show u = Value.bool y from rx)
    exact PySem.W.kia_tup PySem.W.kitx_bool I.kIn True.intro h1 rfl (fun z => nomatch z) fin
  · obtain ⟨t, e⟩ := (show ∃ t, u = Value.int y t from rx)
    cases e
    exact PySem.W.kia_tup PySem.W.kitx_int I.kIn True.intro h1 rfl (fun z => nomatch z) fin
  · obtain ⟨t, e⟩ := (show ∃ t, u = Value.str y t from rx)
    cases e
    exact PySem.W.kia_tup PySem.W.kitx_str I.kIn True.intro h1 rfl (fun z => nomatch z) fin
end
end L2

set_option Elab.async false
set_option linter.all false
set_option maxRecDepth 100000
set_option maxHeartbeats 4000000
namespace PySem
end PySem
namespace PySem
open Sem (wp)
abbrev IsZipA (h : Heap) (z TI TO T : Addr) (fb : Bool) : Prop :=
  h.get? z = some { cls := .type "zip", dict := none, data := .fields #[rawInt T, .bool fb, .bool false, .ref TI, .ref TO], slots := #[] }
section
variable {prog : Program} {w : World} {A : Around} {E : Value → Shared → Prop} {s : Shared}
def ZipSt (h : Heap) (z TI TO : Addr) : Option Addr → Prop
  | none => IsZip h z TI TO .none ∧ ∃ a b, IsPair h TO a b
  | some T => (∃ fb, IsZipA h z TI TO T fb) ∧ ∃ o, h.get? T = some o
theorem ZipSt.at {h h' : Heap} {z TI TO : Addr} {m : Option Addr} (p : ZipSt h z TI TO m) (ez : ∀ o, h.get? z = some o → h'.get? z = some o) (eT : ∀ o, h.get? TO = some o → h'.get? TO = some o) (em : ∀ T, m = some T → ∀ o, h.get? T = some o → h'.get? T = some o) : ZipSt h' z TI TO m := by
  cases m with
  | none => obtain ⟨a, b, c, d⟩ := p; exact ⟨ez _ a, b, c, eT _ d⟩
  | some T => obtain ⟨⟨fb, a⟩, o, ho⟩ := p; exact ⟨⟨fb, ez _ a⟩, o, em T rfl _ ho⟩
end
end PySem

set_option Elab.async false
set_option linter.all false
set_option maxRecDepth 100000
set_option maxHeartbeats 4000000
namespace L2
open PySem PySem.Spec PyProof.Rows
section
variable {X : Cx} {pins : List (Addr × Obj)} {σ : St} {H : Hp}

end
end L2

set_option Elab.async false
set_option linter.all false
set_option maxRecDepth 100000
set_option maxHeartbeats 4000000
namespace L2
open PySem PySem.Spec PyProof.Rows

section
variable {g : TG} {tif : TT} {te : TE} {js : List (Option Nat)} {σ : St} {H : Hp} {Q : VK}
def RelAcc (H : Hp) (p : Addr) (T : Nat → Hp → V → Prop) (i : Nat) (acc : List V) (H2 : Hp) : Prop := Same H H2 ∧ H2 p = some (.lst acc) ∧ acc.length = i ∧ ∀ (j : Nat) v, acc[j]? = some v → T j (ers p H2) v
theorem ersU {p : Addr} {H : Hp} {o : HO} : ers p (upd H p o) = ers p H := by
  funext b
  unfold ers
  by_cases h : b = p
  · rw [if_pos h, if_pos h]
  · rw [if_neg h, if_neg h, upd_ne h]
theorem rel_next {p : Addr} {T : Nat → Hp → V → Prop} {i : Nat} {acc : List V} {H2 H3 : Hp} {v : V} (tm : ∀ i v H H', Same H H' → T i H v → T i H' v) (hp : H p = none) (r : RelAcc H p T i acc H2) (s3 : Same H2 H3) (hv : T i (ers p H3) v) :
    H3 p = some (.lst acc) ∧ RelAcc H p T (i + 1) (acc ++ [v]) (upd H3 p (.lst (acc ++ [v]))) := by
  obtain ⟨s2, e2, rfl, ht⟩ := r
  refine ⟨s3 _ _ e2, (s2.trans s3).upd hp, upd_same, by simp, fun j u hu => ?_⟩
  rw [ersU]
  by_cases hj : j < acc.length
  · rw [List.getElem?_append_left hj] at hu
    exact tm _ _ _ _ (Same.ers s3) (ht j u hu)
  · have : j = acc.length := by
      have := (List.getElem?_eq_some_iff.mp hu).1
      simp at this
      omega
    subst this
    rw [List.getElem?_append_right (Nat.le_refl _)] at hu
    simp at hu
    rw [← hu]
    exact hv
theorem comp_relL {K : PySem.W.Frag} {a : Addr} {xs : List V} {p : Addr} (T : Nat → Hp → V → Prop) (tm : ∀ i v H H', Same H H' → T i H v → T i H' v) (hn : xs.length ≤ 1000000) (hS : SqL K H a xs) (hp : H p = none)
    (hs : ∀ i x H2 (R : VK), xs[i]? = some x → Same H H2 → (∃ acc, H2 p = some (.lst acc)) → (∀ v H3, Same H2 H3 → T i (ers p H3) v → R v H3) → g x (cap js σ) H2 fun σ2 H3 => tif σ2 H3 fun c H4 => if c = true then te σ2 H4 R else False)
    (hd : ∀ H2 vs, Same H H2 → H2 p = some (.lst vs) → vs.length = xs.length → (∀ (i : Nat) v, vs[i]? = some v → T i (ers p H2) v) → Q (.ref p) H2) (mono : ∀ x H2 (M M' : St → Hp → Prop), (∀ σ' H', M σ' H' → M' σ' H') → g x (cap js σ) H2 M → g x (cap js σ) H2 M' := by intro _ _ _ _ h z; exact h _ _ z) (mon2 : ∀ σ2 H2 (M M' : Bool → Hp → Prop), (∀ c H', M c H' → M' c H') → tif σ2 H2 M → tif σ2 H2 M' := by intro _ _ _ _ h z; exact h _ _ z) :
    CompW (Itl K a) g tif te js σ Q p H := by
  refine comp_list hn (RelAcc H p T) ⟨Same.new hp, upd_same, rfl, fun j v h => by simp at h⟩ ?_ ?_ ?_
  · rintro i acc H2 hi ⟨s2, e2, l2, _⟩
    exact ⟨e2, by omega, s2.seq hS⟩
  · rintro i x acc H2 hx r
    refine mono _ _ _ _ (fun σ' H' z => ?_) (hs i x H2 _ hx r.1 ⟨acc, r.2.1⟩ fun v H3 s3 t3 => rel_next tm hp r s3 t3)
    refine mon2 _ _ _ _ (fun c H'' zz => ?_) z
    cases c with
    | true => exact zz
    | false => exact zz.elim
  · rintro acc H2 ⟨s2, e2, l2, t2⟩
    exact hd H2 acc s2 e2 l2 t2
theorem comp_relT {K : PySem.W.Frag} {a : Addr} {xs : List V} {p : Addr} (T : Nat → Hp → V → Prop) (tm : ∀ i v H H', Same H H' → T i H v → T i H' v) (hn : xs.length ≤ 1000000) (hS : SqT K H a xs) (hp : H p = none)
    (hs : ∀ i x H2 (R : VK), xs[i]? = some x → Same H H2 → (∃ acc, H2 p = some (.lst acc)) → (∀ v H3, Same H2 H3 → T i (ers p H3) v → R v H3) → g x (cap js σ) H2 fun σ2 H3 => tif σ2 H3 fun c H4 => if c = true then te σ2 H4 R else False)
    (hd : ∀ H2 vs, Same H H2 → H2 p = some (.lst vs) → vs.length = xs.length → (∀ (i : Nat) v, vs[i]? = some v → T i (ers p H2) v) → Q (.ref p) H2) (mono : ∀ x H2 (M M' : St → Hp → Prop), (∀ σ' H', M σ' H' → M' σ' H') → g x (cap js σ) H2 M → g x (cap js σ) H2 M' := by intro _ _ _ _ h z; exact h _ _ z) (mon2 : ∀ σ2 H2 (M M' : Bool → Hp → Prop), (∀ c H', M c H' → M' c H') → tif σ2 H2 M → tif σ2 H2 M' := by intro _ _ _ _ h z; exact h _ _ z) :
    CompW (Itt K a) g tif te js σ Q p H := by
  refine comp_tup hn (RelAcc H p T) ⟨Same.new hp, upd_same, rfl, fun j v h => by simp at h⟩ ?_ ?_ ?_
  · rintro i acc H2 hi ⟨s2, e2, l2, _⟩
    exact ⟨e2, by omega, s2.tup hS⟩
  · rintro i x acc H2 hx r
    refine mono _ _ _ _ (fun σ' H' z => ?_) (hs i x H2 _ hx r.1 ⟨acc, r.2.1⟩ fun v H3 s3 t3 => rel_next tm hp r s3 t3)
    refine mon2 _ _ _ _ (fun c H'' zz => ?_) z
    cases c with
    | true => exact zz
    | false => exact zz.elim
  · rintro acc H2 ⟨s2, e2, l2, t2⟩
    exact hd H2 acc s2 e2 l2 t2
theorem comp_relR {lo : Int} {n : Nat} {p : Addr} (T : Nat → Hp → V → Prop) (tm : ∀ i v H H', Same H H' → T i H v → T i H' v) (hn : n ≤ 1000000) (hp : H p = none)
    (hs : ∀ i H2 (R : VK), i < n → Same H H2 → (∃ acc, H2 p = some (.lst acc)) → (∀ v H3, Same H2 H3 → T i (ers p H3) v → R v H3) → g (.int (lo + i)) (cap js σ) H2 fun σ2 H3 => tif σ2 H3 fun c H4 => if c = true then te σ2 H4 R else False)
    (hd : ∀ H2 vs, Same H H2 → H2 p = some (.lst vs) → vs.length = n → (∀ (i : Nat) v, vs[i]? = some v → T i (ers p H2) v) → Q (.ref p) H2) (mono : ∀ x H2 (M M' : St → Hp → Prop), (∀ σ' H', M σ' H' → M' σ' H') → g x (cap js σ) H2 M → g x (cap js σ) H2 M' := by intro _ _ _ _ h z; exact h _ _ z) (mon2 : ∀ σ2 H2 (M M' : Bool → Hp → Prop), (∀ c H', M c H' → M' c H') → tif σ2 H2 M → tif σ2 H2 M' := by intro _ _ _ _ h z; exact h _ _ z) :
    CompW (Itr lo n) g tif te js σ Q p H := by
  refine comp_range hn (RelAcc H p T) ⟨Same.new hp, upd_same, rfl, fun j v h => by simp at h⟩ ?_ ?_ ?_
  · rintro i acc H2 hi ⟨s2, e2, l2, _⟩
    exact ⟨e2, by omega⟩
  · rintro i acc H2 hx r
    refine mono _ _ _ _ (fun σ' H' z => ?_) (hs i H2 _ hx r.1 ⟨acc, r.2.1⟩ fun v H3 s3 t3 => rel_next tm hp r s3 t3)
    refine mon2 _ _ _ _ (fun c H'' zz => ?_) z
    cases c with
    | true => exact zz
    | false => exact zz.elim
  · rintro acc H2 ⟨s2, e2, l2, t2⟩
    exact hd H2 acc s2 e2 l2 t2
end

def rIxA (K : PySem.W.Frag) : R2 := fun x y H Q => rIxL K x y H Q ∨ rIxT K x y H Q
theorem ix_any {X : Cx} : IxR X (rIxA X.K) := ix_list.or ix_tup
end L2

set_option Elab.async false
set_option linter.all false
set_option maxRecDepth 100000
set_option maxHeartbeats 4000000
namespace K14
open PySem PySem.NumText L2 K11

def jl (c : Nat) : List (List Nat) → List Nat
  | [] => []
  | [x] => x
  | x :: y :: r => x ++ c :: jl c (y :: r)
theorem str_ext {a b : Str} (h : a.cps.toList = b.cps.toList) : a = b := by
  cases a
  cases b
  have := Array.toList_inj.mp h
  simp only at this
  rw [this]
theorem app_cps (a b : Str) : (a ++ b).cps.toList = a.cps.toList ++ b.cps.toList := by
  show (a.cps ++ b.cps).toList = _
  simp
theorem join_cps (c : Nat) : ∀ ws : List Str, (Str.join ⟨#[c]⟩ ws).cps.toList = jl c (ws.map (·.cps.toList))
  | [] => rfl
  | [x] => rfl
  | x :: y :: r => by
    show (x ++ ⟨#[c]⟩ ++ Str.join ⟨#[c]⟩ (y :: r)).cps.toList = _
    rw [app_cps, app_cps, join_cps c (y :: r)]
    show x.cps.toList ++ [c] ++ _ = x.cps.toList ++ c :: _
    simp
theorem cut_inj {c : Nat} : ∀ {x x' r r' : List Nat}, c ∉ x → c ∉ x' → x ++ c :: r = x' ++ c :: r' → x = x' ∧ r = r'
  | [], [], r, r', _, _, h => by simpa using h
  | [], a :: x', r, r', _, h2, h => by
    have h : c :: r = a :: (x' ++ c :: r') := h
    injection h with e _
    exact absurd (by rw [e]; exact List.mem_cons_self) h2
  | a :: x, [], r, r', h1, _, h => by
    have h : a :: (x ++ c :: r) = c :: r' := h
    injection h with e _
    exact absurd (by rw [← e]; exact List.mem_cons_self) h1
  | a :: x, b :: x', r, r', h1, h2, h => by
    have h : a :: (x ++ c :: r) = b :: (x' ++ c :: r') := h
    injection h with e1 e2
    obtain ⟨e3, e4⟩ := cut_inj (fun z => h1 (List.mem_cons_of_mem _ z)) (fun z => h2 (List.mem_cons_of_mem _ z)) e2
    exact ⟨by rw [e1, e3], e4⟩
theorem jl_inj {c : Nat} : ∀ {p q : List (List Nat)}, p ≠ [] → q ≠ [] → (∀ x ∈ p, c ∉ x) → (∀ x ∈ q, c ∉ x) → jl c p = jl c q → p = q
  | [], _, h, _, _, _, _ => absurd rfl h
  | _, [], _, h, _, _, _ => absurd rfl h
  | [x], [y], _, _, _, _, h => by have h : x = y := h; rw [h]
  | [x], y :: z :: r, _, _, h1, _, h => by
    have h : x = y ++ c :: jl c (z :: r) := h
    exact absurd (by rw [h]; simp) (h1 x (by simp))
  | y :: z :: r, [x], _, _, _, h2, h => by
    have h : y ++ c :: jl c (z :: r) = x := h
    exact absurd (by rw [← h]; simp) (h2 x (by simp))
  | x :: x2 :: r, y :: y2 :: r', _, _, h1, h2, h => by
    have h : x ++ c :: jl c (x2 :: r) = y ++ c :: jl c (y2 :: r') := h
    obtain ⟨e1, e2⟩ := cut_inj (h1 x (by simp)) (h2 y (by simp)) h
    rw [e1, jl_inj (by simp) (by simp) (fun z hz => h1 z (List.mem_cons_of_mem _ hz)) (fun z hz => h2 z (List.mem_cons_of_mem _ hz)) e2]
theorem split_ne (x y : Str) : Txt.split x y ≠ [] := by
  unfold Txt.split
  split
  · simp
  · split
    · simp
    · intro h
      have := congrArg List.length h
      rw [length_partsBetween] at this
      simp at this
def Free (c : Nat) (w : Str) : Prop := c ∉ w.cps.toList
theorem split_join {c : Nat} {ws : List Str} (h0 : ws ≠ []) (h : ∀ w ∈ ws, Free c w) : Txt.split (Txt.join ⟨#[c]⟩ ws) ⟨#[c]⟩ = ws := by
  have e : Txt.join ⟨#[c]⟩ ws = Str.join ⟨#[c]⟩ ws := StrLaws.glued_eq_join _ _
  have e1 := StrLaws.join_split (Txt.join ⟨#[c]⟩ ws) ⟨#[c]⟩
  have e2 := congrArg (fun z : Str => z.cps.toList) (e1.trans e)
  simp only [join_cps] at e2
  have e3 := jl_inj (by simpa using split_ne _ _) (by simpa using h0) (fun x hx => by
    obtain ⟨p, hp, rfl⟩ := List.mem_map.mp hx
    exact StrLaws.split_free _ _ p hp) (fun x hx => by
    obtain ⟨p, hp, rfl⟩ := List.mem_map.mp hx
    exact h p hp) e2
  exact (List.map_inj_right fun a b => str_ext).mp e3
theorem free_join {c d : Nat} (hcd : c ≠ d) : ∀ {ws : List Str}, (∀ w ∈ ws, Free c w) → Free c (Txt.join ⟨#[d]⟩ ws) := by
  have key : ∀ l : List (List Nat), (∀ x ∈ l, c ∉ x) → c ∉ jl d l := by
    intro l
    induction l with
    | nil => intro _; simp [jl]
    | cons x r ih =>
      intro h
      cases r with
      | nil => exact h x (by simp)
      | cons y r =>
        show c ∉ x ++ d :: jl d (y :: r)
        have h1 := h x (by simp)
        have h2 := ih fun z hz => h z (List.mem_cons_of_mem _ hz)
        simp only [List.mem_append, List.mem_cons, not_or]
        exact ⟨h1, hcd, h2⟩
  intro ws h
  have e : Txt.join ⟨#[d]⟩ ws = Str.join ⟨#[d]⟩ ws := StrLaws.glued_eq_join _ _
  unfold Free
  rw [e, join_cps]
  exact key _ fun x hx => by
    obtain ⟨p, hp, rfl⟩ := List.mem_map.mp hx
    exact h p hp
theorem len_join (sep : Str) (ws : List Str) : (Txt.join sep ws).length ≤ (ws.map (·.length)).sum + ws.length * sep.length := by
  rw [show Txt.join sep ws = Str.join sep ws from StrLaws.glued_eq_join _ _]
  exact StrLaws.join_length_le sep ws
theorem sum_le {ws : List Str} {n : Nat} (h : ∀ w ∈ ws, w.length ≤ n) : (ws.map (·.length)).sum ≤ ws.length * n := by
  induction ws with
  | nil => simp
  | cons w r ih =>
    have h1 := h w (by simp)
    have h2 := ih fun z hz => h z (List.mem_cons_of_mem _ hz)
    simp only [List.map_cons, List.sum_cons, List.length_cons]
    rw [Nat.succ_mul]
    omega
theorem len_join_le {sep : Str} {ws : List Str} {n m : Nat} (hs : sep.length = 1) (h : ∀ w ∈ ws, w.length ≤ n) (hm : ws.length ≤ m) : (Txt.join sep ws).length ≤ m * (n + 1) := by
  have h1 := len_join sep ws
  have h2 := sum_le h
  rw [hs] at h1
  have h3 : ws.length * (n + 1) ≤ m * (n + 1) := Nat.mul_le_mul_right _ hm
  rw [Nat.mul_succ] at h3
  omega

theorem digits_ex : ∀ (n : Nat), ∃ cs : List Nat, AllDigits cs ∧ digitsVal cs = n ∧ (cs.length = 1 ∨ ∃ c r, cs = c :: r ∧ 49 ≤ c) ∧ 0 < cs.length ∧ ∀ k, 0 < k → n < 10 ^ k → cs.length ≤ k := by
  intro n
  induction n using Nat.strongRecOn with
  | _ n ih =>
    by_cases h : n < 10
    · refine ⟨[48 + n], fun c hc => ?_, ?_, .inl rfl, Nat.one_pos, fun k hk _ => hk⟩
      · have : c = 48 + n := by simpa using hc
        omega
      · show 0 * 10 + (48 + n - 48) = n
        omega
    · obtain ⟨cs, h1, h2, h3, h4, h5⟩ := ih (n / 10) (by omega)
      refine ⟨cs ++ [48 + n % 10], fun c hc => ?_, ?_, ?_, by simp, fun k hk hn => ?_⟩
      · rcases List.mem_append.mp hc with hc | hc
        · exact h1 c hc
        · have : c = 48 + n % 10 := by simpa using hc
          omega
      · rw [digitsVal_snoc, h2]
        omega
      · right
        rcases h3 with h3 | ⟨c, r, rfl, hc⟩
        · obtain ⟨c, rfl⟩ : ∃ c, cs = [c] := by
            cases cs with
            | nil => simp at h3
            | cons c r => cases r with
              | nil => exact ⟨c, rfl⟩
              | cons d r => simp at h3
          refine ⟨c, [48 + n % 10], rfl, ?_⟩
          have e : digitsVal [c] = c - 48 := by show 0 * 10 + (c - 48) = c - 48; omega
          rw [e] at h2
          have := h1 c (by simp)
          omega
        · exact ⟨c, r ++ [48 + n % 10], rfl, hc⟩
      · cases k with
        | zero => omega
        | succ k =>
          cases k with
          | zero => simp at hn; omega
          | succ k =>
            have := h5 (k + 1) (by omega) (by rw [Nat.pow_succ] at hn; omega)
            simp only [List.length_append, List.length_singleton]
            omega
theorem text_ex {i : Int} (h0 : 0 ≤ i) : ∃ cs : List Nat, ((toString i : String) : Str).cps.toList = cs ∧ AllDigits cs ∧ (digitsVal cs : Int) = i ∧ (cs.length = 1 ∨ ∃ c r, cs = c :: r ∧ 49 ≤ c) ∧ 0 < cs.length ∧ ∀ k, 0 < k → i < 10 ^ k → cs.length ≤ k := by
  obtain ⟨m, rfl⟩ := Int.eq_ofNat_of_zero_le h0
  obtain ⟨cs, h1, h2, h3, h4, h5⟩ := digits_ex m
  refine ⟨cs, ?_, h1, by rw [h2], h3, h4, fun k hk hn => h5 k hk (by exact_mod_cast hn)⟩
  have e : toString (m : Int) = Nat.repr m := rfl
  rw [e]
  show ((cpsOfBytes 0 0 (Nat.repr m).toByteArray.data.toList).toArray).toList = cs
  rw [cpsOfBytes_string, List.toList_toArray]
  have e2 : (Nat.repr m).toList = Nat.toDigits 10 m := by
    unfold Nat.repr
    simp
  have e3 : Nat.toDigits 10 m = cs.map Char.ofNat := by
    rw [← h2]
    obtain ⟨k, hk⟩ : ∃ k, cs.length = k + 1 := ⟨cs.length - 1, by omega⟩
    exact toDigits_digitsVal k cs hk h1 (h3.elim (fun h => .inl (by omega)) .inr)
  rw [e2, e3]
  show ((cs.map Char.ofNat).map Char.toNat) = cs
  rw [List.map_map]
  have : ∀ c ∈ cs, (Char.toNat ∘ Char.ofNat) c = c := fun c hc => by
    have hh := h1 c hc
    have : c = 48 ∨ c = 49 ∨ c = 50 ∨ c = 51 ∨ c = 52 ∨ c = 53 ∨ c = 54 ∨ c = 55 ∨ c = 56 ∨ c = 57 := by omega
    rcases this with e | e | e | e | e | e | e | e | e | e <;> subst e <;> decide
  rw [List.map_congr_left this]
  simp

def txt : V → Str
  | .int i => (toString i : String)
  | .str x => x
  | _ => ""
def GoodA (v : V) : Prop := (∃ x, v = .str x ∧ named x = true) ∨ ∃ i, v = .int i ∧ 0 ≤ i ∧ i < 2 ^ 48
def atomF (x : Str) : V := if named x = true then .str x else lawVal x
theorem figs_not_letter {c : Nat} (h : 48 ≤ c ∧ c ≤ 57) : inS c letters = false := by
  rw [inS_iff]
  have e : letters.cps.toList = [97, 98, 99, 100, 101, 102, 103, 104, 105, 106, 107, 108, 109, 110, 111, 112, 113, 114, 115, 116, 117, 118, 119, 120, 121, 122] := by decide +kernel
  rw [e]
  refine decide_eq_false fun z => ?_
  simp at z
  omega
theorem inS_fig {c : Nat} (h : 48 ≤ c ∧ c ≤ 57) : inS c figs = true := by
  have : c = 48 ∨ c = 49 ∨ c = 50 ∨ c = 51 ∨ c = 52 ∨ c = 53 ∨ c = 54 ∨ c = 55 ∨ c = 56 ∨ c = 57 := by omega
  rcases this with e | e | e | e | e | e | e | e | e | e <;> subst e <;> decide +kernel
theorem named_all {x : Str} (h : named x = true) : allIn x letters = true ∧ 0 < x.length ∧ x.length ≤ 8 ∧ isTaken x = false := by
  unfold named within at h
  simp only [Bool.and_eq_true, decide_eq_true_eq, Bool.not_eq_true'] at h
  obtain ⟨h1, ⟨h2, h3⟩, h4⟩ := h
  exact ⟨h2, by omega, by omega, h4⟩
theorem atom_back {a : V} (h : GoodA a) : atomF (txt a) = a := by
  rcases h with ⟨x, rfl, hx⟩ | ⟨i, rfl, h0, h1⟩
  · show atomF x = _
    unfold atomF
    rw [if_pos hx]
  · show atomF ((toString i : String) : Str) = _
    obtain ⟨cs, e, hd, hv, hl, hp, hk⟩ := text_ex h0
    generalize ((toString i : String) : Str) = w at e
    have hlen : w.length = cs.length := by rw [← len_cps, e]
    have hlt : cs.length ≤ 15 := hk 15 (by decide) (by omega)
    have hn : named w = false := by
      cases hq : named w with
      | false => rfl
      | true =>
        obtain ⟨h2, h3, h4, _⟩ := named_all hq
        cases cs with
        | nil => simp at hp
        | cons c r =>
          have := List.all_eq_true.mp h2 c (by rw [e]; simp)
          rw [figs_not_letter (hd c (by simp))] at this
          cases this
    have hall : allIn w figs = true := List.all_eq_true.mpr fun c hc => inS_fig (hd c (by rw [← e]; exact hc))
    unfold atomF
    rw [hn, if_neg (by simp)]
    unfold lawVal
    have ht : total w = i := by rw [total_digits hall, e]; exact hv
    have hw : within w figs = true := by unfold within; rw [hall]; simp; omega
    have hz : ¬ (1 < w.length ∧ first w = some 48) := by
      rintro ⟨z1, z2⟩
      unfold first at z2
      rw [e] at z2
      rcases hl with hl | ⟨c, r, rfl, hc⟩
      · omega
      · simp at z2
        omega
    rw [if_pos ⟨hw, hz, by rw [ht]; exact h1⟩, ht]
end K14

set_option Elab.async false
set_option linter.all false
set_option maxRecDepth 100000
set_option maxHeartbeats 4000000
namespace K14
open PySem PySem.NumText L2 K11
def signs : List Str := ["+", "-", "*", "/", "<", "=", "&", "|", "^"]
def forms : List (Str × List Str × List Str) := [("copy", ["X", "A"], ["X", "=", "A"]), ("op", ["X", "S", "A", "B"], ["X", "=", "A", "S", "B"]), ("new", ["X"], ["X", "=", "new"]), ("get", ["X", "A", "F"], ["X", "=", "get", "A", "F"]),
  ("put", ["A", "F", "B"], ["put", "A", "F", "B"]), ("call", ["X", "G"], ["X", "=", "call", "G"]), ("out", ["A"], ["out", "A"]), ("back", ["A"], ["back", "A"]), ("if", ["A"], ["if", "A"]), ("while", ["A"], ["while", "A"]), ("else", [], ["else"]), ("end", [], ["end"])]
def formsV : List Row2 := forms.map fun r => (r.1, (r.2.1.map V.str, r.2.2.map V.str))
def isSign (w : Str) : Bool := inV (.str w) (signs.map V.str)
def partV (w p : Str) : V := if inV (.str p) [.str "A", .str "B"] = true then atomF w else if decide (V.str p = V.str "S") = true then (if isSign w = true then .str w else .non) else if named w = true then .str w else .non
def partsF : List (Str × Str) → List (Key × V) → Option (List (Key × V))
  | [], acc => some acc
  | (w, p) :: r, acc => if Txt.isupper p = true then (if partV w p = .non then none else partsF r (putK acc (.inr p) (partV w p))) else if w = p then partsF r acc else none
def partsG (ws fs : List Str) : Option (List (Key × V)) := if ws.length < fs.length then none else partsF (ws.zip fs) []
abbrev Out := Str × List V × Option (List V)
def hitF (ws : List Str) (k : Str) (ps fs : List Str) (found : List (Key × V)) (e : Option Out) : Option Out :=
  if k = "call" then (if (decide (6 < (ws.drop fs.length).length) || inV .non ((ws.drop fs.length).map atomF)) = true then none else some (k, ps.map (fun p => (valV found (.inr p)).getD .non), some ((ws.drop fs.length).map atomF)))
  else if ws.length = fs.length then some (k, ps.map (fun p => (valV found (.inr p)).getD .non), none) else e
def rowGo (ws : List Str) : List (Str × List Str × List Str) → Option Out
  | [] => none
  | (k, ps, fs) :: r => match partsG ws fs with
    | none => rowGo ws r
    | some found => hitF ws k ps fs found (rowGo ws r)
inductive Rw where
  | copy (x : Str) (a : V)
  | op (x s : Str) (a b : V)
  | new (x : Str)
  | get (x : Str) (a : V) (f : Str)
  | put (a : V) (f : Str) (b : V)
  | call (x g : Str) (as : List V)
  | one (k : Str) (a : V)
  | bare (k : Str)
def Rw.dat : Rw → Out
  | .copy x a => ("copy", [.str x, a], none)
  | .op x s a b => ("op", [.str x, .str s, a, b], none)
  | .new x => ("new", [.str x], none)
  | .get x a f => ("get", [.str x, a, .str f], none)
  | .put a f b => ("put", [a, .str f, b], none)
  | .call x g as => ("call", [.str x, .str g], some as)
  | .one k a => (k, [a], none)
  | .bare k => (k, [], none)
def Rw.words : Rw → List Str
  | .copy x a => [x, "=", txt a]
  | .op x s a b => [x, "=", txt a, s, txt b]
  | .new x => [x, "=", "new"]
  | .get x a f => [x, "=", "get", txt a, f]
  | .put a f b => ["put", txt a, f, txt b]
  | .call x g as => [x, "=", "call", g] ++ as.map txt
  | .one k a => [k, txt a]
  | .bare k => [k]
theorem pX (w : Str) : partV w "X" = if named w = true then .str w else .non := by unfold partV; rw [if_neg (by decide +kernel), if_neg (by decide +kernel)]
theorem pF (w : Str) : partV w "F" = if named w = true then .str w else .non := by unfold partV; rw [if_neg (by decide +kernel), if_neg (by decide +kernel)]
theorem pG (w : Str) : partV w "G" = if named w = true then .str w else .non := by unfold partV; rw [if_neg (by decide +kernel), if_neg (by decide +kernel)]
theorem pA (w : Str) : partV w "A" = atomF w := by unfold partV; rw [if_pos (by decide +kernel)]
theorem pB (w : Str) : partV w "B" = atomF w := by unfold partV; rw [if_pos (by decide +kernel)]
theorem pS (w : Str) : partV w "S" = if isSign w = true then .str w else .non := by unfold partV; rw [if_neg (by decide +kernel), if_pos (by decide +kernel)]
theorem uX : Txt.isupper "X" = true := by decide +kernel
theorem uF : Txt.isupper "F" = true := by decide +kernel
theorem uG : Txt.isupper "G" = true := by decide +kernel
theorem uA : Txt.isupper "A" = true := by decide +kernel
theorem uB : Txt.isupper "B" = true := by decide +kernel
theorem uS : Txt.isupper "S" = true := by decide +kernel
theorem u1 : Txt.isupper "=" = false := by decide +kernel
theorem u2 : Txt.isupper "new" = false := by decide +kernel
theorem u3 : Txt.isupper "get" = false := by decide +kernel
theorem u4 : Txt.isupper "put" = false := by decide +kernel
theorem u5 : Txt.isupper "call" = false := by decide +kernel
theorem u6 : Txt.isupper "out" = false := by decide +kernel
theorem u7 : Txt.isupper "back" = false := by decide +kernel
theorem u8 : Txt.isupper "if" = false := by decide +kernel
theorem u9 : Txt.isupper "while" = false := by decide +kernel
theorem u10 : Txt.isupper "else" = false := by decide +kernel
theorem u11 : Txt.isupper "end" = false := by decide +kernel
theorem n1 : named "new" = false := by decide +kernel
theorem n2 : named "get" = false := by decide +kernel
theorem n3 : named "put" = false := by decide +kernel
theorem n4 : named "call" = false := by decide +kernel
theorem a1 : atomF "new" = .non := by unfold atomF; rw [n1]; decide +kernel
theorem a2 : atomF "get" = .non := by unfold atomF; rw [n2]; decide +kernel
theorem a4 : atomF "call" = .non := by unfold atomF; rw [n4]; decide +kernel
theorem f_up {w p : Str} {r : List (Str × Str)} {acc : List (Key × V)} {v : V} (hu : Txt.isupper p = true) (hv : partV w p = v) (hn : v ≠ .non) : partsF ((w, p) :: r) acc = partsF r (putK acc (.inr p) v) := by
  show (if Txt.isupper p = true then _ else _) = _
  rw [if_pos hu, hv, if_neg hn]
theorem f_no {w p : Str} {r : List (Str × Str)} {acc : List (Key × V)} (hu : Txt.isupper p = true) (hv : partV w p = .non) : partsF ((w, p) :: r) acc = none := by
  show (if Txt.isupper p = true then _ else _) = _
  rw [if_pos hu, if_pos hv]
theorem f_lit {p : Str} {r : List (Str × Str)} {acc : List (Key × V)} (hu : Txt.isupper p = false) : partsF ((p, p) :: r) acc = partsF r acc := by
  show (if Txt.isupper p = true then _ else _) = _
  rw [if_neg (by rw [hu]; exact Bool.false_ne_true), if_pos rfl]
theorem f_ne {w p : Str} {r : List (Str × Str)} {acc : List (Key × V)} (hu : Txt.isupper p = false) (h : w ≠ p) : partsF ((w, p) :: r) acc = none := by
  show (if Txt.isupper p = true then _ else _) = _
  rw [if_neg (by rw [hu]; exact Bool.false_ne_true), if_neg h]
theorem g_short {ws fs : List Str} (h : ws.length < fs.length) : partsG ws fs = none := if_pos h
theorem g_long {ws fs : List Str} (h : ¬ ws.length < fs.length) : partsG ws fs = partsF (ws.zip fs) [] := if_neg h
theorem go_no {ws : List Str} {k : Str} {ps fs : List Str} {r : List (Str × List Str × List Str)} (h : partsG ws fs = none) : rowGo ws ((k, ps, fs) :: r) = rowGo ws r := by
  show (match partsG ws fs with | none => _ | some found => _) = _
  rw [h]
theorem go_hit {ws : List Str} {k : Str} {ps fs : List Str} {r : List (Str × List Str × List Str)} {f : List (Key × V)} (h : partsG ws fs = some f) : rowGo ws ((k, ps, fs) :: r) = hitF ws k ps fs f (rowGo ws r) := by
  show (match partsG ws fs with | none => _ | some found => _) = _
  rw [h]
theorem hit_on {ws : List Str} {k : Str} {ps fs : List Str} {f : List (Key × V)} {e : Option Out} (h1 : k ≠ "call") (h2 : ws.length ≠ fs.length) : hitF ws k ps fs f e = e := by unfold hitF; rw [if_neg h1, if_neg h2]
theorem hit_here {ws : List Str} {k : Str} {ps fs : List Str} {f : List (Key × V)} {e : Option Out} (h1 : k ≠ "call") (h2 : ws.length = fs.length) : hitF ws k ps fs f e = some (k, ps.map (fun p => (valV f (.inr p)).getD .non), none) := by unfold hitF; rw [if_neg h1, if_pos h2]
theorem sx {x : Str} (h : named x = true) : partV x "X" = .str x := by rw [pX, if_pos h]
theorem sf {x : Str} (h : named x = true) : partV x "F" = .str x := by rw [pF, if_pos h]
theorem sg {x : Str} (h : named x = true) : partV x "G" = .str x := by rw [pG, if_pos h]
theorem sa {a : V} (h : GoodA a) : partV (txt a) "A" = a := by rw [pA, atom_back h]
theorem sb {a : V} (h : GoodA a) : partV (txt a) "B" = a := by rw [pB, atom_back h]
theorem sgn {s : Str} (h : s ∈ signs) : isSign s = true := by
  simp only [signs, List.mem_cons, List.not_mem_nil, or_false] at h
  rcases h with rfl | rfl | rfl | rfl | rfl | rfl | rfl | rfl | rfl <;> decide +kernel
theorem ss {s : Str} (h : s ∈ signs) : partV s "S" = .str s := by rw [pS, if_pos (sgn h)]
theorem str_ne {x : Str} : V.str x ≠ .non := by intro z; cases z
def heads : List V := [.str "fn", .str "in"]
def opening (ws : List Str) : Bool := inV (.str (ws.headD "")) heads && decide (1 ≤ (ws.drop 1).length) && decide ((ws.drop 1).length ≤ 7) && (ws.drop 1).all named
structure Fd where
  name : Str
  folded : Bool
  params : List Str
  rows : List Rw
def Fd.head (f : Fd) : List Str := (if f.folded then "in" else "fn") :: f.name :: f.params
def nl : Str := "\n"
end K14

set_option Elab.async false
set_option linter.all false
set_option maxRecDepth 100000
set_option maxHeartbeats 4000000
namespace K14
open PySem PyProof.Rows L2 K11

def All2 {α : Type} (P : V → α → Prop) (vs : List V) (xs : List α) : Prop := vs.length = xs.length ∧ ∀ (i : Nat) v x, vs[i]? = some v → xs[i]? = some x → P v x
theorem All2.nil {α : Type} {P : V → α → Prop} : All2 P [] [] := ⟨rfl, fun i v x h _ => by simp at h⟩
theorem All2.snoc {α : Type} {P : V → α → Prop} {vs : List V} {xs : List α} {v : V} {x : α} (h : All2 P vs xs) (hv : P v x) : All2 P (vs ++ [v]) (xs ++ [x]) := by
  refine ⟨by simp [h.1], fun i u y hu hy => ?_⟩
  by_cases hi : i < vs.length
  · rw [List.getElem?_append_left hi] at hu
    rw [List.getElem?_append_left (by rw [← h.1]; exact hi)] at hy
    exact h.2 i u y hu hy
  · have : i = vs.length := by
      have := (List.getElem?_eq_some_iff.mp hu).1
      simp at this
      omega
    subst this
    rw [List.getElem?_append_right (Nat.le_refl _)] at hu
    rw [h.1, List.getElem?_append_right (Nat.le_refl _)] at hy
    simp at hu hy
    rw [← hu, ← hy]
    exact hv
theorem All2.mono {α : Type} {P Q : V → α → Prop} {vs : List V} {xs : List α} (h : All2 P vs xs) (f : ∀ v x, P v x → Q v x) : All2 Q vs xs := ⟨h.1, fun i v x a b => f v x (h.2 i v x a b)⟩
theorem All2.at {α : Type} {P : V → α → Prop} {vs : List V} {xs : List α} (h : All2 P vs xs) {i : Nat} {v : V} (hv : vs[i]? = some v) : ∃ x, xs[i]? = some x ∧ P v x := by
  have hi : i < xs.length := by rw [← h.1]; exact (List.getElem?_eq_some_iff.mp hv).1
  exact ⟨xs[i], by simp [hi], h.2 i v xs[i] hv (by simp [hi])⟩
theorem All2.map {α β : Type} {P : V → β → Prop} {f : α → β} {vs : List V} {xs : List α} : All2 P vs (xs.map f) ↔ All2 (fun v x => P v (f x)) vs xs := by
  constructor
  · intro h
    exact ⟨by rw [h.1, List.length_map], fun i v x a b => h.2 i v (f x) a (by rw [List.getElem?_map, b]; rfl)⟩
  · intro h
    refine ⟨by rw [h.1, List.length_map], fun i v y a b => ?_⟩
    rw [List.getElem?_map] at b
    cases e : xs[i]? with
    | none => rw [e] at b; cases b
    | some x => rw [e] at b; cases b; exact h.2 i v x a e
def RowV (H : Hp) (v : V) (d : Out) : Prop := ∃ p, v = .ref p ∧ match d.2.2 with
  | none => H p = some (.tup (.str d.1 :: d.2.1))
  | some as => ∃ q, H q = some (.tup as) ∧ H p = some (.tup (.str d.1 :: d.2.1 ++ [.ref q]))
theorem RowV.mono {H H' : Hp} {v : V} {d : Out} (s : Same H H') (h : RowV H v d) : RowV H' v d := by
  obtain ⟨p, rfl, h⟩ := h
  refine ⟨p, rfl, ?_⟩
  obtain ⟨k, vs, e⟩ := d
  cases e with
  | none => exact s _ _ h
  | some as => obtain ⟨q, h1, h2⟩ := h; exact ⟨q, s _ _ h1, s _ _ h2⟩
def FdV (H : Hp) (v : V) (f : Fd) : Prop := ∃ p q r vs, v = .ref p ∧ H p = some (.tup [.str f.name, .bl f.folded, .ref q, .ref r]) ∧ H q = some (.tup (f.params.map V.str)) ∧ H r = some (.tup vs) ∧ All2 (fun v r => RowV H v r.dat) vs f.rows
theorem FdV.mono {H H' : Hp} {v : V} {f : Fd} (s : Same H H') (h : FdV H v f) : FdV H' v f := by
  obtain ⟨p, q, r, vs, rfl, h1, h2, h3, h4⟩ := h
  exact ⟨p, q, r, vs, rfl, s _ _ h1, s _ _ h2, s _ _ h3, h4.mono fun _ _ h => RowV.mono s h⟩
def PrV (H : Hp) (a : Addr) (pd : List Fd) : Prop := ∃ vs, H a = some (.lst vs) ∧ All2 (FdV H) vs pd
theorem PrV.mono {H H' : Hp} {a : Addr} {pd : List Fd} (s : Same H H') (h : PrV H a pd) : PrV H' a pd := by
  obtain ⟨vs, h1, h2⟩ := h
  exact ⟨vs, s _ _ h1, h2.mono fun _ _ h => FdV.mono s h⟩

def Flat2 (x y : V) : Prop := (∃ b, x = .bl b ∧ y = .bl b) ∨ (∃ i, x = .int i ∧ y = .int i) ∨ ∃ s, x = .str s ∧ y = .str s
def Alk (H : Hp) : Nat → V → V → Prop
  | 0, x, y => Flat2 x y
  | n + 1, x, y => Flat2 x y ∨ ∃ a b xs ys, x = .ref a ∧ y = .ref b ∧ ((H a = some (.tup xs) ∧ H b = some (.tup ys)) ∨ (H a = some (.lst xs) ∧ H b = some (.lst ys))) ∧ xs.length = ys.length ∧ xs.length ≤ 1000 ∧ ∀ (i : Nat) u v, xs[i]? = some u → ys[i]? = some v → Alk H n u v
theorem Alk.mono {H H' : Hp} (s : Same H H') : ∀ {n : Nat} {x y : V}, Alk H n x y → Alk H' n x y
  | 0, _, _, h => h
  | n + 1, x, y, h => by
    rcases h with h | ⟨a, b, xs, ys, rfl, rfl, h1, h2, hk, h3⟩
    · exact .inl h
    · exact .inr ⟨a, b, xs, ys, rfl, rfl, h1.imp (fun ⟨p, q⟩ => ⟨s _ _ p, s _ _ q⟩) (fun ⟨p, q⟩ => ⟨s _ _ p, s _ _ q⟩), h2, hk, fun i u v hu hv => Alk.mono s (h3 i u v hu hv)⟩
theorem alk_flat {H : Hp} {n : Nat} {x y : V} (h : Flat2 x y) : Alk H n x y := by
  cases n with
  | zero => exact h
  | succ n => exact .inl h
theorem alk_tup {H : Hp} {n : Nat} {a b : Addr} {xs ys : List V} (h1 : H a = some (.tup xs)) (h2 : H b = some (.tup ys)) (hl : xs.length = ys.length) (hk : xs.length ≤ 1000) (h : ∀ (i : Nat) u v, xs[i]? = some u → ys[i]? = some v → Alk H n u v) : Alk H (n + 1) (.ref a) (.ref b) :=
  .inr ⟨a, b, xs, ys, rfl, rfl, .inl ⟨h1, h2⟩, hl, hk, h⟩
def flatA (v : V) : Bool := match v with | .int _ => true | .str _ => true | _ => false
theorem flat_self {v : V} (h : flatA v = true) : Flat2 v v := by
  cases v <;> first | exact .inr (.inl ⟨_, rfl, rfl⟩) | exact .inr (.inr ⟨_, rfl, rfl⟩) | exact absurd h Bool.false_ne_true
theorem alk_self {H : Hp} {n : Nat} {xs : List V} (h : ∀ x ∈ xs, flatA x = true) : ∀ (i : Nat) u v, xs[i]? = some u → xs[i]? = some v → Alk H n u v := fun i u v hu hv => by
  rw [hu] at hv
  cases hv
  exact alk_flat (flat_self (h u (List.mem_of_getElem? hu)))
def OutOk (d : Out) : Prop := (∀ x ∈ d.2.1, flatA x = true) ∧ d.2.1.length ≤ 10 ∧ ∀ as, d.2.2 = some as → as.length ≤ 6 ∧ ∀ x ∈ as, flatA x = true
theorem alk_row {H : Hp} {u v : V} {d : Out} (ok : OutOk d) (hu : RowV H u d) (hv : RowV H v d) : Alk H 2 u v := by
  obtain ⟨p, rfl, hu⟩ := hu
  obtain ⟨p', rfl, hv⟩ := hv
  obtain ⟨k, vs, e⟩ := d
  have hk : ∀ x ∈ V.str k :: vs, flatA x = true := fun x hx => by
    rcases List.mem_cons.mp hx with rfl | hx
    · rfl
    · exact ok.1 x hx
  cases e with
  | none => exact alk_tup hu hv rfl (by have : vs.length ≤ 10 := ok.2.1; simp only [List.length_cons]; omega) (alk_self hk)
  | some as =>
    obtain ⟨q, h1, h2⟩ := hu
    obtain ⟨q', h3, h4⟩ := hv
    refine alk_tup h2 h4 (by simp) (by have : vs.length ≤ 10 := ok.2.1; simp; omega) fun i u v hu hv => ?_
    by_cases hi : i < (V.str k :: vs).length
    · rw [List.getElem?_append_left hi] at hu hv
      exact alk_self hk i u v hu hv
    · have : i = (V.str k :: vs).length := by
        have := (List.getElem?_eq_some_iff.mp hu).1
        simp at this hi
        simp
        omega
      subst this
      rw [List.getElem?_append_right (Nat.le_refl _)] at hu hv
      simp at hu hv
      subst hu hv
      exact alk_tup h1 h3 rfl (by have := (ok.2.2 as rfl).1; omega) (alk_self (ok.2.2 as rfl).2)
abbrev Ent := List Str × List Out
def stepL (es : List Ent) (l : List Str) : List Ent := if opening l = true then es ++ [(l, [])] else match es.getLast?, rowGo l forms with
  | some e, some d => es.dropLast ++ [(e.1, e.2 ++ [d])]
  | _, _ => es
def EntV (H : Hp) (v : V) (e : Ent) : Prop := ∃ t w r vs, v = .ref t ∧ H t = some (.tup [.ref w, .ref r]) ∧ H w = some (.lst (e.1.map V.str)) ∧ H r = some (.lst vs) ∧ All2 (RowV H) vs e.2
theorem EntV.mono {H H' : Hp} {v : V} {e : Ent} (s : Same H H') (h : EntV H v e) : EntV H' v e := by
  obtain ⟨t, w, r, vs, rfl, h1, h2, h3, h4⟩ := h
  exact ⟨t, w, r, vs, rfl, s _ _ h1, s _ _ h2, s _ _ h3, h4.mono fun _ _ h => RowV.mono s h⟩

theorem lt_of_le {n : Nat} (h : n < 1000000) : n < sizeLine := by
  have : (1000000 : Nat) < sizeLine := by decide
  omega
theorem vput {acc : List (Key × V)} {k : Key} {v : V} : valV (putK acc k v) k = some v := by rw [valV_put, if_pos rfl]
theorem cut_drop (xs : List V) (k : Nat) : cutV xs (some (k : Int)) none = xs.drop k := by
  unfold cutV HT.sIx
  simp only
  rw [if_neg (by omega)]
  by_cases h : k ≤ xs.length
  · rw [show min (k : Int).toNat xs.length = k by omega]
    rw [List.take_of_length_le (by rw [List.length_drop]; omega)]
  · rw [show min (k : Int).toNat xs.length = xs.length by omega]
    rw [List.drop_eq_nil_of_le (Nat.le_refl _), List.drop_eq_nil_of_le (by omega)]
    simp
theorem flat_atom (x : Str) : flatV (atomF x) = true := by
  unfold atomF
  split
  · rfl
  · rcases lawVal_cases x with e | ⟨z, e⟩ <;> rw [e] <;> rfl
theorem flat_atoms (ws : List Str) : (ws.map atomF).all flatV = true := by
  rw [List.all_eq_true]
  intro x hx
  obtain ⟨y, _, rfl⟩ := List.mem_map.mp hx
  exact flat_atom y
theorem vs_eq {α : Type} {ws : List α} {f : α → V} {vs : List V} (hl : vs.length = ws.length) (h : ∀ (i : Nat) v, vs[i]? = some v → ∃ w, ws[i]? = some w ∧ v = f w) : vs = ws.map f := by
  refine List.ext_getElem? fun i => ?_
  rw [List.getElem?_map]
  cases e : vs[i]? with
  | none =>
    have : ws.length ≤ i := by rw [← hl]; exact List.getElem?_eq_none_iff.mp e
    rw [List.getElem?_eq_none this]
    rfl
  | some v =>
    obtain ⟨w, hw, rfl⟩ := h i v e
    rw [hw]
    rfl

def formOk (r : Str × List Str × List Str) : Bool := decide (KTD.datumAt r.1 formsV = some (r.2.1.map V.str, r.2.2.map V.str)) && decide (r.2.2.length ≤ 5) && decide (r.2.1.length ≤ 4) && r.2.1.all fun p => decide (p ∈ r.2.2) && Txt.isupper p
theorem forms_ok : ∀ r ∈ forms, formOk r = true := by decide +kernel
theorem form_facts {i : Nat} {r : Row2} (h : formsV[i]? = some r) : ∃ k ps fs, forms[i]? = some (k, ps, fs) ∧ r = (k, (ps.map V.str, fs.map V.str)) ∧ KTD.datumAt k formsV = some (ps.map V.str, fs.map V.str) ∧ fs.length ≤ 5 ∧ ps.length ≤ 4 ∧ ∀ p ∈ ps, p ∈ fs ∧ Txt.isupper p = true := by
  unfold formsV at h
  rw [List.getElem?_map] at h
  cases e : forms[i]? with
  | none => rw [e] at h; cases h
  | some x =>
    rw [e] at h
    cases h
    have ok := forms_ok x (List.mem_of_getElem? e)
    unfold formOk at ok
    simp only [Bool.and_eq_true, decide_eq_true_eq, List.all_eq_true] at ok
    obtain ⟨⟨⟨h1, h2⟩, h3⟩, h4⟩ := ok
    exact ⟨x.1, x.2.1, x.2.2, rfl, rfl, h1, h2, h3, h4⟩
theorem parts_keys : ∀ {l : List (Str × Str)} {acc found : List (Key × V)}, partsF l acc = some found → (∀ p, (∃ v, valV acc (.inr p) = some v) → ∃ v, valV found (.inr p) = some v) ∧ ∀ wp ∈ l, Txt.isupper wp.2 = true → ∃ v, valV found (.inr wp.2) = some v
  | [], acc, found, h => by
    cases h
    exact ⟨fun p h => h, fun wp h => by simp at h⟩
  | (w, p) :: r, acc, found, h => by
    have h : (if Txt.isupper p = true then (if partV w p = .non then none else partsF r (putK acc (.inr p) (partV w p))) else if w = p then partsF r acc else none) = some found := h
    split at h
    · split at h
      · cases h
      · obtain ⟨h1, h2⟩ := parts_keys h
        have here : ∃ v, valV found (.inr p) = some v := h1 p ⟨_, vput⟩
        refine ⟨fun q hq => h1 q ?_, fun wp hm hu => ?_⟩
        · rw [valV_put]
          split
          · exact ⟨_, rfl⟩
          · exact hq
        · rcases List.mem_cons.mp hm with rfl | hm
          · exact here
          · exact h2 wp hm hu
    · rename_i hu
      split at h
      · obtain ⟨h1, h2⟩ := parts_keys h
        refine ⟨h1, fun wp hm hu' => ?_⟩
        rcases List.mem_cons.mp hm with rfl | hm
        · exact absurd hu' hu
        · exact h2 wp hm hu'
      · cases h
theorem found_all {ws fs ps : List Str} {found : List (Key × V)} (h : partsG ws fs = some found) (hp : ∀ p ∈ ps, p ∈ fs ∧ Txt.isupper p = true) : ∀ p ∈ ps, ∃ v, valV found (.inr p) = some v := by
  intro p hm
  obtain ⟨h1, h2⟩ := hp p hm
  unfold partsG at h
  split at h
  · cases h
  · rename_i hl
    obtain ⟨i, hi, e⟩ := List.mem_iff_getElem.mp h1
    have hi2 : i < (ws.zip fs).length := by rw [List.length_zip]; omega
    have := (parts_keys h).2 (ws.zip fs)[i] (List.getElem_mem hi2)
    rw [List.getElem_zip] at this
    rw [e] at this
    exact this h2
theorem go_at {ws : List Str} {i : Nat} {k : Str} {ps fs : List Str} (h : forms[i]? = some (k, ps, fs)) : rowGo ws (forms.drop i) = match partsG ws fs with | none => rowGo ws (forms.drop (i + 1)) | some found => hitF ws k ps fs found (rowGo ws (forms.drop (i + 1))) := by
  have hi := (List.getElem?_eq_some_iff.mp h).1
  rw [List.drop_eq_getElem_cons hi, (List.getElem?_eq_some_iff.mp h).2]
  rfl
end K14

set_option Elab.async false
set_option linter.all false
set_option maxRecDepth 100000
set_option maxHeartbeats 4000000
namespace K14
open PySem PyProof.Rows L2 K11

theorem tup_ne {H : Hp} {a b : Addr} {xs ys : List V} (h1 : H a = some (.tup xs)) (h2 : H b = some (.lst ys)) : a ≠ b := fun z => by rw [z, h2] at h1; cases h1
def Kept (H H' : Hp) (r : Addr) : Prop := ∀ b o, H b = some o → b ≠ r → H' b = some o
theorem kept_upd {H : Hp} {r : Addr} {o : HO} : Kept H (upd H r o) r := fun b o h n => by rw [upd_ne n]; exact h
theorem kept_ers {H : Hp} {r : Addr} : Kept H (ers r H) r := fun b o h n => by rw [ers_ne n]; exact h
theorem RowV.kept {H H' : Hp} {r : Addr} {ys : List V} {v : V} {d : Out} (k : Kept H H' r) (hr : H r = some (.lst ys)) (h : RowV H v d) : RowV H' v d := by
  obtain ⟨p, rfl, h⟩ := h
  refine ⟨p, rfl, ?_⟩
  obtain ⟨kd, vs, e⟩ := d
  cases e with
  | none => exact k _ _ h (tup_ne h hr)
  | some as => obtain ⟨q, h1, h2⟩ := h; exact ⟨q, k _ _ h1 (tup_ne h1 hr), k _ _ h2 (tup_ne h2 hr)⟩
theorem FdV.kept {H H' : Hp} {r : Addr} {ys : List V} {v : V} {f : Fd} (k : Kept H H' r) (hr : H r = some (.lst ys)) (h : FdV H v f) : FdV H' v f := by
  obtain ⟨p, q, s, vs, rfl, h1, h2, h3, h4⟩ := h
  exact ⟨p, q, s, vs, rfl, k _ _ h1 (tup_ne h1 hr), k _ _ h2 (tup_ne h2 hr), k _ _ h3 (tup_ne h3 hr), h4.mono fun _ _ h => RowV.kept k hr h⟩

def Last (H0 H2 : Hp) (lo : Addr) (ts : List V) (es : List Ent) : Prop := ∃ ts' es' t w r vs e, ts = ts' ++ [.ref t] ∧ es = es' ++ [e] ∧ All2 (EntV (ers r (ers lo H2))) ts' es' ∧ H2 t = some (.tup [.ref w, .ref r]) ∧ H2 w = some (.lst (e.1.map V.str)) ∧ H2 r = some (.lst vs) ∧ All2 (RowV H2) vs e.2 ∧ H0 r = none ∧ r ≠ lo ∧ w ≠ lo ∧ w ≠ r
def OpV (H0 H2 : Hp) (lo : Addr) (ts : List V) (es : List Ent) : Prop := H2 lo = some (.lst ts) ∧ ((ts = [] ∧ es = []) ∨ Last H0 H2 lo ts es)
theorem op_mono {H0 H2 H3 : Hp} {lo : Addr} {ts : List V} {es : List Ent} (s : Same H2 H3) (h : OpV H0 H2 lo ts es) : OpV H0 H3 lo ts es := by
  obtain ⟨h1, h2⟩ := h
  refine ⟨s _ _ h1, ?_⟩
  rcases h2 with h2 | ⟨ts', es', t, w, r, vs, e, rfl, rfl, a1, a2, a3, a4, a5, a6, a7, a8, a9⟩
  · exact .inl h2
  · exact .inr ⟨ts', es', t, w, r, vs, e, rfl, rfl, a1.mono fun _ _ h => EntV.mono (Same.ers (Same.ers s)) h, s _ _ a2, s _ _ a3, s _ _ a4, a5.mono fun _ _ h => RowV.mono s h, a6, a7, a8, a9⟩
theorem op_all {H0 H2 : Hp} {lo : Addr} {ts : List V} {es : List Ent} (h : OpV H0 H2 lo ts es) : All2 (EntV (ers lo H2)) ts es := by
  obtain ⟨h1, h2⟩ := h
  rcases h2 with ⟨rfl, rfl⟩ | ⟨ts', es', t, w, r, vs, e, rfl, rfl, a1, a2, a3, a4, a5, a6, a7, a8, a9⟩
  · exact All2.nil
  · refine All2.snoc (a1.mono fun _ _ h => EntV.mono ers_same h) ⟨t, w, r, vs, rfl, ?_, ?_, ?_, a5.mono fun _ _ h => RowV.kept kept_ers h1 h⟩
    · rw [ers_ne (tup_ne a2 h1)]; exact a2
    · rw [ers_ne a8]; exact a3
    · rw [ers_ne a7]; exact a4
theorem op_open {H0 H2 : Hp} {lo w r t : Addr} {ts : List V} {es : List Ent} {l : List Str} (s0 : Same H0 H2) (h : OpV H0 H2 lo ts es) (hw : H2 w = some (.lst (l.map V.str))) (hwl : w ≠ lo) (hr : H2 r = none) (ht : upd H2 r (.lst []) t = none) :
    OpV H0 (upd (upd (upd H2 r (.lst [])) t (.tup [.ref w, .ref r])) lo (.lst (ts ++ [.ref t]))) lo (ts ++ [.ref t]) (es ++ [(l, [])]) := by
  have al := op_all h
  obtain ⟨h1, _⟩ := h
  have rlo : r ≠ lo := fun z => by rw [z, h1] at hr; cases hr
  have rt : t ≠ r := fun z => by rw [z, upd_same] at ht; cases ht
  have s3 := Same.new (o := .lst []) hr
  have tlo : t ≠ lo := fun z => by rw [z, s3 _ _ h1] at ht; cases ht
  have wr : w ≠ r := fun z => by rw [z, hr] at hw; cases hw
  have wt : w ≠ t := fun z => by rw [← z, s3 _ _ hw] at ht; cases ht
  have sm : Same (ers lo H2) (ers r (ers lo (upd (upd (upd H2 r (.lst [])) t (.tup [.ref w, .ref r])) lo (.lst (ts ++ [.ref t]))))) := fun b o hb => by
    rw [ersU]
    have hbl : b ≠ lo := fun z => by rw [z] at hb; unfold ers at hb; rw [if_pos rfl] at hb; cases hb
    rw [ers_ne hbl] at hb
    have hbr : b ≠ r := fun z => by rw [z, hr] at hb; cases hb
    have hbt : b ≠ t := fun z => by rw [← z, s3 _ _ hb] at ht; cases ht
    rw [ers_ne hbr, ers_ne hbl, upd_ne hbt, upd_ne hbr]
    exact hb
  refine ⟨upd_same, .inr ⟨ts, es, t, w, r, [], (l, []), rfl, rfl, al.mono fun _ _ h => EntV.mono sm h, ?_, ?_, ?_, All2.nil, s0.free hr, rlo, hwl, wr⟩⟩
  · rw [upd_ne tlo, upd_same]
  · rw [upd_ne hwl, upd_ne wt, upd_ne wr]; exact hw
  · rw [upd_ne rlo, upd_ne rt.symm, upd_same]
theorem op_row {H0 H2 : Hp} {lo : Addr} {ts : List V} {es : List Ent} {v : V} {d : Out} (h : OpV H0 H2 lo ts es) (hne : es ≠ []) (hv : RowV H2 v d) :
    ∃ t w r vs e, atI ts (-1) = some (.ref t) ∧ H2 t = some (.tup [.ref w, .ref r]) ∧ H2 r = some (.lst vs) ∧ vs.length = e.2.length ∧ H0 r = none ∧ es.getLast? = some e ∧ OpV H0 (upd H2 r (.lst (vs ++ [v]))) lo ts (es.dropLast ++ [(e.1, e.2 ++ [d])]) := by
  obtain ⟨h1, h2⟩ := h
  rcases h2 with ⟨rfl, rfl⟩ | ⟨ts', es', t, w, r, vs, e, rfl, rfl, a1, a2, a3, a4, a5, a6, a7, a8, a9⟩
  · exact absurd rfl hne
  · refine ⟨t, w, r, vs, e, ?_, a2, a4, a5.1, a6, by simp, ?_⟩
    · unfold atI ixN
      rw [if_neg (by decide), if_pos (by simp; omega)]
      rw [show (-1 + ((ts' ++ [V.ref t]).length : Int)).toNat = ts'.length by simp; omega]
      show (ts' ++ [V.ref t])[ts'.length]? = _
      simp
    · have sm : Same (ers r (ers lo H2)) (ers r (ers lo (upd H2 r (.lst (vs ++ [v]))))) := fun b o hb => by
        have hbr : b ≠ r := fun z => by rw [z] at hb; unfold ers at hb; rw [if_pos rfl] at hb; cases hb
        rw [ers_ne hbr] at hb ⊢
        have hbl : b ≠ lo := fun z => by rw [z] at hb; unfold ers at hb; rw [if_pos rfl] at hb; cases hb
        rw [ers_ne hbl] at hb ⊢
        rw [upd_ne hbr]
        exact hb
      refine ⟨by rw [upd_ne a7.symm]; exact h1, .inr ⟨ts', es', t, w, r, vs ++ [v], (e.1, e.2 ++ [d]), rfl, by simp, a1.mono fun _ _ h => EntV.mono sm h, ?_, ?_, upd_same, ?_, a6, a7, a8, a9⟩⟩
      · rw [upd_ne (tup_ne a2 a4)]; exact a2
      · rw [upd_ne a9]; exact a3
      · exact All2.snoc (a5.mono fun _ _ h => RowV.kept kept_upd a4 h) (RowV.kept kept_upd a4 hv)
theorem op_len {H0 H2 : Hp} {lo : Addr} {ts : List V} {es : List Ent} (h : OpV H0 H2 lo ts es) : ts.length = es.length := (op_all h).1
end K14

set_option Elab.async false
set_option linter.all false
set_option maxRecDepth 100000
set_option maxHeartbeats 4000000
namespace K14
open PySem PyProof.Rows L2 K11 Gx

def Lets (cs : List Nat) : Prop := ∀ c ∈ cs, 97 ≤ c ∧ c ≤ 122
theorem let_at {z : Int} (h0 : 0 ≤ z) (h1 : z < 26) : atI ("abcdefghijklmnopqrstuvwxyz" : Str).cps.toList z = some (97 + z.toNat) := by
  obtain ⟨n, rfl⟩ := Int.eq_ofNat_of_zero_le h0
  have g : ∀ n < 26, ("abcdefghijklmnopqrstuvwxyz" : Str).cps.toList[n]? = some (97 + n) := by decide +kernel
  exact atI_nat (g n (by omega))
theorem flat_one : ∀ l : List Nat, (l.map fun c => [c]).flatten = l
  | [] => rfl
  | x :: l => by rw [List.map_cons, List.flatten_cons, flat_one l]; rfl
theorem one_fit {cs : List Nat} (h : cs.length ≤ 8) : ((cs.map fun c => tx [c]).map (·.length)).sum + (cs.map fun c => tx [c]).length * ("" : Str).length ≤ 16777216 := by
  have h2 := sum_le (ws := cs.map fun c => tx [c]) (n := 1) fun w hw => by
    obtain ⟨c, _, rfl⟩ := List.mem_map.mp hw
    rw [tx_len]
    exact Nat.le_refl _
  have e : ("" : Str).length = 0 := by decide +kernel
  rw [e]
  rw [List.length_map] at h2 ⊢
  omega
theorem one_join (cs : List Nat) : PySem.Txt.join "" (cs.map fun c => tx [c]) = tx cs := by
  have := tx_join (cs.map fun c => [c])
  rw [flat_one, List.map_map] at this
  exact this
theorem lets_set {cs : List Nat} {i c : Nat} (h : Lets cs) (hc : 97 ≤ c ∧ c ≤ 122) : Lets (cs.set i c) := fun d hd => by
  rcases List.mem_or_eq_of_mem_set hd with hd | rfl
  · exact h d hd
  · exact hc
theorem lets_snoc {cs : List Nat} {c : Nat} (h : Lets cs) (hc : 97 ≤ c ∧ c ≤ 122) : Lets (cs ++ [c]) := fun d hd => by
  rcases List.mem_append.mp hd with hd | hd
  · exact h d hd
  · rw [List.mem_singleton.mp hd]
    exact hc
theorem strs_set (cs : List Nat) (i c : Nat) : (cs.map fun c => V.str (tx [c])).set i (V.str (tx [c])) = ((cs.set i c).map fun c => tx [c]).map V.str := by
  rw [List.map_map]
  exact List.map_set.symm
theorem All2.cons {α : Type} {P : V → α → Prop} {vs : List V} {xs : List α} {v : V} {x : α} (hv : P v x) (h : All2 P vs xs) : All2 P (v :: vs) (x :: xs) := by
  refine ⟨by simp [h.1], fun i u y hu hy => ?_⟩
  cases i with
  | zero => cases hu; cases hy; exact hv
  | succ i => exact h.2 i u y hu hy
theorem pick {α : Type} {P : V → α → Prop} : ∀ {vs : List V}, (∀ (i : Nat) v, vs[i]? = some v → ∃ x, P v x) → ∃ xs, All2 P vs xs
  | [], _ => ⟨[], All2.nil⟩
  | v :: vs, h => by
    obtain ⟨x, hx⟩ := h 0 v rfl
    obtain ⟨xs, hxs⟩ := pick (vs := vs) fun i u hu => h (i + 1) u hu
    exact ⟨x :: xs, All2.cons hx hxs⟩
theorem All2.right {α : Type} {P : V → α → Prop} {vs : List V} {xs : List α} {C : α → Prop} (h : All2 P vs xs) (f : ∀ v x, P v x → C x) : ∀ x ∈ xs, C x := fun x hx => by
  obtain ⟨i, hi, rfl⟩ := List.mem_iff_getElem.mp hx
  have hi2 : i < vs.length := by rw [h.1]; exact hi
  have hv : vs[i]? = some vs[i] := List.getElem?_eq_getElem hi2
  exact f _ _ (h.2 i _ _ hv (List.getElem?_eq_getElem hi))
theorem All2.eq {α : Type} {g : α → V} : ∀ {vs : List V} {xs : List α}, All2 (fun v x => v = g x) vs xs → vs = xs.map g
  | [], [], _ => rfl
  | [], x :: xs, h => by have := h.1; simp at this
  | v :: vs, [], h => by have := h.1; simp at this
  | v :: vs, x :: xs, h => by
    have h0 := h.2 0 v x rfl rfl
    have h1 : All2 (fun v x => v = g x) vs xs := ⟨by simpa using h.1, fun i u y hu hy => h.2 (i + 1) u y hu hy⟩
    rw [List.map_cons, ← All2.eq h1, h0]
theorem at_all2 {α : Type} {g : α → V} {vs : List V} {xs : List α} (hl : vs.length = xs.length) (h : ∀ (i : Nat) v, vs[i]? = some v → ∃ x, xs[i]? = some x ∧ v = g x) : vs = xs.map g :=
  All2.eq ⟨hl, fun i v x hv hx => by
    obtain ⟨x', h1, h2⟩ := h i v hv
    rw [hx] at h1
    cases h1
    exact h2⟩
end K14

set_option Elab.async false
set_option linter.all false
set_option maxRecDepth 100000
set_option maxHeartbeats 4000000
namespace Ex
open PySem PySem.W PyProof.Rows PySem.Spec
section
variable {prog : Program} {w : World} {A : Around} {E : Value → Shared → Prop} {R : Result → Shared → Prop} {h : Heap} {g : Array GenState} {d : Drawn} {t : Nat} {os : OsState}
  {nm q : Str} {C N : Addr} {bs bm : List Value} {hdct : Bool} {sn : List Str} {sub : List Value} {ab : Bool} {col : Option Bool} {dd : Option Addr} {k0 k1 k2 k3 k5 : Option Value}

structure VE (C : Addr) (bm : List Value) : Prop where
  b : (Value.ref C :: bm).contains (.type "ValueError") = true
  e : (Value.ref C :: bm).contains (.type "BaseException") = true
  a : (Value.ref C :: bm).contains (.type "AttributeError") = false
  n : (Value.ref C :: bm).contains (.type "NameError") = false
theorem x_check {M : Model} (hC : h.get? C = some (excClassObj nm q C N bs bm hdct sn sub ab col dd k0 k1 k2 k3 k5 "ValueError.__new__")) (V : VE C bm) {rest : List Value} {Q : Unit → Shared → Prop}
    (hq : Q () ⟨h, g, d, t, os⟩) : wpAny M A (checkBuiltinCall "ValueError.__new__" ⟨.ref C :: rest, []⟩) Q E ⟨h, g, d, t, os⟩ := by
  have F := PySem.F.excBase_ValueError
  have v := V.b
  have st := F.noStar
  simp only [checkBuiltinCall, F.newKind, F.newSplit, F.newRow]
  repeat (first | refine wpAny_loadPart_at hC ?_ | (refine wpAny_isSubtype_exc hC ?_; rw [v]) | refine wpAny_staticBase_exc hC ?_ | refine wpAny_madeBy_exc hC ?_ | simp only [bne_self_eq_false, Bool.false_eq_true, if_false] | wp_step)
  exact hq

def heapX (h : Heap) (C : Addr) (rest : List Value) : Heap := (h.push { cls := .type "tuple", data := .seq rest.toArray }).push { cls := .ref C, data := .fields #[.ref h.objs.size, .none, .none, .none, .bool false, .none] }
theorem heapX_keeps {rest : List Value} : ∀ b o, h.get? b = some o → (heapX h C rest).get? b = some o := fun _ _ e => Heap.get?_push_of_some _ (Heap.get?_push_of_some _ e)
theorem heapX_at {rest : List Value} : (heapX h C rest).get? (h.objs.size + 1) = some { cls := .ref C, data := .fields #[.ref h.objs.size, .none, .none, .none, .bool false, .none] } := by
  unfold heapX; heap_get
theorem x_new (hC : h.get? C = some (excClassObj nm q C N bs bm hdct sn sub ab col dd k0 k1 k2 k3 k5 "ValueError.__new__")) (V : VE C bm) {rest : List Value} (hz : rest.length ≤ sizeLine)
    (hq : R (.ok (.ret (.ref (h.objs.size + 1)))) ⟨heapX h C rest, g, d, t, os⟩) : codeAny (model prog w) A (.builtin "ValueError.__new__" ⟨.ref C :: rest, []⟩) R ⟨h, g, d, t, os⟩ := by
  have F := PySem.F.excBase_ValueError
  have en := F.ends
  have vb := V.b
  have va := V.a
  have vn := V.n
  refine codeAny_builtinAt F.entry ?_
  unfold Builtin.«BaseException.__new__»
  refine PySem.wpAt_bind ?_
  show PySem.wpAt _ _ _ (stack >>= _) _ _ _
  refine PySem.wpAt_bind (PySem.wpAt_stack fun p below => PySem.wpAt_of_wpAny ?_)
  wp_walk
  refine PySem.wpAt_of_wpAny ?_
  rw [F.owner]
  repeat (first | with_reducible refine wpAny_madeHere_exc F.canon hC ?_ | with_reducible refine wpAny_loadPart_at hC ?_ | (with_reducible refine wpAny_isSubtype_exc hC ?_; first | rw [vb] | rw [va] | rw [vn]) | wp_step)
  show R _ _
  rw [Heap.size_push]
  exact hq

theorem x_type (hC : h.get? C = some (excClassObj nm q C N bs bm hdct sn sub ab col dd k0 k1 k2 k3 k5 "ValueError.__new__")) (V : VE C bm) {rest : List Value} (hz : rest.length ≤ sizeLine) {fI : Value}
    (hi : Looks (model prog w) h (typeLookup (.ref C) "__init__") (some fI)) (hb : Looks (model prog w) h (bindSpecial fI (.ref (h.objs.size + 1))) (fI, [.ref (h.objs.size + 1)])) {Q : Fin → Shared → Prop}
    (hq : wpAny (model prog w) A (call fI (.ref (h.objs.size + 1) :: rest)) (fun r s' => r = .none ∧ Q (.done (.ret (.ref (h.objs.size + 1)))) s') E ⟨heapX h C rest, g, d, t, os⟩) :
    wpAny (model prog w) A (Builtin.«type.__call__» ⟨.ref C :: rest, []⟩) Q E ⟨h, g, d, t, os⟩ := by
  repeat (first | with_reducible refine wpAny_loadPart_at hC ?_ | with_reducible refine wpAny_madeBy_exc hC ?_ | wp_step)
  refine codeAny_call_builtin_code (Code.quiet_builtin _ PySem.F.excBase_ValueError.quiet) (x_check hC V ?_)
  refine x_new hC V hz ?_
  show wpAny _ _ _ _ _ _
  have hC1 := heapX_keeps (C := C) (rest := rest) _ _ hC
  have hg := heapX_at (h := h) (C := C) (rest := rest)
  have hcC : (Value.ref C :: bm).contains (.ref C) = true := by simp
  have i1 := hi.keeps (heapX_keeps (C := C) (rest := rest))
  have b1 := hb.keeps (heapX_keeps (C := C) (rest := rest))
  unfold isInstance
  repeat (first | with_reducible refine wpAny_loadPart_at hg ?_ | (with_reducible refine wpAny_isSubtype_exc hC1 ?_; rw [hcC]) | wp_step)
  show wpAny _ _ (typeLookup (.ref C) _) _ _ _
  refine i1.at ?_
  refine wpAny_holding (wpAny_bind ?_)
  refine b1.at ?_
  refine wpAny_bind (wpAny_mono hq (fun r s' hr => ?_) fun _ _ x => x)
  obtain ⟨rfl, hQ⟩ := hr
  wp_walk
  exact hQ
theorem x_call (hC : h.get? C = some (excClassObj nm q C N bs bm hdct sn sub ab col dd k0 k1 k2 k3 k5 "ValueError.__new__")) (V : VE C bm) {rest : List Value} (hz : rest.length ≤ sizeLine) {fI : Value}
    (hi : Looks (model prog w) h (typeLookup (.ref C) "__init__") (some fI)) (hb : Looks (model prog w) h (bindSpecial fI (.ref (h.objs.size + 1))) (fI, [.ref (h.objs.size + 1)])) {Q : Value → Shared → Prop}
    (hq : wpAny (model prog w) (A.under (.builtin "type.__call__" ⟨.ref C :: rest, []⟩)) (call fI (.ref (h.objs.size + 1) :: rest)) (fun r s' => r = .none ∧ Q (.ref (h.objs.size + 1)) s') E ⟨heapX h C rest, g, d, t, os⟩) :
    wpAny (model prog w) A (call (.ref C) rest) Q E ⟨h, g, d, t, os⟩ := by
  have f1 := tc_lookup
  have f2 := tc_bind (.ref C)
  have hT : (⟨h, g, d, t, os⟩ : Shared).TypeIs (.ref C) "type" := ⟨_, hC, rfl⟩
  refine wpAny_call (codeAny_of_tree ?_)
  show wpAny _ _ (callAny (.ref C) _) _ _ _
  repeat (any_goals (first | assumption | with_reducible refine wpAny_loadPart_at hC ?_ | wp_step))
  refine ⟨rfl, ?_⟩
  exact codeAny_call_builtin_at (Code.quiet_builtin _ (by decide +kernel)) entry_typeCall (wpAny_check_type_call_sub hC (x_type hC V hz hi hb hq))
theorem x_raise {M : Model} {env : Env} {s : Shared} {x : Sem Value} {Q : Flow → Shared → Prop} (hh : A.handled = none)
    (hx : wpAny M A x (fun v s₁ => ∃ e o vs, v = .ref e ∧ s₁.heap.get? C = some (excClassObj nm q C N bs bm hdct sn sub ab col dd k0 k1 k2 k3 k5 "ValueError.__new__") ∧ VE C bm ∧
      s₁.heap.get? e = some o ∧ o.cls = .ref C ∧ o.data = .fields vs ∧ vs[1]? = some .none ∧ E (.ref e) s₁) E s) : wpAny M A (raiseStmt env (some x) none) Q E s := by
  unfold raiseStmt
  refine wpAny_bind (wpAny_mono hx (fun v s₁ h₁ => ?_) fun _ _ x => x)
  obtain ⟨e, o, vs, rfl, hC, V, he, hc, hd, h1, hE⟩ := h₁
  obtain ⟨hp, g, d, tk, os⟩ := s₁
  obtain ⟨oc, od, oda, osl⟩ := o
  dsimp only at hc hd
  subst hc hd
  have ve := V.e
  repeat (first | with_reducible refine wpAny_loadPart_at he ?_ | with_reducible refine wpAny_loadPart_at hC ?_ | (with_reducible refine wpAny_isSubtype_exc hC ?_; rw [ve]) | wp_step)
  rw [h1]
  refine wpAny_pure ?_
  rw [if_neg (by decide)]
  exact wpAny_pure (wpAny_raiseNew_none hh hE)
end
end Ex

set_option Elab.async false
set_option linter.all false
set_option maxRecDepth 100000
set_option maxHeartbeats 4000000
namespace Ex
open PySem PySem.W PyProof.Rows PySem.Spec L2


structure Mvd (S : List Addr) (D : Addr → Prop) (h h' : Heap) : Prop where
  keep : ∀ b o, ¬ D b → b ∉ S → h.get? b = some o → h'.get? b = some o
  slot : ∀ b o, ¬ D b → h.get? b = some o → ∃ sl, h'.get? b = some { o with slots := sl }
theorem Mvd.trans {S : List Addr} {D : Addr → Prop} {h h1 h2 : Heap} (a : Mvd S D h h1) (b : Mvd S D h1 h2) : Mvd S D h h2 :=
  ⟨fun c o n m e => b.keep c o n m (a.keep c o n m e), fun c o n e => by
    obtain ⟨sl, e1⟩ := a.slot c o n e
    obtain ⟨sl2, e2⟩ := b.slot c _ n e1
    exact ⟨sl2, e2⟩⟩
theorem Mvd.mono {S : List Addr} {D D' : Addr → Prop} {h h' : Heap} (a : Mvd S D h h') (hd : ∀ b, D b → D' b) : Mvd S D' h h' := ⟨fun b o n => a.keep b o fun z => n (hd b z), fun b o n => a.slot b o fun z => n (hd b z)⟩

def Tr (h : Heap) (e : Addr) (cls : Value) (d : Option Addr) (T : Addr) (fl : Value) : Prop :=
  ∃ o vs oT ts, h.get? e = some o ∧ o.cls = cls ∧ o.dict = d ∧ o.data = .fields vs ∧ vs[1]? = some (.ref T) ∧ T ≠ e ∧ h.get? T = some oT ∧ oT.data = .fields ts ∧ ts[3]? = some fl

def Raw (h : Heap) (e : Addr) (cls : Value) (d : Option Addr) : Prop := ∃ o vs, h.get? e = some o ∧ o.cls = cls ∧ o.dict = d ∧ o.data = .fields vs ∧ vs[1]? = some .none
section
variable {M : Model} {A : Around} {E : Value → Shared → Prop} {s : Shared} {base : Heap} {env : Env} {outer : List Env} {L e : Addr} {cls : Value} {d : Option Addr}
theorem mapF (f : Array Value → Array Value) {o : Obj} {vs : Array Value} (hd : o.data = .fields vs) : Obj.mapFields f o = { o with data := .fields (f vs) } := by
  obtain ⟨c, d, dt, sl⟩ := o
  dsimp only at hd
  subst hd
  rfl
theorem x_entry {oe : Obj} {vs : Array Value} {head : Value} {hadNext : Bool} {Q : Unit → Shared → Prop} (hfr : A.frames = some (env :: outer)) (hl : s.heap.FunFrames base (env :: outer)) (hf : env.frame = some L)
    (he : s.heap.get? e = some oe) (hd : oe.data = .fields vs) (hsz : 1 < vs.size)
    (h : ∀ h' T, s.heap.get? T = none → Mvd (frs (env :: outer)) (fun b => b = e) s.heap h' → Tr h' e oe.cls oe.dict T (rawInt L) → Q () { s with heap := h' }) :
    wpAny M A (do let a ← frameOf env; let pl ← entryPlaceOf L hadNext; let b ← EntryCells.newEntry head a .none (rawInt L) .none pl; setField (.ref e) 1 b) Q E s := by
  have hene : e ∉ frs (env :: outer) := fun hm => by
    obtain ⟨_, o, ho, hnf⟩ := hl.mem hm
    rw [he] at ho; cases ho; exact hnf vs hd
  refine wpAny_bind (wpAny_frameOf_fun hfr hl hf fun h₁ hs₁ => ?_)
  refine wpAny_bind (wpAny_entryPlaceOf fun pl hpl => ?_)
  unfold EntryCells.newEntry newFields
  refine wpAny_bind (wpAny_newObj_type ?_ (hpl.sizeOk5 _ _ _ _ _))
  have he₁ : h₁.get? e = some oe := (hs₁.2.1 e hene).trans he
  have he₂ := Heap.get?_push_of_some (h := h₁) { cls := .type "traceback", dict := none, data := .fields ([head, .ref L, .none, rawInt L, .none] ++ (if pl.isEmpty then List.replicate 6 Value.none else pl)).toArray } he₁
  refine wpAny_setField he₂ hd hsz (h _ h₁.objs.size (Heap.get?_none_of_le (by rw [hs₁.1]; exact Nat.le_refl _)) ?_ ?_)
  · refine ⟨fun b o hb hm hbo => ?_, fun b o hb hbo => ?_⟩
    · rw [Heap.get?_update_other _ _ (Ne.symm hb)]
      exact Heap.get?_push_of_some _ ((hs₁.2.1 b hm).trans hbo)
    · obtain ⟨sl, e1⟩ := hs₁.2.2 b o hbo
      refine ⟨sl, ?_⟩
      rw [Heap.get?_update_other _ _ (Ne.symm hb)]
      exact Heap.get?_push_of_some _ e1
  · have hTe : h₁.objs.size ≠ e := Nat.ne_of_gt (Heap.lt_size he₁)
    have hd₃ := Obj.data_mapFields hd (·.setIfInBounds 1 (Value.ref h₁.objs.size))
    have he₃ := Heap.get?_update_self (Obj.mapFields (·.setIfInBounds 1 (Value.ref h₁.objs.size))) he₂ (Obj.isFreed_of_fields hd₃)
    have hT₃ := (Heap.get?_update_other (h₁.push { cls := .type "traceback", dict := none, data := .fields ([head, .ref L, .none, rawInt L, .none] ++ (if pl.isEmpty then List.replicate 6 Value.none else pl)).toArray })
      (Obj.mapFields (·.setIfInBounds 1 (Value.ref h₁.objs.size))) (Ne.symm hTe)).trans (Heap.get?_push_size h₁ rfl)
    refine ⟨_, _, _, _, he₃, ?_, ?_, hd₃, by simp [hsz], hTe, hT₃, rfl, by first | (simp; done) | (rcases hpl with rfl | ⟨_, _, _, _, _, _, _, rfl⟩ <;> simp)⟩
    · rw [mapF _ hd]
    · rw [mapF _ hd]

theorem x_mark {T : Addr} {fl : Value} {fr : Option Addr} {Q : Unit → Shared → Prop} (ht : Tr s.heap e cls d T fl)
    (h : ∀ h', Mvd [] (fun b => b = T) s.heap h' → Tr h' e cls d T (fr.elim .none fun f => rawInt f) → Q () { s with heap := h' }) : wpAny M A (setFlight (.ref e) fr) Q E s := by
  obtain ⟨o, vs, oT, ts, he, hc, hdc, hd, h1, hTe, hT, hdT, h3⟩ := ht
  have hsz : 3 < ts.size := (Array.getElem?_eq_some_iff.mp h3).1
  unfold setFlight
  refine wpAny_bind (wpAny_field he hd h1 ?_)
  rw [if_pos (show (Value.ref T != Value.none) = true from by simp)]
  have other : ∀ (g : Obj → Obj) (b : Addr), b ≠ T → (s.heap.update T g).get? b = s.heap.get? b := fun g b hb => Heap.get?_update_other _ _ (Ne.symm hb)
  refine wpAny_setField hT hdT hsz (h _ ⟨fun b o hb _ hbo => (other _ b hb).trans hbo, fun b o hb hbo => ⟨o.slots, (other _ b hb).trans hbo⟩⟩ ?_)
  exact ⟨o, vs, _, _, (other _ e (Ne.symm hTe)).trans he, hc, hdc, hd, h1, hTe, Heap.get?_update_self _ hT (Obj.isFreed_of_fields (Obj.data_mapFields hdT _)), Obj.data_mapFields hdT _, by simp [hsz]⟩

theorem x_noteR {Q : Unit → Shared → Prop} (hfr : A.frames = some (env :: outer)) (hl : s.heap.FunFrames base (env :: outer)) (hf : env.frame = some L) (hr : Raw s.heap e cls d)
    (h : ∀ h' T, s.heap.get? T = none → Mvd (frs (env :: outer)) (fun b => b = e) s.heap h' → Tr h' e cls d T (rawInt L) → Q () { s with heap := h' }) : wpAny M A (noteFrame (.ref e) env) Q E s := by
  obtain ⟨o, vs, he, rfl, rfl, hd, h1⟩ := hr
  unfold noteFrame
  simp only [hf]
  refine wpAny_bind (wpAny_field he hd h1 ?_)
  rw [if_neg (by decide)]
  exact x_entry hfr hl hf he hd (Array.getElem?_eq_some_iff.mp h1).1 h

theorem x_noteT {T0 : Addr} {Q : Unit → Shared → Prop} (hfr : A.frames = some (env :: outer)) (hl : s.heap.FunFrames base (env :: outer)) (hf : env.frame = some L) (hr : Tr s.heap e cls d T0 .none)
    (h : ∀ h' T, s.heap.get? T = none → Mvd (frs (env :: outer)) (fun b => b = e ∨ b = T0) s.heap h' → Tr h' e cls d T (rawInt L) → Q () { s with heap := h' }) : wpAny M A (noteFrame (.ref e) env) Q E s := by
  obtain ⟨o, vs, oT, ts, he, rfl, rfl, hd, h1, hTe, hT, hdT, h3⟩ := hr
  unfold noteFrame
  simp only [hf]
  refine wpAny_bind (wpAny_field he hd h1 ?_)
  rw [if_pos (show (Value.ref T0 != Value.none) = true from by simp)]
  refine wpAny_bind (wpAny_field hT hdT h3 ?_)
  rw [if_neg (show ¬ ((Value.none == rawInt L) = true) from by simp [rawInt])]
  refine wpAny_bind (wpAny_setField hT hdT (Array.getElem?_eq_some_iff.mp h3).1 ?_)
  have other : ∀ (g : Obj → Obj) (b : Addr), b ≠ T0 → (s.heap.update T0 g).get? b = s.heap.get? b := fun g b hb => Heap.get?_update_other _ _ (Ne.symm hb)
  have noT : ∀ b o, s.heap.get? b = some o → (∀ vs, o.data ≠ .fields vs) → b ≠ T0 := fun b o hb hnf q => by
    rw [q, hT] at hb; cases hb; exact hnf ts hdT
  have m1 : Mvd (frs (env :: outer)) (fun b => b = e ∨ b = T0) s.heap (s.heap.update T0 (Obj.mapFields (·.setIfInBounds 3 Value.none))) :=
    ⟨fun b o hb _ hbo => (other _ b fun z => hb (.inr z)).trans hbo, fun b o hb hbo => ⟨o.slots, (other _ b fun z => hb (.inr z)).trans hbo⟩⟩
  have hl2 : (s.heap.update T0 (Obj.mapFields (·.setIfInBounds 3 Value.none))).FunFrames base (env :: outer) := hl.of_keeps fun b o hb hnf => ⟨o, (other _ b (noT b o hb hnf)).trans hb, rfl⟩
  refine x_entry (s := { s with heap := s.heap.update T0 (Obj.mapFields (·.setIfInBounds 3 Value.none)) }) hfr hl2 hf ((other _ e (Ne.symm hTe)).trans he) hd (Array.getElem?_eq_some_iff.mp h1).1 fun h' T hT' m2 tr => h h' T ?_ (m1.trans (m2.mono fun b z => .inl z)) tr
  by_cases z : T = T0
  · subst z
    exfalso
    have q := Heap.get?_update_self (Obj.mapFields (·.setIfInBounds 3 Value.none)) hT (Obj.isFreed_of_fields (Obj.data_mapFields hdT _))
    dsimp only at hT'
    rw [q] at hT'; cases hT'
  · dsimp only at hT'
    rwa [other _ T z] at hT'
end
end Ex

set_option Elab.async false
set_option linter.all false
set_option maxRecDepth 100000
set_option maxHeartbeats 4000000
namespace L2
open PySem PySem.Spec PyProof.Rows


def XO (e C : Addr) (d : Option Addr) : HO := .ext fun h => ∃ t, h.get? e = some { cls := .ref C, dict := d, data := .fields #[.ref t, .none, .none, .none, .bool false, .none] }

def XC (e C : Addr) (d : Option Addr) : HO := .ext fun h => ∃ o vs, h.get? e = some o ∧ o.cls = .ref C ∧ o.dict = d ∧ o.data = .fields vs

def XCls (K : PySem.W.Frag) (C : Addr) : Prop := ∃ (nm q : Str) (N : Addr) (bs bm : List Value) (sn : List Str) (sub : List Value) (ab : Bool) (col : Option Bool) (dd : Option Addr) (k0 k1 k2 k3 k5 : Option Value),
  K.lookup C = some (excClassObj nm q C N bs bm true sn sub ab col dd k0 k1 k2 k3 k5 "ValueError.__new__") ∧ Ex.VE C bm

def CXe (P : Program) (w : World) : CXT := fun outer H s E e s' => ∃ ea cls d T H', e = .ref ea ∧ s'.os = s.os ∧ AllBare s'.gens ∧ Un (frs outer) [] H H' s.heap s'.heap ∧ HOk P w H' s'.heap ∧
  s.heap.get? ea = none ∧ H' ea = none ∧ s.heap.get? T = none ∧ H' T = none ∧ Ex.Tr s'.heap ea cls d T .none ∧ E cls d H'
section
variable {P : Program} {w : World} {H H' : Hp} {h h' : Heap} {a : Addr} {o : HO} {fs S : List Addr} {D : Addr → Prop} {H0 : Hp} {h0 : Heap}
theorem ObjOk.some_at (x : ObjOk P w H h a o) : ∃ u, h.get? a = some u := by
  cases o with
  | lst xs => obtain ⟨_, _, _, _, e⟩ := x; exact ⟨_, e⟩
  | tup xs => obtain ⟨_, _, _, ob, e, _⟩ := x; exact ⟨_, e⟩
  | dK kvs => obtain ⟨_, _, _, _, o, _, _, e, _⟩ := x; exact ⟨_, e⟩
  | dT kvs => obtain ⟨_, _, _, _, o, _, _, e, _⟩ := x; exact ⟨_, e⟩
  | set S n => obtain ⟨o, _, _, _, e, _⟩ := x; exact ⟨_, e⟩
  | ins C dx fs => obtain ⟨_, _, _, e, _⟩ := x; exact ⟨_, e⟩
  | own y => exact x
  | xd fs => obtain ⟨_, ⟨_, _, _, e, _⟩, _⟩ := x; exact ⟨_, e⟩
  | rng lo hi => obtain ⟨_, _, _, e⟩ := x; exact ⟨_, e⟩
  | frz ob u => obtain ⟨e, _⟩ := x; exact ⟨_, e⟩
  | tbl ps => exact ⟨_, (show h.get? a = some _ from x)⟩
  | met f y => exact ⟨_, (show h.get? a = some _ from x)⟩
  | ext φ => exact x.2.1
theorem HOk.none_of (x : HOk P w H h) (e : h.get? a = none) : H a = none := by
  cases q : H a with
  | none => rfl
  | some u => obtain ⟨v, z⟩ := (x a u q).some_at; rw [e] at z; cases z
theorem Un.moved (u : Un fs [] H0 H h0 h) (m : Ex.Mvd S D h h') (hD : ∀ b, D b → h0.get? b = none) (hS : ∀ b ∈ S, b ∈ fs ∨ h0.get? b = none) : Un fs [] H0 H h0 h' where
  keep := fun b o q n hb hx => m.keep b o (fun z => by rw [hD b z] at q; cases q) (fun z => (hS b z).elim hb fun r => by rw [r] at q; cases q) (u.keep b o q n hb hx)
  slot := fun b o q n hb hx => by
    obtain ⟨sl, e⟩ := u.slot b o q n hb hx
    obtain ⟨sl2, e2⟩ := m.slot b _ (fun z => by rw [hD b z] at q; cases q) e
    exact ⟨sl2, e2⟩
  free := u.free
  there := fun b o q hx => by
    obtain ⟨o', e⟩ := u.there b o q hx
    obtain ⟨sl2, e2⟩ := m.slot b _ (fun z => by rw [hD b z] at q; cases q) e
    exact ⟨_, e2⟩
  tups := u.tups
  frzs := u.frzs
  tbls := u.tbls
theorem HOk.moved (x : HOk P w H h) (m : Ex.Mvd S D h h') (hD : ∀ b, D b → H b = none) (hS : ∀ b ∈ S, H b = none) : HOk P w H h' := fun a o e =>
  (x a o e).stay (fun b u hb q => by
    have t : ∃ z, H b = some z := by
      rcases hb with rfl | hb
      · exact ⟨_, e⟩
      · exact ⟨_, hb⟩
    obtain ⟨z, t⟩ := t
    exact m.keep b u (fun y => by rw [hD b y] at t; cases t) (fun y => by rw [hS b y] at t; cases t) q) (fun _ q => q) fun _ _ q => q
theorem Un.ers {φ : Heap → Prop} (u : Un fs [] H0 H h0 h) (e : H a = some (.ext φ)) : Un fs [] H0 (ers a H) h0 h where
  keep := u.keep
  slot := u.slot
  free := fun b o q n hx => by
    have r := u.free b o q n hx
    unfold L2.ers
    split
    · rfl
    · exact r
  there := u.there
  tups := fun b xs q => by
    have r := u.tups b xs q
    rw [ers_ne (fun z => by rw [z, e] at r; cases r)]; exact r
  frzs := fun b o xs q => by
    have r := u.frzs b o xs q
    rw [ers_ne (fun z => by rw [z, e] at r; cases r)]; exact r
  tbls := fun b ps q => by
    obtain ⟨m, r⟩ := u.tbls b ps q
    exact ⟨m, by rw [ers_ne (fun z => by rw [z, e] at r; cases r)]; exact r⟩
theorem HOk.ers {φ : Heap → Prop} (x : HOk P w H h) (e : H a = some (.ext φ)) : HOk P w (ers a H) h := fun b o q => by
  have hb : b ≠ a := fun z => by subst z; unfold L2.ers at q; rw [if_pos rfl] at q; cases q
  rw [ers_ne hb] at q
  exact (x b o q).stay (fun c u _ r => r) (fun c r => by rw [ers_ne (fun z => by rw [z, e] at r; cases r)]; exact r) fun c xs r => by rw [ers_ne (fun z => by rw [z, e] at r; cases r)]; exact r
end
theorem mvd_S {S S' : List Addr} {D : Addr → Prop} {h h' : Heap} (m : Ex.Mvd S D h h') (hs : ∀ b ∈ S, b ∈ S') : Ex.Mvd S' D h h' := ⟨fun b o n z => m.keep b o n fun q => z (hs b q), m.slot⟩
section
variable {P : Program} {w : World} {K : PySem.W.Frag} {mg : Str → Option Value} {base : Heap} {N : List Str} {qual : Str} {sc : Scope} {f : Addr} {cd : Value} {A : Around} {outer : List Env} {s0 s : Shared} {H0 H : Hp} {E : XK}
  {pins : List (Addr × Obj)} {σ : St} {cls : Value} {d : Option Addr} {e : Addr}
theorem xe_end {h2 : Heap} {T : Addr} {D : Addr → Prop} {S : List Addr} (I : Inv (cxOf (CXe P w) P w K mg base N qual sc f cd A outer s0 H0 E) pins σ H s) {H1 : Hp} (hn : s0.heap.get? e = none) (hT : s.heap.get? T = none)
    (u : Un (frs outer) [] H0 H1 s0.heap s.heap) (hok : HOk P w H1 s.heap) (he1 : H1 e = none) (hS : S = frs (cxOf (CXe P w) P w K mg base N qual sc f cd A outer s0 H0 E).stack) (hS1 : ∀ b ∈ S, H1 b = none)
    (m : Ex.Mvd S D s.heap h2) (hD0 : ∀ b, D b → s0.heap.get? b = none) (hD1 : ∀ b, D b → H1 b = none)
    (t : Ex.Tr h2 e cls d T .none) (hE : E cls d H1) : CXe P w outer H0 s0 E (.ref e) { s with heap := h2 } := by
  have fresh : ∀ b, s.heap.get? b = none → s0.heap.get? b = none := fun b q => by
    cases r : s0.heap.get? b with
    | none => rfl
    | some o => obtain ⟨o', z⟩ := u.there b o r (by simp); rw [q] at z; cases z
  refine ⟨e, cls, d, T, H1, rfl, I.os, I.bare, u.moved m hD0 fun b hb => ?_, hok.moved m hD1 hS1, hn, he1, fresh T hT, hok.none_of hT, t, hE⟩
  subst hS
  rcases List.mem_cons.mp (I.stkSub b hb) with z | z
  · exact .inr (by rw [z]; exact Heap.get?_none_of_le I.ok.above)
  · exact .inl z

theorem xe_raw (I : Inv (cxOf (CXe P w) P w K mg base N qual sc f cd A outer s0 H0 E) pins σ H s) {φ : Heap → Prop} (he : H e = some (.ext φ)) (hn : s0.heap.get? e = none) (hr : Ex.Raw s.heap e cls d) (hE : E cls d (ers e H)) :
    (cxOf (CXe P w) P w K mg base N qual sc f cd A outer s0 H0 E).xe (.ref e) s := by
  show wpAny _ _ (leaving _ _) _ _ s
  unfold leaving
  refine wpAny_bind (Ex.x_noteR I.ok.frames I.stack rfl hr fun h1 T hT m1 t1 => ?_)
  refine Ex.x_mark (fr := none) t1 fun h2 m2 t2 => ?_
  have hfr := I.stkFree
  have fresh : ∀ b, s.heap.get? b = none → s0.heap.get? b = none := fun b q => by
    cases r : s0.heap.get? b with
    | none => rfl
    | some o => obtain ⟨o', z⟩ := I.base.there b o r (fun q => nomatch q); rw [q] at z; cases z
  refine xe_end (s := s) (D := fun b => b = e ∨ b = T) (S := frs (cxOf (CXe P w) P w K mg base N qual sc f cd A outer s0 H0 E).stack) I hn hT (Un.ers I.base he) (HOk.ers I.hok he) (if_pos rfl) rfl (fun b hb => ?_) ((m1.mono fun b z => .inl z).trans (mvd_S (m2.mono fun b z => .inr z) fun b z => nomatch z)) ?_ ?_ t2 hE
  · unfold L2.ers; split; rfl; exact hfr b hb
  · rintro b (rfl | rfl); exact hn; exact fresh _ hT
  · rintro b (rfl | rfl)
    · exact if_pos rfl
    · exact (HOk.ers I.hok he).none_of hT

theorem pass_own : PassesOwn (model P w) (cxOf (CXe P w) P w K mg base N qual sc f cd A outer s0 H0 E).A (cxOf (CXe P w) P w K mg base N qual sc f cd A outer s0 H0 E).env (cxOf (CXe P w) P w K mg base N qual sc f cd A outer s0 H0 E).xe := PassesOwn.leaving
end

def Throws (X : Cx) (EX : XK) : Prop := ∀ (pins : List (Addr × Obj)) (σ : St) (H : Hp) (s : Shared) (e : Addr) (φ : Heap → Prop) (cls : Value) (d : Option Addr),
  Inv X pins σ H s → H e = some (.ext φ) → X.s₀.heap.get? e = none → Ex.Raw s.heap e cls d → EX cls d (ers e H) → X.xe (.ref e) s
theorem throws_e {P : Program} {w : World} {K : PySem.W.Frag} {mg : Str → Option Value} {base : Heap} {N : List Str} {qual : Str} {sc : Scope} {f : Addr} {cd : Value} {A : Around} {outer : List Env} {s0 : Shared} {H0 : Hp} {E : XK} :
    Throws (cxOf (CXe P w) P w K mg base N qual sc f cd A outer s0 H0 E) E := fun _ _ _ _ _ _ _ _ I he hn hr hE => xe_raw I he hn hr hE
end L2

set_option Elab.async false
set_option linter.all false
set_option maxRecDepth 100000
set_option maxHeartbeats 4000000
namespace L2
open PySem PySem.Spec PyProof.Rows
theorem xo_ok {P : Program} {w : World} {H : Hp} {h : Heap} {e C : Addr} {d : Option Addr} {t : Addr} (q : h.get? e = some { cls := .ref C, dict := d, data := .fields #[.ref t, .none, .none, .none, .bool false, .none] }) : ObjOk P w H h e (XO e C d) :=
  ⟨⟨t, q⟩, ⟨_, q⟩, fun h1 h2 ⟨u, z⟩ k => ⟨u, k _ z⟩⟩
theorem xc_ok {P : Program} {w : World} {H : Hp} {h : Heap} {e C : Addr} {d : Option Addr} {o : Obj} {vs : Array Value} (q : h.get? e = some o) (hc : o.cls = .ref C) (hd : o.dict = d) (hf : o.data = .fields vs) : ObjOk P w H h e (XC e C d) :=
  ⟨⟨o, vs, q, hc, hd, hf⟩, ⟨_, q⟩, fun h1 h2 ⟨o, vs, z, r⟩ k => ⟨o, vs, k _ z, r⟩⟩
def tRaise (C : Addr) (sp : Sp) (EX : XK) (t : TA) : TS := fun _ σ H => t σ H fun vs H1 => ∀ x, H1 x = none →
  sp (.ref x :: vs) (upd H1 x (XO x C none)) (fun v H2 => v = .non ∧ ∃ d, H2 x = some (XO x C d) ∧ EX (.ref C) d (ers x H2)) E0
section
variable {X : Cx} {k : Nat} {f C : Addr} {fd : FuncData} {ps : List Str} {sp : Sp} {EX : XK} {x : Str} {p pos cpos : Pos} {e : Expr} {es : List Expr} {t : TA}

theorem ps_raise (hX : XCls X.K C) (hm : X.mg x = some (.ref C)) (hi : PySem.W.findIn X.K (.ref C) "__init__" = some (some (.ref f))) (hf : PySem.W.isFn X.K (.ref f) = true) (hk : PySem.W.keepIn X.K (.ref C) = true)
    (F : FnOk X.prog X.w X.K X.mg X.base CX0 k f fd ps sp) (hb : Binds X.K fd ps []) (hr : Room (k + 1) X.A) (hc : X.calm = true) (hx : Throws X EX) (ha : PA X (e :: es) t) (hz : ps.length ≤ 1000 := by decide) (hg : Gl X x := by rfl)
    (hdb : (x == ("__debug__" : Str)) = false := by decide) (he : starEach (e :: es) X.env = (false, eval e X.env) :: starEach es X.env := by rfl) (hpl : (backTo cpos (starEach es X.env)).any (·.1) = false := by rfl) :
    PS X (.Raise (some (.Call (.Name x p) (e :: es) [] cpos)) none pos) (tRaise C sp EX t) := by
  intro pins s σ H D I h
  obtain ⟨nm, q, N, bs, bm, sn, sub, ab, col, dd, k0, k1, k2, k3, k5, hl, VV⟩ := hX
  rw [arm_exec_Raise]
  refine wpAny_bind (wpAny_standAt (Ex.x_raise (C := C) (nm := nm) (q := q) (N := N) (bs := bs) (bm := bm) (hdct := true) (sn := sn) (sub := sub) (ab := ab) (col := col) (dd := dd) (k0 := k0) (k1 := k1) (k2 := k2) (k3 := k3) (k5 := k5) (I.ok.hd hc) ?_))
  show wpAny _ _ (eval (.Call (.Name x p) (e :: es) [] cpos) X.env >>= fun v => standAt pos >>= fun _ => pure v) _ _ _
  refine wpAny_bind (wpAny_mono (Q := fun v s₁ => ∃ e o vs, v = .ref e ∧ s₁.heap.get? C = some (excClassObj nm q C N bs bm true sn sub ab col dd k0 k1 k2 k3 k5 "ValueError.__new__") ∧ Ex.VE C bm ∧
      s₁.heap.get? e = some o ∧ o.cls = .ref C ∧ o.data = .fields vs ∧ vs[1]? = some .none ∧ X.xe (.ref e) s₁) ?_ (fun v s3 h3 => wpAny_bind (wpAny_standAt (wpAny_pure h3))) fun _ _ z => z)
  refine wpAny_Call_Name_kw (ld_glob I hg hm ?_ hdb)
  refine PySem.W.callWith_K (h₀ := X.base) I.ok.mod.kin hk (thn (ha cpos pins s σ H _ I h) fun us s1 ⟨vs, H1, I1, r, q1⟩ => ⟨I1.kIn, ?_⟩) he hpl
  have hq := q1 (s1.heap.objs.size + 1) (I1.hok.fresh (Nat.le_succ _))
  have hlen := F.len _ _ _ _ hq
  have hlen' : us.length ≤ sizeLine := by
    rw [List.length_cons, r.length] at hlen
    exact Nat.le_of_lt (small1000 (by omega))
  obtain ⟨hp, g, dr, tk, os⟩ := s1
  refine Ex.x_call (fI := .ref f) (I1.kIn _ _ hl) VV hlen' (PySem.W.looks_findIn I1.kIn hi) (PySem.W.bind_fn I1.kIn _ (beq_iff_eq.mp hf)) ?_
  have I2 : Inv X pins σ (upd H1 (hp.objs.size + 1) (XO (hp.objs.size + 1) C none)) ⟨Ex.heapX hp C us, g, dr, tk, os⟩ :=
    I1.laid (h' := Ex.heapX hp C us) (t' := tk) (fun b u z => Ex.heapX_keeps b u z) (Nat.le_succ _) (xo_ok Ex.heapX_at)
  have r2 : Vals (V.ref (hp.objs.size + 1) :: vs) (Value.ref (hp.objs.size + 1) :: us) := .cons rfl r
  have hl2 : (Value.ref (hp.objs.size + 1) :: us).length = ps.length := by rw [← r2.length]; exact hlen
  have hb2 : BindsTo ⟨Ex.heapX hp C us, g, dr, tk, os⟩ fd ⟨Value.ref (hp.objs.size + 1) :: us, []⟩ (ps.zip (Value.ref (hp.objs.size + 1) :: us)) := by
    have := hb ⟨Ex.heapX hp C us, g, dr, tk, os⟩ (Value.ref (hp.objs.size + 1) :: us) I2.kIn (by rw [List.append_nil]; exact hl2)
    rwa [List.append_nil] at this
  refine wpAny_call (codeAny_mono (F.run _ X.stack _ _ ⟨Value.ref (hp.objs.size + 1) :: us, []⟩ (Value.ref (hp.objs.size + 1) :: us) _ _ E0 (hr.make C us []) (I2.env0.make C us []) hb2 r2 hq) fun rr s' hq' => ?_)
  cases rr with
  | error ev => exact False.elim hq'
  | ok fl =>
    cases fl with
    | ret u =>
      obtain ⟨v, H3, I3, rv, ev, dd', hx3, hE⟩ := I2.after hq'
      subst ev
      obtain ⟨t0, hob⟩ := (I3.hok _ _ hx3).1
      exact ⟨rv, _, _, _, rfl, I3.kIn _ _ hl, VV, hob, rfl, rfl, rfl, hx pins σ H3 s' _ _ (.ref C) dd' I3 hx3 (Heap.get?_none_of_le (Nat.le_trans I1.sz (Nat.le_succ _))) ⟨_, _, hob, rfl, rfl, rfl, rfl⟩ hE⟩
    | next => exact False.elim hq'
    | brk => exact False.elim hq'
    | cont => exact False.elim hq'
end
end L2

set_option Elab.async false
set_option linter.all false
set_option maxRecDepth 100000
set_option maxHeartbeats 4000000
namespace Ex
open PySem PySem.W PyProof.Rows PySem.Spec
section
variable {prog : Program} {w : World} {A : Around} {E : Value → Shared → Prop} {R : Result → Shared → Prop} {h : Heap} {g : Array GenState} {d : Drawn} {t : Nat} {os : OsState}
  {nm q : Str} {C N : Addr} {bs bm : List Value} {hdct : Bool} {sn : List Str} {sub : List Value} {ab : Bool} {col : Option Bool} {dd : Option Addr} {k0 k1 k2 k3 k5 : Option Value}
end
end Ex
namespace L2
open PySem PySem.Spec PyProof.Rows
section
variable {X : Cx} {C : Addr} {EX : XK} {x : Str} {p pos cpos : Pos}

end
end L2

set_option Elab.async false
set_option linter.all false
set_option maxRecDepth 100000
set_option maxHeartbeats 4000000
namespace Ex
open PySem PySem.W PyProof.Rows PySem.Spec

def veTail : List Value → Bool
  | .ref _ :: r => veTail r
  | l => l == [.type "ValueError", .type "Exception", .type "BaseException", .type "object"]
theorem veTail_ind {p : List Value → Prop} (h0 : p [.type "ValueError", .type "Exception", .type "BaseException", .type "object"]) (h1 : ∀ a r, p r → p (.ref a :: r)) : ∀ {l : List Value}, veTail l = true → p l
  | [], e => by cases e
  | c :: r, e => by
    cases c with
    | ref a => exact h1 a r (veTail_ind h0 h1 e)
    | _ => rw [show _ :: r = _ from beq_iff_eq.mp e]; exact h0
theorem veTail_has {l : List Value} (h : veTail l = true) {X : String} {b : Bool} (hb : ([.type "ValueError", .type "Exception", .type "BaseException", .type "object"] : List Value).contains (.type X) = b) : l.contains (.type X) = b :=
  veTail_ind (p := fun l => l.contains (.type X) = b) hb (fun a r z => by rw [List.contains_cons, z]; rfl) h
theorem veTail_pass {l : List Value} (h : veTail l = true) (self : Value) : refuseLoop self "__setattr__" l = pure () :=
  veTail_ind (p := fun l => refuseLoop self "__setattr__" l = pure ()) (PySem.F.store_ValueError.passes self) (fun a r z => by rw [refuseLoop_ref]; exact z) h
theorem VE.of {C : Addr} {bm : List Value} (h : veTail bm = true) : VE C bm := by
  have h' : veTail (.ref C :: bm) = true := h
  exact ⟨veTail_has h' (by decide +kernel), veTail_has h' (by decide +kernel), veTail_has h' (by decide +kernel), veTail_has h' (by decide +kernel)⟩
section
variable {prog : Program} {w : World} {A : Around} {K : Frag} {C x : Addr} {s : Shared} {R : Result → Shared → Prop}
theorem xa_open {ox : Obj} {od : Option Obj} {name : Str} {tk : Tok} {v : Value} {cd : ClassData} (X : K.In s.heap) (I : InstAt s.heap x ox C od) (hc : clsIn K C = some cd) (hv : veTail cd.mro = true) (ht : takerIn K C name = some none)
    (h : ∀ b, wpAny (model prog w) A.in1 (Builtin.ObjectAttr.storeInOwnDict (.ref x) (.ref C) (.str name tk) name v b)
      (fun fin s' => match fin with | .done f => R (.ok f) s' | .again c' => c'.quiet = true ∧ codeAny (model prog w) A c' R s') (fun e s' => R (.error e) s') s) :
    codeAny (model prog w) A (.call (.builtin "object.__setattr__") ⟨[.ref x, .str name tk, v], []⟩) R s := by
  have SF := PySem.F.store_object
  have ne : cd.mro.isEmpty = false := by cases q : cd.mro with | nil => rw [q] at hv; cases hv | cons _ _ => rfl
  have sub : Looks (model prog w) s.heap (isInstance (.ref x) (.type "object")) true := I.type.andThen (looks_mroIn X (by unfold mroIn; rw [hc, Option.bind_some, if_neg (by rw [ne]; decide), veTail_has (X := "object") (b := true) hv (by decide +kernel)]))
  refine codeAny_call_builtin SF.slot.plain SF.entry (@check_slot (model prog w) _ _ s "object.__setattr__" "object" "__setattr__" (.ref x) [.str name tk, v] [] _ SF.kind SF.split sub (SF.args (.ref x) (.str name tk) v) ?_)
  obtain ⟨attr, ha, hr⟩ := Option.bind_eq_some_iff.mp ht
  have hm : Looks (model prog w) s.heap (mroOf (.ref C)) cd.mro := (looks_clsIn X hc).andThen .now
  have L3 : Looks (model prog w) s.heap (Builtin.ObjectAttr.storeTaker? attr) none := by
    cases attr with
    | none => exact .now
    | some a =>
      obtain ⟨b, hb, e⟩ := Option.map_eq_some_iff.mp hr
      refine (looks_takesIn X hb).andThen ?_
      cases b
      · exact .now
      · cases e
  rw [osa_eq, refuse_eq]
  refine wpAny_bind (wpAny_bind (I.type.here (wpAny_bind (hm.here ?_))))
  rw [veTail_pass hv]
  exact wpAny_pure (wpAny_bind (I.type.here (wpAny_bind ((looks_findIn X ha).here (wpAny_bind (L3.here (h _)))))))
end
end Ex

set_option Elab.async false
set_option linter.all false
set_option maxRecDepth 100000
set_option maxHeartbeats 4000000
namespace L2
open PySem PySem.Spec PyProof.Rows

def XD (dx : Addr) (fs : List (Str × V)) : HO := .ext fun h => ∃ mA, h.Ns1 dx mA ∧ (∀ f, RelO (fs.lookup f) (mA f)) ∧ PySem.Within mA (fs.map (·.1)) ∧ fs.length ≤ 1000
theorem xd_ok {P : Program} {w : World} {H : Hp} {h : Heap} {dx : Addr} {fs : List (Str × V)} {mA : Str → Option Value} (n : h.Ns1 dx mA) (r : ∀ f, RelO (fs.lookup f) (mA f)) (wi : PySem.Within mA (fs.map (·.1))) (z : fs.length ≤ 1000) : ObjOk P w H h dx (XD dx fs) :=
  ⟨⟨mA, n, r, wi, z⟩, let ⟨o, _, _, e, _⟩ := n; ⟨o, e⟩, fun h1 h2 ⟨m, ⟨o, es, ep, e, q⟩, r⟩ k => ⟨m, ⟨o, es, ep, k _ e, q⟩, r⟩⟩

structure XClsOk (K : PySem.W.Frag) (mg : Str → Option Value) (name : Str) (C : Addr) : Prop where
  g : mg name = some (.ref C)
  obj : ∃ (nm q : Str) (N : Addr) (bs bm : List Value) (sn : List Str) (sub : List Value) (ab : Bool) (col : Option Bool) (dd : Option Addr) (k0 k1 k2 k3 k5 : Option Value),
    K.lookup C = some (excClassObj nm q C N bs bm true sn sub ab col dd k0 k1 k2 k3 k5 "ValueError.__new__") ∧ Ex.veTail bm = true
  kp : PySem.W.keepIn K (.ref C) = true
  sa : PySem.W.findIn K (.ref C) "__setattr__" = some (some (.builtin "object.__setattr__"))
  ga : PySem.W.findIn K (.ref C) "__getattribute__" = some (some (.builtin "BaseException.__getattribute__"))
  gt : PySem.W.findIn K (.ref C) "__getattr__" = some none
  cl : PySem.W.findIn K (.ref C) "__class__" = some (some (.builtin "object.__class__"))
  sg : PySem.W.specialIn K (.builtin "object.__class__") "__get__" = some (some (.builtin "getset_descriptor.__get__"))
  tk : PySem.W.takesIn K (.builtin "object.__class__") = some true
theorem XClsOk.cls {K : PySem.W.Frag} {mg : Str → Option Value} {name : Str} {C : Addr} (c : XClsOk K mg name C) : XCls K C := by
  obtain ⟨nm, q, N, bs, bm, sn, sub, ab, col, dd, k0, k1, k2, k3, k5, l, v⟩ := c.obj
  exact ⟨nm, q, N, bs, bm, sn, sub, ab, col, dd, k0, k1, k2, k3, k5, l, Ex.VE.of v⟩
theorem XClsOk.cd {K : PySem.W.Frag} {mg : Str → Option Value} {name : Str} {C : Addr} (c : XClsOk K mg name C) : ∃ cd, PySem.W.clsIn K C = some cd ∧ Ex.veTail cd.mro = true ∧ cd.hasDict = true ∧ ∃ bm, cd.mro = .ref C :: bm := by
  obtain ⟨nm, q, N, bs, bm, sn, sub, ab, col, dd, k0, k1, k2, k3, k5, l, v⟩ := c.obj
  refine ⟨_, by unfold PySem.W.clsIn; rw [l], v, rfl, _, rfl⟩
section
variable {X : Cx} {pins : List (Addr × Obj)} {σ : St} {H : Hp} {s : Shared} {a C dx : Addr} {fs : List (Str × V)} {f : Str} {A : Around} {E : Value → Shared → Prop} {nm : Str}

theorem xset0 {y : V} {u : Value} {Q : Unit → Shared → Prop} (I : Inv X pins σ H s) (e : H a = some (XO a C none)) (c : XClsOk X.K X.mg nm C) (n : NoAttr X.K C f) (ry : RelV y u)
    (h : ∀ dx s', H dx = none → Inv X pins σ (upd (upd H dx (XD dx [(f, y)])) a (XO a C (some dx))) s' → Q () s') : wpAny (model X.prog X.w) A (setAttr (.ref a) f u) Q E s := by
  obtain ⟨t0, hx⟩ := (I.hok _ _ e).1
  obtain ⟨cd, hcd, hv, hdct, _⟩ := c.cd
  have J : PySem.W.InstAt s.heap a { cls := .ref C, dict := none, data := .fields #[.ref t0, .none, .none, .none, .bool false, .none] } C none := ⟨hx, rfl, rfl, trivial⟩
  refine PySem.W.set_plain I.kIn J c.sa (Ex.xa_open (s := { s with toks := s.toks + 1 }) I.kIn J hcd hv n.taker fun b => ?_)
  obtain ⟨hp, g, dr, tk, os⟩ := s
  have hx : hp.get? a = some { cls := .ref C, dict := none, data := .fields #[.ref t0, .none, .none, .none, .bool false, .none] } := hx
  refine wpAny_bind (wpAny_pure (wpAny_bind (wpAny_bind (wpAny_loadPart hx (wpAny_bind (PySem.W.Looks.here (s := ⟨hp, g, dr, tk + 1, os⟩) (PySem.W.looks_clsIn I.kIn hcd) ?_))))))
  rw [hdct]
  rw [if_neg (by decide)]
  dsimp only
  rw [if_neg (by simp [typeHasDict])]
  have hsz : a ≠ hp.objs.size := Nat.ne_of_lt (Heap.lt_size hx)
  refine wpAny_bind (wpAny_alloc' ?_)
  have hx1 : (hp.push { cls := .type "dict", data := .dict #[] }).get? a = some { cls := .ref C, dict := none, data := .fields #[.ref t0, .none, .none, .none, .bool false, .none] } := Heap.get?_push_of_some _ hx
  refine wpAny_bind (wpAny_update' hx1 ?_)
  refine wpAny_pure ?_
  have gd0 : (hp.push { cls := .type "dict", data := .dict #[] }).get? hp.objs.size = some { cls := .type "dict", data := .dict #[] } := Heap.get?_push_at rfl rfl
  have gd1 : ((hp.push { cls := .type "dict", data := .dict #[] }).update a fun o => { cls := o.cls, dict := some hp.objs.size, data := o.data, slots := o.slots }).get? hp.objs.size = some { cls := .type "dict", data := .dict #[] } :=
    (Heap.get?_update_ne _ _ _ _ (Ne.symm hsz)).trans gd0
  have ga1 : ((hp.push { cls := .type "dict", data := .dict #[] }).update a fun o => { cls := o.cls, dict := some hp.objs.size, data := o.data, slots := o.slots }).get? a = some { cls := .ref C, dict := some hp.objs.size, data := .fields #[.ref t0, .none, .none, .none, .bool false, .none] } :=
    Heap.get?_update_self _ hx1 rfl
  have n0 : (hp.push { cls := .type "dict", data := .dict #[] }).Ns1 hp.objs.size (fun _ => none) := Heap.Ns1.of_empty ⟨_, #[], _, gd0, rfl, fun e he => absurd he (by simp), fun _ => rfl⟩
  have n1 : ((hp.push { cls := .type "dict", data := .dict #[] }).update a fun o => { cls := o.cls, dict := some hp.objs.size, data := o.data, slots := o.slots }).Ns1 hp.objs.size (fun _ => none) := Heap.Ns1.of_empty ⟨_, #[], _, gd1, rfl, fun e he => absurd he (by simp), fun _ => rfl⟩
  have I1 : Inv X pins σ (upd H hp.objs.size (XD hp.objs.size [])) ⟨hp.push { cls := .type "dict", data := .dict #[] }, g, dr, tk + 1, os⟩ :=
    I.laid (h' := hp.push { cls := .type "dict", data := .dict #[] }) (t' := tk + 1) (fun b u z => Heap.get?_push_of_some _ z) (Nat.le_refl _) (xd_ok n0 (fun _ => trivial) PySem.Within.nil (by simp))
  have e1 : upd H hp.objs.size (XD hp.objs.size []) a = some (XO a C none) := by rw [upd_ne hsz]; exact e
  have I2 : Inv X pins σ (upd (upd H hp.objs.size (XD hp.objs.size [])) a (XO a C (some hp.objs.size))) ⟨(hp.push { cls := .type "dict", data := .dict #[] }).update a fun o => { cls := o.cls, dict := some hp.objs.size, data := o.data, slots := o.slots }, g, dr, tk + 1, os⟩ :=
    I1.write (x := a) (e := a) (t' := tk + 1) (by rw [e1]; trivial) (.inl rfl) (fun b u hb z => (Heap.get?_update_ne _ _ _ _ hb).trans z) ⟨_, ga1⟩ (xo_ok ga1)
  have e2 : upd (upd H hp.objs.size (XD hp.objs.size [])) a (XO a C (some hp.objs.size)) hp.objs.size = some (XD hp.objs.size []) := by rw [upd_ne (Ne.symm hsz), upd_same]
  show wpAny _ _ (Builtin.ObjectAttr.storeInDict hp.objs.size (.str f tk) f u) _ _ _
  unfold Builtin.ObjectAttr.storeInDict Builtin.ObjectAttr.newKeyGuard
  refine wpAny_bind (wpAny_pure (wpAny_bind (wpAny_nsSet1 n1 fun h' hn' hs => ?_)))
  obtain ⟨oD, esD, epD, hoD, hdD, hcD⟩ := hn'.count (Within.cons f u Within.nil)
  refine wpAny_bind (wpAny_lookBehind hoD (by rw [hdD]; exact pastItsLine_dict (Nat.le_trans hcD (by rw [List.length_cons, List.length_nil, sizeLine_eq]; omega))) ?_)
  refine wpAny_pure ?_
  have I3 := I2.write (x := hp.objs.size) (e := hp.objs.size) (o := XD hp.objs.size [(f, y)]) (h' := h') (t' := tk + 1 + 1) (by rw [e2]; trivial) (.inl rfl) (fun b u hb z => (hs.2 b hb).trans z) (let ⟨o, _, _, z, _⟩ := hn'; ⟨o, z⟩)
    (xd_ok hn' (fun g => by
      by_cases q : g = f
      · have hb : (g == f) = true := beq_iff_eq.mpr q
        simp only [List.lookup, hb, if_pos q]; exact ry
      · have hb : (g == f) = false := beq_eq_false_iff_ne.mpr q
        simp only [List.lookup, hb, if_neg q]; trivial) (fun g hg => by
      by_cases q : g = f
      · rw [q]; simp
      · exact absurd (by simp [q]) hg) (by simp))
  have eH : upd (upd (upd H hp.objs.size (XD hp.objs.size [])) a (XO a C (some hp.objs.size))) hp.objs.size (XD hp.objs.size [(f, y)]) = upd (upd H hp.objs.size (XD hp.objs.size [(f, y)])) a (XO a C (some hp.objs.size)) := by
    funext b
    unfold upd
    by_cases z1 : b = hp.objs.size
    · rw [if_pos z1, if_neg (fun z => hsz (z.symm.trans z1)), if_pos z1]
    · rw [if_neg z1]
      by_cases z2 : b = a
      · rw [if_pos z2, if_pos z2]
      · rw [if_neg z2, if_neg z2, if_neg z1, if_neg z1]
  rw [eH] at I3
  exact h hp.objs.size _ (I.hok.fresh (Nat.le_refl _)) I3

theorem xset1 {y : V} {u : Value} {Q : Unit → Shared → Prop} (I : Inv X pins σ H s) (e : H a = some (XO a C (some dx))) (ed : H dx = some (XD dx fs)) (ne : dx ≠ a) (c : XClsOk X.K X.mg nm C) (n : NoAttr X.K C f) (hl : fs.length < 1000) (ry : RelV y u)
    (h : ∀ s', Inv X pins σ (upd H dx (XD dx (putF f y fs))) s' → Q () s') : wpAny (model X.prog X.w) A (setAttr (.ref a) f u) Q E s := by
  obtain ⟨t0, hx⟩ := (I.hok _ _ e).1
  obtain ⟨mA, nd, r, wi, _⟩ := (I.hok _ _ ed).1
  obtain ⟨cd, hcd, hv, hdct, _⟩ := c.cd
  obtain ⟨od, hod, _⟩ := lookIn_ns nd
  have J : PySem.W.InstAt s.heap a { cls := .ref C, dict := some dx, data := .fields #[.ref t0, .none, .none, .none, .bool false, .none] } C (some od) := ⟨hx, rfl, rfl, hod⟩
  refine PySem.W.set_plain I.kIn J c.sa (Ex.xa_open (s := { s with toks := s.toks + 1 }) I.kIn J hcd hv n.taker fun b => ?_)
  obtain ⟨hp, g, dr, tk, os⟩ := s
  refine wpAny_bind (wpAny_pure (wpAny_bind (wpAny_bind (wpAny_loadPart hx (wpAny_bind (PySem.W.Looks.here (s := ⟨hp, g, dr, tk + 1, os⟩) (PySem.W.looks_clsIn I.kIn hcd) ?_))))))
  rw [hdct]
  refine wpAny_pure (a := some dx) (wpAny_bind (wpAny_pure (wpAny_bind ?_)))
  refine wpAny_nsSet1 (s := ⟨hp, g, dr, tk + 1, os⟩) nd fun h' hn' hs => ?_
  have hz : (fs.map (·.1)).length ≤ sizeLine := by rw [List.length_map, sizeLine_eq]; omega
  obtain ⟨oD, esD, epD, hoD, hdD, hcD⟩ := hn'.count (Within.cons f u wi)
  refine wpAny_bind (wpAny_lookBehind hoD (by rw [hdD]; exact pastItsLine_dict (Nat.le_trans hcD (by rw [List.length_cons]; omega))) ?_)
  refine wpAny_pure (h _ (I.write (x := dx) (e := dx) (t' := tk + 1 + 1) (by rw [ed]; trivial) (.inl rfl) (fun b u hb z => (hs.2 b hb).trans z) (let ⟨o, _, _, z, _⟩ := hn'; ⟨o, z⟩) (xd_ok hn' (fun g => ?_) (fun g hg => ?_) ?_)))
  · rw [lookup_putF]
    by_cases q : g = f
    · rw [if_pos q, if_pos q]; exact ry
    · rw [if_neg q, if_neg q]; exact r g
  · by_cases q : g = f
    · rw [q]; exact (keys_putF f y fs).1
    · refine (keys_putF f y fs).2 g (wi g fun z => hg ?_)
      show (if g = f then some u else mA g) = none
      rw [if_neg q]; exact z
  · have := length_putF f y fs; omega
end

def sXFld (K : PySem.W.Frag) (mg : Str → Option Value) (ta tv : TE) (f : Str) : TS := fun D σ H => tv σ H fun y H1 => ta σ H1 fun x H2 => ∃ a C nm, x = .ref a ∧ XClsOk K mg nm C ∧ NoAttr K C f ∧
  ((H2 a = some (XO a C none) ∧ ∀ dx, H2 dx = none → D.nx σ (upd (upd H2 dx (XD dx [(f, y)])) a (XO a C (some dx)))) ∨
   ∃ dx fs, H2 a = some (XO a C (some dx)) ∧ H2 dx = some (XD dx fs) ∧ dx ≠ a ∧ fs.length < 1000 ∧ D.nx σ (upd H2 dx (XD dx (putF f y fs))))
section
variable {X : Cx} {o value : Expr} {f : Str} {pos pos' : Pos} {ta tv : TE}
theorem ps_xfld (ha : PE X o ta) (hv : PE X value tv) (hs : swapsWith value (some (.Attribute o f pos')) pos.line X.env = pure false) : PS X (.Assign [.Attribute o f pos'] value pos) (sXFld X.K X.mg ta tv f) := by
  intro pins s σ H D I h
  refine plainObj_wpAny_Assign_Attribute (thn (hv pins s σ H _ I h) fun u s1 ⟨y, H1, I1, ry, q⟩ => thn (ha pins s1 σ H1 _ I1 q) fun ov s2 ⟨x, H2, I2, rx, a, C, nm, ex, c, n, q2⟩ => ?_) hs
  subst ex
  obtain rfl : ov = Value.ref a := rx
  rcases q2 with ⟨ea, q2⟩ | ⟨dx, fs, ea, ed, ne, hl, q2⟩
  · exact xset0 I2 ea c n ry fun dx s3 z I3 => ⟨σ, _, I3, q2 dx z⟩
  · exact xset1 I2 ea ed ne c n hl ry fun s3 I3 => ⟨σ, _, I3, q2⟩
end
end L2

set_option Elab.async false
set_option linter.all false
set_option maxRecDepth 100000
set_option maxHeartbeats 4000000
namespace Ex
open PySem PySem.W PyProof.Rows PySem.Spec
section
variable {prog : Program} {w : World} {A : Around} {E : Value → Shared → Prop} {K : Frag} {x C : Addr} {ox : Obj} {od : Option Obj} {name : Str} {expr : Bool} {h : Heap} {g : Array GenState} {d : Drawn} {t : Nat} {os : OsState}
theorem xg_call {tk : Tok} {v : Value} {R : Result → Shared → Prop} (X : K.In h) (I : InstAt h x ox C od) (hb : mroIn K C (.type "BaseException") = some true) (hf : findObj K C od name = some (.value v)) (hq : R (.ok (.ret v)) ⟨h, g, d, t, os⟩) :
    codeAny (model prog w) A (.call (.builtin "BaseException.__getattribute__") ⟨[.ref x, .str name tk], []⟩) R ⟨h, g, d, t, os⟩ := by
  have hk : builtinKind "BaseException.__getattribute__" = some .slot := by decide +kernel
  have hsp : splitId "BaseException.__getattribute__" = some ("BaseException", "__getattribute__") := by decide +kernel
  have sub : Looks (model prog w) h (isInstance (.ref x) (.type "BaseException")) true := I.type.andThen (looks_mroIn X hb)
  have L0 := I.type (M := model prog w)
  have L1 := looks_find (M := model prog w) X I hf
  refine codeAny_call_builtin PySem.F.attrBase_ValueError.ga.plain PySem.F.entry_bexc_ga (@check_slot (model prog w) _ _ ⟨h, g, d, t, os⟩ "BaseException.__getattribute__" "BaseException" "__getattribute__" (.ref x) [.str name tk] [] _ hk hsp sub (PySem.F.args_bexc_ga (.ref x) (.str name tk)) ?_)
  unfold Builtin.«object.__getattribute__»
  refine wpAny_bind (wpAny_pure ?_)
  refine wpAny_bind (wpAny_pure ?_)
  refine wpAny_bind (L0.at ?_)
  refine wpAny_bind (L1.at ?_)
  exact wpAny_pure hq
theorem xg_attr {v : Value} {Q : Value → Shared → Prop} (X : K.In h) (I : InstAt h x ox C od) (hb : mroIn K C (.type "BaseException") = some true)
    (hga : findIn K (.ref C) "__getattribute__" = some (some (.builtin "BaseException.__getattribute__"))) (hgt : findIn K (.ref C) "__getattr__" = some none) (hf : findObj K C od name = some (.value v)) (hh : handedIn v = true)
    (hq : Q v ⟨h, g, d, t + 1, os⟩) : wpAny (model prog w) A (getAttr (.ref x) name expr) Q E ⟨h, g, d, t, os⟩ := by
  have L0 := I.type (M := model prog w)
  have L1 := looks_findIn (M := model prog w) X hga
  have L2 := looks_findIn (M := model prog w) X hgt
  have f3 := PySem.F.attrBase_ValueError.ga.bind (.ref x)
  have hx0 : (expr && onTheHeap (Value.builtin "BaseException.__getattribute__")) = false := by cases expr <;> rfl
  have hx2 : (Value.builtin "BaseException.__getattribute__" == Value.builtin "object.__getattribute__") = false := by decide +kernel
  have hx1 : (onTheHeap (Value.ref C) && Value.builtin "BaseException.__getattribute__" == Value.builtin "object.__getattribute__") = false := by rw [hx2]; rfl
  unfold getAttr getAttrBy
  refine wpAny_bind (wpAny_mkText (wpAny_holding (wpAny_bind (L0.at (wpAny_bind (L1.at ?_))))))
  repeat (any_goals (first | assumption | with_reducible refine L0.at ?_ | with_reducible refine L1.at ?_ | with_reducible refine L2.at ?_ | wp_step))
  refine xg_call X I hb hf ?_
  show wpAny _ _ (handedOut v) Q E _
  rw [handedOut_of hh]
  exact wpAny_pure hq
end
end Ex
namespace L2
open PySem PySem.Spec PyProof.Rows
theorem XClsOk.mro {K : PySem.W.Frag} {mg : Str → Option Value} {name : Str} {C : Addr} (c : XClsOk K mg name C) {X : String} {b : Bool} (hb : ([.type "ValueError", .type "Exception", .type "BaseException", .type "object"] : List Value).contains (.type X) = b) : PySem.W.mroIn K C (.type X) = some b := by
  obtain ⟨cd, hcd, hv, _, bm, hm⟩ := c.cd
  unfold PySem.W.mroIn
  rw [hcd, Option.bind_some, if_neg (by rw [hm]; exact Bool.false_ne_true), Ex.veTail_has hv hb]

def tXFld (K : PySem.W.Frag) (mg : Str → Option Value) (ta : TE) (f : Str) : TE := fun σ H Q => ta σ H fun x H1 => ∃ a C nm dx fs v, x = .ref a ∧ H1 a = some (XC a C (some dx)) ∧ H1 dx = some (XD dx fs) ∧ XClsOk K mg nm C ∧ NoAttr K C f ∧ fs.lookup f = some v ∧ Q v H1
section
variable {X : Cx} {e : Expr} {f : Str} {pos : Pos} {ta : TE}
theorem pe_xfld (he : PE X e ta) (hb : attributeBase e f X.env (eval e X.env) = eval e X.env) : PE X (.Attribute e f pos) (tXFld X.K X.mg ta f) := by
  intro pins s σ H Q I h
  refine attr_of hb (thn (he pins s σ H _ I h) fun u s1 ⟨x, H1, I1, rx, a, C, nm, dx, fs, v, ex, ea, ed, c, n, l, q⟩ => ?_)
  subst ex
  obtain rfl : u = Value.ref a := rx
  obtain ⟨o, vs, ho, hc, hd, hdat⟩ := (I1.hok _ _ ea).1
  obtain ⟨mA, nd, r, _, _⟩ := (I1.hok _ _ ed).1
  obtain ⟨od, hod, hl⟩ := lookIn_ns nd
  obtain ⟨u', hu, ru⟩ := RelO.some_of (v := v) (o := mA f) (by rw [← l]; exact r f)
  obtain ⟨cd, hcd, hv, hdct, _⟩ := c.cd
  have J : PySem.W.InstAt s1.heap a o C (some od) := ⟨ho, hc, by unfold PySem.W.notCls; rw [hdat], by rw [hd]; exact hod⟩
  have hh : PySem.W.hasDictIn X.K C = true := by unfold PySem.W.hasDictIn; rw [hcd]; exact hdct
  have I2 : Inv X pins σ H1 { s1 with toks := s1.toks + 1 } := I1.tok _
  obtain ⟨hp, g, dr, tk, os⟩ := s1
  exact Ex.xg_attr I1.kIn J (c.mro (by decide +kernel)) c.ga c.gt (PySem.W.findObj_own hh n rfl (by rw [hl, hu])) (handed_of ru) ⟨v, H1, I2, ru, q⟩
end
end L2

set_option Elab.async false
set_option linter.all false
set_option maxRecDepth 100000
set_option maxHeartbeats 4000000
namespace Ex
open PySem PySem.W PyProof.Rows PySem.Spec
section
variable {prog : Program} {w : World} {A : Around} {E : Value → Shared → Prop} {K : Frag} {x C : Addr} {ox : Obj} {od : Option Obj} {h : Heap} {g : Array GenState} {d : Drawn} {t : Nat} {os : OsState}
theorem xc_call {tk : Tok} {R : Result → Shared → Prop} (X : K.In h) (I : InstAt h x ox C od) (hb : mroIn K C (.type "BaseException") = some true) (ho : mroIn K C (.type "object") = some true)
    (hf : findObj K C od "__class__" = some (.bind (.builtin "getset_descriptor.__get__") (.builtin "object.__class__"))) (hq : R (.ok (.ret (.ref C))) ⟨h, g, d, t, os⟩) :
    codeAny (model prog w) A (.call (.builtin "BaseException.__getattribute__") ⟨[.ref x, .str "__class__" tk], []⟩) R ⟨h, g, d, t, os⟩ := by
  have hk : builtinKind "BaseException.__getattribute__" = some .slot := by decide +kernel
  have hsp : splitId "BaseException.__getattribute__" = some ("BaseException", "__getattribute__") := by decide +kernel
  have sub : Looks (model prog w) h (isInstance (.ref x) (.type "BaseException")) true := I.type.andThen (looks_mroIn X hb)
  have L0 := I.type (M := model prog w)
  have L1 := looks_find (M := model prog w) X I hf
  refine codeAny_call_builtin PySem.F.attrBase_ValueError.ga.plain PySem.F.entry_bexc_ga (@check_slot (model prog w) _ _ ⟨h, g, d, t, os⟩ "BaseException.__getattribute__" "BaseException" "__getattribute__" (.ref x) [.str "__class__" tk] [] _ hk hsp sub (PySem.F.args_bexc_ga (.ref x) (.str "__class__" tk)) ?_)
  unfold Builtin.«object.__getattribute__»
  refine wpAny_bind (wpAny_pure ?_)
  refine wpAny_bind (wpAny_pure ?_)
  refine wpAny_bind (L0.at ?_)
  refine wpAny_bind (L1.at ?_)
  show wpAny _ _ (holding [.builtin "object.__class__"] (call (.builtin "getset_descriptor.__get__") [.builtin "object.__class__", .ref x, .ref C]) >>= ret) _ _ _
  exact wpAny_bind (wpAny_holding (wpAny_call (class_get (ox := ox) (od := od) X I ho (wpAny_pure hq))))
theorem xc_attr {Q : Option Value → Shared → Prop} (X : K.In h) (I : InstAt h x ox C od) (hb : mroIn K C (.type "BaseException") = some true) (ho : mroIn K C (.type "object") = some true)
    (hga : findIn K (.ref C) "__getattribute__" = some (some (.builtin "BaseException.__getattribute__"))) (hgt : findIn K (.ref C) "__getattr__" = some none)
    (hf : findObj K C od "__class__" = some (.bind (.builtin "getset_descriptor.__get__") (.builtin "object.__class__"))) (hq : Q (some (.ref C)) ⟨h, g, d, t + 1, os⟩) : wpAny (model prog w) A (getAttr? (.ref x) "__class__") Q E ⟨h, g, d, t, os⟩ := by
  have L0 := I.type (M := model prog w)
  have L1 := looks_findIn (M := model prog w) X hga
  have L2 := looks_findIn (M := model prog w) X hgt
  have f3 := PySem.F.attrBase_ValueError.ga.bind (.ref x)
  have hx0 : (false && onTheHeap (Value.builtin "BaseException.__getattribute__")) = false := rfl
  have hx2 : (Value.builtin "BaseException.__getattribute__" == Value.builtin "object.__getattribute__") = false := by decide +kernel
  have hx1 : (onTheHeap (Value.ref C) && Value.builtin "BaseException.__getattribute__" == Value.builtin "object.__getattribute__") = false := by rw [hx2]; rfl
  unfold getAttr? getAttrBy? getAttrBy
  refine wpAny_bind (wpAny_mkText (wpAny_bind (wpAny_attempt (wpAny_holding (wpAny_bind (L0.at (wpAny_bind (L1.at ?_))))))))
  repeat (any_goals (first | assumption | with_reducible refine L0.at ?_ | with_reducible refine L1.at ?_ | with_reducible refine L2.at ?_ | wp_step))
  refine xc_call X I hb ho hf ?_
  show wpAny _ _ (handedOut (.ref C)) _ _ _
  exact wpAny_pure (wpAny_pure hq)
end
end Ex
namespace L2
open PySem PySem.Spec PyProof.Rows

def XAt (x C : Addr) (h : Heap) : Prop := ∃ o vs, h.get? x = some o ∧ o.cls = .ref C ∧ o.data = .fields vs ∧ (o.dict = none ∨ ∃ dx od, o.dict = some dx ∧ h.get? dx = some od)
theorem XAt.inst {x C : Addr} {h : Heap} (p : XAt x C h) : ∃ ox od, PySem.W.InstAt h x ox C od := by
  obtain ⟨o, vs, ho, hc, hd, z | ⟨dx, od, z, q⟩⟩ := p
  · exact ⟨o, none, ho, hc, by unfold PySem.W.notCls; rw [hd], by rw [z]; trivial⟩
  · exact ⟨o, some od, ho, hc, by unfold PySem.W.notCls; rw [hd], by rw [z]; exact q⟩
theorem kitx_exc {K : PySem.W.Frag} {mg : Str → Option Value} {nm : Str} {x C : Addr} (c : XClsOk K mg nm C) : PySem.W.KitX K (.ref x) (.ref C) (XAt x C) where
  ty := fun M h _ p => by obtain ⟨ox, od, I⟩ := p.inst; exact I.type
  it := fun M h X _ => by
    obtain ⟨nm, q, N, bs, bm, sn, sub, ab, col, dd, k0, k1, k2, k3, k5, l, v⟩ := c.obj
    intro A' Q' E' s' k q
    unfold isType loadHead
    exact wpAny_bind (wpAny_loadPart (k _ _ (X _ _ l)) (wpAny_pure q))
  ne := fun h tp dd its n sl X htp => by
    obtain ⟨nm, q, N, bs, bm, sn, sub, ab, col, dd', k0, k1, k2, k3, k5, l, v⟩ := c.obj
    refine Bool.eq_false_iff.mpr fun q => ?_
    have e : C = tp := Value.ref.inj (beq_iff_eq.mp q)
    subst e
    have z := congrArg Obj.cls (Option.some.inj ((X _ _ l).symm.trans htp))
    exact absurd (Value.type.inj z) (by decide)
  ca := fun {prog w A E Q s} X p hq => by
    obtain ⟨ox, od, I⟩ := p.inst
    obtain ⟨cd, hcd, _⟩ := c.cd
    have hf : PySem.W.findObj K C od "__class__" = some (.bind (.builtin "getset_descriptor.__get__") (.builtin "object.__class__")) := by
      unfold PySem.W.findObj
      rw [hcd, Option.bind_some, c.cl, Option.bind_some]
      simp [c.sg, c.tk]
    obtain ⟨hp, g, dr, tk, os⟩ := s
    exact Ex.xc_attr X I (c.mro (by decide +kernel)) (c.mro (by decide +kernel)) c.ga c.gt hf hq

def rIsX (K : PySem.W.Frag) (mg : Str → Option Value) : List V → Hp → VK → Prop := fun xs H Q => ∃ a C d nm y u b, xs = [.ref a, y] ∧ H a = some (XC a C d) ∧ (∀ dx, d = some dx → ∃ o, H dx = some o) ∧ XClsOk K mg nm C ∧ RelV y u ∧ PySem.W.kitOne K (.ref C) u = some b ∧ Q (.bl b) H

def rIsXT (K : PySem.W.Frag) (mg : Str → Option Value) : List V → Hp → VK → Prop := fun xs H Q => ∃ a C d nm p ys b, xs = [.ref a, .ref p] ∧ H a = some (XC a C d) ∧ (∀ dx, d = some dx → ∃ o, H dx = some o) ∧ XClsOk K mg nm C ∧ H p = some (.tup ys) ∧
  (∀ us, Vals ys us → PySem.W.kitAny K (.ref C) us = some b) ∧ Q (.bl b) H
section
variable {X : Cx}
theorem xat_of {pins : List (Addr × Obj)} {σ : St} {H : Hp} {s : Shared} {a C : Addr} {d : Option Addr} (I : Inv X pins σ H s) (e : H a = some (XC a C d)) (hd : ∀ dx, d = some dx → ∃ o, H dx = some o) : XAt a C s.heap := by
  obtain ⟨o, vs, ho, hc, hdd, hf⟩ := (I.hok _ _ e).1
  refine ⟨o, vs, ho, hc, hf, ?_⟩
  cases d with
  | none => exact .inl hdd
  | some dx =>
    obtain ⟨z, q⟩ := hd dx rfl
    obtain ⟨u, r⟩ := (I.hok _ _ q).some_at
    exact .inr ⟨dx, u, hdd, r⟩
theorem call_isx : CallR X (.builtin "isinstance") (rIsX X.K X.mg) := by
  intro pins s σ H xs us Q I r h
  obtain ⟨a, C, d, nm, y, u, b, rfl, e, hd, c, ry, hk, q⟩ := h
  obtain ⟨v, w', rfl, rx, rc⟩ := vals2 r
  cases (show v = Value.ref a from rx)
  have hw : PySem.W.kitOne X.K (.ref C) w' = some b := by
    cases y with
    | ref z => cases (show w' = Value.ref z from rc); cases (show u = Value.ref z from ry); exact hk
    | ty z => cases (show w' = Value.type z from rc); cases (show u = Value.type z from ry); exact hk
    | non => cases (show w' = Value.none from rc); cases (show u = Value.none from ry); exact hk
    | bl z => cases (show w' = Value.bool z from rc); cases (show u = Value.bool z from ry); exact hk
    | int z => obtain ⟨t, rfl⟩ := ry; cases hk
    | str z => obtain ⟨t, rfl⟩ := ry; cases hk
    | byt z => obtain ⟨t, rfl⟩ := ry; cases hk
    | flt z => obtain ⟨t, rfl⟩ := ry; cases hk
  exact PySem.W.kia_one (kitx_exc c) I.kIn (xat_of I e hd) hw (fun z => nomatch z) fun tk => ⟨.bl b, H, I.tok _, rfl, q⟩
theorem call_isxt : CallR X (.builtin "isinstance") (rIsXT X.K X.mg) := by
  intro pins s σ H xs us Q I r h
  obtain ⟨a, C, d, nm, p, ys, b, rfl, e, hd, c, hp, hk, q⟩ := h
  obtain ⟨v, w', rfl, rx, rc⟩ := vals2 r
  cases (show v = Value.ref a from rx)
  cases (show w' = Value.ref p from rc)
  obtain ⟨_, its, rv, o, ho, hc, n, hdat⟩ := (show ObjOk X.prog X.w H s.heap p (.tup ys) from I.hok _ _ hp)
  obtain ⟨oc, od, oda, osl⟩ := o
  dsimp only at hc hdat
  subst hc hdat
  exact PySem.W.kia_tup (kitx_exc c) I.kIn (xat_of I e hd) ho (hk its rv) (fun z => nomatch z) fun tk => ⟨.bl b, H, I.tok _, rfl, q⟩
end
end L2

set_option Elab.async false
set_option linter.all false
set_option maxRecDepth 100000
set_option maxHeartbeats 4000000
namespace Ex
open PySem PySem.W PyProof.Rows PySem.Spec
theorem x_match {M : Model} {A : Around} {E : Value → Shared → Prop} {s : Shared} {K : Frag} {e C G : Addr} {Q : Bool → Shared → Prop} (X : K.In s.heap) (ht : Looks M s.heap (typeOf (.ref e)) (.ref C)) (hG : typeIn K (.ref G) = some (.type "type"))
    (hi : Looks M s.heap (isType (.ref G)) true) (hb : mroIn K G (.type "BaseException") = some true) (hs : mroIn K C (.ref G) = some true) (h : Q true s) : wpAny M A (excMatches (.ref e) (.ref G)) Q E s := by
  obtain ⟨hp, g, d, tk, os⟩ := s
  have L0 := looks_typeIn (M := M) X hG
  have L1 := looks_mroIn (M := M) X hb
  have L2 := looks_mroIn (M := M) X hs
  have f := tc_notTuple
  unfold excMatches isExcClass isInstance
  refine wpAny_bind (wpAny_bind (L0.at ?_))
  rw [f]
  refine wpAny_pure ?_
  simp only [Bool.false_eq_true, if_false]
  refine wpAny_bind (wpAny_pure ?_)
  simp only [List.forIn_cons, List.forIn_nil]
  refine wpAny_bind (wpAny_bind (wpAny_bind (wpAny_bind (hi.at ?_))))
  simp only [if_true]
  refine L1.at ?_
  simp only [Bool.not_true, Bool.false_eq_true, if_false]
  refine wpAny_pure (wpAny_pure (wpAny_bind (ht.at ?_)))
  refine wpAny_bind (wpAny_bind (wpAny_bind (L2.at ?_)))
  simp only [if_true]
  exact wpAny_pure (wpAny_pure (wpAny_pure h))
end Ex
namespace L2
open PySem PySem.Spec PyProof.Rows

abbrev TX := St → Hp → VK → XK → Prop
def PX (X : Cx) (e : Expr) (t : TX) : Prop := ∀ (pins : List (Addr × Obj)) (s : Shared) (σ : St) (H : Hp) (Q : VK) (E : XK), Inv X pins σ H s → t σ H Q E →
  wpAny (model X.prog X.w) X.A (eval e X.env) (EP X pins σ Q) (fun ev s' => ∃ H1 s1, Inv X pins σ H1 s1 ∧ CXe X.prog X.w X.stack H1 s1 E ev s') s

def PSx (X : Cx) (st : Stmt) (t : Ends → XK → St → Hp → Prop) : Prop := ∀ (pins : List (Addr × Obj)) (s : Shared) (σ : St) (H : Hp) (D : Ends) (E : XK), Inv X pins σ H s → t D E σ H →
  wpAny (model X.prog X.w) X.A (exec st X.env) (SP X pins D) (fun ev s' => ∃ H1 s1, Inv X pins σ H1 s1 ∧ CXe X.prog X.w X.stack H1 s1 E ev s') s
section
variable {X : Cx} {k : Nat} {f : Addr} {fd : FuncData} {ps : List Str} {sp : Sp} {x : Str} {st : Stmt} {p pos : Pos} {e : Expr} {es : List Expr} {t : TA} {tx : TX}
theorem px_call (Dd : DefOk X.K X.mg x st ps f fd) (F : FnOk X.prog X.w X.K X.mg X.base (CXe X.prog X.w) k f fd ps sp) (hr : Room k X.A) (ha : PA X.nox (e :: es) t) (hg : Gl X x := by rfl)
    (hdb : (x == ("__debug__" : Str)) = false := by decide) (he : starEach (e :: es) X.env = (false, eval e X.env) :: starEach es X.env := by rfl) (hpl : (backTo pos (starEach es X.env)).any (·.1) = false := by rfl) :
    PX X (.Call (.Name x p) (e :: es) [] pos) (fun σ H Q E => t σ H fun vs H1 => sp vs H1 Q E) := by
  intro pins s σ H Q E I h
  refine wpAny_Call_Name_kw (ld_glob I hg Dd.g ?_ hdb)
  refine PySem.W.callWith_K (h₀ := X.base) I.ok.mod.kin Dd.F.kp (wpAny_mono (ha pos pins s σ H _ (I.wish _) h) (fun us s1 ⟨vs, H1, I1, r, q⟩ => ⟨I1.kIn, ?_⟩) fun _ _ z => z.elim) he hpl
  have I1 := I1.unwish
  have hl : us.length = ps.length := by rw [← r.length]; exact F.len _ _ _ _ q
  have hb : BindsTo s1 fd ⟨us, []⟩ (ps.zip us) := by
    have := Dd.b s1 us I1.kIn (by rw [List.append_nil]; exact hl)
    rwa [List.append_nil] at this
  refine wpAny_call (codeAny_mono (F.run X.A X.stack s1 H1 ⟨us, []⟩ us vs Q E hr I1.env0 hb r q) fun rr s' hq => ?_)
  cases rr with
  | error ev => exact ⟨H1, s1, I1, hq⟩
  | ok fl =>
    cases fl with
    | ret u => exact I1.after hq
    | next => exact False.elim hq
    | brk => exact False.elim hq
    | cont => exact False.elim hq
theorem psx_set {i : Nat} {y : Str} {pos' : Pos} (hN : X.N.Nodup) (hi : X.N[i]? = some y) (hx : Loc X.env.scope y) (he : PX X e tx) (hs : swapsWith e (some (.Name y pos')) pos.line X.env = pure false := by rfl)
    (hf : X.fn y = true ∨ X.env.scope.names.lookup y = some .local := by first | exact .inl rfl | exact .inr rfl | assumption) : PSx X (.Assign [.Name y pos'] e pos) (fun D E σ H => tx σ H (fun v H' => D.nx (σ.set i (some v)) H') E) := by
  intro pins s σ H D E I h
  refine wpAny_Assign_Name (wpAny_mono (he pins s σ H _ E I h) (fun v s1 ⟨y, H1, I1, r1, q1⟩ => ?_) fun _ _ z => z) hs
  exact store_ok I1 hN hi hx r1 (fun s2 I2 => ⟨_, H1, I2, q1⟩) hf
end

abbrev Cx.hdl (X : Cx) (ea : Addr) : Cx := { X with A := X.A.mark (some (.ref ea)), calm := false }
theorem Inv.hdl {X : Cx} {pins : List (Addr × Obj)} {σ : St} {H : Hp} {s : Shared} (I : Inv X pins σ H s) (ea : Addr) : Inv (X.hdl ea) pins σ H s :=
  ⟨⟨I.ok.mod, I.ok.kind, I.ok.glob, I.ok.blt, I.ok.above, I.ok.inj, I.ok.has, I.ok.cab, fun z => Bool.noConfusion z, I.ok.frames, I.ok.stk, I.ok.exf, I.ok.bs, I.ok.bsz, I.ok.noex, I.ok.exfs, I.ok.funs, I.ok.frf⟩, I.os, I.bare, I.base, I.loc, I.cell, I.free, I.freeC, I.pin, I.hok, I.len⟩
theorem Inv.unhdl {X : Cx} {pins : List (Addr × Obj)} {σ : St} {H : Hp} {s : Shared} {ea : Addr} {E : Value → Shared → Prop} (ok : X.Ok) (I : Inv ((X.hdl ea).wish E) pins σ H s) : Inv X pins σ H s :=
  ⟨ok, I.os, I.bare, I.base, I.loc, I.cell, I.free, I.freeC, I.pin, I.hok, I.len⟩

theorem Inv.dropped {X : Cx} {pins : List (Addr × Obj)} {σ : St} {H : Hp} {s : Shared} {j : Nat} {n : Str} {m : Str → Option Value} {h' : Heap} {v : Option Value} {t' : Nat} (I : Inv X pins σ H s) (hN : X.N.Nodup) (hj : X.N[j]? = some n) (hk : X.env.kindOf n = some .local)
    (hm : ∀ (i : Nat) (x : Str) (v : V), X.N[i]? = some x → σ[i]? = some (some v) → Vis X.env.scope x → ∃ u, RelV v u ∧ Look X.env s.heap m x u) (hn0 : s.heap.Ns X.env.locals m)
    (hn : h'.Ns X.env.locals (fun x => if x = n then v else m x)) (hs : Heap.SameBut X.env.locals s.heap h') : Inv X pins (σ.set j none) H { s with heap := h', toks := t' } := by
  have cne := I.cne
  have lt : ∀ b o, X.s₀.heap.get? b = some o → b ≠ X.env.locals := fun b o e => Nat.ne_of_lt (Nat.lt_of_lt_of_le (Heap.lt_size e) I.ok.above)
  obtain ⟨oL, _, _, hoL, _⟩ := id hn0
  refine ⟨I.ok, I.os, I.bare, ⟨fun b o e n hb hx => (hs.2 b (lt b o e)).trans (I.base.keep b o e n hb hx), fun b o e n hb hx => ?_, I.base.free, fun b o e hx => ?_, I.base.tups, I.base.frzs, I.base.tbls⟩,
    ⟨_, hn, fun i y w e1 e2 e3 => ?_⟩, fun y c e => ?_, I.free, I.freeC, fun p hp => ?_, fun b ob e => ?_, by rw [List.length_set]; exact I.len⟩
  · obtain ⟨sl, e1⟩ := I.base.slot b o e n hb hx
    exact ⟨sl, (hs.2 b (lt b o e)).trans e1⟩
  · obtain ⟨o', e1⟩ := I.base.there b o e hx
    exact ⟨o', (hs.2 b (lt b o e)).trans e1⟩
  · have hij : j ≠ i := fun z => by
      subst z
      by_cases q : j < σ.length
      · rw [List.getElem?_set_self q] at e2; cases e2
      · rw [List.getElem?_eq_none (by rw [List.length_set]; omega)] at e2; cases e2
    rw [List.getElem?_set_ne hij] at e2
    obtain ⟨u, r, q⟩ := hm i y w e1 e2 e3
    refine ⟨u, r, ?_⟩
    rcases q with ⟨k, e⟩ | ⟨k, c, e, z⟩
    · have : y ≠ n := fun z => hij (nodup_ix hN hj (z ▸ e1))
      exact .inl ⟨k, by show (if y = n then v else m y) = some u; rw [if_neg this]; exact e⟩
    · exact .inr ⟨k, c, e, z.sameBut hs (cne y c e)⟩
  · obtain ⟨w', z⟩ := I.cell y c e
    exact ⟨w', z.sameBut hs (cne y c e)⟩
  · obtain ⟨e, n, ne, nf, d⟩ := I.pin p hp
    exact ⟨(hs.2 p.1 ne).trans e, n, ne, nf, d⟩
  · refine (I.hok b ob e).stay (fun c w' hc q => (hs.2 c ?_).trans q) (fun _ q => q) fun _ _ q => q
    rintro rfl
    rcases hc with rfl | hc
    · rw [I.free] at e; cases e
    · rw [I.free] at hc; cases hc
end L2

set_option Elab.async false
set_option linter.all false
set_option maxRecDepth 100000
set_option maxHeartbeats 4000000
namespace L2
open PySem PySem.Spec PyProof.Rows
theorem Un.track {fs : List Addr} {H0 H : Hp} {h0 h : Heap} {a : Addr} {o : HO} (u : Un fs [] H0 H h0 h) (n : h0.get? a = none) (e : H a = none) : Un fs [] H0 (upd H a o) h0 h where
  keep := u.keep
  slot := u.slot
  free := fun b ob q z hx => by rw [upd_ne (fun y => by rw [y, n] at q; cases q)]; exact u.free b ob q z hx
  there := u.there
  tups := fun b xs q => by
    have r := u.tups b xs q
    rw [upd_ne (ne_of_none r e)]; exact r
  frzs := fun b ob xs q => by
    have r := u.frzs b ob xs q
    rw [upd_ne (ne_of_none r e)]; exact r
  tbls := fun b ps q => by
    obtain ⟨m, r⟩ := u.tbls b ps q
    exact ⟨m, by rw [upd_ne (ne_of_none r e)]; exact r⟩
theorem HOk.track {P : Program} {w : World} {H : Hp} {h : Heap} {a : Addr} {o : HO} (x : HOk P w H h) (e : H a = none) (k : ObjOk P w (upd H a o) h a o) : HOk P w (upd H a o) h := fun b u q => by
  by_cases hb : b = a
  · subst hb; rw [upd_same] at q; cases q; exact k
  · rw [upd_ne hb] at q
    exact (x b u q).stay (fun c v _ r => r) (fun c r => by rw [upd_ne (ne_of_none r e)]; exact r) fun c xs r => by rw [upd_ne (ne_of_none r e)]; exact r

def tTry (K : PySem.W.Frag) (mg : Str → Option Value) (G : Addr) (j : Nat) (tb : Ends → XK → St → Hp → Prop) (th : TS) : TS := fun D σ H => tb D (fun cls d H' => ∃ C nm, cls = .ref C ∧ XClsOk K mg nm C ∧ PySem.W.mroIn K C (.ref G) = some true ∧
  ∀ ea, H' ea = none → th { nx := fun σ' H2 => D.nx (σ'.set j none) H2, rt := D.rt, bk := fun σ' H2 => D.bk (σ'.set j none) H2, ct := fun σ' H2 => D.ct (σ'.set j none) H2 } (σ.set j (some (.ref ea))) (upd H' ea (XC ea C d))) σ H
section
variable {X : Cx} {st b0 : Stmt} {suite : List Stmt} {tb : Ends → XK → St → Hp → Prop} {th : TS} {G : Addr} {j : Nat} {c n : Str} {cp hp pos : Pos}
theorem ps_try (hN : X.N.Nodup) (hj : X.N[j]? = some n) (hk : X.env.scope.names.lookup n = some .local) (hG : XClsOk X.K X.mg c G) (hst : X.stack = X.env :: X.outer) (hfr : X.env.frame = some X.env.locals)
    (hb : PSx X st tb) (hh : ∀ ea, PSs (X.hdl ea).nox (b0 :: suite) th) (hg : Gl X c := by rfl) (hdb : (c == ("__debug__" : Str)) = false := by decide) :
    PS X (.Try [st] [.ExceptHandler (some (.Name c cp)) (some n) (b0 :: suite) hp] [] [] pos) (tTry X.K X.mg G j tb th) := by
  intro pins s σ H D I h
  refine wpAny_Try_except (wpAny_execs_cons (wpAny_mono (hb pins s σ H D _ I h) (fun f s1 q => ?_) fun ev s1 q => ?_))
  · cases f with
    | next => exact wpAny_execs_nil (wpAny_execs_nil q)
    | ret v => exact q
    | brk => exact q
    | cont => exact q
  obtain ⟨H1, s2, I1, ea, cls, d, T0, H', rfl, os, bare, un, hok, hn, he1, hT0, hT1, tr, C, nm, rfl, hC, hsub, hth⟩ := q
  have I2 : Inv X pins σ H' s1 := I1.call' os un hok bare fun b z => nomatch z
  have hframes : X.A.frames = some (X.env :: X.outer) := by rw [← hst]; exact I.ok.frames
  have hfun : s1.heap.FunFrames X.base (X.env :: X.outer) := by rw [← hst]; exact I2.stack
  have hS1 : ∀ b ∈ frs (X.env :: X.outer), H' b = none := by rw [← hst]; exact I2.stkFree
  -- the state with a heap that moved
  have mv : ∀ (h' : Heap) (D' : Addr → Prop) (g : Array GenState) (dr : Drawn) (tk : Nat), Ex.Mvd (frs (X.env :: X.outer)) D' s1.heap h' → (∀ b, D' b → s2.heap.get? b = none) → (∀ b, D' b → H' b = none) → AllBare g →
      Inv X pins σ H' ⟨h', g, dr, tk, s1.os⟩ := fun h' D' g dr tk m h1 h2 h3 => by
    refine I1.call' (s' := ⟨h', g, dr, tk, s1.os⟩) os (Un.moved un m h1 fun b hb => .inl ?_) (HOk.moved hok m h2 hS1) h3 fun b z => nomatch z
    rw [hst]; exact hb
  refine Ex.x_noteT hframes hfun hfr tr fun h3 T hT m3 t3 => ?_
  refine Ex.x_mark (fr := none) t3 fun h4 m4 t4 => ?_
  have fr2 : ∀ b, s1.heap.get? b = none → s2.heap.get? b = none := fun b q => by
    cases r : s2.heap.get? b with
    | none => rfl
    | some o => obtain ⟨o', z⟩ := un.there b o r (by simp); rw [q] at z; cases z
  have D1 : ∀ b, ((b = ea ∨ b = T0) ∨ b = T) → s2.heap.get? b = none := by
    rintro b ((rfl | rfl) | rfl)
    · exact hn
    · exact hT0
    · exact fr2 _ hT
  have D2 : ∀ b, ((b = ea ∨ b = T0) ∨ b = T) → H' b = none := by
    rintro b ((rfl | rfl) | rfl)
    · exact he1
    · exact hT1
    · exact hok.none_of hT
  have M4 : Ex.Mvd (frs (X.env :: X.outer)) (fun b => (b = ea ∨ b = T0) ∨ b = T) s1.heap h4 := (m3.mono fun b z => .inl z).trans (mvd_S (m4.mono fun b z => .inr z) fun b z => nomatch z)
  have I4 : Inv X pins σ H' { s1 with heap := h4 } := mv h4 _ s1.gens s1.drawn s1.toks M4 D1 D2 bare
  have Ih := I4.hdl ea
  obtain ⟨cdG, hcG, hvG, _, bmG, hmG⟩ := hG.cd
  obtain ⟨nmG, qG, NG, bsG, bm', snG, subG, abG, colG, ddG, k0, k1, k2, k3, k5, lG, vG⟩ := hG.obj
  refine wpAny_handleBy_cons (codeAny_handlers_test (A := X.A.mark (some (.ref ea))) (ld_glob Ih hg hG.g ?_ hdb)) (by intro q; cases q)
  have ty : PySem.W.typeIn X.K (.ref G) = some (.type "type") := by show (List.lookup G X.K).map (·.cls) = _; rw [lG]; rfl
  obtain ⟨oe, vs, oT, ts, q1, q2, q3, q4, q5, q6, q7, q8, q9⟩ := id t4
  have Lt : PySem.W.Looks (model X.prog X.w) h4 (typeOf (.ref ea)) (.ref C) := q2 ▸ (PySem.W.Looks.ld q1).andThen .now
  have Li : PySem.W.Looks (model X.prog X.w) h4 (isType (.ref G)) true := by
    intro A' Q' E' s' k q
    unfold isType loadHead
    exact wpAny_bind (wpAny_loadPart (k _ _ (I4.kIn _ _ lG)) (wpAny_pure q))
  refine Ex.x_match (s := { s1 with heap := h4 }) I4.kIn Lt ty Li (hG.mro (by decide +kernel)) hsub ?_
  dsimp only
  refine codeAny_handlers_suite_as ?_
  refine Ex.x_mark (s := { s1 with heap := h4 }) (fr := none) t4 fun h5 m5 t5 => ?_
  have M5 : Ex.Mvd (frs (X.env :: X.outer)) (fun b => (b = ea ∨ b = T0) ∨ b = T) s1.heap h5 := M4.trans (mvd_S (m5.mono fun b z => .inr z) fun b z => nomatch z)
  have I5 : Inv X pins σ H' { s1 with heap := h5 } := mv h5 _ s1.gens s1.drawn s1.toks M5 D1 D2 bare
  obtain ⟨oe5, vs5, oT5, ts5, p1, p2, p3, p4, _⟩ := id t5
  have I6 : Inv X pins σ (upd H' ea (XC ea C d)) { s1 with heap := h5 } := by
    refine I1.call' (s' := { s1 with heap := h5 }) os (Un.track (Un.moved un M5 D1 fun b hb => .inl (by rw [hst]; exact hb)) hn he1) (HOk.track (HOk.moved hok M5 D2 hS1) he1 (xc_ok p1 p2 p3 p4)) bare fun b z => nomatch z
  refine store_ok I6 hN hj (.inl hk) (show RelV (.ref ea) (.ref ea) from rfl) (fun s6 I7 => ?_) (.inr hk)
  refine wpAny_mono (hh ea pins s6 _ _ _ ((I7.hdl ea).wish _) (hth ea he1)) (fun f s7 q => ?_) fun _ _ z => z.elim
  have go : ∀ {σ' : St} {H2 : Hp} {Q : Flow → Shared → Prop}, Inv ((X.hdl ea).nox) pins σ' H2 s7 → (∀ s8, Inv X pins (σ'.set j none) H2 s8 → Q f s8) → wpAny (model X.prog X.w) X.A (do bindName X.env n .none; unbindBehindTheSuite X.env n hp) (fun _ s8 => Q f s8) X.xe s7 := fun {σ' H2 Q} J k => by
    have J' := J.unhdl I.ok
    obtain ⟨m, hm, hl⟩ := id J'.loc
    exact wpAny_nameGoes_keeps hk hm (by rw [I.ok.kind]; rfl) fun h' v hn' hs' => k _ (J'.dropped hN hj hk hl hm hn' hs')
  cases f with
  | next =>
    obtain ⟨σ', H2, J, z⟩ := q
    exact go J fun s8 K8 => ⟨_, H2, K8, z⟩
  | ret u =>
    obtain ⟨v, σ', H2, J, rv, z⟩ := q
    exact go J fun s8 K8 => ⟨v, _, H2, K8, rv, z⟩
  | brk =>
    obtain ⟨σ', H2, J, z⟩ := q
    exact go J fun s8 K8 => ⟨_, H2, K8, z⟩
  | cont =>
    obtain ⟨σ', H2, J, z⟩ := q
    exact go J fun s8 K8 => ⟨_, H2, K8, z⟩
end
end L2

set_option Elab.async false
set_option linter.all false
set_option maxRecDepth 100000
set_option maxHeartbeats 4000000
namespace L2
open PySem PySem.Spec PyProof.Rows

structure XIniOk (K : PySem.W.Frag) (C : Addr) (qual : Str) (st : Stmt) (ps : List Str) (f : Addr) (fd : FuncData) : Prop where
  F : Fun K "__init__" qual st f fd
  b : Binds K fd ps []
  i : PySem.W.findIn K (.ref C) "__init__" = some (some (.ref f))
  f : PySem.W.isFn K (.ref f) = true
section
variable {P : Program} {w : World} {K : PySem.W.Frag} {mg : Str → Option Value} {base : Heap}
theorem Fun.okE {x qual : Str} {st : Stmt} {f : Addr} {fd : FuncData} {N ps : List Str} {k : Nat} {sp : Sp} (F : Fun K x qual st f fd) (S : FnScope N ps (defScope st)) (len : ∀ vs H Q E, sp vs H Q E → vs.length = ps.length)
    (hbody : ∀ (cdv : Value) (A : Around) (outer : List Env) (s : Shared) (H : Hp) (vs : List V) (Q : VK) (E : XK), Room k (A.deeper (envOfC qual (defScope st) s.heap.objs.size f cdv)) → sp vs H Q E →
      ∃ t, PSs (cxOf (CXe P w) P w K mg base N qual (defScope st) f cdv A outer s H E) (defBody st) t ∧ t { nx := fun _ H' => Q .non H', rt := Q } (start N vs) H) : FnOk P w K mg base (CXe P w) (k + 1) f fd ps sp := by
  obtain ⟨oc, od, kV, doc, pm, an, cdv, ct, osl, rfl, lk, hcd⟩ := F.ex
  exact fn_of lk hcd S len fun A outer s H vs Q E hr hsp => hbody cdv A outer s H vs Q E hr hsp
end
section
variable {X : Cx} {k : Nat} {f C : Addr} {fd : FuncData} {ps : List Str} {sp : Sp} {x qual : Str} {st : Stmt} {p pos cpos : Pos} {e : Expr} {es : List Expr} {t : TA} {E : XK}

theorem raiseD (c : XClsOk X.K X.mg x C) (D : XIniOk X.K C qual st ps f fd) (G : FnOk X.prog X.w X.K X.mg X.base CX0 k f fd ps sp) (hr : Room (k + 1) X.A) (hc : X.calm = true) (hx : Throws X E) (ha : PA X (e :: es) t) (hz : ps.length ≤ 1000 := by decide) (hg : Gl X x := by rfl)
    (hdb : (x == ("__debug__" : Str)) = false := by decide) (he : starEach (e :: es) X.env = (false, eval e X.env) :: starEach es X.env := by rfl) (hpl : (backTo cpos (starEach es X.env)).any (·.1) = false := by rfl) :
    PS X (.Raise (some (.Call (.Name x p) (e :: es) [] cpos)) none pos) (tRaise C sp E t) := ps_raise c.cls c.g D.i D.f c.kp G D.b hr hc hx ha hz hg hdb he hpl
end
theorem xIniOk_mk {K : PySem.W.Frag} {C : Addr} {qual : Str} {st : Stmt} {ps : List Str} {f : Addr} {oc : Value} {od an : Option Addr} {osl : Array (Option Value)} {kV doc pm cdv ct : Value}
    (a : PySem.W.findIn K (.ref C) "__init__" = some (some (.ref f))) (i : PySem.W.isFn K (.ref f) = true) (l : K.lookup f = some ⟨oc, od, .func (PySem.W.fnOf "__init__" qual (defArgs st) (defBody st) (defScope st) .none kV doc pm an cdv ct), osl⟩) (c : PySem.W.codeIn K cdv qual = true) (k : PySem.W.keepIn K (.ref f) = true)
    (b : ∀ (kV doc pm : Value) (an : Option Addr) (cdv ct : Value) (us : List Value), us.length = ps.length → bindArgs (PySem.W.fnOf "__init__" qual (defArgs st) (defBody st) (defScope st) .none kV doc pm an cdv ct) ⟨us, []⟩ = pure (ps.zip us)) :
    XIniOk K C qual st ps f (PySem.W.fnOf "__init__" qual (defArgs st) (defBody st) (defScope st) .none kV doc pm an cdv ct) :=
  have F := fun_mk l c k
  ⟨F, F.binds b, a, i⟩
theorem xClsOk_mk {K : PySem.W.Frag} {mg : Str → Option Value} {h : Heap} {name : Str} {C N : Addr} {nm q : Str} {bs bm : List Value} {sn : List Str} {sub : List Value} {ab : Bool} {col : Option Bool} {dd : Option Addr} {k0 k1 k2 k3 k5 : Option Value} (X : K.In h) (G : h.Ns mainGlobals mg)
    (a : PySem.W.nsIn K mainGlobals name = some (some (.ref C))) (l : K.lookup C = some (excClassObj nm q C N bs bm true sn sub ab col dd k0 k1 k2 k3 k5 "ValueError.__new__")) (v : Ex.veTail bm = true) (kp : PySem.W.keepIn K (.ref C) = true)
    (sa : PySem.W.findIn K (.ref C) "__setattr__" = some (some (.builtin "object.__setattr__"))) (ga : PySem.W.findIn K (.ref C) "__getattribute__" = some (some (.builtin "BaseException.__getattribute__"))) (gt : PySem.W.findIn K (.ref C) "__getattr__" = some none)
    (cl : PySem.W.findIn K (.ref C) "__class__" = some (some (.builtin "object.__class__"))) (sg : PySem.W.specialIn K (.builtin "object.__class__") "__get__" = some (some (.builtin "getset_descriptor.__get__"))) (tk : PySem.W.takesIn K (.builtin "object.__class__") = some true) : XClsOk K mg name C :=
  ⟨PySem.W.mg_of X G a, ⟨nm, q, N, bs, bm, sn, sub, ab, col, dd, k0, k1, k2, k3, k5, l, v⟩, kp, sa, ga, gt, cl, sg, tk⟩
theorem bt_ValueError : bootBuiltins "ValueError" = some (.type "ValueError") := by decide +kernel
section
variable {X : Cx}

end
end L2

set_option Elab.async false
set_option linter.all false
set_option maxRecDepth 100000
set_option maxHeartbeats 4000000
namespace L2
open PySem PySem.Spec PyProof.Rows
open PySem.Builtin

end L2

set_option Elab.async false
set_option linter.all false
set_option maxRecDepth 100000
set_option maxHeartbeats 4000000
namespace L2
open PySem PySem.Spec PyProof.Rows

end L2

set_option Elab.async false
set_option linter.all false
set_option maxRecDepth 100000
set_option maxHeartbeats 4000000
namespace Sk
open PySem PySem.Spec PyProof.Rows

mutual
def hsh (w : World) : PyData → Int
  | .int i => hashInt i
  | .str x => hashStr w x
  | .bool b => hashInt (if b then 1 else 0)
  | .tuple ds => reduceHash (Builtin.Tuple.tupleHashOf (hshs w ds))
  | _ => 0
def hshs (w : World) : List PyData → List Int
  | [] => []
  | d :: ds => hsh w d :: hshs w ds
end
mutual
def drw : PyData → Nat
  | .tuple ds => drws ds + 1
  | _ => 1
def drws : List PyData → Nat
  | [] => 0
  | d :: ds => drw d + drws ds
end
theorem hshs_app (w : World) : ∀ a b, hshs w (a ++ b) = hshs w a ++ hshs w b
  | [], b => by simp [hshs]
  | d :: a, b => by simp [hshs, hshs_app w a b]
theorem drws_app : ∀ a b, drws (a ++ b) = drws a + drws b
  | [], b => by simp [drws]
  | d :: a, b => by simp [drws, drws_app a b, Nat.add_assoc]

def hok : Nat → PyData → Bool
  | _, .int _ => true
  | _, .str x => PyData.strOk x
  | _, .bool _ => true
  | n + 1, .tuple ds => ds.all (hok n)
  | _, _ => false
section
variable {prog : Program} {w : World}
theorem wpAny_pyHash_bool {A : Around} {E : Value → Shared → Prop} {s : Shared} {b : Bool} {Q : Int → Shared → Prop} (h : Q (hashInt (if b then 1 else 0)) { s with toks := s.toks + 1 }) :
    wpAny (model prog w) A (pyHash (.bool b)) Q E s := by
  have hr := rawHash_range (if b then 1 else 0)
  have hT : s.TypeIs (.bool b) "bool" := rfl
  unfold pyHash
  have hv : [Value.bool b].any Value.onHeap = false := rfl
  refine wpAny_bind ?_
  rw [cRoomFor, if_neg (by rw [hv]; exact Bool.false_ne_true)]; refine wpAny_pure ?_
  refine wpAny_bind (wpAny_specialOf hT F.slot_bool_hash.lookup ?_)
  show wpAny _ _ (if (some (Value.builtin "int.__hash__") == some Value.none) = true then _ else _) Q E s
  rw [if_neg (by rw [beq_builtin_none]; exact Bool.false_ne_true)]
  refine wpAny_bind (wpAny_specialOf hT F.slot_bool_hash.lookup ?_)
  show wpAny _ _ (callSpecialIfBoundUnlessNone? (.bool b) "__hash__" _ >>= _) Q E s
  refine wpAny_bind (wpAny_callSpecialIfBoundUnlessNone?_slot hT F.slot_bool_hash
    (wpAny_call_entry F.slot_bool_hash hT entry_int_hash
      (show wpAny _ _ (do ret (← mkInt (rawHash (if b then 1 else 0)))) _ _ s from wpAny_ret_mkInt ?_) (args_int_hash _)))
  show wpAny _ _ (if (decide (-(2 : Int) ^ 63 ≤ rawHash (if b then 1 else 0)) && decide (rawHash (if b then 1 else 0) < 2 ^ 63)) = true then _ else _) Q E _
  rw [if_pos (by rw [decide_eq_true hr.1, decide_eq_true hr.2]; rfl)]
  exact wpAny_pure h
theorem hash_of : ∀ (n : Nat) (d : PyData) {A : Around} {E : Value → Shared → Prop} {s : Shared} {v : Value} {as : List Addr} {Q : Int → Shared → Prop}, hok n d = true → A.units + n < cLine → Reads s.heap v d as → Q (hsh w d) { s with toks := s.toks + drw d } →
    wpAny (model prog w) A (pyHash v) Q E s
  | n, .int i, A, E, s, v, as, Q, _, _, r, h => by
    cases r; unfold hsh drw at h; exact wpAny_pyHash_int h
  | n, .str x, A, E, s, v, as, Q, _, _, r, h => by
    cases r; unfold hsh drw at h; exact wpAny_pyHash_str h
  | n, .bool x, A, E, s, v, as, Q, _, _, r, h => by
    cases r; unfold hsh drw at h; exact wpAny_pyHash_bool h
  | n + 1, .tuple ds, A, E, s, v, as, Q, hk, hu, r, h => by
    unfold hsh drw at h
    cases r with
    | @tuple a o items m _ _ ho hc hd hi =>
    have hT : s.TypeIs (.ref a) "tuple" := ⟨o, ho, hc⟩
    have hk : ∀ d ∈ ds, hok n d = true := by
      unfold hok at hk
      exact List.all_eq_true.mp hk
    unfold pyHash
    first | unfold pyHashByItsType | skip
    refine wpAny_bind (wpAny_cRoomFor_or (.inr (by omega)) ?_)
    refine wpAny_bind (wpAny_specialOf hT F.slot_tuple_hash.lookup ?_)
    show wpAny _ _ (if (some (Value.builtin "tuple.__hash__") == some Value.none) = true then _ else _) Q E s
    rw [if_neg (by rw [beq_builtin_none]; exact Bool.false_ne_true)]
    refine wpAny_bind (wpAny_specialOf hT F.slot_tuple_hash.lookup ?_)
    show wpAny _ _ (callSpecialIfBoundUnlessNone? (.ref a) "__hash__" _ >>= _) Q E s
    refine wpAny_bind (wpAny_callSpecialIfBoundUnlessNone?_slot hT F.slot_tuple_hash (wpAny_call_entry F.slot_tuple_hash hT F.entry_tuple_hash ?_ (F.args_tuple_hash_1 _)))
    show wpAny _ _ (Builtin.Tuple.tupleItemsOf (.ref a) >>= _) _ _ s
    refine wpAny_bind (wpAny_tupleItemsOf ho hd ?_)
    refine wpAny_bind ?_
    rw [← Array.forIn_toList]
    refine wpAny_forIn_list _
      (fun rest (b : Array Int) s' => ∃ done left bs, ds = done ++ left ∧ ReadsAll s.heap rest left bs ∧ b.toList = hshs w done ∧ s' = { s with toks := s.toks + drws done })
      _ ?_ ?_ _ _ ⟨[], ds, _, rfl, hi, by simp [hshs], by simp [drws]⟩
    · rintro x rest b s' ⟨done, left, bs, e, hl, hb, rfl⟩
      cases hl with
      | @cons _ _ k ks' _ _ h1 hl' =>
        refine wpAny_bind (hash_of n k (hk k (by rw [e]; simp)) (show A.in1.units + n < cLine by show A.units + 1 + n < cLine; omega) h1 ?_)
        have q : ({ s with toks := s.toks + drws done + drw k } : Shared) = { s with toks := s.toks + drws (done ++ [k]) } := by rw [drws_app]; simp [drws, Nat.add_assoc]
        first
          | exact wpAny_pure ⟨done ++ [k], ks', _, by rw [e]; simp, hl', by rw [hshs_app]; simp [hb, hshs], q⟩
          | exact wpAny_bind (wpAny_pure (wpAny_pure ⟨done ++ [k], ks', _, by rw [e]; simp, hl', by rw [hshs_app]; simp [hb, hshs], q⟩))
    · rintro b s' ⟨done, left, bs, rfl, hl, hb, rfl⟩
      cases hl
      rw [List.append_nil] at h
      show wpAny _ _ (retInt (Builtin.Tuple.tupleHashOf b.toList)) _ _ _
      rw [hb]
      refine wpAny_ret_mkInt ?_
      show wpAny _ _ (if (decide (-(2 : Int) ^ 63 ≤ Builtin.Tuple.tupleHashOf (hshs w done)) && decide (Builtin.Tuple.tupleHashOf (hshs w done) < 2 ^ 63)) = true then _ else _) Q E _
      unfold reduceHash at h
      by_cases hr : (decide (-(2 : Int) ^ 63 ≤ Builtin.Tuple.tupleHashOf (hshs w done)) && decide (Builtin.Tuple.tupleHashOf (hshs w done) < 2 ^ 63)) = true
      · rw [if_pos hr]
        rw [if_pos hr] at h
        exact wpAny_pure (by simpa [Nat.add_assoc] using h)
      · rw [if_neg hr]
        rw [if_neg hr] at h
        exact wpAny_bind (wpAny_rule (wpAny_pure (by simpa [Nat.add_assoc] using h)))
  | 0, .tuple _, _, _, _, _, _, _, hk, _, _, _ => by unfold hok at hk; cases hk
  | 0, .none, _, _, _, _, _, _, hk, _, _, _ => by unfold hok at hk; cases hk
  | 0, .list _, _, _, _, _, _, _, hk, _, _, _ => by unfold hok at hk; cases hk
  | 0, .dict _, _, _, _, _, _, _, hk, _, _, _ => by unfold hok at hk; cases hk
  | n + 1, .none, _, _, _, _, _, _, hk, _, _, _ => by unfold hok at hk; cases hk
  | n + 1, .list _, _, _, _, _, _, _, hk, _, _, _ => by unfold hok at hk; cases hk
  | n + 1, .dict _, _, _, _, _, _, _, hk, _, _, _ => by unfold hok at hk; cases hk
theorem quiet_of : ∀ (n : Nat) (d : PyData) (m : Nat) {A : Around} {E : Value → Shared → Prop} {s : Shared} {v : Value} {as : List Addr} {Q : Bool → Shared → Prop}, hok n d = true → n ≤ m → Reads s.heap v d as → Q true s →
    wpAny (model prog w) A (eqIsQuiet m v) Q E s
  | n, .int i, m, A, E, s, v, as, Q, _, _, r, h => by
    cases r; rw [eqIsQuiet_byValue _ rfl]; exact wpAny_pure h
  | n, .str x, m, A, E, s, v, as, Q, _, _, r, h => by
    cases r; rw [eqIsQuiet_byValue _ rfl]; exact wpAny_pure h
  | n, .bool x, m, A, E, s, v, as, Q, _, _, r, h => by
    cases r; rw [eqIsQuiet_byValue _ rfl]; exact wpAny_pure h
  | n + 1, .tuple ds, m + 1, A, E, s, v, as, Q, hk, hm, r, h => by
    cases r with
    | @tuple a o items _ _ _ ho hc hd hi =>
    have hT : s.TypeIs (.ref a) "tuple" := ⟨o, ho, hc⟩
    have hk : ∀ d ∈ ds, hok n d = true := by
      unfold hok at hk
      exact List.all_eq_true.mp hk
    unfold eqIsQuiet
    refine wpAny_bind (wpAny_specialOf hT F.slot_tuple_eq.lookup ?_)
    show wpAny _ _ (isInstance (.ref a) (.type "tuple") >>= _) _ _ s
    refine wpAny_bind (wpAny_isInstance hT isSubtype_tuple_tuple ?_)
    simp only [Bool.not_true, Bool.false_eq_true, if_false]
    refine wpAny_bind (wpAny_seqItems ho hd ?_)
    refine wpAny_bind ?_
    show wpAny _ _ (forIn items _ _) _ _ s
    rw [← Array.forIn_toList]
    refine wpAny_forIn_list _ (fun rest r s' => r.1 = none ∧ s' = s ∧ ∃ left bs, ReadsAll s.heap rest left bs ∧ ∀ d ∈ left, hok n d = true) _ ?_ ?_ _ _ ⟨rfl, rfl, ds, _, hi, hk⟩
    · rintro v rest r s' ⟨hr, rfl, left, bs, hl, hall⟩
      cases hl with
      | @cons _ _ k ks' _ _ h1 hl' =>
        refine wpAny_bind (quiet_of n k m (hall k List.mem_cons_self) (by omega) h1 ?_)
        simp only [Bool.not_true, Bool.false_eq_true, if_false]
        exact wpAny_pure ⟨rfl, rfl, ks', _, hl', fun d hd => hall d (List.mem_cons_of_mem _ hd)⟩
    · rintro ⟨r1, r2⟩ s' ⟨hr, rfl, _⟩
      simp only at hr
      subst hr
      exact wpAny_pure h
  | n + 1, .tuple ds, 0, _, _, _, _, _, _, _, hm, _, _ => by omega
  | 0, .tuple _, _, _, _, _, _, _, _, hk, _, _, _ => by unfold hok at hk; cases hk
  | 0, .none, _, _, _, _, _, _, _, hk, _, _, _ => by unfold hok at hk; cases hk
  | 0, .list _, _, _, _, _, _, _, _, hk, _, _, _ => by unfold hok at hk; cases hk
  | 0, .dict _, _, _, _, _, _, _, _, hk, _, _, _ => by unfold hok at hk; cases hk
  | n + 1, .none, _, _, _, _, _, _, _, hk, _, _, _ => by unfold hok at hk; cases hk
  | n + 1, .list _, _, _, _, _, _, _, _, hk, _, _, _ => by unfold hok at hk; cases hk
  | n + 1, .dict _, _, _, _, _, _, _, _, hk, _, _, _ => by unfold hok at hk; cases hk
end
theorem hok_lay : ∀ (n : Nat) (d : PyData), hok n d = true → d.canLay0 = true ∧ d.depth ≤ n
  | n, .int i, _ => ⟨rfl, by simp [PyData.depth]⟩
  | n, .str x, hk => ⟨by unfold hok at hk; exact hk, by simp [PyData.depth]⟩
  | n, .bool x, _ => ⟨rfl, by simp [PyData.depth]⟩
  | n + 1, .tuple ds, hk => by
    have hk : ∀ d ∈ ds, hok n d = true := by
      unfold hok at hk
      exact List.all_eq_true.mp hk
    have key : ∀ l : List PyData, (∀ d ∈ l, hok n d = true) → PyData.canLayAll0 l = true ∧ PyData.depthAll l ≤ n := by
      intro l
      induction l with
      | nil => intro _; exact ⟨rfl, Nat.zero_le _⟩
      | cons d l ih =>
        intro hl
        obtain ⟨a1, a2⟩ := hok_lay n d (hl d List.mem_cons_self)
        obtain ⟨b1, b2⟩ := ih fun e he => hl e (List.mem_cons_of_mem _ he)
        refine ⟨by simp [PyData.canLayAll0, a1, b1], ?_⟩
        simp only [PyData.depthAll]
        omega
    obtain ⟨h1, h2⟩ := key ds hk
    refine ⟨h1, ?_⟩
    simp only [PyData.depth]
    omega
  | 0, .tuple _, hk => by unfold hok at hk; cases hk
  | 0, .none, hk => by unfold hok at hk; cases hk
  | 0, .list _, hk => by unfold hok at hk; cases hk
  | 0, .dict _, hk => by unfold hok at hk; cases hk
  | n + 1, .none, hk => by unfold hok at hk; cases hk
  | n + 1, .list _, hk => by unfold hok at hk; cases hk
  | n + 1, .dict _, hk => by unfold hok at hk; cases hk
theorem reads_keeps {h h' : Heap} {c : Addr} {ob : Obj} {es ep} (hob : h.get? c = some ob) (hod : ob.data = .dict es ep) (hs : Heap.SameBut c h h') : ∀ (n : Nat) (d : PyData) {v : Value} {as : List Addr}, hok n d = true → Reads h v d as → Reads h' v d as
  | n, .int i, v, as, _, r => by cases r; exact .int _ _
  | n, .str x, v, as, _, r => by cases r; exact .str _ _
  | n, .bool x, v, as, _, r => by cases r; exact .bool _
  | n + 1, .tuple ds, v, as, hk, r => by
    cases r with
    | @tuple a o items _ _ _ ho hc hd hi =>
    have hk : ∀ d ∈ ds, hok n d = true := by
      unfold hok at hk
      exact List.all_eq_true.mp hk
    have key : ∀ (l : List PyData) {vs : List Value} {bs : List Addr}, (∀ d ∈ l, hok n d = true) → ReadsAll h vs l bs → ReadsAll h' vs l bs := by
      intro l
      induction l with
      | nil => intro vs bs _ r; cases r; exact .nil
      | cons d l ih =>
        intro vs bs hl r
        cases r with
        | cons r1 r2 => exact .cons (reads_keeps hob hod hs n d (hl d List.mem_cons_self) r1) (ih (fun e he => hl e (List.mem_cons_of_mem _ he)) r2)
    have hne : a ≠ c := by
      rintro rfl
      obtain rfl : o = ob := Option.some.inj (ho.symm.trans hob)
      rw [hd] at hod; exact nomatch hod
    exact .tuple ((hs.2 a hne).trans ho) hc hd (key ds hk hi)
  | 0, .tuple _, _, _, hk, _ => by unfold hok at hk; cases hk
  | 0, .none, _, _, hk, _ => by unfold hok at hk; cases hk
  | 0, .list _, _, _, hk, _ => by unfold hok at hk; cases hk
  | 0, .dict _, _, _, hk, _ => by unfold hok at hk; cases hk
  | n + 1, .none, _, _, hk, _ => by unfold hok at hk; cases hk
  | n + 1, .list _, _, _, hk, _ => by unfold hok at hk; cases hk
  | n + 1, .dict _, _, _, hk, _ => by unfold hok at hk; cases hk

structure DK (K : Type) [DecidableEq K] where
  D : K → PyData
  n : Nat
  n8 : n ≤ 8
  ok : ∀ k, hok n (D k) = true
  eqv : ∀ a b, PyData.eqv (D a) (D b) = decide (a = b)
  inj : ∀ a b, D a = D b → a = b
def kindOf {K : Type} [DecidableEq K] (T : DK K) (prog : Program) (w : World) : HeapKind prog w K where
  is := fun h k a => ∃ as, Reads h (.ref a) (T.D k) as
  hash := fun k => hsh w (T.D k)
  draws := fun k => drw (T.D k)
  room := fun A => A.units + 8 < cLine
  inj := fun {h a x y} ⟨as, r⟩ ⟨bs, r'⟩ => T.inj _ _ (SeqAt.Reads.unique _ _ _ _ _ (hok_lay _ _ (T.ok x)).1 r r')
  keeps := fun {h h' k a d o es ep} ⟨as, r⟩ ho hd hs => ⟨as, reads_keeps ho hd hs _ _ (T.ok k) r⟩
  pyHash := fun {A E s k a Q} hu ⟨as, r⟩ h => hash_of _ _ (T.ok k) (Nat.lt_of_le_of_lt (Nat.add_le_add_left T.n8 _) hu) r h
  eqBool := fun {A E s x y a b Q} hu ⟨as, r⟩ ⟨bs, r'⟩ h => by
    have l1 := hok_lay _ _ (T.ok x)
    have l2 := hok_lay _ _ (T.ok y)
    refine SeqAt.eqAt_reads _ _ A s _ _ _ _ r r' l1.1 l2.1 ?_ _ _ _ _ (by rw [T.eqv]; exact h)
    have := T.n8
    have h3 : min (T.D x).depth (T.D y).depth ≤ (T.D x).depth := Nat.min_le_left _ _
    omega
  quiet := fun {A E s k a Q} ⟨as, r⟩ h => quiet_of _ _ 8 (T.ok k) T.n8 r h
end Sk

set_option Elab.async false
set_option linter.all false
set_option maxRecDepth 100000
set_option maxHeartbeats 4000000
namespace L2
open PySem PySem.Spec PyProof.Rows Sk

section
variable {κ : Type} [DecidableEq κ] {T : DK κ} {P : Program} {w : World}
section
variable {X : Cx} {pins : List (Addr × Obj)} {σ : St} {H : Hp} {s : Shared} {a b : Addr} {kvs : List (κ × Addr × V)} {k : κ}
end

section
variable {X : Cx} {o i e value : Expr} {pos pos' tpos : Pos} {td ty tv tk : TE}
end
end
end L2

set_option Elab.async false
set_option linter.all false
set_option maxRecDepth 100000
set_option maxHeartbeats 4000000
namespace L2
open PySem PySem.Spec PyProof.Rows

structure RoomH (k : Nat) (A : Around) : Prop where
  dp : A.depth + 3 * k + 5 < recursionLimit
  un : A.units + 16 * k + 200 < cLine
theorem Room.hd' {k j : Nat} {A : Around} (r : Room k A) (h : j ≤ k) : RoomH j A := ⟨by have := r.dp; omega, by have := r.un; omega⟩
theorem RoomH.units {k : Nat} {A : Around} (r : RoomH k A) : A.units + 64 < cLine := by have := r.un; omega
section
variable {P : Program} {w : World} {K : PySem.W.Frag} {mg : Str → Option Value} {base : Heap}
end
section
variable {X : Cx} {k : Nat} {f : Addr} {fd : FuncData} {ps : List Str} {sp : Sp} {x : Str} {st : Stmt} {p pos : Pos} {e : Expr} {es : List Expr} {t : TA}

end
end L2

set_option Elab.async false
set_option linter.all false
set_option maxRecDepth 100000
set_option maxHeartbeats 4000000
namespace Tk
open PySem

theorem runs_toks {M : Model} {Γ : Ctx} {p : Pos} {t : Sem Fin} {fs : List Frame} {s : Shared} {e : End} {s' : Shared} (h : Runs M Γ p t fs s e s') : s.toks ≤ s'.toks := by
  induction h with
  | done => exact Nat.le_refl _
  | raise => exact Nat.le_refl _
  | yield => exact Nat.le_refl _
  | fresh _ ih => exact Nat.le_trans (Nat.le_succ _) ih
  | call _ _ ih1 ih2 => exact Nat.le_trans ih1 ih2
  | resumeFresh _ _ _ _ ih1 ih2 => exact Nat.le_trans ih1 ih2
  | resumeSuspended _ _ _ _ ih1 ih2 => exact Nat.le_trans ih1 ih2
  | segRet _ _ ih1 ih2 => exact Nat.le_trans ih1 ih2
  | segGen _ _ ih1 ih2 => exact Nat.le_trans ih1 ih2
  | segSuspGen _ _ _ _ ih1 ih2 => exact Nat.le_trans ih1 ih2
  | _ => assumption
theorem wakes_toks {M : Model} {Γ : Ctx} {p : Pos} {g : Nat} {r : Resume} {s : Shared} {res : GenResult} {s' : Shared} (h : Wakes M Γ p g r s res s') : s.toks ≤ s'.toks := by
  unfold Wakes at h
  split at h
  · exact h.elim
  · split at h
    · obtain ⟨e₁, s₁, h1, _, _, rfl⟩ := h; have z := runs_toks h1; exact z
    · obtain ⟨_, rfl⟩ := h; exact Nat.le_refl _
    · obtain ⟨_, rfl⟩ := h; exact Nat.le_refl _
  · obtain ⟨e₁, s₁, h1, _, _, rfl⟩ := h; have z := runs_toks h1; exact z
  · obtain ⟨_, rfl⟩ := h; exact Nat.le_refl _
  · obtain ⟨_, rfl⟩ := h; exact Nat.le_refl _
theorem wp_toks {α : Type} {M : Model} {Γ : Ctx} (n : Nat) : ∀ (t : Sem α) {Q : α → Pos → Shared → Prop} {E : Value → Pos → Shared → Prop} {p : Pos} {s : Shared}, n ≤ s.toks → Sem.wp M Γ t Q E p s → Sem.wp M Γ t (fun a p s' => Q a p s' ∧ n ≤ s'.toks) E p s := by
  intro t
  induction t with
  | pure a => intro Q E p s hn h; rw [Sem.wp] at h ⊢; exact ⟨h, hn⟩
  | raise e => intro Q E p s hn h; rw [Sem.wp] at h ⊢; exact h
  | unsupported _ => intro Q E p s hn h; rw [Sem.wp] at h ⊢; exact h
  | finish _ => intro Q E p s hn h; rw [Sem.wp] at h ⊢; exact h
  | rule _ k ih => intro Q E p s hn h; rw [Sem.wp] at h ⊢; exact ih () hn h
  | «at» p' k ih => intro Q E p s hn h; rw [Sem.wp] at h ⊢; exact ih () hn h
  | load a _ k ih => intro Q E p s hn h; rw [Sem.wp] at h ⊢; obtain ⟨o, h1, h2⟩ := h; exact ⟨o, h1, ih o hn h2⟩
  | update a _ f k ih => intro Q E p s hn h; rw [Sem.wp] at h ⊢; exact ⟨h.1, ih () hn h.2⟩
  | loadIfAlive a k ih => intro Q E p s hn h; rw [Sem.wp] at h ⊢; exact ih _ hn h
  | point _ k ih => intro Q E p s hn h; rw [Sem.wp] at h ⊢; exact ih () hn h
  | register _ _ => intro Q E p s hn h; rw [Sem.wp] at h ⊢; exact h
  | alloc o k ih => intro Q E p s hn h; rw [Sem.wp] at h ⊢; exact ih _ hn h
  | fresh k ih => intro Q E p s hn h; rw [Sem.wp] at h ⊢; exact ih _ (Nat.le_trans hn (Nat.le_succ _)) h
  | ask k ih => intro Q E p s hn h; rw [Sem.wp] at h ⊢; exact ih _ hn h
  | choose src m k ih => intro Q E p s hn h; rw [Sem.wp] at h ⊢; exact ⟨h.1, ih _ hn h.2⟩
  | os q _ k ih => intro Q E p s hn h; rw [Sem.wp] at h ⊢; exact ih _ hn h
  | call c h0 _ _ k ih =>
    intro Q E p s hn h
    rw [Sem.wp] at h ⊢
    obtain ⟨r, s', h1, h2⟩ := h
    exact ⟨r, s', h1, ih r (Nat.le_trans hn (runs_toks h1)) h2⟩
  | handled own k ih => intro Q E p s hn h; rw [Sem.wp] at h ⊢; exact ih _ hn h
  | genState g k ih => intro Q E p s hn h; rw [Sem.wp] at h ⊢; obtain ⟨o, h1, h2⟩ := h; exact ⟨o, h1, ih _ hn h2⟩
  | newGen c k ih => intro Q E p s hn h; rw [Sem.wp] at h ⊢; exact ih _ hn h
  | resume g r _ k ih => intro Q E p s hn h; rw [Sem.wp] at h ⊢; obtain ⟨res, s', h1, h2⟩ := h; exact ⟨res, s', h1, ih _ (Nat.le_trans hn (wakes_toks h1)) h2⟩
  | yield _ _ _ _ => intro Q E p s hn h; rw [Sem.wp] at h ⊢; exact h
  | stack k ih => intro Q E p s hn h; rw [Sem.wp] at h ⊢; exact ih _ hn h
  | fork _ _ _ => intro Q E p s hn h; rw [Sem.wp] at h ⊢; exact h
  | thread k ih => intro Q E p s hn h; rw [Sem.wp] at h ⊢; exact ih _ hn h
  | await _ _ _ => intro Q E p s hn h; rw [Sem.wp] at h ⊢; exact h
theorem wpAny_toks {α : Type} {M : Model} {A : Around} {t : Sem α} {Q : α → Shared → Prop} {E : Value → Shared → Prop} {s : Shared} {n : Nat} (hn : n ≤ s.toks) (h : wpAny M A t Q E s) : wpAny M A t (fun a s' => Q a s' ∧ n ≤ s'.toks) E s := fun Γ p g => wp_toks n t hn (h Γ p g)
end Tk
namespace L2
open PySem PySem.Spec PyProof.Rows

def PEp (X : Cx) (e : Expr) (t : TE) : Prop :=
  ∀ (pins : List (Addr × Obj)) (s : Shared) (σ : St) (H : Hp) (Q : VK), 1 ≤ s.toks → Inv X pins σ H s → t σ H Q → wpAny (model X.prog X.w) X.A (eval e X.env) (EP X pins σ Q) X.xe s
def PTp (X : Cx) (e : Expr) (t : TT) : Prop :=
  ∀ (pins : List (Addr × Obj)) (s : Shared) (σ : St) (H : Hp) (Q : Bool → Hp → Prop), 1 ≤ s.toks → Inv X pins σ H s → t σ H Q → wpAny (model X.prog X.w) X.A (isTrue e X.env (eval e X.env)) (TP X pins σ Q) X.xe s
def PWp (X : Cx) (e : Expr) (t : TT) : Prop :=
  ∀ (whole : Sem Value) (pins : List (Addr × Obj)) (s : Shared) (σ : St) (H : Hp) (Q : Bool → Hp → Prop), 1 ≤ s.toks → Inv X pins σ H s → t σ H Q → wpAny (model X.prog X.w) X.A (isTrue e X.env whole) (TP X pins σ Q) X.xe s
def PSp (X : Cx) (st : Stmt) (t : TS) : Prop :=
  ∀ (pins : List (Addr × Obj)) (s : Shared) (σ : St) (H : Hp) (D : Ends), 1 ≤ s.toks → Inv X pins σ H s → t D σ H → wpAny (model X.prog X.w) X.A (exec st X.env) (SP X pins D) X.xe s
def PSsp (X : Cx) (st : List Stmt) (t : TS) : Prop :=
  ∀ (pins : List (Addr × Obj)) (s : Shared) (σ : St) (H : Hp) (D : Ends), 1 ≤ s.toks → Inv X pins σ H s → t D σ H → wpAny (model X.prog X.w) X.A (execs st X.env) (SP X pins D) X.xe s
section
variable {X : Cx} {st : Stmt} {rest : List Stmt} {t u : TS} {e a b : Expr} {es : List Expr} {te ta tb to : TE} {tA tB : TT} {pos : Pos}
theorem PE.p (h : PE X e te) : PEp X e te := fun pins s σ H Q _ => h pins s σ H Q
theorem PT.p (h : PT X e tA) : PTp X e tA := fun pins s σ H Q _ => h pins s σ H Q
theorem PS.p (h : PS X st t) : PSp X st t := fun pins s σ H D _ => h pins s σ H D
theorem PSs.p (h : PSs X rest t) : PSsp X rest t := fun pins s σ H D _ => h pins s σ H D
theorem PWp.pt (h : PWp X e tA) : PTp X e tA := h _
theorem pssp_cons (h1 : PSp X st t) (h2 : PSsp X rest u) : PSsp X (st :: rest) (tSeq t u) := by
  intro pins s σ H D hp I h
  refine wpAny_execs_cons (thn (Tk.wpAny_toks hp (h1 pins s σ H { D with nx := u D } hp I h)) fun f s1 ⟨q, hp1⟩ => ?_)
  cases f with
  | next =>
    obtain ⟨σ', H', I', q⟩ := q
    exact h2 pins s1 σ' H' D hp1 I' q
  | ret v => exact q
  | brk => exact q
  | cont => exact q
theorem pssp_cut (h1 : PSp X st t) (h2 : PSsp X rest u) : PSsp X (st :: rest) (fun D σ H => ∃ M : St → Hp → Prop, t { D with nx := M } σ H ∧ ∀ σ' H', M σ' H' → u D σ' H') := by
  intro pins s σ H D hp I h
  obtain ⟨M, h, hm⟩ := h
  refine wpAny_execs_cons (thn (Tk.wpAny_toks hp (h1 pins s σ H { D with nx := M } hp I h)) fun f s1 ⟨q, hp1⟩ => ?_)
  cases f with
  | next =>
    obtain ⟨σ', H', I', q⟩ := q
    exact h2 pins s1 σ' H' D hp1 I' (hm _ _ q)
  | ret v => exact q
  | brk => exact q
  | cont => exact q
theorem pssp_one (h1 : PSp X st t) : PSsp X [st] t := by
  intro pins s σ H D hp I h
  refine wpAny_execs_cons (thn (h1 pins s σ H D hp I h) fun f s1 q => ?_)
  cases f with
  | next => exact wpAny_execs_nil q
  | ret v => exact q
  | brk => exact q
  | cont => exact q
theorem psp_if {c : Expr} {x y : List Stmt} {tc : TT} (hc : PTp X c tc) (ha : PSsp X x t) (hb : PSsp X y u) : PSp X (.If c x y pos) (tIfS tc t u) := by
  intro pins s σ H D hp I h
  refine wpAny_If (thn (Tk.wpAny_toks hp (hc pins s σ H _ hp I h)) fun d s1 ⟨⟨H1, I1, q1⟩, hp1⟩ => ?_)
  cases d with
  | true => exact ha pins s1 σ H1 D hp1 I1 q1
  | false => exact hb pins s1 σ H1 D hp1 I1 q1
theorem psp_set {i : Nat} {x : Str} {pos' : Pos} (hN : X.N.Nodup) (hi : X.N[i]? = some x) (hx : Loc X.env.scope x) (he : PEp X e te) (hs : swapsWith e (some (.Name x pos')) pos.line X.env = pure false := by rfl) (hf : X.fn x = true ∨ X.env.scope.names.lookup x = some .local := by first | exact .inl rfl | exact .inr rfl | assumption) :
    PSp X (.Assign [.Name x pos'] e pos) (tAsg te (gName i)) := by
  intro pins s σ H D hp I h
  refine wpAny_Assign_Name (thn (he pins s σ H _ hp I h) fun v s1 ⟨y, H1, I1, r1, q1⟩ => ?_) hs
  exact store_ok I1 hN hi hx r1 (fun s2 I2 => ⟨_, H1, I2, q1⟩) hf
theorem pwp_or1 (ha : PTp X a tA) : PWp X (.BoolOp .Or [a] pos) tA := by
  intro wh pins s σ H Q hp I h
  refine isTrue_or (thn (ha pins s σ H Q hp I h) fun c s1 e => ?_)
  cases c with
  | false => exact isTrue_or_nil e
  | true => exact e
theorem pwp_and1 (ha : PTp X a tA) : PWp X (.BoolOp .And [a] pos) tA := by
  intro wh pins s σ H Q hp I h
  refine isTrue_and (thn (ha pins s σ H Q hp I h) fun c s1 e => ?_)
  cases c with
  | true => exact isTrue_and_nil e
  | false => exact e
theorem pwp_and (ha : PT X a tA) (hb : PWp X (.BoolOp .And (b :: es) pos) tB) : PWp X (.BoolOp .And (a :: b :: es) pos) (tAnd tA tB) := by
  intro wh pins s σ H Q hp I h
  refine isTrue_and (thn (Tk.wpAny_toks hp (ha pins s σ H _ I h)) fun c s1 ⟨⟨H1, I1, q1⟩, hp1⟩ => ?_)
  cases c with
  | true => exact hb wh pins s1 σ H1 Q hp1 I1 q1
  | false => exact ⟨H1, I1, q1⟩
theorem pwp_or (ha : PT X a tA) (hb : PWp X (.BoolOp .Or (b :: es) pos) tB) : PWp X (.BoolOp .Or (a :: b :: es) pos) (tOr tA tB) := by
  intro wh pins s σ H Q hp I h
  refine isTrue_or (thn (Tk.wpAny_toks hp (ha pins s σ H _ I h)) fun c s1 ⟨⟨H1, I1, q1⟩, hp1⟩ => ?_)
  cases c with
  | true => exact ⟨H1, I1, q1⟩
  | false => exact hb wh pins s1 σ H1 Q hp1 I1 q1
theorem ptp_cmp {op : CmpOp} {r : R2} (ho : OpR X (compareOp op) r) (ha : PEp X a ta) (hb : PE X b tb) (hm : behindInMarks op b = false) : PTp X (.Compare a [op] [b] pos) (tTest (tOp r ta tb)) := by
  intro pins s σ H Q hp I h
  refine wpAny_isTrue_Compare1 (thn (ha pins s σ H _ hp I h) fun v s1 ⟨x, H1, I1, r1, q1⟩ => thn (hb pins s1 σ H1 _ I1 q1) fun u s2 ⟨y, H2, I2, r2, q2⟩ =>
    thn (ho pins s2 σ H2 x y v u _ I2 r1 r2 q2) fun c s3 ⟨z, H3, I3, r3, k, e, q3⟩ => ?_) hm
  subst e
  cases r3
  exact wpAny_truthy_bool ⟨H3, I3, q3⟩

def tRepl (K : PySem.W.Frag) (to : TE) (y z : Str) : TE := fun σ H Q => to σ H fun x H1 => tyV K "str" x H1 ∧ ∃ w, x = .str w ∧ (y == z) = false ∧ w.length + (w.length + 1) * z.length ≤ 16777216 ∧ Q (.str (Txt.replace w y z)) H1
theorem pep_repl {o : Expr} {y z : Str} {k1 k2 : Nat} {p1 p2 apos cpos : Pos} (ho : PE X o to)
    (hbase : attributeBase o "replace" X.env (eval o X.env) = eval o X.env := by rfl)
    (hfew : ((backTo cpos (starEach [.Constant (.str y) k1 p1, .Constant (.str z) k2 p2] X.env)).all (fun x => !x.1) && (backToKw cpos (keywordEach [] X.env)).all (fun x => x.1.isSome)
      && decide (([.Constant (.str y) k1 p1, .Constant (.str z) k2 p2] : List Expr).length + ([] : List Keyword).length + (if ([] : List Keyword).isEmpty then 0 else 1) < 30)) = true := by rfl)
    (hline : (apos.endLine == cpos.line) = true := by rfl) (hs : starEach [.Constant (.str y) k1 p1, .Constant (.str z) k2 p2] X.env = [(false, eval (.Constant (.str y) k1 p1) X.env), (false, eval (.Constant (.str z) k2 p2) X.env)] := by rfl) :
    PEp X (.Call (.Attribute o "replace" apos) [.Constant (.str y) k1 p1, .Constant (.str z) k2 p2] [] cpos) (tRepl X.K to y z) := by
  intro pins s σ H Q hp I h
  refine wpAny_Call_method_late hbase hfew hline rfl (thn (Tk.wpAny_toks hp (ho pins s σ H _ I h)) fun v s1 ⟨⟨x, H1, I1, r1, ty, w, ex, hyz, hl, q1⟩, hp1⟩ => ?_)
  obtain ⟨h1, h2⟩ := tyV_is I1 r1 ty
  subst ex
  obtain ⟨tw, rfl⟩ := r1
  refine ⟨"str", "str.replace", PySem.F.plainAttrs_str, PySem.F.slot_str_replace, PySem.F.type_str_replace, h1, h2, ?_⟩
  rw [hs]
  refine Calls.callWith_builtin rfl (Calls.evalArgs_plain ?_)
  show wpAny _ _ (spliced ((false, eval (.Constant (.str y) k1 p1) X.env) :: backTo cpos [(false, eval (.Constant (.str z) k2 p2) X.env)])) _ _ s1
  refine Calls.spliced_cons (Calls.Constant_str ?_)
  show wpAny _ _ (spliced ((false, eval (.Constant (.str z) k2 p2) X.env) :: [])) _ _ _
  refine Calls.spliced_cons (Calls.Constant_str (Calls.spliced_nil ?_))
  show wpAny _ _ (call (.builtin "str.replace") [.str w tw, .str y s1.toks, .str z (s1.toks + 1)]) _ _ _
  exact SC.replace (by show @Ne Nat s1.toks 0; omega) (by show @Ne Nat (s1.toks + 1) 0; omega) (by show @Ne Nat s1.toks (s1.toks + 1); omega) hyz hl fun t' k => ⟨.str (Txt.replace w y z), H1, I1.tok _, ⟨_, rfl⟩, q1⟩

structure FnOkP (P : Program) (w : World) (K : PySem.W.Frag) (mg : Str → Option Value) (base : Heap) (k : Nat) (f : Addr) (fd : FuncData) (ps : List Str) (sp : Sp) : Prop where
  len : ∀ vs H Q E, sp vs H Q E → vs.length = ps.length
  run : ∀ (A : Around) (outer : List Env) (s : Shared) (H : Hp) (args : Args) (us : List Value) (vs : List V) (Q : VK) (E : XK), 1 ≤ s.toks → Room k A → Env0 P w K mg base A outer s H → BindsTo s fd args (ps.zip us) → Vals vs us → sp vs H Q E →
    codeAny (model P w) A (.call (.ref f) args) (CR CX0 outer P w H s Q E) s
end
section
variable {P : Program} {w : World} {K : PySem.W.Frag} {mg : Str → Option Value} {base : Heap}
theorem Fun.okP {x qual : Str} {st : Stmt} {f : Addr} {fd : FuncData} {N ps : List Str} {k : Nat} {sp : Sp} (F : Fun K x qual st f fd) (S : FnScope N ps (defScope st)) (len : ∀ vs H Q E, sp vs H Q E → vs.length = ps.length)
    (hbody : ∀ (cdv : Value) (A : Around) (outer : List Env) (s : Shared) (H : Hp) (vs : List V) (Q : VK) (E : XK), Room k (A.deeper (envOfC qual (defScope st) s.heap.objs.size f cdv)) → sp vs H Q E →
      ∃ t, PSsp (cxOf CX0 P w K mg base N qual (defScope st) f cdv A outer s H E).nox (defBody st) t ∧ t { nx := fun _ H' => Q .non H', rt := Q } (start N vs) H) : FnOkP P w K mg base (k + 1) f fd ps sp := by
  obtain ⟨oc, od, kV, doc, pm, an, cdv, ct, osl, rfl, lk, hcd⟩ := F.ex
  refine ⟨len, fun A outer s H args us vs Q E hp hr e0 hb r hsp => ?_⟩
  have KX : K.In s.heap := e0.mod.kin.keeps fun b o e => (e0.bs b o e).1
  obtain ⟨t, ht, hq⟩ := hbody cdv A outer s H vs Q E (hr.deeper _) hsp
  refine codeAny_call_function hr.depth (KX _ _ lk) rfl S.co S.gen rfl (PySem.W.codeRec_of KX hcd) (hb _ _ _ _ ?_)
  refine thn (Tk.wpAny_toks hp (wpAny_newFunctionEnv_cells S.kind (fun ⟨n, v⟩ hy => ?_) fun env he s1 x => (⟨he, x⟩ : _ ∧ _))) fun env s1 ⟨⟨he, x⟩, hp1⟩ => ?_
  · rcases S.par n (List.of_mem_zip hy).1 with q | q
    · exact .inl q
    · exact .inr ⟨q, PySem.W.cellsFrom_some _ _ _ (.inl q)⟩
  subst he
  refine ⟨(e0.mod.nolimit.keeps fun b o e => (e0.bs b o e).1).keeps x.toInCall.keep, codeAny_func ?_⟩
  have I := (inv_start (CX := CX0) (qual := qual) (f := f) (cd := cdv) (E := E) S hr.hd e0 (len _ _ _ _ hsp) r x).wish (fun _ _ => False)
  refine wpAny_mono (ht [] s1 (start N vs) H _ hp1 I hq) (fun fl s' hs => ?_) fun e s' hs => hs.elim
  cases fl with
  | ret u =>
    obtain ⟨v, σ', H', J, rv, q⟩ := hs
    exact ⟨v, H', J.os, J.bare, J.base, J.hok, rv, q⟩
  | next =>
    obtain ⟨σ', H', J, q⟩ := hs
    exact ⟨V.non, H', J.os, J.bare, J.base, J.hok, rfl, q⟩
  | brk =>
    obtain ⟨_, _, _, q⟩ := hs
    exact False.elim q
  | cont =>
    obtain ⟨_, _, _, q⟩ := hs
    exact False.elim q
end
section
variable {X : Cx} {st : Stmt} {rest : List Stmt} {t : TA} {ts u : TS} {e : Expr} {es : List Expr} {te to : TE} {k : Nat} {f : Addr} {fd : FuncData} {ps : List Str} {sp : Sp} {x : Str} {p pos : Pos}
theorem callP (D : DefOk X.K X.mg x st ps f fd) (G : FnOkP X.prog X.w X.K X.mg X.base k f fd ps sp) (hr : Room k X.A) (ha : PA X (e :: es) t) (hg : Gl X x := by rfl)
    (hdb : (x == ("__debug__" : Str)) = false := by decide) (he : starEach (e :: es) X.env = (false, eval e X.env) :: starEach es X.env := by rfl) (hpl : (backTo pos (starEach es X.env)).any (·.1) = false := by rfl) :
    PEp X (.Call (.Name x p) (e :: es) [] pos) (tCall sp [] E0 t) := by
  intro pins s σ H Q hp I h
  refine wpAny_Call_Name_kw (ld_glob I hg D.g ?_ hdb)
  refine PySem.W.callWith_K (h₀ := X.base) I.ok.mod.kin D.F.kp (thn (Tk.wpAny_toks hp (ha pos pins s σ H _ I h)) fun us s1 ⟨⟨vs, H1, I1, r, q⟩, hp1⟩ => ⟨I1.kIn, ?_⟩) he hpl
  have q : sp vs H1 Q E0 := by have q : sp (vs ++ []) H1 Q E0 := q; rwa [List.append_nil] at q
  have hl : us.length = ps.length := by rw [← r.length]; exact G.len _ _ _ _ q
  have hb : BindsTo s1 fd ⟨us, []⟩ (ps.zip us) := by
    have := D.b s1 us I1.kIn (by rw [List.append_nil]; exact hl)
    rwa [List.append_nil] at this
  refine wpAny_call (codeAny_mono (G.run X.A X.stack s1 H1 ⟨us, []⟩ us vs Q _ hp1 hr I1.env0 hb r q) fun rr s' hq => ?_)
  cases rr with
  | error ev => exact False.elim hq
  | ok fl =>
    cases fl with
    | ret u => exact I1.after hq
    | next => exact False.elim hq
    | brk => exact False.elim hq
    | cont => exact False.elim hq

def PE1 (X : Cx) (e : Expr) (t : TE) : Prop :=
  ∀ (pins : List (Addr × Obj)) (s : Shared) (σ : St) (H : Hp) (Q : VK), Inv X pins σ H s → t σ H Q → wpAny (model X.prog X.w) X.A (eval e X.env) (fun u s' => EP X pins σ Q u s' ∧ 1 ≤ s'.toks) X.xe s
def PS1 (X : Cx) (st : Stmt) (t : TS) : Prop :=
  ∀ (pins : List (Addr × Obj)) (s : Shared) (σ : St) (H : Hp) (D : Ends), Inv X pins σ H s → t D σ H → wpAny (model X.prog X.w) X.A (exec st X.env) (fun f s' => SP X pins D f s' ∧ 1 ≤ s'.toks) X.xe s
theorem ps1_set {i : Nat} {x : Str} {pos' : Pos} (hN : X.N.Nodup) (hi : X.N[i]? = some x) (hx : Loc X.env.scope x) (he : PE1 X e te) (hs : swapsWith e (some (.Name x pos')) pos.line X.env = pure false := by rfl) (hf : X.fn x = true ∨ X.env.scope.names.lookup x = some .local := by first | exact .inl rfl | exact .inr rfl | assumption) :
    PS1 X (.Assign [.Name x pos'] e pos) (tAsg te (gName i)) := by
  intro pins s σ H D I h
  refine wpAny_Assign_Name (thn (he pins s σ H _ I h) fun v s1 ⟨⟨y, H1, I1, r1, q1⟩, hp1⟩ => ?_) hs
  exact Tk.wpAny_toks hp1 (store_ok I1 hN hi hx r1 (fun s2 I2 => ⟨_, H1, I2, q1⟩) hf)
theorem pss_first (h1 : PS1 X st ts) (h2 : PSsp X rest u) : PSs X (st :: rest) (tSeq ts u) := by
  intro pins s σ H D I h
  refine wpAny_execs_cons (thn (h1 pins s σ H { D with nx := u D } I h) fun f s1 ⟨q, hp1⟩ => ?_)
  cases f with
  | next =>
    obtain ⟨σ', H', I', q⟩ := q
    exact h2 pins s1 σ' H' D hp1 I' q
  | ret v => exact q
  | brk => exact q
  | cont => exact q
theorem pe1_bm {o : Expr} {y : Str} {k1 : Nat} {p1 apos cpos : Pos} {name : Str} {T id : String} {r : V → List V → Hp → VK → Prop} (pa : PlainAttrs T) (slot : Slot T name id) (hty : typeOf (.builtin id) = pure (.type "method_descriptor")) (hm : MtR X id r) (ho : PE X o to)
    (hbase : attributeBase o name X.env (eval o X.env) = eval o X.env := by rfl)
    (hfew : ((backTo cpos (starEach [.Constant (.str y) k1 p1] X.env)).all (fun x => !x.1) && (backToKw cpos (keywordEach [] X.env)).all (fun x => x.1.isSome)
      && decide (([.Constant (.str y) k1 p1] : List Expr).length + ([] : List Keyword).length + (if ([] : List Keyword).isEmpty then 0 else 1) < 30)) = true := by rfl)
    (hline : (apos.endLine == cpos.line) = true := by rfl) (hs : starEach [.Constant (.str y) k1 p1] X.env = [(false, eval (.Constant (.str y) k1 p1) X.env)] := by rfl) :
    PE1 X (.Call (.Attribute o name apos) [.Constant (.str y) k1 p1] [] cpos) (tBM X.K T r to (tCons (tC (.str y)) tNil)) := by
  intro pins s σ H Q I h
  refine wpAny_Call_method_late hbase hfew hline rfl (thn (ho pins s σ H _ I h) fun v s1 ⟨x, H1, I1, r1, ty, q1⟩ => ?_)
  obtain ⟨h1, h2⟩ := tyV_is I1 r1 ty
  refine ⟨T, id, pa, slot, hty, h1, h2, ?_⟩
  rw [hs]
  refine Calls.callWith_builtin rfl (Calls.evalArgs_plain ?_)
  show wpAny _ _ (spliced ((false, eval (.Constant (.str y) k1 p1) X.env) :: [])) _ _ s1
  refine Calls.spliced_cons (Calls.Constant_str (Calls.spliced_nil ?_))
  exact Tk.wpAny_toks (Nat.le_add_left _ _) (hm pins _ σ H1 x [.str y] v [.str y s1.toks] Q (I1.tok _) r1 (.cons ⟨_, rfl⟩ .nil) q1)
end
end L2

set_option Elab.async false
set_option linter.all false
set_option maxRecDepth 100000
set_option maxHeartbeats 4000000
namespace K15
open PySem PySem.NumText L2 K11 K14

def tkc : List (Str × Nat) := [("fn", 70), ("in", 73), ("new", 87), ("get", 71), ("put", 80), ("call", 67), ("out", 79), ("if", 102), ("while", 119), ("else", 101), ("end", 100), ("back", 98)]
def srt (w : Str) : Nat := match tkc.lookup w with
  | some c => c
  | none => if named w = true then 110 else if lawVal w ≠ .non then 118 else if w = "=" then 61 else if isSign w = true then 115 else 63
def loC (c : Nat) : Nat := if c = 118 then 110 else c
abbrev N (w : Str) : Prop := named w = true
abbrev A (w : Str) : Prop := atomF w ≠ .non
theorem inV_str (s : Str) (ss : List Str) : inV (.str s) (ss.map V.str) = decide (s ∈ ss) := by
  unfold inV
  rw [List.any_map, Bool.eq_iff_iff, List.any_eq_true, decide_eq_true_eq]
  constructor
  · rintro ⟨x, hx, h⟩
    have h : (x == s) = true := h
    have : x = s := by simpa using h
    rw [← this]
    exact hx
  · intro h
    exact ⟨s, h, by show (s == s) = true; simp⟩
theorem lookup_mem {α β : Type} [BEq α] [LawfulBEq α] {l : List (α × β)} {a : α} {b : β} (h : l.lookup a = some b) : (a, b) ∈ l := by
  induction l with
  | nil => cases h
  | cons p l ih =>
    obtain ⟨x, y⟩ := p
    rw [List.lookup_cons] at h
    split at h
    · rename_i e
      have e := eq_of_beq e
      cases h
      rw [e]; exact List.mem_cons_self
    · exact List.mem_cons_of_mem _ (ih h)
theorem tk_bad : ∀ p ∈ tkc, named p.1 = false ∧ lawVal p.1 = .non ∧ isSign p.1 = false ∧ p.1 ≠ "=" ∧ p.2 ∉ ([110, 118, 61, 115, 63] : List Nat) := by decide +kernel

theorem srt_cases (w : Str) : ((w, srt w) ∈ tkc ∧ named w = false ∧ atomF w = .non ∧ isSign w = false) ∨ (tkc.lookup w = none ∧ ((srt w = 110 ∧ named w = true ∧ atomF w = .str w ∧ isSign w = false) ∨ (srt w = 118 ∧ named w = false ∧ atomF w = lawVal w ∧ lawVal w ≠ .non ∧ isSign w = false) ∨ (srt w = 61 ∧ w = "=" ∧ named w = false ∧ atomF w = .non ∧ isSign w = true) ∨
    (srt w = 115 ∧ named w = false ∧ atomF w = .non ∧ isSign w = true ∧ w ≠ "=") ∨ (srt w = 63 ∧ named w = false ∧ atomF w = .non ∧ isSign w = false ∧ w ≠ "="))) := by
  have sgnN : ∀ w, isSign w = true → named w = false ∧ lawVal w = .non := by
    intro w h
    unfold isSign at h
    rw [inV_str, decide_eq_true_eq] at h
    have : ∀ x ∈ signs, named x = false ∧ lawVal x = .non := by decide +kernel
    exact this w h
  unfold srt
  cases e : tkc.lookup w with
  | some c =>
    have hm := lookup_mem e
    obtain ⟨h1, h2, h3, _, _⟩ := tk_bad _ hm
    refine .inl ⟨hm, h1, ?_, h3⟩
    unfold atomF
    rw [if_neg (by rw [h1]; exact Bool.false_ne_true)]
    exact h2
  | none =>
    refine .inr ⟨rfl, ?_⟩
    by_cases c1 : named w = true
    · refine .inl ⟨if_pos c1, c1, if_pos c1, ?_⟩
      cases hs : isSign w with
      | false => rfl
      | true => rw [(sgnN w hs).1] at c1; cases c1
    · have c1' : named w = false := (Bool.not_eq_true _).mp c1
      have ea : atomF w = lawVal w := if_neg c1
      refine .inr ?_
      by_cases c2 : lawVal w ≠ .non
      · refine .inl ⟨by rw [if_neg c1, if_pos c2], c1', ea, c2, ?_⟩
        cases hs : isSign w with
        | false => rfl
        | true => exact absurd (sgnN w hs).2 c2
      · have c2' : lawVal w = .non := Classical.not_not.mp c2
        refine .inr ?_
        by_cases c3 : w = "="
        · subst c3
          refine .inl ⟨by decide +kernel, rfl, c1', ea.trans c2', by decide +kernel⟩
        · refine .inr ?_
          cases hs : isSign w with
          | true => exact .inl ⟨by simp [c1', c2', c3], c1', ea.trans c2', rfl, c3⟩
          | false => exact .inr ⟨by simp [c1', c2', c3], c1', ea.trans c2', rfl, c3⟩
end K15

set_option Elab.async false
set_option linter.all false
set_option maxRecDepth 100000
set_option maxHeartbeats 4000000
namespace K15
open PySem PySem.NumText L2 K11 K14

theorem f_inv {w p : Str} {r : List (Str × Str)} {acc found : List (Key × V)} (h : partsF ((w, p) :: r) acc = some found) :
    (Txt.isupper p = true ∧ partV w p ≠ .non ∧ ∃ acc', partsF r acc' = some found) ∨ (Txt.isupper p = false ∧ w = p ∧ partsF r acc = some found) := by
  have h : (if Txt.isupper p = true then (if partV w p = .non then none else partsF r (putK acc (.inr p) (partV w p))) else if w = p then partsF r acc else none) = some found := h
  split at h
  · rename_i hu
    split at h
    · cases h
    · rename_i hn
      exact .inl ⟨hu, hn, _, h⟩
  · rename_i hu
    split at h
    · rename_i e
      exact .inr ⟨(Bool.not_eq_true _).mp hu, e, h⟩
    · cases h
theorem up_inv {w p : Str} {r : List (Str × Str)} {acc found : List (Key × V)} (hu : Txt.isupper p = true) (h : partsF ((w, p) :: r) acc = some found) : partV w p ≠ .non ∧ ∃ acc', partsF r acc' = some found := by
  rcases f_inv h with ⟨_, a, b⟩ | ⟨a, _⟩
  · exact ⟨a, b⟩
  · rw [hu] at a; cases a
theorem lit_inv {w p : Str} {r : List (Str × Str)} {acc found : List (Key × V)} (hu : Txt.isupper p = false) (h : partsF ((w, p) :: r) acc = some found) : w = p ∧ ∃ acc', partsF r acc' = some found := by
  rcases f_inv h with ⟨a, _⟩ | ⟨_, a, b⟩
  · rw [hu] at a; cases a
  · exact ⟨a, _, b⟩
theorem g_inv {ws fs : List Str} {found : List (Key × V)} (h : partsG ws fs = some found) : fs.length ≤ ws.length ∧ partsF (ws.zip fs) [] = some found := by
  unfold partsG at h
  split at h
  · cases h
  · exact ⟨by omega, h⟩
theorem nX {w : Str} (h : partV w "X" ≠ .non) : N w := by rw [pX] at h; split at h; assumption; exact absurd rfl h
theorem nF {w : Str} (h : partV w "F" ≠ .non) : N w := by rw [pF] at h; split at h; assumption; exact absurd rfl h
theorem nG {w : Str} (h : partV w "G" ≠ .non) : N w := by rw [pG] at h; split at h; assumption; exact absurd rfl h
theorem nA {w : Str} (h : partV w "A" ≠ .non) : A w := by rw [pA] at h; exact h
theorem nB {w : Str} (h : partV w "B" ≠ .non) : A w := by rw [pB] at h; exact h
theorem nS {w : Str} (h : partV w "S" ≠ .non) : isSign w = true := by rw [pS] at h; split at h; assumption; exact absurd rfl h

inductive Mt : List Str → Out → Prop
  | copy {x a : Str} : N x → A a → Mt [x, "=", a] ("copy", [.str x, atomF a], none)
  | op {x a s b : Str} : N x → A a → isSign s = true → A b → Mt [x, "=", a, s, b] ("op", [.str x, .str s, atomF a, atomF b], none)
  | new {x : Str} : N x → Mt [x, "=", "new"] ("new", [.str x], none)
  | get {x a f : Str} : N x → A a → N f → Mt [x, "=", "get", a, f] ("get", [.str x, atomF a, .str f], none)
  | put {a f b : Str} : A a → N f → A b → Mt ["put", a, f, b] ("put", [atomF a, .str f, atomF b], none)
  | call {x g : Str} {t : List Str} : N x → N g → t.length ≤ 6 → (∀ w ∈ t, A w) → Mt (x :: "=" :: "call" :: g :: t) ("call", [.str x, .str g], some (t.map atomF))
  | one {k a : Str} : k ∈ (["out", "back", "if", "while"] : List Str) → A a → Mt [k, a] (k, [atomF a], none)
  | bare {k : Str} : k ∈ (["else", "end"] : List Str) → Mt [k] (k, [], none)
theorem skip {ws : List Str} {k : Str} {ps fs : List Str} {r : List (Str × List Str × List Str)} (hk : k ≠ "call") (h : ∀ found, partsG ws fs = some found → ws.length ≠ fs.length) : rowGo ws ((k, ps, fs) :: r) = rowGo ws r := by
  cases e : partsG ws fs with
  | none => exact go_no e
  | some found => exact (go_hit e).trans (hit_on hk (h found e))
theorem len1 {ws : List Str} (h : ws.length = 1) : ∃ a, ws = [a] := by
  match ws, h with
  | [a], _ => exact ⟨a, rfl⟩
theorem len2 {ws : List Str} (h : ws.length = 2) : ∃ a b, ws = [a, b] := by
  match ws, h with
  | [a, b], _ => exact ⟨a, b, rfl⟩
theorem len3 {ws : List Str} (h : ws.length = 3) : ∃ a b c, ws = [a, b, c] := by
  match ws, h with
  | [a, b, c], _ => exact ⟨a, b, c, rfl⟩
theorem len4 {ws : List Str} (h : ws.length = 4) : ∃ a b c d, ws = [a, b, c, d] := by
  match ws, h with
  | [a, b, c, d], _ => exact ⟨a, b, c, d, rfl⟩
theorem len5 {ws : List Str} (h : ws.length = 5) : ∃ a b c d e, ws = [a, b, c, d, e] := by
  match ws, h with
  | [a, b, c, d, e], _ => exact ⟨a, b, c, d, e, rfl⟩
theorem p_copy {x a : Str} (hX : N x) (hA : A a) : partsG [x, "=", a] ["X", "=", "A"] = some (putK (putK [] (.inr "X") (.str x)) (.inr "A") (atomF a)) := by
  refine (g_long (by simp)).trans ?_
  show partsF [(x, "X"), ("=", "="), (a, "A")] [] = _
  rw [f_up uX (sx hX) str_ne, f_lit u1, f_up uA (pA a) hA]
  rfl
theorem i_copy {w0 w1 w2 : Str} {found : List (Key × V)} (h : partsG [w0, w1, w2] ["X", "=", "A"] = some found) : N w0 ∧ w1 = "=" ∧ A w2 := by
  obtain ⟨_, h⟩ := g_inv h
  have h : partsF [(w0, "X"), (w1, "="), (w2, "A")] [] = some found := h
  obtain ⟨e0, _, h⟩ := up_inv uX h
  obtain ⟨e1, _, h⟩ := lit_inv u1 h
  obtain ⟨e2, _, h⟩ := up_inv uA h
  exact ⟨nX e0, e1, nA e2⟩
theorem p_op {x a s b : Str} (hX : N x) (hA : A a) (hS : isSign s = true) (hB : A b) : partsG [x, "=", a, s, b] ["X", "=", "A", "S", "B"] = some (putK (putK (putK (putK [] (.inr "X") (.str x)) (.inr "A") (atomF a)) (.inr "S") (.str s)) (.inr "B") (atomF b)) := by
  refine (g_long (by simp)).trans ?_
  show partsF [(x, "X"), ("=", "="), (a, "A"), (s, "S"), (b, "B")] [] = _
  rw [f_up uX (sx hX) str_ne, f_lit u1, f_up uA (pA a) hA, f_up uS (by rw [pS, if_pos hS]) str_ne, f_up uB (pB b) hB]
  rfl
theorem i_op {w0 w1 w2 w3 w4 : Str} {found : List (Key × V)} (h : partsG [w0, w1, w2, w3, w4] ["X", "=", "A", "S", "B"] = some found) : N w0 ∧ w1 = "=" ∧ A w2 ∧ isSign w3 = true ∧ A w4 := by
  obtain ⟨_, h⟩ := g_inv h
  have h : partsF [(w0, "X"), (w1, "="), (w2, "A"), (w3, "S"), (w4, "B")] [] = some found := h
  obtain ⟨e0, _, h⟩ := up_inv uX h
  obtain ⟨e1, _, h⟩ := lit_inv u1 h
  obtain ⟨e2, _, h⟩ := up_inv uA h
  obtain ⟨e3, _, h⟩ := up_inv uS h
  obtain ⟨e4, _, h⟩ := up_inv uB h
  exact ⟨nX e0, e1, nA e2, nS e3, nB e4⟩
theorem p_new {x : Str} (hX : N x) : partsG [x, "=", "new"] ["X", "=", "new"] = some (putK [] (.inr "X") (.str x)) := by
  refine (g_long (by simp)).trans ?_
  show partsF [(x, "X"), ("=", "="), ("new", "new")] [] = _
  rw [f_up uX (sx hX) str_ne, f_lit u1, f_lit u2]
  rfl
theorem i_new {w0 w1 w2 : Str} {found : List (Key × V)} (h : partsG [w0, w1, w2] ["X", "=", "new"] = some found) : N w0 ∧ w1 = "=" ∧ w2 = "new" := by
  obtain ⟨_, h⟩ := g_inv h
  have h : partsF [(w0, "X"), (w1, "="), (w2, "new")] [] = some found := h
  obtain ⟨e0, _, h⟩ := up_inv uX h
  obtain ⟨e1, _, h⟩ := lit_inv u1 h
  obtain ⟨e2, _, h⟩ := lit_inv u2 h
  exact ⟨nX e0, e1, e2⟩
theorem p_get {x a f : Str} (hX : N x) (hA : A a) (hF : N f) : partsG [x, "=", "get", a, f] ["X", "=", "get", "A", "F"] = some (putK (putK (putK [] (.inr "X") (.str x)) (.inr "A") (atomF a)) (.inr "F") (.str f)) := by
  refine (g_long (by simp)).trans ?_
  show partsF [(x, "X"), ("=", "="), ("get", "get"), (a, "A"), (f, "F")] [] = _
  rw [f_up uX (sx hX) str_ne, f_lit u1, f_lit u3, f_up uA (pA a) hA, f_up uF (sf hF) str_ne]
  rfl
theorem i_get {w0 w1 w2 w3 w4 : Str} {found : List (Key × V)} (h : partsG [w0, w1, w2, w3, w4] ["X", "=", "get", "A", "F"] = some found) : N w0 ∧ w1 = "=" ∧ w2 = "get" ∧ A w3 ∧ N w4 := by
  obtain ⟨_, h⟩ := g_inv h
  have h : partsF [(w0, "X"), (w1, "="), (w2, "get"), (w3, "A"), (w4, "F")] [] = some found := h
  obtain ⟨e0, _, h⟩ := up_inv uX h
  obtain ⟨e1, _, h⟩ := lit_inv u1 h
  obtain ⟨e2, _, h⟩ := lit_inv u3 h
  obtain ⟨e3, _, h⟩ := up_inv uA h
  obtain ⟨e4, _, h⟩ := up_inv uF h
  exact ⟨nX e0, e1, e2, nA e3, nF e4⟩
theorem p_put {a f b : Str} (hA : A a) (hF : N f) (hB : A b) : partsG ["put", a, f, b] ["put", "A", "F", "B"] = some (putK (putK (putK [] (.inr "A") (atomF a)) (.inr "F") (.str f)) (.inr "B") (atomF b)) := by
  refine (g_long (by simp)).trans ?_
  show partsF [("put", "put"), (a, "A"), (f, "F"), (b, "B")] [] = _
  rw [f_lit u4, f_up uA (pA a) hA, f_up uF (sf hF) str_ne, f_up uB (pB b) hB]
  rfl
theorem i_put {w0 w1 w2 w3 : Str} {found : List (Key × V)} (h : partsG [w0, w1, w2, w3] ["put", "A", "F", "B"] = some found) : w0 = "put" ∧ A w1 ∧ N w2 ∧ A w3 := by
  obtain ⟨_, h⟩ := g_inv h
  have h : partsF [(w0, "put"), (w1, "A"), (w2, "F"), (w3, "B")] [] = some found := h
  obtain ⟨e0, _, h⟩ := lit_inv u4 h
  obtain ⟨e1, _, h⟩ := up_inv uA h
  obtain ⟨e2, _, h⟩ := up_inv uF h
  obtain ⟨e3, _, h⟩ := up_inv uB h
  exact ⟨e0, nA e1, nF e2, nB e3⟩
theorem p_call {x g : Str} {t : List Str} (hX : N x) (hG : N g) : partsG (x :: "=" :: "call" :: g :: t) ["X", "=", "call", "G"] = some (putK (putK [] (.inr "X") (.str x)) (.inr "G") (.str g)) := by
  refine (g_long (by simp)).trans ?_
  rw [List.zip_cons_cons, List.zip_cons_cons, List.zip_cons_cons, List.zip_cons_cons, List.zip_nil_right]
  show partsF [(x, "X"), ("=", "="), ("call", "call"), (g, "G")] [] = _
  rw [f_up uX (sx hX) str_ne, f_lit u1, f_lit u5, f_up uG (sg hG) str_ne]
  rfl
theorem i_call {ws : List Str} {found : List (Key × V)} (h : partsG ws ["X", "=", "call", "G"] = some found) : ∃ (x g : Str) (t : List Str), ws = x :: ("=" : Str) :: ("call" : Str) :: g :: t ∧ N x ∧ N g := by
  obtain ⟨hl, h⟩ := g_inv h
  match ws, hl, h with
  | w0 :: w1 :: w2 :: w3 :: t, _, h =>
    rw [List.zip_cons_cons, List.zip_cons_cons, List.zip_cons_cons, List.zip_cons_cons, List.zip_nil_right] at h
    obtain ⟨e0, _, h⟩ := up_inv uX h
    obtain ⟨e1, _, h⟩ := lit_inv u1 h
    obtain ⟨e2, _, h⟩ := lit_inv u5 h
    obtain ⟨e3, _, h⟩ := up_inv uG h
    subst e1 e2
    exact ⟨w0, w3, t, rfl, nX e0, nG e3⟩
theorem p_out {a : Str} (hA : A a) : partsG ["out", a] ["out", "A"] = some (putK [] (.inr "A") (atomF a)) := by
  refine (g_long (by simp)).trans ?_
  show partsF [("out", "out"), (a, "A")] [] = _
  rw [f_lit u6, f_up uA (pA a) hA]
  rfl
theorem i_out {w0 w1 : Str} {found : List (Key × V)} (h : partsG [w0, w1] ["out", "A"] = some found) : w0 = "out" ∧ A w1 := by
  obtain ⟨_, h⟩ := g_inv h
  have h : partsF [(w0, "out"), (w1, "A")] [] = some found := h
  obtain ⟨e0, _, h⟩ := lit_inv u6 h
  obtain ⟨e1, _, h⟩ := up_inv uA h
  exact ⟨e0, nA e1⟩
theorem p_back {a : Str} (hA : A a) : partsG ["back", a] ["back", "A"] = some (putK [] (.inr "A") (atomF a)) := by
  refine (g_long (by simp)).trans ?_
  show partsF [("back", "back"), (a, "A")] [] = _
  rw [f_lit u7, f_up uA (pA a) hA]
  rfl
theorem i_back {w0 w1 : Str} {found : List (Key × V)} (h : partsG [w0, w1] ["back", "A"] = some found) : w0 = "back" ∧ A w1 := by
  obtain ⟨_, h⟩ := g_inv h
  have h : partsF [(w0, "back"), (w1, "A")] [] = some found := h
  obtain ⟨e0, _, h⟩ := lit_inv u7 h
  obtain ⟨e1, _, h⟩ := up_inv uA h
  exact ⟨e0, nA e1⟩
theorem p_if {a : Str} (hA : A a) : partsG ["if", a] ["if", "A"] = some (putK [] (.inr "A") (atomF a)) := by
  refine (g_long (by simp)).trans ?_
  show partsF [("if", "if"), (a, "A")] [] = _
  rw [f_lit u8, f_up uA (pA a) hA]
  rfl
theorem i_if {w0 w1 : Str} {found : List (Key × V)} (h : partsG [w0, w1] ["if", "A"] = some found) : w0 = "if" ∧ A w1 := by
  obtain ⟨_, h⟩ := g_inv h
  have h : partsF [(w0, "if"), (w1, "A")] [] = some found := h
  obtain ⟨e0, _, h⟩ := lit_inv u8 h
  obtain ⟨e1, _, h⟩ := up_inv uA h
  exact ⟨e0, nA e1⟩
theorem p_while {a : Str} (hA : A a) : partsG ["while", a] ["while", "A"] = some (putK [] (.inr "A") (atomF a)) := by
  refine (g_long (by simp)).trans ?_
  show partsF [("while", "while"), (a, "A")] [] = _
  rw [f_lit u9, f_up uA (pA a) hA]
  rfl
theorem i_while {w0 w1 : Str} {found : List (Key × V)} (h : partsG [w0, w1] ["while", "A"] = some found) : w0 = "while" ∧ A w1 := by
  obtain ⟨_, h⟩ := g_inv h
  have h : partsF [(w0, "while"), (w1, "A")] [] = some found := h
  obtain ⟨e0, _, h⟩ := lit_inv u9 h
  obtain ⟨e1, _, h⟩ := up_inv uA h
  exact ⟨e0, nA e1⟩
theorem i_else {w0 : Str} {found : List (Key × V)} (h : partsG [w0] ["else"] = some found) : w0 = "else" := by
  obtain ⟨_, h⟩ := g_inv h
  have h : partsF [(w0, "else")] [] = some found := h
  obtain ⟨e0, _, h⟩ := lit_inv u10 h
  exact e0
theorem i_end {w0 : Str} {found : List (Key × V)} (h : partsG [w0] ["end"] = some found) : w0 = "end" := by
  obtain ⟨_, h⟩ := g_inv h
  have h : partsF [(w0, "end")] [] = some found := h
  obtain ⟨e0, _, h⟩ := lit_inv u11 h
  exact e0

theorem step {ws : List Str} {k : Str} {ps fs : List Str} {r : List (Str × List Str × List Str)} {d : Out} (hk : k ≠ "call") (h : rowGo ws ((k, ps, fs) :: r) = some d) : (∃ found, partsG ws fs = some found ∧ ws.length = fs.length) ∨ rowGo ws r = some d := by
  cases e : partsG ws fs with
  | none => rw [go_no e] at h; exact .inr h
  | some found =>
    by_cases hl : ws.length = fs.length
    · exact .inl ⟨found, rfl, hl⟩
    · rw [go_hit e, hit_on hk hl] at h; exact .inr h
theorem pass {ws : List Str} {k : Str} {ps fs : List Str} {r : List (Str × List Str × List Str)} (hk : k ≠ "call") (h : ∀ found, partsG ws fs = some found → ws.length = fs.length → False) : rowGo ws ((k, ps, fs) :: r) = rowGo ws r := skip hk fun found e hl => h found e hl
theorem pass' {ws : List Str} {k : Str} {ps fs : List Str} {r : List (Str × List Str × List Str)} (h : ∀ found, partsG ws fs = some found → False) : rowGo ws ((k, ps, fs) :: r) = rowGo ws r := by
  cases e : partsG ws fs with
  | none => exact go_no e
  | some found => exact (h found e).elim
theorem notA_new : ¬ A "new" := fun h => h a1
theorem notA_get : ¬ A "get" := fun h => h a2
theorem notA_call : ¬ A "call" := fun h => h a4
theorem notN_put : ¬ N "put" := by unfold N; rw [n3]; exact Bool.false_ne_true
theorem in_non {t : List Str} (h : ∀ w ∈ t, A w) : inV .non (t.map atomF) = false := by
  induction t with
  | nil => rfl
  | cons w t ih =>
    show (eqV (atomF w) .non || inV .non (t.map atomF)) = false
    rw [ih fun x hx => h x (List.mem_cons_of_mem _ hx), Bool.or_false]
    have := h w List.mem_cons_self
    unfold A atomF at this
    unfold atomF
    split
    · rfl
    · rename_i hn
      rw [if_neg hn] at this
      rcases lawVal_cases w with e | ⟨z, e⟩
      · exact absurd e this
      · rw [e]; rfl
theorem non_in {t : List Str} (h : inV .non (t.map atomF) = false) : ∀ w ∈ t, A w := by
  induction t with
  | nil => intro w hw; cases hw
  | cons x t ih =>
    have h : (eqV (atomF x) .non || inV .non (t.map atomF)) = false := h
    rw [Bool.or_eq_false_iff] at h
    intro w hw
    rcases List.mem_cons.mp hw with rfl | hw
    · intro z
      rw [z] at h
      exact absurd h.1 (by decide)
    · exact ih h.2 w hw
theorem mt_to {ws : List Str} {d : Out} (h : Mt ws d) : rowGo ws forms = some d := by
  unfold forms
  cases h with
  | @copy x a hX hA =>
    refine (go_hit (p_copy hX hA)).trans ?_
    refine (hit_here ?_ ?_).trans ?_
    · decide +kernel
    · rfl
    · kernel_rfl
  | @op x a s b hX hA hS hB =>
    refine (pass (by decide +kernel) fun found e hl => by simp at hl).trans ?_
    refine (go_hit (p_op hX hA hS hB)).trans ?_
    refine (hit_here ?_ ?_).trans ?_
    · decide +kernel
    · rfl
    · kernel_rfl
  | @new x hX =>
    refine (pass' fun found e => notA_new (i_copy e).2.2).trans ?_
    refine (pass (by decide +kernel) fun found e hl => by simp at hl).trans ?_
    refine (go_hit (p_new hX)).trans ?_
    refine (hit_here ?_ ?_).trans ?_
    · decide +kernel
    · rfl
    · kernel_rfl
  | @get x a f hX hA hF =>
    refine (pass (by decide +kernel) fun found e hl => by simp at hl).trans ?_
    refine (pass' fun found e => notA_get (i_op e).2.2.1).trans ?_
    refine (pass (by decide +kernel) fun found e hl => by simp at hl).trans ?_
    refine (go_hit (p_get hX hA hF)).trans ?_
    refine (hit_here ?_ ?_).trans ?_
    · decide +kernel
    · rfl
    · kernel_rfl
  | @put a f b hA hF hB =>
    refine (pass (by decide +kernel) fun found e hl => by simp at hl).trans ?_
    refine (pass (by decide +kernel) fun found e hl => by simp at hl).trans ?_
    refine (pass (by decide +kernel) fun found e hl => by simp at hl).trans ?_
    refine (pass (by decide +kernel) fun found e hl => by simp at hl).trans ?_
    refine (go_hit (p_put hA hF hB)).trans ?_
    refine (hit_here ?_ ?_).trans ?_
    · decide +kernel
    · rfl
    · kernel_rfl
  | @call x g t hX hG hl hall =>
    refine (pass (by decide +kernel) fun found e hl => by simp at hl).trans ?_
    refine (pass (by decide +kernel) fun found e hl => ?_).trans ?_
    · obtain ⟨q, rfl⟩ := len1 (show t.length = 1 by simp at hl; omega)
      exact notA_call (i_op e).2.2.1
    refine (pass (by decide +kernel) fun found e hl => by simp at hl).trans ?_
    refine (pass (by decide +kernel) fun found e hl => ?_).trans ?_
    · obtain ⟨q, rfl⟩ := len1 (show t.length = 1 by simp at hl; omega)
      exact absurd (i_get e).2.2.1 (by decide +kernel)
    refine (pass (by decide +kernel) fun found e hl => ?_).trans ?_
    · obtain rfl : t = [] := by simpa using hl
      have := (i_put e).1
      rw [this] at hX
      exact notN_put hX
    refine (go_hit (p_call hX hG)).trans ?_
    unfold hitF
    rw [if_pos rfl]
    have hd : (x :: ("=" : Str) :: ("call" : Str) :: g :: t).drop (["X", "=", "call", "G"] : List Str).length = t := rfl
    rw [hd, if_neg]
    · kernel_rfl
    · rw [in_non hall, Bool.or_false, decide_eq_true_eq]
      omega
  | @one k a hk hA =>
    simp only [List.mem_cons, List.not_mem_nil, or_false] at hk
    rcases hk with rfl | rfl | rfl | rfl
    · refine (pass (by decide +kernel) fun found e hl => by simp at hl).trans ?_
      refine (pass (by decide +kernel) fun found e hl => by simp at hl).trans ?_
      refine (pass (by decide +kernel) fun found e hl => by simp at hl).trans ?_
      refine (pass (by decide +kernel) fun found e hl => by simp at hl).trans ?_
      refine (pass (by decide +kernel) fun found e hl => by simp at hl).trans ?_
      refine (pass' fun found e => by obtain ⟨_, _, _, z, _⟩ := i_call e; simp at z).trans ?_
      refine (go_hit (p_out hA)).trans ?_
      refine (hit_here ?_ ?_).trans ?_
      · decide +kernel
      · rfl
      · kernel_rfl
    · refine (pass (by decide +kernel) fun found e hl => by simp at hl).trans ?_
      refine (pass (by decide +kernel) fun found e hl => by simp at hl).trans ?_
      refine (pass (by decide +kernel) fun found e hl => by simp at hl).trans ?_
      refine (pass (by decide +kernel) fun found e hl => by simp at hl).trans ?_
      refine (pass (by decide +kernel) fun found e hl => by simp at hl).trans ?_
      refine (pass' fun found e => by obtain ⟨_, _, _, z, _⟩ := i_call e; simp at z).trans ?_
      refine (pass' fun found e => absurd (i_out e).1 (by decide +kernel)).trans ?_
      refine (go_hit (p_back hA)).trans ?_
      refine (hit_here ?_ ?_).trans ?_
      · decide +kernel
      · rfl
      · kernel_rfl
    · refine (pass (by decide +kernel) fun found e hl => by simp at hl).trans ?_
      refine (pass (by decide +kernel) fun found e hl => by simp at hl).trans ?_
      refine (pass (by decide +kernel) fun found e hl => by simp at hl).trans ?_
      refine (pass (by decide +kernel) fun found e hl => by simp at hl).trans ?_
      refine (pass (by decide +kernel) fun found e hl => by simp at hl).trans ?_
      refine (pass' fun found e => by obtain ⟨_, _, _, z, _⟩ := i_call e; simp at z).trans ?_
      refine (pass' fun found e => absurd (i_out e).1 (by decide +kernel)).trans ?_
      refine (pass' fun found e => absurd (i_back e).1 (by decide +kernel)).trans ?_
      refine (go_hit (p_if hA)).trans ?_
      refine (hit_here ?_ ?_).trans ?_
      · decide +kernel
      · rfl
      · kernel_rfl
    · refine (pass (by decide +kernel) fun found e hl => by simp at hl).trans ?_
      refine (pass (by decide +kernel) fun found e hl => by simp at hl).trans ?_
      refine (pass (by decide +kernel) fun found e hl => by simp at hl).trans ?_
      refine (pass (by decide +kernel) fun found e hl => by simp at hl).trans ?_
      refine (pass (by decide +kernel) fun found e hl => by simp at hl).trans ?_
      refine (pass' fun found e => by obtain ⟨_, _, _, z, _⟩ := i_call e; simp at z).trans ?_
      refine (pass' fun found e => absurd (i_out e).1 (by decide +kernel)).trans ?_
      refine (pass' fun found e => absurd (i_back e).1 (by decide +kernel)).trans ?_
      refine (pass' fun found e => absurd (i_if e).1 (by decide +kernel)).trans ?_
      refine (go_hit (p_while hA)).trans ?_
      refine (hit_here ?_ ?_).trans ?_
      · decide +kernel
      · rfl
      · kernel_rfl
  | @bare k hk =>
    simp only [List.mem_cons, List.not_mem_nil, or_false] at hk
    rcases hk with rfl | rfl <;> kernel_rfl

theorem mt_of {ws : List Str} {d : Out} (h : rowGo ws forms = some d) : Mt ws d := by
  have fin : ∀ {d'}, Mt ws d' → Mt ws d := fun {d'} m => by
    have := mt_to m
    rw [h] at this
    cases this
    exact m
  have h0 := h
  unfold forms at h
  rcases step (by decide +kernel) h with ⟨found, e, hl⟩ | h
  · obtain ⟨x, q, a, rfl⟩ := len3 hl
    obtain ⟨e0, rfl, e2⟩ := i_copy e
    exact fin (.copy e0 e2)
  rcases step (by decide +kernel) h with ⟨found, e, hl⟩ | h
  · obtain ⟨x, q, a, s, b, rfl⟩ := len5 hl
    obtain ⟨e0, rfl, e2, e3, e4⟩ := i_op e
    exact fin (.op e0 e2 e3 e4)
  rcases step (by decide +kernel) h with ⟨found, e, hl⟩ | h
  · obtain ⟨x, q, a, rfl⟩ := len3 hl
    obtain ⟨e0, rfl, rfl⟩ := i_new e
    exact fin (.new e0)
  rcases step (by decide +kernel) h with ⟨found, e, hl⟩ | h
  · obtain ⟨x, q, k, a, f, rfl⟩ := len5 hl
    obtain ⟨e0, rfl, rfl, e3, e4⟩ := i_get e
    exact fin (.get e0 e3 e4)
  rcases step (by decide +kernel) h with ⟨found, e, hl⟩ | h
  · obtain ⟨k, a, f, b, rfl⟩ := len4 hl
    obtain ⟨rfl, e1, e2, e3⟩ := i_put e
    exact fin (.put e1 e2 e3)
  cases e : partsG ws ["X", "=", "call", "G"] with
  | some found =>
    obtain ⟨x, g, t, rfl, hX, hG⟩ := i_call e
    rw [go_hit e] at h
    unfold hitF at h
    rw [if_pos rfl] at h
    have hd : (x :: ("=" : Str) :: ("call" : Str) :: g :: t).drop (["X", "=", "call", "G"] : List Str).length = t := rfl
    rw [hd] at h
    split at h
    · cases h
    · rename_i hn
      simp only [Bool.or_eq_true, decide_eq_true_eq, not_or] at hn
      exact fin (.call hX hG (by omega) (non_in ((Bool.not_eq_true _).mp hn.2)))
  | none =>
    rw [go_no e] at h
    rcases step (by decide +kernel) h with ⟨found, e, hl⟩ | h
    · obtain ⟨k, a, rfl⟩ := len2 hl
      obtain ⟨rfl, e1⟩ := i_out e
      exact fin (.one (by decide) e1)
    rcases step (by decide +kernel) h with ⟨found, e, hl⟩ | h
    · obtain ⟨k, a, rfl⟩ := len2 hl
      obtain ⟨rfl, e1⟩ := i_back e
      exact fin (.one (by decide) e1)
    rcases step (by decide +kernel) h with ⟨found, e, hl⟩ | h
    · obtain ⟨k, a, rfl⟩ := len2 hl
      obtain ⟨rfl, e1⟩ := i_if e
      exact fin (.one (by decide) e1)
    rcases step (by decide +kernel) h with ⟨found, e, hl⟩ | h
    · obtain ⟨k, a, rfl⟩ := len2 hl
      obtain ⟨rfl, e1⟩ := i_while e
      exact fin (.one (by decide) e1)
    rcases step (by decide +kernel) h with ⟨found, e, hl⟩ | h
    · obtain ⟨k, rfl⟩ := len1 hl
      have e1 := i_else e
      subst e1
      exact fin (.bare (by decide))
    rcases step (by decide +kernel) h with ⟨found, e, hl⟩ | h
    · obtain ⟨k, rfl⟩ := len1 hl
      have e1 := i_end e
      subst e1
      exact fin (.bare (by decide))
    cases h
theorem mt_none {ws : List Str} (h : ∀ d, ¬ Mt ws d) : rowGo ws forms = none := by
  cases e : rowGo ws forms with
  | none => rfl
  | some d => exact absurd (mt_of e) (h d)
end K15

set_option Elab.async false
set_option linter.all false
set_option maxRecDepth 100000
set_option maxHeartbeats 4000000
namespace L2
open PySem PySem.Spec PyProof.Rows

def rLIx (K : PySem.W.Frag) : V → List V → Hp → VK → Prop := fun x xs H Q => ∃ p ys y j, x = .ref p ∧ xs = [y] ∧ SqL K H p ys ∧ flatV y = true ∧ ys.all flatV = true ∧ j < 1000 ∧ (∃ z, ys[j]? = some z ∧ eqV z y = true) ∧ (∀ m z, m < j → ys[m]? = some z → eqV z y = false) ∧ Q (.int (j : Nat)) H
theorem mt_index {X : Cx} : MtR X "list.index" (rLIx X.K) := by
  intro pins s σ H x vs v us Q I rx rv h
  obtain ⟨p, ys, y, j, rfl, rfl, hT, fy, fs, hj0, ⟨z, hz, ez⟩, hno, q⟩ := h
  cases rx
  obtain ⟨u, rfl, ru⟩ := rv.one
  obtain ⟨its, r, ⟨⟨cls, dd, data, sl⟩, n, ho, hc, _, hd⟩, hl⟩ := I.list hT
  simp only at hc hd
  subst hc hd
  obtain ⟨uz, huz, rz⟩ := r.get hz
  have hj : j < its.toArray.size := by
    rw [List.size_toArray]
    exact (List.getElem?_eq_some_iff.mp huz).1
  have eU : ∀ (m : Nat) (hm : m < its.toArray.size) (zz : V), ys[m]? = some zz → eqU y its.toArray[m] = eqV zz y := fun m hm zz hzz => by
    obtain ⟨uu, huu, ruu⟩ := r.get hzz
    have : its.toArray[m] = uu := by
      have h2 := (List.getElem?_eq_some_iff.mp huu).2
      simpa using h2
    rw [this]
    exact eqU_of ruu (List.all_eq_true.mp fs zz (List.mem_of_getElem? hzz))
  refine call_meets F.slot_list_index ⟨_, ho, rfl⟩ F.entry_list_index (F.args_list_index_2 _ _) (SeqAt.list_indexAt p its.toArray n dd sl u (eqU y) j hj (by omega) (by rw [eU j hj z hz]; exact ez) fun m hm hmj => ?_) ⟨ho, fun w hw => mem_eqAt ru fy r fs w (by simpa using hw), ?_⟩
  · have hm' : m < ys.length := by rw [r.length]; simpa using hm
    rw [eU m hm ys[m] (List.getElem?_eq_getElem hm')]
    exact hno m _ hmj (List.getElem?_eq_getElem hm')
  · exact ⟨.int j, H, I.tok _, ⟨_, rfl⟩, q⟩
end L2

set_option Elab.async false
set_option linter.all false
set_option maxRecDepth 100000
set_option maxHeartbeats 4000000
namespace K15
open PySem PySem.NumText L2 K11 K14 Gx

theorem sub_idx (i j n : Nat) : Builtin.Str.strSliceIndices (some (i : Int)) (some (j : Int)) 1 n = Builtin.Str.strSliceIndices (some ((min i n : Nat) : Int)) (some ((min j n : Nat) : Int)) 1 n := by
  unfold Builtin.Str.strSliceIndices
  simp only [show (1 : Int) > 0 by decide, if_true]
  have h : ∀ k : Nat, (if (k : Int) < 0 then (k : Int) + (n : Int) else (k : Int)) = (k : Int) := fun k => if_neg (by omega)
  rw [h, h, h, h]
  congr 1 <;> omega
theorem sl_mid (l : List Nat) {i j : Nat} (h : i ≤ j) : Txt.slice (tx l) (some (i : Int)) (some (j : Int)) = tx ((l.take j).drop i) := by
  have e : Txt.slice (tx l) (some (i : Int)) (some (j : Int)) = Txt.slice (tx l) (some ((min i l.length : Nat) : Int)) (some ((min j l.length : Nat) : Int)) := by
    unfold Txt.slice
    rw [tx_len, sub_idx i j l.length]
  rw [e, tx_slice (by omega) (by omega) (by omega)]
  congr 1
  rw [Int.toNat_natCast]
  by_cases hi : i ≤ l.length
  · rw [Nat.min_eq_left hi]
    by_cases hj : j ≤ l.length
    · rw [Nat.min_eq_left hj, List.drop_take]
      congr 1
      omega
    · rw [Nat.min_eq_right (by omega), List.take_of_length_le (l := l) (by omega), List.take_of_length_le]
      rw [List.length_drop]; omega
  · rw [List.drop_eq_nil_of_le (show l.length ≤ min i l.length by omega), List.drop_eq_nil_of_le (by rw [List.length_take]; omega)]
    simp
theorem sl_to (l : List Nat) (j : Nat) : Txt.slice (tx l) none (some (j : Int)) = tx (l.take j) := by
  have e : Txt.slice (tx l) none (some (j : Int)) = Txt.slice (tx l) (some ((0 : Nat) : Int)) (some (j : Int)) := by
    unfold Txt.slice
    rw [StrLaws.sliceIdx_none_lo]
    rfl
  rw [e, sl_mid l (Nat.zero_le _), List.drop_zero]
theorem sl_from (l : List Nat) (i : Nat) : Txt.slice (tx l) (some (i : Int)) none = tx (l.drop i) := by
  have e : Txt.slice (tx l) (some (i : Int)) none = Txt.slice (tx l) (some (i : Int)) (some ((max i l.length : Nat) : Int)) := by
    unfold Txt.slice
    rw [StrLaws.sliceIdx_none_hi, tx_len, sub_idx i l.length l.length, sub_idx i (max i l.length) l.length]
    have : min (max i l.length) l.length = min l.length l.length := by omega
    rw [this]
  rw [e, sl_mid l (by omega), List.take_of_length_le (by omega)]
theorem slice_mem {x : Str} {l u : Option Int} {c : Nat} (h : c ∈ (Txt.slice x l u).cps.toList) : c ∈ x.cps.toList := by
  unfold Txt.slice at h
  split at h
  · exact h
  · simp only [List.mem_filterMap] at h
    obtain ⟨i, _, e⟩ := h
    have := Array.mem_of_getElem? e
    exact Array.mem_toList_iff.mpr this
theorem map_keep {c d : Nat} {x : List Nat} (h : c ∉ x) : (x.map fun a => if a = c then d else a) = x := by
  induction x with
  | nil => rfl
  | cons a x ih =>
    rw [List.map_cons, if_neg (fun (z : a = c) => h (by rw [z]; exact List.mem_cons_self)), ih fun z => h (List.mem_cons_of_mem _ z)]
theorem jl_map {c d : Nat} : ∀ l : List (List Nat), (∀ x ∈ l, c ∉ x) → jl d l = (jl c l).map fun a => if a = c then d else a
  | [], _ => rfl
  | [x], h => (map_keep (h x List.mem_cons_self)).symm
  | x :: y :: r, h => by
    show x ++ d :: jl d (y :: r) = (x ++ c :: jl c (y :: r)).map _
    rw [List.map_append, List.map_cons, if_pos rfl, jl_map (y :: r) fun z hz => h z (List.mem_cons_of_mem _ hz), map_keep (h x List.mem_cons_self)]
theorem repl_map (l : List Nat) (c d : Nat) : Txt.replace (tx l) ⟨#[c]⟩ ⟨#[d]⟩ = tx (l.map fun a => if a = c then d else a) := by
  rw [StrLaws.replace_one]
  refine str_ext ?_
  rw [join_cps, tx_cps, jl_map (c := c) _ fun x hx => ?_]
  · have e := StrLaws.join_split (tx l) ⟨#[c]⟩
    have e2 := congrArg (fun z : Str => z.cps.toList) e
    simp only [join_cps] at e2
    rw [e2, tx_cps]
  · obtain ⟨p, hp, rfl⟩ := List.mem_map.mp hx
    exact StrLaws.split_free _ _ p hp
theorem repl_no (l : List Nat) (c : Nat) : Txt.replace (tx l) ⟨#[c]⟩ ⟨#[]⟩ = tx (l.filter (· != c)) := by
  refine str_ext ?_
  rw [PyProof.Rows.replace_strikes, tx_cps, tx_cps]

theorem tk_of {w : Str} {c : Nat} (h : srt w = c) (hc : c ∉ ([110, 118, 61, 115, 63] : List Nat)) : (w, c) ∈ tkc := by
  subst h
  rcases srt_cases w with ⟨m, _⟩ | ⟨_, ⟨e, _⟩ | ⟨e, _⟩ | ⟨e, _⟩ | ⟨e, _⟩ | ⟨e, _⟩⟩
  · exact m
  all_goals (rw [e] at hc; exact absurd (by simp) hc)
theorem n_iff (w : Str) : srt w = 110 ↔ N w := by
  rcases srt_cases w with ⟨m, h, _⟩ | ⟨_, ⟨e, h, _⟩ | ⟨e, h, _⟩ | ⟨e, _, h, _⟩ | ⟨e, h, _⟩ | ⟨e, h, _⟩⟩
  · have := (tk_bad _ m).2.2.2.2
    constructor
    · intro z; simp only [z] at this; exact absurd (by simp) this
    · intro z; exact absurd (h.symm.trans z) Bool.false_ne_true
  · exact ⟨fun _ => h, fun _ => e⟩
  all_goals exact ⟨fun z => absurd (e.symm.trans z) (by decide), fun z => absurd (h.symm.trans z) Bool.false_ne_true⟩
theorem a_iff (w : Str) : loC (srt w) = 110 ↔ A w := by
  unfold loC
  rcases srt_cases w with ⟨m, _, h, _⟩ | ⟨_, ⟨e, _, h, _⟩ | ⟨e, _, h, h2, _⟩ | ⟨e, _, _, h, _⟩ | ⟨e, _, h, _⟩ | ⟨e, _, h, _⟩⟩
  · have := (tk_bad _ m).2.2.2.2
    simp only [List.mem_cons, List.not_mem_nil, or_false, not_or] at this
    rw [if_neg this.2.1]
    exact ⟨fun z => absurd z this.1, fun z => absurd h z⟩
  · rw [e]
    exact ⟨fun _ => by rw [A, h]; exact str_ne, fun _ => rfl⟩
  · rw [e]
    exact ⟨fun _ => by rw [A, h]; exact h2, fun _ => rfl⟩
  all_goals (rw [e]; exact ⟨fun z => absurd z (by decide), fun z => absurd h z⟩)
theorem eq_iff (w : Str) : srt w = 61 ↔ w = "=" := by
  constructor
  · intro z
    rcases srt_cases w with ⟨m, _⟩ | ⟨_, ⟨e, _⟩ | ⟨e, _⟩ | ⟨_, e, _⟩ | ⟨e, _⟩ | ⟨e, _⟩⟩
    · have := (tk_bad _ m).2.2.2.2
      simp only [z] at this
      exact absurd (by simp) this
    · rw [e] at z; cases z
    · rw [e] at z; cases z
    · exact e
    · rw [e] at z; cases z
    · rw [e] at z; cases z
  · rintro rfl
    decide +kernel
theorem sg_iff (w : Str) : (srt w = 61 ∨ srt w = 115) ↔ isSign w = true := by
  rcases srt_cases w with ⟨m, _, _, h⟩ | ⟨_, ⟨e, _, _, h⟩ | ⟨e, _, _, _, h⟩ | ⟨e, _, _, _, h⟩ | ⟨e, _, _, h, _⟩ | ⟨e, _, _, h, _⟩⟩
  · have := (tk_bad _ m).2.2.2.2
    simp only [List.mem_cons, List.not_mem_nil, or_false, not_or] at this
    exact ⟨fun z => z.elim (fun y => absurd y this.2.2.1) fun y => absurd y this.2.2.2.1, fun z => by rw [h] at z; cases z⟩
  · rw [e]; exact ⟨fun z => by omega, fun z => by rw [h] at z; cases z⟩
  · rw [e]; exact ⟨fun z => by omega, fun z => by rw [h] at z; cases z⟩
  · rw [e]; exact ⟨fun _ => h, fun _ => .inl rfl⟩
  · rw [e]; exact ⟨fun _ => h, fun _ => .inr rfl⟩
  · rw [e]; exact ⟨fun z => by omega, fun z => by rw [h] at z; cases z⟩
theorem lo_tk {w : Str} {c : Nat} (h : loC (srt w) = c) (hc : c ∉ ([110, 118, 61, 115, 63] : List Nat)) : (w, c) ∈ tkc := by
  refine tk_of ?_ hc
  unfold loC at h
  split at h
  · subst h; exact absurd (by simp) hc
  · exact h
def lo (ws : List Str) : List Nat := ws.map fun w => loC (srt w)

def wv (w : Str) : V := if srt w = 118 then lawVal w else .str w
theorem wv_a {w : Str} (h : A w) : wv w = atomF w := by
  unfold wv
  rcases srt_cases w with ⟨m, _, z, _⟩ | ⟨_, ⟨e, _, z, _⟩ | ⟨e, _, z, _⟩ | ⟨e, _, _, z, _⟩ | ⟨e, _, z, _⟩ | ⟨e, _, z, _⟩⟩
  · exact absurd z h
  · rw [if_neg (by rw [e]; decide), z]
  · rw [if_pos e, z]
  all_goals exact absurd z h
end K15

set_option Elab.async false
set_option linter.all false
set_option maxRecDepth 100000
set_option maxHeartbeats 4000000
namespace K15
open PySem PySem.NumText L2 K11 K14 Gx

def Short (ws : List Str) : Prop := (∀ w ∈ ws, w.length < 1000) ∧ ws.length ≤ 1000
def stW (ls : List (List Str)) (i : Nat) : List Ent := (ls.take i).foldl stepL []
def Bad (ls : List (List Str)) (i : Nat) : Prop := ∃ l, ls[i]? = some l ∧ opening l = false ∧ (rowGo l forms = none ∨ stW ls i = [])
def OkTo (ls : List (List Str)) (i : Nat) : Prop := ∀ j, j < i → ¬ Bad ls j
theorem stW_succ {ls : List (List Str)} {i : Nat} {l : List Str} (h : ls[i]? = some l) : stW ls (i + 1) = stepL (stW ls i) l := by
  unfold stW
  rw [List.take_add_one, h, List.foldl_append]
  rfl
theorem stW_open {ls : List (List Str)} {i : Nat} {l : List Str} (h : ls[i]? = some l) (o : opening l = true) : stW ls (i + 1) = stW ls i ++ [(l, [])] := by
  rw [stW_succ h]
  unfold stepL
  rw [if_pos o]
theorem stW_row {ls : List (List Str)} {i : Nat} {l : List Str} {d : Out} {es : List Ent} {e : Ent} (h : ls[i]? = some l) (o : opening l = false) (hr : rowGo l forms = some d) (he : stW ls i = es ++ [e]) : stW ls (i + 1) = es ++ [(e.1, e.2 ++ [d])] := by
  rw [stW_succ h]
  unfold stepL
  rw [if_neg (by rw [o]; exact Bool.false_ne_true), hr, he]
  simp
theorem stW_len (ls : List (List Str)) : ∀ i, (stW ls i).length ≤ i := by
  intro i
  induction i with
  | zero => simp [stW]
  | succ i ih =>
    cases e : ls[i]? with
    | none =>
      have : ls.length ≤ i := List.getElem?_eq_none_iff.mp e
      unfold stW at ih ⊢
      rw [List.take_of_length_le (by omega)] at ih ⊢
      omega
    | some l =>
      rw [stW_succ e]
      unfold stepL
      split
      · simp; omega
      · split
        · simp; omega
        · omega

theorem ents_ok {ls : List (List Str)} {n : Nat} (hn : n ≤ 1000) : ∀ i, i ≤ n → ∀ e ∈ stW ls i, opening e.1 = true ∧ (∀ d ∈ e.2, ∃ ws, Mt ws d) ∧ e.2.length ≤ i := by
  intro i
  induction i with
  | zero => intro _ e he; simp [stW] at he
  | succ i ih =>
    intro hi e he
    have ih := ih (by omega)
    cases el : ls[i]? with
    | none =>
      have : ls.length ≤ i := List.getElem?_eq_none_iff.mp el
      have e1 : stW ls (i + 1) = stW ls i := by unfold stW; rw [List.take_of_length_le (by omega), List.take_of_length_le (by omega)]
      rw [e1] at he
      obtain ⟨a, b, c⟩ := ih e he
      exact ⟨a, b, by omega⟩
    | some l =>
      rw [stW_succ el] at he
      unfold stepL at he
      split at he
      · rename_i ho
        rcases List.mem_append.mp he with h | h
        · obtain ⟨a, b, c⟩ := ih e h
          exact ⟨a, b, by omega⟩
        · rw [List.mem_singleton.mp h]
          exact ⟨ho, fun d hd => by simp at hd, by simp⟩
      · split at he
        · rename_i x y q1 q2
          rcases List.mem_append.mp he with h | h
          · obtain ⟨a, b, c⟩ := ih e (List.dropLast_subset _ h)
            exact ⟨a, b, by omega⟩
          · rw [List.mem_singleton.mp h]
            obtain ⟨a, b, c⟩ := ih x (List.mem_of_getLast? q1)
            refine ⟨a, fun d hd => ?_, by simp; omega⟩
            rcases List.mem_append.mp hd with hd | hd
            · exact b d hd
            · rw [List.mem_singleton.mp hd]
              exact ⟨l, mt_of q2⟩
        · obtain ⟨a, b, c⟩ := ih e he
          exact ⟨a, b, by omega⟩
theorem a_flat {w : Str} (h : A w) : flatA (atomF w) = true := by
  unfold A at h
  unfold atomF at h ⊢
  split
  · rfl
  · rename_i hn
    rw [if_neg hn] at h
    rcases lawVal_cases w with e | ⟨z, e⟩
    · exact absurd e h
    · rw [e]; rfl
theorem mt_out {ws : List Str} {d : Out} (h : Mt ws d) : OutOk d := by
  cases h with
  | @copy x a hX hA => exact ⟨by intro y hy; simp only [List.mem_cons, List.not_mem_nil, or_false] at hy; rcases hy with rfl | rfl; rfl; exact a_flat hA, by simp, fun as e => by cases e⟩
  | @op x a s b hX hA hS hB => exact ⟨by intro y hy; simp only [List.mem_cons, List.not_mem_nil, or_false] at hy; rcases hy with rfl | rfl | rfl | rfl; rfl; rfl; exact a_flat hA; exact a_flat hB, by simp, fun as e => by cases e⟩
  | @new x hX => exact ⟨by intro y hy; simp only [List.mem_cons, List.not_mem_nil, or_false] at hy; rcases hy with rfl; rfl, by simp, fun as e => by cases e⟩
  | @get x a f hX hA hF => exact ⟨by intro y hy; simp only [List.mem_cons, List.not_mem_nil, or_false] at hy; rcases hy with rfl | rfl | rfl; rfl; exact a_flat hA; rfl, by simp, fun as e => by cases e⟩
  | @put a f b hA hF hB => exact ⟨by intro y hy; simp only [List.mem_cons, List.not_mem_nil, or_false] at hy; rcases hy with rfl | rfl | rfl; exact a_flat hA; rfl; exact a_flat hB, by simp, fun as e => by cases e⟩
  | @call x g t hX hG hl hall => exact ⟨by intro y hy; simp only [List.mem_cons, List.not_mem_nil, or_false] at hy; rcases hy with rfl | rfl <;> rfl, by simp, fun as e => by
      cases e
      exact ⟨by rw [List.length_map]; exact hl, fun x hx => by obtain ⟨w, hw, rfl⟩ := List.mem_map.mp hx; exact a_flat (hall w hw)⟩⟩
  | @one k a hk hA => exact ⟨by intro y hy; simp only [List.mem_cons, List.not_mem_nil, or_false] at hy; rcases hy with rfl; exact a_flat hA, by simp, fun as e => by cases e⟩
  | @bare k hk => exact ⟨(by intro y hy; cases hy), (by simp), fun as e => (by cases e)⟩

def FnV (H : Hp) (v : V) (e : Ent) : Prop := ∃ p q r us, v = .ref p ∧ H p = some (.tup [.str (e.1.getD 1 ""), .bl (decide (e.1.headD "" = "in")), .ref q, .ref r]) ∧ H q = some (.tup ((e.1.drop 2).map V.str)) ∧ H r = some (.tup us) ∧ All2 (RowV H) us e.2
def ProgV (H : Hp) (p : Addr) (es : List Ent) : Prop := ∃ vs, H p = some (.lst vs) ∧ All2 (FnV H) vs es
theorem FnV.mono {H H' : Hp} {v : V} {e : Ent} (s : Same H H') (h : FnV H v e) : FnV H' v e := by
  obtain ⟨p, q, r, us, rfl, h1, h2, h3, h4⟩ := h
  exact ⟨p, q, r, us, rfl, s _ _ h1, s _ _ h2, s _ _ h3, h4.mono fun _ _ h => RowV.mono s h⟩
theorem FnV.kept {H H' : Hp} {r : Addr} {ys : List V} {v : V} {e : Ent} (k : Kept H H' r) (hr : H r = some (.lst ys)) (h : FnV H v e) : FnV H' v e := by
  obtain ⟨p, q, s, vs, rfl, h1, h2, h3, h4⟩ := h
  exact ⟨p, q, s, vs, rfl, k _ _ h1 (tup_ne h1 hr), k _ _ h2 (tup_ne h2 hr), k _ _ h3 (tup_ne h3 hr), h4.mono fun _ _ h => RowV.kept k hr h⟩
theorem ProgV.mono {H H' : Hp} {p : Addr} {es : List Ent} (s : Same H H') (h : ProgV H p es) : ProgV H' p es := let ⟨vs, h1, h2⟩ := h; ⟨vs, s _ _ h1, h2.mono fun _ _ h => FnV.mono s h⟩
theorem alk_fn {H : Hp} {u v : V} {e : Ent} (op : opening e.1 = true) (rows : ∀ d ∈ e.2, ∃ ws, Mt ws d) (hl : e.2.length ≤ 1000) (hu : FnV H u e) (hv : FnV H v e) : Alk H 4 u v := by
  obtain ⟨p, q, r, vs, rfl, h1, h2, h3, h4⟩ := hu
  obtain ⟨p', q', r', vs', rfl, h1', h2', h3', h4'⟩ := hv
  refine alk_tup h1 h1' rfl (by show 4 ≤ 1000; decide) fun i u v hu hv => ?_
  have hps : ∀ x ∈ (e.1.drop 2).map V.str, flatA x = true := fun x hx => by obtain ⟨y, _, rfl⟩ := List.mem_map.mp hx; rfl
  have hpl : (e.1.drop 2).length ≤ 1000 := by
    unfold opening at op
    simp only [Bool.and_eq_true, decide_eq_true_eq, List.length_drop] at op
    rw [List.length_drop]
    omega
  match i, hu, hv with
  | 0, hu, hv => cases hu; cases hv; exact alk_flat (flat_self rfl)
  | 1, hu, hv => cases hu; cases hv; exact alk_flat (.inl ⟨_, rfl, rfl⟩)
  | 2, hu, hv => cases hu; cases hv; exact alk_tup h2 h2' rfl (by rw [List.length_map]; exact hpl) (alk_self hps)
  | 3, hu, hv =>
    cases hu
    cases hv
    refine alk_tup h3 h3' (h4.1.trans h4'.1.symm) (by have := h4.1; omega) fun i u v hu hv => ?_
    obtain ⟨x, hx, hr⟩ := h4.at hu
    obtain ⟨ws, m⟩ := rows x (List.mem_of_getElem? hx)
    exact alk_row (mt_out m) hr (h4'.2 i v x hv hx)
  | i + 4, hu, _ => simp at hu
theorem alk_prog {H : Hp} {a b : Addr} {es : List Ent} (ok : ∀ e ∈ es, opening e.1 = true ∧ (∀ d ∈ e.2, ∃ ws, Mt ws d) ∧ e.2.length ≤ 1000) (hk : es.length ≤ 1000) (ha : ProgV H a es) (hb : ProgV H b es) : Alk H 5 (.ref a) (.ref b) := by
  obtain ⟨vs, h1, h2⟩ := ha
  obtain ⟨vs', h1', h2'⟩ := hb
  refine .inr ⟨a, b, vs, vs', rfl, rfl, .inr ⟨h1, h1'⟩, h2.1.trans h2'.1.symm, by have := h2.1; omega, fun i u v hu hv => ?_⟩
  obtain ⟨f, hf, hr⟩ := h2.at hu
  obtain ⟨o1, o2, o3⟩ := ok f (List.mem_of_getElem? hf)
  exact alk_fn o1 o2 o3 hr (h2'.2 i v f hv hf)

theorem jl_len (c : Nat) : ∀ l : List (List Nat), l ≠ [] → (jl c l).length + 1 = (l.map (·.length)).sum + l.length
  | [], h => absurd rfl h
  | [x], _ => by simp [jl]
  | x :: y :: r, _ => by
    show (x ++ c :: jl c (y :: r)).length + 1 = _
    have := jl_len c (y :: r) (by simp)
    rw [List.length_append, List.length_cons]
    simp only [List.map_cons, List.sum_cons, List.length_cons] at this ⊢
    omega
theorem jl_mem {c a : Nat} : ∀ {l : List (List Nat)} {x : List Nat}, x ∈ l → a ∈ x → a ∈ jl c l
  | [y], x, h, ha => by rw [List.mem_singleton.mp h] at ha; exact ha
  | y :: z :: r, x, h, ha => by
    show a ∈ y ++ c :: jl c (z :: r)
    rcases List.mem_cons.mp h with rfl | h
    · exact List.mem_append_left _ ha
    · exact List.mem_append_right _ (List.mem_cons_of_mem _ (jl_mem h ha))
theorem mem_le_sum : ∀ {l : List Nat} {n : Nat}, n ∈ l → n ≤ l.sum
  | m :: l, n, h => by
    rw [List.sum_cons]
    rcases List.mem_cons.mp h with rfl | h
    · omega
    · have := mem_le_sum h; omega
def wds (x : Str) : List Str := Txt.split x " "
theorem wds_ne (x : Str) : wds x ≠ [] := split_ne _ _
theorem wds_jl (x : Str) : x.cps.toList = jl 32 ((wds x).map (·.cps.toList)) := by
  have e := StrLaws.join_split x ⟨#[32]⟩
  have e2 := congrArg (fun z : Str => z.cps.toList) e
  simp only [join_cps] at e2
  exact e2.symm
theorem wds_short {x : Str} (h : x.length ≤ 900) : Short (wds x) := by
  have e := jl_len 32 ((wds x).map (·.cps.toList)) (by simpa using wds_ne x)
  rw [← wds_jl, len_cps, List.length_map] at e
  refine ⟨fun w hw => ?_, by omega⟩
  have : w.length ≤ ((wds x).map (·.cps.toList) |>.map (·.length)).sum := mem_le_sum (List.mem_map.mpr ⟨w.cps.toList, List.mem_map.mpr ⟨w, hw, rfl⟩, len_cps w⟩)
  have hp : 0 < (wds x).length := List.length_pos_iff.mpr (wds_ne x)
  omega
theorem wds_len {x : Str} : (wds x).length ≤ x.length + 1 := by
  have e := jl_len 32 ((wds x).map (·.cps.toList)) (by simpa using wds_ne x)
  rw [← wds_jl, len_cps, List.length_map] at e
  omega
theorem wds_free {x : Str} {c : Nat} (h : Free c x) : ∀ w ∈ wds x, Free c w := fun w hw z => h (by rw [wds_jl]; exact jl_mem (List.mem_map.mpr ⟨w, hw, rfl⟩) z)
theorem wds_le {x w : Str} (hw : w ∈ wds x) : w.length ≤ x.length := by
  have e := jl_len 32 ((wds x).map (·.cps.toList)) (by simpa using wds_ne x)
  rw [← wds_jl, len_cps, List.length_map] at e
  have : w.length ≤ ((wds x).map (·.cps.toList) |>.map (·.length)).sum := mem_le_sum (List.mem_map.mpr ⟨w.cps.toList, List.mem_map.mpr ⟨w, hw, rfl⟩, len_cps w⟩)
  have hp : 0 < (wds x).length := List.length_pos_iff.mpr (wds_ne x)
  omega
end K15

set_option Elab.async false
set_option linter.all false
set_option maxRecDepth 100000
set_option maxHeartbeats 4000000
namespace K15
open PySem PySem.NumText L2 K11 K14 Gx
theorem lo_cons (w : Str) (ws : List Str) : lo (w :: ws) = loC (srt w) :: lo ws := rfl
theorem lo_nil : lo [] = [] := rfl
theorem lo_len (ws : List Str) : (lo ws).length = ws.length := by unfold lo; rw [List.length_map]
theorem rp (ws : List Str) : Txt.replace (tx (ws.map srt)) "v" "n" = tx (lo ws) := by
  refine (repl_map (ws.map srt) 118 110).trans ?_
  congr 1
  rw [List.map_map]
  rfl
theorem rp_no (l : List Nat) : Txt.replace (tx l) "n" "" = tx (l.filter (· != 110)) := repl_no l 110
theorem nil_tx {l : List Nat} : tx l = "" ↔ l = [] := by
  constructor
  · intro h; exact tx_inj (h.trans (by decide +kernel : ("" : Str) = tx []))
  · intro h; rw [h]; decide +kernel
theorem lo1 {ws : List Str} {c : Nat} (h : lo ws = [c]) : ∃ a, ws = [a] ∧ loC (srt a) = c := by
  obtain ⟨a, rfl⟩ := len1 (show ws.length = 1 by rw [← lo_len, h]; rfl)
  exact ⟨a, rfl, (List.cons.inj h).1⟩
theorem lo_c {ws : List Str} {c : Nat} {cs : List Nat} (h : lo ws = c :: cs) : ∃ a t, ws = a :: t ∧ loC (srt a) = c ∧ lo t = cs := by
  cases ws with
  | nil => cases h
  | cons a t =>
    obtain ⟨h1, h2⟩ := List.cons.inj h
    exact ⟨a, t, rfl, h1, h2⟩
theorem tk1 {w : Str} {c : Nat} (h : loC (srt w) = c) (hc : c ∉ ([110, 118, 61, 115, 63] : List Nat)) (x : Str) (hx : ∀ p ∈ tkc, p.2 = c → p.1 = x) : w = x := hx _ (lo_tk h hc) rfl
theorem dec1 {ws : List Str} (h : tx (lo ws) ∈ (["On", "fn", "wn", "bn"] : List Str)) : ∃ k a, ws = [k, a] ∧ k ∈ (["out", "back", "if", "while"] : List Str) ∧ A a := by
  have key : ∀ c (x : Str), x ∈ (["out", "back", "if", "while"] : List Str) → c ∉ ([110, 118, 61, 115, 63] : List Nat) → (∀ p ∈ tkc, p.2 = c → p.1 = x) → lo ws = [c, 110] → ∃ k a, ws = [k, a] ∧ k ∈ (["out", "back", "if", "while"] : List Str) ∧ A a := by
    intro c x hx hc hp e
    obtain ⟨k, t, rfl, h1, h2⟩ := lo_c e
    obtain ⟨a, rfl, h3⟩ := lo1 h2
    rw [tk1 h1 hc x hp]
    exact ⟨x, a, rfl, hx, (a_iff a).mp h3⟩
  simp only [List.mem_cons, List.not_mem_nil, or_false] at h
  rcases h with h | h | h | h
  · exact key 79 "out" (by decide) (by decide) (by decide +kernel) (tx_inj (h.trans (by decide +kernel : ("On" : Str) = tx [79, 110])))
  · exact key 102 "if" (by decide) (by decide) (by decide +kernel) (tx_inj (h.trans (by decide +kernel : ("fn" : Str) = tx [102, 110])))
  · exact key 119 "while" (by decide) (by decide) (by decide +kernel) (tx_inj (h.trans (by decide +kernel : ("wn" : Str) = tx [119, 110])))
  · exact key 98 "back" (by decide) (by decide) (by decide +kernel) (tx_inj (h.trans (by decide +kernel : ("bn" : Str) = tx [98, 110])))
theorem enc1 {k a : Str} (hk : k ∈ (["out", "back", "if", "while"] : List Str)) (h : A a) : tx (lo [k, a]) ∈ (["On", "fn", "wn", "bn"] : List Str) := by
  rw [lo_cons, lo_cons, (a_iff a).mpr h, lo_nil]
  simp only [List.mem_cons, List.not_mem_nil, or_false] at hk
  rcases hk with rfl | rfl | rfl | rfl <;> decide +kernel
theorem dec2 {ws : List Str} (h : tx (lo ws) = "e" ∨ tx (lo ws) = "d") : ∃ k, ws = [k] ∧ k ∈ (["else", "end"] : List Str) := by
  rcases h with h | h
  · obtain ⟨a, rfl, h1⟩ := lo1 (tx_inj (h.trans (by decide +kernel : ("e" : Str) = tx [101])))
    rw [tk1 h1 (by decide) "else" (by decide +kernel)]
    exact ⟨_, rfl, by decide⟩
  · obtain ⟨a, rfl, h1⟩ := lo1 (tx_inj (h.trans (by decide +kernel : ("d" : Str) = tx [100])))
    rw [tk1 h1 (by decide) "end" (by decide +kernel)]
    exact ⟨_, rfl, by decide⟩
theorem enc2 {k : Str} (hk : k ∈ (["else", "end"] : List Str)) : tx (lo [k]) = "e" ∨ tx (lo [k]) = "d" := by
  simp only [List.mem_cons, List.not_mem_nil, or_false] at hk
  rcases hk with rfl | rfl <;> decide +kernel
theorem dec3 {ws : List Str} (h : tx (lo ws) = "Pnnn") : ∃ a f b : Str, ws = [("put" : Str), a, f, b] ∧ A a ∧ A f ∧ A b := by
  obtain ⟨k, t, rfl, h1, h2⟩ := lo_c (tx_inj (h.trans (by decide +kernel : ("Pnnn" : Str) = tx [80, 110, 110, 110])))
  obtain ⟨a, t, rfl, h3, h4⟩ := lo_c h2
  obtain ⟨f, t, rfl, h5, h6⟩ := lo_c h4
  obtain ⟨b, rfl, h7⟩ := lo1 h6
  rw [tk1 h1 (by decide) "put" (by decide +kernel)]
  exact ⟨a, f, b, rfl, (a_iff a).mp h3, (a_iff f).mp h5, (a_iff b).mp h7⟩
theorem n_a {w : Str} (h : N w) : A w := (a_iff w).mp (by rw [(n_iff w).mpr h]; rfl)
theorem enc3 {a f b : Str} (ha : A a) (hf : N f) (hb : A b) : tx (lo ["put", a, f, b]) = "Pnnn" := by
  rw [lo_cons, lo_cons, lo_cons, lo_cons, (a_iff a).mpr ha, (a_iff f).mpr (n_a hf), (a_iff b).mpr hb, lo_nil]
  decide +kernel
theorem dec4 {ws : List Str} (h : Txt.slice (tx (ws.map srt)) none (some 2) = "n=") : ∃ (x : Str) (t : List Str), ws = x :: ("=" : Str) :: t ∧ N x := by
  rw [show (2 : Int) = ((2 : Nat) : Int) from rfl, sl_to] at h
  have e := tx_inj (h.trans (by decide +kernel : ("n=" : Str) = tx [110, 61]))
  match ws, e with
  | x :: y :: t, e =>
    have e : [srt x, srt y] = [110, 61] := e
    injection e with e1 e2
    injection e2 with e2 _
    rw [(eq_iff y).mp e2]
    exact ⟨x, t, rfl, (n_iff x).mp e1⟩
  | [x], e => simp at e
  | [], e => simp at e
theorem enc4 {x : Str} {t : List Str} (h : N x) : Txt.slice (tx ((x :: "=" :: t).map srt)) none (some 2) = "n=" := by
  rw [show (2 : Int) = ((2 : Nat) : Int) from rfl, sl_to]
  show tx [srt x, srt "="] = _
  rw [(n_iff x).mpr h]
  decide +kernel
theorem from2 (x : Str) (t : List Str) : Txt.slice (tx (lo (x :: "=" :: t))) (some 2) none = tx (lo t) := by
  rw [show (2 : Int) = ((2 : Nat) : Int) from rfl, sl_from]
  rfl
theorem dec5 {t : List Str} (h : tx (lo t) = "n") : ∃ a, t = [a] ∧ A a := by
  obtain ⟨a, rfl, h1⟩ := lo1 (tx_inj (h.trans (by decide +kernel : ("n" : Str) = tx [110])))
  exact ⟨a, rfl, (a_iff a).mp h1⟩
theorem enc5 {a : Str} (h : A a) : tx (lo [a]) = "n" := by
  rw [lo_cons, (a_iff a).mpr h, lo_nil]
  decide +kernel
theorem dec6 {t : List Str} (h : tx (lo t) = "W") : t = [("new" : Str)] := by
  obtain ⟨a, rfl, h1⟩ := lo1 (tx_inj (h.trans (by decide +kernel : ("W" : Str) = tx [87])))
  rw [tk1 h1 (by decide) "new" (by decide +kernel)]
theorem enc6 : tx (lo ["new"]) = "W" := by decide +kernel
theorem dec7 {t : List Str} (h : tx (lo t) = "Gnn") : ∃ a f : Str, t = [("get" : Str), a, f] ∧ A a ∧ A f := by
  obtain ⟨k, t, rfl, h1, h2⟩ := lo_c (tx_inj (h.trans (by decide +kernel : ("Gnn" : Str) = tx [71, 110, 110])))
  obtain ⟨a, t, rfl, h3, h4⟩ := lo_c h2
  obtain ⟨f, rfl, h5⟩ := lo1 h4
  rw [tk1 h1 (by decide) "get" (by decide +kernel)]
  exact ⟨a, f, rfl, (a_iff a).mp h3, (a_iff f).mp h5⟩
theorem enc7 {a f : Str} (ha : A a) (hf : N f) : tx (lo ["get", a, f]) = "Gnn" := by
  rw [lo_cons, lo_cons, lo_cons, (a_iff a).mpr ha, (a_iff f).mpr (n_a hf), lo_nil]
  decide +kernel
theorem lo_sg {s : Str} : (loC (srt s) = 61 ∨ loC (srt s) = 115) ↔ isSign s = true := by
  rw [← sg_iff]
  unfold loC
  split
  · rename_i h
    rw [h]
    exact ⟨fun z => by omega, fun z => by omega⟩
  · exact Iff.rfl
theorem dec8 {t : List Str} (h : tx (lo t) = "nsn" ∨ tx (lo t) = "n=n") : ∃ a s b, t = [a, s, b] ∧ A a ∧ isSign s = true ∧ A b := by
  have key : ∀ c, (c = 61 ∨ c = 115) → lo t = [110, c, 110] → ∃ a s b, t = [a, s, b] ∧ A a ∧ isSign s = true ∧ A b := by
    intro c hc e
    obtain ⟨a, t, rfl, h1, h2⟩ := lo_c e
    obtain ⟨s, t, rfl, h3, h4⟩ := lo_c h2
    obtain ⟨b, rfl, h5⟩ := lo1 h4
    exact ⟨a, s, b, rfl, (a_iff a).mp h1, lo_sg.mp (by rw [h3]; exact hc), (a_iff b).mp h5⟩
  rcases h with h | h
  · exact key 115 (.inr rfl) (tx_inj (h.trans (by decide +kernel : ("nsn" : Str) = tx [110, 115, 110])))
  · exact key 61 (.inl rfl) (tx_inj (h.trans (by decide +kernel : ("n=n" : Str) = tx [110, 61, 110])))
theorem enc8 {a s b : Str} (ha : A a) (hs : isSign s = true) (hb : A b) : tx (lo [a, s, b]) = "nsn" ∨ tx (lo [a, s, b]) = "n=n" := by
  rw [lo_cons, lo_cons, lo_cons, (a_iff a).mpr ha, (a_iff b).mpr hb, lo_nil]
  rcases lo_sg.mpr hs with e | e <;> rw [e]
  · exact .inr (by decide +kernel)
  · exact .inl (by decide +kernel)
theorem dec9 {x : Str} {t : List Str} (h : Txt.slice (tx ((x :: "=" :: t).map srt)) (some 2) (some 4) = "Cn") : ∃ (g : Str) (r : List Str), t = ("call" : Str) :: g :: r ∧ N g := by
  rw [show (2 : Int) = ((2 : Nat) : Int) from rfl, show (4 : Int) = ((4 : Nat) : Int) from rfl, sl_mid _ (by decide)] at h
  have e := tx_inj (h.trans (by decide +kernel : ("Cn" : Str) = tx [67, 110]))
  match t, e with
  | y :: g :: r, e =>
    have e : [srt y, srt g] = [67, 110] := e
    injection e with e1 e2
    injection e2 with e2 _
    have : y = "call" := by
      have m := tk_of e1 (by decide)
      have key : ∀ p ∈ tkc, p.2 = 67 → p.1 = "call" := by decide +kernel
      exact key _ m rfl
    rw [this]
    exact ⟨g, r, rfl, (n_iff g).mp e2⟩
  | [y], e => simp at e
  | [], e => simp at e
theorem enc9 {x g : Str} {r : List Str} (h : N g) : Txt.slice (tx ((x :: "=" :: "call" :: g :: r).map srt)) (some 2) (some 4) = "Cn" := by
  rw [show (2 : Int) = ((2 : Nat) : Int) from rfl, show (4 : Int) = ((4 : Nat) : Int) from rfl, sl_mid _ (by decide)]
  show tx [srt "call", srt g] = _
  rw [(n_iff g).mpr h]
  decide +kernel
theorem from4 (x g : Str) (r : List Str) : Txt.slice (tx (lo (x :: "=" :: "call" :: g :: r))) (some 4) none = tx (lo r) := by
  rw [show (4 : Int) = ((4 : Nat) : Int) from rfl, sl_from]
  rfl
theorem all_a (r : List Str) : Txt.replace (tx (lo r)) "n" "" = "" ↔ ∀ w ∈ r, A w := by
  rw [rp_no, nil_tx, List.filter_eq_nil_iff]
  unfold lo
  constructor
  · intro h w hw
    have := h (loC (srt w)) (List.mem_map.mpr ⟨w, hw, rfl⟩)
    exact (a_iff w).mp (by simpa using this)
  · intro h c hc
    obtain ⟨w, hw, rfl⟩ := List.mem_map.mp hc
    simp only [(a_iff w).mpr (h w hw)]
    decide
theorem all_n (r : List Str) : Txt.replace (tx (r.map srt)) "n" "" = "" ↔ ∀ w ∈ r, N w := by
  rw [rp_no, nil_tx, List.filter_eq_nil_iff]
  constructor
  · intro h w hw
    have := h (srt w) (List.mem_map.mpr ⟨w, hw, rfl⟩)
    exact (n_iff w).mp (by simpa using this)
  · intro h c hc
    obtain ⟨w, hw, rfl⟩ := List.mem_map.mp hc
    simp only [(n_iff w).mpr (h w hw)]
    decide
end K15

set_option Elab.async false
set_option linter.all false
set_option maxRecDepth 100000
set_option maxHeartbeats 4000000
namespace L2
open PySem PySem.Spec PyProof.Rows

def rEqStrs (K : PySem.W.Frag) : R2 := fun x y H Q => ∃ (a b : Addr) (xs ys : List Str), x = .ref a ∧ y = .ref b ∧ SqL K H a (xs.map V.str) ∧ SqL K H b (ys.map V.str) ∧ Q (.bl (decide (xs = ys))) H
theorem all_strs {xs ys : List Str} (h : xs.length = ys.length) : (List.range xs.length).all (fun j => xs.getD j "" == ys.getD j "") = decide (xs = ys) := by
  rw [Bool.eq_iff_iff, List.all_eq_true, decide_eq_true_eq]
  constructor
  · intro q
    refine List.ext_getElem h fun i h1 h2 => ?_
    have := q i (List.mem_range.mpr h1)
    rw [List.getD_eq_getElem?_getD, List.getD_eq_getElem?_getD, List.getElem?_eq_getElem h1, List.getElem?_eq_getElem h2] at this
    exact eq_of_beq this
  · rintro rfl i _
    exact beq_self_eq_true _
theorem op_eqStrs {X : Cx} (hu : X.A.units + 64 < cLine) : OpR X (compareOp .Eq) (rEqStrs X.K) := by
  intro pins s σ H x y v u Q I rx ry h
  obtain ⟨a, b, xs, ys, rfl, rfl, hA, hB, q⟩ := h
  cases rx
  cases ry
  obtain ⟨its, r1, p1, _⟩ := I.list hA
  obtain ⟨its2, r2, p2, _⟩ := I.list hB
  have l1 := r1.length
  have l2 := r2.length
  rw [List.length_map] at l1 l2
  by_cases hx : xs.length = ys.length
  · have el : ∀ {zs : List Str} {us : List Value} (r : Vals (zs.map V.str) us) (j : Nat) (hj : j < us.toArray.size) (hz : zs.length = us.length), ∃ t, us.toArray[j] = .str (zs.getD j "") t := by
      intro zs us r j hj hz
      have hj' : j < us.length := by simpa using hj
      obtain ⟨w, ew, rw'⟩ := r.get (i := j) (x := .str (zs.getD j "")) (by rw [List.getElem?_map, List.getD_eq_getElem?_getD, List.getElem?_eq_getElem (by omega)]; rfl)
      obtain ⟨t, rfl⟩ := rw'
      refine ⟨t, ?_⟩
      rw [List.getElem?_eq_getElem hj'] at ew
      simpa using Option.some.inj ew
    refine SeqAt.eq_listAt (e := fun j => xs.getD j "" == ys.getD j "") p1.isList p2.isList (by simp; omega) (by omega) (fun j h1 h2 => ?_) ?_
    · obtain ⟨t1, e1⟩ := el r1 j h1 (by omega)
      obtain ⟨t2, e2⟩ := el r2 j h2 (by omega)
      rw [e1, e2]
      exact SeqAt.EqAt.str_str _ _ _ _
    · have e : its.toArray.size = xs.length := by simp; omega
      rw [e, all_strs hx]
      exact ⟨.bl _, H, I, rfl, q⟩
  · have hne : (its.toArray.size != its2.toArray.size) = true := by
      simp
      omega
    refine SeqAt.eq_list_lengthsAt p1.isList p2.isList hne (by omega) ?_
    rw [decide_eq_false (fun z => hx (by rw [z]))] at q
    exact ⟨.bl false, H, I, rfl, q⟩
end L2

set_option Elab.async false
set_option linter.all false
set_option maxRecDepth 100000
set_option maxHeartbeats 4000000
namespace K15
open PySem PySem.NumText L2 K11 K14 Gx
theorem one_sum : ∀ cs : List Nat, ((cs.map fun c => tx [c]).map (·.length)).sum = cs.length
  | [] => rfl
  | c :: cs => by
    simp only [List.map_cons, List.sum_cons, List.length_cons, tx_len, List.length_nil]
    have := one_sum cs
    omega
theorem srt_fn {w : Str} (h : srt w = 70) : w = "fn" := by
  have key : ∀ p ∈ tkc, p.2 = 70 → p.1 = "fn" := by decide +kernel
  exact key _ (tk_of h (by decide)) rfl
theorem srt_in {w : Str} (h : srt w = 73) : w = "in" := by
  have key : ∀ p ∈ tkc, p.2 = 73 → p.1 = "in" := by decide +kernel
  exact key _ (tk_of h (by decide)) rfl
theorem fi_of {w : Str} (h : inS (srt w) "FI" = true) : w = "fn" ∨ w = "in" := by
  rw [inS_iff, show ("FI" : Str).cps.toList = [70, 73] from by decide +kernel, decide_eq_true_eq] at h
  simp only [List.mem_cons, List.not_mem_nil, or_false] at h
  exact h.imp srt_fn srt_in
theorem head_iff (w : Str) : inV (.str w) heads = true ↔ (w = "fn" ∨ w = "in") := by
  rw [show heads = (["fn", "in"] : List Str).map V.str from rfl, inV_str, decide_eq_true_eq]
  simp
theorem fi_iff (w : Str) : inS (srt w) "FI" = inV (.str w) heads := by
  rw [Bool.eq_iff_iff, head_iff]
  refine ⟨fi_of, ?_⟩
  rintro (rfl | rfl) <;> decide +kernel
theorem is_in {w : Str} (h : w = "fn" ∨ w = "in") : decide (V.str (tx [srt w]) = V.str "I") = decide (w = "in") := by
  rcases h with rfl | rfl <;> decide +kernel
theorem open_no {w0 : Str} {wt : List Str} (h : inV (.str w0) heads = false) : opening (w0 :: wt) = false := by
  unfold opening
  show (inV (.str w0) heads && _ && _ && _) = false
  rw [h]
  rfl
theorem open_yes {w0 : Str} {wt : List Str} (h : inV (.str w0) heads = true) (h1 : 1 ≤ wt.length) (h2 : wt.length ≤ 7) (h3 : ∀ w ∈ wt, N w) : opening (w0 :: wt) = true := by
  unfold opening
  show (inV (.str w0) heads && decide (1 ≤ wt.length) && decide (wt.length ≤ 7) && wt.all named) = true
  rw [h, decide_eq_true h1, decide_eq_true h2]
  simp only [Bool.true_and, List.all_eq_true]
  exact h3
theorem open_of {w0 : Str} {wt : List Str} (h : opening (w0 :: wt) = true) : 1 ≤ wt.length ∧ wt.length ≤ 7 ∧ ∀ w ∈ wt, N w := by
  unfold opening at h
  have h : (inV (.str w0) heads && decide (1 ≤ wt.length) && decide (wt.length ≤ 7) && wt.all named) = true := h
  simp only [Bool.and_eq_true, decide_eq_true_eq, List.all_eq_true] at h
  exact ⟨h.1.1.2, h.1.2, h.2⟩

theorem head_none {w0 : Str} {wt : List Str} (h : inV (.str w0) heads = true) : rowGo (w0 :: wt) forms = none := by
  refine mt_none fun d m => ?_
  have h := (head_iff w0).mp h
  have nn : ¬ N w0 := by rcases h with rfl | rfl <;> decide +kernel
  cases m with
  | copy x y => exact nn x
  | op x y z w => exact nn x
  | new x => exact nn x
  | get x y z => exact nn x
  | put x y z => exact absurd h (by decide +kernel)
  | call x y z w => exact nn x
  | one x y =>
    have : ∀ k ∈ (["out", "back", "if", "while"] : List Str), ¬ (k = "fn" ∨ k = "in") := by decide +kernel
    exact this _ x h
  | bare x =>
    have : ∀ k ∈ (["else", "end"] : List Str), ¬ (k = "fn" ∨ k = "in") := by decide +kernel
    exact this _ x h
theorem all2_last {α : Type} {P : V → α → Prop} {vs : List V} {xs : List α} (h : All2 P vs xs) (hne : xs ≠ []) : ∃ vs' v xs' x, vs = vs' ++ [v] ∧ xs = xs' ++ [x] ∧ All2 P vs' xs' ∧ P v x := by
  have hv : vs ≠ [] := fun z => hne (List.eq_nil_of_length_eq_zero (by rw [← h.1, z]; rfl))
  refine ⟨vs.dropLast, vs.getLast hv, xs.dropLast, xs.getLast hne, (List.dropLast_concat_getLast hv).symm, (List.dropLast_concat_getLast hne).symm, ⟨by rw [List.length_dropLast, List.length_dropLast, h.1], fun i v x a b => ?_⟩, ?_⟩
  · refine h.2 i v x ?_ ?_
    · have := (List.getElem?_eq_some_iff.mp a).1
      rw [List.length_dropLast] at this
      rw [List.getElem?_dropLast, if_pos this] at a
      exact a
    · have := (List.getElem?_eq_some_iff.mp b).1
      rw [List.length_dropLast] at this
      rw [List.getElem?_dropLast, if_pos this] at b
      exact b
  · refine h.2 (vs.length - 1) _ _ ?_ ?_
    · rw [← List.getLast?_eq_getElem?]; exact List.getLast?_eq_some_getLast hv
    · rw [h.1, ← List.getLast?_eq_getElem?]; exact List.getLast?_eq_some_getLast hne
theorem catTT {K : PySem.W.Frag} {H : Hp} {Q : VK} {a b : Addr} {xs : List V} {y : V} (ha : SqT K H a xs) (hb : H b = some (.tup [y])) (hl : xs.length + 1 ≤ sizeLine) (q : ∀ p H', Same H H' → H' p = some (.tup (xs ++ [y])) → Q (.ref p) H') : rCatT K (.ref a) (.ref b) H Q ∨ rCatT0 K (.ref a) (.ref b) H Q := by
  by_cases h : xs = []
  · subst h
    exact .inr ⟨a, b, [y], rfl, rfl, ha, SqT.of hb, q b H (Same.refl _) hb⟩
  · exact .inl ⟨a, b, xs, [y], rfl, rfl, ha, SqT.of hb, h, hl, (fun z => by cases z), fun _ p hp => q p _ (Same.new hp) upd_same⟩
end K15

set_option Elab.async false
set_option linter.all false
set_option maxRecDepth 100000
set_option maxHeartbeats 4000000
namespace K15
open PySem L2 Gx K11 K14
def top (i : Nat) : Stmt := PySem.Challenge.pw_stopglass_k15_rows_that_are_refused.main.body.getD i (.Pass ⟨0, 0, 0, 0⟩)
abbrev s_BadRow_init : Stmt := inClass (top 2) 0
abbrev s_is_name : Stmt := top 23
abbrev s_atom_of : Stmt := top 24
abbrev s_value_of : Stmt := top 25
abbrev s_is_made_of : Stmt := top 26
abbrev s_read : Stmt := top 30
abbrev s_is_opening : Stmt := top 31
abbrev s_function_of : Stmt := top 32
abbrev s_row_of : Stmt := top 33
abbrev s_with_args : Stmt := top 34
abbrev s_parts_of : Stmt := top 35
abbrev s_part_of : Stmt := top 36
abbrev s_l_cell : Stmt := top 38
abbrev s_l_part : Stmt := top 39
abbrev s_l_taken : Stmt := top 40
abbrev s_l_name : Stmt := top 41
abbrev s_l_atom : Stmt := top 42
abbrev s_l_good : Stmt := top 43
abbrev s_l_odd : Stmt := top 44
abbrev s_l_sign : Stmt := top 45
abbrev s_l_spoilt : Stmt := top 46
abbrev s_l_sort : Stmt := top 47
abbrev s_l_worth : Stmt := top 48
abbrev s_l_row : Stmt := top 49
abbrev s_l_due : Stmt := top 50
abbrev s_l_alike : Stmt := top 51
abbrev s_l_other : Stmt := top 52
abbrev s_l_right : Stmt := top 53
abbrev s_law : Stmt := top 54
set_option genInjectivity false in
set_option genSizeOf false in
structure Adr where
  x_GlassError : Addr
  x_BadRow : Addr
  x_NoFunction : Addr
  x_TwiceNamed : Addr
  x_BadNest : Addr
  x_BadCall : Addr
  x_NoName : Addr
  x_Ended : Addr
  x_TooLong : Addr
  x_Gone : Addr
  x_NotBox : Addr
  x_Shared : Addr
  x_BadBits : Addr
  x_Untrue : Addr
  a_BadRow_init : Addr
  d_BadRow_init : FuncData
  a_is_name : Addr
  d_is_name : FuncData
  a_atom_of : Addr
  d_atom_of : FuncData
  a_value_of : Addr
  d_value_of : FuncData
  a_is_made_of : Addr
  d_is_made_of : FuncData
  a_read : Addr
  d_read : FuncData
  a_is_opening : Addr
  d_is_opening : FuncData
  a_function_of : Addr
  d_function_of : FuncData
  a_row_of : Addr
  d_row_of : FuncData
  a_with_args : Addr
  d_with_args : FuncData
  a_parts_of : Addr
  d_parts_of : FuncData
  a_part_of : Addr
  d_part_of : FuncData
  a_l_cell : Addr
  d_l_cell : FuncData
  a_l_part : Addr
  d_l_part : FuncData
  a_l_taken : Addr
  d_l_taken : FuncData
  a_l_name : Addr
  d_l_name : FuncData
  a_l_atom : Addr
  d_l_atom : FuncData
  a_l_good : Addr
  d_l_good : FuncData
  a_l_odd : Addr
  d_l_odd : FuncData
  a_l_sign : Addr
  d_l_sign : FuncData
  a_l_spoilt : Addr
  d_l_spoilt : FuncData
  a_l_sort : Addr
  d_l_sort : FuncData
  a_l_worth : Addr
  d_l_worth : FuncData
  a_l_row : Addr
  d_l_row : FuncData
  a_l_due : Addr
  d_l_due : FuncData
  a_l_alike : Addr
  d_l_alike : FuncData
  a_l_other : Addr
  d_l_other : FuncData
  a_l_right : Addr
  d_l_right : FuncData
  a_law : Addr
  d_law : FuncData
  a_TAKEN : Addr
  a_SIGNS : Addr
  a_FORMS : Addr
structure Txt (K : PySem.W.Frag) (mg : Str → Option Value) (t : Adr) : Prop where
  x_GlassError : XClsOk K mg "GlassError" t.x_GlassError
  x_BadRow : XClsOk K mg "BadRow" t.x_BadRow
  g_NoFunction : mg "NoFunction" = some (.ref t.x_NoFunction)
  g_TwiceNamed : mg "TwiceNamed" = some (.ref t.x_TwiceNamed)
  g_BadNest : mg "BadNest" = some (.ref t.x_BadNest)
  g_BadCall : mg "BadCall" = some (.ref t.x_BadCall)
  g_NoName : mg "NoName" = some (.ref t.x_NoName)
  g_Ended : mg "Ended" = some (.ref t.x_Ended)
  g_TooLong : mg "TooLong" = some (.ref t.x_TooLong)
  g_Gone : mg "Gone" = some (.ref t.x_Gone)
  g_NotBox : mg "NotBox" = some (.ref t.x_NotBox)
  g_Shared : mg "Shared" = some (.ref t.x_Shared)
  g_BadBits : mg "BadBits" = some (.ref t.x_BadBits)
  g_Untrue : mg "Untrue" = some (.ref t.x_Untrue)
  n_BadRow_at : NoAttr K t.x_BadRow "at"
  e_BadRow : PySem.W.mroIn K t.x_BadRow (.ref t.x_GlassError) = some true
  k_BadRow_BadRow : PySem.W.kitOne K (.ref t.x_BadRow) (.ref t.x_BadRow) = some true
  v_BadRow : PySem.W.kitOne K (.ref t.x_BadRow) (.type "ValueError") = some true
  ya_BadRow : PySem.W.kitAny K (.ref t.x_BadRow) [.ref t.x_NoFunction, .ref t.x_TwiceNamed, .ref t.x_BadNest, .ref t.x_BadCall] = some false
  yb_BadRow : PySem.W.kitAny K (.ref t.x_BadRow) [.ref t.x_NoName, .ref t.x_Ended, .ref t.x_TooLong, .ref t.x_Gone, .ref t.x_NotBox] = some false
  yc_BadRow : PySem.W.kitAny K (.ref t.x_BadRow) [.ref t.x_Shared, .ref t.x_BadBits, .ref t.x_Untrue] = some false
  BadRow_init : XIniOk K t.x_BadRow "BadRow.__init__" s_BadRow_init ["self", "at"] t.a_BadRow_init t.d_BadRow_init
  is_name : DefOk K mg "is_name" s_is_name ["text"] t.a_is_name t.d_is_name
  atom_of : DefOk K mg "atom_of" s_atom_of ["word"] t.a_atom_of t.d_atom_of
  value_of : DefOk K mg "value_of" s_value_of ["word"] t.a_value_of t.d_value_of
  is_made_of : DefOk K mg "is_made_of" s_is_made_of ["text", "signs", "most"] t.a_is_made_of t.d_is_made_of
  read : DefOk K mg "read" s_read ["text"] t.a_read t.d_read
  is_opening : DefOk K mg "is_opening" s_is_opening ["words"] t.a_is_opening t.d_is_opening
  function_of : DefOk K mg "function_of" s_function_of ["words", "rows"] t.a_function_of t.d_function_of
  row_of : DefOk K mg "row_of" s_row_of ["words"] t.a_row_of t.d_row_of
  with_args : DefOk K mg "with_args" s_with_args ["row", "words"] t.a_with_args t.d_with_args
  parts_of : DefOk K mg "parts_of" s_parts_of ["words", "form"] t.a_parts_of t.d_parts_of
  part_of : DefOk K mg "part_of" s_part_of ["word", "part"] t.a_part_of t.d_part_of
  l_cell : DefOk K mg "_law_cell" s_l_cell ["_law_script", "_law_k"] t.a_l_cell t.d_l_cell
  l_part : DefOk K mg "_law_part" s_l_part ["_law_cell_here", "_law_j", "_law_many"] t.a_l_part t.d_l_part
  l_taken : DefOk K mg "_law_taken" s_l_taken [] t.a_l_taken t.d_l_taken
  l_name : DefOk K mg "_law_name" s_l_name ["_law_base", "_law_cell_here"] t.a_l_name t.d_l_name
  l_atom : DefOk K mg "_law_atom" s_l_atom ["_law_base", "_law_cell_here"] t.a_l_atom t.d_l_atom
  l_good : DefOk K mg "_law_good" s_l_good ["_law_base", "_law_cell_here", "_law_least"] t.a_l_good t.d_l_good
  l_odd : DefOk K mg "_law_odd" s_l_odd ["_law_cell_here"] t.a_l_odd t.d_l_odd
  l_sign : DefOk K mg "_law_sign" s_l_sign ["_law_cell_here"] t.a_l_sign t.d_l_sign
  l_spoilt : DefOk K mg "_law_spoilt" s_l_spoilt ["_law_line", "_law_cell_here"] t.a_l_spoilt t.d_l_spoilt
  l_sort : DefOk K mg "_law_sort" s_l_sort ["_law_word"] t.a_l_sort t.d_l_sort
  l_worth : DefOk K mg "_law_worth" s_l_worth ["_law_word"] t.a_l_worth t.d_l_worth
  l_row : DefOk K mg "_law_row" s_l_row ["_law_words", "_law_sorts"] t.a_l_row t.d_l_row
  l_due : DefOk K mg "_law_due" s_l_due ["_law_lines"] t.a_l_due t.d_l_due
  l_alike : DefOk K mg "_law_alike" s_l_alike ["_law_found", "_law_due_here"] t.a_l_alike t.d_l_alike
  l_other : DefOk K mg "_law_other" s_l_other ["_law_e"] t.a_l_other t.d_l_other
  l_right : DefOk K mg "_law_right" s_l_right ["_law_lines"] t.a_l_right t.d_l_right
  law : DefOk K mg "law" s_law ["_law_script"] t.a_law t.d_law
  c_WIDE : ∃ tk, mg "WIDE" = some (.int 281474976710656 tk)
  c_LETTERS : ∃ tk, mg "LETTERS" = some (.str letters tk)
  c_FIGURES : ∃ tk, mg "FIGURES" = some (.str figs tk)
  c_MOST_LETTERS : ∃ tk, mg "MOST_LETTERS" = some (.int 8 tk)
  c_MOST_FIGURES : ∃ tk, mg "MOST_FIGURES" = some (.int 15 tk)
  c_MOST_ARGS : ∃ tk, mg "MOST_ARGS" = some (.int 6 tk)
  c_TAKEN_WORDS : mg "TAKEN_WORDS" = some (.ref t.a_TAKEN)
  q_TAKEN : ∀ H : Hp, SqT K H t.a_TAKEN (taken.map V.str)
  c_SIGNS : mg "SIGNS" = some (.ref t.a_SIGNS)
  q_SIGNS : ∀ H : Hp, SqT K H t.a_SIGNS (signs.map V.str)
  c_FORMS : mg "FORMS" = some (.ref t.a_FORMS)
  q_FORMS : TabK2 K t.a_FORMS formsV
  b_len : mg "len" = none
  b_list : mg "list" = none
  b_tuple : mg "tuple" = none
  b_isinstance : mg "isinstance" = none
  b_range : mg "range" = none
  b_all : mg "all" = none
  b_enumerate : mg "enumerate" = none
  b_dict : mg "dict" = none
  b_str : mg "str" = none
  b_zip : mg "zip" = none
  b_int : mg "int" = none
  b_bool : mg "bool" = none
  b_min : mg "min" = none
  b_max : mg "max" = none
  b_ValueError : mg "ValueError" = none
  bl : ∀ (s : Shared) (u : Value), BindsTo s t.d_law ⟨[u], []⟩ [("_law_script", u)]
section
variable {P : Program} {w : World} {K : PySem.W.Frag} {mg : Str → Option Value} {base : Heap} {t : Adr}
def sp_BadRow_init (t : Adr) : Sp := fun vs H Q _ => ∃ (x : Addr) (v : V), vs = [.ref x, v] ∧ H x = some (XO x t.x_BadRow none) ∧ ∀ dx, H dx = none → Q .non (upd (upd H dx (XD dx [("at", v)])) x (XO x t.x_BadRow (some dx)))
def sp_is_made_of (K : PySem.W.Frag) : Sp := fun vs H Q _ => ∃ (x S : Str) (m : Int), vs = [.str x, .str S, .int m] ∧ x.length < 1000 ∧ ∀ H', Same H H' → Q (.bl (madeOf x S m)) H'
def sp_is_name (K : PySem.W.Frag) : Sp := fun vs H Q _ => ∃ (x : Str), vs = [.str x] ∧ x.length < 1000 ∧ ∀ H', Same H H' → Q (.bl (named x)) H'
def sp_value_of (K : PySem.W.Frag) : Sp := fun vs H Q _ => ∃ (x : Str), vs = [.str x] ∧ x.length < 1000 ∧ ∀ H', Same H H' → Q (lawVal x) H'
def sp_atom_of (K : PySem.W.Frag) : Sp := fun vs H Q _ => ∃ (x : Str), vs = [.str x] ∧ x.length < 1000 ∧ ∀ H', Same H H' → Q (atomF x) H'
def sp_part_of (K : PySem.W.Frag) : Sp := fun vs H Q _ => ∃ (w p : Str), vs = [.str w, .str p] ∧ w.length < 1000 ∧ ∀ H', Same H H' → Q (partV w p) H'
def sp_parts_of (K : PySem.W.Frag) : Sp := fun vs H Q _ => ∃ (a f : Addr) (ws fs : List Str), vs = [.ref a, .ref f] ∧ SqL K H a (ws.map V.str) ∧ SqT K H f (fs.map V.str) ∧ Short ws ∧ fs.length ≤ 1000 ∧ (partsG ws fs = none → ∀ H', Same H H' → Q .non H') ∧
  (∀ found, partsG ws fs = some found → ∀ d H', H d = none → Same H H' → H' d = some (.dK found) → Q (.ref d) H')
def sp_is_opening (K : PySem.W.Frag) : Sp := fun vs H Q _ => ∃ (a : Addr) (ws : List Str), vs = [.ref a] ∧ SqL K H a (ws.map V.str) ∧ ws ≠ [] ∧ Short ws ∧ ∀ H', Same H H' → Q (.bl (opening ws)) H'
def sp_function_of (K : PySem.W.Frag) : Sp := fun vs H Q _ => ∃ (a r : Addr) (w0 w1 : Str) (ws : List Str) (us : List V), vs = [.ref a, .ref r] ∧ SqL K H a ((w0 :: w1 :: ws).map V.str) ∧ SqL K H r us ∧
  ∀ p q s H', Same H H' → H' p = some (.tup [.str w1, .bl (decide (V.str w0 = V.str "in")), .ref q, .ref s]) → H' q = some (.tup (ws.map V.str)) → H' s = some (.tup us) → Q (.ref p) H'
def sp_l_cell (K : PySem.W.Frag) : Sp := fun vs H Q _ => ∃ (a : Addr) (ns : List Int) (k : Int), vs = [.ref a, .int k] ∧ SqL K H a (ns.map V.int) ∧ ns.length ≤ 63 ∧ 0 ≤ k ∧ k < 1000000 ∧ ∀ z, Q (.int z) H
def sp_l_part (K : PySem.W.Frag) : Sp := fun vs H Q _ => ∃ (c j m : Int), vs = [.int c, .int j, .int m] ∧ 0 ≤ j ∧ 0 < m ∧ ∀ z H', 0 ≤ z → z < m → Same H H' → Q (.int z) H'
def sp_with_args (K : PySem.W.Frag) : Sp := fun vs H Q _ => ∃ (p w : Addr) (xs : List V) (ws : List Str), vs = [.ref p, .ref w] ∧ SqT K H p xs ∧ SqL K H w (ws.map V.str) ∧ Short ws ∧ xs ≠ [] ∧ xs.length ≤ 100 ∧
  ((6 < ws.length ∨ inV .non (ws.map atomF) = true) → ∀ H', Same H H' → Q .non H') ∧ (ws.length ≤ 6 → inV .non (ws.map atomF) = false → ∀ r q H', Same H H' → H' q = some (.tup (ws.map atomF)) → H' r = some (.tup (xs ++ [.ref q])) → Q (.ref r) H')
def Rows (H : Hp) (Q : VK) (ws : List Str) : Prop := (∀ d, rowGo ws forms = some d → ∀ v H', Same H H' → RowV H' v d → Q v H') ∧ (rowGo ws forms = none → ∀ H', Same H H' → Q .non H')
def sp_row_of (K : PySem.W.Frag) : Sp := fun vs H Q _ => ∃ (a : Addr) (ws : List Str), vs = [.ref a] ∧ SqL K H a (ws.map V.str) ∧ Short ws ∧ Rows H Q ws

structure LnOk (xs : List Str) : Prop where
  ne : xs ≠ []
  len : xs.length ≤ 60
  each : ∀ x ∈ xs, Free 10 x ∧ x.length ≤ 900
abbrev lns (xs : List Str) : List (List Str) := xs.map wds
def sp_read (K : PySem.W.Frag) (t : Adr) : Sp := fun vs H Q E => ∃ (xs : List Str), vs = [.str (Txt.join ⟨#[10]⟩ xs)] ∧ LnOk xs ∧ (OkTo (lns xs) xs.length → ∀ l H', Same H H' → ProgV H' l (stW (lns xs) xs.length) → Q (.ref l) H') ∧
  ∀ i, Bad (lns xs) i → OkTo (lns xs) i → ∀ dx H', Same H H' → H' dx = some (XD dx [("at", .int (i : Nat))]) → E (.ref t.x_BadRow) (some dx) H'
def sp_l_taken (K : PySem.W.Frag) : Sp := fun vs H Q _ => vs = [] ∧ ∀ p, H p = none → Q (.ref p) (upd H p (.lst (taken.map V.str)))
def Txts (H : Hp) (Q : VK) (n : Nat) : Prop := ∀ x H', Free 10 x → x.length ≤ n → Same H H' → Q (.str x) H'
def sp_l_sign (K : PySem.W.Frag) : Sp := fun vs H Q _ => ∃ (c : Int), vs = [.int c] ∧ ∀ x : Str, Free 10 x → x.length ≤ 2 → Q (.str x) H
def sp_l_name (K : PySem.W.Frag) : Sp := fun vs H Q _ => ∃ (b k : Int), vs = [.int b, .int k] ∧ Txts H Q 20
def sp_l_atom (K : PySem.W.Frag) : Sp := fun vs H Q _ => ∃ (b k : Int), vs = [.int b, .int k] ∧ Txts H Q 20
def sp_l_good (K : PySem.W.Frag) : Sp := fun vs H Q _ => ∃ (b c l : Int), vs = [.int b, .int c, .int l] ∧ (l = 0 ∨ l = 2) ∧ Txts H Q 400
def sp_l_odd (K : PySem.W.Frag) : Sp := fun vs H Q _ => ∃ (c : Int), vs = [.int c] ∧ Txts H Q 60
def sp_l_spoilt (K : PySem.W.Frag) : Sp := fun vs H Q _ => ∃ (x : Str) (c : Int), vs = [.str x, .int c] ∧ Free 10 x ∧ x.length ≤ 400 ∧ Txts H Q 4000000
def sp_l_sort (K : PySem.W.Frag) : Sp := fun vs H Q _ => ∃ (x : Str), vs = [.str x] ∧ x.length < 1000 ∧ ∀ H', Same H H' → Q (.str (tx [srt x])) H'
def sp_l_worth (K : PySem.W.Frag) : Sp := fun vs H Q _ => ∃ (x : Str), vs = [.str x] ∧ x.length < 1000 ∧ ∀ H', Same H H' → Q (wv x) H'
def sp_l_row (K : PySem.W.Frag) : Sp := fun vs H Q _ => ∃ (a : Addr) (ws : List Str), vs = [.ref a, .str (tx (ws.map srt))] ∧ SqL K H a (ws.map V.str) ∧ Short ws ∧ ws ≠ [] ∧ Rows H Q ws
def sp_l_due (K : PySem.W.Frag) : Sp := fun vs H Q _ => ∃ (a : Addr) (xs : List Str), vs = [.ref a] ∧ SqL K H a (xs.map V.str) ∧ LnOk xs ∧ (OkTo (lns xs) xs.length → ∀ l p H', Same H H' → H' l = some (.lst [.ref p, .non]) → ProgV H' p (stW (lns xs) xs.length) → Q (.ref l) H') ∧
  ∀ i, Bad (lns xs) i → OkTo (lns xs) i → ∀ l H', Same H H' → H' l = some (.lst [.non, .int (i : Nat)]) → Q (.ref l) H'
def sp_l_alike (K : PySem.W.Frag) (n : Nat) : Sp := fun vs H Q _ => ∃ (x y : V) (d : Nat), vs = [x, y] ∧ d < n ∧ Alk H d x y ∧ ∀ H', Same H H' → Q (.bl true) H'
def sp_l_other (K : PySem.W.Frag) (t : Adr) : Sp := fun vs H Q _ => ∃ (ea dx : Addr) (v : V), vs = [.ref ea] ∧ H ea = some (XC ea t.x_BadRow (some dx)) ∧ H dx = some (XD dx [("at", v)]) ∧ ∀ H', Same H H' → Q (.bl false) H'
def sp_l_right (K : PySem.W.Frag) (t : Adr) : Sp := fun vs H Q _ => ∃ (a : Addr) (xs : List Str), vs = [.ref a] ∧ SqL K H a (xs.map V.str) ∧ LnOk xs ∧ ∀ H', Same H H' → Q (.bl true) H'
def sp_law (K : PySem.W.Frag) : Sp := fun vs H Q _ => ∃ (a : Addr) (ns : List Int), vs = [.ref a] ∧ SqL K H a (ns.map V.int) ∧ ns.length ≤ 63 ∧ ∀ H', Q (.bl true) H'
theorem lt_line {n : Nat} (h : n < 1000000) : n ≤ sizeLine := by
  have : (1000000 : Nat) < sizeLine := by decide
  omega
theorem le5 : 5 ≤ sizeLine := by decide
theorem ixA_of {H : Hp} {Q : VK} {a : Addr} {xs : List V} {i : Nat} {v : V} (h : SqL K H a xs ∨ SqT K H a xs) (hv : xs[i]? = some v) (q : Q v H) : rIxA K (.ref a) (.int (0 + (i : Int))) H Q := by
  have e : atI xs (0 + (i : Int)) = some v := by rw [Int.zero_add]; exact atI_nat hv
  exact h.elim (fun h => .inl ⟨a, xs, _, v, rfl, rfl, h, e, q⟩) (fun h => .inr ⟨a, xs, _, v, rfl, rfl, h, e, q⟩)
theorem sq_mono {H H' : Hp} {a : Addr} {xs : List V} (s : Same H H') (h : SqL K H a xs ∨ SqT K H a xs) : SqL K H' a xs ∨ SqT K H' a xs := h.imp s.seq s.tup
theorem ixS_mem {H : Hp} {Q : VK} {z : Str} {i : Int} (hz : z.length ≤ 1000) (h0 : 0 ≤ i) (h1 : i < z.length) (h : ∀ c ∈ z.cps.toList, Q (.str ⟨#[c]⟩) H) : rIxS (.str z) (.int i) H Q := by
  have hi : i.toNat < z.cps.toList.length := by rw [len_cps]; omega
  have e : z.cps.toList[i.toNat]? = some z.cps.toList[i.toNat] := List.getElem?_eq_getElem hi
  refine ⟨z, i, z.cps.toList[i.toNat], rfl, rfl, lt_line (by omega), ?_, h _ (List.getElem_mem hi)⟩
  unfold atI ixN
  rw [if_pos h0, if_pos (by rw [len_cps]; exact h1), Option.bind_some]
  exact e
theorem free1 {c : Nat} (h : c ≠ 10) : Free 10 ⟨#[c]⟩ := by
  unfold Free
  simp
  exact fun z => h z.symm
theorem signs_free : ∀ c ∈ (signs1 ++ signs2).cps.toList, c ≠ 10 := by decide +kernel
theorem free_app {x y : Str} (h : Free 10 x) (h' : Free 10 y) : Free 10 (x ++ y) := by
  unfold Free
  rw [app_cps]
  simp only [List.mem_append, not_or]
  exact ⟨h, h'⟩
theorem free_slice {x : Str} {l u : Option Int} (h : Free 10 x) : Free 10 (Txt.slice x l u) := fun z => h (slice_mem z)
theorem len_app (x y : Str) : (x ++ y).length = x.length + y.length := Str.length_append x y
theorem sign_mem {c : Int} {H : Hp} {Q : VK} (h : ∀ x : Str, Free 10 x → x.length ≤ 2 → Q (.str x) H) : rIxS (.str (signs1 ++ signs2)) (.int (c % 94)) H Q := by
  have e : (signs1 ++ signs2).length = 94 := by rw [Str.length_append]; exact signs_94
  exact ixS_mem (by rw [e]; decide) (Int.emod_nonneg _ (by decide)) (by rw [e]; exact Int.emod_lt_of_pos _ (by decide)) fun x hx => h _ (free1 (signs_free x hx)) (by show 1 ≤ 2; decide)
theorem okto_succ {ls : List (List Str)} {i : Nat} (h : OkTo ls i) (n : ¬ Bad ls i) : OkTo ls (i + 1) := fun j hj => by
  rcases Nat.lt_or_ge j i with z | z
  · exact h j z
  · rw [show j = i by omega]; exact n
theorem xnew {H : Hp} {x dx : Addr} {o : HO} (h1 : H x = none) (h2 : upd H x o dx = none) : dx ≠ x ∧ H dx = none := by
  have e : dx ≠ x := fun z => by rw [z, upd_same] at h2; cases h2
  exact ⟨e, by rwa [upd_ne e] at h2⟩
theorem xers {H : Hp} {x dx : Addr} {o u v : HO} (h1 : H x = none) (h2 : dx ≠ x) : ers x (upd (upd (upd H x o) dx u) x v) = upd H dx u := by
  funext b
  unfold L2.ers upd
  by_cases z : b = x
  · rw [if_pos z, if_neg (fun q => h2 (q.symm.trans z)), z]; exact h1.symm
  · rw [if_neg z, if_neg z]
    by_cases z2 : b = dx
    · rw [if_pos z2, if_pos z2]
    · rw [if_neg z2, if_neg z2, if_neg z]
theorem open_cons {l : List Str} (h : opening l = true) : ∃ w0 w1 ws, l = w0 :: w1 :: ws := by
  unfold opening at h
  simp only [Bool.and_eq_true, decide_eq_true_eq, List.length_drop] at h
  match l, h with
  | w0 :: w1 :: ws, _ => exact ⟨w0, w1, ws, rfl⟩
  | [w0], h => simp at h
  | [], h => simp at h
theorem dec_in (w : Str) : decide (V.str w = V.str "in") = decide (w = "in") := by
  rw [Bool.eq_iff_iff, decide_eq_true_eq, decide_eq_true_eq]
  exact ⟨V.str.inj, fun z => by rw [z]⟩
theorem tk_ret {H : Hp} {Q : VK} {x : Str} {p : Addr} (hx : x ∈ taken) (hp : SqL K H p (taken.map V.str)) (q : Q (.str (tx [srt x])) H) : rLIx K (.ref p) [.str x] H fun y H' => rIxS (.str "FIWGPCOfwedb") y H' Q := by
  have key : ∀ j c, j < 12 → taken[j]? = some x → (∀ m, m < j → taken[m]? ≠ some x) → ("FIWGPCOfwedb" : Str).cps.toList[j]? = some c → srt x = c → rLIx K (.ref p) [.str x] H fun y H' => rIxS (.str "FIWGPCOfwedb") y H' Q := by
    intro j c hj h1 h2 h3 h4
    refine ⟨p, _, .str x, j, rfl, rfl, hp, rfl, by decide +kernel, by omega, ⟨.str x, by rw [List.getElem?_map, h1]; rfl, by show (x == x) = true; simp⟩, fun m z hm hz => ?_, ?_⟩
    · rw [List.getElem?_map] at hz
      cases e : taken[m]? with
      | none => rw [e] at hz; cases hz
      | some y =>
        rw [e] at hz
        cases hz
        show (y == x) = false
        rw [beq_eq_false_iff_ne]
        intro z
        exact h2 m hm (by rw [e, z])
    · refine ⟨_, _, c, rfl, rfl, by decide +kernel, atI_nat h3, ?_⟩
      rw [h4] at q
      exact q
  simp only [taken, List.mem_cons, List.not_mem_nil, or_false] at hx
  rcases hx with rfl | rfl | rfl | rfl | rfl | rfl | rfl | rfl | rfl | rfl | rfl | rfl
  · exact key 0 70 (by decide) (by decide +kernel) (by decide +kernel) (by decide +kernel) (by decide +kernel)
  · exact key 1 73 (by decide) (by decide +kernel) (by decide +kernel) (by decide +kernel) (by decide +kernel)
  · exact key 2 87 (by decide) (by decide +kernel) (by decide +kernel) (by decide +kernel) (by decide +kernel)
  · exact key 3 71 (by decide) (by decide +kernel) (by decide +kernel) (by decide +kernel) (by decide +kernel)
  · exact key 4 80 (by decide) (by decide +kernel) (by decide +kernel) (by decide +kernel) (by decide +kernel)
  · exact key 5 67 (by decide) (by decide +kernel) (by decide +kernel) (by decide +kernel) (by decide +kernel)
  · exact key 6 79 (by decide) (by decide +kernel) (by decide +kernel) (by decide +kernel) (by decide +kernel)
  · exact key 7 102 (by decide) (by decide +kernel) (by decide +kernel) (by decide +kernel) (by decide +kernel)
  · exact key 8 119 (by decide) (by decide +kernel) (by decide +kernel) (by decide +kernel) (by decide +kernel)
  · exact key 9 101 (by decide) (by decide +kernel) (by decide +kernel) (by decide +kernel) (by decide +kernel)
  · exact key 10 100 (by decide) (by decide +kernel) (by decide +kernel) (by decide +kernel) (by decide +kernel)
  · exact key 11 98 (by decide) (by decide +kernel) (by decide +kernel) (by decide +kernel) (by decide +kernel)

theorem no_tk {x : Str} (h : x ∉ taken) : tkc.lookup x = none := by
  cases e : tkc.lookup x with
  | none => rfl
  | some c =>
    have := lookup_mem e
    have key : ∀ p ∈ tkc, p.1 ∈ taken := by decide +kernel
    exact absurd (key _ this) h
theorem taken_no {x : Str} (h : x ∉ taken) : isTaken x = false := by
  unfold isTaken
  rw [inV_str]
  exact decide_eq_false h
def stg (x S : Str) : List V := (x.cps.toList.filter fun c => !inS c S).map fun c => V.str ⟨#[c]⟩
theorem stg_nil (x S : Str) : stg x S = [] ↔ allIn x S = true := by
  unfold stg allIn
  rw [List.map_eq_nil_iff, List.filter_eq_nil_iff, List.all_eq_true]
  constructor
  · intro h c hc
    have := h c hc
    cases e : inS c S with
    | true => rfl
    | false => rw [e] at this; exact absurd rfl this
  · intro h c hc
    rw [h c hc]
    decide
theorem empty_iff (x : Str) : x = "" ↔ x.length = 0 := by
  constructor
  · intro z; rw [z]; decide +kernel
  · intro z
    refine str_ext ?_
    have : x.cps.toList = [] := List.length_eq_zero_iff.mp (by rw [len_cps]; exact z)
    rw [this]
    decide +kernel
theorem srt_n {x : Str} (h : x ∉ taken) (h0 : x ≠ "") (h9 : x.length < 9) (hs : stg x letters = []) : srt x = 110 := by
  have hp : 0 < x.length := Nat.pos_of_ne_zero fun z => h0 ((empty_iff x).mpr z)
  refine (n_iff x).mpr ?_
  unfold N named within
  rw [(stg_nil x letters).mp hs, taken_no h, decide_eq_true (by omega), decide_eq_true (by omega)]
  rfl
theorem not_n {x : Str} (h : ¬ (x ≠ "" ∧ x.length < 9 ∧ stg x letters = [])) : ¬ N x := by
  intro z
  obtain ⟨h1, h2, h3, _⟩ := named_all z
  exact h ⟨fun e => by rw [e] at h2; exact absurd h2 (by decide +kernel), by omega, (stg_nil x letters).mpr h1⟩
theorem srt_of {x : Str} (h : x ∉ taken) (hn : ¬ N x) : srt x = if lawVal x ≠ .non then 118 else if x = "=" then 61 else if isSign x = true then 115 else 63 := by
  unfold srt
  rw [no_tk h]
  exact if_neg hn
theorem val_no1 {x : Str} (h : stg x figs ≠ []) : lawVal x = .non := by
  unfold lawVal
  rw [if_neg]
  intro z
  have := z.1
  unfold within at this
  rw [Bool.and_eq_true] at this
  exact h ((stg_nil x figs).mpr this.1)
theorem val_no2 {x : Str} (h : ¬ x.length < 16) : lawVal x = .non := by
  unfold lawVal
  rw [if_neg]
  intro z
  have w := z.1
  unfold within at w
  rw [Bool.and_eq_true] at w
  have := big_of w.1 (by omega) fun e => z.2.1 ⟨by omega, e⟩
  omega
theorem val_no0 : lawVal "" = .non := by decide +kernel
theorem sign_text : ("+-*/<=&|^" : Str).cps.toList = [43, 45, 42, 47, 60, 61, 38, 124, 94] := by decide +kernel
theorem sign_iff {c : Nat} : inS c "+-*/<=&|^" = isSign ⟨#[c]⟩ := by
  rw [inS_iff, sign_text]
  unfold isSign
  rw [inV_str, Bool.eq_iff_iff, decide_eq_true_eq, decide_eq_true_eq]
  have e : signs = [43, 45, 42, 47, 60, 61, 38, 124, 94].map fun c => (⟨#[c]⟩ : Str) := by decide +kernel
  rw [e, List.mem_map]
  constructor
  · intro h; exact ⟨c, h, rfl⟩
  · rintro ⟨d, hd, z⟩
    have : d = c := by
      have := congrArg (fun y : Str => y.cps.toList) z
      simpa using this
    rw [← this]; exact hd
theorem one_sign {x : Str} (h : x.length = 1) : ∃ c, x = ⟨#[c]⟩ := by
  have hl : x.cps.toList.length = 1 := by rw [len_cps]; exact h
  match e : x.cps.toList, hl with
  | [c], _ => exact ⟨c, str_ext (by rw [e])⟩
theorem sign_one {x : Str} (h : isSign x = true) : x.length = 1 := by
  unfold isSign at h
  rw [inV_str, decide_eq_true_eq] at h
  have : ∀ y ∈ signs, y.length = 1 := by decide +kernel
  exact this x h

instance {c : Nat} {w : Str} : Decidable (Free c w) := inferInstanceAs (Decidable (c ∉ w.cps.toList))
theorem lets_free {cs : List Nat} (h : Lets cs) : Free 10 (tx cs) := fun z => by
  rw [tx_cps] at z
  have := h _ z
  omega
def okB (n : Nat) : V → Bool
  | .str x => (!x.cps.toList.contains 10) && decide (x.length ≤ n)
  | _ => false
theorem ok_of {n : Nat} {v : V} (h : okB n v = true) : ∃ x, v = .str x ∧ Free 10 x ∧ x.length ≤ n := by
  cases v with
  | str x =>
    unfold okB at h
    rw [Bool.and_eq_true, decide_eq_true_eq] at h
    refine ⟨x, rfl, fun z => ?_, h.2⟩
    have := h.1
    rw [List.contains_iff_mem.mpr z] at this
    cases this
  | _ => cases h
theorem odd_pick {H : Hp} {Q : VK} {l : Addr} {xs : List V} {c : Int} (hs : SqL K H l xs) (h : xs.length = 53) (ha : xs.all (okB 60) = true) (q : ∀ x, Free 10 x → x.length ≤ 60 → Q (.str x) H) : rIxL K (.ref l) (.int (c % 53)) H Q := by
  obtain ⟨v, hv, hm⟩ := atI_some (xs := xs) (i := c % 53) (Int.emod_nonneg _ (by decide)) (by rw [h]; exact Int.emod_lt_of_pos _ (by decide))
  obtain ⟨x, rfl, h1, h2⟩ := ok_of (List.all_eq_true.mp ha v hm)
  exact ⟨l, xs, _, _, rfl, rfl, hs, hv, q x h1 h2⟩
theorem refs_of {as : List Addr} {us : List Value} (h : Vals (as.map V.ref) us) : us = as.map Value.ref := by
  induction as generalizing us with
  | nil => cases h; rfl
  | cons a as ih =>
    cases h with
    | cons r rs => cases r; rw [ih rs]; rfl
theorem dec_text {m : Nat} (h : m < 281474976710656) : Free 10 (PySem.Str.ofString (toString (m : Int))) ∧ (PySem.Str.ofString (toString (m : Int))).length ≤ 20 := by
  obtain ⟨cs, e, hd, _, _, _, hl⟩ := text_ex (i := (m : Int)) (by omega)
  have e : (PySem.Str.ofString (toString (m : Int))).cps.toList = cs := e
  refine ⟨fun z => ?_, ?_⟩
  · rw [e] at z
    have := hd 10 z
    omega
  · rw [← len_cps, e]
    exact hl 20 (by decide) (by omega)
def Tx (n : Nat) (x : Str) : Prop := Free 10 x ∧ x.length ≤ n
instance {n : Nat} {x : Str} : Decidable (Tx n x) := inferInstanceAs (Decidable (Free 10 x ∧ x.length ≤ n))
theorem Tx.cat {x y : Str} {m n : Nat} (hx : Tx m x) (hy : Tx n y) : Tx (m + n) (x ++ y) := ⟨free_app hx.1 hy.1, by rw [len_app]; have := hx.2; have := hy.2; omega⟩
theorem Tx.bd {x y : Str} {m n : Nat} (hx : Tx m x) (hy : Tx n y) (h : m + n < 1000000) : x.length + y.length ≤ sizeLine := lt_line (by have := hx.2; have := hy.2; omega)
theorem Tx.le {x : Str} {m n : Nat} (hx : Tx m x) (h : m ≤ n) : Tx n x := ⟨hx.1, Nat.le_trans hx.2 h⟩
def OkV (n : Nat) (v : V) : Prop := ∃ x, v = .str x ∧ Tx n x
theorem Tx.v {x : Str} {m n : Nat} (hx : Tx m x) (h : m ≤ n) : OkV n (.str x) := ⟨x, rfl, hx.le h⟩
theorem strs_of {vs : List V} {n : Nat} (h : ∀ (i : Nat) v, vs[i]? = some v → OkV n v) : ∃ ys : List Str, vs = ys.map V.str ∧ (∀ y ∈ ys, Tx n y) := by
  obtain ⟨xs, hx⟩ := pick (P := fun v x => v = .str x ∧ Tx n x) h
  exact ⟨xs, (hx.mono fun _ _ p => p.1).eq, hx.right fun _ _ p => p.2⟩
theorem log_small {m : Nat} (h : m < 281474976710656) : m.log2 < 1920 := by
  by_cases z : m = 0
  · subst z; decide
  · have := (Nat.log2_lt z (k := 48)).mpr (by omega)
    omega
def OkAll (n : Nat) (vs : List V) : Prop := ∀ v ∈ vs, OkV n v
theorem okn {n : Nat} : OkAll n [] := fun v h => by cases h
theorem okc {n : Nat} {v : V} {vs : List V} (h : OkV n v) (hs : OkAll n vs) : OkAll n (v :: vs) := fun u hu => by
  rcases List.mem_cons.mp hu with rfl | hu
  · exact h
  · exact hs u hu
theorem oka {n : Nat} {us vs : List V} (h : OkAll n us) (hs : OkAll n vs) : OkAll n (us ++ vs) := fun u hu => (List.mem_append.mp hu).elim (h u) (hs u)
theorem okm {n : Nat} {xs : List Str} (h : ∀ x ∈ xs, Tx n x) : OkAll n (xs.map V.str) := fun u hu => by
  obtain ⟨x, hx, rfl⟩ := List.mem_map.mp hu
  exact ⟨x, rfl, h x hx⟩
theorem pick_ok {H : Hp} {Q : VK} {l : Addr} {xs : List V} {i : Int} {n : Nat} (hs : SqL K H l xs) (h0 : 0 ≤ i) (h1 : i < xs.length) (ha : OkAll n xs) (q : ∀ x, Tx n x → Q (.str x) H) : rIxL K (.ref l) (.int i) H Q := by
  obtain ⟨v, hv, hm⟩ := atI_some (xs := xs) h0 h1
  obtain ⟨x, rfl, h⟩ := ha v hm
  exact ⟨l, xs, _, _, rfl, rfl, hs, hv, q x h⟩
theorem fnin_at {i : Int} (h0 : 0 ≤ i) (h1 : i < 2) : ∃ kw : Str, atI [V.str (PySem.Str.ofString "fn"), V.str (PySem.Str.ofString "in")] i = some (.str kw) ∧ Tx 20 kw := by
  obtain ⟨v, hv, hm⟩ := atI_some (xs := [V.str (PySem.Str.ofString "fn"), V.str (PySem.Str.ofString "in")]) h0 h1
  simp only [List.mem_cons, List.not_mem_nil, or_false] at hm
  rcases hm with rfl | rfl
  · exact ⟨_, hv, by decide +kernel⟩
  · exact ⟨_, hv, by decide +kernel⟩
theorem sp_is : (PySem.Str.ofString " ") = ⟨#[32]⟩ := by decide +kernel
theorem join_tx {ws : List Str} {n m : Nat} (h : ∀ w ∈ ws, Tx n w) (hm : ws.length ≤ m) : Tx (m * (n + 1)) (Txt.join (PySem.Str.ofString " ") ws) :=
  ⟨by rw [sp_is]; exact free_join (by decide) fun w hw => (h w hw).1, len_join_le (by decide +kernel) (fun w hw => (h w hw).2) hm⟩
theorem join_bd {ws : List Str} {n m : Nat} (h : ∀ w ∈ ws, Tx n w) (hm : ws.length ≤ m) (hb : m * (n + 1) ≤ 16777216) : (ws.map (·.length)).sum + ws.length * (PySem.Str.ofString " ").length ≤ 16777216 := by
  have h2 := sum_le (ws := ws) (n := n) fun w hw => (h w hw).2
  rw [show (PySem.Str.ofString " ").length = 1 from by decide +kernel]
  have h3 : ws.length * (n + 1) ≤ m * (n + 1) := Nat.mul_le_mul_right _ hm
  rw [Nat.mul_succ] at h3
  omega
theorem ok_all {n : Nat} {xs : List V} (h : xs.all (okB n) = true) : OkAll n xs := fun v hv => by
  obtain ⟨x, rfl, h1, h2⟩ := ok_of (List.all_eq_true.mp h v hv)
  exact ⟨x, rfl, h1, h2⟩
theorem tx_self (x : Str) : tx x.cps.toList = x := str_ext (tx_cps _)
theorem slice_to {x : Str} {n : Nat} {i : Int} (h : Tx n x) (h0 : 0 ≤ i) : Tx n (Txt.slice x none (some i)) := by
  obtain ⟨j, rfl⟩ := Int.eq_ofNat_of_zero_le h0
  refine ⟨free_slice h.1, ?_⟩
  have e := sl_to x.cps.toList j
  rw [tx_self] at e
  rw [show ((j : Nat) : Int) = Int.ofNat j from rfl] at e
  have := h.2
  show (Txt.slice x none (some (Int.ofNat j))).length ≤ n
  rw [e, tx_len, List.length_take, len_cps]
  omega
theorem slice_140 {x : Str} (h : Free 10 x) : Tx 140 (Txt.slice x none (some 140)) := by
  refine ⟨free_slice h, ?_⟩
  have e := sl_to x.cps.toList 140
  rw [tx_self] at e
  show (Txt.slice x none (some ((140 : Nat) : Int))).length ≤ 140
  rw [e, tx_len, List.length_take]
  omega
theorem slice_from {x : Str} {n : Nat} {i : Int} (h : Tx n x) (h0 : 0 ≤ i) : Tx n (Txt.slice x (some i) none) := by
  obtain ⟨j, rfl⟩ := Int.eq_ofNat_of_zero_le h0
  refine ⟨free_slice h.1, ?_⟩
  have e := sl_from x.cps.toList j
  rw [tx_self] at e
  rw [show ((j : Nat) : Int) = Int.ofNat j from rfl] at e
  have := h.2
  show (Txt.slice x (some (Int.ofNat j)) none).length ≤ n
  rw [e, tx_len, List.length_drop, len_cps]
  omega
theorem cut_str (ws : List Str) (lo hi : Option Int) : ∃ ys : List Str, cutV (ws.map V.str) lo hi = ys.map V.str ∧ (∀ y ∈ ys, y ∈ ws) ∧ ys.length ≤ ws.length := by
  unfold cutV
  refine ⟨(ws.drop (HT.sIx (ws.map V.str).length 0 lo)).take (HT.sIx (ws.map V.str).length (ws.map V.str).length hi - HT.sIx (ws.map V.str).length 0 lo), by rw [List.map_take, List.map_drop], fun y hy => List.mem_of_mem_drop (List.mem_of_mem_take hy), ?_⟩
  rw [List.length_take, List.length_drop]
  omega
theorem pick_int {H : Hp} {Q : VK} {l : Addr} {xs : List V} {i : Int} {P : Int → Prop} (hs : SqL K H l xs) (h0 : 0 ≤ i) (h1 : i < xs.length) (ha : ∀ v ∈ xs, ∃ z : Int, v = .int z ∧ P z) (q : ∀ z, P z → Q (.int z) H) : rIxL K (.ref l) (.int i) H Q := by
  obtain ⟨v, hv, hm⟩ := atI_some (xs := xs) h0 h1
  obtain ⟨x, rfl, h⟩ := ha v hm
  exact ⟨l, xs, _, _, rfl, rfl, hs, hv, q x h⟩
theorem idx_bd (a b : Bool) : 0 ≤ (if (if a = true then (1 : Int) else 0) + 2 * (if b = true then 1 else 0) < 2 then (if a = true then (1 : Int) else 0) + 2 * (if b = true then 1 else 0) else 2) ∧ (if (if a = true then (1 : Int) else 0) + 2 * (if b = true then 1 else 0) < 2 then (if a = true then (1 : Int) else 0) + 2 * (if b = true then 1 else 0) else 2) < ((3 : Nat) : Int) := by
  cases a <;> cases b <;> decide
theorem cut_to (xs : List V) (k : Nat) : cutV xs none (some (k : Int)) = xs.take k := by
  unfold cutV HT.sIx
  simp only
  rw [if_neg (by omega)]
  by_cases h : k ≤ xs.length
  · rw [show min (k : Int).toNat xs.length = k by omega]
    simp
  · rw [show min (k : Int).toNat xs.length = xs.length by omega]
    rw [List.take_of_length_le (show xs.length ≤ k by omega)]
    simp
end
end K15

set_option Elab.async false
set_option linter.all false
set_option maxRecDepth 100000
set_option maxHeartbeats 4000000
namespace K15
open PySem L2 Gx K11
section
variable {P : Program} {w : World} {K : PySem.W.Frag} {mg : Str → Option Value} {base : Heap} {t : Adr}
theorem sc_l_cell : FnScope ["_law_script", "_law_k", "_law_seed"] ["_law_script", "_law_k"] (defScope s_l_cell) := ⟨rfl, rfl, rfl, by decide +kernel, rfl, by decide +kernel, by decide +kernel⟩
theorem ok_l_cell (T : Txt K mg t) : FnOk P w K mg base CX0 1 t.a_l_cell t.d_l_cell ["_law_script", "_law_k"] (sp_l_cell K) := by
  refine T.l_cell.F.ok sc_l_cell (fun vs H Q E h => ?_) (fun cdv A outer s H vs Q E hr h => ?_)
  · obtain ⟨a, ns, k, rfl, hS, hl, h0, h1, q⟩ := h
    rfl
  · obtain ⟨a, ns, k, rfl, hS, hl, h0, h1, q⟩ := h
    refine ⟨_, (@pss_cons _ _ _ _ _ (@ps_if _ _ _ _ _ _ _ _ (@pt_cmpR _ _ _ _ _ _ _ _ op_lt (pv 1) (pe_callB call_len_seq (by rfl) T.b_len bt_len (@pa_cons _ _ _ _ _ (pv 0) pa_nil (by rfl))) (nomark _)) (@pss_one _ _ _ (@ps_ret _ _ _ _ (@pe_ix _ _ _ _ _ _ _ ix_list (pv 0) (pv 1) (fun _ _ => rfl)))) pss_nil) (@pss_cons _ _ _ _ _ (@ps_set _ _ 2 _ _ _ _ sc_l_cell.nd rfl (Or.inl rfl) pe_int (by rfl) (by first | exact .inl rfl | exact .inr rfl | assumption)) (@pss_cons _ _ _ _ _ (@ps_if _ _ _ _ _ _ _ _ (@pt_cmpR _ _ _ _ _ _ _ _ op_gt (pe_callB call_len_seq (by rfl) T.b_len bt_len (@pa_cons _ _ _ _ _ (pv 0) pa_nil (by rfl))) pe_int (nomark _)) (@pss_one _ _ _ (@ps_set _ _ 2 _ _ _ _ sc_l_cell.nd rfl (Or.inl rfl) (@pe_op _ _ _ _ _ _ _ _ op_mod (@pe_ix _ _ _ _ _ _ _ ix_list (pv 0) (@pe_op _ _ _ _ _ _ _ _ op_mod (pv 1) (pe_callB call_len_seq (by rfl) T.b_len bt_len (@pa_cons _ _ _ _ _ (pv 0) pa_nil (by rfl)))) (fun _ _ => rfl)) pe_int) (by rfl) (by first | exact .inl rfl | exact .inr rfl | assumption))) pss_nil) (@pss_one _ _ _ (@ps_ret _ _ _ _ (@pe_op _ _ _ _ _ _ _ _ op_mod (@pe_op _ _ _ _ _ _ _ _ op_mul (@pe_op _ _ _ _ _ _ _ _ op_add (@pe_op _ _ _ _ _ _ _ _ op_add (pv 2) (@pe_op _ _ _ _ _ _ _ _ op_mul pe_int (pv 1))) pe_int) (@pe_op _ _ _ _ _ _ _ _ op_add (@pe_op _ _ _ _ _ _ _ _ op_add (pv 2) (@pe_op _ _ _ _ _ _ _ _ op_mul pe_int (pv 1))) pe_int)) pe_int)))))), ?_⟩
    have hlen : (ns.map V.int).length = ns.length := List.length_map _
    refine ⟨_, rfl, _, rfl, a, _, rfl, .inl hS, _, _, rfl, rfl, _, rfl, ?_⟩
    refine ite2 (fun c => ?_) (fun c => ?_)
    · have c := dec_true c
      rw [hlen] at c
      obtain ⟨z, hz⟩ := at_ints h0 c
      exact ⟨_, rfl, _, rfl, a, _, _, _, rfl, rfl, hS, hz, q _⟩
    · refine ⟨_, rfl, a, _, rfl, .inl hS, _, _, rfl, rfl, _, rfl, ?_⟩
      refine ite2 (fun c2 => ?_) (fun c2 => ?_)
      · have c2 := dec_true c2
        rw [hlen] at c2
        obtain ⟨z, hz⟩ := at_ints (ns := ns) (i := k % (ns.length : Int)) (Int.emod_nonneg _ (by omega)) (Int.emod_lt_of_pos _ (by omega))
        refine ⟨_, rfl, _, rfl, _, rfl, a, _, rfl, .inl hS, _, _, rfl, rfl, (by show (0 : Int) < ((ns.map V.int).length : Int); rw [hlen]; exact c2), a, _, _, _, rfl, rfl, hS, (by rw [hlen]; exact hz), _, _, rfl, rfl, (show (0 : Int) < 999983 by decide), ?_⟩
        have b1 : 0 ≤ z % 999983 := Int.emod_nonneg _ (by decide)
        have b2 : z % 999983 < 999983 := Int.emod_lt_of_pos _ (by decide)
        exact ⟨_, rfl, _, rfl, _, _, rfl, rfl, .inl ⟨by decide, by decide⟩, _, _, rfl, rfl, _, _, rfl, rfl, _, rfl, _, rfl, _, _, rfl, rfl, .inl ⟨by decide, by decide⟩, _, _, rfl, rfl, _, _, rfl, rfl, _, _, rfl, rfl, .inl ⟨by omega, by omega⟩, _, _, rfl, rfl, (show (0 : Int) < 1000003 by decide), q _⟩
      · exact ⟨_, rfl, _, rfl, _, _, rfl, rfl, .inl ⟨by decide, by decide⟩, _, _, rfl, rfl, _, _, rfl, rfl, _, rfl, _, rfl, _, _, rfl, rfl, .inl ⟨by decide, by decide⟩, _, _, rfl, rfl, _, _, rfl, rfl, _, _, rfl, rfl, .inl ⟨by omega, by omega⟩, _, _, rfl, rfl, (show (0 : Int) < 1000003 by decide), q _⟩
end
end K15

set_option Elab.async false
set_option linter.all false
set_option maxRecDepth 100000
set_option maxHeartbeats 4000000
namespace K15
open PySem L2 Gx K11 K14
section
variable {P : Program} {w : World} {K : PySem.W.Frag} {mg : Str → Option Value} {base : Heap} {t : Adr}
theorem sc_l_taken : FnScope ([] : List Str) [] (defScope s_l_taken) := ⟨rfl, rfl, rfl, by decide +kernel, rfl, by decide +kernel, by decide +kernel⟩
theorem ok_l_taken (T : Txt K mg t) : FnOk P w K mg base CX0 1 t.a_l_taken t.d_l_taken [] (sp_l_taken K) := by
  refine T.l_taken.F.ok sc_l_taken (fun vs H Q E h => ?_) (fun cdv A outer s H vs Q E hr h => ?_)
  · obtain ⟨rfl, q⟩ := h
    rfl
  · obtain ⟨rfl, q⟩ := h
    refine ⟨_, (@pss_cons _ _ _ _ _ (@ps_ret _ _ _ _ (@pe_litL _ _ [V.str "fn", V.str "in", V.str "new", V.str "get", V.str "put", V.str "call", V.str "out", V.str "if", V.str "while", V.str "else", V.str "end", V.str "back"] (by kernel_rfl))) pss_nil), ?_⟩
    exact ⟨(by show 12 ≤ sizeLine; decide), fun p hp => q p hp⟩
end
end K15

set_option Elab.async false
set_option linter.all false
set_option maxRecDepth 100000
set_option maxHeartbeats 4000000
namespace K15
open PySem L2 Gx K11 K14
section
variable {P : Program} {w : World} {K : PySem.W.Frag} {mg : Str → Option Value} {base : Heap} {t : Adr}
theorem sc_l_sort : FnScope ["_law_word", "_law_strange"] ["_law_word"] (defScope s_l_sort) := ⟨rfl, rfl, rfl, by decide +kernel, rfl, by decide +kernel, by decide +kernel⟩
theorem ok_l_sort (T : Txt K mg t) : FnOk P w K mg base CX0 2 t.a_l_sort t.d_l_sort ["_law_word"] (sp_l_sort K) := by
  have G_l_taken : FnOk P w K mg base CX0 1 t.a_l_taken t.d_l_taken [] (sp_l_taken K) := ok_l_taken T
  refine T.l_sort.F.ok sc_l_sort (fun vs H Q E h => ?_) (fun cdv A outer s H vs Q E hr h => ?_)
  · obtain ⟨x, rfl, hl, q⟩ := h
    rfl
  · obtain ⟨x, rfl, hl, q⟩ := h
    refine ⟨_, (@pss_cons _ _ _ _ _ (@ps_if _ _ _ _ _ _ _ _ (@pt_cmpR _ _ _ _ _ _ _ _ op_in_seq (pv 0) (callD0 T.l_taken G_l_taken (hr.mono (by decide))) (by with_unfolding_all rfl)) (@pss_one _ _ _ (@ps_ret _ _ _ _ (@pe_ix _ _ _ _ _ _ _ ix_str pe_str (pe_bm PySem.F.plainAttrs_list PySem.F.slot_list_index PySem.F.type_list_index mt_index (callD0 T.l_taken G_l_taken (hr.mono (by decide))) (@pa_cons _ _ _ _ _ (pv 0) pa_nil (by rfl))) (fun _ _ => rfl)))) pss_nil) (@pss_cons _ _ _ _ _ (ps_setc (i := 1) sc_l_sort.nd rfl (Or.inl rfl) (N' := ["_law_one"]) (js := [none]) (by kernel_rfl) rfl (pi_str (pv 0)) own_name (fun _ _ _ _ => (pg_name (i := 0) (show (["_law_one"] : List Str).Nodup by decide +kernel) rfl (Or.inl rfl) (.inr rfl))) (fun _ _ _ _ => (pif_one (@pt_cmpR _ _ _ _ _ _ _ _ op_notin_str (pv 0) pe_str (by with_unfolding_all rfl)))) (fun _ _ _ _ => (pv 0)) (by rfl)) (@pss_cut _ _ _ _ _ (@ps_if _ _ _ _ _ _ _ _ (@PW.pt _ _ _ (@pw_and _ _ _ _ _ _ _ (@pt_cmpR _ _ _ _ _ _ _ _ op_ne (pv 0) pe_str (nomark _)) (@pw_and _ _ _ _ _ _ _ (@pt_cmpR _ _ _ _ _ _ _ _ op_lt (pe_callB call_len_str (by rfl) T.b_len bt_len (@pa_cons _ _ _ _ _ (pv 0) pa_nil (by rfl))) pe_int (nomark _)) (@pw_and1 _ _ _ _ (@pt_cmpR _ _ _ _ _ _ _ _ (op_eqNil hr.units) (pv 1) (@pe_lst _ _ _ _ pa_nil) (nomark _)))))) (@pss_one _ _ _ (@ps_ret _ _ _ _ pe_str)) pss_nil) (@pss_cons _ _ _ _ _ (ps_setc (i := 1) sc_l_sort.nd rfl (Or.inl rfl) (N' := ["_law_one"]) (js := [none]) (by kernel_rfl) rfl (pi_str (pv 0)) own_name (fun _ _ _ _ => (pg_name (i := 0) (show (["_law_one"] : List Str).Nodup by decide +kernel) rfl (Or.inl rfl) (.inr rfl))) (fun _ _ _ _ => (pif_one (@pt_cmpR _ _ _ _ _ _ _ _ op_notin_str (pv 0) pe_str (by with_unfolding_all rfl)))) (fun _ _ _ _ => (pv 0)) (by rfl)) (@pss_cut _ _ _ _ _ (@ps_if _ _ _ _ _ _ _ _ (@PW.pt _ _ _ (@pw_and _ _ _ _ _ _ _ (@pt_cmpR _ _ _ _ _ _ _ _ op_ne (pv 0) pe_str (nomark _)) (@pw_and _ _ _ _ _ _ _ (@pt_cmpR _ _ _ _ _ _ _ _ op_lt (pe_callB call_len_str (by rfl) T.b_len bt_len (@pa_cons _ _ _ _ _ (pv 0) pa_nil (by rfl))) pe_int (nomark _)) (@pw_and1 _ _ _ _ (@pt_cmpR _ _ _ _ _ _ _ _ (op_eqNil hr.units) (pv 1) (@pe_lst _ _ _ _ pa_nil) (nomark _)))))) (@pss_one _ _ _ (@ps_if _ _ _ _ _ _ _ _ (@PW.pt _ _ _ (pw_or (@pt_cmpR _ _ _ _ _ _ _ _ op_eq (pv 0) pe_str (nomark _)) (pw_or1 (@PW.pt _ _ _ (@pw_and _ _ _ _ _ _ _ (@pt_cmpR _ _ _ _ _ _ _ _ op_ne (@pe_ix _ _ _ _ _ _ _ ix_str (pv 0) pe_int (fun _ _ => rfl)) pe_str (nomark _)) (@pw_and1 _ _ _ _ (@pt_cmpR _ _ _ _ _ _ _ _ op_lt (pe_callTy call_int_str (by rfl) T.b_int bt_int (@pa_cons _ _ _ _ _ (pv 0) pa_nil (by rfl))) (@pe_op _ _ _ _ _ _ _ _ op_pow pe_int pe_int) (nomark _)))))))) (@pss_one _ _ _ (@ps_ret _ _ _ _ pe_str)) pss_nil)) pss_nil) (@pss_cons _ _ _ _ _ (@ps_if _ _ _ _ _ _ _ _ (@PW.pt _ _ _ (@pw_and _ _ _ _ _ _ _ (@pt_cmpR _ _ _ _ _ _ _ _ op_eq (pe_callB call_len_str (by rfl) T.b_len bt_len (@pa_cons _ _ _ _ _ (pv 0) pa_nil (by rfl))) pe_int (nomark _)) (@pw_and1 _ _ _ _ (@pt_cmpR _ _ _ _ _ _ _ _ op_in_str (pv 0) pe_str (by with_unfolding_all rfl))))) (@pss_one _ _ _ (@ps_ret _ _ _ _ (@pe_ix _ _ _ _ _ _ _ ix_list (@pe_lst _ _ _ _ (@pa_cons _ _ _ _ _ pe_str (@pa_cons _ _ _ _ _ pe_str pa_nil (by rfl)) (by rfl))) (pe_callTy call_int1 (by rfl) T.b_int bt_int (@pa_cons _ _ _ _ _ (pe_cmpR op_eq (pv 0) pe_str (nomark _)) pa_nil (by rfl))) (fun _ _ => rfl)))) pss_nil) (@pss_one _ _ _ (@ps_ret _ _ _ _ pe_str)))))))), ?_⟩
    have fl : (taken.map V.str).all flatV = true := by decide +kernel
    refine ⟨_, rfl, rfl, fun p hp => ⟨p, _, rfl, .inl (SqL.of upd_same), rfl, fl, _, rfl, ?_⟩⟩
    have s1 := Same.new (o := .lst (taken.map V.str)) hp
    generalize upd H p (.lst (taken.map V.str)) = H1 at s1 ⊢
    rw [show (if false = true then !inV (.str x) (taken.map V.str) else inV (.str x) (taken.map V.str)) = decide (x ∈ taken) from inV_str x taken]
    by_cases hx : x ∈ taken
    · refine iteP (decide_eq_true hx) ⟨rfl, fun p2 hp2 => ⟨.inl ⟨rfl, _, SqL.of upd_same⟩, _, rfl, tk_ret hx (SqL.of upd_same) (q _ (s1.trans (Same.new hp2)))⟩⟩
    refine iteN (fun z => hx (of_decide_eq_true z)) ?_
    have hcs := srt_cases x
    refine ⟨_, rfl, x, rfl, fun u hu => comp_str (z := x) (by omega) (fun i acc H2 => Same H1 H2 ∧ H2 u = some (.lst acc) ∧ acc = (((x.cps.toList.take i).filter fun c => !inS c letters).map fun c => V.str ⟨#[c]⟩)) ⟨Same.new hu, upd_same, rfl⟩ ?_ ?_ ?_⟩
    · rintro i acc H2 hi ⟨s2, e2, rfl⟩
      refine ⟨e2, ?_⟩
      rw [List.length_map]
      exact Nat.le_trans (List.length_filter_le _ _) (by rw [List.length_take]; omega)
    · rintro i c acc H2 hc ⟨s2, e2, rfl⟩
      have hc' : x.cps.toList[i]? = some c := by simpa using hc
      refine ⟨_, rfl, _, _, rfl, rfl, _, rfl, ?_⟩
      cases hin : inS c letters with
      | true =>
        refine iteN (by show ¬ (!inS c letters) = true; rw [hin]; decide) ⟨s2, e2, ?_⟩
        rw [List.take_add_one, hc', List.filter_append]
        simp [hin]
      | false =>
        refine iteP (by show (!inS c letters) = true; rw [hin]; rfl) ⟨_, rfl, e2, s2.upd hu, upd_same, ?_⟩
        rw [List.take_add_one, hc', List.filter_append]
        simp [hin]
    rintro acc H2 ⟨s2, e2, rfl⟩
    rw [List.take_of_length_le (Nat.le_of_eq (len_cps x)), show ((x.cps.toList.filter fun c => !inS c letters).map fun c => V.str ⟨#[c]⟩) = stg x letters from rfl] at e2
    refine ⟨fun σ H' => Same H2 H' ∧ σ = [some (.str x), some (.ref u)] ∧ ¬ N x, ?_, ?_⟩
    · refine ⟨_, rfl, rfl, _, rfl, ?_⟩
      by_cases h0 : x = ""
      · exact iteN (by rw [h0, decide_eq_true rfl]; decide) (iteN (by simp) ⟨Same.refl _, rfl, not_n fun z => z.1 h0⟩)
      refine iteP (by rw [decide_eq_false (fun z => h0 (V.str.inj z))]; rfl) ⟨_, rfl, _, rfl, lt_line (by omega), _, _, rfl, rfl, _, rfl, ?_⟩
      by_cases h9 : x.length < 9
      · refine iteP (decide_eq_true (by omega)) ⟨_, rfl, le0, fun lz hlz => ⟨u, lz, _, rfl, rfl, SqL.of (Same.new hlz _ _ e2), SqL.of upd_same, _, rfl, ?_⟩⟩
        by_cases hs : stg x letters = []
        · refine iteP (decide_eq_true hs) ?_
          have := q _ ((s1.trans s2).trans (Same.new (o := .lst []) hlz))
          rw [srt_n hx h0 h9 hs] at this
          exact this
        · exact iteN (fun z => hs (of_decide_eq_true z)) ⟨Same.new hlz, rfl, not_n fun z => hs z.2.2⟩
      · exact iteN (fun z => by have := dec_true z; omega) (iteN (by simp) ⟨Same.refl _, rfl, not_n fun z => h9 z.2.1⟩)
    rintro σ H3 ⟨s3, rfl, hnn⟩
    refine ⟨_, rfl, x, rfl, fun u2 hu => comp_str (z := x) (by omega) (fun i acc H2 => Same H3 H2 ∧ H2 u2 = some (.lst acc) ∧ acc = (((x.cps.toList.take i).filter fun c => !inS c figs).map fun c => V.str ⟨#[c]⟩)) ⟨Same.new hu, upd_same, rfl⟩ ?_ ?_ ?_⟩
    · rintro i acc H2 hi ⟨s2, e2, rfl⟩
      refine ⟨e2, ?_⟩
      rw [List.length_map]
      exact Nat.le_trans (List.length_filter_le _ _) (by rw [List.length_take]; omega)
    · rintro i c acc H2 hc ⟨s2, e2, rfl⟩
      have hc' : x.cps.toList[i]? = some c := by simpa using hc
      refine ⟨_, rfl, _, _, rfl, rfl, _, rfl, ?_⟩
      cases hin : inS c figs with
      | true =>
        refine iteN (by show ¬ (!inS c figs) = true; rw [hin]; decide) ⟨s2, e2, ?_⟩
        rw [List.take_add_one, hc', List.filter_append]
        simp [hin]
      | false =>
        refine iteP (by show (!inS c figs) = true; rw [hin]; rfl) ⟨_, rfl, e2, s2.upd hu, upd_same, ?_⟩
        rw [List.take_add_one, hc', List.filter_append]
        simp [hin]
    rintro acc H4 ⟨s4, e4, rfl⟩
    rw [List.take_of_length_le (Nat.le_of_eq (len_cps x)), show ((x.cps.toList.filter fun c => !inS c figs).map fun c => V.str ⟨#[c]⟩) = stg x figs from rfl] at e4
    have s04 := ((s1.trans s2).trans s3).trans s4
    refine ⟨fun σ H' => Same H4 H' ∧ σ = [some (.str x), some (.ref u2)] ∧ lawVal x = .non, ?_, ?_⟩
    · refine ⟨_, rfl, rfl, _, rfl, ?_⟩
      by_cases h0 : x = ""
      · exact iteN (by rw [h0, decide_eq_true rfl]; decide) (iteN (by simp) ⟨Same.refl _, rfl, by rw [h0]; exact val_no0⟩)
      have hpos : 0 < x.length := Nat.pos_of_ne_zero fun z => h0 ((empty_iff x).mpr z)
      refine iteP (by rw [decide_eq_false (fun z => h0 (V.str.inj z))]; rfl) ⟨_, rfl, _, rfl, lt_line (by omega), _, _, rfl, rfl, _, rfl, ?_⟩
      by_cases h16 : x.length < 16
      · refine iteP (decide_eq_true (by omega)) ⟨_, rfl, le0, fun lz hlz => ⟨u2, lz, _, rfl, rfl, SqL.of (Same.new hlz _ _ e4), SqL.of upd_same, _, rfl, ?_⟩⟩
        have s5 := Same.new (o := .lst []) hlz
        by_cases hs : stg x figs = []
        · have hall := (stg_nil x figs).mp hs
          have hw : within x figs = true := by unfold within; rw [hall, decide_eq_true (by omega)]; rfl
          refine iteP (decide_eq_true hs) ⟨_, rfl, rfl, _, rfl, ?_⟩
          have yes : lawVal x ≠ .non → Q (.str (tx [118])) (upd H4 lz (.lst [])) := fun hv => by
            have := q _ (s04.trans s5)
            rw [srt_of hx hnn, if_pos hv] at this
            exact this
          by_cases hz : x = "0"
          · refine iteP (decide_eq_true (by rw [hz])) (iteP rfl (yes ?_))
            rw [hz]
            decide +kernel
          obtain ⟨c0, hf, hat⟩ := first_at hpos
          refine iteN (fun z => hz (V.str.inj (of_decide_eq_true z))) ⟨_, rfl, _, _, _, rfl, rfl, lt_line (by omega), hat, rfl, _, rfl, ?_⟩
          by_cases hc : c0 = 48
          · refine iteN (by rw [hc, decide_eq_true (congrArg V.str zero_str)]; decide) (iteN (by simp) ⟨s5, rfl, ?_⟩)
            unfold lawVal
            rw [if_neg]
            intro h
            refine h.2.1 ⟨?_, by rw [hf, hc]⟩
            by_cases h1 : 1 < x.length
            · exact h1
            · exact absurd (one_fig (by omega) (by rw [hf, hc])) hz
          · refine iteP (by rw [decide_eq_false (fun z => hc (str_zero (V.str.inj z)))]; rfl) ⟨_, rfl, x, _, rfl, PySem.intText_digits (digits_of_all hall) (by intro z; have := len_cps x; rw [z] at this; simp at this; omega) (by omega), by omega, _, _, rfl, rfl, ⟨by decide, by decide, by decide⟩, _, _, rfl, rfl, _, rfl, ?_⟩
            rw [← total_digits hall]
            have hzz : ¬ (1 < x.length ∧ first x = some 48) := fun h => hc (by rw [hf] at h; exact Option.some.inj h.2)
            by_cases g : total x < 2 ^ 48
            · refine iteP (decide_eq_true g) (yes ?_)
              unfold lawVal
              rw [if_pos ⟨hw, hzz, g⟩]
              intro z; cases z
            · refine iteN (fun z => g (of_decide_eq_true z)) ⟨s5, rfl, ?_⟩
              unfold lawVal
              rw [if_neg]
              exact fun h => g h.2.2
        · exact iteN (fun z => hs (of_decide_eq_true z)) ⟨s5, rfl, val_no1 hs⟩
      · exact iteN (fun z => by have := dec_true z; omega) (iteN (by simp) ⟨Same.refl _, rfl, val_no2 h16⟩)
    rintro σ H5 ⟨s5, rfl, hv⟩
    have so := srt_of hx hnn
    rw [if_neg (fun z => z hv)] at so
    have s05 := s04.trans s5
    refine ⟨_, rfl, _, rfl, lt_line (by omega), rfl, _, rfl, ?_⟩
    by_cases h1 : x.length = 1
    · obtain ⟨c, rfl⟩ := one_sign h1
      refine iteP (decide_eq_true (by rw [h1]; rfl)) ⟨_, rfl, _, _, rfl, rfl, _, rfl, ?_⟩
      rw [show (!(Builtin.Str.occurrences (PySem.Str.ofString "+-*/<=&|^") ⟨#[c]⟩ 0 (PySem.Str.ofString "+-*/<=&|^").length 1).isEmpty) = isSign ⟨#[c]⟩ from sign_iff]
      cases hs : isSign ⟨#[c]⟩ with
      | true =>
        rw [hs] at so
        refine iteP rfl ⟨le2, fun l hl => ⟨_, rfl, rfl, .inr ⟨_, rfl, ?_⟩⟩⟩
        have qq := q _ (s05.trans (Same.new (o := .lst [.str "s", .str "="]) hl))
        rw [so] at qq
        by_cases he : (⟨#[c]⟩ : Str) = "="
        · rw [if_pos he] at qq
          rw [if_pos (decide_eq_true (congrArg V.str he))]
          exact ⟨l, _, _, _, rfl, rfl, SqL.of upd_same, rfl, qq⟩
        · rw [if_neg he, if_pos rfl] at qq
          rw [if_neg (fun z => he (V.str.inj (of_decide_eq_true z)))]
          exact ⟨l, _, _, _, rfl, rfl, SqL.of upd_same, rfl, qq⟩
      | false =>
        rw [hs, if_neg (fun z => by rw [z] at hs; exact absurd hs (by decide +kernel)), if_neg Bool.false_ne_true] at so
        have := q _ s05
        rw [so] at this
        exact iteN (by simp) this
    · refine iteN (fun z => h1 (by have := V.int.inj (of_decide_eq_true z); omega)) (iteN (by simp) ?_)
      rw [if_neg (fun z => h1 (by rw [z]; decide +kernel)), if_neg (fun z => h1 (sign_one z))] at so
      have := q _ s05
      rw [so] at this
      exact this
end
end K15

set_option Elab.async false
set_option linter.all false
set_option maxRecDepth 100000
set_option maxHeartbeats 4000000
namespace K15
open PySem L2 Gx K11 K14
section
variable {P : Program} {w : World} {K : PySem.W.Frag} {mg : Str → Option Value} {base : Heap} {t : Adr}
theorem sc_l_worth : FnScope ["_law_word"] ["_law_word"] (defScope s_l_worth) := ⟨rfl, rfl, rfl, by decide +kernel, rfl, by decide +kernel, by decide +kernel⟩
theorem ok_l_worth (T : Txt K mg t) : FnOk P w K mg base CX0 3 t.a_l_worth t.d_l_worth ["_law_word"] (sp_l_worth K) := by
  have G_l_sort : FnOk P w K mg base CX0 2 t.a_l_sort t.d_l_sort ["_law_word"] (sp_l_sort K) := ok_l_sort T
  refine T.l_worth.F.ok sc_l_worth (fun vs H Q E h => ?_) (fun cdv A outer s H vs Q E hr h => ?_)
  · obtain ⟨x, rfl, hl, q⟩ := h
    rfl
  · obtain ⟨x, rfl, hl, q⟩ := h
    refine ⟨_, (@pss_cons _ _ _ _ _ (@ps_if _ _ _ _ _ _ _ _ (@pt_cmpR _ _ _ _ _ _ _ _ op_eq (callD T.l_sort G_l_sort (hr.mono (by decide)) (@pa_cons _ _ _ _ _ (pv 0) pa_nil (by rfl))) pe_str (nomark _)) (@pss_one _ _ _ (@ps_ret _ _ _ _ (pe_callTy call_int_str (by rfl) T.b_int bt_int (@pa_cons _ _ _ _ _ (pv 0) pa_nil (by rfl))))) pss_nil) (@pss_one _ _ _ (@ps_ret _ _ _ _ (pv 0)))), ?_⟩
    refine ⟨_, rfl, x, rfl, hl, fun H1 s1 => ⟨rfl, _, rfl, ?_⟩⟩
    by_cases h : srt x = 118
    · have hv : lawVal x ≠ .non := by
        rcases srt_cases x with ⟨m, _⟩ | ⟨_, ⟨e, _⟩ | ⟨_, _, _, e, _⟩ | ⟨e, _⟩ | ⟨e, _⟩ | ⟨e, _⟩⟩
        · have := (tk_bad _ m).2.2.2.2
          simp only [h] at this
          exact absurd (by simp) this
        · rw [e] at h; cases h
        · exact e
        all_goals (rw [e] at h; cases h)
      have hc : within x figs = true ∧ ¬ (1 < x.length ∧ first x = some 48) ∧ total x < 2 ^ 48 := by
        unfold lawVal at hv
        split at hv
        · assumption
        · exact absurd rfl hv
      have hw := hc.1
      unfold within at hw
      rw [Bool.and_eq_true, decide_eq_true_eq] at hw
      have h16 : x.length < 16 := Classical.byContradiction fun z => hv (val_no2 z)
      refine iteP (decide_eq_true (by rw [h]; rfl)) ⟨_, rfl, x, _, rfl, PySem.intText_digits (digits_of_all hw.1) (by intro z; have := len_cps x; rw [z] at this; simp at this; omega) (by omega), by omega, ?_⟩
      rw [← total_digits hw.1]
      have := q H1 s1
      unfold wv at this
      rw [if_pos h] at this
      unfold lawVal at this
      rw [if_pos hc] at this
      exact this
    · refine iteN (fun z => h ?_) ⟨_, rfl, ?_⟩
      · have := V.str.inj (of_decide_eq_true z)
        have := congrArg (fun y : Str => y.cps.toList) this
        rw [tx_cps] at this
        exact (List.cons.inj this).1
      · have := q H1 s1
        unfold wv at this
        rw [if_neg h] at this
        exact this
end
end K15

set_option Elab.async false
set_option linter.all false
set_option maxRecDepth 100000
set_option maxHeartbeats 4000000
namespace K15
open PySem L2 Gx K11 K14
section
variable {P : Program} {w : World} {K : PySem.W.Frag} {mg : Str → Option Value} {base : Heap} {t : Adr}
theorem sc_l_row : FnScope ["_law_words", "_law_sorts", "_law_atoms", "_law_loose"] ["_law_words", "_law_sorts"] (defScope s_l_row) := ⟨rfl, rfl, rfl, by decide +kernel, rfl, by decide +kernel, by decide +kernel⟩
theorem ok_l_row (T : Txt K mg t) : FnOkP P w K mg base 4 t.a_l_row t.d_l_row ["_law_words", "_law_sorts"] (sp_l_row K) := by
  have G_l_worth : FnOk P w K mg base CX0 3 t.a_l_worth t.d_l_worth ["_law_word"] (sp_l_worth K) := ok_l_worth T
  refine T.l_row.F.okP sc_l_row (fun vs H Q E h => ?_) (fun cdv A outer s H vs Q E hr h => ?_)
  · obtain ⟨a, ws, rfl, ha, hs, hne, q⟩ := h
    rfl
  · obtain ⟨a, ws, rfl, ha, hs, hne, q⟩ := h
    refine ⟨_, (pssp_cons (PS.p (ps_setc (i := 2) sc_l_row.nd rfl (Or.inl rfl) (N' := ["_law_word"]) (js := [none]) (by kernel_rfl) rfl (pi_list (pv 0)) own_name (fun _ _ _ _ => (pg_name (i := 0) (show (["_law_word"] : List Str).Nodup by decide +kernel) rfl (Or.inl rfl) (.inr rfl))) (fun _ _ _ _ => pif_nil) (fun _ _ _ _ => (callD T.l_worth G_l_worth (hr.mono (by decide)) (@pa_cons _ _ _ _ _ (pv 0) pa_nil (by rfl)))) (by rfl))) (pssp_cons (psp_set (i := 3) sc_l_row.nd rfl (Or.inl rfl) (pep_repl (pv 1))) (pssp_cons (PS.p (@ps_if _ _ _ _ _ _ _ _ (@pt_cmpR _ _ _ _ _ _ _ _ op_in_seq (pv 3) (@pe_litT _ _ [V.str "On", V.str "fn", V.str "wn", V.str "bn"] (by kernel_rfl)) (by with_unfolding_all rfl)) (@pss_one _ _ _ (@ps_ret _ _ _ _ (@pe_tup _ _ _ _ _ (@pa_cons _ _ _ _ _ (@pe_ix _ _ _ _ _ _ _ ix_list (pv 0) pe_int (fun _ _ => rfl)) (@pa_cons _ _ _ _ _ (@pe_ix _ _ _ _ _ _ _ ix_list (pv 2) pe_int (fun _ _ => rfl)) pa_nil (by rfl)) (by rfl))))) pss_nil)) (pssp_cons (PS.p (@ps_if _ _ _ _ _ _ _ _ (@PW.pt _ _ _ (pw_or (@pt_cmpR _ _ _ _ _ _ _ _ op_eq (pv 3) pe_str (nomark _)) (pw_or1 (@pt_cmpR _ _ _ _ _ _ _ _ op_eq (pv 3) pe_str (nomark _))))) (@pss_one _ _ _ (@ps_ret _ _ _ _ (@pe_tup _ _ _ _ _ (@pa_cons _ _ _ _ _ (@pe_ix _ _ _ _ _ _ _ ix_list (pv 0) pe_int (fun _ _ => rfl)) pa_nil (by rfl))))) pss_nil)) (pssp_cut (PS.p (@ps_if _ _ _ _ _ _ _ _ (@PW.pt _ _ _ (@pw_and _ _ _ _ _ _ _ (@pt_cmpR _ _ _ _ _ _ _ _ op_eq (pv 3) pe_str (nomark _)) (@pw_and1 _ _ _ _ (@pt_cmpR _ _ _ _ _ _ _ _ op_eq (@pe_ix _ _ _ _ _ _ _ ix_str (pv 1) pe_int (fun _ _ => rfl)) pe_str (nomark _))))) (@pss_one _ _ _ (@ps_ret _ _ _ _ (@pe_tup _ _ _ _ _ (@pa_cons _ _ _ _ _ pe_str (@pa_cons _ _ _ _ _ (@pe_ix _ _ _ _ _ _ _ ix_list (pv 2) pe_int (fun _ _ => rfl)) (@pa_cons _ _ _ _ _ (@pe_ix _ _ _ _ _ _ _ ix_list (pv 0) pe_int (fun _ _ => rfl)) (@pa_cons _ _ _ _ _ (@pe_ix _ _ _ _ _ _ _ ix_list (pv 2) pe_int (fun _ _ => rfl)) pa_nil (by rfl)) (by rfl)) (by rfl)) (by rfl))))) pss_nil)) (pssp_cons (PS.p (@ps_if _ _ _ _ _ _ _ _ (@pt_cmpR _ _ _ _ _ _ _ _ op_ne (@pe_slice _ _ _ _ _ _ _ _ _ _ sl_str (pv 1) po_none (po_some pe_int)) pe_str (nomark _)) (@pss_one _ _ _ (@ps_ret _ _ _ _ pe_non)) pss_nil)) (pssp_cons (PS.p (@ps_if _ _ _ _ _ _ _ _ (@pt_cmpR _ _ _ _ _ _ _ _ op_eq (@pe_slice _ _ _ _ _ _ _ _ _ _ sl_str (pv 3) (po_some pe_int) po_none) pe_str (nomark _)) (@pss_one _ _ _ (@ps_ret _ _ _ _ (@pe_tup _ _ _ _ _ (@pa_cons _ _ _ _ _ pe_str (@pa_cons _ _ _ _ _ (@pe_ix _ _ _ _ _ _ _ ix_list (pv 0) pe_int (fun _ _ => rfl)) (@pa_cons _ _ _ _ _ (@pe_ix _ _ _ _ _ _ _ ix_list (pv 2) pe_int (fun _ _ => rfl)) pa_nil (by rfl)) (by rfl)) (by rfl))))) pss_nil)) (pssp_cons (PS.p (@ps_if _ _ _ _ _ _ _ _ (@pt_cmpR _ _ _ _ _ _ _ _ op_eq (@pe_slice _ _ _ _ _ _ _ _ _ _ sl_str (pv 3) (po_some pe_int) po_none) pe_str (nomark _)) (@pss_one _ _ _ (@ps_ret _ _ _ _ (@pe_tup _ _ _ _ _ (@pa_cons _ _ _ _ _ pe_str (@pa_cons _ _ _ _ _ (@pe_ix _ _ _ _ _ _ _ ix_list (pv 0) pe_int (fun _ _ => rfl)) pa_nil (by rfl)) (by rfl))))) pss_nil)) (pssp_cut (PS.p (@ps_if _ _ _ _ _ _ _ _ (@PW.pt _ _ _ (@pw_and _ _ _ _ _ _ _ (@pt_cmpR _ _ _ _ _ _ _ _ op_eq (@pe_slice _ _ _ _ _ _ _ _ _ _ sl_str (pv 3) (po_some pe_int) po_none) pe_str (nomark _)) (@pw_and1 _ _ _ _ (@pt_cmpR _ _ _ _ _ _ _ _ op_eq (@pe_ix _ _ _ _ _ _ _ ix_str (pv 1) pe_int (fun _ _ => rfl)) pe_str (nomark _))))) (@pss_one _ _ _ (@ps_ret _ _ _ _ (@pe_tup _ _ _ _ _ (@pa_cons _ _ _ _ _ pe_str (@pa_cons _ _ _ _ _ (@pe_ix _ _ _ _ _ _ _ ix_list (pv 0) pe_int (fun _ _ => rfl)) (@pa_cons _ _ _ _ _ (@pe_ix _ _ _ _ _ _ _ ix_list (pv 2) pe_int (fun _ _ => rfl)) (@pa_cons _ _ _ _ _ (@pe_ix _ _ _ _ _ _ _ ix_list (pv 0) pe_int (fun _ _ => rfl)) pa_nil (by rfl)) (by rfl)) (by rfl)) (by rfl))))) pss_nil)) (pssp_cons (PS.p (@ps_if _ _ _ _ _ _ _ _ (@PW.pt _ _ _ (pw_or (@pt_cmpR _ _ _ _ _ _ _ _ op_eq (@pe_slice _ _ _ _ _ _ _ _ _ _ sl_str (pv 3) (po_some pe_int) po_none) pe_str (nomark _)) (pw_or1 (@pt_cmpR _ _ _ _ _ _ _ _ op_eq (@pe_slice _ _ _ _ _ _ _ _ _ _ sl_str (pv 3) (po_some pe_int) po_none) pe_str (nomark _))))) (@pss_one _ _ _ (@ps_ret _ _ _ _ (@pe_tup _ _ _ _ _ (@pa_cons _ _ _ _ _ pe_str (@pa_cons _ _ _ _ _ (@pe_ix _ _ _ _ _ _ _ ix_list (pv 0) pe_int (fun _ _ => rfl)) (@pa_cons _ _ _ _ _ (@pe_ix _ _ _ _ _ _ _ ix_list (pv 0) pe_int (fun _ _ => rfl)) (@pa_cons _ _ _ _ _ (@pe_ix _ _ _ _ _ _ _ ix_list (pv 2) pe_int (fun _ _ => rfl)) (@pa_cons _ _ _ _ _ (@pe_ix _ _ _ _ _ _ _ ix_list (pv 2) pe_int (fun _ _ => rfl)) pa_nil (by rfl)) (by rfl)) (by rfl)) (by rfl)) (by rfl))))) pss_nil)) (pssp_cons (psp_if (PWp.pt (pwp_and (@pt_cmpR _ _ _ _ _ _ _ _ op_eq (@pe_slice _ _ _ _ _ _ _ _ _ _ sl_str (pv 1) (po_some pe_int) (po_some pe_int)) pe_str (nomark _)) (pwp_and (@pt_cmpR _ _ _ _ _ _ _ _ op_le (pe_callB call_len_seq (by rfl) T.b_len bt_len (@pa_cons _ _ _ _ _ (pv 0) pa_nil (by rfl))) pe_int (nomark _)) (pwp_and1 (ptp_cmp op_eq (pep_repl (@pe_slice _ _ _ _ _ _ _ _ _ _ sl_str (pv 3) (po_some pe_int) po_none)) pe_str (nomark _)))))) (PSs.p (@pss_one _ _ _ (@ps_ret _ _ _ _ (@pe_tup _ _ _ _ _ (@pa_cons _ _ _ _ _ pe_str (@pa_cons _ _ _ _ _ (@pe_ix _ _ _ _ _ _ _ ix_list (pv 0) pe_int (fun _ _ => rfl)) (@pa_cons _ _ _ _ _ (@pe_ix _ _ _ _ _ _ _ ix_list (pv 0) pe_int (fun _ _ => rfl)) (@pa_cons _ _ _ _ _ (pe_callTy call_tuple_of (by rfl) T.b_tuple bt_tuple (@pa_cons _ _ _ _ _ (@pe_slice _ _ _ _ _ _ _ _ _ _ sl_list (pv 2) (po_some pe_int) po_none) pa_nil (by rfl))) pa_nil (by rfl)) (by rfl)) (by rfl)) (by rfl)))))) (PSs.p pss_nil)) (pssp_one (PS.p (@ps_ret _ _ _ _ pe_non)))))))))))))), ?_⟩
    have hlen := hs.2
    refine ⟨_, rfl, a, rfl, ⟨_, ha⟩, fun u hu => comp_relL (K := K) (fun i _ v => ∃ w, ws[i]? = some w ∧ v = wv w) (fun _ _ _ _ _ h => h) (xs := ws.map V.str) (by rw [List.length_map]; omega) ha hu ?_ ?_⟩
    · rintro i x H2 R' hx2 s2 _ r2
      obtain ⟨y, hy, hym, rfl⟩ := map_at hx2
      exact ⟨_, rfl, y, rfl, hs.1 y hym, fun H4 s4 => r2 _ H4 s4 ⟨y, hy, rfl⟩⟩
    intro H2 vs s2 e2 lv tv
    rw [List.length_map] at lv
    have ev := vs_eq lv tv
    subst ev
    clear tv lv
    have sq : SqL K H2 a (ws.map V.str) := s2.seq ha
    have su : SqL K H2 u (ws.map wv) := SqL.of e2
    refine ⟨_, rfl, rfl, _, rfl, (by decide +kernel), (by rw [tx_len, List.length_map]; show ws.length + (ws.length + 1) * 1 ≤ 16777216; omega), ?_⟩
    rw [show Txt.replace (tx (ws.map srt)) (PySem.Str.ofString "v") (PySem.Str.ofString "n") = tx (lo ws) from rp ws]
    have row : ∀ {d : Out} {v : V} {H'}, Mt ws d → Same H2 H' → RowV H' v d → Q v H' := fun {d v H'} m s r => q.1 d (mt_to m) v H' (s2.trans s) r
    have sl : ∀ l : List Nat, l.length ≤ 1000 → (tx l).length ≤ sizeLine := fun l h => lt_line (by rw [tx_len]; omega)
    have ll := lo_len ws
    have slo := sl (lo ws) (by omega)
    have ssr := sl (ws.map srt) (by rw [List.length_map]; omega)
    -- out, if, while, back
    refine ⟨_, rfl, le4, fun tp htp => ⟨tp, _, rfl, .inr (SqT.of upd_same), rfl, (by decide +kernel), _, rfl, ?_⟩⟩
    have s3 := Same.new (o := .tup [.str "On", .str "fn", .str "wn", .str "bn"]) htp
    generalize upd H2 tp (.tup [.str "On", .str "fn", .str "wn", .str "bn"]) = H3 at s3 ⊢
    rw [show (if false = true then !inV (.str (tx (lo ws))) [.str (PySem.Str.ofString "On"), .str (PySem.Str.ofString "fn"), .str (PySem.Str.ofString "wn"), .str (PySem.Str.ofString "bn")] else inV (.str (tx (lo ws))) [.str (PySem.Str.ofString "On"), .str (PySem.Str.ofString "fn"), .str (PySem.Str.ofString "wn"), .str (PySem.Str.ofString "bn")]) = decide (tx (lo ws) ∈ (["On", "fn", "wn", "bn"] : List Str)) from inV_str _ ["On", "fn", "wn", "bn"]]
    by_cases h1 : tx (lo ws) ∈ (["On", "fn", "wn", "bn"] : List Str)
    · obtain ⟨k, b, rfl, hk, hA⟩ := dec1 h1
      refine iteP (decide_eq_true h1) ⟨_, rfl, a, _, _, _, rfl, rfl, s3.seq sq, at0, _, rfl, u, _, _, _, rfl, rfl, s3.seq su, rfl, le2, fun r hr => ?_⟩
      exact row (.one hk hA) (s3.trans (Same.new hr)) ⟨r, rfl, by rw [wv_a hA]; exact upd_same⟩
    refine iteN (fun z => h1 (of_decide_eq_true z)) ?_
    have sq3 := s3.seq sq
    have su3 := s3.seq su
    have row3 : ∀ {d : Out} {v : V} {H'}, Mt ws d → Same H3 H' → RowV H' v d → Q v H' := fun {d v H'} m s r => row m (s3.trans s) r
    have s23 : Same H H3 := s2.trans s3
    clear row s3
    -- else, end
    refine ⟨_, rfl, rfl, _, rfl, ?_⟩
    by_cases h2 : tx (lo ws) = "e"
    · obtain ⟨k, rfl, hk⟩ := dec2 (.inl h2)
      exact iteP (decide_eq_true (congrArg V.str h2)) (iteP rfl ⟨_, rfl, a, _, _, _, rfl, rfl, sq3, at0, le1, fun r hr => row3 (.bare hk) (Same.new hr) ⟨r, rfl, upd_same⟩⟩)
    refine iteN (fun z => h2 (V.str.inj (of_decide_eq_true z))) ⟨_, rfl, rfl, _, rfl, ?_⟩
    by_cases h2' : tx (lo ws) = "d"
    · obtain ⟨k, rfl, hk⟩ := dec2 (.inr h2')
      exact iteP (decide_eq_true (congrArg V.str h2')) ⟨_, rfl, a, _, _, _, rfl, rfl, sq3, at0, le1, fun r hr => row3 (.bare hk) (Same.new hr) ⟨r, rfl, upd_same⟩⟩
    refine iteN (fun z => h2' (V.str.inj (of_decide_eq_true z))) ?_
    -- put
    refine ⟨fun σ H' => H' = H3 ∧ σ = [some (.ref a), some (.str (tx (ws.map srt))), some (.ref u), some (.str (tx (lo ws)))] ∧ ∀ p1 f p2 : Str, ws = [("put" : Str), p1, f, p2] → K15.A p1 → N f → K15.A p2 → False, ?_, ?_⟩
    · refine ⟨_, rfl, rfl, _, rfl, ?_⟩
      by_cases h3 : tx (lo ws) = "Pnnn"
      · obtain ⟨p1, f, p2, ew, hA, hF, hB⟩ := dec3 h3
        refine iteP (decide_eq_true (congrArg V.str h3)) ⟨_, rfl, _, _, srt f, rfl, rfl, ssr, (by rw [tx_cps, ew]; rfl), rfl, _, rfl, ?_⟩
        by_cases hn : N f
        · subst ew
          refine iteP (decide_eq_true (by rw [(n_iff f).mpr hn]; rfl)) ⟨_, rfl, u, _, _, _, rfl, rfl, su3, rfl, _, rfl, a, _, _, _, rfl, rfl, sq3, rfl, _, rfl, u, _, _, _, rfl, rfl, su3, rfl, le4, fun r hr => ?_⟩
          exact row3 (.put hA hn hB) (Same.new hr) ⟨r, rfl, by rw [wv_a hA, wv_a hB]; exact upd_same⟩
        · refine iteN (fun z => hn ((n_iff f).mp ?_)) ⟨rfl, rfl, fun q1 g q2 e _ h _ => ?_⟩
          · have := congrArg (fun y : Str => y.cps.toList) (V.str.inj (of_decide_eq_true z))
            exact (List.cons.inj this).1
          · rw [ew] at e
            cases e
            exact hn h
      · refine iteN (fun z => h3 (V.str.inj (of_decide_eq_true z))) (iteN (by simp) ⟨rfl, rfl, fun q1 g q2 e x y z => ?_⟩)
        subst e
        exact h3 (enc3 x y z)
    rintro σ H' ⟨rfl, rfl, h3⟩
    have none : (∀ x t, ws = x :: ("=" : Str) :: t → N x → ∀ d, ¬ Mt ws d) → Q .non H' := fun h => by
      refine q.2 (mt_none fun d m => ?_) H' ?_
      · cases m with
        | copy x y => exact h _ _ rfl x _ (.copy x y)
        | op x y z w => exact h _ _ rfl x _ (.op x y z w)
        | new x => exact h _ _ rfl x _ (.new x)
        | get x y z => exact h _ _ rfl x _ (.get x y z)
        | put x y z => exact h3 _ _ _ rfl x y z
        | call x y z w => exact h _ _ rfl x _ (.call x y z w)
        | one x y => exact h1 (enc1 x y)
        | bare x => exact (enc2 x).elim h2 h2'
      · exact s23
    refine ⟨_, rfl, _, rfl, _, rfl, ssr, rfl, _, rfl, ?_⟩
    by_cases h4 : Txt.slice (tx (ws.map srt)) .none (some 2) = "n="
    rotate_left
    · refine iteP (by rw [decide_eq_false (fun z => h4 (V.str.inj z))]; rfl) (none fun x t e hx => ?_)
      subst e
      exact absurd (enc4 hx) h4
    refine iteN (by rw [decide_eq_true (congrArg V.str h4)]; decide) ?_
    obtain ⟨x, l, rfl, hX⟩ := dec4 h4
    clear h4
    have f2 := from2 x l
    refine ⟨_, rfl, _, rfl, _, rfl, slo, rfl, _, rfl, ?_⟩
    rw [f2]
    by_cases h5 : tx (lo l) = "n"
    · obtain ⟨b, rfl, hA⟩ := dec5 h5
      exact iteP (decide_eq_true (congrArg V.str h5)) ⟨_, rfl, a, _, _, _, rfl, rfl, sq3, at0, _, rfl, u, _, _, _, rfl, rfl, su3, rfl, le3, fun r hr => row3 (.copy hX hA) (Same.new hr) ⟨r, rfl, by rw [wv_a hA]; exact upd_same⟩⟩
    refine iteN (fun z => h5 (V.str.inj (of_decide_eq_true z))) ⟨_, rfl, _, rfl, _, rfl, slo, rfl, _, rfl, ?_⟩
    rw [f2]
    by_cases h6 : tx (lo l) = "W"
    · have := dec6 h6
      subst this
      exact iteP (decide_eq_true (congrArg V.str h6)) ⟨_, rfl, a, _, _, _, rfl, rfl, sq3, at0, le2, fun r hr => row3 (.new hX) (Same.new hr) ⟨r, rfl, upd_same⟩⟩
    refine iteN (fun z => h6 (V.str.inj (of_decide_eq_true z))) ?_
    refine ⟨fun σ H8 => H8 = H' ∧ σ = [some (.ref a), some (.str (tx ((x :: ("=" : Str) :: l).map srt))), some (.ref u), some (.str (tx (lo (x :: ("=" : Str) :: l))))] ∧ ∀ b f : Str, l = [("get" : Str), b, f] → K15.A b → N f → False, ?_, ?_⟩
    · refine ⟨_, rfl, _, rfl, _, rfl, slo, rfl, _, rfl, ?_⟩
      rw [f2]
      by_cases h7 : tx (lo l) = "Gnn"
      · obtain ⟨b, f, ew, hA, hF⟩ := dec7 h7
        refine iteP (decide_eq_true (congrArg V.str h7)) ⟨_, rfl, _, _, srt f, rfl, rfl, ssr, (by rw [tx_cps, ew]; rfl), rfl, _, rfl, ?_⟩
        by_cases hn : N f
        · subst ew
          refine iteP (decide_eq_true (by rw [(n_iff f).mpr hn]; rfl)) ⟨_, rfl, a, _, _, _, rfl, rfl, sq3, at0, _, rfl, u, _, _, _, rfl, rfl, su3, rfl, _, rfl, a, _, _, _, rfl, rfl, sq3, rfl, le4, fun r hr => ?_⟩
          exact row3 (.get hX hA hn) (Same.new hr) ⟨r, rfl, by rw [wv_a hA]; exact upd_same⟩
        · refine iteN (fun z => hn ((n_iff f).mp ?_)) ⟨rfl, rfl, fun g1 g e _ h => ?_⟩
          · have := congrArg (fun y : Str => y.cps.toList) (V.str.inj (of_decide_eq_true z))
            exact (List.cons.inj this).1
          · rw [ew] at e
            cases e
            exact hn h
      · refine iteN (fun z => h7 (V.str.inj (of_decide_eq_true z))) (iteN (by simp) ⟨rfl, rfl, fun q1 g e x y => ?_⟩)
        subst e
        exact h7 (enc7 x y)
    rintro σ H8 ⟨rfl, rfl, h7⟩
    refine ⟨_, rfl, _, rfl, _, rfl, slo, rfl, _, rfl, ?_⟩
    rw [f2]
    by_cases h8 : tx (lo l) = "nsn"
    · obtain ⟨b, g, c, rfl, hA, hS, hB⟩ := dec8 (.inl h8)
      exact iteP (decide_eq_true (congrArg V.str h8)) (iteP rfl ⟨_, rfl, a, _, _, _, rfl, rfl, sq3, at0, _, rfl, a, _, _, _, rfl, rfl, sq3, rfl, _, rfl, u, _, _, _, rfl, rfl, su3, rfl, _, rfl, u, _, _, _, rfl, rfl, su3, rfl, le5, fun r hr => row3 (.op hX hA hS hB) (Same.new hr) ⟨r, rfl, by rw [wv_a hA, wv_a hB]; exact upd_same⟩⟩)
    refine iteN (fun z => h8 (V.str.inj (of_decide_eq_true z))) ⟨_, rfl, _, rfl, _, rfl, slo, rfl, _, rfl, ?_⟩
    rw [f2]
    by_cases h8' : tx (lo l) = "n=n"
    · obtain ⟨b, g, c, rfl, hA, hS, hB⟩ := dec8 (.inr h8')
      exact iteP (decide_eq_true (congrArg V.str h8')) ⟨_, rfl, a, _, _, _, rfl, rfl, sq3, at0, _, rfl, a, _, _, _, rfl, rfl, sq3, rfl, _, rfl, u, _, _, _, rfl, rfl, su3, rfl, _, rfl, u, _, _, _, rfl, rfl, su3, rfl, le5, fun r hr => row3 (.op hX hA hS hB) (Same.new hr) ⟨r, rfl, by rw [wv_a hA, wv_a hB]; exact upd_same⟩⟩
    refine iteN (fun z => h8' (V.str.inj (of_decide_eq_true z))) ?_
    have none' : (∀ (g : Str) (r : List Str), l = ("call" : Str) :: g :: r → N g → r.length ≤ 6 → (∀ w ∈ r, K15.A w) → False) → Q .non H8 := fun h => none fun x' t' e hx d m => by
      cases m with
      | copy x y => exact h5 (enc5 y)
      | op x y z w => exact (enc8 y z w).elim h8 h8'
      | new x => exact h6 enc6
      | get x y z => exact h7 _ _ rfl y z
      | put x y z => exact h3 _ _ _ rfl x y z
      | call x y z w => exact h _ _ rfl y z w
      | one x y => exact h1 (enc1 x y)
    clear none
    refine ⟨_, rfl, _, rfl, _, rfl, _, rfl, ssr, rfl, _, rfl, ?_⟩
    by_cases h9 : Txt.slice (tx ((x :: ("=" : Str) :: l).map srt)) (some 2) (some 4) = "Cn"
    rotate_left
    · exact iteN (fun z => h9 (V.str.inj (of_decide_eq_true z))) (iteN (by simp) (none' fun g r e hg _ _ => by subst e; exact h9 (enc9 hg)))
    refine iteP (decide_eq_true (congrArg V.str h9)) ?_
    obtain ⟨g, r, rfl, hG⟩ := dec9 h9
    refine ⟨_, rfl, a, _, rfl, .inl sq3, _, _, rfl, rfl, _, rfl, ?_⟩
    by_cases h10 : r.length ≤ 6
    rotate_left
    · exact iteN (fun z => by have := dec_true z; simp only [List.length_map, List.length_cons] at this; omega) (iteN (by simp) (none' fun g' r' e _ hr _ => by cases e; exact h10 hr))
    refine iteP (decide_eq_true (by simp only [List.length_map, List.length_cons]; omega)) ⟨_, rfl, _, rfl, _, rfl, slo, rfl, _, rfl, (by decide +kernel), (by rw [from4, tx_len, lo_len, show (PySem.Str.ofString "").length = 0 from by decide +kernel]; omega), rfl, _, rfl, ?_⟩
    rw [from4]
    by_cases h11 : ∀ w ∈ r, K15.A w
    rotate_left
    · exact iteN (fun z => h11 ((all_a r).mp (V.str.inj (of_decide_eq_true z)))) (none' fun g' r' e _ _ hr => by cases e; exact h11 hr)
    refine iteP (decide_eq_true (congrArg V.str ((all_a r).mpr h11))) ⟨_, rfl, a, _, _, _, rfl, rfl, sq3, at0, _, rfl, a, _, _, _, rfl, rfl, sq3, atI_nat (j := 3) rfl, _, rfl, _, rfl, u, _, rfl, su3, fun p hp => ⟨p, _, rfl, .inl ⟨SqL.of upd_same, fun l2 hl2 => ⟨le4, fun rr hrr => ?_⟩⟩⟩⟩
    have hc : cutV ((x :: ("=" : Str) :: ("call" : Str) :: g :: r).map wv) (some 4) .none = r.map atomF := (cut_drop _ 4).trans (List.map_congr_left fun w hw => wv_a (h11 w hw))
    rw [hc] at hrr hl2 ⊢
    have s1 := Same.new (o := .lst (r.map atomF)) hp
    have s2 := Same.new (o := .tup (r.map atomF)) hl2
    have s3 := Same.new (o := .tup [.str "call", .str x, .str g, .ref l2]) hrr
    exact row3 (.call hX hG h10 h11) ((s1.trans s2).trans s3) ⟨rr, rfl, l2, s3 _ _ upd_same, upd_same⟩
end
end K15

set_option Elab.async false
set_option linter.all false
set_option maxRecDepth 100000
set_option maxHeartbeats 4000000
namespace K15
open PySem L2 Gx K11 K14
section
variable {P : Program} {w : World} {K : PySem.W.Frag} {mg : Str → Option Value} {base : Heap} {t : Adr}
theorem sc_l_due : FnScope ["_law_lines", "_law_program", "_law_at", "_law_line", "_law_words", "_law_sorts", "_law_row_here", "_law_last"] ["_law_lines"] (defScope s_l_due) := ⟨rfl, rfl, rfl, by decide +kernel, rfl, by decide +kernel, by decide +kernel⟩
theorem ok_l_due (T : Txt K mg t) : FnOk P w K mg base CX0 5 t.a_l_due t.d_l_due ["_law_lines"] (sp_l_due K) := by
  have G_l_row : FnOkP P w K mg base 4 t.a_l_row t.d_l_row ["_law_words", "_law_sorts"] (sp_l_row K) := ok_l_row T
  have G_l_sort : FnOk P w K mg base CX0 2 t.a_l_sort t.d_l_sort ["_law_word"] (sp_l_sort K) := ok_l_sort T
  refine T.l_due.F.ok sc_l_due (fun vs H Q E h => ?_) (fun cdv A outer s H vs Q E hr h => ?_)
  · obtain ⟨a, xs, rfl, ha, hok, q, qb⟩ := h
    rfl
  · obtain ⟨a, xs, rfl, ha, hok, q, qb⟩ := h
    refine ⟨_, (@pss_cons _ _ _ _ _ (@ps_set _ _ 1 _ _ _ _ sc_l_due.nd rfl (Or.inl rfl) (@pe_lst _ _ _ _ pa_nil) (by rfl) (by first | exact .inl rfl | exact .inr rfl | assumption)) (@pss_cons _ _ _ _ _ (ps_for PassesOwn.never rfl (pi_enumL rfl T.b_enumerate (@pa_cons _ _ _ _ _ (pv 0) pa_nil (by rfl))) (pg_tup rfl (pgs_cons (pg_name (i := 2) sc_l_due.nd rfl (Or.inl rfl)) (pgs_cons (pg_name (i := 3) sc_l_due.nd rfl (Or.inl rfl)) pgs_nil))) (pss_first (ps1_set (i := 4) sc_l_due.nd rfl (Or.inl rfl) (pe1_bm PySem.F.plainAttrs_str PySem.F.slot_str_split PySem.F.type_str_split mt_split (pv 3))) (pssp_cons (PS.p (@ps_set _ _ 5 _ _ _ _ sc_l_due.nd rfl (Or.inl rfl) (pe_bm PySem.F.plainAttrs_str PySem.F.slot_str_join PySem.F.type_str_join mt_join pe_str (@pa_cons _ _ _ _ _ (pe_comp (N' := ["_law_word"]) (js := [none]) (by kernel_rfl) rfl (pi_list (pv 4)) own_name (fun _ _ _ _ => (pg_name (i := 0) (show (["_law_word"] : List Str).Nodup by decide +kernel) rfl (Or.inl rfl) (.inr rfl))) (fun _ _ _ _ => pif_nil) (fun _ _ _ _ => (callD T.l_sort G_l_sort (hr.mono (by decide)) (@pa_cons _ _ _ _ _ (pv 0) pa_nil (by rfl))))) pa_nil (by rfl))) (by rfl) (by first | exact .inl rfl | exact .inr rfl | assumption))) (pssp_one (psp_if (PT.p (@pt_cmpR _ _ _ _ _ _ _ _ op_in_str (@pe_ix _ _ _ _ _ _ _ ix_str (pv 5) pe_int (fun _ _ => rfl)) pe_str (by with_unfolding_all rfl))) (pssp_cons (psp_if (PWp.pt (pwp_or (pt_not (pt_chain op_le op_le pe_int (pe_callB call_len_str (by rfl) T.b_len bt_len (@pa_cons _ _ _ _ _ (pv 5) pa_nil (by rfl))) pe_int)) (pwp_or1 (ptp_cmp op_ne (pep_repl (@pe_slice _ _ _ _ _ _ _ _ _ _ sl_str (pv 5) (po_some pe_int) po_none)) pe_str (nomark _))))) (PSs.p (@pss_one _ _ _ (@ps_ret _ _ _ _ (@pe_lst _ _ _ _ (@pa_cons _ _ _ _ _ pe_non (@pa_cons _ _ _ _ _ (pv 2) pa_nil (by rfl)) (by rfl)))))) (PSs.p pss_nil)) (pssp_one (PS.p (@ps_expr _ _ _ _ (pe_bm PySem.F.plainAttrs_list PySem.F.slot_list_append PySem.F.type_list_append mt_append (pv 1) (@pa_cons _ _ _ _ _ (@pe_tup _ _ _ _ _ (@pa_cons _ _ _ _ _ (@pe_ix _ _ _ _ _ _ _ ix_list (pv 4) pe_int (fun _ _ => rfl)) (@pa_cons _ _ _ _ _ (pe_cmpR op_eq (@pe_ix _ _ _ _ _ _ _ ix_str (pv 5) pe_int (fun _ _ => rfl)) pe_str (nomark _)) (@pa_cons _ _ _ _ _ (pe_callTy call_tuple_of (by rfl) T.b_tuple bt_tuple (@pa_cons _ _ _ _ _ (@pe_slice _ _ _ _ _ _ _ _ _ _ sl_list (pv 4) (po_some pe_int) po_none) pa_nil (by rfl))) (@pa_cons _ _ _ _ _ (@pe_tup _ _ _ _ _ pa_nil) pa_nil (by rfl)) (by rfl)) (by rfl)) (by rfl))) pa_nil (by rfl))) (by rfl))))) (pssp_cons (psp_set (i := 6) sc_l_due.nd rfl (Or.inl rfl) (callP T.l_row G_l_row (hr.mono (by decide)) (@pa_cons _ _ _ _ _ (pv 4) (@pa_cons _ _ _ _ _ (pv 5) pa_nil (by rfl)) (by rfl)))) (pssp_cons (PS.p (@ps_if _ _ _ _ _ _ _ _ (@PW.pt _ _ _ (pw_or (pt_cmp (pc_isN (pv 6))) (pw_or1 (@pt_cmpR _ _ _ _ _ _ _ _ (op_eqNil hr.units) (pv 1) (@pe_lst _ _ _ _ pa_nil) (nomark _))))) (@pss_one _ _ _ (@ps_ret _ _ _ _ (@pe_lst _ _ _ _ (@pa_cons _ _ _ _ _ pe_non (@pa_cons _ _ _ _ _ (pv 2) pa_nil (by rfl)) (by rfl))))) pss_nil)) (pssp_cons (PS.p (@ps_set _ _ 7 _ _ _ _ sc_l_due.nd rfl (Or.inl rfl) (pe_bm0 PySem.F.plainAttrs_list PySem.F.slot_list_pop PySem.F.type_list_pop mt_pop (pv 1)) (by rfl) (by first | exact .inl rfl | exact .inr rfl | assumption))) (pssp_one (PS.p (@ps_expr _ _ _ _ (pe_bm PySem.F.plainAttrs_list PySem.F.slot_list_append PySem.F.type_list_append mt_append (pv 1) (@pa_cons _ _ _ _ _ (@pe_tup _ _ _ _ _ (@pa_cons _ _ _ _ _ (@pe_ix _ _ _ _ _ _ _ ix_tup (pv 7) pe_int (fun _ _ => rfl)) (@pa_cons _ _ _ _ _ (@pe_ix _ _ _ _ _ _ _ ix_tup (pv 7) pe_int (fun _ _ => rfl)) (@pa_cons _ _ _ _ _ (@pe_ix _ _ _ _ _ _ _ ix_tup (pv 7) pe_int (fun _ _ => rfl)) (@pa_cons _ _ _ _ _ (@pe_op _ _ _ _ _ _ _ _ op_catTT (@pe_ix _ _ _ _ _ _ _ ix_tup (pv 7) pe_int (fun _ _ => rfl)) (@pe_tup _ _ _ _ _ (@pa_cons _ _ _ _ _ (pv 6) pa_nil (by rfl)))) pa_nil (by rfl)) (by rfl)) (by rfl)) (by rfl))) pa_nil (by rfl))) (by rfl)))))))))))) (@pss_one _ _ _ (@ps_ret _ _ _ _ (@pe_lst _ _ _ _ (@pa_cons _ _ _ _ _ (pv 1) (@pa_cons _ _ _ _ _ pe_non pa_nil (by rfl)) (by rfl))))))), ?_⟩
    have l60 := hok.len
    refine ⟨le0, fun lp hlp => ?_⟩
    have s1 := Same.new (o := .lst []) hlp
    have e1 := upd_same (H := H) (a := lp) (o := .lst [])
    generalize upd H lp (.lst []) = H1 at s1 e1 ⊢
    refine ⟨_, rfl, a, rfl, ⟨_, s1.seq ha⟩, for_enumL (xs := xs.map V.str) (fun i σ H2 => ∃ (v2 v3 v4 v5 v6 v7 : Option V), σ = [some (.ref a), some (.ref lp), v2, v3, v4, v5, v6, v7] ∧ Same H H2 ∧ OkTo (lns xs) i ∧ ∃ ts, H2 lp = some (.lst ts) ∧ All2 (FnV H2) ts (stW (lns xs) i)) ⟨_, _, _, _, _, _, rfl, s1, fun j hj => absurd hj (Nat.not_lt_zero _), [], e1, All2.nil⟩ ?_ ?_ ?_⟩
    · rintro i σ H2 hi ⟨v2, v3, v4, v5, v6, v7, rfl, s2, _⟩
      exact s2.seq ha
    · rintro i y σ H2 b hy ⟨v2, v3, v4, v5, v6, v7, rfl, s2, hOk, ts, ho, hF⟩ hb
      obtain ⟨x, hx, hxm, rfl⟩ := map_at hy
      have hl : (lns xs)[i]? = some (wds x) := by rw [List.getElem?_map, hx]; rfl
      have ilt := (List.getElem?_eq_some_iff.mp hx).1
      have xlen := (hok.each x hxm).2
      have hsh := wds_short xlen
      have hne := wds_ne x
      have s3 := Same.new (o := .tup [.int i, .str x]) hb
      refine ⟨b, _, rfl, SqT.of upd_same, rfl, _, _, rfl, _, _, rfl, rfl, ?_⟩
      generalize upd H2 b (.tup [.int i, .str x]) = H3 at s3 ⊢
      refine ⟨_, rfl, rfl, _, _, rfl, rfl, (by decide +kernel), (lt_line (by omega)), fun w hw => ?_⟩
      rw [show Txt.split x (PySem.Str.ofString " ") = wds x from rfl]
      generalize wds x = ws at hl hsh hne hw ⊢
      have s4 := Same.new (o := .lst (ws.map V.str)) hw
      have e4 := upd_same (H := H3) (a := w) (o := .lst (ws.map V.str))
      generalize upd H3 w (.lst (ws.map V.str)) = H4 at s4 e4 ⊢
      have wlen := hsh.2
      refine ⟨rfl, _, rfl, w, rfl, ⟨_, SqL.of e4⟩, fun u hu => comp_relL (K := K) (fun i _ v => ∃ y, ws[i]? = some y ∧ v = .str (tx [srt y])) (fun _ _ _ _ _ h => h) (xs := ws.map V.str) (by rw [List.length_map]; omega) (SqL.of e4) hu ?_ ?_⟩
      · rintro j z H5 R' hz s5 _ r5
        obtain ⟨y, hy, hym, rfl⟩ := map_at hz
        exact ⟨_, rfl, y, rfl, hsh.1 y hym, fun H6 s6 => r5 _ H6 s6 ⟨y, hy, rfl⟩⟩
      intro H5 vs s5 e5 lv tv
      rw [List.length_map] at lv
      have ev := vs_eq (f := fun y => V.str (tx [srt y])) lv tv
      subst ev
      clear tv lv
      refine ⟨_, u, (ws.map srt).map fun c => tx [c], rfl, rfl, (by rw [List.map_map, List.map_map]; exact SqL.of e5), (by rw [one_sum, List.length_map, List.length_map, show (PySem.Str.ofString "").length = 0 from by decide +kernel]; omega), ?_⟩
      rw [show Txt.join (PySem.Str.ofString "") ((ws.map srt).map fun c => tx [c]) = tx (ws.map srt) from one_join _]
      have s25 := (s3.trans s4).trans s5
      have sw := SqL.of (K := K) (s5 _ _ e4)
      have s05 := s2.trans s25
      have ho5 := s25 _ _ ho
      have hF5 := hF.mono fun _ _ h => FnV.mono s25 h
      clear s5 e5 e4 s4 s3 hF ho
      obtain ⟨w0, wt, rfl⟩ := List.exists_cons_of_ne_nil hne
      have slen : (tx ((w0 :: wt).map srt)).length ≤ sizeLine := lt_line (by rw [tx_len, List.length_map]; omega)
      have sat : atI (tx ((w0 :: wt).map srt)).cps.toList 0 = some (srt w0) := by rw [tx_cps]; exact atI_nat (j := 0) rfl
      have bad : opening (w0 :: wt) = false → (rowGo (w0 :: wt) forms = none ∨ stW (lns xs) i = []) → Bad (lns xs) i := fun h1 h2 => ⟨_, hl, h1, h2⟩
      refine ⟨_, rfl, _, _, srt w0, rfl, rfl, slen, sat, _, _, rfl, rfl, _, rfl, ?_⟩
      rw [show (!(Builtin.Str.occurrences (PySem.Str.ofString "FI") ⟨#[srt w0]⟩ 0 (PySem.Str.ofString "FI").length 1).isEmpty) = inV (.str w0) heads from fi_iff w0]
      cases hop : inV (.str w0) heads with
      | true =>
        refine iteT ?_
        have none := head_none (wt := wt) hop
        have ret : opening (w0 :: wt) = false → ∀ r, H5 r = .none → Q (.ref r) (upd H5 r (.lst [.non, .int (i : Nat)])) := fun h r hr => qb i (bad h (.inl none)) hOk r _ (s05.trans (Same.new hr)) upd_same
        refine ⟨_, rfl, _, rfl, slen, _, _, rfl, rfl, _, rfl, ?_⟩
        by_cases h2 : 1 ≤ wt.length
        rotate_left
        · refine iteN (fun z => h2 (by have := dec_true z; rw [tx_len, List.length_map, List.length_cons] at this; omega)) ⟨_, rfl, iteP rfl (iteP rfl ⟨_, rfl, le2, ret ?_⟩)⟩
          exact Bool.eq_false_iff.mpr fun z => h2 (open_of z).1
        refine iteP (decide_eq_true (by rw [tx_len, List.length_map, List.length_cons]; omega)) ⟨_, _, rfl, rfl, _, rfl, ?_⟩
        by_cases h8 : wt.length ≤ 7
        rotate_left
        · refine iteP (by rw [decide_eq_false (fun z => h8 (by rw [tx_len, List.length_map, List.length_cons] at z; omega))]; rfl) (iteP rfl ⟨_, rfl, le2, ret ?_⟩)
          exact Bool.eq_false_iff.mpr fun z => h8 (open_of z).2.1
        refine iteN (by rw [decide_eq_true (by rw [tx_len, List.length_map, List.length_cons]; omega)]; decide) ?_
        have hsl : Txt.slice (tx ((w0 :: wt).map srt)) (some 1) .none = tx (wt.map srt) := sl_from _ 1
        refine ⟨_, rfl, _, rfl, _, rfl, slen, rfl, _, rfl, (by decide +kernel), (by rw [hsl, tx_len, List.length_map, show (PySem.Str.ofString "").length = 0 from by decide +kernel]; omega), rfl, _, rfl, ?_⟩
        rw [hsl]
        by_cases h3 : ∀ w ∈ wt, N w
        rotate_left
        · refine iteP (by rw [decide_eq_false (fun z => h3 ((all_n wt).mp (V.str.inj z)))]; rfl) ⟨_, rfl, le2, ret ?_⟩
          exact Bool.eq_false_iff.mpr fun z => h3 (open_of z).2.2
        refine iteN (by rw [decide_eq_true (congrArg V.str ((all_n wt).mpr h3))]; decide) ?_
        have hopen := open_yes hop h2 h8 h3
        obtain ⟨w1, wr, rfl⟩ := List.exists_cons_of_ne_nil (l := wt) (by intro z; rw [z] at h2; simp at h2)
        refine ⟨_, rfl, .inl ⟨rfl, _, SqL.of ho5⟩, _, rfl, w, _, _, _, rfl, rfl, sw, atI_nat (j := 1) rfl, _, rfl, _, _, srt w0, rfl, rfl, slen, sat, rfl, _, rfl, _, rfl, w, _, rfl, sw, fun p hp => ⟨p, _, rfl, .inl ⟨SqL.of upd_same, fun tq htq => ⟨le0, fun te hte => ⟨le4, fun tn htn => ?_⟩⟩⟩⟩⟩
        rw [show cutV ((w0 :: w1 :: wr).map V.str) (some 2) .none = wr.map V.str from cut_drop _ 2] at htq hte htn ⊢
        have sA := Same.new (o := .lst (wr.map V.str)) hp
        have sB := Same.new (o := .tup (wr.map V.str)) htq
        have sC := Same.new (o := .tup []) hte
        have sD := Same.new (o := .tup [.str w1, .bl (decide (V.str ⟨#[srt w0]⟩ = V.str (PySem.Str.ofString "I"))), .ref tq, .ref te]) htn
        have sAD := ((sA.trans sB).trans sC).trans sD
        have eq := sD _ _ (sC _ _ (upd_same (H := upd H5 p (.lst (wr.map V.str))) (a := tq) (o := .tup (wr.map V.str))))
        have ee := sD _ _ (upd_same (H := upd (upd H5 p (.lst (wr.map V.str))) tq (.tup (wr.map V.str))) (a := te) (o := .tup []))
        have en := upd_same (H := upd (upd (upd H5 p (.lst (wr.map V.str))) tq (.tup (wr.map V.str))) te (.tup [])) (a := tn) (o := .tup [.str w1, .bl (decide (V.str ⟨#[srt w0]⟩ = V.str (PySem.Str.ofString "I"))), .ref tq, .ref te])
        generalize upd (upd (upd (upd H5 p (.lst (wr.map V.str))) tq (.tup (wr.map V.str))) te (.tup [])) tn (.tup [.str w1, .bl (decide (V.str ⟨#[srt w0]⟩ = V.str (PySem.Str.ofString "I"))), .ref tq, .ref te]) = H9 at sAD eq ee en ⊢
        rw [show decide (V.str ⟨#[srt w0]⟩ = V.str (PySem.Str.ofString "I")) = decide (w0 = "in") from is_in ((head_iff w0).mp hop)] at en
        have ho9 := sAD _ _ ho5
        have tl := hF5.1
        have sl := stW_len (lns xs) i
        have new : FnV H9 (.ref tn) (w0 :: w1 :: wr, []) := ⟨tn, tq, te, [], rfl, en, eq, ee, All2.nil⟩
        refine ⟨lp, ts, _, rfl, rfl, ho9, lt_of_le (by omega), _, _, _, _, _, _, rfl, (s05.trans sAD).upd hlp, okto_succ hOk (fun ⟨l, z1, z2, _⟩ => by rw [hl] at z1; cases z1; rw [hopen] at z2; cases z2), ts ++ [.ref tn], upd_same, ?_⟩
        rw [stW_open hl hopen]
        exact ((hF5.mono fun _ _ h => FnV.mono sAD h).snoc new).mono fun _ _ h => FnV.kept kept_upd ho9 h
      | false =>
        refine iteF ?_
        have hopen := open_no (wt := wt) hop
        refine ⟨_, rfl, _, rfl, w, _, rfl, sw, hsh, hne, fun d hd v H6 s6 hv => ?_, fun hn H6 s6 => ?_⟩
        · have ho6 := s6 _ _ ho5
          have hF6 := hF5.mono fun _ _ h => FnV.mono s6 h
          have s06 := s05.trans s6
          clear ho5 hF5
          obtain ⟨vr, rfl, _⟩ := id hv
          refine ⟨_, rfl, _, rfl, iteN (by simp) ⟨_, rfl, le0, fun lz hlz => ⟨lp, lz, _, rfl, rfl, SqL.of (Same.new hlz _ _ ho6), SqL.of upd_same, _, rfl, ?_⟩⟩⟩
          have sz := Same.new (o := .lst []) hlz
          generalize upd H6 lz (.lst []) = H7 at sz ⊢
          by_cases hz : stW (lns xs) i = []
          · have tz : ts = [] := List.eq_nil_of_length_eq_zero (by rw [hF6.1, hz]; rfl)
            exact iteP (decide_eq_true tz) ⟨_, rfl, le2, fun r hr => qb i (bad hopen (.inr hz)) hOk r _ ((s06.trans sz).trans (Same.new hr)) upd_same⟩
          obtain ⟨ts', v, es, e, rfl, he, hA, tp, tq, tr, us, rfl, f1, f2, f3, f4⟩ := all2_last (hF6.mono fun _ _ h => FnV.mono sz h) hz
          have ho7 := sz _ _ ho6
          have el := (ents_ok (ls := lns xs) (n := 1000) (by decide) i (by omega) e (by rw [he]; simp)).2.2
          have sl := stW_len (lns xs) i
          have tl := hA.1
          have hes : es.length + 1 ≤ i := by rw [he, List.length_append] at sl; simpa using sl
          refine iteN (fun z => by have := of_decide_eq_true z; simp at this) ⟨_, rfl, .inl ⟨rfl, _, SqL.of ho7⟩, lp, _, .ref tp, rfl, rfl, ho7, (by simp), ?_⟩
          rw [List.dropLast_concat]
          have hv7 := RowV.mono sz hv
          have kA := kept_upd (H := H7) (r := lp) (o := .lst ts')
          have s08 := (s06.trans sz).upd hlp (o := .lst ts')
          have e8 := upd_same (H := H7) (a := lp) (o := .lst ts')
          generalize upd H7 lp (.lst ts') = H8 at kA s08 e8 ⊢
          have hA8 := hA.mono fun _ _ h => FnV.kept kA ho7 h
          have g1 := kA _ _ f1 (tup_ne f1 ho7)
          have g2 := kA _ _ f2 (tup_ne f2 ho7)
          have g3 := kA _ _ f3 (tup_ne f3 ho7)
          have g4 := f4.mono fun _ _ h => RowV.kept kA ho7 h
          have hv8 := RowV.kept kA ho7 hv7
          clear hA f1 f2 f3 f4 hv7 hv
          refine ⟨_, rfl, .inl ⟨rfl, _, SqL.of e8⟩, _, rfl, tp, _, _, _, rfl, rfl, SqT.of g1, at0, _, rfl, tp, _, _, _, rfl, rfl, SqT.of g1, rfl, _, rfl, tp, _, _, _, rfl, rfl, SqT.of g1, rfl, _, rfl, tp, _, _, _, rfl, rfl, SqT.of g1, rfl, _, rfl, le1, fun t1 ht1 => catTT (SqT.of (Same.new ht1 _ _ g3)) upd_same (by have := g4.1; exact lt_line (by omega)) fun r2 H9 s9 e9 => ⟨le4, fun tn htn => ?_⟩⟩
          have sB := ((Same.new (o := .tup [.ref vr]) ht1).trans s9).trans (Same.new (o := .tup [.str (e.1.getD 1 ""), .bl (decide (e.1.headD "" = "in")), .ref tq, .ref r2]) htn)
          have e9' := Same.new (o := .tup [.str (e.1.getD 1 ""), .bl (decide (e.1.headD "" = "in")), .ref tq, .ref r2]) htn _ _ e9
          have en := upd_same (H := H9) (a := tn) (o := .tup [.str (e.1.getD 1 ""), .bl (decide (e.1.headD "" = "in")), .ref tq, .ref r2])
          generalize upd H9 tn (.tup [.str (e.1.getD 1 ""), .bl (decide (e.1.headD "" = "in")), .ref tq, .ref r2]) = H10 at sB e9' en ⊢
          have new : FnV H10 (.ref tn) (e.1, e.2 ++ [d]) := ⟨tn, tq, r2, _, rfl, en, sB _ _ g2, e9', (g4.mono fun _ _ h => RowV.mono sB h).snoc (RowV.mono sB hv8)⟩
          refine ⟨lp, ts', _, rfl, rfl, sB _ _ e8, lt_of_le (by omega), _, _, _, _, _, _, rfl, (s08.trans sB).upd hlp, okto_succ hOk (fun ⟨l, z1, z2, z3⟩ => by rw [hl] at z1; cases z1; rcases z3 with z3 | z3; rw [hd] at z3; cases z3; exact hz z3), ts' ++ [.ref tn], upd_same, ?_⟩
          rw [stW_row hl hopen hd he]
          exact ((hA8.mono fun _ _ h => FnV.mono sB h).snoc new).mono fun _ _ h => FnV.kept kept_upd (sB _ _ e8) h
        · refine ⟨_, rfl, _, rfl, iteP rfl (iteP rfl ⟨_, rfl, le2, fun r hr => qb i (bad hopen (.inl hn)) hOk r _ ((s05.trans s6).trans (Same.new hr)) upd_same⟩)⟩
    · rintro σ H2 ⟨v2, v3, v4, v5, v6, v7, rfl, s2, hOk, ts, ho, hF⟩
      rw [List.length_map] at hOk hF
      exact ⟨_, rfl, le2, fun l hl => q hOk l lp _ (s2.trans (Same.new hl)) upd_same ⟨ts, Same.new hl _ _ ho, hF.mono fun _ _ h => FnV.mono (Same.new hl) h⟩⟩
end
end K15

set_option Elab.async false
set_option linter.all false
set_option maxRecDepth 100000
set_option maxHeartbeats 4000000
namespace K15
open PySem L2 Gx K11 K14
section
variable {P : Program} {w : World} {K : PySem.W.Frag} {mg : Str → Option Value} {base : Heap} {t : Adr}
theorem sc_l_other : FnScope ["_law_e"] ["_law_e"] (defScope s_l_other) := ⟨rfl, rfl, rfl, by decide +kernel, rfl, by decide +kernel, by decide +kernel⟩
theorem ok_l_other (T : Txt K mg t) : FnOk P w K mg base CX0 1 t.a_l_other t.d_l_other ["_law_e"] (sp_l_other K t) := by
  refine T.l_other.F.ok sc_l_other (fun vs H Q E h => ?_) (fun cdv A outer s H vs Q E hr h => ?_)
  · obtain ⟨ea, dx, v, rfl, he, hd, q⟩ := h
    rfl
  · obtain ⟨ea, dx, v, rfl, he, hd, q⟩ := h
    refine ⟨_, (@pss_cons _ _ _ _ _ (@ps_if _ _ _ _ _ _ _ _ (pt_val (pe_callB call_isxt (by rfl) T.b_isinstance bt_isinstance (@pa_cons _ _ _ _ _ (pv 0) (@pa_cons _ _ _ _ _ (@pe_tup _ _ _ _ _ (@pa_cons _ _ _ _ _ (pe_gtuple T.g_NoFunction) (@pa_cons _ _ _ _ _ (pe_gtuple T.g_TwiceNamed) (@pa_cons _ _ _ _ _ (pe_gtuple T.g_BadNest) (@pa_cons _ _ _ _ _ (pe_gtuple T.g_BadCall) pa_nil (by rfl)) (by rfl)) (by rfl)) (by rfl))) pa_nil (by rfl)) (by rfl)))) (@pss_one _ _ _ (@ps_ret _ _ _ _ pe_bl)) pss_nil) (@pss_cons _ _ _ _ _ (@ps_if _ _ _ _ _ _ _ _ (pt_val (pe_callB call_isxt (by rfl) T.b_isinstance bt_isinstance (@pa_cons _ _ _ _ _ (pv 0) (@pa_cons _ _ _ _ _ (@pe_tup _ _ _ _ _ (@pa_cons _ _ _ _ _ (pe_gtuple T.g_NoName) (@pa_cons _ _ _ _ _ (pe_gtuple T.g_Ended) (@pa_cons _ _ _ _ _ (pe_gtuple T.g_TooLong) (@pa_cons _ _ _ _ _ (pe_gtuple T.g_Gone) (@pa_cons _ _ _ _ _ (pe_gtuple T.g_NotBox) pa_nil (by rfl)) (by rfl)) (by rfl)) (by rfl)) (by rfl))) pa_nil (by rfl)) (by rfl)))) (@pss_one _ _ _ (@ps_ret _ _ _ _ pe_bl)) pss_nil) (@pss_one _ _ _ (@ps_ret _ _ _ _ (pe_callB call_isxt (by rfl) T.b_isinstance bt_isinstance (@pa_cons _ _ _ _ _ (pv 0) (@pa_cons _ _ _ _ _ (@pe_tup _ _ _ _ _ (@pa_cons _ _ _ _ _ (pe_gtuple T.g_Shared) (@pa_cons _ _ _ _ _ (pe_gtuple T.g_BadBits) (@pa_cons _ _ _ _ _ (pe_gtuple T.g_Untrue) pa_nil (by rfl)) (by rfl)) (by rfl))) pa_nil (by rfl)) (by rfl))))))), ?_⟩
    have dd : ∀ {H' : Hp}, Same H H' → ∀ dy, some dx = some dy → ∃ o, H' dy = some o := fun s dy z => by cases z; exact ⟨_, s _ _ hd⟩
    refine ⟨_, rfl, le4, fun p1 h1 => ?_⟩
    have s1 := Same.new (o := .tup [.ref t.x_NoFunction, .ref t.x_TwiceNamed, .ref t.x_BadNest, .ref t.x_BadCall]) h1
    refine ⟨ea, t.x_BadRow, some dx, _, p1, _, false, rfl, s1 _ _ he, dd s1, T.x_BadRow, upd_same, fun us hv => ?_, _, rfl, iteN Bool.false_ne_true ?_⟩
    · rw [refs_of (as := [t.x_NoFunction, t.x_TwiceNamed, t.x_BadNest, t.x_BadCall]) hv]; exact T.ya_BadRow
    refine ⟨_, rfl, le5, fun p2 h2 => ?_⟩
    have s2 := s1.trans (Same.new (o := .tup [.ref t.x_NoName, .ref t.x_Ended, .ref t.x_TooLong, .ref t.x_Gone, .ref t.x_NotBox]) h2)
    refine ⟨ea, t.x_BadRow, some dx, _, p2, _, false, rfl, s2 _ _ he, dd s2, T.x_BadRow, upd_same, fun us hv => ?_, _, rfl, iteN Bool.false_ne_true ?_⟩
    · rw [refs_of (as := [t.x_NoName, t.x_Ended, t.x_TooLong, t.x_Gone, t.x_NotBox]) hv]; exact T.yb_BadRow
    refine ⟨_, rfl, le3, fun p3 h3 => ?_⟩
    have s3 := s2.trans (Same.new (o := .tup [.ref t.x_Shared, .ref t.x_BadBits, .ref t.x_Untrue]) h3)
    refine ⟨ea, t.x_BadRow, some dx, _, p3, _, false, rfl, s3 _ _ he, dd s3, T.x_BadRow, upd_same, fun us hv => ?_, q _ s3⟩
    rw [refs_of (as := [t.x_Shared, t.x_BadBits, t.x_Untrue]) hv]; exact T.yc_BadRow
end
end K15

set_option Elab.async false
set_option linter.all false
set_option maxRecDepth 100000
set_option maxHeartbeats 4000000
namespace K15
open PySem L2 Gx K11
section
variable {P : Program} {w : World} {K : PySem.W.Frag} {mg : Str → Option Value} {base : Heap} {t : Adr}
theorem sc_is_made_of : FnScope ["text", "signs", "most"] ["text", "signs", "most"] (defScope s_is_made_of) := ⟨rfl, rfl, rfl, by decide +kernel, rfl, by decide +kernel, by decide +kernel⟩
theorem ok_is_made_of (T : Txt K mg t) : FnOk P w K mg base CX0 1 t.a_is_made_of t.d_is_made_of ["text", "signs", "most"] (sp_is_made_of K) := by
  refine T.is_made_of.F.ok sc_is_made_of (fun vs H Q E h => ?_) (fun cdv A outer s H vs Q E hr h => ?_)
  · obtain ⟨x, S, m, rfl, hl, q⟩ := h
    rfl
  · obtain ⟨x, S, m, rfl, hl, q⟩ := h
    refine ⟨_, (@pss_cons _ _ _ _ _ (@ps_if _ _ _ _ _ _ _ _ (@PW.pt _ _ _ (pw_or (@pt_cmpR _ _ _ _ _ _ _ _ op_lt (pe_callB call_len_str (by rfl) T.b_len bt_len (@pa_cons _ _ _ _ _ (pv 0) pa_nil (by rfl))) pe_int (nomark _)) (pw_or1 (@pt_cmpR _ _ _ _ _ _ _ _ op_gt (pe_callB call_len_str (by rfl) T.b_len bt_len (@pa_cons _ _ _ _ _ (pv 0) pa_nil (by rfl))) (pv 2) (nomark _))))) (@pss_one _ _ _ (@ps_ret _ _ _ _ pe_bl)) pss_nil) (@pss_one _ _ _ (@ps_ret _ _ _ _ (pe_callB (call_all rfl) (by rfl) T.b_all bt_all (@pa_cons _ _ _ _ _ (pe_comp (N' := ["sign", "signs"]) (js := [none, some 1]) (by kernel_rfl) rfl (pi_str (pv 0)) own_name (fun _ _ _ _ => (pg_name (i := 0) (show (["sign", "signs"] : List Str).Nodup by decide +kernel) rfl (Or.inl rfl) (.inr rfl))) (fun _ _ _ _ => pif_nil) (fun _ _ _ _ => (pe_cmpR op_in_str (pv 0) (pv 1) (by with_unfolding_all rfl)))) pa_nil (by rfl)))))), ?_⟩
    refine ⟨_, rfl, _, rfl, lt_line (by omega), _, _, rfl, rfl, _, rfl, ?_⟩
    refine ite2 (fun c => ?_) (fun c => ?_)
    · refine iteT ?_
      have e : madeOf x S m = false := by unfold madeOf; rw [c]; rfl
      show Q (.bl false) H
      rw [← e]
      exact q H (Same.refl H)
    · refine ⟨_, rfl, _, rfl, lt_line (by omega), _, rfl, _, _, rfl, rfl, _, rfl, ?_⟩
      refine ite2 (fun c2 => ?_) (fun c2 => ?_)
      · have e : madeOf x S m = false := by unfold madeOf; rw [c2, Bool.or_true]; rfl
        show Q (.bl false) H
        rw [← e]
        exact q H (Same.refl H)
      · have eb : madeOf x S m = allIn x S := by
          unfold madeOf
          rw [(Bool.not_eq_true _).mp c, (Bool.not_eq_true _).mp c2]
          rfl
        refine ⟨_, rfl, x, rfl, fun p hp => comp_str (z := x) (by omega) (fun i acc H2 => H2 = upd H p (.lst acc) ∧ acc = ((x.cps.toList.take i).map fun c => V.bl (inS c S))) ⟨rfl, rfl⟩ ?_ ?_ ?_⟩
        · rintro i acc H2 hi ⟨rfl, rfl⟩
          exact ⟨upd_same, by rw [List.length_map, List.length_take]; omega⟩
        · rintro i c acc H2 hc ⟨rfl, rfl⟩
          have hc' : x.cps.toList[i]? = some c := by simpa using hc
          refine ⟨_, rfl, _, rfl, _, _, rfl, rfl, upd_same, ?_⟩
          refine ⟨upd_upd, ?_⟩
          rw [List.take_add_one, hc', List.map_append]
          rfl
        · rintro acc H2 ⟨rfl, rfl⟩
          have e1 : ((x.cps.toList.take x.length).map fun c => V.bl (inS c S)) = (x.cps.toList.map fun c => inS c S).map V.bl := by
            rw [List.take_of_length_le (Nat.le_of_eq (len_cps x)), List.map_map]
            rfl
          refine ⟨p, x.cps.toList.map fun c => inS c S, rfl, SqL.of (by rw [upd_same, e1]), ?_⟩
          have e2 : (x.cps.toList.map fun c => inS c S).all id = madeOf x S m := by
            rw [eb]
            unfold allIn
            rw [List.all_map]
            rfl
          rw [e2]
          exact q _ (Same.new hp)
end
end K15

set_option Elab.async false
set_option linter.all false
set_option maxRecDepth 100000
set_option maxHeartbeats 4000000
namespace K15
open PySem L2 Gx K11
section
variable {P : Program} {w : World} {K : PySem.W.Frag} {mg : Str → Option Value} {base : Heap} {t : Adr}
theorem sc_is_name : FnScope ["text"] ["text"] (defScope s_is_name) := ⟨rfl, rfl, rfl, by decide +kernel, rfl, by decide +kernel, by decide +kernel⟩
theorem ok_is_name (T : Txt K mg t) : FnOk P w K mg base CX0 2 t.a_is_name t.d_is_name ["text"] (sp_is_name K) := by
  have G_is_made_of : FnOk P w K mg base CX0 1 t.a_is_made_of t.d_is_made_of ["text", "signs", "most"] (sp_is_made_of K) := ok_is_made_of T
  refine T.is_name.F.ok sc_is_name (fun vs H Q E h => ?_) (fun cdv A outer s H vs Q E hr h => ?_)
  · obtain ⟨x, rfl, hl, q⟩ := h
    rfl
  · obtain ⟨x, rfl, hl, q⟩ := h
    refine ⟨_, (@pss_cons _ _ _ _ _ (@ps_if _ _ _ _ _ _ _ _ (pt_not (pt_val (callD T.is_made_of G_is_made_of (hr.mono (by decide)) (@pa_cons _ _ _ _ _ (pv 0) (@pa_cons _ _ _ _ _ (pe_gstr T.c_LETTERS) (@pa_cons _ _ _ _ _ (pe_gint T.c_MOST_LETTERS) pa_nil (by rfl)) (by rfl)) (by rfl))))) (@pss_one _ _ _ (@ps_ret _ _ _ _ pe_bl)) pss_nil) (@pss_one _ _ _ (@ps_ret _ _ _ _ (pe_cmpR op_notIn_seq (pv 0) (pe_gtuple T.c_TAKEN_WORDS) (by with_unfolding_all rfl))))), ?_⟩
    refine ⟨_, rfl, x, letters, _, rfl, hl, fun H1 s1 => ⟨_, rfl, ?_⟩⟩
    cases e : madeOf x letters 8 with
    | false =>
      refine iteT ?_
      have e2 := name_eq x
      rw [e, Bool.false_and] at e2
      show Q (.bl false) H1
      rw [e2]
      exact q _ s1
    | true =>
      refine iteF ⟨_, rfl, t.a_TAKEN, taken.map V.str, rfl, .inr (T.q_TAKEN H1), rfl, (by decide +kernel), ?_⟩
      have e2 := name_eq x
      rw [e, Bool.true_and] at e2
      show Q (.bl (!isTaken x)) H1
      rw [e2]
      exact q _ s1
end
end K15

set_option Elab.async false
set_option linter.all false
set_option maxRecDepth 100000
set_option maxHeartbeats 4000000
namespace K15
open PySem L2 Gx K11 K14
section
variable {P : Program} {w : World} {K : PySem.W.Frag} {mg : Str → Option Value} {base : Heap} {t : Adr}
theorem sc_is_opening : FnScope ["words", "names"] ["words"] (defScope s_is_opening) := ⟨rfl, rfl, rfl, by decide +kernel, rfl, by decide +kernel, by decide +kernel⟩
theorem ok_is_opening (T : Txt K mg t) : FnOk P w K mg base CX0 3 t.a_is_opening t.d_is_opening ["words"] (sp_is_opening K) := by
  have G_is_name : FnOk P w K mg base CX0 2 t.a_is_name t.d_is_name ["text"] (sp_is_name K) := ok_is_name T
  refine T.is_opening.F.ok sc_is_opening (fun vs H Q E h => ?_) (fun cdv A outer s H vs Q E hr h => ?_)
  · obtain ⟨a, ws, rfl, ha, h0, hs, q⟩ := h
    rfl
  · obtain ⟨a, ws, rfl, ha, h0, hs, q⟩ := h
    refine ⟨_, (@pss_cons _ _ _ _ _ (@ps_set _ _ 1 _ _ _ _ sc_is_opening.nd rfl (Or.inl rfl) (@pe_slice _ _ _ _ _ _ _ _ _ _ sl_list (pvC 0) (po_some pe_int) po_none) (by rfl) (by first | exact .inl rfl | exact .inr rfl | assumption)) (@pss_cons _ _ _ _ _ (@ps_if _ _ _ _ _ _ _ _ (@PW.pt _ _ _ (pw_or (@ptC_cmpR _ _ _ _ _ _ _ _ op_notIn_seq (@pe_ix _ _ _ _ _ _ _ (show IxR _ (cIxL K) from ixC_list) (pvC 0) pe_int (fun _ _ => rfl)) (@pe_tup _ _ _ _ _ (@pa_cons _ _ _ _ _ pe_str (@pa_cons _ _ _ _ _ pe_str pa_nil (by rfl)) (by rfl))) (by with_unfolding_all rfl)) (pw_or (@ptC_cmpR _ _ _ _ _ _ _ _ (opC0 op_lt) (pe_callB (show CallR _ (.builtin "len") (cLen K) from callC_len) (by rfl) T.b_len bt_len (@pa_cons _ _ _ _ _ (pvC 1) pa_nil (by rfl))) pe_int (nomark _)) (pw_or1 (@ptC_cmpR _ _ _ _ _ _ _ _ (opC0 op_gt) (pe_callB (show CallR _ (.builtin "len") (cLen K) from callC_len) (by rfl) T.b_len bt_len (@pa_cons _ _ _ _ _ (pvC 1) pa_nil (by rfl))) (@pe_op _ _ _ _ _ _ _ _ (opC0 op_add) pe_int (pe_gint T.c_MOST_ARGS)) (nomark _)))))) (@pss_one _ _ _ (@ps_ret _ _ _ _ pe_bl)) pss_nil) (@pss_one _ _ _ (@ps_ret _ _ _ _ (pe_callB (call_all rfl) (by rfl) T.b_all bt_all (@pa_cons _ _ _ _ _ (pe_comp (N' := ["name"]) (js := [none]) (by kernel_rfl) rfl (pi_list (pvC 1)) own_name (fun _ _ _ _ => (pg_name (i := 0) (show (["name"] : List Str).Nodup by decide +kernel) rfl (Or.inl rfl) (.inr rfl))) (fun _ _ _ _ => pif_nil) (fun _ _ _ _ => (callD T.is_name G_is_name (hr.mono (by decide)) (@pa_cons _ _ _ _ _ (pvC 0) pa_nil (by rfl))))) pa_nil (by rfl))))))), ?_⟩
    cases ws with
    | nil => exact absurd rfl h0
    | cons w0 ws =>
    obtain ⟨hs1, hs2⟩ := hs
    rw [List.length_cons] at hs2
    have hc : cutV ((w0 :: ws).map V.str) (some 1) none = ws.map V.str := cut_drop _ 1
    refine ⟨_, rfl, _, rfl, a, _, rfl, ha, fun nm hnm => ?_⟩
    rw [hc]
    have s1 := Same.new (o := .lst (ws.map V.str)) hnm
    have e1 := upd_same (H := H) (a := nm) (o := .lst (ws.map V.str))
    generalize upd H nm (.lst (ws.map V.str)) = H1 at s1 e1 ⊢
    refine ⟨_, rfl, a, _, _, _, rfl, rfl, s1.seq ha, at0, le2, fun tl htl => ⟨tl, _, rfl, .inr (SqT.of upd_same), rfl, (by decide +kernel), _, rfl, ?_⟩⟩
    have s2 := s1.trans (Same.new (o := .tup [.str "fn", .str "in"]) htl)
    have e2 := Same.new (o := .tup [.str "fn", .str "in"]) htl _ _ e1
    generalize upd H1 tl (.tup [.str "fn", .str "in"]) = H2 at s2 e2 ⊢
    have ee : opening (w0 :: ws) = (inV (.str w0) heads && decide (1 ≤ ws.length) && decide (ws.length ≤ 7) && ws.all named) := rfl
    refine ite2 (fun c => iteT ?_) (fun c => ?_)
    · have c : (!inV (.str w0) heads) = true := c
      refine vq (congrArg V.bl ?_) (q H2 s2)
      rw [ee, (Bool.not_eq_true' _).mp c]
      rfl
    have c : inV (.str w0) heads = true := by
      cases h : inV (.str w0) heads with
      | true => rfl
      | false => exact absurd (show (!inV (.str w0) heads) = true by rw [h]; rfl) c
    refine ⟨_, rfl, nm, _, rfl, .inl (SqL.of e2), _, _, rfl, rfl, _, rfl, ?_⟩
    rw [List.length_map]
    refine ite2 (fun c2 => iteT ?_) (fun c2 => ?_)
    · have c2 := dec_true c2
      refine vq (congrArg V.bl ?_) (q H2 s2)
      rw [ee, c, decide_eq_false (show ¬ 1 ≤ ws.length by omega)]
      rfl
    have c2 := dec_false c2
    refine ⟨_, rfl, nm, _, rfl, .inl (SqL.of e2), _, _, rfl, rfl, _, _, rfl, rfl, _, rfl, ?_⟩
    rw [List.length_map]
    refine ite2 (fun c3 => ?_) (fun c3 => ?_)
    · have c3 : (6 : Int) + 1 < (ws.length : Int) := by have := dec_true c3; omega
      refine vq (congrArg V.bl ?_) (q H2 s2)
      rw [ee, c, decide_eq_true (show 1 ≤ ws.length by omega), decide_eq_false (show ¬ ws.length ≤ 7 by omega)]
      rfl
    have c3 := dec_false c3
    refine ⟨_, rfl, nm, rfl, ⟨_, SqL.of e2⟩, fun u hu => comp_relL (K := K) (fun i _ v => ∃ w, ws[i]? = some w ∧ v = V.bl (named w)) (fun _ _ _ _ _ h => h) (xs := ws.map V.str) (by rw [List.length_map]; omega) (SqL.of e2) hu ?_ ?_⟩
    · rintro i x H3 R' hx s3 _ r3
      obtain ⟨y, hy, hym, rfl⟩ := map_at hx
      exact ⟨_, rfl, y, rfl, hs1 y (List.mem_cons_of_mem _ hym), fun H4 s4 => r3 _ H4 s4 ⟨y, hy, rfl⟩⟩
    · intro H3 vs s3 e3 lv tv
      rw [List.length_map] at lv
      have ev := vs_eq lv tv
      subst ev
      have e3 : H3 u = some (.lst ((ws.map named).map V.bl)) := by rw [e3, List.map_map]; rfl
      refine ⟨u, _, rfl, SqL.of e3, vq (congrArg V.bl ?_) (q H3 (s2.trans s3))⟩
      rw [ee, c, decide_eq_true (show 1 ≤ ws.length by omega), decide_eq_true (show ws.length ≤ 7 by omega), List.all_map]
      rfl
end
end K15

set_option Elab.async false
set_option linter.all false
set_option maxRecDepth 100000
set_option maxHeartbeats 4000000
namespace K15
open PySem L2 Gx K11 K14
section
variable {P : Program} {w : World} {K : PySem.W.Frag} {mg : Str → Option Value} {base : Heap} {t : Adr}
theorem sc_function_of : FnScope ["words", "rows"] ["words", "rows"] (defScope s_function_of) := ⟨rfl, rfl, rfl, by decide +kernel, rfl, by decide +kernel, by decide +kernel⟩
theorem ok_function_of (T : Txt K mg t) : FnOk P w K mg base CX0 1 t.a_function_of t.d_function_of ["words", "rows"] (sp_function_of K) := by
  refine T.function_of.F.ok sc_function_of (fun vs H Q E h => ?_) (fun cdv A outer s H vs Q E hr h => ?_)
  · obtain ⟨a, r, w0, w1, ws, us, rfl, ha, hr2, q⟩ := h
    rfl
  · obtain ⟨a, r, w0, w1, ws, us, rfl, ha, hr2, q⟩ := h
    refine ⟨_, (@pss_cons _ _ _ _ _ (@ps_ret _ _ _ _ (@pe_tup _ _ _ _ _ (@pa_cons _ _ _ _ _ (@pe_ix _ _ _ _ _ _ _ (show IxR _ (cIxL K) from ixC_list) (pvC 0) pe_int (fun _ _ => rfl)) (@pa_cons _ _ _ _ _ (pe_cmpR op_eq (@pe_ix _ _ _ _ _ _ _ (show IxR _ (cIxL K) from ixC_list) (pvC 0) pe_int (fun _ _ => rfl)) pe_str (nomark _)) (@pa_cons _ _ _ _ _ (pe_callTy call_tuple_of (by rfl) T.b_tuple bt_tuple (@pa_cons _ _ _ _ _ (@pe_slice _ _ _ _ _ _ _ _ _ _ sl_list (pvC 0) (po_some pe_int) po_none) pa_nil (by rfl))) (@pa_cons _ _ _ _ _ (pe_callTy call_tuple_of (by rfl) T.b_tuple bt_tuple (@pa_cons _ _ _ _ _ (pvC 1) pa_nil (by rfl))) pa_nil (by rfl)) (by rfl)) (by rfl)) (by rfl)))) pss_nil), ?_⟩
    have hc : cutV ((w0 :: w1 :: ws).map V.str) (some 2) none = ws.map V.str := cut_drop _ 2
    refine ⟨_, rfl, a, _, _, _, rfl, rfl, ha, atI_nat (j := 1) rfl, _, rfl, a, _, _, _, rfl, rfl, ha, at0, rfl, ?_⟩
    refine ⟨_, rfl, _, rfl, a, _, rfl, ha, fun l hl => ⟨l, _, rfl, .inl ⟨SqL.of upd_same, fun q1 hq1 => ?_⟩⟩⟩
    rw [hc] at hq1 ⊢
    have s1 := (Same.new (o := .lst (ws.map V.str)) hl).trans (Same.new (o := .tup (ws.map V.str)) hq1)
    have e1 := upd_same (H := upd H l (.lst (ws.map V.str))) (a := q1) (o := .tup (ws.map V.str))
    generalize upd (upd H l (.lst (ws.map V.str))) q1 (.tup (ws.map V.str)) = H1 at s1 e1 ⊢
    refine ⟨_, rfl, r, _, rfl, .inl ⟨s1.seq hr2, fun q2 hq2 => ⟨(by show 4 ≤ sizeLine; decide), fun p hp => ?_⟩⟩⟩
    have s2 := Same.new (o := .tup us) hq2
    have s3 := Same.new (o := .tup [.str w1, .bl (decide (V.str w0 = V.str "in")), .ref q1, .ref q2]) hp
    exact q p q1 q2 _ ((s1.trans s2).trans s3) upd_same (s3 _ _ (s2 _ _ e1)) (s3 _ _ upd_same)
end
end K15

set_option Elab.async false
set_option linter.all false
set_option maxRecDepth 100000
set_option maxHeartbeats 4000000
namespace K15
open PySem L2 Gx K11
section
variable {P : Program} {w : World} {K : PySem.W.Frag} {mg : Str → Option Value} {base : Heap} {t : Adr}
theorem sc_value_of : FnScope ["word", "number"] ["word"] (defScope s_value_of) := ⟨rfl, rfl, rfl, by decide +kernel, rfl, by decide +kernel, by decide +kernel⟩
theorem ok_value_of (T : Txt K mg t) : FnOk P w K mg base CX0 2 t.a_value_of t.d_value_of ["word"] (sp_value_of K) := by
  have G_is_made_of : FnOk P w K mg base CX0 1 t.a_is_made_of t.d_is_made_of ["text", "signs", "most"] (sp_is_made_of K) := ok_is_made_of T
  refine T.value_of.F.ok sc_value_of (fun vs H Q E h => ?_) (fun cdv A outer s H vs Q E hr h => ?_)
  · obtain ⟨x, rfl, hl, q⟩ := h
    rfl
  · obtain ⟨x, rfl, hl, q⟩ := h
    refine ⟨_, (@pss_cons _ _ _ _ _ (@ps_if _ _ _ _ _ _ _ _ (pt_not (pt_val (callD T.is_made_of G_is_made_of (hr.mono (by decide)) (@pa_cons _ _ _ _ _ (pv 0) (@pa_cons _ _ _ _ _ (pe_gstr T.c_FIGURES) (@pa_cons _ _ _ _ _ (pe_gint T.c_MOST_FIGURES) pa_nil (by rfl)) (by rfl)) (by rfl))))) (@pss_one _ _ _ (@ps_ret _ _ _ _ pe_non)) pss_nil) (@pss_cons _ _ _ _ _ (@ps_if _ _ _ _ _ _ _ _ (@PW.pt _ _ _ (@pw_and _ _ _ _ _ _ _ (@pt_cmpR _ _ _ _ _ _ _ _ op_eq (@pe_ix _ _ _ _ _ _ _ ix_str (pv 0) pe_int (fun _ _ => rfl)) pe_str (nomark _)) (@pw_and1 _ _ _ _ (@pt_cmpR _ _ _ _ _ _ _ _ op_ne (pv 0) pe_str (nomark _))))) (@pss_one _ _ _ (@ps_ret _ _ _ _ pe_non)) pss_nil) (@pss_cons _ _ _ _ _ (@ps_set _ _ 1 _ _ _ _ sc_value_of.nd rfl (Or.inl rfl) (pe_callTy call_int_str (by rfl) T.b_int bt_int (@pa_cons _ _ _ _ _ (pv 0) pa_nil (by rfl))) (by rfl) (by first | exact .inl rfl | exact .inr rfl | assumption)) (@pss_one _ _ _ (@ps_ret _ _ _ _ (@pe_ifExp _ _ _ _ _ _ _ _ (@pt_cmpR _ _ _ _ _ _ _ _ op_lt (pv 1) (pe_gint T.c_WIDE) (nomark _)) (pv 1) pe_non)))))), ?_⟩
    refine ⟨_, rfl, x, figs, _, rfl, hl, fun H1 s1 => ⟨_, rfl, ?_⟩⟩
    cases e : madeOf x figs 15 with
    | false =>
      refine iteT ?_
      have e2 := lawVal_not e
      show Q .non H1
      rw [← e2]
      exact q _ s1
    | true =>
      obtain ⟨hall, hpos, hmost⟩ := madeOf_true e
      have hw : within x figs = true := by unfold within; rw [hall, decide_eq_true (by omega)]; rfl
      obtain ⟨c0, hf, hat⟩ := first_at hpos
      refine iteF ⟨_, rfl, _, _, _, rfl, rfl, lt_line (by omega), hat, rfl, _, rfl, ?_⟩
      by_cases hc : c0 = 48
      · refine iteP (decide_eq_true (by rw [hc]; exact congrArg V.str zero_str)) ⟨_, rfl, rfl, _, rfl, ?_⟩
        by_cases hx : x = ("0" : Str)
        · refine iteN ?_ ?_
          · rw [hx]
            intro h
            rw [decide_eq_true (rfl : V.str ("0" : Str) = V.str ("0" : Str))] at h
            cases h
          have hz : ¬ (1 < x.length ∧ first x = some 48) := by
            intro h
            rw [hx, zero_len] at h
            exact absurd h.1 (by decide)

          refine ⟨_, rfl, x, _, rfl, PySem.intText_digits (digits_of_all hall) (by intro z; have := len_cps x; rw [z] at this; simp at this; omega) (by omega), by omega, ?_⟩
          refine ⟨_, rfl, _, _, rfl, rfl, _, rfl, ?_⟩
          rw [← total_digits hall]
          refine ite2 (fun g => ?_) (fun g => ?_)
          · have g : total x < 281474976710656 := dec_true g
            have e2 : lawVal x = .int (total x) := by
              unfold lawVal
              rw [if_pos ⟨hw, hz, g⟩]
            refine ⟨_, rfl, ?_⟩
            show Q (.int (total x)) H1
            rw [← e2]
            exact q _ s1
          · have g : ¬ total x < 281474976710656 := dec_false g
            have e2 : lawVal x = .non := by
              unfold lawVal
              rw [if_neg]
              intro h
              exact g h.2.2
            show Q .non H1
            rw [← e2]
            exact q _ s1

        · refine iteP ?_ ?_
          · rw [decide_eq_false (fun h => hx (V.str.inj h))]
            rfl
          have e2 : lawVal x = .non := by
            unfold lawVal
            rw [if_neg]
            intro h
            refine h.2.1 ⟨?_, by rw [hf, hc]⟩
            by_cases h1 : 1 < x.length
            · exact h1
            · exact absurd (one_fig (by omega) (by rw [hf, hc])) hx
          show Q .non H1
          rw [← e2]
          exact q _ s1
      · refine iteN ?_ ?_
        · intro h
          exact hc (str_zero (V.str.inj (dec_true h)))
        refine iteF ?_
        have hz : ¬ (1 < x.length ∧ first x = some 48) := by
          intro h
          rw [hf] at h
          exact hc (by simpa using h.2)

        refine ⟨_, rfl, x, _, rfl, PySem.intText_digits (digits_of_all hall) (by intro z; have := len_cps x; rw [z] at this; simp at this; omega) (by omega), by omega, ?_⟩
        refine ⟨_, rfl, _, _, rfl, rfl, _, rfl, ?_⟩
        rw [← total_digits hall]
        refine ite2 (fun g => ?_) (fun g => ?_)
        · have g : total x < 281474976710656 := dec_true g
          have e2 : lawVal x = .int (total x) := by
            unfold lawVal
            rw [if_pos ⟨hw, hz, g⟩]
          refine ⟨_, rfl, ?_⟩
          show Q (.int (total x)) H1
          rw [← e2]
          exact q _ s1
        · have g : ¬ total x < 281474976710656 := dec_false g
          have e2 : lawVal x = .non := by
            unfold lawVal
            rw [if_neg]
            intro h
            exact g h.2.2
          show Q .non H1
          rw [← e2]
          exact q _ s1
end
end K15

set_option Elab.async false
set_option linter.all false
set_option maxRecDepth 100000
set_option maxHeartbeats 4000000
namespace K15
open PySem L2 Gx K11 K14
section
variable {P : Program} {w : World} {K : PySem.W.Frag} {mg : Str → Option Value} {base : Heap} {t : Adr}
theorem sc_atom_of : FnScope ["word"] ["word"] (defScope s_atom_of) := ⟨rfl, rfl, rfl, by decide +kernel, rfl, by decide +kernel, by decide +kernel⟩
theorem ok_atom_of (T : Txt K mg t) : FnOk P w K mg base CX0 3 t.a_atom_of t.d_atom_of ["word"] (sp_atom_of K) := by
  have G_is_name : FnOk P w K mg base CX0 2 t.a_is_name t.d_is_name ["text"] (sp_is_name K) := ok_is_name T
  have G_value_of : FnOk P w K mg base CX0 2 t.a_value_of t.d_value_of ["word"] (sp_value_of K) := ok_value_of T
  refine T.atom_of.F.ok sc_atom_of (fun vs H Q E h => ?_) (fun cdv A outer s H vs Q E hr h => ?_)
  · obtain ⟨x, rfl, hl, q⟩ := h
    rfl
  · obtain ⟨x, rfl, hl, q⟩ := h
    refine ⟨_, (@pss_cons _ _ _ _ _ (@ps_if _ _ _ _ _ _ _ _ (pt_val (callD T.is_name G_is_name (hr.mono (by decide)) (@pa_cons _ _ _ _ _ (pv 0) pa_nil (by rfl)))) (@pss_one _ _ _ (@ps_ret _ _ _ _ (pv 0))) pss_nil) (@pss_one _ _ _ (@ps_ret _ _ _ _ (callD T.value_of G_value_of (hr.mono (by decide)) (@pa_cons _ _ _ _ _ (pv 0) pa_nil (by rfl)))))), ?_⟩
    refine ⟨_, rfl, x, rfl, hl, fun H1 s1 => ⟨_, rfl, ?_⟩⟩
    cases e : named x with
    | true =>
      refine iteT ⟨_, rfl, ?_⟩
      have := q H1 s1
      unfold atomF at this
      rw [e, if_pos rfl] at this
      exact this
    | false =>
      refine iteF ⟨_, rfl, x, rfl, hl, fun H2 s2 => ?_⟩
      have := q H2 (s1.trans s2)
      unfold atomF at this
      rw [e, if_neg (by decide)] at this
      exact this
end
end K15

set_option Elab.async false
set_option linter.all false
set_option maxRecDepth 100000
set_option maxHeartbeats 4000000
namespace K15
open PySem L2 Gx K11 K14
section
variable {P : Program} {w : World} {K : PySem.W.Frag} {mg : Str → Option Value} {base : Heap} {t : Adr}
theorem sc_part_of : FnScope ["word", "part"] ["word", "part"] (defScope s_part_of) := ⟨rfl, rfl, rfl, by decide +kernel, rfl, by decide +kernel, by decide +kernel⟩
theorem ok_part_of (T : Txt K mg t) : FnOk P w K mg base CX0 4 t.a_part_of t.d_part_of ["word", "part"] (sp_part_of K) := by
  have G_atom_of : FnOk P w K mg base CX0 3 t.a_atom_of t.d_atom_of ["word"] (sp_atom_of K) := ok_atom_of T
  have G_is_name : FnOk P w K mg base CX0 2 t.a_is_name t.d_is_name ["text"] (sp_is_name K) := ok_is_name T
  refine T.part_of.F.ok sc_part_of (fun vs H Q E h => ?_) (fun cdv A outer s H vs Q E hr h => ?_)
  · obtain ⟨w, p, rfl, hl, q⟩ := h
    rfl
  · obtain ⟨w, p, rfl, hl, q⟩ := h
    refine ⟨_, (@pss_cons _ _ _ _ _ (@ps_if _ _ _ _ _ _ _ _ (@ptC_cmpR _ _ _ _ _ _ _ _ op_in_seq (pvC 1) (@pe_tup _ _ _ _ _ (@pa_cons _ _ _ _ _ pe_str (@pa_cons _ _ _ _ _ pe_str pa_nil (by rfl)) (by rfl))) (by with_unfolding_all rfl)) (@pss_one _ _ _ (@ps_ret _ _ _ _ (callD T.atom_of G_atom_of (hr.mono (by decide)) (@pa_cons _ _ _ _ _ (pvC 0) pa_nil (by rfl))))) pss_nil) (@pss_cons _ _ _ _ _ (@ps_if _ _ _ _ _ _ _ _ (@ptC_cmpR _ _ _ _ _ _ _ _ op_eq (pvC 1) pe_str (nomark _)) (@pss_one _ _ _ (@ps_ret _ _ _ _ (@pe_ifExp _ _ _ _ _ _ _ _ (@ptC_cmpR _ _ _ _ _ _ _ _ op_in_seq (pvC 0) (pe_gtuple T.c_SIGNS) (by with_unfolding_all rfl)) (pvC 0) pe_non))) pss_nil) (@pss_one _ _ _ (@ps_ret _ _ _ _ (@pe_ifExp _ _ _ _ _ _ _ _ (ptC_val (callD T.is_name G_is_name (hr.mono (by decide)) (@pa_cons _ _ _ _ _ (pvC 0) pa_nil (by rfl)))) (pvC 0) pe_non))))), ?_⟩
    refine ⟨_, rfl, le2, fun tl htl => ⟨tl, _, rfl, .inr (SqT.of upd_same), rfl, (by decide +kernel), _, rfl, ?_⟩⟩
    have s0 := Same.new (o := .tup [.str "A", .str "B"]) htl
    generalize upd H tl (.tup [.str "A", .str "B"]) = H0 at s0 ⊢
    refine ite2 (fun c => ?_) (fun c => ?_)
    · have c : inV (.str p) [.str "A", .str "B"] = true := c
      refine ⟨_, rfl, w, rfl, hl, fun H1 s1 => vq ?_ (q H1 (s0.trans s1))⟩
      unfold partV
      rw [if_pos c]
    have c : ¬ inV (.str p) [.str "A", .str "B"] = true := c
    refine ⟨_, rfl, rfl, _, rfl, ?_⟩
    refine ite2 (fun c2 => ?_) (fun c2 => ?_)
    · refine ⟨_, rfl, t.a_SIGNS, signs.map V.str, rfl, .inr (T.q_SIGNS _), rfl, (by decide +kernel), _, rfl, ?_⟩
      refine ite2 (fun c3 => ?_) (fun c3 => ?_)
      · refine ⟨_, rfl, vq ?_ (q H0 s0)⟩
        have c3 : isSign w = true := c3
        unfold partV
        rw [if_neg c, if_pos c2, if_pos c3]
      · refine vq ?_ (q H0 s0)
        have c3 : ¬ isSign w = true := c3
        unfold partV
        rw [if_neg c, if_pos c2, if_neg c3]
    · refine ⟨_, rfl, w, rfl, hl, fun H1 s1 => ⟨_, rfl, ?_⟩⟩
      refine ite2 (fun c3 => ?_) (fun c3 => ?_)
      · refine ⟨_, rfl, vq ?_ (q H1 (s0.trans s1))⟩
        unfold partV
        rw [if_neg c, if_neg c2, if_pos c3]
      · refine vq ?_ (q H1 (s0.trans s1))
        unfold partV
        rw [if_neg c, if_neg c2, if_neg c3]
end
end K15

set_option Elab.async false
set_option linter.all false
set_option maxRecDepth 100000
set_option maxHeartbeats 4000000
namespace K15
open PySem L2 Gx K11 K14
section
variable {P : Program} {w : World} {K : PySem.W.Frag} {mg : Str → Option Value} {base : Heap} {t : Adr}
theorem sc_parts_of : FnScope ["words", "form", "found", "word", "part"] ["words", "form"] (defScope s_parts_of) := ⟨rfl, rfl, rfl, by decide +kernel, rfl, by decide +kernel, by decide +kernel⟩
theorem ok_parts_of (T : Txt K mg t) : FnOk P w K mg base CX0 5 t.a_parts_of t.d_parts_of ["words", "form"] (sp_parts_of K) := by
  have G_part_of : FnOk P w K mg base CX0 4 t.a_part_of t.d_part_of ["word", "part"] (sp_part_of K) := ok_part_of T
  refine T.parts_of.F.ok sc_parts_of (fun vs H Q E h => ?_) (fun cdv A outer s H vs Q E hr h => ?_)
  · obtain ⟨a, f, ws, fs, rfl, ha, hf, hs, hl, qn, qs⟩ := h
    rfl
  · obtain ⟨a, f, ws, fs, rfl, ha, hf, hs, hl, qn, qs⟩ := h
    refine ⟨_, (@pss_cons _ _ _ _ _ (@ps_if _ _ _ _ _ _ _ _ (@ptC_cmpR _ _ _ _ _ _ _ _ (opC0 op_lt) (pe_callB (show CallR _ (.builtin "len") (cLen K) from callC_len) (by rfl) T.b_len bt_len (@pa_cons _ _ _ _ _ (pvC 0) pa_nil (by rfl))) (pe_callB (show CallR _ (.builtin "len") (cLen K) from callC_len) (by rfl) T.b_len bt_len (@pa_cons _ _ _ _ _ (pvC 1) pa_nil (by rfl))) (nomark _)) (@pss_one _ _ _ (@ps_ret _ _ _ _ pe_non)) pss_nil) (@pss_cons _ _ _ _ _ (@ps_set _ _ 2 _ _ _ _ sc_parts_of.nd rfl (Or.inl rfl) pe_dnewK (by rfl) (by first | exact .inl rfl | exact .inr rfl | assumption)) (@pss_cons _ _ _ _ _ (ps_for PassesOwn.never rfl (pi_zip false true rfl T.b_zip (@pa_cons _ _ _ _ _ (pvC 0) (@pa_cons _ _ _ _ _ (pvC 1) pa_nil (by rfl)) (by rfl))) (pg_tup rfl (pgs_cons (pg_name (i := 3) sc_parts_of.nd rfl (Or.inl rfl)) (pgs_cons (pg_name (i := 4) sc_parts_of.nd rfl (Or.inl rfl)) pgs_nil))) (@pss_one _ _ _ (@ps_if _ _ _ _ _ _ _ _ (ptC_val (pe_bm0 PySem.F.plainAttrs_str PySem.F.slot_str_isupper PySem.F.type_str_isupper mt_isupper (pvC 4))) (@pss_cons _ _ _ _ _ (ps_dput (u1' hr.units) (pvC 2) (pvC 4) (callD T.part_of G_part_of (hr.mono (by decide)) (@pa_cons _ _ _ _ _ (pvC 3) (@pa_cons _ _ _ _ _ (pvC 4) pa_nil (by rfl)) (by rfl))) (by rfl)) (@pss_one _ _ _ (@ps_if _ _ _ _ _ _ _ _ (pt_cmp (pc_isN (pe_dget (u1' hr.units) (pvC 2) (pvC 4) (fun _ _ => rfl)))) (@pss_one _ _ _ (@ps_ret _ _ _ _ pe_non)) pss_nil))) (@pss_one _ _ _ (@ps_if _ _ _ _ _ _ _ _ (@ptC_cmpR _ _ _ _ _ _ _ _ op_ne (pvC 3) (pvC 4) (nomark _)) (@pss_one _ _ _ (@ps_ret _ _ _ _ pe_non)) pss_nil))))) (@pss_one _ _ _ (@ps_ret _ _ _ _ (pvC 2)))))), ?_⟩
    refine ⟨_, rfl, a, _, rfl, .inl ha, _, rfl, f, _, rfl, .inr hf, _, _, rfl, rfl, _, rfl, ?_⟩
    refine ite2 (fun c => ?_) (fun c => ?_)
    · have c := dec_true c
      rw [List.length_map, List.length_map] at c
      exact qn (g_short (by omega)) H (Same.refl _)
    have c := dec_false c
    have hs2 := hs.2
    rw [List.length_map, List.length_map] at c
    have eg := g_long (ws := ws) (fs := fs) (by omega)
    refine fun d hd => ?_
    refine ⟨_, rfl, _, rfl, a, f, rfl, ⟨_, (Same.new hd).seq ha⟩, ⟨_, (Same.new hd).tup hf⟩, for_zip (xs := ws.map V.str) (ys := fs.map V.str) (fun i σ H2 => ∃ (v3 v4 : Option V) (acc : List (Key × V)), σ = [some (.ref a), some (.ref f), some (.ref d), v3, v4] ∧ Same H H2 ∧ H2 d = some (.dK acc) ∧ acc.length ≤ i ∧ partsF ((ws.zip fs).drop i) acc = partsG ws fs) ⟨_, _, [], rfl, Same.new hd, upd_same, Nat.le_refl _, by rw [eg]; rfl⟩ ?_ ?_ ?_⟩
    · rintro i σ H2 hi ⟨v3, v4, acc, rfl, s2, e2, la, hp⟩
      exact ⟨s2.seq ha, s2.tup hf⟩
    · rintro i x y σ H2 b hx hy ⟨v3, v4, acc, rfl, s2, e2, la, hp⟩ hb
      obtain ⟨w, hw, hwm, rfl⟩ := map_at hx
      obtain ⟨p, hp', _, rfl⟩ := map_at hy
      have hwl := hs.1 w hwm
      have ilt : i < ws.length := (List.getElem?_eq_some_iff.mp hw).1
      have ed : (ws.zip fs).drop i = (w, p) :: (ws.zip fs).drop (i + 1) := by
        have hz : (ws.zip fs)[i]? = some (w, p) := by rw [List.getElem?_zip_eq_some]; exact ⟨hw, hp'⟩
        have hi := (List.getElem?_eq_some_iff.mp hz).1
        rw [List.drop_eq_getElem_cons hi]
        congr 1
        exact (List.getElem?_eq_some_iff.mp hz).2
      rw [ed] at hp
      have s3 := Same.new (o := .tup [.str w, .str p]) hb
      refine ⟨b, _, rfl, SqT.of upd_same, rfl, _, _, rfl, _, _, rfl, rfl, ?_⟩
      generalize upd H2 b (.tup [.str w, .str p]) = H3 at s3 ⊢
      have s03 := s2.trans s3
      have e3 := s3 _ _ e2
      refine ⟨_, rfl, rfl, p, rfl, rfl, _, rfl, ?_⟩
      refine ite2 (fun cu => ?_) (fun cu => ?_)
      · refine ⟨_, rfl, _, rfl, w, p, rfl, hwl, fun H4 s4 => ?_⟩
        have s04 := s03.trans s4
        have e4 := s4 _ _ e3
        refine ⟨_, rfl, _, rfl, d, _, rfl, .inl ⟨acc, .inr p, e4, rfl, lt_of_le (by omega), rfl⟩, ?_⟩
        have s5 : Same H (upd H4 d (.dK (putK acc (.inr p) (partV w p)))) := s04.upd hd
        have vv : valV (putK acc (.inr p) (partV w p)) (.inr p) = some (partV w p) := vput
        refine ⟨_, rfl, _, rfl, d, partV w p, rfl, .inl ⟨_, .inr p, .inl upd_same, rfl, vv.symm⟩, _, rfl, ?_⟩
        refine ite2 (fun cn => ?_) (fun cn => ?_)
        · have cn := dec_true cn
          refine qn ?_ _ s5
          rw [← hp]
          exact f_no cu cn
        · have cn := dec_false cn
          refine ⟨_, _, _, rfl, s5, upd_same, ?_, ?_⟩
          · have := length_putK acc (.inr p) (partV w p)
            omega
          · rw [← hp]
            exact (f_up cu rfl cn).symm
      · have cu : Txt.isupper p = false := by cases h : Txt.isupper p with | true => exact absurd h cu | false => rfl
        refine ⟨_, rfl, _, rfl, rfl, _, rfl, ?_⟩
        refine ite2 (fun cn => ?_) (fun cn => ?_)
        · refine qn ?_ _ s03
          rw [← hp]
          exact f_ne cu (fun z => by rw [z] at cn; simp at cn)
        · refine ⟨_, _, _, rfl, s03, e3, by omega, ?_⟩
          have e : w = p := by
            cases h : decide (V.str w = V.str p) with
            | true => exact V.str.inj (dec_true h)
            | false => rw [h] at cn; exact absurd rfl cn
          subst e
          rw [← hp]
          exact (f_lit cu).symm
    · rintro σ H2 ⟨v3, v4, acc, rfl, s2, e2, la, hp⟩
      refine ⟨_, rfl, qs acc ?_ d H2 hd s2 e2⟩
      rw [← hp, List.drop_eq_nil_of_le (by rw [List.length_zip, List.length_map, List.length_map]; exact Nat.le_refl _)]
      rfl
end
end K15

set_option Elab.async false
set_option linter.all false
set_option maxRecDepth 100000
set_option maxHeartbeats 4000000
namespace K15
open PySem L2 Gx K11 K14
section
variable {P : Program} {w : World} {K : PySem.W.Frag} {mg : Str → Option Value} {base : Heap} {t : Adr}
theorem sc_with_args : FnScope ["row", "words", "atoms"] ["row", "words"] (defScope s_with_args) := ⟨rfl, rfl, rfl, by decide +kernel, rfl, by decide +kernel, by decide +kernel⟩
theorem ok_with_args (T : Txt K mg t) : FnOk P w K mg base CX0 4 t.a_with_args t.d_with_args ["row", "words"] (sp_with_args K) := by
  have G_atom_of : FnOk P w K mg base CX0 3 t.a_atom_of t.d_atom_of ["word"] (sp_atom_of K) := ok_atom_of T
  refine T.with_args.F.ok sc_with_args (fun vs H Q E h => ?_) (fun cdv A outer s H vs Q E hr h => ?_)
  · obtain ⟨p, w, xs, ws, rfl, hp, hw, hs, hne, hx, qn, q⟩ := h
    rfl
  · obtain ⟨p, w, xs, ws, rfl, hp, hw, hs, hne, hx, qn, q⟩ := h
    refine ⟨_, (@pss_cons _ _ _ _ _ (ps_setc (i := 2) sc_with_args.nd rfl (Or.inl rfl) (N' := ["word"]) (js := [none]) (by kernel_rfl) rfl (pi_list (pv 1)) own_name (fun _ _ _ _ => (pg_name (i := 0) (show (["word"] : List Str).Nodup by decide +kernel) rfl (Or.inl rfl) (.inr rfl))) (fun _ _ _ _ => pif_nil) (fun _ _ _ _ => (callD T.atom_of G_atom_of (hr.mono (by decide)) (@pa_cons _ _ _ _ _ (pv 0) pa_nil (by rfl)))) (by rfl)) (@pss_cons _ _ _ _ _ (@ps_if _ _ _ _ _ _ _ _ (@PW.pt _ _ _ (pw_or (@pt_cmpR _ _ _ _ _ _ _ _ op_gt (pe_callB call_len_seq (by rfl) T.b_len bt_len (@pa_cons _ _ _ _ _ (pv 2) pa_nil (by rfl))) (pe_gint T.c_MOST_ARGS) (nomark _)) (pw_or1 (@pt_cmpR _ _ _ _ _ _ _ _ op_in_seq pe_non (pv 2) (by with_unfolding_all rfl))))) (@pss_one _ _ _ (@ps_ret _ _ _ _ pe_non)) pss_nil) (@pss_one _ _ _ (@ps_ret _ _ _ _ (@pe_op _ _ _ _ _ _ _ _ op_catT (pv 0) (@pe_tup _ _ _ _ _ (@pa_cons _ _ _ _ _ (pe_callTy call_tuple_of (by rfl) T.b_tuple bt_tuple (@pa_cons _ _ _ _ _ (pv 2) pa_nil (by rfl))) pa_nil (by rfl)))))))), ?_⟩
    refine ⟨_, rfl, w, rfl, ⟨_, hw⟩, fun u hu => comp_relL (K := K) (fun i _ v => ∃ w, ws[i]? = some w ∧ v = atomF w) (fun _ _ _ _ _ h => h) (xs := ws.map V.str) (by rw [List.length_map]; have := hs.2; omega) hw hu ?_ ?_⟩
    · rintro i x H2 R' hx2 s2 _ r2
      obtain ⟨y, hy, hym, rfl⟩ := map_at hx2
      exact ⟨_, rfl, y, rfl, hs.1 y hym, fun H4 s4 => r2 _ H4 s4 ⟨y, hy, rfl⟩⟩
    · intro H2 vs s2 e2 lv tv
      rw [List.length_map] at lv
      have ev := vs_eq lv tv
      subst ev
      refine ⟨_, rfl, u, _, rfl, .inl (SqL.of e2), _, _, rfl, rfl, _, rfl, ?_⟩
      rw [List.length_map]
      by_cases h6 : 6 < ws.length
      · exact iteP (decide_eq_true (by omega)) (iteP rfl (qn (.inl h6) H2 s2))
      refine iteN (fun z => by have := dec_true z; omega) ?_
      refine ⟨_, rfl, u, _, rfl, .inl (SqL.of e2), rfl, flat_atoms ws, _, rfl, ?_⟩
      cases hn : inV .non (ws.map atomF) with
      | true => exact iteP rfl (qn (.inr hn) H2 s2)
      | false =>
      refine iteN (by decide) ?_
      refine ⟨_, rfl, _, rfl, u, _, rfl, .inl ⟨SqL.of e2, fun l hl => ⟨le1, fun tp htp => ?_⟩⟩⟩
      have s3 := Same.new (o := .tup (ws.map atomF)) hl
      have s4 := Same.new (o := .tup [.ref l]) htp
      refine ⟨p, tp, xs, [.ref l], rfl, rfl, ((s2.trans s3).trans s4).tup hp, SqT.of upd_same, hne, lt_line (by show xs.length + 1 < 1000000; omega), (fun z => by cases z), fun _ r hr => ?_⟩
      have s5 := Same.new (o := .tup (xs ++ [.ref l])) hr
      exact q (by omega) hn r l _ (((s2.trans s3).trans s4).trans s5) (s5 _ _ (s4 _ _ upd_same)) upd_same
end
end K15

set_option Elab.async false
set_option linter.all false
set_option maxRecDepth 100000
set_option maxHeartbeats 4000000
namespace K15
open PySem L2 Gx K11 K14
section
variable {P : Program} {w : World} {K : PySem.W.Frag} {mg : Str → Option Value} {base : Heap} {t : Adr}
theorem sc_row_of : FnScope ["words", "kind", "parts", "form", "found", "row", "rest"] ["words"] (defScope s_row_of) := ⟨rfl, rfl, rfl, by decide +kernel, rfl, by decide +kernel, by decide +kernel⟩
theorem ok_row_of (T : Txt K mg t) : FnOk P w K mg base CX0 6 t.a_row_of t.d_row_of ["words"] (sp_row_of K) := by
  have G_parts_of : FnOk P w K mg base CX0 5 t.a_parts_of t.d_parts_of ["words", "form"] (sp_parts_of K) := ok_parts_of T
  have G_with_args : FnOk P w K mg base CX0 4 t.a_with_args t.d_with_args ["row", "words"] (sp_with_args K) := ok_with_args T
  refine T.row_of.F.ok sc_row_of (fun vs H Q E h => ?_) (fun cdv A outer s H vs Q E hr h => ?_)
  · obtain ⟨a, ws, rfl, ha, hs, q⟩ := h
    rfl
  · obtain ⟨a, ws, rfl, ha, hs, q⟩ := h
    refine ⟨_, (@pss_cons _ _ _ _ _ (ps_for PassesOwn.never rfl (pi_keys (pe_gtuple T.c_FORMS)) (pg_name (i := 1) sc_row_of.nd rfl (Or.inl rfl)) (@pss_cons _ _ _ _ _ (ps_asg (@pe_ix _ _ _ _ _ _ _ ix_tab2 (pe_gtuple T.c_FORMS) (pv 1) (fun _ _ => rfl)) (pg_tup rfl (pgs_cons (pg_name (i := 2) sc_row_of.nd rfl (Or.inl rfl)) (pgs_cons (pg_name (i := 3) sc_row_of.nd rfl (Or.inl rfl)) pgs_nil)))) (@pss_cons _ _ _ _ _ (@ps_set _ _ 4 _ _ _ _ sc_row_of.nd rfl (Or.inr rfl) (callD T.parts_of G_parts_of (hr.mono (by decide)) (@pa_cons _ _ _ _ _ (pv 0) (@pa_cons _ _ _ _ _ (pv 3) pa_nil (by rfl)) (by rfl))) (by rfl) (by first | exact .inl rfl | exact .inr rfl | assumption)) (@pss_one _ _ _ (@ps_if _ _ _ _ _ _ _ _ (pt_cmp (pc_notN (pv 4))) (@pss_cut _ _ _ _ _ (@ps_set _ _ 5 _ _ _ _ sc_row_of.nd rfl (Or.inl rfl) (@pe_op _ _ _ _ _ _ _ _ op_catT (@pe_tup _ _ _ _ _ (@pa_cons _ _ _ _ _ (pv 1) pa_nil (by rfl))) (pe_callTy call_tuple_of (by rfl) T.b_tuple bt_tuple (@pa_cons _ _ _ _ _ (pe_comp (N' := ["part", "found"]) (js := [none, some 4]) (by kernel_rfl) rfl (pi_tup (pv 2)) own_name (fun _ _ _ _ => (pg_name (i := 0) (show (["part", "found"] : List Str).Nodup by decide +kernel) rfl (Or.inl rfl) (.inr rfl))) (fun _ _ _ _ => pif_nil) (fun _ _ _ _ => (pe_dget (u1' hr.units) (pv 1) (pv 0) (fun _ _ => rfl)))) pa_nil (by rfl)))) (by rfl) (by first | exact .inl rfl | exact .inr rfl | assumption)) (@pss_cons _ _ _ _ _ (@ps_set _ _ 6 _ _ _ _ sc_row_of.nd rfl (Or.inl rfl) (@pe_slice _ _ _ _ _ _ _ _ _ _ sl_list (pv 0) (po_some (pe_callB call_len_seq (by rfl) T.b_len bt_len (@pa_cons _ _ _ _ _ (pv 3) pa_nil (by rfl)))) po_none) (by rfl) (by first | exact .inl rfl | exact .inr rfl | assumption)) (@pss_cons _ _ _ _ _ (@ps_if _ _ _ _ _ _ _ _ (@pt_cmpR _ _ _ _ _ _ _ _ op_eq (pv 1) pe_str (nomark _)) (@pss_one _ _ _ (@ps_ret _ _ _ _ (callD T.with_args G_with_args (hr.mono (by decide)) (@pa_cons _ _ _ _ _ (pv 5) (@pa_cons _ _ _ _ _ (pv 6) pa_nil (by rfl)) (by rfl))))) pss_nil) (@pss_one _ _ _ (@ps_if _ _ _ _ _ _ _ _ (pt_not (pt_tru (K := K) rfl (pv 6) (by intro _; rfl))) (@pss_one _ _ _ (@ps_ret _ _ _ _ (pv 5))) pss_nil))))) pss_nil))))) (@pss_one _ _ _ (@ps_ret _ _ _ _ pe_non))), ?_⟩
    obtain ⟨hs1, hs2⟩ := hs
    refine ⟨t.a_FORMS, formsV, rfl, T.q_FORMS, for_keys (fun i σ H2 => ∃ (v1 v2 v3 v4 v5 v6 : Option V), σ = [some (.ref a), v1, v2, v3, v4, v5, v6] ∧ Same H H2 ∧ rowGo ws (forms.drop i) = rowGo ws forms) ⟨_, _, _, _, _, _, rfl, Same.refl _, rfl⟩ ?_ ?_⟩
    · rintro i r σ H2 hr2 ⟨v1, v2, v3, v4, v5, v6, rfl, s2, hg⟩
      obtain ⟨k, ps, fs, hf, rfl, hdat, lf, lp, hpf⟩ := form_facts hr2
      rw [go_at hf] at hg
      refine ⟨_, rfl, t.a_FORMS, formsV, k, (ps.map V.str, fs.map V.str), rfl, rfl, T.q_FORMS, hdat, fun fa b c h1 h2 h3 => ?_⟩
      refine ⟨fa, [.ref b, .ref c], rfl, h1, rfl, _, _, rfl, _, _, rfl, rfl, ?_⟩
      refine ⟨_, rfl, _, rfl, a, c, ws, fs, rfl, s2.seq ha, h3, ⟨hs1, hs2⟩, by omega, fun en H3 s3 => ?_, fun found ef d' H3 hd' s3 e3 => ?_⟩
      · rw [en] at hg
        exact ⟨_, rfl, _, rfl, iteN (by decide +kernel) ⟨_, _, _, _, _, _, rfl, s2.trans s3, hg⟩⟩
      · rw [ef] at hg
        have hg : hitF ws k ps fs found (rowGo ws (forms.drop (i + 1))) = rowGo ws forms := hg
        refine ⟨_, rfl, _, rfl, iteP rfl ?_⟩
        have s03 := s2.trans s3
        have fa := found_all ef hpf
        refine ⟨fun σ H5 => ∃ (rp : Addr) (v6 : Option V), σ = [some (.ref a), some (.str k), some (.ref b), some (.ref c), some (.ref d'), some (.ref rp), v6] ∧ Same H3 H5 ∧ H5 rp = some (.tup (.str k :: ps.map fun p => (valV found (.inr p)).getD .non)), ?_, ?_⟩
        · refine ⟨_, rfl, le1, fun tk htk => ?_⟩
          have s4 := Same.new (o := .tup [.str k]) htk
          have e4 := upd_same (H := H3) (a := tk) (o := .tup [.str k])
          have f4 := s4 _ _ e3
          generalize upd H3 tk (.tup [.str k]) = H4 at s4 e4 f4 ⊢
          refine ⟨_, rfl, b, rfl, ⟨_, (s3.trans s4).tup h2⟩, fun u hu => comp_relT (K := K) (fun i _ v => ∃ p, ps[i]? = some p ∧ v = (valV found (.inr p)).getD .non) (fun _ _ _ _ _ h => h) (xs := ps.map V.str) (by rw [List.length_map]; omega) ((s3.trans s4).tup h2) hu ?_ ?_⟩
          · rintro j x H5 R' hx s5 _ r5
            obtain ⟨p, hp, hpm, rfl⟩ := map_at hx
            obtain ⟨v, hv⟩ := fa p hpm
            exact ⟨_, rfl, _, rfl, d', v, rfl, .inl ⟨found, .inr p, .inl (s5 _ _ f4), rfl, hv.symm⟩, r5 v H5 (Same.refl _) ⟨p, hp, by rw [hv]; rfl⟩⟩
          · intro H5 vs s5 e5 lv tv
            rw [List.length_map] at lv
            have ev := vs_eq lv tv
            subst ev
            refine ⟨u, _, rfl, .inl ⟨SqL.of e5, fun tl htl => ?_⟩⟩
            have s6 := Same.new (o := .tup (ps.map fun p => (valV found (.inr p)).getD .non)) htl
            refine ⟨tk, tl, _, _, rfl, rfl, SqT.of (s6 _ _ (s5 _ _ e4)), SqT.of upd_same, (by simp), lt_line (by rw [List.length_map]; show 1 + ps.length < 1000000; omega), (fun z => ?_), fun _ rp hrp => ?_⟩
            · exact ⟨tk, _, rfl, (s4.trans s5).trans s6, by have h := s6 _ _ (s5 _ _ e4); rw [z] at h ⊢; exact h⟩
            · exact ⟨rp, _, rfl, ((s4.trans s5).trans s6).trans (Same.new hrp), upd_same⟩
        · rintro σ H5 ⟨rp, v6, rfl, s5, e5⟩
          have s05 := s03.trans s5
          have hcut : cutV (ws.map V.str) (some ((fs.map V.str).length : Int)) none = (ws.drop fs.length).map V.str := by rw [List.length_map, cut_drop, List.map_drop]
          refine ⟨_, rfl, _, rfl, c, _, rfl, .inr ((s3.trans s5).tup h3), _, rfl, a, _, rfl, s05.seq ha, fun rl hrl => ?_⟩
          rw [hcut]
          have s6 := Same.new (o := .lst ((ws.drop fs.length).map V.str)) hrl
          have e6 := upd_same (H := H5) (a := rl) (o := .lst ((ws.drop fs.length).map V.str))
          have f6 := s6 _ _ e5
          generalize upd H5 rl (.lst ((ws.drop fs.length).map V.str)) = H6 at s6 e6 f6 ⊢
          have s06 := s05.trans s6
          have hlen : ¬ ws.length < fs.length := fun z => by rw [g_short z] at ef; cases ef
          refine ⟨_, rfl, rfl, _, rfl, ?_⟩
          refine ite2 (fun ck => ?_) (fun ck => ?_)
          · have ck := V.str.inj (dec_true ck)
            unfold hitF at hg
            rw [if_pos ck] at hg
            refine ⟨_, rfl, _, rfl, rp, rl, _, ws.drop fs.length, rfl, SqT.of f6, SqL.of e6, ⟨fun w hw => hs1 w (List.mem_of_mem_drop hw), by rw [List.length_drop]; omega⟩, by simp, by simp; omega, fun hb H7 s7 => ?_, fun h6 h7 r2 q2 H7 s7 e7 e8 => ?_⟩
            · rw [if_pos (by rw [Bool.or_eq_true, decide_eq_true_eq]; exact hb)] at hg
              exact q.2 hg.symm H7 (s06.trans s7)
            · rw [if_neg (by rw [h7, Bool.or_false, decide_eq_true_eq]; omega)] at hg
              exact q.1 _ hg.symm _ H7 (s06.trans s7) ⟨r2, rfl, q2, e7, e8⟩
          · have ck : k ≠ "call" := fun z => dec_false ck (congrArg V.str z)
            by_cases hl : ws.length = fs.length
            · rw [hit_here ck hl] at hg
              have hdn : ws.drop fs.length = [] := List.drop_eq_nil_of_le (by omega)
              rw [hdn] at e6
              exact ⟨_, rfl, false, .inl ⟨[], SqL.of e6, rfl⟩, iteP rfl ⟨_, rfl, q.1 _ hg.symm _ H6 s06 ⟨rp, rfl, f6⟩⟩⟩
            · rw [hit_on ck hl] at hg
              have hne : (ws.drop fs.length).map V.str ≠ [] := fun z => by
                have := congrArg List.length z
                rw [List.length_map, List.length_drop] at this
                simp at this
                omega
              exact ⟨_, rfl, true, .inl ⟨_, SqL.of e6, by simpa using hne⟩, iteN (by simp) ⟨_, _, _, _, _, _, rfl, s06, hg⟩⟩
    · rintro σ H2 ⟨v1, v2, v3, v4, v5, v6, rfl, s2, hg⟩
      exact q.2 hg.symm H2 s2
end
end K15

set_option Elab.async false
set_option linter.all false
set_option maxRecDepth 100000
set_option maxHeartbeats 4000000
namespace K15
open PySem L2 Gx K11 K14
section
variable {P : Program} {w : World} {K : PySem.W.Frag} {mg : Str → Option Value} {base : Heap} {t : Adr}
theorem sc_BadRow_init : FnScope ["self", "at"] ["self", "at"] (defScope s_BadRow_init) := ⟨rfl, rfl, rfl, by decide +kernel, rfl, by decide +kernel, by decide +kernel⟩
theorem ok_BadRow_init (T : Txt K mg t) : FnOk P w K mg base CX0 1 t.a_BadRow_init t.d_BadRow_init ["self", "at"] (sp_BadRow_init t) := by
  refine T.BadRow_init.F.ok sc_BadRow_init (fun vs H Q E h => ?_) (fun cdv A outer s H vs Q E hr h => ?_)
  · obtain ⟨x, v, rfl, hx, q⟩ := h
    rfl
  · obtain ⟨x, v, rfl, hx, q⟩ := h
    refine ⟨_, (@pss_cons _ _ _ _ _ (ps_xfld (pv 0) (pv 1) (by rfl)) pss_nil), ?_⟩
    refine ⟨_, rfl, _, rfl, x, _, _, rfl, T.x_BadRow, T.n_BadRow_at, .inl ⟨hx, fun dx hd => q dx hd⟩⟩
end
end K15

set_option Elab.async false
set_option linter.all false
set_option maxRecDepth 100000
set_option maxHeartbeats 4000000
namespace K15
open PySem L2 Gx K11 K14
section
variable {P : Program} {w : World} {K : PySem.W.Frag} {mg : Str → Option Value} {base : Heap} {t : Adr}
theorem sc_read : FnScope ["text", "opened", "at", "line", "words", "row"] ["text"] (defScope s_read) := ⟨rfl, rfl, rfl, by decide +kernel, rfl, by decide +kernel, by decide +kernel⟩
theorem ok_read (T : Txt K mg t) : FnOk P w K mg base (CXe P w) 8 t.a_read t.d_read ["text"] (sp_read K t) := by
  have G_is_opening : FnOk P w K mg base CX0 3 t.a_is_opening t.d_is_opening ["words"] (sp_is_opening K) := ok_is_opening T
  have G_function_of : FnOk P w K mg base CX0 1 t.a_function_of t.d_function_of ["words", "rows"] (sp_function_of K) := ok_function_of T
  have G_row_of : FnOk P w K mg base CX0 6 t.a_row_of t.d_row_of ["words"] (sp_row_of K) := ok_row_of T
  have G_BadRow_init : FnOk P w K mg base CX0 1 t.a_BadRow_init t.d_BadRow_init ["self", "at"] (sp_BadRow_init t) := ok_BadRow_init T
  refine T.read.F.okE sc_read (fun vs H Q E h => ?_) (fun cdv A outer s H vs Q E hr h => ?_)
  · obtain ⟨xs, rfl, hok, qr, qe⟩ := h
    rfl
  · obtain ⟨xs, rfl, hok, qr, qe⟩ := h
    refine ⟨_, (@pss_cons _ _ _ _ _ (@ps_set _ _ 1 _ _ _ _ sc_read.nd rfl (Or.inl rfl) (@pe_lst _ _ _ _ pa_nil) (by rfl) (by first | exact .inl rfl | exact .inr rfl | assumption)) (@pss_cons _ _ _ _ _ (ps_for pass_own rfl (pi_enumL rfl T.b_enumerate (@pa_cons _ _ _ _ _ (pe_bm PySem.F.plainAttrs_str PySem.F.slot_str_split PySem.F.type_str_split mt_split (pv 0) (@pa_cons _ _ _ _ _ pe_str pa_nil (by rfl))) pa_nil (by rfl))) (pg_tup rfl (pgs_cons (pg_name (i := 2) sc_read.nd rfl (Or.inl rfl)) (pgs_cons (pg_name (i := 3) sc_read.nd rfl (Or.inl rfl)) pgs_nil))) (@pss_cons _ _ _ _ _ (@ps_set _ _ 4 _ _ _ _ sc_read.nd rfl (Or.inl rfl) (pe_bm PySem.F.plainAttrs_str PySem.F.slot_str_split PySem.F.type_str_split mt_split (pv 3) (@pa_cons _ _ _ _ _ pe_str pa_nil (by rfl))) (by rfl) (by first | exact .inl rfl | exact .inr rfl | assumption)) (@pss_one _ _ _ (@ps_if _ _ _ _ _ _ _ _ (pt_val (callD T.is_opening G_is_opening (hr.mono (by decide)) (@pa_cons _ _ _ _ _ (pv 4) pa_nil (by rfl)))) (@pss_one _ _ _ (@ps_expr _ _ _ _ (pe_bm PySem.F.plainAttrs_list PySem.F.slot_list_append PySem.F.type_list_append mt_append (pv 1) (@pa_cons _ _ _ _ _ (@pe_tup _ _ _ _ _ (@pa_cons _ _ _ _ _ (pv 4) (@pa_cons _ _ _ _ _ (@pe_lst _ _ _ _ pa_nil) pa_nil (by rfl)) (by rfl))) pa_nil (by rfl))) (by rfl))) (@pss_cons _ _ _ _ _ (@ps_set _ _ 5 _ _ _ _ sc_read.nd rfl (Or.inl rfl) (callD T.row_of G_row_of (hr.mono (by decide)) (@pa_cons _ _ _ _ _ (pv 4) pa_nil (by rfl))) (by rfl) (by first | exact .inl rfl | exact .inr rfl | assumption)) (@pss_cons _ _ _ _ _ (@ps_if _ _ _ _ _ _ _ _ (@PW.pt _ _ _ (pw_or (pt_cmp (pc_isN (pv 5))) (pw_or1 (pt_not (pt_tru (K := K) rfl (pv 1) (by intro _; rfl)))))) (@pss_one _ _ _ (raiseD T.x_BadRow T.BadRow_init G_BadRow_init (hr.mono (by decide)) rfl throws_e (@pa_cons _ _ _ _ _ (pv 2) pa_nil (by rfl)))) pss_nil) (@pss_one _ _ _ (@ps_expr _ _ _ _ (pe_bm PySem.F.plainAttrs_list PySem.F.slot_list_append PySem.F.type_list_append mt_append (@pe_ix _ _ _ _ _ _ _ ix_tup (@pe_ix _ _ _ _ _ _ _ ix_list (pv 1) (pe_un un_neg pe_int) (fun _ _ => rfl)) pe_int (fun _ _ => rfl)) (@pa_cons _ _ _ _ _ (pv 5) pa_nil (by rfl))) (by rfl))))))))) (@pss_one _ _ _ (@ps_ret _ _ _ _ (pe_comp (N' := ["words", "rows"]) (js := [none, none]) (by kernel_rfl) rfl (pi_list (pv 1)) (own_tup (own_cons (own_cons own_nil))) (fun _ _ _ _ => (show PG _ _ (gTup K 2 _) from pg_tup (n := 2) rfl (pgs_cons (pg_name (i := 0) (show (["words", "rows"] : List Str).Nodup by decide +kernel) rfl (Or.inl rfl) (.inr rfl)) (pgs_cons (pg_name (i := 1) (show (["words", "rows"] : List Str).Nodup by decide +kernel) rfl (Or.inl rfl) (.inr rfl)) pgs_nil)))) (fun _ _ _ _ => pif_nil) (fun _ _ _ _ => (callD T.function_of G_function_of (hr.mono (by decide)) (@pa_cons _ _ _ _ _ (pv 0) (@pa_cons _ _ _ _ _ (pv 1) pa_nil (by rfl)) (by rfl))))))))), ?_⟩
    have l60 := hok.len
    have tlen : (Txt.join ⟨#[10]⟩ xs).length ≤ 60 * 901 := len_join_le rfl (fun w hw => (hok.each w hw).2) l60
    refine ⟨le0, fun lo hlo => ?_⟩
    have s1 := Same.new (o := .lst []) hlo
    have e1 := upd_same (H := H) (a := lo) (o := .lst [])
    generalize upd H lo (.lst []) = H1 at s1 e1 ⊢
    refine ⟨_, rfl, rfl, _, _, rfl, rfl, (by decide +kernel), (lt_line (by omega)), fun tl1 htl1 => ?_⟩
    rw [show Txt.split (Txt.join ⟨#[10]⟩ xs) (PySem.Str.ofString "\n") = xs from split_join hok.ne fun w hw => (hok.each w hw).1]
    have tlo : tl1 ≠ lo := fun z => by rw [z, e1] at htl1; cases htl1
    have s2 := Same.new (o := .lst (xs.map V.str)) htl1
    have e2 := upd_same (H := H1) (a := tl1) (o := .lst (xs.map V.str))
    generalize upd H1 tl1 (.lst (xs.map V.str)) = H9 at s2 e2 ⊢
    have es0 : Same (ers lo H9) H9 := ers_same
    have hs0 : Same H (ers lo H9) := fun b o hb => by rw [ers_ne (ne_of_none hb hlo)]; exact s2 _ _ (s1 _ _ hb)
    have h0lo : ers lo H9 lo = none := by unfold ers; rw [if_pos rfl]
    have e0 : ers lo H9 tl1 = some (.lst (xs.map V.str)) := by rw [ers_ne tlo]; exact e2
    generalize ers lo H9 = H0 at es0 hs0 h0lo e0
    refine ⟨tl1, rfl, ⟨_, SqL.of e2⟩, for_enumL (xs := xs.map V.str) (fun i σ H2 => ∃ (v2 v3 v4 v5 : Option V), σ = [some (.str (Txt.join ⟨#[10]⟩ xs)), some (.ref lo), v2, v3, v4, v5] ∧ Same H0 H2 ∧ OkTo (lns xs) i ∧ ∃ ts, OpV H0 H2 lo ts (stW (lns xs) i)) ⟨_, _, _, _, rfl, es0, fun j hj => absurd hj (Nat.not_lt_zero _), [], s2 _ _ e1, .inl ⟨rfl, rfl⟩⟩ ?_ ?_ ?_⟩
    · rintro i σ H2 hi ⟨v2, v3, v4, v5, rfl, s2, _⟩
      exact SqL.of (s2 _ _ e0)
    · rintro i y σ H2 b hy ⟨v2, v3, v4, v5, rfl, s2, hOk, ts, ho⟩ hb
      obtain ⟨x, hx, hxm, rfl⟩ := map_at hy
      have hl : (lns xs)[i]? = some (wds x) := by rw [List.getElem?_map, hx]; rfl
      have ilt := (List.getElem?_eq_some_iff.mp hx).1
      have xlen := (hok.each x hxm).2
      have hsh := wds_short xlen
      have s3 := Same.new (o := .tup [.int i, .str x]) hb
      refine ⟨b, _, rfl, SqT.of upd_same, rfl, _, _, rfl, _, _, rfl, rfl, ?_⟩
      generalize upd H2 b (.tup [.int i, .str x]) = H3 at s3 ⊢
      have ho3 := op_mono s3 ho
      refine ⟨_, rfl, rfl, _, _, rfl, rfl, (by decide +kernel), (lt_line (by omega)), fun w hw => ?_⟩
      rw [show Txt.split x (PySem.Str.ofString " ") = wds x from rfl]
      have wlo : w ≠ lo := fun z => by rw [z, ho3.1] at hw; cases hw
      have s4 := Same.new (o := .lst ((wds x).map V.str)) hw
      have e4 := upd_same (H := H3) (a := w) (o := .lst ((wds x).map V.str))
      generalize upd H3 w (.lst ((wds x).map V.str)) = H4 at s4 e4 ⊢
      refine ⟨_, rfl, w, wds x, rfl, SqL.of e4, wds_ne x, hsh, fun H5 s5 => ⟨_, rfl, ?_⟩⟩
      have s35 := s4.trans s5
      have s25 := s3.trans s35
      have s05 := s2.trans s25
      have e5 := s5 _ _ e4
      have ho5 := op_mono s35 ho3
      have lt := op_len ho5
      have sl := stW_len (lns xs) i
      cases hop : opening (wds x) with
      | true =>
        refine iteT ⟨_, rfl, .inl ⟨rfl, _, SqL.of ho5.1⟩, _, rfl, le0, fun r' hr' => ⟨le2, fun t' ht' => ?_⟩⟩
        have hO := op_open s05 ho5 e5 wlo hr' ht'
        have sA := Same.new (o := .lst []) hr'
        have sB := Same.new (o := .tup [.ref w, .ref r']) ht'
        refine ⟨lo, ts, _, rfl, rfl, sB _ _ (sA _ _ ho5.1), lt_of_le (by omega), _, _, _, _, rfl, ((s05.trans sA).trans sB).upd h0lo, okto_succ hOk (fun ⟨l, h1, h2, _⟩ => by rw [hl] at h1; cases h1; rw [hop] at h2; cases h2), ts ++ [.ref t'], ?_⟩
        rw [stW_open hl hop]
        exact hO
      | false =>
        refine iteF ⟨_, rfl, w, wds x, rfl, SqL.of e5, hsh, fun d hd v H6 s6 hv => ?_, fun hn H6 s6 => ?_⟩
        · have ho6 := op_mono s6 ho5
          obtain ⟨p, rfl, _⟩ := id hv
          by_cases hne : stW (lns xs) i = []
          · have tz : ts = [] := List.eq_nil_of_length_eq_zero (by rw [lt, hne]; rfl)
            have hlo6 := ho6.1
            rw [tz] at hlo6
            refine ⟨_, rfl, _, rfl, iteN (by simp) ⟨_, rfl, false, .inl ⟨[], SqL.of hlo6, rfl⟩, iteP rfl ?_⟩⟩
            refine ⟨_, rfl, fun xo hxo => ⟨xo, _, rfl, upd_same, fun dx hdx => ⟨rfl, some dx, upd_same, ?_⟩⟩⟩
            obtain ⟨ne, hdx'⟩ := xnew hxo hdx
            rw [xers hxo ne]
            exact qe i ⟨_, hl, hop, .inr hne⟩ hOk dx _ ((hs0.trans (s05.trans s6)).trans (Same.new hdx')) upd_same
          obtain ⟨t', w', r', vs, e', hat, ht', hr', hvl, hr0, hla, hO⟩ := op_row ho6 hne hv
          have tne : ts ≠ [] := fun z => by rw [z] at lt; exact hne (List.eq_nil_of_length_eq_zero lt.symm)
          have el := (ents_ok (ls := lns xs) (n := 1000) (by decide) i (by omega) e' (List.mem_of_getLast? hla)).2.2
          refine ⟨_, rfl, _, rfl, iteN (by simp) ⟨_, rfl, true, .inl ⟨ts, SqL.of ho6.1, by simpa using tne⟩, iteN (by simp) ?_⟩⟩
          refine ⟨_, rfl, _, rfl, lo, ts, _, _, rfl, rfl, SqL.of ho6.1, hat, t', _, _, _, rfl, rfl, SqT.of ht', atI_nat (j := 1) rfl, .inl ⟨rfl, _, SqL.of hr'⟩, _, rfl, r', vs, _, rfl, rfl, hr', lt_of_le (by omega), _, _, _, _, rfl, (s05.trans s6).upd hr0, okto_succ hOk (fun ⟨l, h1, h2, h3⟩ => by rw [hl] at h1; cases h1; rcases h3 with h3 | h3; rw [hd] at h3; cases h3; exact hne h3), ts, ?_⟩
          rw [stW_succ hl]
          unfold stepL
          rw [if_neg (by rw [hop]; exact Bool.false_ne_true), hla, hd]
          exact hO
        · refine ⟨_, rfl, _, rfl, iteP rfl (iteP rfl ?_)⟩
          refine ⟨_, rfl, fun xo hxo => ⟨xo, _, rfl, upd_same, fun dx hdx => ⟨rfl, some dx, upd_same, ?_⟩⟩⟩
          obtain ⟨ne, hdx'⟩ := xnew hxo hdx
          rw [xers hxo ne]
          exact qe i ⟨_, hl, hop, .inl hn⟩ hOk dx _ ((hs0.trans (s05.trans s6)).trans (Same.new hdx')) upd_same
    · rintro σ H2 ⟨v2, v3, v4, v5, rfl, s2, hOk, ts, ho⟩
      rw [List.length_map] at ho hOk
      have al := op_all ho
      have lt := al.1
      have sl := stW_len (lns xs) xs.length
      refine ⟨_, rfl, lo, rfl, ⟨_, SqL.of ho.1⟩, fun u hu => comp_relL (K := K) (fun i H v => ∃ f, (stW (lns xs) xs.length)[i]? = some f ∧ FnV H v f) (fun i v H H' s h => let ⟨f, h1, h2⟩ := h; ⟨f, h1, FnV.mono s h2⟩) (xs := ts) (by omega) (SqL.of ho.1) hu ?_ ?_ ?_⟩
      · rintro i x H3 R' hx s3 ⟨acc, ha3⟩ r3
        obtain ⟨f, hf, he⟩ := al.at hx
        obtain ⟨t', w', r', vs, rfl, h1, h2, h3, h4⟩ := EntV.mono (ers_same.trans s3) he
        have fop := (ents_ok (ls := lns xs) (n := 1000) (by decide) xs.length (by omega) f (List.mem_of_getElem? hf)).1
        obtain ⟨w0, w1, wr, ew⟩ := open_cons fop
        rw [ew] at h2
        refine ⟨t', _, rfl, SqT.of h1, rfl, _, _, rfl, _, _, rfl, rfl, ?_⟩
        refine ⟨_, rfl, _, rfl, w', r', w0, w1, wr, vs, rfl, SqL.of h2, SqL.of h3, fun p q' s' H4 s4 k1 k2 k3 => r3 _ H4 s4 ⟨f, hf, ?_⟩⟩
        have fv : FnV H4 (.ref p) f := ⟨p, q', s', vs, rfl, by rw [k1, dec_in, ew]; rfl, by rw [k2, ew]; rfl, k3, h4.mono fun _ _ h => RowV.mono s4 h⟩
        exact FnV.kept kept_ers (s4 _ _ ha3) fv
      · intro H3 vs s3 e3 lv tv
        refine qr hOk u H3 (hs0.trans (s2.trans s3)) ⟨vs, e3, by omega, fun i v f hv hf => ?_⟩
        obtain ⟨f', hf', hh⟩ := tv i v hv
        rw [hf] at hf'
        cases hf'
        exact FnV.mono ers_same hh
      · rintro x H2 M M' hM ⟨a, xs, e1, e2, e3, v, vs', k1, u, us', k2, k3, z⟩
        exact ⟨a, xs, e1, e2, e3, v, vs', k1, u, us', k2, k3, hM _ _ z⟩
end
end K15

set_option Elab.async false
set_option linter.all false
set_option maxRecDepth 100000
set_option maxHeartbeats 4000000
namespace K15
open PySem L2 Gx K11 K14
section
variable {P : Program} {w : World} {K : PySem.W.Frag} {mg : Str → Option Value} {base : Heap} {t : Adr}
theorem sc_l_alike : FnScope ["_law_found", "_law_due_here"] ["_law_found", "_law_due_here"] (defScope s_l_alike) := ⟨rfl, rfl, rfl, by decide +kernel, rfl, by decide +kernel, by decide +kernel⟩
theorem ok_l_alike (T : Txt K mg t) : ∀ n, FnOk P w K mg base CX0 (n + 1) t.a_l_alike t.d_l_alike ["_law_found", "_law_due_here"] (sp_l_alike K n)
| 0 => T.l_alike.F.ok sc_l_alike (fun vs H Q E h => by obtain ⟨x, y, d, rfl, hd, ha, q⟩ := h; exact absurd hd (Nat.not_lt_zero _)) (fun cdv A outer s H vs Q E hr h => by obtain ⟨x, y, d, rfl, hd, ha, q⟩ := h; exact absurd hd (Nat.not_lt_zero _))
| n + 1 => by
  have G_l_alike : FnOk P w K mg base CX0 (n + 1) t.a_l_alike t.d_l_alike ["_law_found", "_law_due_here"] (sp_l_alike K n) := ok_l_alike T n
  refine T.l_alike.F.ok sc_l_alike (fun vs H Q E h => ?_) (fun cdv A outer s H vs Q E hr h => ?_)
  · obtain ⟨x, y, d, rfl, hd, ha, q⟩ := h
    rfl
  · obtain ⟨x, y, d, rfl, hd, ha, q⟩ := h
    refine ⟨_, (@pss_cons _ _ _ _ _ (@ps_if _ _ _ _ _ _ _ _ (pt_val (pe_callB call_isinstT (by rfl) T.b_isinstance bt_isinstance (@pa_cons _ _ _ _ _ (pv 1) (@pa_cons _ _ _ _ _ (@pe_tup _ _ _ _ _ (@pa_cons _ _ _ _ _ (pe_bltn (v := V.ty "list") rfl T.b_list bt_list rfl) (@pa_cons _ _ _ _ _ (pe_bltn (v := V.ty "tuple") rfl T.b_tuple bt_tuple rfl) pa_nil (by rfl)) (by rfl))) pa_nil (by rfl)) (by rfl)))) (@pss_cons _ _ _ _ _ (@ps_if _ _ _ _ _ _ _ _ (@pt_cmpR _ _ _ _ _ _ _ _ op_ne (pe_callB call_isinst (by rfl) T.b_isinstance bt_isinstance (@pa_cons _ _ _ _ _ (pv 1) (@pa_cons _ _ _ _ _ (pe_bltn (v := V.ty "list") rfl T.b_list bt_list rfl) pa_nil (by rfl)) (by rfl))) (pe_callB call_isinst (by rfl) T.b_isinstance bt_isinstance (@pa_cons _ _ _ _ _ (pv 0) (@pa_cons _ _ _ _ _ (pe_bltn (v := V.ty "list") rfl T.b_list bt_list rfl) pa_nil (by rfl)) (by rfl))) (nomark _)) (@pss_one _ _ _ (@ps_ret _ _ _ _ pe_bl)) pss_nil) (@pss_cons _ _ _ _ _ (@ps_if _ _ _ _ _ _ _ _ (@pt_cmpR _ _ _ _ _ _ _ _ op_ne (pe_callB call_isinst (by rfl) T.b_isinstance bt_isinstance (@pa_cons _ _ _ _ _ (pv 1) (@pa_cons _ _ _ _ _ (pe_bltn (v := V.ty "tuple") rfl T.b_tuple bt_tuple rfl) pa_nil (by rfl)) (by rfl))) (pe_callB call_isinst (by rfl) T.b_isinstance bt_isinstance (@pa_cons _ _ _ _ _ (pv 0) (@pa_cons _ _ _ _ _ (pe_bltn (v := V.ty "tuple") rfl T.b_tuple bt_tuple rfl) pa_nil (by rfl)) (by rfl))) (nomark _)) (@pss_one _ _ _ (@ps_ret _ _ _ _ pe_bl)) pss_nil) (@pss_cons _ _ _ _ _ (@ps_if _ _ _ _ _ _ _ _ (@pt_cmpR _ _ _ _ _ _ _ _ op_ne (pe_callB call_len_seq (by rfl) T.b_len bt_len (@pa_cons _ _ _ _ _ (pv 0) pa_nil (by rfl))) (pe_callB call_len_seq (by rfl) T.b_len bt_len (@pa_cons _ _ _ _ _ (pv 1) pa_nil (by rfl))) (nomark _)) (@pss_one _ _ _ (@ps_ret _ _ _ _ pe_bl)) pss_nil) (@pss_one _ _ _ (@ps_ret _ _ _ _ (pe_callB (call_all rfl) (by rfl) T.b_all bt_all (@pa_cons _ _ _ _ _ (pe_comp (N' := ["_law_k", "_law_found", "_law_due_here"]) (js := [none, some 0, some 1]) (by kernel_rfl) rfl (pi_range1 rfl T.b_range (@pa_cons _ _ _ _ _ (pe_callB call_len_seq (by rfl) T.b_len bt_len (@pa_cons _ _ _ _ _ (pv 1) pa_nil (by rfl))) pa_nil (by rfl))) own_name (fun _ _ _ _ => (pg_name (i := 0) (show (["_law_k", "_law_found", "_law_due_here"] : List Str).Nodup by decide +kernel) rfl (Or.inl rfl) (.inr rfl))) (fun _ _ _ _ => pif_nil) (fun _ _ _ _ => (callD T.l_alike G_l_alike (hr.mono (by omega)) (@pa_cons _ _ _ _ _ (@pe_ix _ _ _ _ _ _ _ (show IxR _ (rIxA K) from ix_any) (pv 1) (pv 0) (fun _ _ => rfl)) (@pa_cons _ _ _ _ _ (@pe_ix _ _ _ _ _ _ _ (show IxR _ (rIxA K) from ix_any) (pv 2) (pv 0) (fun _ _ => rfl)) pa_nil (by rfl)) (by rfl))))) pa_nil (by rfl)))))))) pss_nil) (@pss_cons _ _ _ _ _ (@ps_if _ _ _ _ _ _ _ _ (pt_val (pe_callB call_isinst (by rfl) T.b_isinstance bt_isinstance (@pa_cons _ _ _ _ _ (pv 1) (@pa_cons _ _ _ _ _ (pe_bltn (v := V.ty "bool") rfl T.b_bool bt_bool rfl) pa_nil (by rfl)) (by rfl)))) (@pss_one _ _ _ (@ps_ret _ _ _ _ (pe_and (pe_callB call_isinst (by rfl) T.b_isinstance bt_isinstance (@pa_cons _ _ _ _ _ (pv 0) (@pa_cons _ _ _ _ _ (pe_bltn (v := V.ty "bool") rfl T.b_bool bt_bool rfl) pa_nil (by rfl)) (by rfl))) (pe_one (pe_cmpR op_eq (pv 0) (pv 1) (nomark _)))))) pss_nil) (@pss_cons _ _ _ _ _ (@ps_if _ _ _ _ _ _ _ _ (pt_val (pe_callB call_isinst (by rfl) T.b_isinstance bt_isinstance (@pa_cons _ _ _ _ _ (pv 1) (@pa_cons _ _ _ _ _ (pe_bltn (v := V.ty "int") rfl T.b_int bt_int rfl) pa_nil (by rfl)) (by rfl)))) (@pss_one _ _ _ (@ps_ret _ _ _ _ (pe_and (pe_callB call_isinst (by rfl) T.b_isinstance bt_isinstance (@pa_cons _ _ _ _ _ (pv 0) (@pa_cons _ _ _ _ _ (pe_bltn (v := V.ty "int") rfl T.b_int bt_int rfl) pa_nil (by rfl)) (by rfl))) (pe_and (pe_not (pe_callB call_isinst (by rfl) T.b_isinstance bt_isinstance (@pa_cons _ _ _ _ _ (pv 0) (@pa_cons _ _ _ _ _ (pe_bltn (v := V.ty "bool") rfl T.b_bool bt_bool rfl) pa_nil (by rfl)) (by rfl)))) (pe_one (pe_cmpR op_eq (pv 0) (pv 1) (nomark _))))))) pss_nil) (@pss_one _ _ _ (@ps_ret _ _ _ _ (pe_and (pe_callB call_isinst (by rfl) T.b_isinstance bt_isinstance (@pa_cons _ _ _ _ _ (pv 0) (@pa_cons _ _ _ _ _ (pe_bltn (v := V.ty "str") rfl T.b_str bt_str rfl) pa_nil (by rfl)) (by rfl))) (pe_one (pe_cmpR op_eq (pv 0) (pv 1) (nomark _))))))))), ?_⟩
    have hh : Flat2 x y ∨ ∃ d' a b xs ys, d = d' + 1 ∧ x = .ref a ∧ y = .ref b ∧ ((H a = some (.tup xs) ∧ H b = some (.tup ys)) ∨ (H a = some (.lst xs) ∧ H b = some (.lst ys))) ∧ xs.length = ys.length ∧ xs.length ≤ 1000 ∧ ∀ (i : Nat) u v, xs[i]? = some u → ys[i]? = some v → Alk H d' u v := by
      cases d with
      | zero => exact .inl ha
      | succ d =>
        rcases ha with h | ⟨a, b, xs, ys, h⟩
        · exact .inl h
        · exact .inr ⟨d, a, b, xs, ys, rfl, h⟩
    rcases hh with (⟨b, rfl, rfl⟩ | ⟨i, rfl, rfl⟩ | ⟨z, rfl, rfl⟩) | ⟨d', a, b, xs, ys, rfl, rfl, rfl, hab, hlen, hk, hit⟩
    · refine ⟨_, rfl, le2, fun tp htp => ⟨_, tp, false, rfl, upd_same, .inr ⟨rfl, .inl ⟨_, rfl⟩⟩, _, rfl, iteF ?_⟩⟩
      refine ⟨_, rfl, _, "bool", _, true, rfl, .bl _, rfl, _, rfl, iteT ?_⟩
      exact ⟨_, rfl, _, "bool", _, true, rfl, .bl _, rfl, _, rfl, iteT ⟨_, rfl, _, rfl, rfl, vq (by simp) (q _ (Same.new htp))⟩⟩
    · refine ⟨_, rfl, le2, fun tp htp => ⟨_, tp, false, rfl, upd_same, .inr ⟨rfl, .inr (.inl ⟨_, rfl⟩)⟩, _, rfl, iteF ?_⟩⟩
      refine ⟨_, rfl, _, "bool", _, false, rfl, .int _, rfl, _, rfl, iteF ?_⟩
      refine ⟨_, rfl, _, "int", _, true, rfl, .int _, rfl, _, rfl, iteT ?_⟩
      exact ⟨_, rfl, _, "int", _, true, rfl, .int _, rfl, _, rfl, iteT ⟨_, rfl, _, "bool", _, false, rfl, .int _, rfl, _, rfl, _, rfl, iteT ⟨_, rfl, _, rfl, rfl, vq (by simp) (q _ (Same.new htp))⟩⟩⟩
    · refine ⟨_, rfl, le2, fun tp htp => ⟨_, tp, false, rfl, upd_same, .inr ⟨rfl, .inr (.inr ⟨_, rfl⟩)⟩, _, rfl, iteF ?_⟩⟩
      refine ⟨_, rfl, _, "bool", _, false, rfl, .str _, rfl, _, rfl, iteF ?_⟩
      refine ⟨_, rfl, _, "int", _, false, rfl, .str _, rfl, _, rfl, iteF ?_⟩
      exact ⟨_, rfl, _, "str", _, true, rfl, .str _, rfl, _, rfl, iteT ⟨_, rfl, _, rfl, rfl, vq (by simp) (q _ (Same.new htp))⟩⟩
    · refine ⟨_, rfl, le2, fun tp htp => ?_⟩
      have s1 := Same.new (o := .tup [.ty "list", .ty "tuple"]) htp
      have e1 := upd_same (H := H) (a := tp) (o := .tup [.ty "list", .ty "tuple"])
      generalize upd H tp (.tup [.ty "list", .ty "tuple"]) = H1 at s1 e1 ⊢
      have hab1 := hab.imp (fun ⟨p, q⟩ => And.intro (s1 _ _ p) (s1 _ _ q)) (fun ⟨p, q⟩ => And.intro (s1 _ _ p) (s1 _ _ q))
      refine ⟨_, tp, true, rfl, e1, .inl ⟨rfl, b, rfl, hab1.elim (fun h => .inr ⟨_, h.2⟩) (fun h => .inl ⟨_, h.2⟩)⟩, _, rfl, iteT ?_⟩
      have qa : SqL K H1 a xs ∨ SqT K H1 a xs := hab1.elim (fun h => .inr (SqT.of h.1)) (fun h => .inl (SqL.of h.1))
      have qb : SqL K H1 b ys ∨ SqT K H1 b ys := hab1.elim (fun h => .inr (SqT.of h.2)) (fun h => .inl (SqL.of h.2))
      rcases hab1 with ⟨h1, h2⟩ | ⟨h1, h2⟩
      · refine ⟨_, rfl, _, "list", _, false, rfl, .tup h2, rfl, _, rfl, _, "list", _, false, rfl, .tup h1, rfl, rfl, _, rfl, iteF ?_⟩
        refine ⟨_, rfl, _, "tuple", _, true, rfl, .tup h2, rfl, _, rfl, _, "tuple", _, true, rfl, .tup h1, rfl, rfl, _, rfl, iteF ?_⟩
        refine ⟨_, rfl, a, _, rfl, qa, _, rfl, b, _, rfl, qb, rfl, _, rfl, iteN (by rw [hlen, decide_eq_true rfl]; decide) ?_⟩
        refine ⟨_, rfl, b, _, rfl, qb, _, rfl, by omega, by omega, fun u hu => comp_relR (lo := 0) (n := ys.length) (fun _ _ v => v = V.bl true) (fun _ _ _ _ _ h => h) (by omega) hu ?_ ?_⟩
        · rintro i H3 R' hi s3 _ r3
          have hx := List.getElem?_eq_getElem (show i < xs.length by omega)
          have hy := List.getElem?_eq_getElem (show i < ys.length by omega)
          exact ⟨_, rfl, _, rfl, ixA_of (sq_mono s3 qa) hx ⟨_, rfl, _, rfl, ixA_of (sq_mono s3 qb) hy ⟨_, _, d', rfl, by omega, Alk.mono (s1.trans s3) (hit i _ _ hx hy), fun H4 s4 => r3 _ H4 s4 rfl⟩⟩⟩
        · intro H3 vs s3 e3 lv tv
          have ev : vs = (ys.map fun _ => true).map V.bl := by
            rw [List.map_map]
            refine at_all2 (g := V.bl ∘ fun _ => true) lv fun i v hv => ⟨ys[i]'(by have := (List.getElem?_eq_some_iff.mp hv).1; omega), List.getElem?_eq_getElem _, tv i v hv⟩
          subst ev
          refine ⟨u, _, rfl, SqL.of e3, vq (congrArg V.bl ?_) (q H3 (s1.trans s3))⟩
          simp
      · refine ⟨_, rfl, _, "list", _, true, rfl, .lst h2, rfl, _, rfl, _, "list", _, true, rfl, .lst h1, rfl, rfl, _, rfl, iteF ?_⟩
        refine ⟨_, rfl, _, "tuple", _, false, rfl, .lst h2, rfl, _, rfl, _, "tuple", _, false, rfl, .lst h1, rfl, rfl, _, rfl, iteF ?_⟩
        refine ⟨_, rfl, a, _, rfl, qa, _, rfl, b, _, rfl, qb, rfl, _, rfl, iteN (by rw [hlen, decide_eq_true rfl]; decide) ?_⟩
        refine ⟨_, rfl, b, _, rfl, qb, _, rfl, by omega, by omega, fun u hu => comp_relR (lo := 0) (n := ys.length) (fun _ _ v => v = V.bl true) (fun _ _ _ _ _ h => h) (by omega) hu ?_ ?_⟩
        · rintro i H3 R' hi s3 _ r3
          have hx := List.getElem?_eq_getElem (show i < xs.length by omega)
          have hy := List.getElem?_eq_getElem (show i < ys.length by omega)
          exact ⟨_, rfl, _, rfl, ixA_of (sq_mono s3 qa) hx ⟨_, rfl, _, rfl, ixA_of (sq_mono s3 qb) hy ⟨_, _, d', rfl, by omega, Alk.mono (s1.trans s3) (hit i _ _ hx hy), fun H4 s4 => r3 _ H4 s4 rfl⟩⟩⟩
        · intro H3 vs s3 e3 lv tv
          have ev : vs = (ys.map fun _ => true).map V.bl := by
            rw [List.map_map]
            refine at_all2 (g := V.bl ∘ fun _ => true) lv fun i v hv => ⟨ys[i]'(by have := (List.getElem?_eq_some_iff.mp hv).1; omega), List.getElem?_eq_getElem _, tv i v hv⟩
          subst ev
          refine ⟨u, _, rfl, SqL.of e3, vq (congrArg V.bl ?_) (q H3 (s1.trans s3))⟩
          simp
end
end K15

set_option Elab.async false
set_option linter.all false
set_option maxRecDepth 100000
set_option maxHeartbeats 4000000
namespace K15
open PySem L2 Gx K11 K14
section
variable {P : Program} {w : World} {K : PySem.W.Frag} {mg : Str → Option Value} {base : Heap} {t : Adr}
theorem sc_l_right : FnScope ["_law_lines", "_law_due_here", "_law_fault", "_law_found", "_law_e"] ["_law_lines"] (defScope s_l_right) := ⟨rfl, rfl, rfl, by decide +kernel, rfl, by decide +kernel, by decide +kernel⟩
theorem ok_l_right (T : Txt K mg t) : FnOk P w K mg base CX0 9 t.a_l_right t.d_l_right ["_law_lines"] (sp_l_right K t) := by
  have G_l_due : FnOk P w K mg base CX0 5 t.a_l_due t.d_l_due ["_law_lines"] (sp_l_due K) := ok_l_due T
  have G_l_other : FnOk P w K mg base CX0 1 t.a_l_other t.d_l_other ["_law_e"] (sp_l_other K t) := ok_l_other T
  have G_read : FnOk P w K mg base (CXe P w) 8 t.a_read t.d_read ["text"] (sp_read K t) := ok_read T
  have G_l_alike : FnOk P w K mg base CX0 7 t.a_l_alike t.d_l_alike ["_law_found", "_law_due_here"] (sp_l_alike K 6) := ok_l_alike T 6
  refine T.l_right.F.ok sc_l_right (fun vs H Q E h => ?_) (fun cdv A outer s H vs Q E hr h => ?_)
  · obtain ⟨a, xs, rfl, ha, hok, q⟩ := h
    rfl
  · obtain ⟨a, xs, rfl, ha, hok, q⟩ := h
    refine ⟨_, (@pss_cons _ _ _ _ _ (@ps_set _ _ 1 _ _ _ _ sc_l_right.nd rfl (Or.inl rfl) (callD T.l_due G_l_due (hr.mono (by decide)) (@pa_cons _ _ _ _ _ (pv 0) pa_nil (by rfl))) (by rfl) (by first | exact .inl rfl | exact .inr rfl | assumption)) (@pss_cons _ _ _ _ _ (@ps_set _ _ 2 _ _ _ _ sc_l_right.nd rfl (Or.inl rfl) pe_non (by rfl) (by first | exact .inl rfl | exact .inr rfl | assumption)) (@pss_cons _ _ _ _ _ (@ps_set _ _ 3 _ _ _ _ sc_l_right.nd rfl (Or.inl rfl) pe_non (by rfl) (by first | exact .inl rfl | exact .inr rfl | assumption)) (@pss_cons _ _ _ _ _ (ps_try (j := 4) sc_l_right.nd rfl rfl T.x_GlassError rfl rfl (psx_set (i := 3) sc_l_right.nd rfl (Or.inl rfl) (px_call T.read G_read (hr.mono (by decide)) (@pa_cons _ _ _ _ _ (pe_bm PySem.F.plainAttrs_str PySem.F.slot_str_join PySem.F.type_str_join mt_join pe_str (@pa_cons _ _ _ _ _ (pv 0) pa_nil (by rfl))) pa_nil (by rfl)))) (fun _ => (@pss_one _ _ _ (@ps_set _ _ 2 _ _ _ _ sc_l_right.nd rfl (Or.inl rfl) (pv 4) (by rfl) (by first | exact .inl rfl | exact .inr rfl | assumption))))) (@pss_cons _ _ _ _ _ (@ps_if _ _ _ _ _ _ _ _ (pt_cmp (pc_isN (@pe_ix _ _ _ _ _ _ _ ix_list (pv 1) pe_int (fun _ _ => rfl)))) (@pss_one _ _ _ (@ps_ret _ _ _ _ (pe_and (pe_cmp (pc_isN (pv 2))) (pe_one (callD T.l_alike G_l_alike (hr.mono (by decide)) (@pa_cons _ _ _ _ _ (pv 3) (@pa_cons _ _ _ _ _ (@pe_ix _ _ _ _ _ _ _ ix_list (pv 1) pe_int (fun _ _ => rfl)) pa_nil (by rfl)) (by rfl))))))) pss_nil) (@pss_cons _ _ _ _ _ (@ps_if _ _ _ _ _ _ _ _ (@PW.pt _ _ _ (pw_or (pt_not (pt_val (pe_callB call_isx (by rfl) T.b_isinstance bt_isinstance (@pa_cons _ _ _ _ _ (pv 2) (@pa_cons _ _ _ _ _ (pe_gtuple T.x_BadRow.g) pa_nil (by rfl)) (by rfl))))) (pw_or1 (pt_not (pt_val (pe_callB call_isx (by rfl) T.b_isinstance bt_isinstance (@pa_cons _ _ _ _ _ (pv 2) (@pa_cons _ _ _ _ _ (pe_bltn (v := V.ty "ValueError") rfl T.b_ValueError bt_ValueError rfl) pa_nil (by rfl)) (by rfl)))))))) (@pss_one _ _ _ (@ps_ret _ _ _ _ pe_bl)) pss_nil) (@pss_cons _ _ _ _ _ (@ps_if _ _ _ _ _ _ _ _ (pt_val (callD T.l_other G_l_other (hr.mono (by decide)) (@pa_cons _ _ _ _ _ (pv 2) pa_nil (by rfl)))) (@pss_one _ _ _ (@ps_ret _ _ _ _ pe_bl)) pss_nil) (@pss_one _ _ _ (@ps_ret _ _ _ _ (pe_and (pe_callB call_isinst (by rfl) T.b_isinstance bt_isinstance (@pa_cons _ _ _ _ _ (pe_xfld (pv 2) (by rfl)) (@pa_cons _ _ _ _ _ (pe_bltn (v := V.ty "int") rfl T.b_int bt_int rfl) pa_nil (by rfl)) (by rfl))) (pe_and (pe_not (pe_callB call_isinst (by rfl) T.b_isinstance bt_isinstance (@pa_cons _ _ _ _ _ (pe_xfld (pv 2) (by rfl)) (@pa_cons _ _ _ _ _ (pe_bltn (v := V.ty "bool") rfl T.b_bool bt_bool rfl) pa_nil (by rfl)) (by rfl)))) (pe_one (pe_cmpR op_eq (pe_xfld (pv 2) (by rfl)) (@pe_ix _ _ _ _ _ _ _ ix_list (pv 1) pe_int (fun _ _ => rfl)) (nomark _)))))))))))))), ?_⟩
    have l60 := hok.len
    have hsum : (xs.map (·.length)).sum + xs.length * (PySem.Str.ofString "\n").length ≤ 16777216 := by
      have h := sum_le (ws := xs) (n := 900) fun w hw => (hok.each w hw).2
      rw [show (PySem.Str.ofString "\n").length = 1 from by decide +kernel]
      have : xs.length * 900 ≤ 60 * 900 := Nat.mul_le_mul_right _ l60
      omega
    have blt : ∀ {i}, Bad (lns xs) i → i < xs.length := fun ⟨l, h, _⟩ => by
      have := (List.getElem?_eq_some_iff.mp h).1
      rwa [List.length_map] at this
    refine ⟨_, rfl, a, xs, rfl, ha, hok, fun hOk l p H1 s1 el hp => ?_, fun i hb hOk l H1 s1 el => ?_⟩
    · refine ⟨rfl, _, rfl, _, a, xs, rfl, rfl, s1.seq ha, hsum, xs, rfl, hok, fun _ lf H2 s2 hf => ?_, fun j hj hjo => absurd hj (hOk j (blt hj))⟩
      have el2 := SqL.of (K := K) (s2 _ _ el)
      refine ⟨_, rfl, l, _, _, _, rfl, rfl, el2, rfl, _, rfl, iteP rfl ?_⟩
      refine ⟨_, rfl, _, rfl, iteP rfl ⟨_, rfl, _, rfl, l, _, _, _, rfl, rfl, el2, at0, .ref lf, .ref p, 5, rfl, by decide, ?_, fun H3 s3 => q _ ((s1.trans s2).trans s3)⟩⟩
      have sl := stW_len (lns xs) xs.length
      refine alk_prog (es := stW (lns xs) xs.length) (fun e he => ?_) (by omega) hf (ProgV.mono s2 hp)
      obtain ⟨h1, h2, h3⟩ := ents_ok (ls := lns xs) (n := 1000) (by decide) xs.length (by omega) e he
      exact ⟨h1, h2, by omega⟩
    · refine ⟨rfl, _, rfl, _, a, xs, rfl, rfl, s1.seq ha, hsum, xs, rfl, hok, fun h => absurd hb (h i (blt hb)), fun j hj hjo dx H2 s2 hd => ?_⟩
      have ij : j = i := by
        rcases Nat.lt_trichotomy j i with h | h | h
        · exact absurd hj (hOk j h)
        · exact h
        · exact absurd hb (hjo i h)
      subst ij
      refine ⟨t.x_BadRow, _, rfl, T.x_BadRow, T.e_BadRow, fun ea hea => ⟨_, rfl, ?_⟩⟩
      have s3 := Same.new (o := XC ea t.x_BadRow (some dx)) hea
      have hX := upd_same (H := H2) (a := ea) (o := XC ea t.x_BadRow (some dx))
      generalize upd H2 ea (XC ea t.x_BadRow (some dx)) = H3 at s3 hX ⊢
      have hd3 := s3 _ _ hd
      have el3 := SqL.of (K := K) (s3 _ _ (s2 _ _ el))
      have dd : ∀ dy, some dx = some dy → ∃ o, H3 dy = some o := fun dy z => by cases z; exact ⟨_, hd3⟩
      refine ⟨_, rfl, l, _, _, _, rfl, rfl, el3, rfl, _, rfl, iteN (by simp) ?_⟩
      refine ⟨_, rfl, ea, _, _, _, _, _, _, rfl, hX, dd, T.x_BadRow, rfl, T.k_BadRow_BadRow, _, rfl, iteN (by decide) ?_⟩
      refine ⟨_, rfl, ea, _, _, _, _, _, _, rfl, hX, dd, T.x_BadRow, rfl, T.v_BadRow, _, rfl, iteN (by decide) ?_⟩
      refine ⟨_, rfl, ea, dx, _, rfl, hX, hd3, fun H4 s4 => ⟨_, rfl, iteN Bool.false_ne_true ?_⟩⟩
      have hX4 := s4 _ _ hX
      have hd4 := s4 _ _ hd3
      refine ⟨_, rfl, ea, _, _, dx, _, _, rfl, hX4, hd4, T.x_BadRow, T.n_BadRow_at, rfl, _, "int", _, true, rfl, .int _, rfl, _, rfl, iteP rfl ⟨_, rfl, ea, _, _, dx, _, _, rfl, hX4, hd4, T.x_BadRow, T.n_BadRow_at, rfl, _, "bool", _, false, rfl, .int _, rfl, _, rfl, _, rfl, iteP rfl ?_⟩⟩
      exact ⟨_, rfl, ea, _, _, dx, _, _, rfl, hX4, hd4, T.x_BadRow, T.n_BadRow_at, rfl, _, rfl, l, _, _, _, rfl, rfl, s4.seq el3, rfl, rfl, vq (by simp) (q _ (((s1.trans s2).trans s3).trans s4))⟩
end
end K15

set_option Elab.async false
set_option linter.all false
set_option maxRecDepth 100000
set_option maxHeartbeats 4000000
namespace K15
open PySem L2 Gx K11
section
variable {P : Program} {w : World} {K : PySem.W.Frag} {mg : Str → Option Value} {base : Heap} {t : Adr}
theorem sc_l_part : FnScope ["_law_cell_here", "_law_j", "_law_many", "_law_primes"] ["_law_cell_here", "_law_j", "_law_many"] (defScope s_l_part) := ⟨rfl, rfl, rfl, by decide +kernel, rfl, by decide +kernel, by decide +kernel⟩
theorem ok_l_part (T : Txt K mg t) : FnOk P w K mg base CX0 1 t.a_l_part t.d_l_part ["_law_cell_here", "_law_j", "_law_many"] (sp_l_part K) := by
  refine T.l_part.F.ok sc_l_part (fun vs H Q E h => ?_) (fun cdv A outer s H vs Q E hr h => ?_)
  · obtain ⟨c, j, m, rfl, h0, h1, q⟩ := h
    rfl
  · obtain ⟨c, j, m, rfl, h0, h1, q⟩ := h
    refine ⟨_, (@pss_cons _ _ _ _ _ (@ps_set _ _ 3 _ _ _ _ sc_l_part.nd rfl (Or.inl rfl) (@pe_litT _ _ [V.int 10007, V.int 10009, V.int 10037, V.int 10039, V.int 10061, V.int 10067, V.int 10069, V.int 10079] (by kernel_rfl)) (by rfl) (by first | exact .inl rfl | exact .inr rfl | assumption)) (@pss_one _ _ _ (@ps_ret _ _ _ _ (@pe_op _ _ _ _ _ _ _ _ op_mod (@pe_op _ _ _ _ _ _ _ _ op_mod (@pe_op _ _ _ _ _ _ _ _ op_add (@pe_op _ _ _ _ _ _ _ _ op_mul (pv 0) pe_int) (@pe_op _ _ _ _ _ _ _ _ op_mul pe_int (pv 1))) (@pe_ix _ _ _ _ _ _ _ ix_tup (pv 3) (@pe_op _ _ _ _ _ _ _ _ op_mod (pv 1) pe_int) (fun _ _ => rfl))) (pv 2))))), ?_⟩
    refine ⟨(by show 8 ≤ sizeLine; decide), fun p hp => ?_⟩
    have hpr : ∃ pr : Int, 0 < pr ∧ atI [V.int 10007, V.int 10009, V.int 10037, V.int 10039, V.int 10061, V.int 10067, V.int 10069, V.int 10079] (j % 8) = some (.int pr) := by
      obtain ⟨v, hv, hm⟩ := atI_some (xs := [V.int 10007, V.int 10009, V.int 10037, V.int 10039, V.int 10061, V.int 10067, V.int 10069, V.int 10079]) (i := j % 8) (Int.emod_nonneg _ (by decide)) (Int.emod_lt_of_pos _ (by decide))
      simp only [List.mem_cons, List.not_mem_nil, or_false] at hm
      rcases hm with e | e | e | e | e | e | e | e <;> subst e <;> exact ⟨_, by decide, hv⟩
    obtain ⟨pr, hpr0, hpr⟩ := hpr
    exact ⟨_, rfl, _, _, rfl, rfl, .inr ⟨by decide, by decide⟩, _, rfl, _, _, rfl, rfl, .inl ⟨by decide, by decide⟩, _, _, rfl, rfl, _, rfl, _, rfl, _, _, rfl, rfl, (show (0 : Int) < 8 by decide), p, _, _, _, rfl, rfl, SqT.of upd_same, hpr, _, _, rfl, rfl, hpr0, _, rfl, _, _, rfl, rfl, h1,
      q _ _ (Int.emod_nonneg _ (by omega)) (Int.emod_lt_of_pos _ h1) (Same.new hp)⟩
end
end K15

set_option Elab.async false
set_option linter.all false
set_option maxRecDepth 100000
set_option maxHeartbeats 4000000
namespace K15
open PySem L2 Gx K11 K14
section
variable {P : Program} {w : World} {K : PySem.W.Frag} {mg : Str → Option Value} {base : Heap} {t : Adr}
theorem sc_l_name : FnScope ["_law_base", "_law_cell_here", "_law_letters", "_law_size", "_law_some"] ["_law_base", "_law_cell_here"] (defScope s_l_name) := ⟨rfl, rfl, rfl, by decide +kernel, rfl, by decide +kernel, by decide +kernel⟩
theorem ok_l_name (T : Txt K mg t) : FnOk P w K mg base CX0 2 t.a_l_name t.d_l_name ["_law_base", "_law_cell_here"] (sp_l_name K) := by
  have G_l_part : FnOk P w K mg base CX0 1 t.a_l_part t.d_l_part ["_law_cell_here", "_law_j", "_law_many"] (sp_l_part K) := ok_l_part T
  have G_l_taken : FnOk P w K mg base CX0 1 t.a_l_taken t.d_l_taken [] (sp_l_taken K) := ok_l_taken T
  refine T.l_name.F.ok sc_l_name (fun vs H Q E h => ?_) (fun cdv A outer s H vs Q E hr h => ?_)
  · obtain ⟨b, k, rfl, q⟩ := h
    rfl
  · obtain ⟨b, k, rfl, q⟩ := h
    refine ⟨_, (@pss_cons _ _ _ _ _ (@ps_set _ _ 2 _ _ _ _ sc_l_name.nd rfl (Or.inr rfl) pe_str (by rfl) (by first | exact .inl rfl | exact .inr rfl | assumption)) (@pss_cons _ _ _ _ _ (@ps_set _ _ 3 _ _ _ _ sc_l_name.nd rfl (Or.inl rfl) (@pe_op _ _ _ _ _ _ _ _ op_add pe_int (callD T.l_part G_l_part (hr.mono (by decide)) (@pa_cons _ _ _ _ _ (pv 0) (@pa_cons _ _ _ _ _ pe_int (@pa_cons _ _ _ _ _ pe_int pa_nil (by rfl)) (by rfl)) (by rfl)))) (by rfl) (by first | exact .inl rfl | exact .inr rfl | assumption)) (@pss_cons _ _ _ _ _ (ps_setc (i := 4) sc_l_name.nd rfl (Or.inl rfl) (N' := ["_law_j", "_law_letters", "_law_base"]) (js := [none, some 2, some 0]) (by kernel_rfl) rfl (pi_range1 rfl T.b_range (@pa_cons _ _ _ _ _ (pv 3) pa_nil (by rfl))) own_name (fun _ _ _ _ => (pg_name (i := 0) (show (["_law_j", "_law_letters", "_law_base"] : List Str).Nodup by decide +kernel) rfl (Or.inl rfl) (.inr rfl))) (fun _ _ _ _ => pif_nil) (fun _ _ _ _ => (@pe_ix _ _ _ _ _ _ _ ix_str (pv 1) (callD T.l_part G_l_part (hr.mono (by decide)) (@pa_cons _ _ _ _ _ (pv 2) (@pa_cons _ _ _ _ _ (pv 0) (@pa_cons _ _ _ _ _ pe_int pa_nil (by rfl)) (by rfl)) (by rfl))) (fun _ _ => rfl))) (by rfl)) (@pss_cons _ _ _ _ _ (ps_asg (@pe_ix _ _ _ _ _ _ _ ix_str (pv 2) (@pe_op _ _ _ _ _ _ _ _ op_mod (@pe_op _ _ _ _ _ _ _ _ op_add (callD T.l_part G_l_part (hr.mono (by decide)) (@pa_cons _ _ _ _ _ (pv 0) (@pa_cons _ _ _ _ _ pe_int (@pa_cons _ _ _ _ _ pe_int pa_nil (by rfl)) (by rfl)) (by rfl))) (callD T.l_part G_l_part (hr.mono (by decide)) (@pa_cons _ _ _ _ _ (pv 1) (@pa_cons _ _ _ _ _ pe_int (@pa_cons _ _ _ _ _ pe_int pa_nil (by rfl)) (by rfl)) (by rfl)))) pe_int) (fun _ _ => rfl)) (pg_sub (pv 4) (callD T.l_part G_l_part (hr.mono (by decide)) (@pa_cons _ _ _ _ _ (pv 0) (@pa_cons _ _ _ _ _ pe_int (@pa_cons _ _ _ _ _ (pv 3) pa_nil (by rfl)) (by rfl)) (by rfl))) set_list)) (@pss_cons _ _ _ _ _ (@ps_if _ _ _ _ _ _ _ _ (@pt_cmpR _ _ _ _ _ _ _ _ op_in_seq (pe_bm PySem.F.plainAttrs_str PySem.F.slot_str_join PySem.F.type_str_join mt_join pe_str (@pa_cons _ _ _ _ _ (pv 4) pa_nil (by rfl))) (callD0 T.l_taken G_l_taken (hr.mono (by decide))) (by with_unfolding_all rfl)) (@pss_one _ _ _ (@ps_ret _ _ _ _ (@pe_op _ _ _ _ _ _ _ _ op_add_str (pe_bm PySem.F.plainAttrs_str PySem.F.slot_str_join PySem.F.type_str_join mt_join pe_str (@pa_cons _ _ _ _ _ (pv 4) pa_nil (by rfl))) pe_str))) pss_nil) (@pss_one _ _ _ (@ps_ret _ _ _ _ (pe_bm PySem.F.plainAttrs_str PySem.F.slot_str_join PySem.F.type_str_join mt_join pe_str (@pa_cons _ _ _ _ _ (pv 4) pa_nil (by rfl)))))))))), ?_⟩
    have lf : ("abcdefghijklmnopqrstuvwxyz" : Str).length ≤ sizeLine := by decide +kernel
    refine ⟨_, rfl, b, 8, 8, rfl, by decide, by decide, fun z H1 z0 z1 s1 => ⟨_, _, rfl, rfl, ?_⟩⟩
    have hn : (((1 + z).toNat : Nat) : Int) = 1 + z := by omega
    refine ⟨_, rfl, _, rfl, by omega, by omega, fun u hu => comp_range (lo := 0) (n := (1 + z).toNat) (by omega) (fun i acc H2 => Same H1 H2 ∧ H2 u = some (.lst acc) ∧ ∃ cs : List Nat, cs.length = i ∧ Lets cs ∧ acc = cs.map fun c => V.str (tx [c])) ⟨Same.new hu, upd_same, [], rfl, (fun c hc => by simp at hc), rfl⟩ ?_ ?_ ?_⟩
    · rintro i acc H2 hi ⟨s2, e2, cs, hl, hc, rfl⟩
      exact ⟨e2, by rw [List.length_map]; omega⟩
    · rintro i acc H2 hi ⟨s2, e2, cs, hl, hc, rfl⟩
      refine ⟨_, rfl, _, rfl, _, rfl, b, 0 + (i : Int), 26, rfl, by omega, by decide, fun y H3 y0 y1 s3 => ⟨_, _, _, rfl, rfl, lf, let_at y0 y1, s3 _ _ e2, (s2.trans s3).upd hu, upd_same, cs ++ [97 + y.toNat], by rw [List.length_append, hl]; rfl, lets_snoc hc (by omega), ?_⟩⟩
      rw [List.map_append]
      rfl
    rintro acc H2 ⟨s2, e2, cs, hl, hc, rfl⟩
    have s02 := s1.trans s2
    have hu0 : H u = none := s1.free hu
    refine ⟨_, rfl, _, rfl, b, 10, 26, rfl, by decide, by decide, fun y H3 y0 y1 s3 => ⟨_, rfl, k, 6, 18, rfl, by decide, by decide, fun y' H3' y0' y1' s3' => ⟨_, _, rfl, rfl, _, _, rfl, rfl, (show (0 : Int) < 26 by decide), _, _, _, rfl, rfl, lf, let_at (emod_bd (y + y') 26 (by decide)).1 (emod_bd (y + y') 26 (by decide)).2, ?_⟩⟩⟩
    have bk := emod_bd (y + y') 26 (by decide)
    refine ⟨_, rfl, _, rfl, _, rfl, b, 9, 1 + z, rfl, by decide, by omega, fun p H4 p0 p1 s4 => ?_⟩
    have e4 := s4 _ _ (s3' _ _ (s3 _ _ e2))
    refine ⟨u, _, _, _, rfl, rfl, e4, ixI (by omega) (by rw [List.length_map]; omega), ?_⟩
    rw [show (V.str ⟨#[97 + ((y + y') % 26).toNat]⟩) = V.str (tx [97 + ((y + y') % 26).toNat]) from rfl, strs_set]
    have hc2 := lets_set (i := p.toNat) hc (c := 97 + ((y + y') % 26).toNat) (by omega)
    have hl2 : (cs.set p.toNat (97 + ((y + y') % 26).toNat)).length = (1 + z).toNat := by rw [List.length_set, hl]
    generalize cs.set p.toNat (97 + ((y + y') % 26).toNat) = ds at hc2 hl2 ⊢
    have s5 : Same H (upd H4 u (.lst ((ds.map fun c => tx [c]).map V.str))) := (((s02.trans s3).trans s3').trans s4).upd hu0
    have e5 := upd_same (H := H4) (a := u) (o := .lst ((ds.map fun c => tx [c]).map V.str))
    generalize upd H4 u (.lst ((ds.map fun c => tx [c]).map V.str)) = H5 at s5 e5 ⊢
    refine ⟨rfl, _, rfl, _, u, _, rfl, rfl, SqL.of e5, one_fit (by omega), ?_⟩
    rw [one_join]
    refine ⟨rfl, fun tl htl => ⟨tl, _, rfl, .inl (SqL.of upd_same), rfl, (by decide +kernel), _, rfl, ?_⟩⟩
    have st := Same.new (o := .lst (taken.map V.str)) htl
    have s6 := s5.trans st
    have e6 := st _ _ e5
    refine ite2 (fun c => ?_) (fun c => ?_)
    · refine ⟨rfl, _, rfl, _, u, _, rfl, rfl, SqL.of e6, one_fit (by omega), ?_⟩
      rw [one_join]
      refine ⟨_, _, rfl, rfl, (by rw [tx_len, hl2]; exact lt_line (by show (1 + z).toNat + 1 < 1000000; omega)), q _ _ (free_app (lets_free hc2) (by decide +kernel)) ?_ s6⟩
      rw [len_app, tx_len, hl2]
      show (1 + z).toNat + 1 ≤ 20
      omega
    · refine ⟨rfl, _, rfl, _, u, _, rfl, rfl, SqL.of e6, one_fit (by omega), ?_⟩
      rw [one_join]
      exact q _ _ (lets_free hc2) (by rw [tx_len]; omega) s6
end
end K15

set_option Elab.async false
set_option linter.all false
set_option maxRecDepth 100000
set_option maxHeartbeats 4000000
namespace K15
open PySem L2 Gx K11 K14
section
variable {P : Program} {w : World} {K : PySem.W.Frag} {mg : Str → Option Value} {base : Heap} {t : Adr}
theorem sc_l_atom : FnScope ["_law_base", "_law_cell_here"] ["_law_base", "_law_cell_here"] (defScope s_l_atom) := ⟨rfl, rfl, rfl, by decide +kernel, rfl, by decide +kernel, by decide +kernel⟩
theorem ok_l_atom (T : Txt K mg t) : FnOk P w K mg base CX0 3 t.a_l_atom t.d_l_atom ["_law_base", "_law_cell_here"] (sp_l_atom K) := by
  have G_l_name : FnOk P w K mg base CX0 2 t.a_l_name t.d_l_name ["_law_base", "_law_cell_here"] (sp_l_name K) := ok_l_name T
  have G_l_part : FnOk P w K mg base CX0 1 t.a_l_part t.d_l_part ["_law_cell_here", "_law_j", "_law_many"] (sp_l_part K) := ok_l_part T
  refine T.l_atom.F.ok sc_l_atom (fun vs H Q E h => ?_) (fun cdv A outer s H vs Q E hr h => ?_)
  · obtain ⟨b, k, rfl, q⟩ := h
    rfl
  · obtain ⟨b, k, rfl, q⟩ := h
    refine ⟨_, (@pss_cons _ _ _ _ _ (@ps_if _ _ _ _ _ _ _ _ (@pt_cmpR _ _ _ _ _ _ _ _ op_eq (callD T.l_part G_l_part (hr.mono (by decide)) (@pa_cons _ _ _ _ _ (pv 1) (@pa_cons _ _ _ _ _ pe_int (@pa_cons _ _ _ _ _ pe_int pa_nil (by rfl)) (by rfl)) (by rfl))) pe_int (nomark _)) (@pss_one _ _ _ (@ps_ret _ _ _ _ (pe_callTy call_str_int (by rfl) T.b_str bt_str (@pa_cons _ _ _ _ _ (@pe_op _ _ _ _ _ _ _ _ op_mod (@pe_op _ _ _ _ _ _ _ _ op_mul (pv 1) pe_int) (@pe_op _ _ _ _ _ _ _ _ op_pow pe_int pe_int)) pa_nil (by rfl))))) pss_nil) (@pss_one _ _ _ (@ps_ret _ _ _ _ (callD T.l_name G_l_name (hr.mono (by decide)) (@pa_cons _ _ _ _ _ (pv 0) (@pa_cons _ _ _ _ _ (pv 1) pa_nil (by rfl)) (by rfl)))))), ?_⟩
    refine ⟨_, rfl, k, 0, 3, rfl, by decide, by decide, fun z H1 z0 z1 s1 => ⟨rfl, _, rfl, ?_⟩⟩
    refine ite2 (fun c => ?_) (fun c => ?_)
    · have hb := emod_bd (k * 94906267) 281474976710656 (by decide)
      obtain ⟨m, hm⟩ : ∃ m : Nat, k * 94906267 % 281474976710656 = (m : Int) := ⟨(k * 94906267 % 281474976710656).toNat, by omega⟩
      rw [hm] at hb
      refine ⟨_, rfl, _, _, rfl, rfl, .inr ⟨by decide, by decide⟩, _, _, rfl, rfl, ⟨by decide, by decide, by decide⟩, _, _, rfl, rfl, (show (0 : Int) < 2 ^ (48 : Int).toNat by decide), (m : Int), congrArg (fun z => [V.int z]) hm, (by rw [Int.natAbs_natCast]; exact log_small (by omega)), ?_⟩
      obtain ⟨f1, f2⟩ := dec_text (m := m) (by omega)
      exact q _ H1 f1 f2 s1
    · exact ⟨_, rfl, _, rfl, b, k, rfl, fun x H2 h1 h2 s2 => q x H2 h1 h2 (s1.trans s2)⟩
end
end K15

set_option Elab.async false
set_option linter.all false
set_option maxRecDepth 100000
set_option maxHeartbeats 4000000
namespace K15
open PySem L2 Gx K11 K14
section
variable {P : Program} {w : World} {K : PySem.W.Frag} {mg : Str → Option Value} {base : Heap} {t : Adr}
theorem sc_l_good : FnScope ["_law_base", "_law_cell_here", "_law_least", "_law_x", "_law_a", "_law_b", "_law_f", "_law_kind", "_law_args", "_law_params", "_law_some"] ["_law_base", "_law_cell_here", "_law_least"] (defScope s_l_good) := ⟨rfl, rfl, rfl, by decide +kernel, rfl, by decide +kernel, by decide +kernel⟩
theorem ok_l_good (T : Txt K mg t) : FnOk P w K mg base CX0 4 t.a_l_good t.d_l_good ["_law_base", "_law_cell_here", "_law_least"] (sp_l_good K) := by
  have G_l_name : FnOk P w K mg base CX0 2 t.a_l_name t.d_l_name ["_law_base", "_law_cell_here"] (sp_l_name K) := ok_l_name T
  have G_l_atom : FnOk P w K mg base CX0 3 t.a_l_atom t.d_l_atom ["_law_base", "_law_cell_here"] (sp_l_atom K) := ok_l_atom T
  have G_l_part : FnOk P w K mg base CX0 1 t.a_l_part t.d_l_part ["_law_cell_here", "_law_j", "_law_many"] (sp_l_part K) := ok_l_part T
  refine T.l_good.F.ok sc_l_good (fun vs H Q E h => ?_) (fun cdv A outer s H vs Q E hr h => ?_)
  · obtain ⟨b, c, l, rfl, hl, q⟩ := h
    rfl
  · obtain ⟨b, c, l, rfl, hl, q⟩ := h
    refine ⟨_, (@pss_cons _ _ _ _ _ (@ps_set _ _ 3 _ _ _ _ sc_l_good.nd rfl (Or.inl rfl) (callD T.l_name G_l_name (hr.mono (by decide)) (@pa_cons _ _ _ _ _ (pv 0) (@pa_cons _ _ _ _ _ (@pe_op _ _ _ _ _ _ _ _ op_add (pv 1) pe_int) pa_nil (by rfl)) (by rfl))) (by rfl) (by first | exact .inl rfl | exact .inr rfl | assumption)) (@pss_cons _ _ _ _ _ (@ps_set _ _ 4 _ _ _ _ sc_l_good.nd rfl (Or.inl rfl) (callD T.l_atom G_l_atom (hr.mono (by decide)) (@pa_cons _ _ _ _ _ (pv 0) (@pa_cons _ _ _ _ _ (pv 1) pa_nil (by rfl)) (by rfl))) (by rfl) (by first | exact .inl rfl | exact .inr rfl | assumption)) (@pss_cons _ _ _ _ _ (@ps_set _ _ 5 _ _ _ _ sc_l_good.nd rfl (Or.inl rfl) (callD T.l_atom G_l_atom (hr.mono (by decide)) (@pa_cons _ _ _ _ _ (pv 0) (@pa_cons _ _ _ _ _ (@pe_op _ _ _ _ _ _ _ _ op_add (pv 1) pe_int) pa_nil (by rfl)) (by rfl))) (by rfl) (by first | exact .inl rfl | exact .inr rfl | assumption)) (@pss_cons _ _ _ _ _ (@ps_set _ _ 6 _ _ _ _ sc_l_good.nd rfl (Or.inl rfl) (callD T.l_name G_l_name (hr.mono (by decide)) (@pa_cons _ _ _ _ _ (pv 0) (@pa_cons _ _ _ _ _ (@pe_op _ _ _ _ _ _ _ _ op_add (pv 1) pe_int) pa_nil (by rfl)) (by rfl))) (by rfl) (by first | exact .inl rfl | exact .inr rfl | assumption)) (@pss_cons _ _ _ _ _ (@ps_set _ _ 7 _ _ _ _ sc_l_good.nd rfl (Or.inl rfl) (@pe_op _ _ _ _ _ _ _ _ op_add (pv 2) (callD T.l_part G_l_part (hr.mono (by decide)) (@pa_cons _ _ _ _ _ (pv 1) (@pa_cons _ _ _ _ _ pe_int (@pa_cons _ _ _ _ _ (@pe_op _ _ _ _ _ _ _ _ op_sub pe_int (pv 2)) pa_nil (by rfl)) (by rfl)) (by rfl)))) (by rfl) (by first | exact .inl rfl | exact .inr rfl | assumption)) (@pss_cons _ _ _ _ _ (ps_setc (i := 8) sc_l_good.nd rfl (Or.inl rfl) (N' := ["_law_k", "_law_base", "_law_cell_here"]) (js := [none, some 0, some 1]) (by kernel_rfl) rfl (pi_range1 rfl T.b_range (@pa_cons _ _ _ _ _ (callD T.l_part G_l_part (hr.mono (by decide)) (@pa_cons _ _ _ _ _ (pv 1) (@pa_cons _ _ _ _ _ pe_int (@pa_cons _ _ _ _ _ pe_int pa_nil (by rfl)) (by rfl)) (by rfl))) pa_nil (by rfl))) own_name (fun _ _ _ _ => (pg_name (i := 0) (show (["_law_k", "_law_base", "_law_cell_here"] : List Str).Nodup by decide +kernel) rfl (Or.inl rfl) (.inr rfl))) (fun _ _ _ _ => pif_nil) (fun _ _ _ _ => (callD T.l_atom G_l_atom (hr.mono (by decide)) (@pa_cons _ _ _ _ _ (pv 1) (@pa_cons _ _ _ _ _ (@pe_op _ _ _ _ _ _ _ _ op_add (pv 2) (@pe_op _ _ _ _ _ _ _ _ op_mul pe_int (pv 0))) pa_nil (by rfl)) (by rfl)))) (by rfl)) (@pss_cons _ _ _ _ _ (@ps_if _ _ _ _ _ _ _ _ (@pt_cmpR _ _ _ _ _ _ _ _ op_lt (pv 7) pe_int (nomark _)) (@pss_cons _ _ _ _ _ (ps_setc (i := 9) sc_l_good.nd rfl (Or.inl rfl) (N' := ["_law_k", "_law_base", "_law_cell_here"]) (js := [none, some 0, some 1]) (by kernel_rfl) rfl (pi_range1 rfl T.b_range (@pa_cons _ _ _ _ _ (callD T.l_part G_l_part (hr.mono (by decide)) (@pa_cons _ _ _ _ _ (pv 1) (@pa_cons _ _ _ _ _ pe_int (@pa_cons _ _ _ _ _ pe_int pa_nil (by rfl)) (by rfl)) (by rfl))) pa_nil (by rfl))) own_name (fun _ _ _ _ => (pg_name (i := 0) (show (["_law_k", "_law_base", "_law_cell_here"] : List Str).Nodup by decide +kernel) rfl (Or.inl rfl) (.inr rfl))) (fun _ _ _ _ => pif_nil) (fun _ _ _ _ => (callD T.l_name G_l_name (hr.mono (by decide)) (@pa_cons _ _ _ _ _ (pv 1) (@pa_cons _ _ _ _ _ (@pe_op _ _ _ _ _ _ _ _ op_add (pv 2) (@pe_op _ _ _ _ _ _ _ _ op_mul pe_int (pv 0))) pa_nil (by rfl)) (by rfl)))) (by rfl)) (@pss_one _ _ _ (@ps_ret _ _ _ _ (pe_bm PySem.F.plainAttrs_str PySem.F.slot_str_join PySem.F.type_str_join mt_join pe_str (@pa_cons _ _ _ _ _ (@pe_op _ _ _ _ _ _ _ _ op_cat (@pe_lst _ _ _ _ (@pa_cons _ _ _ _ _ (@pe_ix _ _ _ _ _ _ _ ix_list (@pe_lst _ _ _ _ (@pa_cons _ _ _ _ _ pe_str (@pa_cons _ _ _ _ _ pe_str pa_nil (by rfl)) (by rfl))) (pv 7) (fun _ _ => rfl)) (@pa_cons _ _ _ _ _ (pv 6) pa_nil (by rfl)) (by rfl))) (pv 9)) pa_nil (by rfl)))))) pss_nil) (@pss_cons _ _ _ _ _ (@ps_set _ _ 10 _ _ _ _ sc_l_good.nd rfl (Or.inl rfl) (@pe_lst _ _ _ _ (@pa_cons _ _ _ _ _ (@pe_op _ _ _ _ _ _ _ _ op_add_str (@pe_op _ _ _ _ _ _ _ _ op_add_str (pv 3) pe_str) (pv 4)) (@pa_cons _ _ _ _ _ (@pe_op _ _ _ _ _ _ _ _ op_add_str (@pe_op _ _ _ _ _ _ _ _ op_add_str (@pe_op _ _ _ _ _ _ _ _ op_add_str (@pe_op _ _ _ _ _ _ _ _ op_add_str (@pe_op _ _ _ _ _ _ _ _ op_add_str (@pe_op _ _ _ _ _ _ _ _ op_add_str (pv 3) pe_str) (pv 4)) pe_str) (@pe_ix _ _ _ _ _ _ _ ix_str pe_str (callD T.l_part G_l_part (hr.mono (by decide)) (@pa_cons _ _ _ _ _ (pv 1) (@pa_cons _ _ _ _ _ pe_int (@pa_cons _ _ _ _ _ pe_int pa_nil (by rfl)) (by rfl)) (by rfl))) (fun _ _ => rfl))) pe_str) (pv 5)) (@pa_cons _ _ _ _ _ (@pe_op _ _ _ _ _ _ _ _ op_add_str (pv 3) pe_str) pa_nil (by rfl)) (by rfl)) (by rfl))) (by rfl) (by first | exact .inl rfl | exact .inr rfl | assumption)) (@pss_cons _ _ _ _ _ (@ps_set _ _ 10 _ _ _ _ sc_l_good.nd rfl (Or.inl rfl) (@pe_op _ _ _ _ _ _ _ _ op_cat (pv 10) (@pe_lst _ _ _ _ (@pa_cons _ _ _ _ _ (@pe_op _ _ _ _ _ _ _ _ op_add_str (@pe_op _ _ _ _ _ _ _ _ op_add_str (@pe_op _ _ _ _ _ _ _ _ op_add_str (@pe_op _ _ _ _ _ _ _ _ op_add_str (pv 3) pe_str) (pv 4)) pe_str) (pv 6)) (@pa_cons _ _ _ _ _ (@pe_op _ _ _ _ _ _ _ _ op_add_str (@pe_op _ _ _ _ _ _ _ _ op_add_str (@pe_op _ _ _ _ _ _ _ _ op_add_str (@pe_op _ _ _ _ _ _ _ _ op_add_str (@pe_op _ _ _ _ _ _ _ _ op_add_str pe_str (pv 4)) pe_str) (pv 6)) pe_str) (pv 5)) pa_nil (by rfl)) (by rfl)))) (by rfl) (by first | exact .inl rfl | exact .inr rfl | assumption)) (@pss_cons _ _ _ _ _ (@ps_set _ _ 10 _ _ _ _ sc_l_good.nd rfl (Or.inl rfl) (@pe_op _ _ _ _ _ _ _ _ op_cat (pv 10) (@pe_lst _ _ _ _ (@pa_cons _ _ _ _ _ (pe_bm PySem.F.plainAttrs_str PySem.F.slot_str_join PySem.F.type_str_join mt_join pe_str (@pa_cons _ _ _ _ _ (@pe_op _ _ _ _ _ _ _ _ op_cat (@pe_lst _ _ _ _ (@pa_cons _ _ _ _ _ (pv 3) (@pa_cons _ _ _ _ _ pe_str (@pa_cons _ _ _ _ _ pe_str (@pa_cons _ _ _ _ _ (pv 6) pa_nil (by rfl)) (by rfl)) (by rfl)) (by rfl))) (pv 8)) pa_nil (by rfl))) (@pa_cons _ _ _ _ _ (@pe_op _ _ _ _ _ _ _ _ op_add_str pe_str (pv 4)) (@pa_cons _ _ _ _ _ (@pe_op _ _ _ _ _ _ _ _ op_add_str pe_str (pv 4)) (@pa_cons _ _ _ _ _ (@pe_op _ _ _ _ _ _ _ _ op_add_str pe_str (pv 4)) pa_nil (by rfl)) (by rfl)) (by rfl)) (by rfl)))) (by rfl) (by first | exact .inl rfl | exact .inr rfl | assumption)) (@pss_one _ _ _ (@ps_ret _ _ _ _ (@pe_ix _ _ _ _ _ _ _ ix_list (@pe_op _ _ _ _ _ _ _ _ op_cat (pv 10) (@pe_lst _ _ _ _ (@pa_cons _ _ _ _ _ (@pe_op _ _ _ _ _ _ _ _ op_add_str pe_str (pv 4)) (@pa_cons _ _ _ _ _ pe_str (@pa_cons _ _ _ _ _ pe_str pa_nil (by rfl)) (by rfl)) (by rfl)))) (@pe_op _ _ _ _ _ _ _ _ op_sub (pv 7) pe_int) (fun _ _ => rfl)))))))))))))), ?_⟩
    refine ⟨_, rfl, _, rfl, _, _, rfl, rfl, b, _, rfl, fun x H1 fx lx s1 => ?_⟩
    have hx : Tx 20 x := ⟨fx, lx⟩
    refine ⟨_, rfl, _, rfl, b, c, rfl, fun a H2 fa la s2 => ?_⟩
    have ha : Tx 20 a := ⟨fa, la⟩
    refine ⟨_, rfl, _, rfl, _, _, rfl, rfl, b, _, rfl, fun bb H3 fb lb s3 => ?_⟩
    have hb : Tx 20 bb := ⟨fb, lb⟩
    refine ⟨_, rfl, _, rfl, _, _, rfl, rfl, b, _, rfl, fun f H4 ff lf s4 => ?_⟩
    have hf : Tx 20 f := ⟨ff, lf⟩
    refine ⟨_, rfl, _, rfl, _, rfl, _, _, rfl, rfl, c, 7, 14 - l, rfl, by decide, by omega, fun z H5 z0 z1 s5 => ⟨_, _, rfl, rfl, ?_⟩⟩
    refine ⟨_, rfl, c, 5, 7, rfl, by decide, by decide, fun m H6 m0 m1 s6 => ⟨_, rfl, by omega, by omega, fun u hu => comp_relR (lo := 0) (n := m.toNat) (fun _ _ v => OkV 20 v) (fun _ _ _ _ _ h => h) (by omega) hu ?_ ?_⟩⟩
    · rintro i Hi R' hi si _ ri
      exact ⟨_, rfl, _, rfl, _, rfl, _, _, rfl, rfl, .inl ⟨by decide, by decide⟩, _, _, rfl, rfl, b, _, rfl, fun y Hj fy ly sj => ri _ Hj sj ⟨y, rfl, fy, ly⟩⟩
    intro H7 vs s7 e7 lv tv
    obtain ⟨ys, rfl, hys⟩ := strs_of tv
    rw [List.length_map] at lv
    clear tv
    have s07 := (((((s1.trans s2).trans s3).trans s4).trans s5).trans s6).trans s7
    refine ⟨_, rfl, _, _, rfl, rfl, _, rfl, ?_⟩
    by_cases hk : l + z < 2
    · refine iteP (decide_eq_true hk) ?_
      refine ⟨_, rfl, c, 5, 7, rfl, by decide, by decide, fun m' H8 m0' m1' s8 => ⟨_, rfl, by omega, by omega, fun u' hu' => comp_relR (lo := 0) (n := m'.toNat) (fun _ _ v => OkV 20 v) (fun _ _ _ _ _ h => h) (by omega) hu' ?_ ?_⟩⟩
      · rintro i Hi R' hi si _ ri
        exact ⟨_, rfl, _, rfl, _, rfl, _, _, rfl, rfl, .inl ⟨by decide, by decide⟩, _, _, rfl, rfl, b, _, rfl, fun y Hj fy ly sj => ri _ Hj sj ⟨y, rfl, fy, ly⟩⟩
      intro H9 vs' s9 e9 lv' tv'
      obtain ⟨ps, rfl, hps⟩ := strs_of tv'
      rw [List.length_map] at lv'
      obtain ⟨kw, hat, hkw⟩ := fnin_at (show 0 ≤ l + z by omega) hk
      refine ⟨rfl, le2, fun l1 h1 => ⟨_, rfl, l1, _, _, _, rfl, rfl, SqL.of upd_same, hat, _, rfl, le2, fun l2 h2 => ⟨_, rfl, l2, u', _, _, rfl, rfl, upd_same, Same.new h2 _ _ (Same.new h1 _ _ e9), (by rw [List.length_map]; show 2 + ps.length ≤ sizeLine; exact lt_line (by omega)), fun p hp => ?_⟩⟩⟩
      have hw : ∀ w ∈ kw :: f :: ps, Tx 20 w := fun w hw => by
        rcases List.mem_cons.mp hw with rfl | hw
        · exact hkw
        rcases List.mem_cons.mp hw with rfl | hw
        · exact hf
        · exact hps w hw
      have hl8 : (kw :: f :: ps).length ≤ 8 := by simp only [List.length_cons]; omega
      refine ⟨_, p, kw :: f :: ps, rfl, rfl, SqL.of upd_same, join_bd hw hl8 (by decide), q _ _ (join_tx hw hl8).1 (Nat.le_trans (join_tx hw hl8).2 (by decide)) ?_⟩
      exact (((s07.trans s8).trans s9).trans ((Same.new h1).trans (Same.new h2))).trans (Same.new hp)
    refine iteN (fun h => hk (of_decide_eq_true h)) ?_
    refine ⟨_, rfl, _, _, rfl, rfl, Tx.bd hx (show Tx 3 (PySem.Str.ofString " = ") by decide +kernel) (by decide), _, rfl, _, _, rfl, rfl, Tx.bd (Tx.cat hx (show Tx 3 (PySem.Str.ofString " = ") by decide +kernel)) ha (by decide), _, rfl, _, _, rfl, rfl, Tx.bd hx (show Tx 3 (PySem.Str.ofString " = ") by decide +kernel) (by decide), _, rfl, _, _, rfl, rfl, Tx.bd (Tx.cat hx (show Tx 3 (PySem.Str.ofString " = ") by decide +kernel)) ha (by decide), _, _, rfl, rfl, Tx.bd (Tx.cat (Tx.cat hx (show Tx 3 (PySem.Str.ofString " = ") by decide +kernel)) ha) (show Tx 1 (PySem.Str.ofString " ") by decide +kernel) (by decide), _, rfl, c, 4, 9, rfl, by decide, by decide, fun y H8 y0 y1 s8 => ?_⟩
    refine ixS_mem (by decide +kernel) y0 (by rw [show (PySem.Str.ofString "+-*/<=&|^").length = 9 from by decide +kernel]; exact y1) fun g hg => ?_
    have hg : Tx 1 ⟨#[g]⟩ := ⟨free1 (fun z => by rw [z] at hg; exact absurd hg (by decide +kernel)), Nat.le_refl 1⟩
    refine ⟨_, _, rfl, rfl, Tx.bd (Tx.cat (Tx.cat (Tx.cat hx (show Tx 3 (PySem.Str.ofString " = ") by decide +kernel)) ha) (show Tx 1 (PySem.Str.ofString " ") by decide +kernel)) hg (by decide), _, _, rfl, rfl, Tx.bd (Tx.cat (Tx.cat (Tx.cat (Tx.cat hx (show Tx 3 (PySem.Str.ofString " = ") by decide +kernel)) ha) (show Tx 1 (PySem.Str.ofString " ") by decide +kernel)) hg) (show Tx 1 (PySem.Str.ofString " ") by decide +kernel) (by decide), _, rfl, _, _, rfl, rfl, Tx.bd (Tx.cat (Tx.cat (Tx.cat (Tx.cat (Tx.cat hx (show Tx 3 (PySem.Str.ofString " = ") by decide +kernel)) ha) (show Tx 1 (PySem.Str.ofString " ") by decide +kernel)) hg) (show Tx 1 (PySem.Str.ofString " ") by decide +kernel)) hb (by decide), _, rfl, _, _, rfl, rfl, Tx.bd hx (show Tx 6 (PySem.Str.ofString " = new") by decide +kernel) (by decide), le3, fun l1 h1 => ?_⟩
    refine ⟨_, rfl, _, rfl, _, _, rfl, rfl, Tx.bd hx (show Tx 7 (PySem.Str.ofString " = get ") by decide +kernel) (by decide), _, rfl, _, _, rfl, rfl, Tx.bd (Tx.cat hx (show Tx 7 (PySem.Str.ofString " = get ") by decide +kernel)) ha (by decide), _, _, rfl, rfl, Tx.bd (Tx.cat (Tx.cat hx (show Tx 7 (PySem.Str.ofString " = get ") by decide +kernel)) ha) (show Tx 1 (PySem.Str.ofString " ") by decide +kernel) (by decide), _, rfl, _, _, rfl, rfl, Tx.bd (Tx.cat (Tx.cat (Tx.cat hx (show Tx 7 (PySem.Str.ofString " = get ") by decide +kernel)) ha) (show Tx 1 (PySem.Str.ofString " ") by decide +kernel)) hf (by decide), _, rfl, _, _, rfl, rfl, Tx.bd (show Tx 4 (PySem.Str.ofString "put ") by decide +kernel) ha (by decide), _, _, rfl, rfl, Tx.bd (Tx.cat (show Tx 4 (PySem.Str.ofString "put ") by decide +kernel) ha) (show Tx 1 (PySem.Str.ofString " ") by decide +kernel) (by decide), _, rfl, _, _, rfl, rfl, Tx.bd (Tx.cat (Tx.cat (show Tx 4 (PySem.Str.ofString "put ") by decide +kernel) ha) (show Tx 1 (PySem.Str.ofString " ") by decide +kernel)) hf (by decide), _, _, rfl, rfl, Tx.bd (Tx.cat (Tx.cat (Tx.cat (show Tx 4 (PySem.Str.ofString "put ") by decide +kernel) ha) (show Tx 1 (PySem.Str.ofString " ") by decide +kernel)) hf) (show Tx 1 (PySem.Str.ofString " ") by decide +kernel) (by decide), _, rfl, _, _, rfl, rfl, Tx.bd (Tx.cat (Tx.cat (Tx.cat (Tx.cat (show Tx 4 (PySem.Str.ofString "put ") by decide +kernel) ha) (show Tx 1 (PySem.Str.ofString " ") by decide +kernel)) hf) (show Tx 1 (PySem.Str.ofString " ") by decide +kernel)) hb (by decide), le2, fun l2 h2 => ⟨l1, l2, _, _, rfl, rfl, Same.new h2 _ _ upd_same, upd_same, (by show 3 + 2 ≤ sizeLine; decide), fun l3 h3 => ?_⟩⟩
    have hw : ∀ w ∈ x :: ("=" : Str) :: ("call" : Str) :: f :: ys, Tx 20 w := fun w hw => by
      rcases List.mem_cons.mp hw with rfl | hw
      · exact hx
      rcases List.mem_cons.mp hw with rfl | hw
      · decide +kernel
      rcases List.mem_cons.mp hw with rfl | hw
      · decide +kernel
      rcases List.mem_cons.mp hw with rfl | hw
      · exact hf
      · exact hys w hw
    have hl10 : (x :: ("=" : Str) :: ("call" : Str) :: f :: ys).length ≤ 10 := by simp only [List.length_cons]; omega
    refine ⟨_, rfl, rfl, _, rfl, _, rfl, le4, fun l4 h4 => ⟨_, rfl, l4, u, _, _, rfl, rfl, upd_same, Same.new h4 _ _ (Same.new h3 _ _ (Same.new h2 _ _ (Same.new h1 _ _ (s8 _ _ e7)))), (by rw [List.length_map]; show 4 + ys.length ≤ sizeLine; exact lt_line (by omega)), fun l5 h5 => ⟨_, l5, x :: ("=" : Str) :: ("call" : Str) :: f :: ys, rfl, rfl, SqL.of upd_same, join_bd hw hl10 (by decide), _, rfl, _, _, rfl, rfl, Tx.bd (show Tx 4 (PySem.Str.ofString "out ") by decide +kernel) ha (by decide), _, rfl, _, _, rfl, rfl, Tx.bd (show Tx 5 (PySem.Str.ofString "back ") by decide +kernel) ha (by decide), _, rfl, _, _, rfl, rfl, Tx.bd (show Tx 3 (PySem.Str.ofString "if ") by decide +kernel) ha (by decide), le4, fun l6 h6 => ⟨l3, l6, _, _, rfl, rfl, Same.new h6 _ _ (Same.new h5 _ _ (Same.new h4 _ _ upd_same)), upd_same, (by show 5 + 4 ≤ sizeLine; decide), fun l7 h7 => ?_⟩⟩⟩⟩
    refine ⟨_, rfl, _, rfl, _, _, rfl, rfl, Tx.bd (show Tx 6 (PySem.Str.ofString "while ") by decide +kernel) ha (by decide), le3, fun l8 h8 => ⟨l7, l8, _, _, rfl, rfl, Same.new h8 _ _ upd_same, upd_same, (by show 9 + 3 ≤ sizeLine; decide), fun l9 h9 => ⟨_, rfl, _, _, rfl, rfl, ?_⟩⟩⟩
    refine pick_ok (n := 400) (SqL.of upd_same) (by omega) (by show l + z - 2 < 12; omega) ?_ fun x' hx' => q x' _ hx'.1 hx'.2 ?_
    · refine oka (oka (oka (okc (Tx.v (Tx.cat (Tx.cat hx (show Tx 3 (PySem.Str.ofString " = ") by decide +kernel)) ha) (by decide)) (okc (Tx.v (Tx.cat (Tx.cat (Tx.cat (Tx.cat (Tx.cat (Tx.cat hx (show Tx 3 (PySem.Str.ofString " = ") by decide +kernel)) ha) (show Tx 1 (PySem.Str.ofString " ") by decide +kernel)) hg) (show Tx 1 (PySem.Str.ofString " ") by decide +kernel)) hb) (by decide)) (okc (Tx.v (Tx.cat hx (show Tx 6 (PySem.Str.ofString " = new") by decide +kernel)) (by decide)) okn))) (okc (Tx.v (Tx.cat (Tx.cat (Tx.cat (Tx.cat hx (show Tx 7 (PySem.Str.ofString " = get ") by decide +kernel)) ha) (show Tx 1 (PySem.Str.ofString " ") by decide +kernel)) hf) (by decide)) (okc (Tx.v (Tx.cat (Tx.cat (Tx.cat (Tx.cat (Tx.cat (show Tx 4 (PySem.Str.ofString "put ") by decide +kernel) ha) (show Tx 1 (PySem.Str.ofString " ") by decide +kernel)) hf) (show Tx 1 (PySem.Str.ofString " ") by decide +kernel)) hb) (by decide)) okn))) (okc (Tx.v (join_tx hw hl10) (by decide)) (okc (Tx.v (Tx.cat (show Tx 4 (PySem.Str.ofString "out ") by decide +kernel) ha) (by decide)) (okc (Tx.v (Tx.cat (show Tx 5 (PySem.Str.ofString "back ") by decide +kernel) ha) (by decide)) (okc (Tx.v (Tx.cat (show Tx 3 (PySem.Str.ofString "if ") by decide +kernel) ha) (by decide)) okn))))) (okc (Tx.v (Tx.cat (show Tx 6 (PySem.Str.ofString "while ") by decide +kernel) ha) (by decide)) (okc (Tx.v (show Tx 4 (PySem.Str.ofString "else") by decide +kernel) (by decide)) (okc (Tx.v (show Tx 3 (PySem.Str.ofString "end") by decide +kernel) (by decide)) okn)))
    · exact (((((s07.trans s8).trans (Same.new h1)).trans ((Same.new h2).trans (Same.new h3))).trans ((Same.new h4).trans (Same.new h5))).trans ((Same.new h6).trans (Same.new h7))).trans ((Same.new h8).trans (Same.new h9))
end
end K15

set_option Elab.async false
set_option linter.all false
set_option maxRecDepth 100000
set_option maxHeartbeats 4000000
namespace K15
open PySem L2 Gx K11 K14
section
variable {P : Program} {w : World} {K : PySem.W.Frag} {mg : Str → Option Value} {base : Heap} {t : Adr}
theorem sc_l_odd : FnScope ["_law_cell_here", "_law_some"] ["_law_cell_here"] (defScope s_l_odd) := ⟨rfl, rfl, rfl, by decide +kernel, rfl, by decide +kernel, by decide +kernel⟩
theorem ok_l_odd (T : Txt K mg t) : FnOk P w K mg base CX0 1 t.a_l_odd t.d_l_odd ["_law_cell_here"] (sp_l_odd K) := by
  refine T.l_odd.F.ok sc_l_odd (fun vs H Q E h => ?_) (fun cdv A outer s H vs Q E hr h => ?_)
  · obtain ⟨c, rfl, q⟩ := h
    rfl
  · obtain ⟨c, rfl, q⟩ := h
    refine ⟨_, (@pss_cons _ _ _ _ _ (@ps_set _ _ 1 _ _ _ _ sc_l_odd.nd rfl (Or.inl rfl) (@pe_litL _ _ [V.str "", V.str " ", V.str "fn", V.str "in", V.str "fn in", V.str "fn a b c d e f g h", V.str "fn 1", V.str "fn a 1", V.str "in a ", V.str "fn  a", V.str "FN a"] (by kernel_rfl)) (by rfl) (by first | exact .inl rfl | exact .inr rfl | assumption)) (@pss_cons _ _ _ _ _ (@ps_set _ _ 1 _ _ _ _ sc_l_odd.nd rfl (Or.inl rfl) (@pe_op _ _ _ _ _ _ _ _ op_cat (pv 1) (@pe_litL _ _ [V.str "a = call", V.str "a = call f b c d e f g h", V.str "a = call 1", V.str "a = call f new", V.str "put 1 2 3", V.str "put a b"] (by kernel_rfl))) (by rfl) (by first | exact .inl rfl | exact .inr rfl | assumption)) (@pss_cons _ _ _ _ _ (@ps_set _ _ 1 _ _ _ _ sc_l_odd.nd rfl (Or.inl rfl) (@pe_op _ _ _ _ _ _ _ _ op_cat (pv 1) (@pe_litL _ _ [V.str "a = 281474976710656", V.str "a = 01", V.str "a = 00", V.str "a = -1", V.str "a = b + 01", V.str "a = b ++ c", V.str "a = + b"] (by kernel_rfl))) (by rfl) (by first | exact .inl rfl | exact .inr rfl | assumption)) (@pss_cons _ _ _ _ _ (@ps_set _ _ 1 _ _ _ _ sc_l_odd.nd rfl (Or.inl rfl) (@pe_op _ _ _ _ _ _ _ _ op_cat (pv 1) (@pe_litL _ _ [V.str "a = b c", V.str "a = get b", V.str "a = get b 1", V.str "a = get b c d", V.str "a = new b", V.str "1 = a", V.str "if = a"] (by kernel_rfl))) (by rfl) (by first | exact .inl rfl | exact .inr rfl | assumption)) (@pss_cons _ _ _ _ _ (@ps_set _ _ 1 _ _ _ _ sc_l_odd.nd rfl (Or.inl rfl) (@pe_op _ _ _ _ _ _ _ _ op_cat (pv 1) (@pe_litL _ _ [V.str "else a", V.str "end 1", V.str "out", V.str "out 1 2", V.str "if a b", V.str "while", V.str "back in", V.str "a = b = = c", V.str "a=b", V.str "a ="] (by kernel_rfl))) (by rfl) (by first | exact .inl rfl | exact .inr rfl | assumption)) (@pss_cons _ _ _ _ _ (@ps_set _ _ 1 _ _ _ _ sc_l_odd.nd rfl (Or.inl rfl) (@pe_op _ _ _ _ _ _ _ _ op_cat (pv 1) (@pe_litL _ _ [V.str "a = end", V.str "a = get b if", V.str "fn a new", V.str "new", V.str "a == b", V.str "a = +5", V.str "a = 1_0", V.str "a = -0", V.str "a = b  c"] (by kernel_rfl))) (by rfl) (by first | exact .inl rfl | exact .inr rfl | assumption)) (@pss_cons _ _ _ _ _ (@ps_set _ _ 1 _ _ _ _ sc_l_odd.nd rfl (Or.inl rfl) (@pe_op _ _ _ _ _ _ _ _ op_cat (pv 1) (@pe_lst _ _ _ _ (@pa_cons _ _ _ _ _ pe_str (@pa_cons _ _ _ _ _ pe_str (@pa_cons _ _ _ _ _ pe_str pa_nil (by rfl)) (by rfl)) (by rfl)))) (by rfl) (by first | exact .inl rfl | exact .inr rfl | assumption)) (@pss_one _ _ _ (@ps_ret _ _ _ _ (@pe_ix _ _ _ _ _ _ _ ix_list (pv 1) (@pe_op _ _ _ _ _ _ _ _ op_mod (pv 0) pe_int) (fun _ _ => rfl))))))))))), ?_⟩
    refine ⟨(by show 11 ≤ sizeLine; decide), fun a0 ha0 => ?_⟩
    refine ⟨_, rfl, (by show 6 ≤ sizeLine; decide), fun b1 hb1 => ⟨a0, b1, _, _, rfl, rfl, Same.new hb1 _ _ upd_same, upd_same, (by show 11 + 6 ≤ sizeLine; decide), fun a1 ha1 => ?_⟩⟩
    refine ⟨_, rfl, (by show 7 ≤ sizeLine; decide), fun b2 hb2 => ⟨a1, b2, _, _, rfl, rfl, Same.new hb2 _ _ upd_same, upd_same, (by show 17 + 7 ≤ sizeLine; decide), fun a2 ha2 => ?_⟩⟩
    refine ⟨_, rfl, (by show 7 ≤ sizeLine; decide), fun b3 hb3 => ⟨a2, b3, _, _, rfl, rfl, Same.new hb3 _ _ upd_same, upd_same, (by show 24 + 7 ≤ sizeLine; decide), fun a3 ha3 => ?_⟩⟩
    refine ⟨_, rfl, (by show 10 ≤ sizeLine; decide), fun b4 hb4 => ⟨a3, b4, _, _, rfl, rfl, Same.new hb4 _ _ upd_same, upd_same, (by show 31 + 10 ≤ sizeLine; decide), fun a4 ha4 => ?_⟩⟩
    refine ⟨_, rfl, (by show 9 ≤ sizeLine; decide), fun b5 hb5 => ⟨a4, b5, _, _, rfl, rfl, Same.new hb5 _ _ upd_same, upd_same, (by show 41 + 9 ≤ sizeLine; decide), fun a5 ha5 => ?_⟩⟩
    refine ⟨_, rfl, (by show 3 ≤ sizeLine; decide), fun b6 hb6 => ⟨a5, b6, _, _, rfl, rfl, Same.new hb6 _ _ upd_same, upd_same, (by show 50 + 3 ≤ sizeLine; decide), fun a6 ha6 => ?_⟩⟩
    refine ⟨_, rfl, _, rfl, _, _, rfl, rfl, (show (0 : Int) < 53 by decide), odd_pick (l := a6) (SqL.of upd_same) (by decide +kernel) (by decide +kernel) fun x hx hl => q x _ hx hl ?_⟩
    exact ((((((Same.new ha0).trans ((Same.new hb1).trans (Same.new ha1))).trans ((Same.new hb2).trans (Same.new ha2))).trans ((Same.new hb3).trans (Same.new ha3))).trans ((Same.new hb4).trans (Same.new ha4))).trans ((Same.new hb5).trans (Same.new ha5))).trans ((Same.new hb6).trans (Same.new ha6))
end
end K15

set_option Elab.async false
set_option linter.all false
set_option maxRecDepth 100000
set_option maxHeartbeats 4000000
namespace K15
open PySem L2 Gx K11 K14
section
variable {P : Program} {w : World} {K : PySem.W.Frag} {mg : Str → Option Value} {base : Heap} {t : Adr}
theorem sc_l_sign : FnScope ["_law_cell_here", "_law_some"] ["_law_cell_here"] (defScope s_l_sign) := ⟨rfl, rfl, rfl, by decide +kernel, rfl, by decide +kernel, by decide +kernel⟩
theorem ok_l_sign (T : Txt K mg t) : FnOk P w K mg base CX0 1 t.a_l_sign t.d_l_sign ["_law_cell_here"] (sp_l_sign K) := by
  refine T.l_sign.F.ok sc_l_sign (fun vs H Q E h => ?_) (fun cdv A outer s H vs Q E hr h => ?_)
  · obtain ⟨c, rfl, q⟩ := h
    rfl
  · obtain ⟨c, rfl, q⟩ := h
    refine ⟨_, (@pss_cons _ _ _ _ _ (@ps_set _ _ 1 _ _ _ _ sc_l_sign.nd rfl (Or.inl rfl) pe_str (by rfl) (by first | exact .inl rfl | exact .inr rfl | assumption)) (@pss_one _ _ _ (@ps_ret _ _ _ _ (@pe_ix _ _ _ _ _ _ _ ix_str (@pe_op _ _ _ _ _ _ _ _ op_add_str (pv 1) pe_str) (@pe_op _ _ _ _ _ _ _ _ op_mod (pv 0) pe_int) (fun _ _ => rfl))))), ?_⟩
    exact ⟨_, rfl, _, _, rfl, rfl, signs_len, _, rfl, _, _, rfl, rfl, (show (0 : Int) < 94 by decide), sign_mem fun x hx hl => q x hx hl⟩
end
end K15

set_option Elab.async false
set_option linter.all false
set_option maxRecDepth 100000
set_option maxHeartbeats 4000000
namespace K15
open PySem L2 Gx K11 K14
section
variable {P : Program} {w : World} {K : PySem.W.Frag} {mg : Str → Option Value} {base : Heap} {t : Adr}
theorem sc_l_spoilt : FnScope ["_law_line", "_law_cell_here", "_law_way", "_law_spot", "_law_sign_here", "_law_words", "_law_at", "_law_many", "_law_other_here", "_law_middle"] ["_law_line", "_law_cell_here"] (defScope s_l_spoilt) := ⟨rfl, rfl, rfl, by decide +kernel, rfl, by decide +kernel, by decide +kernel⟩
theorem ok_l_spoilt (T : Txt K mg t) : FnOk P w K mg base CX0 2 t.a_l_spoilt t.d_l_spoilt ["_law_line", "_law_cell_here"] (sp_l_spoilt K) := by
  have G_l_part : FnOk P w K mg base CX0 1 t.a_l_part t.d_l_part ["_law_cell_here", "_law_j", "_law_many"] (sp_l_part K) := ok_l_part T
  have G_l_odd : FnOk P w K mg base CX0 1 t.a_l_odd t.d_l_odd ["_law_cell_here"] (sp_l_odd K) := ok_l_odd T
  have G_l_sign : FnOk P w K mg base CX0 1 t.a_l_sign t.d_l_sign ["_law_cell_here"] (sp_l_sign K) := ok_l_sign T
  have G_l_taken : FnOk P w K mg base CX0 1 t.a_l_taken t.d_l_taken [] (sp_l_taken K) := ok_l_taken T
  refine T.l_spoilt.F.ok sc_l_spoilt (fun vs H Q E h => ?_) (fun cdv A outer s H vs Q E hr h => ?_)
  · obtain ⟨x, c, rfl, hf, hl, q⟩ := h
    rfl
  · obtain ⟨x, c, rfl, hf, hl, q⟩ := h
    refine ⟨_, (@pss_cons _ _ _ _ _ (@ps_set _ _ 2 _ _ _ _ sc_l_spoilt.nd rfl (Or.inl rfl) (callD T.l_part G_l_part (hr.mono (by decide)) (@pa_cons _ _ _ _ _ (pv 1) (@pa_cons _ _ _ _ _ pe_int (@pa_cons _ _ _ _ _ pe_int pa_nil (by rfl)) (by rfl)) (by rfl))) (by rfl) (by first | exact .inl rfl | exact .inr rfl | assumption)) (@pss_cons _ _ _ _ _ (@ps_set _ _ 3 _ _ _ _ sc_l_spoilt.nd rfl (Or.inl rfl) (callD T.l_part G_l_part (hr.mono (by decide)) (@pa_cons _ _ _ _ _ (pv 1) (@pa_cons _ _ _ _ _ pe_int (@pa_cons _ _ _ _ _ (@pe_op _ _ _ _ _ _ _ _ op_add (pe_callB call_len_str (by rfl) T.b_len bt_len (@pa_cons _ _ _ _ _ (pv 0) pa_nil (by rfl))) pe_int) pa_nil (by rfl)) (by rfl)) (by rfl))) (by rfl) (by first | exact .inl rfl | exact .inr rfl | assumption)) (@pss_cons _ _ _ _ _ (@ps_set _ _ 4 _ _ _ _ sc_l_spoilt.nd rfl (Or.inl rfl) (@pe_ix _ _ _ _ _ _ _ ix_list (@pe_lst _ _ _ _ (@pa_cons _ _ _ _ _ (callD T.l_sign G_l_sign (hr.mono (by decide)) (@pa_cons _ _ _ _ _ (callD T.l_part G_l_part (hr.mono (by decide)) (@pa_cons _ _ _ _ _ (pv 1) (@pa_cons _ _ _ _ _ pe_int (@pa_cons _ _ _ _ _ pe_int pa_nil (by rfl)) (by rfl)) (by rfl))) pa_nil (by rfl))) (@pa_cons _ _ _ _ _ pe_str (@pa_cons _ _ _ _ _ pe_str pa_nil (by rfl)) (by rfl)) (by rfl))) (@pe_op _ _ _ _ _ _ _ _ op_mod (pv 2) pe_int) (fun _ _ => rfl)) (by rfl) (by first | exact .inl rfl | exact .inr rfl | assumption)) (@pss_cons _ _ _ _ _ (@ps_if _ _ _ _ _ _ _ _ (@pt_cmpR _ _ _ _ _ _ _ _ op_lt (pv 2) pe_int (nomark _)) (@pss_one _ _ _ (@ps_ret _ _ _ _ (@pe_op _ _ _ _ _ _ _ _ op_add_str (@pe_op _ _ _ _ _ _ _ _ op_add_str (@pe_slice _ _ _ _ _ _ _ _ _ _ sl_str (pv 0) po_none (po_some (pv 3))) (pv 4)) (@pe_slice _ _ _ _ _ _ _ _ _ _ sl_str (pv 0) (po_some (pv 3)) po_none)))) pss_nil) (@pss_cons _ _ _ _ _ (@ps_if _ _ _ _ _ _ _ _ (@pt_cmpR _ _ _ _ _ _ _ _ op_lt (pv 2) pe_int (nomark _)) (@pss_one _ _ _ (@ps_ret _ _ _ _ (@pe_op _ _ _ _ _ _ _ _ op_add_str (@pe_op _ _ _ _ _ _ _ _ op_add_str (@pe_slice _ _ _ _ _ _ _ _ _ _ sl_str (pv 0) po_none (po_some (pv 3))) (pv 4)) (@pe_slice _ _ _ _ _ _ _ _ _ _ sl_str (pv 0) (po_some (@pe_op _ _ _ _ _ _ _ _ op_add (pv 3) pe_int)) po_none)))) pss_nil) (@pss_cons _ _ _ _ _ (@ps_if _ _ _ _ _ _ _ _ (@pt_cmpR _ _ _ _ _ _ _ _ op_lt (pv 2) pe_int (nomark _)) (@pss_one _ _ _ (@ps_ret _ _ _ _ (callD T.l_odd G_l_odd (hr.mono (by decide)) (@pa_cons _ _ _ _ _ (callD T.l_part G_l_part (hr.mono (by decide)) (@pa_cons _ _ _ _ _ (pv 1) (@pa_cons _ _ _ _ _ pe_int (@pa_cons _ _ _ _ _ pe_int pa_nil (by rfl)) (by rfl)) (by rfl))) pa_nil (by rfl))))) pss_nil) (@pss_cons _ _ _ _ _ (@ps_set _ _ 5 _ _ _ _ sc_l_spoilt.nd rfl (Or.inl rfl) (pe_bm PySem.F.plainAttrs_str PySem.F.slot_str_split PySem.F.type_str_split mt_split (pv 0) (@pa_cons _ _ _ _ _ pe_str pa_nil (by rfl))) (by rfl) (by first | exact .inl rfl | exact .inr rfl | assumption)) (@pss_cons _ _ _ _ _ (@ps_set _ _ 6 _ _ _ _ sc_l_spoilt.nd rfl (Or.inl rfl) (callD T.l_part G_l_part (hr.mono (by decide)) (@pa_cons _ _ _ _ _ (pv 1) (@pa_cons _ _ _ _ _ pe_int (@pa_cons _ _ _ _ _ (pe_callB call_len_seq (by rfl) T.b_len bt_len (@pa_cons _ _ _ _ _ (pv 5) pa_nil (by rfl))) pa_nil (by rfl)) (by rfl)) (by rfl))) (by rfl) (by first | exact .inl rfl | exact .inr rfl | assumption)) (@pss_cons _ _ _ _ _ (@ps_if _ _ _ _ _ _ _ _ (@pt_cmpR _ _ _ _ _ _ _ _ op_eq (pv 2) pe_int (nomark _)) (@pss_cons _ _ _ _ _ (@ps_set _ _ 7 _ _ _ _ sc_l_spoilt.nd rfl (Or.inl rfl) (@pe_ix _ _ _ _ _ _ _ ix_list (@pe_lst _ _ _ _ (@pa_cons _ _ _ _ _ (@pe_op _ _ _ _ _ _ _ _ op_add (pe_callB call_len_seq (by rfl) T.b_len bt_len (@pa_cons _ _ _ _ _ (pv 5) pa_nil (by rfl))) pe_int) (@pa_cons _ _ _ _ _ pe_int (@pa_cons _ _ _ _ _ pe_int pa_nil (by rfl)) (by rfl)) (by rfl))) (pe_callB (call_min2 rfl) (by rfl) T.b_min bt_min (@pa_cons _ _ _ _ _ pe_int (@pa_cons _ _ _ _ _ (@pe_op _ _ _ _ _ _ _ _ op_add (pe_callTy call_int1 (by rfl) T.b_int bt_int (@pa_cons _ _ _ _ _ (pe_cmpR op_in_seq (@pe_ix _ _ _ _ _ _ _ ix_list (pv 5) pe_int (fun _ _ => rfl)) (@pe_lst _ _ _ _ (@pa_cons _ _ _ _ _ pe_str (@pa_cons _ _ _ _ _ pe_str pa_nil (by rfl)) (by rfl))) (by with_unfolding_all rfl)) pa_nil (by rfl))) (@pe_op _ _ _ _ _ _ _ _ op_mul pe_int (pe_callTy call_int1 (by rfl) T.b_int bt_int (@pa_cons _ _ _ _ _ (pe_cmpR (op_eqStrs hr.units) (@pe_slice _ _ _ _ _ _ _ _ _ _ sl_list (pv 5) (po_some pe_int) (po_some pe_int)) (@pe_lst _ _ _ _ (@pa_cons _ _ _ _ _ pe_str pa_nil (by rfl))) (nomark _)) pa_nil (by rfl))))) pa_nil (by rfl)) (by rfl))) (fun _ _ => rfl)) (by rfl) (by first | exact .inl rfl | exact .inr rfl | assumption)) (@pss_one _ _ _ (@ps_ret _ _ _ _ (pe_bm PySem.F.plainAttrs_str PySem.F.slot_str_join PySem.F.type_str_join mt_join pe_str (@pa_cons _ _ _ _ _ (@pe_op _ _ _ _ _ _ _ _ op_cat (pv 5) (@pe_op _ _ _ _ _ _ _ _ op_rep (@pe_slice _ _ _ _ _ _ _ _ _ _ sl_list (pv 5) (po_some (pe_un un_neg pe_int)) po_none) (pe_callB (call_max2 rfl) (by rfl) T.b_max bt_max (@pa_cons _ _ _ _ _ pe_int (@pa_cons _ _ _ _ _ (@pe_op _ _ _ _ _ _ _ _ op_sub (pv 7) (pe_callB call_len_seq (by rfl) T.b_len bt_len (@pa_cons _ _ _ _ _ (pv 5) pa_nil (by rfl)))) pa_nil (by rfl)) (by rfl))))) pa_nil (by rfl)))))) pss_nil) (@pss_cons _ _ _ _ _ (@ps_set _ _ 8 _ _ _ _ sc_l_spoilt.nd rfl (Or.inl rfl) (@pe_ix _ _ _ _ _ _ _ ix_list (@pe_op _ _ _ _ _ _ _ _ op_cat (callD0 T.l_taken G_l_taken (hr.mono (by decide))) (@pe_litL _ _ [V.str "a", V.str "7", V.str "=", V.str "+", V.str "281474976710655"] (by kernel_rfl))) (callD T.l_part G_l_part (hr.mono (by decide)) (@pa_cons _ _ _ _ _ (pv 1) (@pa_cons _ _ _ _ _ pe_int (@pa_cons _ _ _ _ _ pe_int pa_nil (by rfl)) (by rfl)) (by rfl))) (fun _ _ => rfl)) (by rfl) (by first | exact .inl rfl | exact .inr rfl | assumption)) (@pss_cons _ _ _ _ _ (@ps_set _ _ 9 _ _ _ _ sc_l_spoilt.nd rfl (Or.inl rfl) (@pe_ix _ _ _ _ _ _ _ ix_list (@pe_lst _ _ _ _ (@pa_cons _ _ _ _ _ (@pe_lst _ _ _ _ pa_nil) (@pa_cons _ _ _ _ _ (@pe_op _ _ _ _ _ _ _ _ op_rep (@pe_slice _ _ _ _ _ _ _ _ _ _ sl_list (pv 5) (po_some (pv 6)) (po_some (@pe_op _ _ _ _ _ _ _ _ op_add (pv 6) pe_int))) pe_int) (@pa_cons _ _ _ _ _ (@pe_lst _ _ _ _ (@pa_cons _ _ _ _ _ (pv 8) pa_nil (by rfl))) (@pa_cons _ _ _ _ _ (@pe_lst _ _ _ _ (@pa_cons _ _ _ _ _ pe_str pa_nil (by rfl))) pa_nil (by rfl)) (by rfl)) (by rfl)) (by rfl))) (@pe_op _ _ _ _ _ _ _ _ op_sub (pv 2) pe_int) (fun _ _ => rfl)) (by rfl) (by first | exact .inl rfl | exact .inr rfl | assumption)) (@pss_one _ _ _ (@ps_ret _ _ _ _ (pe_bm PySem.F.plainAttrs_str PySem.F.slot_str_join PySem.F.type_str_join mt_join pe_str (@pa_cons _ _ _ _ _ (@pe_op _ _ _ _ _ _ _ _ op_cat (@pe_op _ _ _ _ _ _ _ _ op_cat (@pe_slice _ _ _ _ _ _ _ _ _ _ sl_list (pv 5) po_none (po_some (pv 6))) (pv 9)) (@pe_slice _ _ _ _ _ _ _ _ _ _ sl_list (pv 5) (po_some (@pe_op _ _ _ _ _ _ _ _ op_add (pv 6) pe_int)) po_none)) pa_nil (by rfl)))))))))))))))), ?_⟩
    have hx : Tx 400 x := ⟨hf, hl⟩
    have xl : x.length ≤ sizeLine := lt_line (by omega)
    refine ⟨_, rfl, c, 0, 12, rfl, by decide, by decide, fun wy H1 w0 w1 s1 => ?_⟩
    refine ⟨_, rfl, _, rfl, _, rfl, xl, _, _, rfl, rfl, c, 1, (x.length : Int) + 1, rfl, by decide, (by omega), fun sp H2 p0 p1 s2 => ?_⟩
    refine ⟨_, rfl, c, 2, 94, rfl, by decide, by decide, fun z H3 z0 z1 s3 => ⟨z, rfl, fun sg fs ls => ⟨le3, fun l1 h1 => ⟨_, rfl, _, _, rfl, rfl, (show (0 : Int) < 3 by decide), ?_⟩⟩⟩⟩
    refine pick_ok (n := 2) (SqL.of upd_same) (Int.emod_nonneg _ (by decide)) (Int.emod_lt_of_pos _ (by decide)) (okc ⟨sg, rfl, fs, ls⟩ (okc (Tx.v (show Tx 0 (PySem.Str.ofString "") by decide +kernel) (by decide)) (okc (Tx.v (show Tx 1 (PySem.Str.ofString " ") by decide +kernel) (by decide)) okn))) fun sg2 hsg => ?_
    have s04 := ((s1.trans s2).trans s3).trans (Same.new (o := .lst [.str sg, .str (PySem.Str.ofString ""), .str (PySem.Str.ofString " ")]) h1)
    generalize upd H3 l1 _ = H4 at s04 ⊢
    have t1 := slice_to hx p0
    have t2 := slice_from hx p0
    have t3 := slice_from hx (show 0 ≤ sp + 1 by omega)
    refine ⟨_, rfl, _, _, rfl, rfl, _, rfl, ?_⟩
    refine ite2 (fun c1 => ?_) (fun c1 => ?_)
    · exact ⟨_, rfl, _, rfl, _, rfl, _, rfl, xl, _, rfl, _, _, rfl, rfl, Tx.bd t1 hsg (by decide), _, rfl, _, rfl, _, rfl, _, rfl, xl, _, _, rfl, rfl, Tx.bd (Tx.cat t1 hsg) t2 (by decide), q _ _ (Tx.cat (Tx.cat t1 hsg) t2).1 (Nat.le_trans (Tx.cat (Tx.cat t1 hsg) t2).2 (by decide)) s04⟩
    refine ⟨_, rfl, _, _, rfl, rfl, _, rfl, ?_⟩
    refine ite2 (fun c2 => ?_) (fun c2 => ?_)
    · exact ⟨_, rfl, _, rfl, _, rfl, _, rfl, xl, _, rfl, _, _, rfl, rfl, Tx.bd t1 hsg (by decide), _, rfl, _, rfl, _, _, rfl, rfl, _, rfl, _, rfl, xl, _, _, rfl, rfl, Tx.bd (Tx.cat t1 hsg) t3 (by decide), q _ _ (Tx.cat (Tx.cat t1 hsg) t3).1 (Nat.le_trans (Tx.cat (Tx.cat t1 hsg) t3).2 (by decide)) s04⟩
    refine ⟨_, rfl, _, _, rfl, rfl, _, rfl, ?_⟩
    refine ite2 (fun c3 => ?_) (fun c3 => ?_)
    · exact ⟨_, rfl, c, 3, 53, rfl, by decide, by decide, fun z H5 z0 z1 s5 => ⟨z, rfl, fun y H6 fy ly s6 => q _ _ fy (Nat.le_trans ly (by decide)) ((s04.trans s5).trans s6)⟩⟩
    have c3' := dec_false c3
    refine ⟨_, rfl, rfl, _, _, rfl, rfl, (by decide +kernel), lt_line (by omega), fun w hw => ?_⟩
    rw [show Txt.split x (PySem.Str.ofString " ") = wds x from rfl]
    have hwt : ∀ y ∈ wds x, Tx 400 y := fun y hy => ⟨wds_free hf y hy, Nat.le_trans (wds_le hy) hl⟩
    have hwl : (wds x).length ≤ 401 := Nat.le_trans wds_len (by omega)
    have hwn := wds_ne x
    generalize wds x = ws at hw hwt hwl hwn ⊢
    obtain ⟨w0', wt, ews⟩ := List.exists_cons_of_ne_nil hwn
    have wpos : 0 < ws.length := by rw [ews]; simp
    have s05 := s04.trans (Same.new (o := .lst (ws.map V.str)) hw)
    have ew := upd_same (H := H4) (a := w) (o := .lst (ws.map V.str))
    generalize upd H4 w (.lst (ws.map V.str)) = H5 at s05 ew ⊢
    refine ⟨_, rfl, _, rfl, w, _, rfl, .inl (SqL.of ew), c, 4, _, rfl, by decide, (by rw [List.length_map]; omega), fun at' H6 a0 a1 s6 => ?_⟩
    rw [List.length_map] at a1
    have s06 := s05.trans s6
    have ew6 := s6 _ _ ew
    clear ew s05 s6 s04
    refine ⟨_, rfl, rfl, _, rfl, ?_⟩
    by_cases c7 : wy = 7
    · refine iteP (decide_eq_true (by rw [c7])) ?_
      obtain ⟨ys, hcut, hys, hyl⟩ := cut_str ws (some 2) (some 3)
      refine ⟨_, rfl, w, _, rfl, .inl (SqL.of ew6), _, _, rfl, rfl, le3, fun l2 h2 => ⟨_, rfl, w, _, _, _, rfl, rfl, SqL.of (Same.new h2 _ _ ew6), (by rw [ews]; exact at0), le2, fun l3 h3 => ⟨l3, _, rfl, .inl (SqL.of upd_same), rfl, (by decide +kernel), .inr ⟨_, rfl, _, rfl, _, rfl, _, rfl, w, _, rfl, SqL.of (Same.new h3 _ _ (Same.new h2 _ _ ew6)), fun l4 h4 => ⟨le1, fun l5 h5 => ⟨l4, l5, ys, [("call" : Str)], rfl, rfl, SqL.of (by rw [← hcut]; exact Same.new h5 _ _ upd_same), SqL.of upd_same, .inr ⟨_, rfl, _, _, rfl, rfl, .inl ⟨by decide, by decide⟩, _, _, rfl, rfl, _, _, rfl, ?_⟩⟩⟩⟩⟩⟩⟩
      refine pick_int (SqL.of (Same.new h5 _ _ (Same.new h4 _ _ (Same.new h3 _ _ upd_same)))) (idx_bd _ _).1 (idx_bd _ _).2 (P := fun z => z ≤ ws.length + 10) ?_ fun z hz => ?_
      · intro v hv
        rw [List.length_map] at hv
        simp only [List.mem_cons, List.not_mem_nil, or_false] at hv
        rcases hv with rfl | rfl | rfl
        · exact ⟨_, rfl, by omega⟩
        · exact ⟨_, rfl, by omega⟩
        · exact ⟨_, rfl, by omega⟩
      have s07 := s06.trans ((((Same.new (o := .lst [.int ((ws.map V.str).length + 1), .int 9, .int 11]) h2).trans (Same.new (o := .lst [.str (PySem.Str.ofString "fn"), .str (PySem.Str.ofString "in")]) h3)).trans (Same.new (o := .lst (cutV (ws.map V.str) (some 2) (some 3))) h4)).trans (Same.new (o := .lst [.str (PySem.Str.ofString "call")]) h5))
      have ew7 := Same.new (o := .lst [.str (PySem.Str.ofString "call")]) h5 _ _ (Same.new (o := .lst (cutV (ws.map V.str) (some 2) (some 3))) h4 _ _ (Same.new (o := .lst [.str (PySem.Str.ofString "fn"), .str (PySem.Str.ofString "in")]) h3 _ _ (Same.new (o := .lst [.int ((ws.map V.str).length + 1), .int 9, .int 11]) h2 _ _ ew6)))
      generalize upd (upd (upd (upd H6 l2 _) l3 _) l4 _) l5 _ = H7 at s07 ew7 ⊢
      obtain ⟨vs, hcv, hvs, hvl⟩ := cut_str ws (some (-1)) none
      have hk : ∀ i : Int, i ≤ 10 → (if i > 1 then i else 1).toNat ≤ 10 ∧ -(2 ^ 63) ≤ (if i > 1 then i else 1) ∧ (if i > 1 then i else 1) < 2 ^ 63 := fun i hi => by split <;> omega
      have hk := hk (z - ((ws.map V.str).length : Nat)) (by rw [List.length_map]; omega)
      refine ⟨rfl, _, rfl, _, rfl, _, rfl, _, rfl, w, _, rfl, SqL.of ew7, fun l6 h6 => ⟨_, rfl, _, rfl, w, _, rfl, .inl (SqL.of (Same.new h6 _ _ ew7)), _, _, rfl, rfl, _, _, rfl, l6, _, _, rfl, rfl, upd_same, hk.2.1, hk.2.2, ?_, fun l7 h7 => ⟨w, l7, _, _, rfl, rfl, Same.new h7 _ _ (Same.new h6 _ _ ew7), upd_same, ?_, fun l8 h8 => ?_⟩⟩⟩
      · show (cutV (ws.map V.str) (some (-1)) none).length * _ ≤ sizeLine
        rw [hcv, List.length_map]
        exact Nat.le_trans (Nat.mul_le_mul (Nat.le_trans hvl hwl) hk.1) (by decide)
      · show (ws.map V.str).length + (List.replicate _ (cutV (ws.map V.str) (some (-1)) none)).flatten.length ≤ sizeLine
        have h1 : (cutV (ws.map V.str) (some (-1)) none).length ≤ 401 := by rw [hcv, List.length_map]; omega
        rw [len_rep]
        exact Nat.le_trans (Nat.add_le_add (show (ws.map V.str).length ≤ 401 by rw [List.length_map]; exact hwl) (Nat.mul_le_mul hk.1 h1)) (by decide)
      have erp : (List.replicate (if z - ((ws.map V.str).length : Nat) > 1 then z - ((ws.map V.str).length : Nat) else 1).toNat (cutV (ws.map V.str) (some (-1)) none)).flatten = ((List.replicate (if z - ((ws.map V.str).length : Nat) > 1 then z - ((ws.map V.str).length : Nat) else 1).toNat vs).flatten).map V.str := by rw [hcv, List.map_flatten, List.map_replicate]
      have hall : ∀ y ∈ ws ++ (List.replicate (if z - ((ws.map V.str).length : Nat) > 1 then z - ((ws.map V.str).length : Nat) else 1).toNat vs).flatten, Tx 400 y := fun y hy => by
        rcases List.mem_append.mp hy with hy | hy
        · exact hwt y hy
        · obtain ⟨l, hl1, hl2⟩ := List.mem_flatten.mp hy
          rw [(List.mem_replicate.mp hl1).2] at hl2
          exact hwt y (hvs y hl2)
      have hcnt : (ws ++ (List.replicate (if z - ((ws.map V.str).length : Nat) > 1 then z - ((ws.map V.str).length : Nat) else 1).toNat vs).flatten).length ≤ 5000 := by
        rw [List.length_append, len_rep]
        exact Nat.le_trans (Nat.add_le_add hwl (Nat.mul_le_mul hk.1 (Nat.le_trans hvl hwl))) (by decide)
      refine ⟨_, l8, ws ++ (List.replicate (if z - ((ws.map V.str).length : Nat) > 1 then z - ((ws.map V.str).length : Nat) else 1).toNat vs).flatten, rfl, rfl, SqL.of ?_, join_bd hall hcnt (by decide), q _ _ (join_tx hall hcnt).1 (Nat.le_trans (join_tx hall hcnt).2 (by decide)) ?_⟩
      · rw [List.map_append, ← erp]; exact upd_same
      · exact s07.trans (((Same.new h6).trans (Same.new h7)).trans (Same.new h8))
    refine iteN (fun h => c7 (V.int.inj (of_decide_eq_true h))) ?_
    refine ⟨rfl, fun l1 h1 => ⟨(by show 5 ≤ sizeLine; decide), fun l2 h2 => ⟨l1, l2, _, _, rfl, rfl, Same.new h2 _ _ upd_same, upd_same, (by show 12 + 5 ≤ sizeLine; decide), fun l3 h3 => ⟨_, rfl, c, 5, 17, rfl, by decide, by decide, fun z H7 z0 z1 s7 => ?_⟩⟩⟩⟩
    refine pick_ok (n := 400) (SqL.of (s7 _ _ upd_same)) z0 z1 (ok_all (by decide +kernel)) fun oth hoth => ?_
    have s07 := (s06.trans (((Same.new h1).trans (Same.new h2)).trans (Same.new h3))).trans s7
    have ew7 := s7 _ _ (Same.new h3 _ _ (Same.new h2 _ _ (Same.new h1 _ _ ew6)))
    clear s7
    obtain ⟨ys, hcut, hys, hyl⟩ := cut_str ws (some at') (some (at' + 1))
    have b2 : (cutV (ws.map V.str) (some at') (some (at' + 1))).length * (2 : Int).toNat ≤ sizeLine := by
      rw [hcut, List.length_map]
      exact Nat.le_trans (Nat.mul_le_mul_right _ (Nat.le_trans hyl hwl)) (by decide)
    refine ⟨le0, fun m0 hm0 => ⟨_, rfl, _, rfl, _, rfl, _, rfl, _, _, rfl, rfl, _, rfl, w, _, rfl, SqL.of (Same.new hm0 _ _ ew7), fun m1 hm1 => ⟨m1, _, _, rfl, rfl, upd_same, by decide, by decide, b2, fun m2 hm2 => ⟨_, rfl, le1, fun m3 hm3 => ⟨le1, fun m4 hm4 => ⟨le4, fun m5 hm5 => ⟨_, rfl, _, _, rfl, rfl, ?_⟩⟩⟩⟩⟩⟩⟩
    have n0 := Same.new (o := .lst []) hm0
    have n1 := Same.new (o := .lst (cutV (ws.map V.str) (some at') (some (at' + 1)))) hm1
    have n2 := Same.new (o := .lst (List.replicate (2 : Int).toNat (cutV (ws.map V.str) (some at') (some (at' + 1)))).flatten) hm2
    have n3 := Same.new (o := .lst [.str oth]) hm3
    have n4 := Same.new (o := .lst [.str (PySem.Str.ofString "7")]) hm4
    have n5 := Same.new (o := .lst [.ref m0, .ref m2, .ref m3, .ref m4]) hm5
    have e0 := n5 _ _ (n4 _ _ (n3 _ _ (n2 _ _ (n1 _ _ upd_same))))
    have e2 := n5 _ _ (n4 _ _ (n3 _ _ upd_same))
    have e3 := n5 _ _ (n4 _ _ upd_same)
    have e4 := n5 _ _ upd_same
    have e5 := upd_same (H := upd (upd (upd (upd (upd H7 m0 (.lst [])) m1 (.lst (cutV (ws.map V.str) (some at') (some (at' + 1))))) m2 (.lst (List.replicate (2 : Int).toNat (cutV (ws.map V.str) (some at') (some (at' + 1)))).flatten)) m3 (.lst [.str oth])) m4 (.lst [.str (PySem.Str.ofString "7")])) (a := m5) (o := .lst [.ref m0, .ref m2, .ref m3, .ref m4])
    have sG := ((((n0.trans n1).trans n2).trans n3).trans n4).trans n5
    clear n0 n1 n2 n3 n4 n5
    generalize upd (upd (upd (upd (upd (upd H7 m0 _) m1 _) m2 _) m3 _) m4 _) m5 _ = H8 at sG e0 e2 e3 e4 e5 ⊢
    obtain ⟨v, hv, hm⟩ := atI_some (xs := [V.ref m0, V.ref m2, V.ref m3, V.ref m4]) (i := wy - 8) (by omega) (by show wy - 8 < 4; omega)
    obtain ⟨m, zs, rfl, em, hzs, hzl⟩ : ∃ (m : Addr) (zs : List Str), v = .ref m ∧ H8 m = some (.lst (zs.map V.str)) ∧ (∀ y ∈ zs, Tx 400 y) ∧ zs.length ≤ 802 := by
      simp only [List.mem_cons, List.not_mem_nil, or_false] at hm
      rcases hm with rfl | rfl | rfl | rfl
      · exact ⟨m0, [], rfl, e0, (fun y hy => by cases hy), by decide⟩
      · refine ⟨m2, (List.replicate 2 ys).flatten, rfl, by rw [e2, hcut, List.map_flatten, List.map_replicate]; rfl, fun y hy => ?_, by rw [len_rep]; omega⟩
        obtain ⟨l, hl1, hl2⟩ := List.mem_flatten.mp hy
        rw [(List.mem_replicate.mp hl1).2] at hl2
        exact hwt y (hys y hl2)
      · exact ⟨m3, [oth], rfl, e3, (fun y hy => by rw [List.mem_singleton.mp hy]; exact hoth), (by show 1 ≤ 802; decide)⟩
      · exact ⟨m4, ["7"], rfl, e4, (fun y hy => by rw [List.mem_singleton.mp hy]; decide +kernel), by decide⟩
    refine ⟨m5, _, _, _, rfl, rfl, SqL.of e5, hv, ?_⟩
    obtain ⟨us, hca, hus, hul⟩ := cut_str ws none (some at')
    obtain ⟨bs, hcb, hbs, hbl⟩ := cut_str ws (some (at' + 1)) none
    have ew8 := sG _ _ ew7
    refine ⟨rfl, _, rfl, _, rfl, _, rfl, w, _, rfl, SqL.of ew8, fun n1 hn1 => ⟨_, rfl, n1, m, _, _, rfl, rfl, upd_same, Same.new hn1 _ _ em, ?_, fun n2 hn2 => ⟨_, rfl, _, rfl, _, _, rfl, rfl, _, rfl, w, _, rfl, SqL.of (Same.new hn2 _ _ (Same.new hn1 _ _ ew8)), fun n3 hn3 => ⟨n2, n3, _, _, rfl, rfl, Same.new hn3 _ _ upd_same, upd_same, ?_, fun n4 hn4 => ?_⟩⟩⟩⟩
    · rw [hca]; simp only [List.length_map]; exact lt_line (by omega)
    · rw [hca]
      show _ + (cutV (ws.map V.str) (some (at' + 1)) none).length ≤ sizeLine
      rw [hcb]
      simp only [List.length_append, List.length_map]
      exact lt_line (by omega)
    have hall : ∀ y ∈ (us ++ zs) ++ bs, Tx 400 y := fun y hy => by
      rcases List.mem_append.mp hy with hy | hy
      · rcases List.mem_append.mp hy with hy | hy
        · exact hwt y (hus y hy)
        · exact hzs y hy
      · exact hwt y (hbs y hy)
    have hcnt : ((us ++ zs) ++ bs).length ≤ 1604 := by
      rw [List.length_append, List.length_append]
      omega
    refine ⟨_, n4, (us ++ zs) ++ bs, rfl, rfl, SqL.of ?_, join_bd hall hcnt (by decide), q _ _ (join_tx hall hcnt).1 (Nat.le_trans (join_tx hall hcnt).2 (by decide)) ?_⟩
    · rw [List.map_append, List.map_append, ← hca, ← hcb]; exact upd_same
    · exact (s07.trans sG).trans (((Same.new hn1).trans (Same.new hn2)).trans ((Same.new hn3).trans (Same.new hn4)))
end
end K15

set_option Elab.async false
set_option linter.all false
set_option maxRecDepth 100000
set_option maxHeartbeats 4000000
namespace K15
open PySem L2 Gx K11 K14
section
variable {P : Program} {w : World} {K : PySem.W.Frag} {mg : Str → Option Value} {base : Heap} {t : Adr}
theorem sc_law : FnScope ["_law_script", "_law_cell_here", "_law_many", "_law_base", "_law_lines", "_law_k", "_law_spot", "_law_at"] ["_law_script"] (defScope s_law) := ⟨rfl, rfl, rfl, by decide +kernel, rfl, by decide +kernel, by decide +kernel⟩
theorem ok_law (T : Txt K mg t) : FnOk P w K mg base CX0 10 t.a_law t.d_law ["_law_script"] (sp_law K) := by
  have G_l_cell : FnOk P w K mg base CX0 1 t.a_l_cell t.d_l_cell ["_law_script", "_law_k"] (sp_l_cell K) := ok_l_cell T
  have G_l_right : FnOk P w K mg base CX0 9 t.a_l_right t.d_l_right ["_law_lines"] (sp_l_right K t) := ok_l_right T
  have G_l_part : FnOk P w K mg base CX0 1 t.a_l_part t.d_l_part ["_law_cell_here", "_law_j", "_law_many"] (sp_l_part K) := ok_l_part T
  have G_l_good : FnOk P w K mg base CX0 4 t.a_l_good t.d_l_good ["_law_base", "_law_cell_here", "_law_least"] (sp_l_good K) := ok_l_good T
  have G_l_due : FnOk P w K mg base CX0 5 t.a_l_due t.d_l_due ["_law_lines"] (sp_l_due K) := ok_l_due T
  have G_l_name : FnOk P w K mg base CX0 2 t.a_l_name t.d_l_name ["_law_base", "_law_cell_here"] (sp_l_name K) := ok_l_name T
  have G_l_spoilt : FnOk P w K mg base CX0 2 t.a_l_spoilt t.d_l_spoilt ["_law_line", "_law_cell_here"] (sp_l_spoilt K) := ok_l_spoilt T
  refine T.law.F.ok sc_law (fun vs H Q E h => ?_) (fun cdv A outer s H vs Q E hr h => ?_)
  · obtain ⟨a, ns, rfl, ha, hn, q⟩ := h
    rfl
  · obtain ⟨a, ns, rfl, ha, hn, q⟩ := h
    refine ⟨_, (@pss_cons _ _ _ _ _ (@ps_set _ _ 1 _ _ _ _ sc_law.nd rfl (Or.inl rfl) (callD T.l_cell G_l_cell (hr.mono (by decide)) (@pa_cons _ _ _ _ _ (pv 0) (@pa_cons _ _ _ _ _ pe_int pa_nil (by rfl)) (by rfl))) (by rfl) (by first | exact .inl rfl | exact .inr rfl | assumption)) (@pss_cons _ _ _ _ _ (@ps_set _ _ 2 _ _ _ _ sc_law.nd rfl (Or.inl rfl) (@pe_op _ _ _ _ _ _ _ _ op_add pe_int (@pe_op _ _ _ _ _ _ _ _ op_mod (pv 1) pe_int)) (by rfl) (by first | exact .inl rfl | exact .inr rfl | assumption)) (@pss_cut _ _ _ _ _ (@ps_if _ _ _ _ _ _ _ _ (@pt_cmpR _ _ _ _ _ _ _ _ op_eq (callD T.l_part G_l_part (hr.mono (by decide)) (@pa_cons _ _ _ _ _ (pv 1) (@pa_cons _ _ _ _ _ pe_int (@pa_cons _ _ _ _ _ pe_int pa_nil (by rfl)) (by rfl)) (by rfl))) pe_int (nomark _)) (@pss_one _ _ _ (@ps_set _ _ 2 _ _ _ _ sc_law.nd rfl (Or.inl rfl) pe_int (by rfl) (by first | exact .inl rfl | exact .inr rfl | assumption))) pss_nil) (@pss_cons _ _ _ _ _ (@ps_set _ _ 3 _ _ _ _ sc_law.nd rfl (Or.inr rfl) (callD T.l_cell G_l_cell (hr.mono (by decide)) (@pa_cons _ _ _ _ _ (pv 0) (@pa_cons _ _ _ _ _ pe_int pa_nil (by rfl)) (by rfl))) (by rfl) (by first | exact .inl rfl | exact .inr rfl | assumption)) (@pss_cons _ _ _ _ _ (ps_setc (i := 4) sc_law.nd rfl (Or.inl rfl) (N' := ["_law_k", "_law_base", "_law_script"]) (js := [none, some 3, some 0]) (by kernel_rfl) rfl (pi_range1 rfl T.b_range (@pa_cons _ _ _ _ _ (pv 2) pa_nil (by rfl))) own_name (fun _ _ _ _ => (pg_name (i := 0) (show (["_law_k", "_law_base", "_law_script"] : List Str).Nodup by decide +kernel) rfl (Or.inl rfl) (.inr rfl))) (fun _ _ _ _ => pif_nil) (fun _ _ _ _ => (callD T.l_good G_l_good (hr.mono (by decide)) (@pa_cons _ _ _ _ _ (pv 1) (@pa_cons _ _ _ _ _ (callD T.l_cell G_l_cell (hr.mono (by decide)) (@pa_cons _ _ _ _ _ (pv 2) (@pa_cons _ _ _ _ _ (@pe_op _ _ _ _ _ _ _ _ op_add pe_int (pv 0)) pa_nil (by rfl)) (by rfl))) (@pa_cons _ _ _ _ _ (@pe_op _ _ _ _ _ _ _ _ op_mul pe_int (pe_callTy call_int1 (by rfl) T.b_int bt_int (@pa_cons _ _ _ _ _ (pe_cmpR op_gt (pv 0) pe_int (nomark _)) pa_nil (by rfl)))) pa_nil (by rfl)) (by rfl)) (by rfl)))) (by rfl)) (@pss_cut _ _ _ _ _ (@ps_if _ _ _ _ _ _ _ _ (@pt_cmpR _ _ _ _ _ _ _ _ op_ne (callD T.l_part G_l_part (hr.mono (by decide)) (@pa_cons _ _ _ _ _ (pv 1) (@pa_cons _ _ _ _ _ pe_int (@pa_cons _ _ _ _ _ pe_int pa_nil (by rfl)) (by rfl)) (by rfl))) pe_int (nomark _)) (@pss_one _ _ _ (ps_asg (@pe_op _ _ _ _ _ _ _ _ op_add_str pe_str (callD T.l_name G_l_name (hr.mono (by decide)) (@pa_cons _ _ _ _ _ (pv 3) (@pa_cons _ _ _ _ _ (pv 1) pa_nil (by rfl)) (by rfl)))) (pg_sub (pv 4) pe_int set_list))) pss_nil) (@pss_cons _ _ _ _ _ (ps_for PassesOwn.never rfl (pi_range1 rfl T.b_range (@pa_cons _ _ _ _ _ (@pe_ix _ _ _ _ _ _ _ ix_list (@pe_litL _ _ [V.int 0, V.int 1, V.int 1, V.int 2] (by kernel_rfl)) (callD T.l_part G_l_part (hr.mono (by decide)) (@pa_cons _ _ _ _ _ (pv 1) (@pa_cons _ _ _ _ _ pe_int (@pa_cons _ _ _ _ _ pe_int pa_nil (by rfl)) (by rfl)) (by rfl))) (fun _ _ => rfl)) pa_nil (by rfl))) (pg_name (i := 5) sc_law.nd rfl (Or.inl rfl)) (@pss_cons _ _ _ _ _ (@ps_set _ _ 6 _ _ _ _ sc_law.nd rfl (Or.inl rfl) (@pe_op _ _ _ _ _ _ _ _ op_mod (callD T.l_cell G_l_cell (hr.mono (by decide)) (@pa_cons _ _ _ _ _ (pv 0) (@pa_cons _ _ _ _ _ (@pe_op _ _ _ _ _ _ _ _ op_add pe_int (@pe_op _ _ _ _ _ _ _ _ op_mul pe_int (pv 5))) pa_nil (by rfl)) (by rfl))) (pv 2)) (by rfl) (by first | exact .inl rfl | exact .inr rfl | assumption)) (@pss_one _ _ _ (ps_asg (@pe_slice _ _ _ _ _ _ _ _ _ _ sl_str (callD T.l_spoilt G_l_spoilt (hr.mono (by decide)) (@pa_cons _ _ _ _ _ (@pe_ix _ _ _ _ _ _ _ ix_list (pv 4) (pv 6) (fun _ _ => rfl)) (@pa_cons _ _ _ _ _ (callD T.l_cell G_l_cell (hr.mono (by decide)) (@pa_cons _ _ _ _ _ (pv 0) (@pa_cons _ _ _ _ _ (@pe_op _ _ _ _ _ _ _ _ op_add pe_int (@pe_op _ _ _ _ _ _ _ _ op_mul pe_int (pv 5))) pa_nil (by rfl)) (by rfl))) pa_nil (by rfl)) (by rfl))) po_none (po_some pe_int)) (pg_sub (pv 4) (pv 6) set_list))))) (@pss_cut _ _ _ _ _ (@ps_if _ _ _ _ _ _ _ _ (@pt_cmpR _ _ _ _ _ _ _ _ op_eq (callD T.l_part G_l_part (hr.mono (by decide)) (@pa_cons _ _ _ _ _ (pv 1) (@pa_cons _ _ _ _ _ pe_int (@pa_cons _ _ _ _ _ pe_int pa_nil (by rfl)) (by rfl)) (by rfl))) pe_int (nomark _)) (@pss_one _ _ _ (@ps_expr _ _ _ _ (pe_bm PySem.F.plainAttrs_list PySem.F.slot_list_append PySem.F.type_list_append mt_append (pv 4) (@pa_cons _ _ _ _ _ pe_str pa_nil (by rfl))) (by rfl))) pss_nil) (@pss_cut _ _ _ _ _ (@ps_if _ _ _ _ _ _ _ _ (@pt_cmpR _ _ _ _ _ _ _ _ op_eq (callD T.l_part G_l_part (hr.mono (by decide)) (@pa_cons _ _ _ _ _ (pv 1) (@pa_cons _ _ _ _ _ pe_int (@pa_cons _ _ _ _ _ pe_int pa_nil (by rfl)) (by rfl)) (by rfl))) pe_int (nomark _)) (@pss_one _ _ _ (@ps_set _ _ 4 _ _ _ _ sc_law.nd rfl (Or.inl rfl) (@pe_lst _ _ _ _ (@pa_cons _ _ _ _ _ pe_str pa_nil (by rfl))) (by rfl) (by first | exact .inl rfl | exact .inr rfl | assumption))) pss_nil) (@pss_cons _ _ _ _ _ (@ps_if _ _ _ _ _ _ _ _ (pt_not (pt_val (callD T.l_right G_l_right (hr.mono (by decide)) (@pa_cons _ _ _ _ _ (pv 4) pa_nil (by rfl))))) (@pss_one _ _ _ (@ps_ret _ _ _ _ pe_bl)) pss_nil) (@pss_cons _ _ _ _ _ (@ps_set _ _ 7 _ _ _ _ sc_law.nd rfl (Or.inl rfl) (@pe_ix _ _ _ _ _ _ _ ix_list (callD T.l_due G_l_due (hr.mono (by decide)) (@pa_cons _ _ _ _ _ (pv 4) pa_nil (by rfl))) pe_int (fun _ _ => rfl)) (by rfl) (by first | exact .inl rfl | exact .inr rfl | assumption)) (@pss_cons _ _ _ _ _ (@ps_if _ _ _ _ _ _ _ _ (@PW.pt _ _ _ (@pw_and _ _ _ _ _ _ _ (pt_cmp (pc_notN (pv 7))) (@pw_and _ _ _ _ _ _ _ (@pt_cmpR _ _ _ _ _ _ _ _ op_gt (pv 7) pe_int (nomark _)) (@pw_and1 _ _ _ _ (pt_not (pt_val (callD T.l_right G_l_right (hr.mono (by decide)) (@pa_cons _ _ _ _ _ (@pe_slice _ _ _ _ _ _ _ _ _ _ sl_list (pv 4) po_none (po_some (pv 7))) pa_nil (by rfl))))))))) (@pss_one _ _ _ (@ps_ret _ _ _ _ pe_bl)) pss_nil) (@pss_one _ _ _ (@ps_ret _ _ _ _ (callD T.l_right G_l_right (hr.mono (by decide)) (@pa_cons _ _ _ _ _ (pv 4) pa_nil (by rfl))))))))))))))))), ?_⟩
    refine ⟨_, rfl, a, ns, 0, rfl, ha, hn, by decide, by decide, fun c => ?_⟩
    refine ⟨_, rfl, _, _, rfl, rfl, (show (0 : Int) < 8 by decide), _, _, rfl, rfl, ?_⟩
    have b8 := emod_bd c 8 (by decide)
    refine ⟨fun σ H' => Same H H' ∧ ∃ n : Nat, 1 ≤ n ∧ n ≤ 40 ∧ σ = [some (.ref a), some (.int c), some (.int n), none, none, none, none, none], ?_, ?_⟩
    · refine ⟨_, rfl, c, 0, 8, rfl, by decide, by decide, fun z H1 z0 z1 s1 => ⟨rfl, _, rfl, ?_⟩⟩
      refine ite2 (fun _ => ⟨s1, 40, by decide, by decide, rfl⟩) (fun _ => ⟨s1, (1 + c % 8).toNat, by omega, by omega, ?_⟩)
      rw [show (((1 + c % 8).toNat : Nat) : Int) = 1 + c % 8 by omega]
      rfl
    rintro σ H1 ⟨s1, n, n1, n40, rfl⟩
    have ha1 := s1.seq ha
    refine ⟨_, rfl, a, ns, 1, rfl, ha1, hn, by decide, by decide, fun b => ?_⟩
    refine ⟨_, rfl, _, rfl, by omega, by omega, fun u hu => comp_relR (lo := 0) (n := (n : Int).toNat) (fun _ _ v => OkV 400 v) (fun _ _ _ _ _ h => h) (by omega) hu ?_ ?_⟩
    · rintro i Hi R' hi si _ ri
      refine ⟨_, rfl, _, rfl, _, rfl, _, _, rfl, rfl, a, ns, _, rfl, si.seq ha1, hn, by omega, by omega, fun z => ⟨_, rfl, _, _, rfl, rfl, .inr ⟨_, rfl, _, _, rfl, rfl, .inl ⟨by decide, by decide⟩, b, z, _, rfl, ?_, fun x Hj fx lx sj => ri _ Hj sj ⟨x, rfl, fx, lx⟩⟩⟩⟩
      split
      · exact .inr rfl
      · exact .inl rfl
    intro H2 vs s2 e2 lv tv
    obtain ⟨xs, rfl, hxs⟩ := strs_of tv
    rw [List.length_map] at lv
    clear tv
    have s02 := s1.trans s2
    have hu0 : H u = none := s1.free hu
    clear s2
    refine ⟨fun σ H' => Same H H' ∧ ∃ xs : List Str, xs.length = n ∧ (∀ x ∈ xs, Tx 400 x) ∧ H' u = some (.lst (xs.map V.str)) ∧ σ = [some (.ref a), some (.int c), some (.int n), some (.int b), some (.ref u), none, none, none], ?_, ?_⟩
    · refine ⟨_, rfl, c, 1, 8, rfl, by decide, by decide, fun z H3 z0 z1 s3 => ⟨rfl, _, rfl, ?_⟩⟩
      refine ite2 (fun _ => ?_) (fun _ => ⟨s02.trans s3, xs, by omega, hxs, s3 _ _ e2, rfl⟩)
      refine ⟨_, rfl, _, rfl, b, c, rfl, fun y H4 fy ly s4 => ⟨_, _, rfl, rfl, Tx.bd (show Tx 3 (PySem.Str.ofString "fn ") by decide +kernel) (⟨fy, ly⟩ : Tx 20 y) (by decide), _, rfl, u, _, _, _, rfl, rfl, s4 _ _ (s3 _ _ e2), ixI (i := 0) (by decide) (by rw [List.length_map]; omega), ?_⟩⟩
      refine ⟨((s02.trans s3).trans s4).upd hu0, xs.set 0 (PySem.Str.ofString "fn " ++ y), by rw [List.length_set]; omega, fun x hx => ?_, ?_, rfl⟩
      · rcases List.mem_or_eq_of_mem_set hx with hx | rfl
        · exact hxs x hx
        · exact (Tx.cat (show Tx 3 (PySem.Str.ofString "fn ") by decide +kernel) (⟨fy, ly⟩ : Tx 20 y)).le (by decide)
      · rw [List.map_set]; exact upd_same
    clear s02 e2 hxs lv xs
    rintro σ H2 ⟨s2, xs, lv, hxs, e2, rfl⟩
    refine ⟨le4, fun l4 h4 => ⟨_, rfl, c, 2, 4, rfl, by decide, by decide, fun z H3 z0 z1 s3 => pick_int (SqL.of (s3 _ _ upd_same)) z0 z1 (P := fun z => 0 ≤ z ∧ z ≤ 2) ?_ fun m hm => ?_⟩⟩
    · intro v hv
      simp only [List.mem_cons, List.not_mem_nil, or_false] at hv
      rcases hv with rfl | rfl | rfl | rfl <;> exact ⟨_, rfl, by decide, by decide⟩
    have s03 := (s2.trans (Same.new h4)).trans s3
    have e3 := s3 _ _ (Same.new h4 _ _ e2)
    refine ⟨_, rfl, by omega, by omega, for_range (lo := 0) (n := m.toNat) (fun i σ H' => Same H H' ∧ ∃ xs : List Str, xs.length = n ∧ (∀ x ∈ xs, Tx 400 x) ∧ H' u = some (.lst (xs.map V.str)) ∧ ∃ v5 v6, σ = [some (.ref a), some (.int c), some (.int n), some (.int b), some (.ref u), v5, v6, none]) ⟨s03, xs, lv, hxs, e3, _, _, rfl⟩ ?_ ?_⟩
    · clear s03 e3 hxs lv xs e2 s2
      rintro i σ H4 hi ⟨s4, xs, lv, hxs, e4, v5, v6, rfl⟩
      have ha4 := s4.seq ha
      refine ⟨_, rfl, _, rfl, _, _, rfl, rfl, .inl ⟨by decide, by decide⟩, _, _, rfl, rfl, a, ns, _, rfl, ha4, hn, by omega, by omega, fun y => ⟨_, rfl, _, _, rfl, rfl, (show (0 : Int) < n by omega), ?_⟩⟩
      have by' := emod_bd y (n : Int) (by omega)
      refine ⟨_, rfl, _, rfl, pick_ok (n := 400) (SqL.of e4) by'.1 (by rw [List.length_map, lv]; exact by'.2) (okm hxs) fun x hx => ⟨_, rfl, _, rfl, _, _, rfl, rfl, .inl ⟨by decide, by decide⟩, _, _, rfl, rfl, a, ns, _, rfl, ha4, hn, by omega, by omega, fun y2 => ⟨x, y2, rfl, hx.1, hx.2, fun w H5 fw lw s5 => ?_⟩⟩⟩
      refine ⟨_, rfl, _, rfl, Nat.le_trans lw (by decide), _, rfl, _, rfl, u, _, _, _, rfl, rfl, s5 _ _ e4, ixI by'.1 (by rw [List.length_map, lv]; exact by'.2), ?_⟩
      refine ⟨(s4.trans s5).upd hu0, xs.set (y % (n : Int)).toNat (Txt.slice w none (some 140)), by rw [List.length_set]; exact lv, fun x hx => ?_, ?_, _, _, rfl⟩
      · rcases List.mem_or_eq_of_mem_set hx with hx | rfl
        · exact hxs x hx
        · exact (slice_140 fw).le (by decide)
      · rw [List.map_set]; exact upd_same
    clear s03 e3 hxs lv xs e2 s2
    rintro σ H4 ⟨s4, xs, lv, hxs, e4, v5, v6, rfl⟩
    refine ⟨fun σ H' => Same H H' ∧ ∃ xs : List Str, 1 ≤ xs.length ∧ xs.length ≤ 41 ∧ (∀ x ∈ xs, Tx 400 x) ∧ H' u = some (.lst (xs.map V.str)) ∧ ∃ v5 v6, σ = [some (.ref a), some (.int c), some (.int n), some (.int b), some (.ref u), v5, v6, none], ?_, ?_⟩
    · refine ⟨_, rfl, c, 3, 8, rfl, by decide, by decide, fun z H5 z0 z1 s5 => ⟨rfl, _, rfl, ?_⟩⟩
      refine ite2 (fun _ => ?_) (fun _ => ⟨s4.trans s5, xs, by omega, by omega, hxs, s5 _ _ e4, _, _, rfl⟩)
      refine ⟨_, rfl, .inl ⟨rfl, _, SqL.of (s5 _ _ e4)⟩, u, _, _, rfl, rfl, s5 _ _ e4, lt_of_le (by rw [List.length_map]; omega), (s4.trans s5).upd hu0, xs ++ [("" : Str)], by simp, by rw [List.length_append]; show xs.length + 1 ≤ 41; omega, fun x hx => ?_, ?_, _, _, rfl⟩
      · rcases List.mem_append.mp hx with hx | hx
        · exact hxs x hx
        · rw [List.mem_singleton.mp hx]; decide +kernel
      · rw [List.map_append]; exact upd_same
    clear hxs lv xs e4 s4
    rintro σ H4 ⟨s4, xs, lv, lv2, hxs, e4, v5, v6, rfl⟩
    refine ⟨fun σ H' => Same H H' ∧ ∃ (u : Addr) (xs : List Str), LnOk xs ∧ H' u = some (.lst (xs.map V.str)) ∧ ∃ v5 v6, σ = [some (.ref a), some (.int c), some (.int n), some (.int b), some (.ref u), v5, v6, none], ?_, ?_⟩
    · refine ⟨_, rfl, c, 4, 16, rfl, by decide, by decide, fun z H5 z0 z1 s5 => ⟨rfl, _, rfl, ?_⟩⟩
      refine ite2 (fun _ => ⟨le1, fun u2 hu2 => ⟨(s4.trans s5).trans (Same.new hu2), u2, [("" : Str)], ⟨by simp, by decide, fun x hx => ?_⟩, upd_same, _, _, rfl⟩⟩) (fun _ => ⟨s4.trans s5, u, xs, ⟨?_, by omega, fun x hx => ⟨(hxs x hx).1, Nat.le_trans (hxs x hx).2 (by decide)⟩⟩, s5 _ _ e4, _, _, rfl⟩)
      · rw [List.mem_singleton.mp hx]; exact ⟨by decide +kernel, by decide +kernel⟩
      · intro z; rw [z] at lv; simp at lv
    clear hxs lv lv2 xs e4 s4 v5 v6 hu0 hu
    clear u
    rintro σ H4 ⟨s4, u, xs, hok, e4, v5, v6, rfl⟩
    refine ⟨_, rfl, u, xs, rfl, SqL.of e4, hok, fun H5 s5 => ⟨_, rfl, iteN (by decide) ?_⟩⟩
    have e5 := s5 _ _ e4
    refine ⟨_, rfl, u, xs, rfl, SqL.of e5, hok, fun hOk l p H6 s6 el hp => ?_, fun i hb hOk l H6 s6 el => ?_⟩
    · refine ⟨l, _, _, _, rfl, rfl, SqL.of el, rfl, ?_⟩
      exact ⟨_, rfl, _, rfl, iteN (by simp) (iteN (by simp) ⟨_, rfl, u, xs, rfl, SqL.of (s6 _ _ e5), hok, fun H7 s7 => q H7⟩)⟩
    · refine ⟨l, _, _, _, rfl, rfl, SqL.of el, rfl, ?_⟩
      have e6 := s6 _ _ e5
      refine ⟨_, rfl, _, rfl, iteP (by simp) ⟨_, rfl, _, _, rfl, rfl, _, rfl, ?_⟩⟩
      by_cases hi : 0 < i
      · refine iteP (decide_eq_true (by omega)) ⟨_, rfl, _, rfl, _, rfl, u, _, rfl, SqL.of e6, fun l2 h2 => ?_⟩
        rw [show cutV (xs.map V.str) none (some (i : Int)) = (xs.take i).map V.str from (cut_to _ i).trans (List.map_take).symm] at *
        have hok2 : LnOk (xs.take i) := ⟨fun z => by
          rcases List.take_eq_nil_iff.mp z with z | z
          · omega
          · exact hok.ne z, by rw [List.length_take]; have := hok.len; omega, fun x hx => hok.each x (List.mem_of_mem_take hx)⟩
        refine ⟨l2, xs.take i, rfl, SqL.of upd_same, hok2, fun H7 s7 => ⟨_, rfl, iteN (by decide) ?_⟩⟩
        exact ⟨_, rfl, u, xs, rfl, SqL.of (s7 _ _ (Same.new h2 _ _ e6)), hok, fun H8 s8 => q H8⟩
      · exact iteN (fun z => hi (by have := dec_true z; omega)) (iteN (by simp) ⟨_, rfl, u, xs, rfl, SqL.of e6, hok, fun H7 s7 => q H7⟩)
end
end K15

set_option Elab.async false
set_option linter.all false
set_option maxRecDepth 100000
set_option maxHeartbeats 4000000
namespace K15
open PySem L2
set_option maxHeartbeats 4000000 in
theorem txt_mk {K : PySem.W.Frag} {h : Heap} {mg : Str → Option Value} (X : K.In h) (G : h.Ns mainGlobals mg)
    {X_GlassError NN_GlassError : Addr} {nm_GlassError qq_GlassError : Str} {bs_GlassError bm_GlassError : List Value} {sn_GlassError : List Str} {sub_GlassError : List Value} {ab_GlassError : Bool} {col_GlassError : Option Bool} {dd_GlassError : Option Addr} {k0_GlassError k1_GlassError k2_GlassError k3_GlassError k5_GlassError : Option Value}
    (xa_GlassError : PySem.W.nsIn K mainGlobals "GlassError" = some (some (.ref X_GlassError))) (xl_GlassError : K.lookup X_GlassError = some (excClassObj nm_GlassError qq_GlassError X_GlassError NN_GlassError bs_GlassError bm_GlassError true sn_GlassError sub_GlassError ab_GlassError col_GlassError dd_GlassError k0_GlassError k1_GlassError k2_GlassError k3_GlassError k5_GlassError "ValueError.__new__")) (xv_GlassError : Ex.veTail bm_GlassError = true) (xk_GlassError : PySem.W.keepIn K (.ref X_GlassError) = true) (xs_GlassError : PySem.W.findIn K (.ref X_GlassError) "__setattr__" = some (some (.builtin "object.__setattr__"))) (xg_GlassError : PySem.W.findIn K (.ref X_GlassError) "__getattribute__" = some (some (.builtin "BaseException.__getattribute__"))) (xt_GlassError : PySem.W.findIn K (.ref X_GlassError) "__getattr__" = some none) (xc_GlassError : PySem.W.findIn K (.ref X_GlassError) "__class__" = some (some (.builtin "object.__class__")))
    {X_BadRow NN_BadRow : Addr} {nm_BadRow qq_BadRow : Str} {bs_BadRow bm_BadRow : List Value} {sn_BadRow : List Str} {sub_BadRow : List Value} {ab_BadRow : Bool} {col_BadRow : Option Bool} {dd_BadRow : Option Addr} {k0_BadRow k1_BadRow k2_BadRow k3_BadRow k5_BadRow : Option Value}
    (xa_BadRow : PySem.W.nsIn K mainGlobals "BadRow" = some (some (.ref X_BadRow))) (xl_BadRow : K.lookup X_BadRow = some (excClassObj nm_BadRow qq_BadRow X_BadRow NN_BadRow bs_BadRow bm_BadRow true sn_BadRow sub_BadRow ab_BadRow col_BadRow dd_BadRow k0_BadRow k1_BadRow k2_BadRow k3_BadRow k5_BadRow "ValueError.__new__")) (xv_BadRow : Ex.veTail bm_BadRow = true) (xk_BadRow : PySem.W.keepIn K (.ref X_BadRow) = true) (xs_BadRow : PySem.W.findIn K (.ref X_BadRow) "__setattr__" = some (some (.builtin "object.__setattr__"))) (xg_BadRow : PySem.W.findIn K (.ref X_BadRow) "__getattribute__" = some (some (.builtin "BaseException.__getattribute__"))) (xt_BadRow : PySem.W.findIn K (.ref X_BadRow) "__getattr__" = some none) (xc_BadRow : PySem.W.findIn K (.ref X_BadRow) "__class__" = some (some (.builtin "object.__class__")))
    (sg0 : PySem.W.specialIn K (.builtin "object.__class__") "__get__" = some (some (.builtin "getset_descriptor.__get__"))) (tkX0 : PySem.W.takesIn K (.builtin "object.__class__") = some true)
    {X_NoFunction : Addr} (xa_NoFunction : PySem.W.nsIn K mainGlobals "NoFunction" = some (some (.ref X_NoFunction)))
    {X_TwiceNamed : Addr} (xa_TwiceNamed : PySem.W.nsIn K mainGlobals "TwiceNamed" = some (some (.ref X_TwiceNamed)))
    {X_BadNest : Addr} (xa_BadNest : PySem.W.nsIn K mainGlobals "BadNest" = some (some (.ref X_BadNest)))
    {X_BadCall : Addr} (xa_BadCall : PySem.W.nsIn K mainGlobals "BadCall" = some (some (.ref X_BadCall)))
    {X_NoName : Addr} (xa_NoName : PySem.W.nsIn K mainGlobals "NoName" = some (some (.ref X_NoName)))
    {X_Ended : Addr} (xa_Ended : PySem.W.nsIn K mainGlobals "Ended" = some (some (.ref X_Ended)))
    {X_TooLong : Addr} (xa_TooLong : PySem.W.nsIn K mainGlobals "TooLong" = some (some (.ref X_TooLong)))
    {X_Gone : Addr} (xa_Gone : PySem.W.nsIn K mainGlobals "Gone" = some (some (.ref X_Gone)))
    {X_NotBox : Addr} (xa_NotBox : PySem.W.nsIn K mainGlobals "NotBox" = some (some (.ref X_NotBox)))
    {X_Shared : Addr} (xa_Shared : PySem.W.nsIn K mainGlobals "Shared" = some (some (.ref X_Shared)))
    {X_BadBits : Addr} (xa_BadBits : PySem.W.nsIn K mainGlobals "BadBits" = some (some (.ref X_BadBits)))
    {X_Untrue : Addr} (xa_Untrue : PySem.W.nsIn K mainGlobals "Untrue" = some (some (.ref X_Untrue)))
    (na_BadRow_at : PySem.W.findIn K (.ref X_BadRow) "at" = some none)
    (e_BadRow : PySem.W.mroIn K X_BadRow (.ref X_GlassError) = some true)
    (kk_BadRow_BadRow : PySem.W.kitOne K (.ref X_BadRow) (.ref X_BadRow) = some true)
    (kv_BadRow : PySem.W.kitOne K (.ref X_BadRow) (.type "ValueError") = some true)
    (kya_BadRow : PySem.W.kitAny K (.ref X_BadRow) [.ref X_NoFunction, .ref X_TwiceNamed, .ref X_BadNest, .ref X_BadCall] = some false)
    (kyb_BadRow : PySem.W.kitAny K (.ref X_BadRow) [.ref X_NoName, .ref X_Ended, .ref X_TooLong, .ref X_Gone, .ref X_NotBox] = some false)
    (kyc_BadRow : PySem.W.kitAny K (.ref X_BadRow) [.ref X_Shared, .ref X_BadBits, .ref X_Untrue] = some false)
    {f0 : Addr} {oc0 kV0 dc0 pm0 cd0 ct0 : Value} {od0 an0 : Option Addr} {sl0 : Array (Option Value)} (a0 : PySem.W.findIn K (.ref X_BadRow) "__init__" = some (some (.ref f0))) (i0 : PySem.W.isFn K (.ref f0) = true) (l0 : K.lookup f0 = some ⟨oc0, od0, .func (PySem.W.fnOf "__init__" "BadRow.__init__" (defArgs s_BadRow_init) (defBody s_BadRow_init) (defScope s_BadRow_init) .none kV0 dc0 pm0 an0 cd0 ct0), sl0⟩) (c0 : PySem.W.codeIn K cd0 "BadRow.__init__" = true) (k0 : PySem.W.keepIn K (.ref f0) = true)
    {f1 : Addr} {oc1 kV1 dc1 pm1 cd1 ct1 : Value} {od1 an1 : Option Addr} {sl1 : Array (Option Value)} (a1 : PySem.W.nsIn K mainGlobals "is_name" = some (some (.ref f1))) (l1 : K.lookup f1 = some ⟨oc1, od1, .func (PySem.W.fnOf "is_name" "is_name" (defArgs s_is_name) (defBody s_is_name) (defScope s_is_name) .none kV1 dc1 pm1 an1 cd1 ct1), sl1⟩) (c1 : PySem.W.codeIn K cd1 "is_name" = true) (k1 : PySem.W.keepIn K (.ref f1) = true)
    {f2 : Addr} {oc2 kV2 dc2 pm2 cd2 ct2 : Value} {od2 an2 : Option Addr} {sl2 : Array (Option Value)} (a2 : PySem.W.nsIn K mainGlobals "atom_of" = some (some (.ref f2))) (l2 : K.lookup f2 = some ⟨oc2, od2, .func (PySem.W.fnOf "atom_of" "atom_of" (defArgs s_atom_of) (defBody s_atom_of) (defScope s_atom_of) .none kV2 dc2 pm2 an2 cd2 ct2), sl2⟩) (c2 : PySem.W.codeIn K cd2 "atom_of" = true) (k2 : PySem.W.keepIn K (.ref f2) = true)
    {f3 : Addr} {oc3 kV3 dc3 pm3 cd3 ct3 : Value} {od3 an3 : Option Addr} {sl3 : Array (Option Value)} (a3 : PySem.W.nsIn K mainGlobals "value_of" = some (some (.ref f3))) (l3 : K.lookup f3 = some ⟨oc3, od3, .func (PySem.W.fnOf "value_of" "value_of" (defArgs s_value_of) (defBody s_value_of) (defScope s_value_of) .none kV3 dc3 pm3 an3 cd3 ct3), sl3⟩) (c3 : PySem.W.codeIn K cd3 "value_of" = true) (k3 : PySem.W.keepIn K (.ref f3) = true)
    {f4 : Addr} {oc4 kV4 dc4 pm4 cd4 ct4 : Value} {od4 an4 : Option Addr} {sl4 : Array (Option Value)} (a4 : PySem.W.nsIn K mainGlobals "is_made_of" = some (some (.ref f4))) (l4 : K.lookup f4 = some ⟨oc4, od4, .func (PySem.W.fnOf "is_made_of" "is_made_of" (defArgs s_is_made_of) (defBody s_is_made_of) (defScope s_is_made_of) .none kV4 dc4 pm4 an4 cd4 ct4), sl4⟩) (c4 : PySem.W.codeIn K cd4 "is_made_of" = true) (k4 : PySem.W.keepIn K (.ref f4) = true)
    {f5 : Addr} {oc5 kV5 dc5 pm5 cd5 ct5 : Value} {od5 an5 : Option Addr} {sl5 : Array (Option Value)} (a5 : PySem.W.nsIn K mainGlobals "read" = some (some (.ref f5))) (l5 : K.lookup f5 = some ⟨oc5, od5, .func (PySem.W.fnOf "read" "read" (defArgs s_read) (defBody s_read) (defScope s_read) .none kV5 dc5 pm5 an5 cd5 ct5), sl5⟩) (c5 : PySem.W.codeIn K cd5 "read" = true) (k5 : PySem.W.keepIn K (.ref f5) = true)
    {f6 : Addr} {oc6 kV6 dc6 pm6 cd6 ct6 : Value} {od6 an6 : Option Addr} {sl6 : Array (Option Value)} (a6 : PySem.W.nsIn K mainGlobals "is_opening" = some (some (.ref f6))) (l6 : K.lookup f6 = some ⟨oc6, od6, .func (PySem.W.fnOf "is_opening" "is_opening" (defArgs s_is_opening) (defBody s_is_opening) (defScope s_is_opening) .none kV6 dc6 pm6 an6 cd6 ct6), sl6⟩) (c6 : PySem.W.codeIn K cd6 "is_opening" = true) (k6 : PySem.W.keepIn K (.ref f6) = true)
    {f7 : Addr} {oc7 kV7 dc7 pm7 cd7 ct7 : Value} {od7 an7 : Option Addr} {sl7 : Array (Option Value)} (a7 : PySem.W.nsIn K mainGlobals "function_of" = some (some (.ref f7))) (l7 : K.lookup f7 = some ⟨oc7, od7, .func (PySem.W.fnOf "function_of" "function_of" (defArgs s_function_of) (defBody s_function_of) (defScope s_function_of) .none kV7 dc7 pm7 an7 cd7 ct7), sl7⟩) (c7 : PySem.W.codeIn K cd7 "function_of" = true) (k7 : PySem.W.keepIn K (.ref f7) = true)
    {f8 : Addr} {oc8 kV8 dc8 pm8 cd8 ct8 : Value} {od8 an8 : Option Addr} {sl8 : Array (Option Value)} (a8 : PySem.W.nsIn K mainGlobals "row_of" = some (some (.ref f8))) (l8 : K.lookup f8 = some ⟨oc8, od8, .func (PySem.W.fnOf "row_of" "row_of" (defArgs s_row_of) (defBody s_row_of) (defScope s_row_of) .none kV8 dc8 pm8 an8 cd8 ct8), sl8⟩) (c8 : PySem.W.codeIn K cd8 "row_of" = true) (k8 : PySem.W.keepIn K (.ref f8) = true)
    {f9 : Addr} {oc9 kV9 dc9 pm9 cd9 ct9 : Value} {od9 an9 : Option Addr} {sl9 : Array (Option Value)} (a9 : PySem.W.nsIn K mainGlobals "with_args" = some (some (.ref f9))) (l9 : K.lookup f9 = some ⟨oc9, od9, .func (PySem.W.fnOf "with_args" "with_args" (defArgs s_with_args) (defBody s_with_args) (defScope s_with_args) .none kV9 dc9 pm9 an9 cd9 ct9), sl9⟩) (c9 : PySem.W.codeIn K cd9 "with_args" = true) (k9 : PySem.W.keepIn K (.ref f9) = true)
    {f10 : Addr} {oc10 kV10 dc10 pm10 cd10 ct10 : Value} {od10 an10 : Option Addr} {sl10 : Array (Option Value)} (a10 : PySem.W.nsIn K mainGlobals "parts_of" = some (some (.ref f10))) (l10 : K.lookup f10 = some ⟨oc10, od10, .func (PySem.W.fnOf "parts_of" "parts_of" (defArgs s_parts_of) (defBody s_parts_of) (defScope s_parts_of) .none kV10 dc10 pm10 an10 cd10 ct10), sl10⟩) (c10 : PySem.W.codeIn K cd10 "parts_of" = true) (k10 : PySem.W.keepIn K (.ref f10) = true)
    {f11 : Addr} {oc11 kV11 dc11 pm11 cd11 ct11 : Value} {od11 an11 : Option Addr} {sl11 : Array (Option Value)} (a11 : PySem.W.nsIn K mainGlobals "part_of" = some (some (.ref f11))) (l11 : K.lookup f11 = some ⟨oc11, od11, .func (PySem.W.fnOf "part_of" "part_of" (defArgs s_part_of) (defBody s_part_of) (defScope s_part_of) .none kV11 dc11 pm11 an11 cd11 ct11), sl11⟩) (c11 : PySem.W.codeIn K cd11 "part_of" = true) (k11 : PySem.W.keepIn K (.ref f11) = true)
    {f12 : Addr} {oc12 kV12 dc12 pm12 cd12 ct12 : Value} {od12 an12 : Option Addr} {sl12 : Array (Option Value)} (a12 : PySem.W.nsIn K mainGlobals "_law_cell" = some (some (.ref f12))) (l12 : K.lookup f12 = some ⟨oc12, od12, .func (PySem.W.fnOf "_law_cell" "_law_cell" (defArgs s_l_cell) (defBody s_l_cell) (defScope s_l_cell) .none kV12 dc12 pm12 an12 cd12 ct12), sl12⟩) (c12 : PySem.W.codeIn K cd12 "_law_cell" = true) (k12 : PySem.W.keepIn K (.ref f12) = true)
    {f13 : Addr} {oc13 kV13 dc13 pm13 cd13 ct13 : Value} {od13 an13 : Option Addr} {sl13 : Array (Option Value)} (a13 : PySem.W.nsIn K mainGlobals "_law_part" = some (some (.ref f13))) (l13 : K.lookup f13 = some ⟨oc13, od13, .func (PySem.W.fnOf "_law_part" "_law_part" (defArgs s_l_part) (defBody s_l_part) (defScope s_l_part) .none kV13 dc13 pm13 an13 cd13 ct13), sl13⟩) (c13 : PySem.W.codeIn K cd13 "_law_part" = true) (k13 : PySem.W.keepIn K (.ref f13) = true)
    {f14 : Addr} {oc14 kV14 dc14 pm14 cd14 ct14 : Value} {od14 an14 : Option Addr} {sl14 : Array (Option Value)} (a14 : PySem.W.nsIn K mainGlobals "_law_taken" = some (some (.ref f14))) (l14 : K.lookup f14 = some ⟨oc14, od14, .func (PySem.W.fnOf "_law_taken" "_law_taken" (defArgs s_l_taken) (defBody s_l_taken) (defScope s_l_taken) .none kV14 dc14 pm14 an14 cd14 ct14), sl14⟩) (c14 : PySem.W.codeIn K cd14 "_law_taken" = true) (k14 : PySem.W.keepIn K (.ref f14) = true)
    {f15 : Addr} {oc15 kV15 dc15 pm15 cd15 ct15 : Value} {od15 an15 : Option Addr} {sl15 : Array (Option Value)} (a15 : PySem.W.nsIn K mainGlobals "_law_name" = some (some (.ref f15))) (l15 : K.lookup f15 = some ⟨oc15, od15, .func (PySem.W.fnOf "_law_name" "_law_name" (defArgs s_l_name) (defBody s_l_name) (defScope s_l_name) .none kV15 dc15 pm15 an15 cd15 ct15), sl15⟩) (c15 : PySem.W.codeIn K cd15 "_law_name" = true) (k15 : PySem.W.keepIn K (.ref f15) = true)
    {f16 : Addr} {oc16 kV16 dc16 pm16 cd16 ct16 : Value} {od16 an16 : Option Addr} {sl16 : Array (Option Value)} (a16 : PySem.W.nsIn K mainGlobals "_law_atom" = some (some (.ref f16))) (l16 : K.lookup f16 = some ⟨oc16, od16, .func (PySem.W.fnOf "_law_atom" "_law_atom" (defArgs s_l_atom) (defBody s_l_atom) (defScope s_l_atom) .none kV16 dc16 pm16 an16 cd16 ct16), sl16⟩) (c16 : PySem.W.codeIn K cd16 "_law_atom" = true) (k16 : PySem.W.keepIn K (.ref f16) = true)
    {f17 : Addr} {oc17 kV17 dc17 pm17 cd17 ct17 : Value} {od17 an17 : Option Addr} {sl17 : Array (Option Value)} (a17 : PySem.W.nsIn K mainGlobals "_law_good" = some (some (.ref f17))) (l17 : K.lookup f17 = some ⟨oc17, od17, .func (PySem.W.fnOf "_law_good" "_law_good" (defArgs s_l_good) (defBody s_l_good) (defScope s_l_good) .none kV17 dc17 pm17 an17 cd17 ct17), sl17⟩) (c17 : PySem.W.codeIn K cd17 "_law_good" = true) (k17 : PySem.W.keepIn K (.ref f17) = true)
    {f18 : Addr} {oc18 kV18 dc18 pm18 cd18 ct18 : Value} {od18 an18 : Option Addr} {sl18 : Array (Option Value)} (a18 : PySem.W.nsIn K mainGlobals "_law_odd" = some (some (.ref f18))) (l18 : K.lookup f18 = some ⟨oc18, od18, .func (PySem.W.fnOf "_law_odd" "_law_odd" (defArgs s_l_odd) (defBody s_l_odd) (defScope s_l_odd) .none kV18 dc18 pm18 an18 cd18 ct18), sl18⟩) (c18 : PySem.W.codeIn K cd18 "_law_odd" = true) (k18 : PySem.W.keepIn K (.ref f18) = true)
    {f19 : Addr} {oc19 kV19 dc19 pm19 cd19 ct19 : Value} {od19 an19 : Option Addr} {sl19 : Array (Option Value)} (a19 : PySem.W.nsIn K mainGlobals "_law_sign" = some (some (.ref f19))) (l19 : K.lookup f19 = some ⟨oc19, od19, .func (PySem.W.fnOf "_law_sign" "_law_sign" (defArgs s_l_sign) (defBody s_l_sign) (defScope s_l_sign) .none kV19 dc19 pm19 an19 cd19 ct19), sl19⟩) (c19 : PySem.W.codeIn K cd19 "_law_sign" = true) (k19 : PySem.W.keepIn K (.ref f19) = true)
    {f20 : Addr} {oc20 kV20 dc20 pm20 cd20 ct20 : Value} {od20 an20 : Option Addr} {sl20 : Array (Option Value)} (a20 : PySem.W.nsIn K mainGlobals "_law_spoilt" = some (some (.ref f20))) (l20 : K.lookup f20 = some ⟨oc20, od20, .func (PySem.W.fnOf "_law_spoilt" "_law_spoilt" (defArgs s_l_spoilt) (defBody s_l_spoilt) (defScope s_l_spoilt) .none kV20 dc20 pm20 an20 cd20 ct20), sl20⟩) (c20 : PySem.W.codeIn K cd20 "_law_spoilt" = true) (k20 : PySem.W.keepIn K (.ref f20) = true)
    {f21 : Addr} {oc21 kV21 dc21 pm21 cd21 ct21 : Value} {od21 an21 : Option Addr} {sl21 : Array (Option Value)} (a21 : PySem.W.nsIn K mainGlobals "_law_sort" = some (some (.ref f21))) (l21 : K.lookup f21 = some ⟨oc21, od21, .func (PySem.W.fnOf "_law_sort" "_law_sort" (defArgs s_l_sort) (defBody s_l_sort) (defScope s_l_sort) .none kV21 dc21 pm21 an21 cd21 ct21), sl21⟩) (c21 : PySem.W.codeIn K cd21 "_law_sort" = true) (k21 : PySem.W.keepIn K (.ref f21) = true)
    {f22 : Addr} {oc22 kV22 dc22 pm22 cd22 ct22 : Value} {od22 an22 : Option Addr} {sl22 : Array (Option Value)} (a22 : PySem.W.nsIn K mainGlobals "_law_worth" = some (some (.ref f22))) (l22 : K.lookup f22 = some ⟨oc22, od22, .func (PySem.W.fnOf "_law_worth" "_law_worth" (defArgs s_l_worth) (defBody s_l_worth) (defScope s_l_worth) .none kV22 dc22 pm22 an22 cd22 ct22), sl22⟩) (c22 : PySem.W.codeIn K cd22 "_law_worth" = true) (k22 : PySem.W.keepIn K (.ref f22) = true)
    {f23 : Addr} {oc23 kV23 dc23 pm23 cd23 ct23 : Value} {od23 an23 : Option Addr} {sl23 : Array (Option Value)} (a23 : PySem.W.nsIn K mainGlobals "_law_row" = some (some (.ref f23))) (l23 : K.lookup f23 = some ⟨oc23, od23, .func (PySem.W.fnOf "_law_row" "_law_row" (defArgs s_l_row) (defBody s_l_row) (defScope s_l_row) .none kV23 dc23 pm23 an23 cd23 ct23), sl23⟩) (c23 : PySem.W.codeIn K cd23 "_law_row" = true) (k23 : PySem.W.keepIn K (.ref f23) = true)
    {f24 : Addr} {oc24 kV24 dc24 pm24 cd24 ct24 : Value} {od24 an24 : Option Addr} {sl24 : Array (Option Value)} (a24 : PySem.W.nsIn K mainGlobals "_law_due" = some (some (.ref f24))) (l24 : K.lookup f24 = some ⟨oc24, od24, .func (PySem.W.fnOf "_law_due" "_law_due" (defArgs s_l_due) (defBody s_l_due) (defScope s_l_due) .none kV24 dc24 pm24 an24 cd24 ct24), sl24⟩) (c24 : PySem.W.codeIn K cd24 "_law_due" = true) (k24 : PySem.W.keepIn K (.ref f24) = true)
    {f25 : Addr} {oc25 kV25 dc25 pm25 cd25 ct25 : Value} {od25 an25 : Option Addr} {sl25 : Array (Option Value)} (a25 : PySem.W.nsIn K mainGlobals "_law_alike" = some (some (.ref f25))) (l25 : K.lookup f25 = some ⟨oc25, od25, .func (PySem.W.fnOf "_law_alike" "_law_alike" (defArgs s_l_alike) (defBody s_l_alike) (defScope s_l_alike) .none kV25 dc25 pm25 an25 cd25 ct25), sl25⟩) (c25 : PySem.W.codeIn K cd25 "_law_alike" = true) (k25 : PySem.W.keepIn K (.ref f25) = true)
    {f26 : Addr} {oc26 kV26 dc26 pm26 cd26 ct26 : Value} {od26 an26 : Option Addr} {sl26 : Array (Option Value)} (a26 : PySem.W.nsIn K mainGlobals "_law_other" = some (some (.ref f26))) (l26 : K.lookup f26 = some ⟨oc26, od26, .func (PySem.W.fnOf "_law_other" "_law_other" (defArgs s_l_other) (defBody s_l_other) (defScope s_l_other) .none kV26 dc26 pm26 an26 cd26 ct26), sl26⟩) (c26 : PySem.W.codeIn K cd26 "_law_other" = true) (k26 : PySem.W.keepIn K (.ref f26) = true)
    {f27 : Addr} {oc27 kV27 dc27 pm27 cd27 ct27 : Value} {od27 an27 : Option Addr} {sl27 : Array (Option Value)} (a27 : PySem.W.nsIn K mainGlobals "_law_right" = some (some (.ref f27))) (l27 : K.lookup f27 = some ⟨oc27, od27, .func (PySem.W.fnOf "_law_right" "_law_right" (defArgs s_l_right) (defBody s_l_right) (defScope s_l_right) .none kV27 dc27 pm27 an27 cd27 ct27), sl27⟩) (c27 : PySem.W.codeIn K cd27 "_law_right" = true) (k27 : PySem.W.keepIn K (.ref f27) = true)
    {f28 : Addr} {oc28 kV28 dc28 pm28 cd28 ct28 : Value} {od28 an28 : Option Addr} {sl28 : Array (Option Value)} (a28 : PySem.W.nsIn K mainGlobals "law" = some (some (.ref f28))) (l28 : K.lookup f28 = some ⟨oc28, od28, .func (PySem.W.fnOf "law" "law" (defArgs s_law) (defBody s_law) (defScope s_law) .none kV28 dc28 pm28 an28 cd28 ct28), sl28⟩) (c28 : PySem.W.codeIn K cd28 "law" = true) (k28 : PySem.W.keepIn K (.ref f28) = true)
    {tk0 : Tok} (w0 : PySem.W.nsIn K mainGlobals "WIDE" = some (some (.int 281474976710656 tk0)))
    {tk1 : Tok} (w1 : PySem.W.nsIn K mainGlobals "LETTERS" = some (some (.str K11.letters tk1)))
    {tk2 : Tok} (w2 : PySem.W.nsIn K mainGlobals "FIGURES" = some (some (.str K11.figs tk2)))
    {tk3 : Tok} (w3 : PySem.W.nsIn K mainGlobals "MOST_LETTERS" = some (some (.int 8 tk3)))
    {tk4 : Tok} (w4 : PySem.W.nsIn K mainGlobals "MOST_FIGURES" = some (some (.int 15 tk4)))
    {tk5 : Tok} (w5 : PySem.W.nsIn K mainGlobals "MOST_ARGS" = some (some (.int 6 tk5)))
    {aT0 : Addr} {odT0 : Option Addr} {itT0 : Array Value} {nT0 : Nat} {slT0 : Array (Option Value)} (q0 : PySem.W.nsIn K mainGlobals "TAKEN_WORDS" = some (some (.ref aT0))) (m0 : K.lookup aT0 = some ⟨.type "tuple", odT0, .seq itT0 nT0, slT0⟩) (v0 : Vals (K11.taken.map V.str) itT0.toList) (s0 : itT0.size ≤ sizeLine)
    {aT1 : Addr} {odT1 : Option Addr} {itT1 : Array Value} {nT1 : Nat} {slT1 : Array (Option Value)} (q1 : PySem.W.nsIn K mainGlobals "SIGNS" = some (some (.ref aT1))) (m1 : K.lookup aT1 = some ⟨.type "tuple", odT1, .seq itT1 nT1, slT1⟩) (v1 : Vals (K14.signs.map V.str) itT1.toList) (s1 : itT1.size ≤ sizeLine)
    {aD0 : Addr} (qD0 : PySem.W.nsIn K mainGlobals "FORMS" = some (some (.ref aD0))) (mD0 : PyProof.Rows.KTD.tabLook (twoLook K) (fun a => K.lookup a) aD0 K14.formsV = true)
    (z_len : PySem.W.nsIn K mainGlobals "len" = some none)
    (z_list : PySem.W.nsIn K mainGlobals "list" = some none)
    (z_tuple : PySem.W.nsIn K mainGlobals "tuple" = some none)
    (z_isinstance : PySem.W.nsIn K mainGlobals "isinstance" = some none)
    (z_range : PySem.W.nsIn K mainGlobals "range" = some none)
    (z_all : PySem.W.nsIn K mainGlobals "all" = some none)
    (z_enumerate : PySem.W.nsIn K mainGlobals "enumerate" = some none)
    (z_dict : PySem.W.nsIn K mainGlobals "dict" = some none)
    (z_str : PySem.W.nsIn K mainGlobals "str" = some none)
    (z_zip : PySem.W.nsIn K mainGlobals "zip" = some none)
    (z_int : PySem.W.nsIn K mainGlobals "int" = some none)
    (z_bool : PySem.W.nsIn K mainGlobals "bool" = some none)
    (z_min : PySem.W.nsIn K mainGlobals "min" = some none)
    (z_max : PySem.W.nsIn K mainGlobals "max" = some none)
    (z_ValueError : PySem.W.nsIn K mainGlobals "ValueError" = some none)
    : ∃ t, Txt K mg t := by
  refine ⟨⟨X_GlassError, X_BadRow, X_NoFunction, X_TwiceNamed, X_BadNest, X_BadCall, X_NoName, X_Ended, X_TooLong, X_Gone, X_NotBox, X_Shared, X_BadBits, X_Untrue, f0, PySem.W.fnOf "__init__" "BadRow.__init__" (defArgs s_BadRow_init) (defBody s_BadRow_init) (defScope s_BadRow_init) .none kV0 dc0 pm0 an0 cd0 ct0, f1, PySem.W.fnOf "is_name" "is_name" (defArgs s_is_name) (defBody s_is_name) (defScope s_is_name) .none kV1 dc1 pm1 an1 cd1 ct1, f2, PySem.W.fnOf "atom_of" "atom_of" (defArgs s_atom_of) (defBody s_atom_of) (defScope s_atom_of) .none kV2 dc2 pm2 an2 cd2 ct2, f3, PySem.W.fnOf "value_of" "value_of" (defArgs s_value_of) (defBody s_value_of) (defScope s_value_of) .none kV3 dc3 pm3 an3 cd3 ct3, f4, PySem.W.fnOf "is_made_of" "is_made_of" (defArgs s_is_made_of) (defBody s_is_made_of) (defScope s_is_made_of) .none kV4 dc4 pm4 an4 cd4 ct4, f5, PySem.W.fnOf "read" "read" (defArgs s_read) (defBody s_read) (defScope s_read) .none kV5 dc5 pm5 an5 cd5 ct5, f6, PySem.W.fnOf "is_opening" "is_opening" (defArgs s_is_opening) (defBody s_is_opening) (defScope s_is_opening) .none kV6 dc6 pm6 an6 cd6 ct6, f7, PySem.W.fnOf "function_of" "function_of" (defArgs s_function_of) (defBody s_function_of) (defScope s_function_of) .none kV7 dc7 pm7 an7 cd7 ct7, f8, PySem.W.fnOf "row_of" "row_of" (defArgs s_row_of) (defBody s_row_of) (defScope s_row_of) .none kV8 dc8 pm8 an8 cd8 ct8, f9, PySem.W.fnOf "with_args" "with_args" (defArgs s_with_args) (defBody s_with_args) (defScope s_with_args) .none kV9 dc9 pm9 an9 cd9 ct9, f10, PySem.W.fnOf "parts_of" "parts_of" (defArgs s_parts_of) (defBody s_parts_of) (defScope s_parts_of) .none kV10 dc10 pm10 an10 cd10 ct10, f11, PySem.W.fnOf "part_of" "part_of" (defArgs s_part_of) (defBody s_part_of) (defScope s_part_of) .none kV11 dc11 pm11 an11 cd11 ct11, f12, PySem.W.fnOf "_law_cell" "_law_cell" (defArgs s_l_cell) (defBody s_l_cell) (defScope s_l_cell) .none kV12 dc12 pm12 an12 cd12 ct12, f13, PySem.W.fnOf "_law_part" "_law_part" (defArgs s_l_part) (defBody s_l_part) (defScope s_l_part) .none kV13 dc13 pm13 an13 cd13 ct13, f14, PySem.W.fnOf "_law_taken" "_law_taken" (defArgs s_l_taken) (defBody s_l_taken) (defScope s_l_taken) .none kV14 dc14 pm14 an14 cd14 ct14, f15, PySem.W.fnOf "_law_name" "_law_name" (defArgs s_l_name) (defBody s_l_name) (defScope s_l_name) .none kV15 dc15 pm15 an15 cd15 ct15, f16, PySem.W.fnOf "_law_atom" "_law_atom" (defArgs s_l_atom) (defBody s_l_atom) (defScope s_l_atom) .none kV16 dc16 pm16 an16 cd16 ct16, f17, PySem.W.fnOf "_law_good" "_law_good" (defArgs s_l_good) (defBody s_l_good) (defScope s_l_good) .none kV17 dc17 pm17 an17 cd17 ct17, f18, PySem.W.fnOf "_law_odd" "_law_odd" (defArgs s_l_odd) (defBody s_l_odd) (defScope s_l_odd) .none kV18 dc18 pm18 an18 cd18 ct18, f19, PySem.W.fnOf "_law_sign" "_law_sign" (defArgs s_l_sign) (defBody s_l_sign) (defScope s_l_sign) .none kV19 dc19 pm19 an19 cd19 ct19, f20, PySem.W.fnOf "_law_spoilt" "_law_spoilt" (defArgs s_l_spoilt) (defBody s_l_spoilt) (defScope s_l_spoilt) .none kV20 dc20 pm20 an20 cd20 ct20, f21, PySem.W.fnOf "_law_sort" "_law_sort" (defArgs s_l_sort) (defBody s_l_sort) (defScope s_l_sort) .none kV21 dc21 pm21 an21 cd21 ct21, f22, PySem.W.fnOf "_law_worth" "_law_worth" (defArgs s_l_worth) (defBody s_l_worth) (defScope s_l_worth) .none kV22 dc22 pm22 an22 cd22 ct22, f23, PySem.W.fnOf "_law_row" "_law_row" (defArgs s_l_row) (defBody s_l_row) (defScope s_l_row) .none kV23 dc23 pm23 an23 cd23 ct23, f24, PySem.W.fnOf "_law_due" "_law_due" (defArgs s_l_due) (defBody s_l_due) (defScope s_l_due) .none kV24 dc24 pm24 an24 cd24 ct24, f25, PySem.W.fnOf "_law_alike" "_law_alike" (defArgs s_l_alike) (defBody s_l_alike) (defScope s_l_alike) .none kV25 dc25 pm25 an25 cd25 ct25, f26, PySem.W.fnOf "_law_other" "_law_other" (defArgs s_l_other) (defBody s_l_other) (defScope s_l_other) .none kV26 dc26 pm26 an26 cd26 ct26, f27, PySem.W.fnOf "_law_right" "_law_right" (defArgs s_l_right) (defBody s_l_right) (defScope s_l_right) .none kV27 dc27 pm27 an27 cd27 ct27, f28, PySem.W.fnOf "law" "law" (defArgs s_law) (defBody s_law) (defScope s_law) .none kV28 dc28 pm28 an28 cd28 ct28, aT0, aT1, aD0⟩, ?_⟩
  have bl : ∀ (s : Shared) (u : Value), BindsTo s (PySem.W.fnOf "law" "law" (defArgs s_law) (defBody s_law) (defScope s_law) .none kV28 dc28 pm28 an28 cd28 ct28) ⟨[u], []⟩ [("_law_script", u)] := fun s u => .of_eq rfl
  exact ⟨(xClsOk_mk X G xa_GlassError xl_GlassError xv_GlassError xk_GlassError xs_GlassError xg_GlassError xt_GlassError xc_GlassError sg0 tkX0),
    (xClsOk_mk X G xa_BadRow xl_BadRow xv_BadRow xk_BadRow xs_BadRow xg_BadRow xt_BadRow xc_BadRow sg0 tkX0),
    (PySem.W.mg_of X G xa_NoFunction),
    (PySem.W.mg_of X G xa_TwiceNamed),
    (PySem.W.mg_of X G xa_BadNest),
    (PySem.W.mg_of X G xa_BadCall),
    (PySem.W.mg_of X G xa_NoName),
    (PySem.W.mg_of X G xa_Ended),
    (PySem.W.mg_of X G xa_TooLong),
    (PySem.W.mg_of X G xa_Gone),
    (PySem.W.mg_of X G xa_NotBox),
    (PySem.W.mg_of X G xa_Shared),
    (PySem.W.mg_of X G xa_BadBits),
    (PySem.W.mg_of X G xa_Untrue),
    (na_BadRow_at),
    (e_BadRow),
    (kk_BadRow_BadRow),
    (kv_BadRow),
    (kya_BadRow),
    (kyb_BadRow),
    (kyc_BadRow),
    (xIniOk_mk a0 i0 l0 c0 k0 fun _ _ _ _ _ _ us hl => match us, hl with | [_, _], _ => rfl),
    (defOk_mk X G a1 l1 c1 k1 fun _ _ _ _ _ _ us hl => match us, hl with | [_], _ => rfl),
    (defOk_mk X G a2 l2 c2 k2 fun _ _ _ _ _ _ us hl => match us, hl with | [_], _ => rfl),
    (defOk_mk X G a3 l3 c3 k3 fun _ _ _ _ _ _ us hl => match us, hl with | [_], _ => rfl),
    (defOk_mk X G a4 l4 c4 k4 fun _ _ _ _ _ _ us hl => match us, hl with | [_, _, _], _ => rfl),
    (defOk_mk X G a5 l5 c5 k5 fun _ _ _ _ _ _ us hl => match us, hl with | [_], _ => rfl),
    (defOk_mk X G a6 l6 c6 k6 fun _ _ _ _ _ _ us hl => match us, hl with | [_], _ => rfl),
    (defOk_mk X G a7 l7 c7 k7 fun _ _ _ _ _ _ us hl => match us, hl with | [_, _], _ => rfl),
    (defOk_mk X G a8 l8 c8 k8 fun _ _ _ _ _ _ us hl => match us, hl with | [_], _ => rfl),
    (defOk_mk X G a9 l9 c9 k9 fun _ _ _ _ _ _ us hl => match us, hl with | [_, _], _ => rfl),
    (defOk_mk X G a10 l10 c10 k10 fun _ _ _ _ _ _ us hl => match us, hl with | [_, _], _ => rfl),
    (defOk_mk X G a11 l11 c11 k11 fun _ _ _ _ _ _ us hl => match us, hl with | [_, _], _ => rfl),
    (defOk_mk X G a12 l12 c12 k12 fun _ _ _ _ _ _ us hl => match us, hl with | [_, _], _ => rfl),
    (defOk_mk X G a13 l13 c13 k13 fun _ _ _ _ _ _ us hl => match us, hl with | [_, _, _], _ => rfl),
    (defOk_mk X G a14 l14 c14 k14 fun _ _ _ _ _ _ us hl => match us, hl with | [], _ => rfl),
    (defOk_mk X G a15 l15 c15 k15 fun _ _ _ _ _ _ us hl => match us, hl with | [_, _], _ => rfl),
    (defOk_mk X G a16 l16 c16 k16 fun _ _ _ _ _ _ us hl => match us, hl with | [_, _], _ => rfl),
    (defOk_mk X G a17 l17 c17 k17 fun _ _ _ _ _ _ us hl => match us, hl with | [_, _, _], _ => rfl),
    (defOk_mk X G a18 l18 c18 k18 fun _ _ _ _ _ _ us hl => match us, hl with | [_], _ => rfl),
    (defOk_mk X G a19 l19 c19 k19 fun _ _ _ _ _ _ us hl => match us, hl with | [_], _ => rfl),
    (defOk_mk X G a20 l20 c20 k20 fun _ _ _ _ _ _ us hl => match us, hl with | [_, _], _ => rfl),
    (defOk_mk X G a21 l21 c21 k21 fun _ _ _ _ _ _ us hl => match us, hl with | [_], _ => rfl),
    (defOk_mk X G a22 l22 c22 k22 fun _ _ _ _ _ _ us hl => match us, hl with | [_], _ => rfl),
    (defOk_mk X G a23 l23 c23 k23 fun _ _ _ _ _ _ us hl => match us, hl with | [_, _], _ => rfl),
    (defOk_mk X G a24 l24 c24 k24 fun _ _ _ _ _ _ us hl => match us, hl with | [_], _ => rfl),
    (defOk_mk X G a25 l25 c25 k25 fun _ _ _ _ _ _ us hl => match us, hl with | [_, _], _ => rfl),
    (defOk_mk X G a26 l26 c26 k26 fun _ _ _ _ _ _ us hl => match us, hl with | [_], _ => rfl),
    (defOk_mk X G a27 l27 c27 k27 fun _ _ _ _ _ _ us hl => match us, hl with | [_], _ => rfl),
    (defOk_mk X G a28 l28 c28 k28 fun _ _ _ _ _ _ us hl => match us, hl with | [_], _ => rfl),
    ⟨_, PySem.W.mg_of X G w0⟩,
    ⟨_, PySem.W.mg_of X G w1⟩,
    ⟨_, PySem.W.mg_of X G w2⟩,
    ⟨_, PySem.W.mg_of X G w3⟩,
    ⟨_, PySem.W.mg_of X G w4⟩,
    ⟨_, PySem.W.mg_of X G w5⟩,
    PySem.W.mg_of X G q0,
    (fun H => .inr ⟨_, itT0, nT0, m0, rfl, rfl, s0, v0⟩),
    PySem.W.mg_of X G q1,
    (fun H => .inr ⟨_, itT1, nT1, m1, rfl, rfl, s1, v1⟩),
    PySem.W.mg_of X G qD0,
    tabK2_of_look mD0,
    PySem.W.mg_none_of X G z_len,
    PySem.W.mg_none_of X G z_list,
    PySem.W.mg_none_of X G z_tuple,
    PySem.W.mg_none_of X G z_isinstance,
    PySem.W.mg_none_of X G z_range,
    PySem.W.mg_none_of X G z_all,
    PySem.W.mg_none_of X G z_enumerate,
    PySem.W.mg_none_of X G z_dict,
    PySem.W.mg_none_of X G z_str,
    PySem.W.mg_none_of X G z_zip,
    PySem.W.mg_none_of X G z_int,
    PySem.W.mg_none_of X G z_bool,
    PySem.W.mg_none_of X G z_min,
    PySem.W.mg_none_of X G z_max,
    PySem.W.mg_none_of X G z_ValueError,
    bl⟩
end K15
open PySem PySem.W PyProof.Rows
set_option maxRecDepth 100000 in
set_option maxHeartbeats 0 in
theorem PySem.Challenge.cw_stopglass_k15_rows_that_are_refused_holds : PySem.Challenge.rw_stopglass_k15_rows_that_are_refused.Holds := by
  refine Hd.pk.2 ?_
  unfold Hd.pk
  dsimp only
  k_fill
  refine L2.walk_ofK (l := PySem.Challenge.rw_stopglass_k15_rows_that_are_refused) (n := 63) (k := 10) (x := "_law_script") (CX := L2.CX0) (sp := K15.sp_law) rfl (by decide) rfl ⟨rfl, by decide, by decide⟩ (fun w h Y => PySem.W.kIn_of Y) ?F ?S ?C
  case F =>
    intro w mg fa h KX G hmg
    have T : ∃ t, K15.Txt (L2.KOf KX) mg t := by
      dsimp only [L2.KOf]
      refine' K15.txt_mk KX G ?xa_GlassError ?xl_GlassError ?xv_GlassError ?xk_GlassError ?xs_GlassError ?xg_GlassError ?xt_GlassError ?xc_GlassError ?xa_BadRow ?xl_BadRow ?xv_BadRow ?xk_BadRow ?xs_BadRow ?xg_BadRow ?xt_BadRow ?xc_BadRow ?sg0 ?tkX0 ?xa_NoFunction ?xa_TwiceNamed ?xa_BadNest ?xa_BadCall ?xa_NoName ?xa_Ended ?xa_TooLong ?xa_Gone ?xa_NotBox ?xa_Shared ?xa_BadBits ?xa_Untrue ?na_BadRow_at ?e_BadRow ?kk_BadRow_BadRow ?kv_BadRow ?kya_BadRow ?kyb_BadRow ?kyc_BadRow ?a0 ?i0 ?l0 ?c0 ?k0 ?a1 ?l1 ?c1 ?k1 ?a2 ?l2 ?c2 ?k2 ?a3 ?l3 ?c3 ?k3 ?a4 ?l4 ?c4 ?k4 ?a5 ?l5 ?c5 ?k5 ?a6 ?l6 ?c6 ?k6 ?a7 ?l7 ?c7 ?k7 ?a8 ?l8 ?c8 ?k8 ?a9 ?l9 ?c9 ?k9 ?a10 ?l10 ?c10 ?k10 ?a11 ?l11 ?c11 ?k11 ?a12 ?l12 ?c12 ?k12 ?a13 ?l13 ?c13 ?k13 ?a14 ?l14 ?c14 ?k14 ?a15 ?l15 ?c15 ?k15 ?a16 ?l16 ?c16 ?k16 ?a17 ?l17 ?c17 ?k17 ?a18 ?l18 ?c18 ?k18 ?a19 ?l19 ?c19 ?k19 ?a20 ?l20 ?c20 ?k20 ?a21 ?l21 ?c21 ?k21 ?a22 ?l22 ?c22 ?k22 ?a23 ?l23 ?c23 ?k23 ?a24 ?l24 ?c24 ?k24 ?a25 ?l25 ?c25 ?k25 ?a26 ?l26 ?c26 ?k26 ?a27 ?l27 ?c27 ?k27 ?a28 ?l28 ?c28 ?k28 ?w0 ?w1 ?w2 ?w3 ?w4 ?w5 ?q0 ?m0 ?v0 ?s0 ?q1 ?m1 ?v1 ?s1 ?qD0 ?mD0 ?z_len ?z_list ?z_tuple ?z_isinstance ?z_range ?z_all ?z_enumerate ?z_dict ?z_str ?z_zip ?z_int ?z_bool ?z_min ?z_max ?z_ValueError
      (case xa_GlassError => k_is)
      (case xl_GlassError => k_is)
      (case xv_GlassError => first | k_is | kernel_rfl)
      (case xk_GlassError => k_is)
      (case xs_GlassError => k_is)
      (case xg_GlassError => k_is)
      (case xt_GlassError => k_is)
      (case xc_GlassError => k_is)
      (case xa_BadRow => k_is)
      (case xl_BadRow => k_is)
      (case xv_BadRow => first | k_is | kernel_rfl)
      (case xk_BadRow => k_is)
      (case xs_BadRow => k_is)
      (case xg_BadRow => k_is)
      (case xt_BadRow => k_is)
      (case xc_BadRow => k_is)
      (case sg0 => first | k_is | kernel_rfl)
      (case tkX0 => first | k_is | kernel_rfl)
      (case xa_NoFunction => k_is)
      (case xa_TwiceNamed => k_is)
      (case xa_BadNest => k_is)
      (case xa_BadCall => k_is)
      (case xa_NoName => k_is)
      (case xa_Ended => k_is)
      (case xa_TooLong => k_is)
      (case xa_Gone => k_is)
      (case xa_NotBox => k_is)
      (case xa_Shared => k_is)
      (case xa_BadBits => k_is)
      (case xa_Untrue => k_is)
      (case na_BadRow_at => first | k_is | kernel_rfl)
      (case e_BadRow => first | k_is | kernel_rfl)
      (case kk_BadRow_BadRow => first | k_is | kernel_rfl)
      (case kv_BadRow => first | k_is | kernel_rfl)
      (case kya_BadRow => first | k_is | kernel_rfl)
      (case kyb_BadRow => first | k_is | kernel_rfl)
      (case kyc_BadRow => first | k_is | kernel_rfl)
      (case a0 => k_is)
      (case i0 => k_is)
      (case l0 => k_is)
      (case c0 => k_is)
      (case k0 => k_is)
      (case a1 => k_is)
      (case l1 => k_is)
      (case c1 => k_is)
      (case k1 => k_is)
      (case a2 => k_is)
      (case l2 => k_is)
      (case c2 => k_is)
      (case k2 => k_is)
      (case a3 => k_is)
      (case l3 => k_is)
      (case c3 => k_is)
      (case k3 => k_is)
      (case a4 => k_is)
      (case l4 => k_is)
      (case c4 => k_is)
      (case k4 => k_is)
      (case a5 => k_is)
      (case l5 => k_is)
      (case c5 => k_is)
      (case k5 => k_is)
      (case a6 => k_is)
      (case l6 => k_is)
      (case c6 => k_is)
      (case k6 => k_is)
      (case a7 => k_is)
      (case l7 => k_is)
      (case c7 => k_is)
      (case k7 => k_is)
      (case a8 => k_is)
      (case l8 => k_is)
      (case c8 => k_is)
      (case k8 => k_is)
      (case a9 => k_is)
      (case l9 => k_is)
      (case c9 => k_is)
      (case k9 => k_is)
      (case a10 => k_is)
      (case l10 => k_is)
      (case c10 => k_is)
      (case k10 => k_is)
      (case a11 => k_is)
      (case l11 => k_is)
      (case c11 => k_is)
      (case k11 => k_is)
      (case a12 => k_is)
      (case l12 => k_is)
      (case c12 => k_is)
      (case k12 => k_is)
      (case a13 => k_is)
      (case l13 => k_is)
      (case c13 => k_is)
      (case k13 => k_is)
      (case a14 => k_is)
      (case l14 => k_is)
      (case c14 => k_is)
      (case k14 => k_is)
      (case a15 => k_is)
      (case l15 => k_is)
      (case c15 => k_is)
      (case k15 => k_is)
      (case a16 => k_is)
      (case l16 => k_is)
      (case c16 => k_is)
      (case k16 => k_is)
      (case a17 => k_is)
      (case l17 => k_is)
      (case c17 => k_is)
      (case k17 => k_is)
      (case a18 => k_is)
      (case l18 => k_is)
      (case c18 => k_is)
      (case k18 => k_is)
      (case a19 => k_is)
      (case l19 => k_is)
      (case c19 => k_is)
      (case k19 => k_is)
      (case a20 => k_is)
      (case l20 => k_is)
      (case c20 => k_is)
      (case k20 => k_is)
      (case a21 => k_is)
      (case l21 => k_is)
      (case c21 => k_is)
      (case k21 => k_is)
      (case a22 => k_is)
      (case l22 => k_is)
      (case c22 => k_is)
      (case k22 => k_is)
      (case a23 => k_is)
      (case l23 => k_is)
      (case c23 => k_is)
      (case k23 => k_is)
      (case a24 => k_is)
      (case l24 => k_is)
      (case c24 => k_is)
      (case k24 => k_is)
      (case a25 => k_is)
      (case l25 => k_is)
      (case c25 => k_is)
      (case k25 => k_is)
      (case a26 => k_is)
      (case l26 => k_is)
      (case c26 => k_is)
      (case k26 => k_is)
      (case a27 => k_is)
      (case l27 => k_is)
      (case c27 => k_is)
      (case k27 => k_is)
      (case a28 => k_is)
      (case l28 => k_is)
      (case c28 => k_is)
      (case k28 => k_is)
      (case w0 => k_is)
      (case w1 => k_is)
      (case w2 => k_is)
      (case w3 => k_is)
      (case w4 => k_is)
      (case w5 => k_is)
      (case q0 => k_is)
      (case m0 => k_is)
      (case v0 => (repeat (first | exact .nil | refine .cons ⟨_, rfl⟩ ?_)))
      (case s0 => decide)
      (case q1 => k_is)
      (case m1 => k_is)
      (case v1 => (repeat (first | exact .nil | refine .cons ⟨_, rfl⟩ ?_)))
      (case s1 => decide)
      (case qD0 => k_is)
      (case mD0 => kernel_rfl)
      (case z_len => k_is)
      (case z_list => k_is)
      (case z_tuple => k_is)
      (case z_isinstance => k_is)
      (case z_range => k_is)
      (case z_all => k_is)
      (case z_enumerate => k_is)
      (case z_dict => k_is)
      (case z_str => k_is)
      (case z_zip => k_is)
      (case z_int => k_is)
      (case z_bool => k_is)
      (case z_min => k_is)
      (case z_max => k_is)
      (case z_ValueError => k_is)
    obtain ⟨t, T⟩ := T
    have e0 := hmg.symm.trans T.law.g
    cases e0
    exact ⟨t.d_law, T.bl, fun base kb nb => K15.ok_law T⟩
  case S => exact fun K H a ns hl hO hS => ⟨a, ns, rfl, hS, hl, fun _ => rfl⟩
  case C => exact fun _ _ _ _ z => z


